import Derived.Test.YtfcgnpchbcmdeaaGreatZsbb
open List renaming drop->ZF,getD->Z,length->F,take->ZU,replicate->Y6
open _root_ renaming Int->E,List->U,Nat->H,rfl->X,Array->YZ,Bool->ZG,ByteArray->ZC,Option->Y0
open Option renaming some->T,none->ZP
open Int renaming toNat->ZL
open Bool renaming true->Z0,false->ZZ
open Go renaming Value->ZY,World->ZT,strOfNums->ZB,madeCells->YV
open Go.Value renaming ownBlock->ZW,bool->ZR,int->ZX,slice->ZH,agg->Y9,string->YW
open Go.World renaming setCell->ZO,ownsRow->ZD,grownBy->Y3,cell?->ZV,frozen?->YT,alloc->ZN,drew->YY,drewN->Y1
open Or renaming inl->ZM,inr->ZJ
open Array renaming setIfInBounds->YS,size->B
open Decidable renaming decide->ZE
open ByteArray renaming size->ZK
open Go.IntKind renaming i64->ZQ
open Go.Ending renaming returned->ZI
open Go.Proofs renaming intOf->ZA
namespace Go.Proofs.YtfcgnpchbcmdeaaGreat
set_option linter.all false
set_option maxRecDepth 100000
set_option maxHeartbeats 8000000
open Go.RowKit List Nat Go.World Go.Proofs.Tryz Go.Value Go.IntKind Go.Lib Go.Region
def Zns{c}:∀b∈(Zl c).f,-2147483648<=b/\b<=2147483647:=λb a=>by unfold Zl at a;split at a;simp at a;simp only[Tn,mem_map] at a;obtain⟨d,_,rfl⟩:=a;have:=Zai (ZF 3 c|>.drop (4*d));omega
def ZfY{g:U E}:∀c {b:U KS} {e:U E},Xh g c=T (b,e)->∀K∈b,∀h∈K.e.f,-2147483648<=h/\h<=2147483647
 | 0,b,e,a=>by
  simp only[Xh,Option.some.injEq,Prod.mk.injEq] at a
  grind
 | c + 1,b,e,a=>by
  simp only[Xh] at a
  cases f:Xh g c with
  |none=>grind
  | some i=>
   obtain⟨j,k⟩:=i;rw[f] at a;simp only at a;split at a
   ·simp only[Option.some.injEq,Prod.mk.injEq] at a;rw[<- a.1];intro K hK
    rcases mem_append.1 hK with d|d
    exact ZfY c f K d;rw[mem_singleton.1 d];exact Zns
   cases a
def Zie{b m:U E}{d:Ft}(a:Ma b=T (d,m)):∀K∈d.g,∀i∈K.e.f,-2147483648<=i/\i<=2147483647:=by
 unfold Ma at a;split at a
 ·cases a
 cases f:Xh (ZF 4 b) (ZL (Z b 3 0)) with
 |none=>grind
 | some c=>
  obtain⟨e,g⟩:=c;simp only[f] at a
  cases k:Zz e (ZL (Z b 2 0)) g.tail (ZL (g.headD 0)) with
  |none=>grind
  | some c=>
   obtain⟨j,p,h⟩:=c;simp only[k] at a;split at a
   ·cases l:Vr ⟨e,j,[]⟩ (ZL (Z b 2 0)) (ZF 2 h) (Lf h 2) with
    |none=>grind
    | some c=>
     obtain⟨n,o⟩:=c;simp only[l,Option.some.injEq,Prod.mk.injEq] at a;rw[<- a.1];exact ZfY _ f
   cases a
def ZkZ{a:U KS}{b:U BS}{c:U E}(i:F c=F a)(h:∀f∈b,∀g∈f.fs,g<F a)(j:∀d,Z c d 0=((b.flatMap (·.fs)).count d:H))(e:Dn c=Z0):(b.flatMap (·.fs)).Perm (range (F a)):=by
 unfold Dn at e;simp only[all_eq_true,decide_eq_true_eq] at e
 grind [Qf]
def ZhM{a:U XS}{x:XS}(b:Ip a x=Z0):a=[]∨(Z a (F a-1) Dm).M<x.M∨(Z a (F a-1) Dm).M=x.M/\(Z a (F a-1) Dm).f<x.f:=by
 unfold Ip at b;simp only[Bool.or_eq_true,decide_eq_true_eq] at b
 rcases b with b|b
 ·grind
 right;unfold Na orI compareInt at b
 grind
theorem gc{a:U XS}{x:XS}(c:Gu a)(b:a=[]∨(Z a (F a-1) Dm).M<x.M∨(Z a (F a-1) Dm).M=x.M/\(Z a (F a-1) Dm).f<x.f):Gu (a++[x]):=by
 unfold Gu at c ⊢;rw[pairwise_append];refine⟨c,s_,λj d k i=>?_⟩;rw[mem_singleton.1 i]
 rcases b with rfl|b
 simp at d;obtain⟨e,g,rfl⟩:=aM d;have h:Z a (F a-1) Dm=a[F a-1]:=w_;rw[h] at b
 by_cases f:e=F a-1
 subst f;exact b;have:=pairwise_iff_getElem.1 c e (F a-1) g O O;omega
def lx{e:Ft}{h:H}{g:U E}:∀c {b:U XS} {d:U E},Vr e h g c=T (b,d)->Gu b
 |0,b,d,a=>by simp only[Vr,Option.some.injEq,Prod.mk.injEq] at a;rw[<- a.1];exact Pairwise.nil
 | c +1,b,d,a=>by
  simp only[Vr] at a
  cases f:Vr e h g c with
  |none=>grind
  | some i=>
   obtain⟨j,l⟩:=i;rw[f] at a;simp only at a;split at a;rename_i k;simp only[Option.some.injEq,Prod.mk.injEq] at a;rw[<- a.1];exact gc (lx c f) (ZhM w_)
   cases a
theorem Zig{d:U H}{a b:H}(j:F d=a)(f:U E):Hl (100::Bg (Cf d (Lib.bitLen b)) ((a*Lib.bitLen b+7)/8) (a*Lib.bitLen b)++f) a b=An (d.map (· %2^Lib.bitLen b)):=by
 unfold Hl;rw[aC s_];show dnN (Bg (Cf d (Lib.bitLen b)) ((a*Lib.bitLen b+7)/8) (a*Lib.bitLen b)++f) a (Lib.bitLen b)=_;generalize Lib.bitLen b=c at *
 have k:∀e,e<a*c->Vf (Bg (Cf d c) ((a*c+7)/8) (a*c)++f) e=Cf d c e:=λe n=>by grind [Vf,bh,Dj,Kj,Ug,Jf]
 unfold dnN;refine Te (by simp[Ak,j]) (λh g=>?_)
 have i:h<a:=by simpa using g
 rw[Bq,Qc,Qd g,Option.getD_some,getElem_map,getElem_range];have m:h*c+c<=a*c:=(by rw[<- succ_mul];exact aK _ i);rw[Ni _ _ c (λo l=>by rw[k _ O];exact Mz d l)]
 grind
def Znt{a:U H}{b g:H}(f:b<=200)(d:F a=b)(e:∀x∈a,x<=255)(c:U E):Ix (Ia a g++c) b g=Xg a g/\rdColR (Ia a g++c) b g=c:=by
 unfold Ix Ia Xg
 grind [dj,Ga,Zig,rdColR,Dj]
def Zgu{b:U KS}:∀(a:U E) (d:E),Ii b a d=Z0->d<Dc b a
 |[],d,c=>by simp[Ii] at c
 |e::a,d,c=>by have f:Dc b (e::a)=((Z b (ZL e) Aj).e.b+2)+Dc b a:=(by simp[Dc]);rw[f];simp only[Ii] at c;split at c;rename_i g;simp only[Oy,decide_eq_true_eq] at g;omega;have:=Zgu a _ c;omega
def ZhK{d:U KS}{a:U E}{e:U H}(b:Dx d a e=Z0):∀c∈e,c<=Dc d a:=λc g=>by
 unfold Dx at b;simp only[all_eq_true,Bool.or_eq_true,decide_eq_true_eq] at b
 rcases b c g with f|f
 omega;have:=Zgu a _ f;omega
def Zmo(a:U H)(b:H):Xg (Xg a b) b=Xg a b:=by
 by_cases d:4*nzN a<F a
 have c:Xg a b=a:=(by unfold Xg;rw[aD d]);rw[c,c];have c:Xg a b=a.map (· %2^Lib.bitLen b):=(by unfold Xg;rw[aC d]);rw[c];unfold Xg;split;rfl;rw[map_map];exact map_congr_left λe _=>mod_mod _ _
def Zod{d:U KS}{e:H}{b:BS}(a:Zmd d e b)(g:F b.fs<256)(f:Xg b.N b.g=b.N):BRt d e b:=by have c:=a.j;rw[f] at c;refine⟨a.y,λi h=>?_,a.h,a.o,g,a.n,a.sum,c⟩;have:=ZhK c i h;rw[Qo,Ga,<- a.sum] at this;exact this
def ZaP{f:U KS}{i:H}{b:U BS}(m:i<=200)(w:F f<256)(k:∀d∈b,Zmd f i d/\F d.fs<256)(e:U E):∀a,a<=F b->∃n,Zz f i (b.flatMap Dq++e) a=T ((ZU a b).map (λd=>⟨d.fs,Xg d.N d.g,d.g⟩),n,(ZF a b).flatMap Dq++e)
 |0,_=>⟨_,X⟩
 | a +1,y=>by
  have h:a<F b:=O;have⟨c,u⟩:=k _ (Qf h);have⟨n,x⟩:=ZaP m w k e a O
  have o:(ZF a b).flatMap Dq++e=[((F b[a].fs:H):E)%256]++Sr b[a].fs++(Ia b[a].N b[a].g++((ZF (a+1) b).flatMap Dq++e)):=by
   rw[aN h,flatMap_cons];unfold Dq
   grind
  simp only[Zz];rw[x];simp only;rw[o];have⟨p,q⟩:=Zgs u (λj g=>p_ (c.n j g)) (Ia b[a].N b[a].g++((ZF (a+1) b).flatMap Dq++e));have l:Dc f (An b[a].fs)=b[a].g:=(by rw[Qo,Ga,c.sum]);have⟨r,s⟩:=Znt (g:=b[a].g) m c.y c.k ((ZF (a+1) b).flatMap Dq++e)
  rw[p,q,l,r,s,Ga,Zmo,aD (by
   rw[c.j,Bool.and_true];unfold Vj;rw[l];simp only[Bool.and_eq_true,decide_eq_true_eq,all_eq_true];refine⟨λj g=>?_,by rw[Ak];exact c.o,c.h⟩;unfold An at g;obtain⟨t,v,rfl⟩:=mem_map.1 g;have:=c.n t v
   omega)]
  exact⟨_,by rw[Qi h,map_append];rfl⟩
def ZfT{a:U BS}(c:∀b∈a,0<F b.fs):F a<=F (a.flatMap (·.fs)):=by
 induction a with
 |nil=>simp
 | cons b a d=>
  grind
def Za0(a:Ft)(b:U XS):ZF 4 (Br a b)=a.g.flatMap Ll++((F a.f:E)%256::(a.f.flatMap Dq++(Ba (F b:H) 2++(b.flatMap xB++Ba (Gy (Hv a b)) 4)))):=by generalize e:Ba (Gy (Hv a b)) 4=c;have d:Br a b=71::82::((F (Z a.f 0 Df).N:H):E)%256::(F a.g:E)%256::(a.g.flatMap Ll++((F a.f:E)%256::(a.f.flatMap Dq++(Ba (F b:H) 2++(b.flatMap xB++c))))):=(by grind [Br,Hv]);rw[d];rfl
def Zo3{d:U E}{o:Ft}(b:Sm d)(k:oe d=T o):DRt (ZL (Z d 2 0)) o o.r:=by
 unfold oe at k
 cases e:Ma d with
 |none=>grind
 | some h=>
  obtain⟨j,a8⟩:=h;simp only[e] at k
  by_cases L:Br j j.r=d
  ·rw[aD L,Option.some.injEq] at k;subst k;have g:=Zcm b e;have a1:=Zie e;have p:=Za0 j j.r;rw[L] at p;have r:∀K∈_,KRt K:=λK hK=>⟨g.g K hK,a1 K hK⟩;have u:=g.i;have z:=g.w;have G:=g.u;have v:=g.k;unfold Ma at e
   by_cases a0:200<ZL (Z d 2 0)∨ZL (Z d 3 0)<1∨4<ZL (Z d 3 0)
   ·grind
   rw[aC a0] at e
   cases q:Xh (ZF 4 d) (ZL (Z d 3 0)) with
   |none=>grind
   | some h=>
    obtain⟨i,s⟩:=h;simp only[q] at e;have⟨y,a7,W⟩:=zd (b.drop 4) _ i s q
    cases l:Zz i (ZL (Z d 2 0)) s.tail (ZL (s.headD 0)) with
    |none=>grind
    | some h=>
     obtain⟨c,M,t⟩:=h;simp only[l] at e;have⟨R,a4,m,a2,a6⟩:=kw W.tail _ c M t l
     cases A:Dn M with
     |false=>grind
     | true=>
      simp only[A,if_true] at e
      cases w:Vr ⟨i,c,[]⟩ (ZL (Z d 2 0)) (ZF 2 t) (Lf t 2) with
      |none=>grind
      | some h=>
       obtain⟨f,a9⟩:=h;simp only[w,Option.some.injEq,Prod.mk.injEq] at e;obtain⟨P,_⟩:=e;subst P;simp only at p r u G v;have D:=ZkZ a4 (λa b=>(m a b).n) a2 A
       have x:∀a∈c,F a.fs<256:=λa b=>by
        have:=g.d.r a b
        grind
       have n:=zc r ((F c:E)%256::(c.flatMap Dq++(Ba (F f:H) 2++(f.flatMap xB++Ba (Gy (Hv ⟨i,c,f⟩ f)) 4)))) _ x_;rw[<- p,y,q] at n;rw[<- y,drop_length] at n;simp only[flatMap_nil,nil_append,Option.some.injEq,Prod.mk.injEq] at n;have a3:=n.2;have⟨b0,a5⟩:=ZaP z O (λa b=>⟨m a b,x a b⟩) (Ba (F f:H) 2++(f.flatMap xB++Ba (Gy (Hv ⟨i,c,f⟩ f)) 4)) (F c) x_;rw[<- R,a3,tail_cons,a5,Option.some.injEq,Prod.mk.injEq,take_length] at l
       have Q:∀a∈c,Xg a.N a.g=a.N:=λa b=>by
        have N:c.map (λa=>(⟨a.fs,Xg a.N a.g,a.g⟩:BS))=c.map id:=(by rw[map_id];exact l.1);have:=map_inj_left.1 N a b
        grind
       have S:F c<=4:=(by have N:=ZfT λa b=>(m a b).o;rw[D.length_eq,length_range] at N;omega);exact⟨z,g.y,u,v,S,r,λa b=>Zod (m a b) (x a b) (Q a b),D,lx _ w,g.e.j,G⟩
  grind
def La{h e:ZT}{a i f k b m u n':H}{l:YZ ZY}{g d:ZY}{x r:U ZY}(n:H_ h a l f)(s:ZD h k b m g u x)(o:Y3 h e (ZW g))(v:ZD e k b m d n' r)(q:b≠f):e.1[a]? =T (O_ l f)/\(ZO e (J a i) d).1[a]? =T (O_ (YS l i d) f)/\ZD (ZO e (J a i) d) k b m d n' r/\Aa (λc=>c=a∨ZW g=T c) h (ZO e (J a i) d):=by have w:Aa (λc=>c=a∨_) _ _:=(Aa.refl _ _).grown o (λt c _=>ZJ c);have j:H_ _ a _ _:=((Aa.refl _ _).grown o (λt c _=>c)).g (S:=λc=>ZW g=T c) n (λb=>Ag s b n q X);exact⟨j,hs_ _ a i _ _ _ j,Am v j q,w.setCell (p:=(J a i)) (λ_=>ZM X) _⟩
def Hr{c:Type}(a:Cu×c->Cu×c)(b:Cu×c):H->Cu×c
 |0=>b
 |d+1=>if(Hr a b d).1.z then Hr a b d else a (Hr a b d)
def Ld{a:Type}{f:Cu×a->Cu×a}{s:Cu×a}{k:H}(b:(Hr f s k).1.z=ZZ):Hr f s (k+1)=f (Hr f s k):=aC (by rw[b];decide)
def Yr{e:Type}{b:Cu×e->Cu×e}{d:Cu×e}{c a:H}(f:(Hr b d c).1.z=Z0)(g:c<=a):Hr b d a=Hr b d c:=by
 induction a with
 |zero=>grind
 | succ a h=>
  grind [Hr]
def sgR(a:H):E:=if 2147483648<=a then(a:E)-4294967296 else a
def wdT(a:U E)(b:Cu):Cu×U E:=Lj a (Cx a 8 b).2 (Cx a 8 b).1
def ftW(b:U E)(a:Cu×ES):Cu×ES:=(if En (ZB (wdT b a.1).2)=Z0/\containsS a.2.c (ZB (wdT b a.1).2)=ZZ then(wdT b a.1).1 else⟨(wdT b a.1).1.k,Z0⟩,⟨Z0,a.2.f,a.2.c++[ZB (wdT b a.1).2]⟩)
def ftN(b:U E)(a:Cu×ES):Cu×ES:=(if a.2.f≠[]/\sgR (aa (Lj b 4 a.1).2)<=Z a.2.f (F a.2.f-1) 0 then⟨(Lj b 4 a.1).1.k,Z0⟩ else(Lj b 4 a.1).1,⟨ZZ,a.2.f++[sgR (aa (Lj b 4 a.1).2)],a.2.c⟩)
def ftS(b:U E)(a:Cu×ES):Cu×ES:=if a.2.a=Z0 then ftW b a else ftN b a
def jp(b:U E)(f:Cu):Cu×KS:=
 let c:=Lj b 1 f
 let d:=Cx b 255 c.1
 let e:=Cx b 16 d.1
 let a:=Hr (ftS b) (e.1,⟨ZE (c.2=[119]),[],[]⟩) e.2
 (if(c.2=[110]∨c.2=[119])/\d.2<F a.2.f+F a.2.c+2 then a.1 else⟨a.1.k,Z0⟩,⟨a.2,d.2⟩)
def bdC(b:ZG)(a:Cu):Cu:=if b=Z0 then⟨a.k,Z0⟩ else a
def Zdp(a:Prop)[Decidable a](b:Cu):(if a then⟨b.k,Z0⟩ else b)=bdC (ZE a) b:=by simp[bdC]
def Zfx(a:Prop)[Decidable a](b:Cu):(if a then b else⟨b.k,Z0⟩)=bdC (!decide a) b:=by unfold bdC;by_cases c:a<;>simp[c]
def ZnT(a b:H)(c:ZG):(a<b/\c=ZZ)∨(a<b/\c=Z0)∨¬a<b:=by cases c<;>simp<;>omega
def Uq{e:Type}{f:Cu×e->Cu×e}{g d:Cu×e}{b c:H}(h:d=Hr f g b)(i:b<=c)(a:d.1.z=Z0∨b=c):Hr f g c=d:=by
 subst h
 rcases a with a|rfl
 exact Yr a i;rfl
def tu{f:ZT}{g b k d j l e}(i:ZD f g b k d j l)(h:∀a,ZW e=T a->B f.1<=a):Bl d e:=by
 cases c:ZW d with
 |none=>exact ZM c
 | some a=>
  refine ZJ (ZJ λb=>?_);have:=(B_ i a c).2;have:=h a (b ▸ c);omega
structure qz(b a:ZT)(h e d:H)(f:ZC)(g:Cu)(c:ES)(k:E)(i j:ZY):Prop where
 w:Pd a h f g
 y:g.k<=ZK f
 o:jb a e ZZ (N_) (N_) 0
 r:jb a d c.a i j k
 x:Ad a (B b.1) i c.f
 z:Bj a (B b.1) j c.c
 u:Aa (λl=>l=h) b a
 t:B b.1<=e/\B b.1<=d/\e≠d
section
variable {w W a:ZT} {cb rb fb:H} {S:ZC} {c f:Cu} {e:ES} {d d':E} {vb b v':ZY}
def qz.call(g:qz w W cb rb fb S c e d vb b)(m:Pd a cb S f)(h:f.k<=ZK S)(i:Aa (λo=>o=cb) W a):qz w a cb rb fb S f e d vb b:=by
 have l:∀{k p q r s},jb W k p q r s->¬k=cb:=λj e=>by have:=g.w;unfold Pd at this;unfold jb at j;rw[e,this] at j;simp at j
 exact⟨m,h,i.g g.o (l g.o),i.g g.r (l g.r),i.M g.x (λn h=>Ag g.x h g.w C),i.M g.z (λn h=>Ag g.z h g.w C),g.u.T i,g.t⟩
def qz.g(a:qz w W cb rb fb S c e d vb b):=a.call a.w.g.1 a.y a.w.g.2
def qz.q(f:qz w W cb rb fb S c e d vb b)(g:E_ W a):=f.call (f.w.q g) f.y (.a g)
def qz.cells(a:qz w W cb rb fb S c e d vb b):(ZV W (J cb 2)=T (ZR c.z)/\YT W (J cb 2)=ZZ)/\ZV W (J fb 0)=T (ZR e.a)/\ZV W (J fb 1)=T vb/\ZV W (J fb 2)=T b/\ZV W (J fb 3)=T (I d)/\YT W (J fb 1)=ZZ/\YT W (J fb 2)=ZZ/\YT W (J fb 3)=ZZ:=
 ⟨⟨n_ 2 a.w,R_ 2 _ _ a.w⟩,n_ 0 a.r,n_ 1 a.r,n_ 2 a.r,n_ 3 a.r,R_ 1 _ _ a.r,R_ 2 _ _ a.r,R_ 3 _ _ a.r⟩
def qz.D{j:ES}{n o:ZY}{G:H->Prop}(f:qz w W cb rb fb S c e d vb b)(m:Aa (λi=>i=fb∨G i) W a)(q:∀i,G i->B w.1<=i/\∃p g,W.1[i]? =T (O_ p g)/\(g=3∨g=9))(x:jb a fb j.a n o d')(l:Ad a (B w.1) n j.f)(t:Bj a (B w.1) o j.c):qz w a cb rb fb S c j d' n o:=by
 have r:∀{h g} {s:YZ ZY},W.1[h]? =T (O_ s g)->h≠fb->g≠3->g≠9->¬(h=fb∨G h):=λz l u v e=>by
  rcases e with e|e
  exact l e;have⟨_,p,g,k,y⟩:=q _ e;rw[z] at k;simp at k
  rcases y with rfl|rfl
  exact u k.2;exact v k.2
 have y:cb≠fb:=λe=>by have k:=f.w;have h:=f.r;unfold Pd at k;unfold jb at h;rw[e,h] at k;simp at k
 refine⟨m.g f.w (r f.w y C C),f.y,m.g f.o (r f.o f.t.2.2 C C),x,l,t,?_,f.t⟩;exact f.u.c m λk e=>ZJ (e.elim (λe=>e ▸ f.t.2.1) λe=>(q k e).1)
def qz.num(a:qz w W cb rb fb S c e d vb b):qz w (ZO W (J fb 3) (I d')) cb rb fb S c e d' vb b:=
 a.D (G:=λ_=>False) ((Aa.refl _ _).setCell (p:=(J fb 3)) (λ_=>ZM X) _) (λ_ e=>e.elim) (hs_ _ fb 3 _ 227 _ a.r) (Am a.x a.r C) (Am a.z a.r C)
end
def Zf7{b:U E}(f:F b=1)(e:∀a∈b,0<=a/\a<256)(c:UInt8):((ZB b).toList==[c])=ZE (b=[(c.toNat:E)]):=by
 match b,f with
 | [a],_=>
  have g:=e a s_;have d:(ZB [a]).toList=[UInt8.ofNat (ZL a)]:=(by rw[toList_data];rfl);rw[d,Bool.eq_iff_iff,decide_eq_true_eq,beq_iff_eq];simp only[List.cons.injEq,and_true];rw[<- UInt8.toNat_inj,UInt8.toNat_ofNat'];omega
def Zaa i (b:ZC)(c:Cu) f (P:Pd f i b c)(b4:ZK b<=4000000)(b2:c.k<=ZK b):C_ 184 #[P_ i] f λa d=>∃a1 a2,a=ZI (Y9 #[ZR (jp (Ab b) c).2.e.a,a1,a2,ZX ZQ (jp (Ab b) c).2.d])/\Ad d (B f.1) a1 (jp (Ab b) c).2.e.f/\Bj d (B f.1) a2 (jp (Ab b) c).2.e.c/\Pd d i b (jp (Ab b) c).1/\(jp (Ab b) c).1.k<=ZK b/\Aa (λg=>g=i) f d:=by
 have⟨f9,N⟩:=ez_ (jp (Ab b) c);rw[N];have L:F (Ab b)=ZK b:=(by simp[Ab]);have a9:=Qq b;have f0:=Iw _ 1 b c (ZN f (O_ #[ZR ZZ,N_,N_,I 0] 227)) (P.q r_) C b4 b2;have e0:=Tz (n:=1) (L ▸ b2);have b8:=Zf7 (Ij _ 1 c) (Np a9 1 c);unfold jp at N;generalize Lj (Ab b) 1 c=l at *;have u:jb _ (B f.1) ZZ (N_) (N_) 0:=hn_;have⟨D,d0⟩:=Z_ (ZE (l.2=[119]));have⟨e3,d9⟩:=Z_ (ZE (l.2=[110]));have d1:=(b8 119).T d0;have d2:=(b8 110).T d9;clear b8;refine dl_ ?_;go_enter func184,ntmps184;go_wp2_with fail
 apply f0.m;rintro a e6 ⟨rfl,a6,d3⟩;clear f0
 have c5:K (qz f (ZN e6 (O_ #[ZR D,N_,N_,I 0] 227)) i (B f.1) (B e6.1) b l.1 ⟨D,[],[]⟩ 0 (N_) (N_)):=by
  have e:=d3.size;simp at e
  have d:B f.1≠i:=λa=>by have:=(Qb P).1;omega
  exact⟨a6.q r_,L ▸ e0,(Aa.a (S:=λ_=>False) r_).g (d3.g u d) id,hn_,Ad.nil,Bj.nil,(((Aa.refl _ _).alloc _).T d3).alloc _,x_,O,O⟩
 have⟨b1,g3⟩:=Z_ (B e6.1);clear a6 d3 P u;go_wp2_with fail
 apply (Cl _ _ b _ _ c5.w b4 c5.y).m;rintro a h3 ⟨rfl,c7,f4⟩;have M:=Y (c5.call c7 (L ▸ Ic e0) f4);have b3:=(Jl a9 255 l.1).1;have g4:(Cx _ 255 _).1.k<=_:=Ic e0;clear c7 f4 c5;rw[g3] at M;generalize Cx (Ab b) 255 l.1=g at *;have⟨_,_,_,_,g0,_,_,g1⟩:=M.cells;have c6:=Y (M.num (d':=g.2));clear M;go_wp2_with fail
 clear g0 g1;apply (Cl _ _ b _ _ c6.w b4 c6.y).m;rintro a h4 ⟨rfl,c8,f5⟩;have d:=Y (c6.call c8 (L ▸ Ic g4) f5);have g5:=(Jl a9 16 g.1).2 C;clear c8 f5 c6;generalize Cx (Ab b) 16 g.1=e4 at *;obtain⟨e4,a0⟩:=e4;simp only at d N g5 ⊢;rw[d0] at N;have⟨f3,e1⟩:=Z_ ((e4,⟨D,[],[]⟩):Cu×ES);rw[e1] at N;have e7:=Y e1;clear e1;go_wp2_with fail
 go_loopw [6] (λh j=>∃(e:H) (c:Cu) (a:ES) (a1 a2:ZY),h=ZX ZQ e/\e<=a0/\K ((c,a)=Hr (ftS (Ab b)) f3 e)/\K (qz f j i (B f.1) b1 b c a g.2 a1 a2)/\K (a.a=D/\(D=Z0->a.f=[]/\F a.c=e)/\(D=ZZ->a.c=[]/\F a.f=e))) (λh _=>a0-ZL (ZA h))
 case atStart=>exact⟨0,_,_,_,_,X,v_,e7,d,X,λ_=>⟨X,X⟩,λ_=>⟨X,X⟩⟩
 clear d e7;obtain⟨e,c,a,a1,a2,rfl,b8,c3,h,c4⟩:=hrel;have⟨⟨o,s⟩,m,q,r,v,w,x,_⟩:=h.cells
 rcases ZnT e a0 c.z with⟨c9,b5⟩|⟨c9,b5⟩|c9
 ·have e9:e<(a0:E):=O;rw[b5] at o;have d6:=Ld (f:=ftS _) (s:=f3) (k:=e) (by rw[<- c3];exact b5);rw[<- c3] at d6;have R:=Y d6;clear d6 N
  cases D
  ·have⟨a7,_,f1⟩:=c4.out;have⟨f6,A⟩:=f1 X;rw[a7] at m;have G:=Y (R.T (aC (by rw[a7];decide)));unfold ftN at G;simp only at G;rw[A] at G;clear f1 d1 d2 R;go_wp2_with fail
   apply (Iw i 4 b c _ h.w C b4 h.y).m;rintro b6 d4 ⟨rfl,b7,c2⟩;have d:=Y (h.call b7 (L ▸ Tz (L ▸ h.y)) c2);have S:=Uu (ZB (Lj (Ab b) 4 c).2);rw[Bi,Ij,St (Np a9 4 c)] at S;have f7:aa (Lj (Ab b) 4 c).2<4294967296:=(by have:=bp _ (Np a9 4 c);rw[Ij] at this;exact this);clear b7 c2 o s m q r v w x h;generalize Lj (Ab b) 4 c=a8 at *;generalize aa a8.2=Q at *;go_wp2_with fail
   apply (S _ C).m;rintro b6 f8 ⟨rfl,W⟩;obtain rfl:=W.s;clear W S
   have e8:K (sgR Q=if 2147483648<=(Q:E) then(Q:E)-4294967296 else Q):=by unfold sgR;split<;>split<;>first|rfl|omega
   have g2:0<=(Q:E)/\(Q:E)<4294967296:=O;clear f7;generalize (Q:E)=g9 at *;go_upto_if 65 with fail
   go_cut [11] (λj k=>j=ZX ZQ (sgR Q)/\d4=k)
   case first=>by_cases j:2147483648<=g9<;>(go_wp2;go_meet;exact⟨by rw[e8];simp[j]<;>omega,X⟩)
   obtain⟨rfl,rfl⟩:=hcut;clear e8 g2;generalize sgR Q=j at *;obtain⟨a3,a4,rfl⟩:=d.x.d;rw[A] at d;have⟨⟨o,s⟩,m,q,r,v,w,x,_⟩:=d.cells;have⟨f2,b9⟩:=Z_ (Z a.f (e-1) 0);have⟨n,t⟩:=Z_ (ZE (a.f≠[]/\j<=f2));rw[b9,Zdp,t] at G;go_upto_region 19 with fail;go_cut [79] (λp k=>p=ZR n/\d4=k)
   case first=>
    cases e with
    | zero=>
     have y:¬((0:H):E)>0:=O;have p:=length_eq_zero_iff.1 A;go_wp2;go_meet
     exact⟨by rw[<- t];simp[p],X⟩
    | succ k=>
     have y:((k+1:H):E)>0:=O;obtain⟨b0,rfl,_,_,z,_⟩:=d.x.b A (show k<k+1 by omega);rw[show Z a.f k 0=f2 from b9] at z;clear b9
     have p:a.f≠[]:=λP=>by rw[P] at A;simp at A
     have a5:i64.wrap (((k+1:H):E)-1)=k:=(by rw[Au O O];omega);go_wp2;go_meet
     exact⟨by rw[<- t];simp[p],X⟩
   obtain⟨rfl,rfl⟩:=hcut;clear t;go_upto_if 79 with fail
   go_cut [79] (λ_ k=>K (qz f k i (B f.1) b1 b (bdC n a8.1) a g.2 (ZH a3 e a4) a2))
   case first=>cases n<;>(go_wp2;go_meet;first|exact d|exact d.g)
   have y:=hcut;clear d o s m q r v w x hcut;generalize bdC n a8.1=b0 at *;have⟨⟨o,s⟩,m,q,r,v,w,x,_⟩:=y.cells
   have p:K (∀c0,ZD (ZN wc c0) (B f.1) 3 1 (V a3 e a4) e (a.f.map (ZX ZQ))):=λc0=>by have:=y.x;unfold Ad at this;rw[A] at this;exact ra_ this _
   have g6:=y.u.size;go_wp2_with (at_builtin;refine ap_ [I j] (p _) ?_)
   rintro e5 h0 ⟨c1,a5,_,_,g8,g7,e2⟩;have z:=Y (y.q (r_ (o:=O_ #[I j] 3)));have k:=La (i:=1) z.r (p _) a5 c1 C
   have d5:K (qz f _ i (B f.1) b1 b b0 ⟨ZZ,a.f++[j],a.c⟩ g.2 e5 a2):=
    z.D k.2.2.2 (λg b3=>⟨(B_ (p (O_ #[I j] 3)) g b3).1,by obtain⟨d7,d8⟩:=Ac (p (O_ #[I j] 3)) b3;exact⟨d7,3,d8,ZM X⟩⟩) (by have:=k.2.1;rw[a7] at this;exact this) (Ad.P (A ▸ k.2.2.1)) (Am (World.ownsRow.kept z.z a5 (Ap (p (O_ #[I j] 3)) z.z C)) k.1 C)
   have d7:=n_ 1 k.1;have d8:=R_ 1 _ _ k.1;subst e2;clear c1 a5 y z k p o s m q r v w x;refine J_ ?_;exact⟨e+1,b0,⟨ZZ,a.f++[j],a.c⟩,_,a2,g_,O,G.s,d5,X,(λP=>by cases P),λ_=>⟨f6,by simp[A]⟩⟩
  have⟨a7,f1,_⟩:=c4.out;have⟨g2,b9⟩:=f1 X;rw[a7] at m;have G:=Y (R.T (aD a7));unfold ftW wdT at G;simp only at G;clear f1 d1 d2 R;go_wp2_with fail
  apply (Cl i 8 b c _ h.w b4 h.y).m;rintro b6 d4 ⟨rfl,b7,c2⟩;have d:=Y (h.call b7 (L ▸ Ic (L ▸ h.y)) c2);have h1:=(Jl a9 8 c).2 C;clear b7 c2 o s m q r v w x h;generalize Cx (Ab b) 8 c=a4 at *;go_wp2_with fail
  apply (Iw i a4.2 b a4.1 _ d.w O b4 d.y).m;rintro b6 g9 ⟨rfl,e8,f6⟩;have a3:=Y (d.call e8 (L ▸ Tz (L ▸ d.y)) f6);have h2:ZK (ZB (Lj (Ab b) a4.2 a4.1).2)<=8:=(by rw[Bi,Ij];omega);clear e8 f6 d;generalize Lj (Ab b) a4.2 a4.1=a8 at *;generalize ZB a8.2=A at *;go_wp2_with fail
  apply (Zh9 A O).m;rintro b6 f8 ⟨rfl,W⟩;obtain rfl:=W.s;clear W;obtain⟨Q,S,rfl⟩:=a3.z.b;rw[b9] at a3;have⟨⟨o,s⟩,m,q,r,v,w,x,_⟩:=a3.cells;go_wp2_with fail
  apply (Zcb _ e S Q a.c A a3.z b9 O).m;rintro b6 f8 ⟨rfl,W⟩;obtain rfl:=W.s;clear W;generalize En A=f2,containsS a.c A=f7 at *;have⟨n,t⟩:=Z_ (!decide (f2=Z0/\f7=ZZ));rw[Zfx,t] at G;go_upto_region 13 with fail;go_cut [51] (λj k=>j=ZR n/\g9=k)
  case first=>subst t;cases f2<;>cases f7<;>(go_wp2;go_meet;exact⟨X,X⟩)
  obtain⟨rfl,rfl⟩:=hcut;clear t;go_upto_if 51 with fail
  go_cut [51] (λj k=>K (qz f k i (B f.1) b1 b (bdC n a8.1) a g.2 a1 (ZH Q e S)))
  case first=>cases n<;>(go_wp2;go_meet;first|exact a3|exact a3.g)
  have y:=hcut;clear a3 o s m q r v w x hcut;generalize bdC n a8.1=b0 at *;have⟨⟨o,s⟩,m,q,r,v,w,x,_⟩:=y.cells
  have p:K (∀c0,ZD (ZN wc c0) (B f.1) 9 1 (V Q e S) e (a.c.map YW)):=λc0=>by have:=y.z;unfold Bj at this;rw[b9] at this;exact ra_ this _
  have g6:=y.u.size;go_wp2_with (at_builtin;refine ap_ [Q_ A] (p _) ?_)
  rintro e5 h0 ⟨c1,a5,_,_,g8,g7,e2⟩;have z:=Y (y.q (r_ (o:=O_ #[Q_ A] 9)));have k:=La (i:=2) z.r (p _) a5 c1 C
  have d5:K (qz f _ i (B f.1) b1 b b0 ⟨Z0,a.f,a.c++[A]⟩ g.2 a1 e5):=
   z.D k.2.2.2 (λg b3=>⟨(B_ (p (O_ #[Q_ A] 9)) g b3).1,by obtain⟨d7,d8⟩:=Ac (p (O_ #[Q_ A] 9)) b3;exact⟨d7,9,d8,ZJ X⟩⟩) (by have:=k.2.1;rw[a7] at this;exact this) (Am (World.ownsRow.kept z.x a5 (Ap (p (O_ #[Q_ A] 9)) z.x C)) k.1 C) (Bj.add (b9 ▸ k.2.2.1))
  have d7:=n_ 2 k.1;have d8:=R_ 2 _ _ k.1;subst e2;clear c1 a5 y z k p o s m q r v w x;refine J_ ?_;exact⟨e+1,b0,⟨Z0,a.f,a.c++[A]⟩,a1,_,g_,O,G.s,d5,X,λ_=>⟨g2,by simp[b9]⟩,λP=>by cases P⟩
 focus
  have R:K (_∨e=a0):=ZM b5;have e9:e<(a0:E):=O;rw[b5] at o;clear b5 c9;go_upto_region 22 with fail
 rotate_left
 focus
  have R:K (c.z=Z0∨e=a0):=ZJ O;have e9:¬e<(a0:E):=O;clear c9;go_upto_region 22 with fail
 all_goals
  have z:K ((if(l.2=[110]∨l.2=[119])/\g.2<F a.f+F a.c+2 then c else⟨c.k,Z0⟩,⟨a,g.2⟩)=f9):=(by rw[Uq c3 b8 R] at N;exact N);obtain⟨a3,a4,rfl⟩:=h.x.d;obtain⟨Q,S,rfl⟩:=h.z.b
  have b9:F a.f<=16/\F a.c<=16:=by
   have a6:=c4.2
   cases D
   have:=a6.2 X;rw[this.1];simp;omega;have:=a6.1 X;rw[this.1];simp;omega
  obtain⟨b6,b7⟩:=b9;have A:=Km a3 Q (F a.f) (F a.c) a4 S a.a g.2;have⟨p,a5⟩:=Z_ (F a.f);have⟨y,a7⟩:=Z_ (F a.c);rw[a5,a7] at A h z;rw[a5] at b6 q;rw[a7] at b7 r;clear N R;have⟨n,t⟩:=Z_ (!decide ((l.2=[110]∨l.2=[119])/\g.2<p+y+2));rw[Zfx,t] at z;go_cut [101] (λj k=>j=ZR n/\K (E_ wr k))
  case first=>
   subst t
   have G:(!decide ((l.2=[110]∨l.2=[119])/\g.2<p+y+2))=((!e3&&!D)||ZE ((g.2:E)≥((p+y+2:H):E))):=by
    rw[<- d0,<- d9]
    by_cases a6:l.2=[110]<;>by_cases c7:l.2=[119]<;>by_cases c8:g.2<p+y+2<;>simp[a6,c7,c8]<;>omega
   have k:=Y G;have a8:((ZB l.2).toList !=[119])=!D:=(by rw[bne,d1]);have b0:((ZB l.2).toList !=[110])=!e3:=(by rw[bne,d2]);clear G d9 d0 c3 c4 z
   cases e3<;>cases D<;>simp only[Bool.not_false,Bool.not_true] at a8 b0
   ·go_quiet (fail);go_wp2;go_meet
    exact⟨by rw[k];rfl,below_drewN y_ _⟩
   all_goals
    have c0:=lt_ m;refine rg_ wr 12 λj=>?_;refine G_ ?_;refine oc_ 10 (A _ O O) ?_;rintro a d4 ⟨rfl,W⟩;refine⟨_,X,bt_ j W,λj=>G_ ?_⟩;refine le_ ?_;go_wp2;go_meet
    exact⟨by rw[k];simp,j⟩
  obtain⟨rfl,G⟩:=hcut;have M:=Y (h.q G);have⟨⟨o,s⟩,m,q,r,v,w,x,_⟩:=M.cells;clear h G t;go_upto_if 101 with fail
  go_cut [101] (λj k=>K (qz f k i (B f.1) b1 b (bdC n c) a g.2 (ZH a3 p a4) (ZH Q y S)))
  case first=>cases n<;>(go_wp2;go_meet;first|exact M|exact M.g)
  have d:=hcut;generalize bdC n c=b0 at *;obtain rfl:=z.out;have⟨⟨o,s⟩,m,q,r,v,w,x,_⟩:=d.cells;have u:=d.o;have c0:=n_ 0 u;have d1:=n_ 1 u;have d2:=n_ 2 u;have c1:=n_ 3 u;have c2:=R_ 0 _ _ u;have d4:=R_ 1 _ _ u;have d5:=R_ 2 _ _ u;have d6:=R_ 3 _ _ u;clear M hcut u z;go_wp2;apply bodyPost_ret (v:=Y9 #[ZR a.a,V a3 p a4,V Q y S,I g.2]) (by simp[results,results184,go_sem, *]) X;have j:=Aa.h wc (B f.1) (ZR a.a) (V a3 p a4) (V Q y S) (I g.2)
  have a8:B f.1≠i:=λa=>by have k:=d.w;have W:=d.o;unfold Pd at k;unfold jb at W;rw[<- a,W] at k;simp at k
  refine⟨_,_,X,j.M d.x (λe b2 a=>Ag d.x b2 d.o C a),j.M d.z (λe b2 a=>Ag d.z b2 d.o C a),j.g d.w (λa=>a8 a.s),d.y,?_⟩;exact d.u.c j λe a=>ZJ O
def spC(b:U E)(d:H)(c:E)(a:Cu×E×U E):Cu×E×U E:=
 if a.2.1+(Cx b 255 a.1).2<0∨(d:E)<=a.2.1+(Cx b 255 a.1).2 then(⟨(Cx b c (Cx b 255 a.1).1).1.k,Z0⟩,a.2.1+(Cx b 255 a.1).2,a.2.2)
 else((Cx b c (Cx b 255 a.1).1).1,a.2.1+(Cx b 255 a.1).2,a.2.2.set (ZL (a.2.1+(Cx b 255 a.1).2)) ((Cx b c (Cx b 255 a.1).1).2:H))
def Wm(b:U E)(a:H):H:=ZL (Z b (a/8) 0)/2^(a%8)%2
def dnV(b:U E)(a c:H):H:=Hk (Wm b) (c*a) a
def dnC(f:U E)(d a:H)(e:Cu):Cu×U E:=
 let b:=Lj f ((d*Lib.bitLen a+7)/8) e
 (⟨b.1.k,b.1.z||(range d).any λc=>ZE (a<dnV b.2 (Lib.bitLen a) c)⟩,(range d).map λc=>if a<dnV b.2 (Lib.bitLen a) c then 0 else((dnV b.2 (Lib.bitLen a) c:H):E))
def vaC(a:U E)(c d:H)(e:Cu):Cu×U E:=
 let b:=Lj a 1 e
 if b.2=[115] then((Hr (spC a c d) ((Cx a 255 b.1).1,-1,Y6 c 0) (Cx a 255 b.1).2).1,(Hr (spC a c d) ((Cx a 255 b.1).1,-1,Y6 c 0) (Cx a 255 b.1).2).2.2)
 else dnC a c d b.1
def ZnF{a:U E}(g:∀d∈a,0<=d/\d<256){b:H}{c:b<ZK (ZB a)}:((ZB a)[b]'c).toNat=ZL (Z a b 0):=by have e:b<F a:=(by rw[Bi] at c;exact c);have:=g _ (Qf e);have f:(ZB a)[b]'c=UInt8.ofNat (ZL (a[b])):=(by rw[show(ZB a)[b]'c=(ZB a).data[b]'c from X];simp[ZB]);rw[f,UInt8.toNat_ofNat',Qc,Qd e];simp only[Option.getD_some];omega
structure xt(c a:ZT)(g h b:H)(l j k m:ZY)(e:ZC)(f:Cu)(d:U E):Prop where
 w:Pd a g e f
 y:f.k<=ZK e
 v:Nt a h b l j k m
 x:Ad a (B c.1) (L_ (B c.1) b b) d
 n:F d=b
 u:Aa (λi=>i=g) c a
section
variable {w W a:ZT} {cb db n:H} {vF vB vC vX:ZY} {S:ZC} {c b:Cu} {N:U E}
def xt.call(d:xt w W cb db n vF vB vC vX S c N)(h:Pd a cb S b)(e:b.k<=ZK S)(f:Aa (λi=>i=cb) W a):xt w a cb db n vF vB vC vX S b N:=
 ⟨h,e,f.g d.v (λg=>d.v.o d.w C g.s),f.M d.x (λg e=>Ag d.x e d.w C),d.n,d.u.T f⟩
def xt.g(a:xt w W cb db n vF vB vC vX S c N):=a.call a.w.g.1 a.y a.w.g.2
def xt.q(b:xt w W cb db n vF vB vC vX S c N)(d:E_ W a):=b.call (b.w.q d) b.y (.a d)
def xt.cells(a:xt w W cb db n vF vB vC vX S c N):ZV W (J cb 2)=T (ZR c.z)/\YT W (J cb 2)=ZZ/\ZV W (J db 0)=T (I n):=⟨n_ 2 a.w,R_ 2 _ _ a.w,n_ 0 a.v⟩
def xt.put(a:xt w W cb db n vF vB vC vX S c N){k:H}(d:E):xt w (ZO W (J (B w.1) k) (I d)) cb db n vF vB vC vX S c (N.set k d):=by have e:Aa _ W (ZO W _ (I d)):=(Aa.refl (λb=>b=B w.1) W).setCell (p:=(J (B w.1) k)) (λ_=>X) _;refine⟨e.g a.w (λb=>Ag a.x (k:=B w.1) X a.w C b.s),a.y,e.g a.v (λb=>Ag a.x (k:=B w.1) X a.v C b.s),(a.x.put a.n.s d).1,by rw[length_set];exact a.n,?_⟩;exact a.u.c e λk b=>ZJ O
end
def VaP(b c:ZT)(e f:H)(d:ZC)(a:Cu×U E):Prop:=Ad c (B b.1) (L_ (B b.1) f f) a.2/\Pd c e d a.1/\a.1.k<=ZK d/\Aa (λg=>g=e) b c
def Zci l w (b g:H){R} Q z A (c:ZC)(f:Cu) i (e0:Pd i l c f)(c3:Nt i w b R Q z A)(a5:ZK c<=4000000)(c4:f.k<=ZK c)(h2:b<=200)(c5:g<64):C_ 245 #[P_ l,P_ w,I g] i λp b6=>p=ZI (ZH (T ⟨B i.1,0,ZP⟩) b b)/\VaP i b6 l b c (vaC (Ab c) b g f):=by
 have⟨a9,j⟩:=ez_ (vaC (Ab c) b g f);rw[j];have q:F (Ab c)=ZK c:=(by simp[Ab]);have a8:=Qq c;have h1:=Gm b O
 have b7:K (xt i _ l _ b _ _ z A c f _):=
  ⟨e0.q r_,c4,(Aa.a (S:=λ_=>False) r_).g c3 id,Gl b i _ O x_,s_,(Aa.refl _ _).alloc _⟩
 have t:=n_ 0 c3;have b3:_=ZE ((Lj _ 1 f).2=[115]):=Zf7 (Ij _ 1 f) (Np a8 1 f) 115;unfold vaC at j;simp only at j;clear e0 c3;refine dl_ ?_;go_enter func245,ntmps245;go_upto_region 2 with fail;clear t h1;generalize (ZN i) (O_ (YV #[I 0] b) 3)=j2 at *;go_wp2_with fail
 apply (Iw _ 1 c f _ b7.w C a5 c4).m;rintro p f1 ⟨rfl,e1,d0⟩;have o:=Y (b7.call e1 (q ▸ Tz (q ▸ c4)) d0);clear e1 d0 b7;generalize Lj (Ab c) 1 f=P at *
 by_cases S:P.2=[115]
 ·rw[aD S] at j;rw[aF S] at b3;clear S;go_wp2_with fail
  apply (Cl _ _ c _ _ o.w a5 o.y).m;rintro p h9 ⟨rfl,a2,a7⟩;have G:=Y (o.call a2 (q ▸ Ic (q ▸ o.y)) a7);have d2:=(Jl a8 255 P.1).1;clear a2 a7 o b3;generalize Cx (Ab c) 255 P.1=a1 at *;obtain⟨a1,v⟩:=a1;have⟨N,b0⟩:=Z_ ((a1,-1,Y6 b 0):Cu×E×U E);simp only at j G d2 ⊢;rw[b0] at j;have b4:=Y b0;clear b0;go_wp2_with fail
  go_loopw [10,11] (λh e m=>∃(d:H) (f:Cu) (a:E) (y:U E),e=ZX ZQ d/\h=ZX ZQ a/\d<=v/\ -1<=a/\a<=256*d/\K ((f,a,y)=Hr (spC (Ab c) b g) N d)/\K (xt i m l w b R Q z A c f y)) (λ_ e _=>v-ZL (ZA e))
  case atStart=>exact⟨0,a1,-1,_,X,X,v_,O,O,b4,G⟩
  clear G b4;obtain⟨d,f,a,y,rfl,rfl,c8,d5,d6,L,e⟩:=hrel;have⟨a0,b6,t⟩:=e.cells
  have M:K (f.z=Z0∨d=v->VaP i wr l b c a9):=λa6=>by
   have p:Hr (spC (Ab c) b g) N v=(f,a,y):=by
    rcases a6 with r|r
    rw[L];exact Yr (by rw[<- L];exact r) c8;rw[L,r]
   rw[p] at j;rw[<- j];exact⟨e.x,e.w,e.y,e.u⟩
  by_cases c9:d<v
  ·have c0:d<(v:E):=O
   cases r:f.z
   ·rw[r] at a0;have D:=Ld (f:=spC _ b _) (s:=N) (k:=d) (by rw[<- L];exact r);rw[<- L] at D
    have u:K (Hr (spC (Ab c) b g) N (d+1)=if a+(Cx (Ab c) 255 f).2<0∨(b:E)<=a+(Cx (Ab c) 255 f).2 then(⟨(Cx (Ab c) g (Cx (Ab c) 255 f).1).1.k,Z0⟩,a+(Cx (Ab c) 255 f).2,y)
     else((Cx (Ab c) g (Cx (Ab c) 255 f).1).1,a+(Cx (Ab c) 255 f).2,y.set (ZL (a+(Cx (Ab c) 255 f).2)) ((Cx (Ab c) g (Cx (Ab c) 255 f).1).2:H))):=D
    clear D M L r;go_wp2_with fail
    apply (Cl l 255 c f wr e.w a5 e.y).m;rintro p d3 ⟨rfl,b8,c1⟩;have n:=Y (e.call b8 (q ▸ Ic (q ▸ e.y)) c1);have c6:=(Jl a8 255 f).1;clear b8 c1 e a0 b6 t;generalize Cx (Ab c) 255 f=W at *;have⟨m,a3⟩:=Z_ (a+W.2);have e9:i64.wrap (a+W.2)=m:=(by rw[Au O O];exact a3);rw[a3] at u;have d7: -1<=m/\m<=256*(d+1):=O;clear a3;go_wp2_with fail
    apply (Cl l g c W.1 d3 n.w a5 n.y).m;rintro p f0 ⟨rfl,b9,c2⟩;have h:=Y (n.call b9 (q ▸ Ic (q ▸ n.y)) c2);clear b9 c2 n;generalize Cx (Ab c) g W.1=b2 at *;have⟨a0,b6,t⟩:=h.cells
    by_cases a4:m<0∨(b:E)<=m
    ·rw[aD a4] at u;have s:K (VaP i (ZO f0 (J l 2) (ZR Z0)) l b c a9):=(by have p:Hr (spC (Ab c) b g) N v=(⟨b2.1.k,Z0⟩,m,y):=(by rw[<- u];exact Yr (by rw[u]) c9);rw[p] at j;rw[<- j];exact⟨h.g.x,h.g.w,h.g.y,h.g.u⟩);clear u h j
     by_cases x:m<0
     ·go_wp2;go_ret;exact⟨X,s⟩
     have b1:m≥b:=O;go_wp2;go_ret;exact⟨X,s⟩
    rw[aC a4] at u;obtain⟨s,rfl⟩:∃s:H,m=s:=⟨ZL m,O⟩;have d1:s<b:=O;have b1:¬(s:E)<0:=O;have d4:¬(s:E)≥b:=O;have g1:0<=(s:E):=O;have g2:(s:E)<b:=O;rw[Int.toNat_natCast] at u;have⟨x,b5⟩:=h.x.c h.n.s d1;have c7:=Y (h.put (k:=s) b2.2);clear h a4 j;refine J_ ?_;exact⟨d+1,b2.1,s,_,g_,X,O,O,O,u.s,c7⟩
   rw[r] at a0;have s:=M (ZM r);clear M r;go_wp2;go_ret;exact⟨X,s⟩
  have c0:¬d<(v:E):=O;have s:=M (ZJ O);clear M;go_wp2;go_ret;exact⟨X,s⟩
 rw[aC S] at j;rw[aE S] at b3;clear S;unfold dnC at j;simp only at j;have g8:=Gj c5;have g9:=Ml c5;have d2:K (∀d,d<Lib.bitLen g->0<g/2^d):=λd c2=>la ⟨g,c5⟩ ⟨d,O⟩ c2;generalize Lib.bitLen g=b0 at *;go_upto_region 15 with fail;clear b3;go_wp2_with fail
 go_loopw [13] (λa e=>∃d:H,a=ZX ZQ d/\d<=b0/\K (f1=e)) (λa _=>b0-ZL (ZA a))
 case atStart=>exact⟨0,X,v_,X⟩
 obtain⟨d,rfl,c2,e8⟩:=hrel;have h5:=e8.out;subst h5;clear e8
 by_cases e6:d<b0
 ·have f6:0<=(d:E):=O;have f7:(d:E)<64:=O;have a:=d2 d e6;have c6:0<(g:E)/2^d:=w_;clear a;refine J_ ?_;exact⟨d+1,g_,O,True.intro⟩
 obtain rfl:d=b0:=O;have f6:0<=(d:E):=O;have f7:(d:E)<64:=O;have c6:¬0<(g:E)/2^d:=(by grind [div_eq_of_lt]);have⟨M,a3⟩:=Z_ (b*d);have i2:M<=1200:=(by rw[<- a3];exact Nat.mul_le_mul h2 g8);have g6:(b:E)*d=(M:E):=(by rw[<- a3];simp);have⟨r,h3⟩:=Z_ ((M+7)/8);have e9:((M:E)+7).tdiv 8=r:=w_;have h7:((M:E)+7)/8=(r:E):=O;rw[a3,h3] at j;have d4:K (_/\M<=8*r):=⟨a3,O⟩;have⟨_,_,t⟩:=o.cells;clear a3 d2 g9 c2 e6;go_wp2_with fail
 apply (Iw l r c P.1 f1 o.w O a5 o.y).m;rintro p h9 ⟨rfl,a2,a7⟩;have G:=Y (o.call a2 (q ▸ Tz (q ▸ o.y)) a7);have c8:=Ij (Ab c) r P.1;have c7:=Np a8 r P.1;clear a2 a7 o e9 h7 g6 c6 t;generalize Lj (Ab c) r P.1=h8 at *;obtain⟨y,h⟩:=h8;simp only at j G c8 c7 ⊢;have f3:=Y c7;clear c7;have⟨v,c1⟩:=Z_ (λa=>if g<dnV h d a then(0:E) else((dnV h d a:H):E));have f2:=Y (λa=>congrFun c1 a);have⟨u,b4⟩:=Z_ (λa=>(y.z||(range a).any λa=>ZE (g<dnV h d a)))
 have f5:K (∀a,u (a+1)=(u a||ZE (g<dnV h d a))):=λa=>by rw[<- b4];simp[range_succ,Bool.or_assoc]
 have d8:K (u 0=y.z):=(by show _=_;rw[<- b4];simp);have d5:K (((⟨y.k,u b⟩:Cu),Ct v b b)=a9):=(by show _=_;rw[<- j,<- b4,<- c1,Im]);clear c1 b4 j;go_wp2_with fail
 go_loopw [15] (λe m=>∃a:H,e=ZX ZQ a/\a<=b/\K (xt i m l w b R Q z A c ⟨y.k,u a⟩ (Ct v b a))) (λe _=>b-ZL (ZA e))
 case atStart=>exact⟨0,X,v_,by rw[d8,In];exact G⟩
 clear G d8;obtain⟨a,rfl,i7,e⟩:=hrel;have⟨_,_,t⟩:=e.cells
 by_cases N:a<b
 ·have c0:=F_ a b;have d1:=f2 a;have d9:=f5 a;have⟨W,a4⟩:=Z_ (Ct v b a);have d6:K (W.set a (v a)=Ct v b (a+1)):=by rw[<- a4];exact Kg v N
  have f4:K (W.set a 0=W):=by show _=_;rw[<- a4];unfold Ct;rw[show b-a=(b-a-1)+1 by omega,replicate_succ,set_append_right _ _ s_];simp
  have d3:K (F W=b):=(by have:=e.n;rw[a4] at this;exact this);rw[a4] at e;clear a4;have⟨m,b2⟩:=Z_ (a*d);have i3:(a:E)*d=(m:E):=by rw[<- b2];simp
  have i4:m+d<=M:=by
   rw[<- b2,<- d4.1];have:(a+1)*d<=b*d:=aK _ N
   grind
  have d7:K (dnV h d a=Hk (Wm h) m d):=(by show _=_;unfold dnV;rw[b2]);clear b2;go_wp2_with fail
  rename_i j3;go_loopw [16] (λn s=>∃k:H,n=ZX ZQ k/\k<=d/\K (xt i s l w b R Q z A c ⟨y.k,u a⟩ (W.set a ((Hk (Wm h) m k:H):E)))) (λn _=>d-ZL (ZA n))
  case atStart=>exact⟨0,X,v_,by rw[show((Hk (Wm h) m 0:H):E)=0 from X,f4];exact e⟩
  clear e t;obtain⟨k,rfl,i5,e⟩:=hrel
  by_cases i6:k<d
  ·have h6:=F_ k d;have j1:(k:E)<64:=O;have⟨a1,e5⟩:=Z_ (m+k);have d0:i64.wrap ((m:E)+k)=a1:=(by rw[Au O O];omega);have⟨L,e2⟩:=Z_ (a1/8);have⟨s,e4⟩:=Z_ (a1%8);have i0:(a1:E).tdiv 8=L:=w_;have i1:(a1:E).tmod 8=s:=w_;have g3:L<r:=p_ d4.2;have h0:L<ZK (ZB h):=(by rw[Bi,c8];exact g3);have⟨D,c9⟩:=Z_ (ZL (Z h L 0));have g7:((ZB h)[L]'h0).toNat=D:=(by rw[<- c9];exact ZnF f3);have j0:D<256:=(by rw[<- g7];exact UInt8.toNat_lt _);have⟨a0,a6⟩:=Z_ (D/2^s%2);have f8:((D:E)/2^s).tmod 2=a0:=by rw[<- a6,show((D:E)/2^s)=((D/2^s:H):E) by simp];rfl
   have b8:K (Hk (Wm h) m (k+1)=Hk (Wm h) m k+a0*2^k):=(by show _=_;simp only[Hk];rw[e5];unfold Wm;rw[e2,e4,c9,a6]);have e3:=Qz (f:=Wm h) (λn=>by unfold Wm;omega) m (k+1);have g4:2^(k+1)<=2^6:=Nat.pow_le_pow_right C O;have i9:(ZK (ZB h):E)=r:=(by rw[Bi,c8]);have f9:=Au (z:=(L:E)) O O;have g0:=Au (z:=(s:E)) O O;have b1:=F_ L r;have g1:0<=(s:E):=O;have g2:(s:E)<64:=O;have⟨x,b5⟩:=e.x.c (k:=a) e.n.s N;rw[Qc,getElem?_set_self (d3 ▸ N)] at x;simp only[Option.getD_some] at x;rw[b8] at e3
   have n:K (xt i (YY (ZO wr (J (B i.1) a) (I ((Hk (Wm h) m (k+1):H):E)))) l w b R Q z A c ⟨y.k,u a⟩ (W.set a ((Hk (Wm h) m (k+1):H):E))):=(by have:=e.put (k:=a) ((Hk (Wm h) m (k+1):H):E);rw[set_set] at this;exact this.q y_.drew);rw[b8] at n;have g5:Hk (Wm h) m k+a0*2^k<64:=O;clear e5 e2 e4 c9 a6 e g4 e3;generalize Hk (Wm h) m k=b9 at *;go_upto_region 26 with fail;refine Af (λb6=>ZV b6 (J (B i.1) a)=T (I (b9:H))/\YT b6 (J (B i.1) a)=ZZ) 19 k_ ⟨x,b5⟩ λhHeld=>?_;refine G_ ?_;refine le_ ?_
   have e7:i64.wrap ((b9:E)+i64.wrap ((i64.wrap (D:E)/2^s).tmod 2*2^k))=((b9+a0*2^k:H):E):=(by rw[Au (z:=(D:E)) O O,f8];have⟨f0,b6⟩:=Z_ (a0*2^k);have h4:(a0:E)*2^k=f0:=(by rw[<- b6];simp);rw[b6] at g5 ⊢;rw[h4,Au (z:=(f0:E)) O O,Au O O];simp);rw[e7];clear e7 x b5;generalize (YY (ZO wr _ _))=f0 at *;refine J_ ?_;exact⟨k+1,g_,O,b8 ▸ n⟩
  have h6:¬k<(d:E):=O;obtain rfl:k=d:=O;rw[<- d7] at e;have⟨x,b5⟩:=e.x.c (k:=a) e.n.s N;rw[Qc,getElem?_set_self (d3 ▸ N)] at x;simp only[Option.getD_some] at x;have⟨a0,b6,t⟩:=e.cells
  have D:K (g<dnV h k a->xt i (ZO (ZO wr (J l 2) (ZR Z0)) (J (B i.1) a) (I 0)) l w b R Q z A c ⟨y.k,u (a+1)⟩ (Ct v b (a+1))):=λs=>by have:=e.g.put (k:=a) 0;rw[set_set] at this;rw[d9,aF s,<- d6,<- d1,aD s,Bool.or_true];exact this
  have L:K (¬g<dnV h k a->xt i wr l w b R Q z A c ⟨y.k,u (a+1)⟩ (Ct v b (a+1))):=λs=>by rw[d9,aE s,<- d6,<- d1,aC s,Bool.or_false];exact e
  have⟨f9,g0⟩:=e.g.x.c (k:=a) e.g.n.s N;clear e d7;generalize dnV h k a=a1 at *
  by_cases s:g<a1
  ·have b1:(a1:E)>g:=O;have n:=Y (D s);clear D L;refine J_ ?_;exact⟨a+1,g_,O,n⟩
  have b1:¬(a1:E)>g:=O;have n:=Y (L s);clear D L;refine J_ ?_;exact⟨a+1,g_,O,n⟩
 have c0:¬a<(b:E):=O;obtain rfl:a=b:=O;have s:K (VaP i wr l a c a9):=(by rw[<- d5];exact⟨e.x,e.w,e.y,e.u⟩);clear d5;go_wp2;go_ret;exact⟨X,s⟩
structure Kv(b:U E)(a:Cu)(c:U E):Prop where
 z:a.z=ZZ
 k:a.k<=F b
 t:ZF a.k b=c
def Kv.take{b A d:U E}{c:Cu}(a:Kv b c (A++d)){n:H}(e:F A=n):(Lj b n c).2=A/\Kv b (Lj b n c).1 d:=by have f:=congrArg F a.t;rw[length_drop,Qe] at f;have g:=a.k;unfold Lj;rw[aD ⟨a.z,O⟩];refine⟨?_,X,by simp only;omega,?_⟩;simp only;rw[a.t,<- e,take_left'];rfl;simp only;rw[<- drop_drop,a.t,<- e,drop_left'];rfl
def Kv.num{a c:U E}{b:Cu}{x:H}{most:E}(d:Kv a b (((x:H):E)%256::c))(h:x<256)(g:(x:E)<=most):(Cx a most b).2=x/\Kv a (Cx a most b).1 c:=by
 have⟨e,f⟩:=Kv.take (A:=[((x:H):E)%256]) d (n:=1) X
 grind [Cx,aa]
def Kv.a{h k:Type}{e d:U E}{f:Cu×h->Cu×h}{g:k->U E}{c:U k}{A:H->h}{b:Cu}(i:Kv e b (c.flatMap g++d))(m:∀a (n:a<F c) b d,Kv e b (g c[a]++d)->(f (b,A a)).2=A (a+1)/\Kv e (f (b,A a)).1 d):∀a,a<=F c->(Hr f (b,A 0) a).2=A a/\Kv e (Hr f (b,A 0) a).1 ((ZF a c).flatMap g++d)
 |0,_=>⟨X,i⟩
 | a+1,n=>by
  have⟨l,j⟩:=Kv.a i m a O;rw[Ld j.z];have o:Hr f (b,A 0) a=((Hr f (b,A 0) a).1,A a):=(by rw[<- l]);rw[aN (show a<F c by omega),flatMap_cons,append_assoc] at j
  grind
def ZnC{a:E}(b: -2147483648<=a)(c:a<=2147483647):sgR (aa (Ba a 4))=a:=by simp only[Ba,Tu,nil_append,cons_append,aa,sgR];split<;>omega
def Zol{c a e:U E}{d:Cu}(i:Kv c d (Lr a++e))(l:∀h∈a,-2147483648<=h/\h<=2147483647)(o:∀b,0<b->b<F a->Z a (b-1) 0<Z a b 0):(Hr (ftS c) (d,⟨ZZ,[],[]⟩) (F a)).2=⟨ZZ,a,[]⟩/\Kv c (Hr (ftS c) (d,⟨ZZ,[],[]⟩) (F a)).1 e:=by
 have n:=Kv.a (f:=ftS c) (A:=λb=>(⟨ZZ,ZU b a,[]⟩:ES)) i (λb f d e k=>by
  have g:=l _ (Qf f);have⟨j,m⟩:=k.take (Dr _ 4);simp only[ftS,ftN];rw[aC C,j,ZnC g.1 g.2];refine⟨by rw[Qi f],?_⟩
  grind) (F a) x_
 grind
def Zpq{b e:U E}{a:U ZC}{c:Cu}(l:Kv b c (Lw a++e))(f:Di a=Z0):(Hr (ftS b) (c,⟨Z0,[],[]⟩) (F a)).2=⟨Z0,[],a⟩/\Kv b (Hr (ftS b) (c,⟨Z0,[],[]⟩) (F a)).1 e:=by
 have o:=qx f;unfold Di Is at f;rw[all_eq_true] at f
 have t:=Kv.a (f:=ftS b) (A:=λd=>(⟨Z0,[],ZU d a⟩:ES)) l (λd g c e p=>by
  have u:=o _ (Qf g);have h:=f d (mem_range.2 g);have k:Z a d ⟨#[]⟩=a[d]:=w_;rw[k,Bool.and_eq_true,Bool.not_eq_true'] at h;have⟨q,m⟩:=Kv.num (most:=8) p O O;have⟨r,s⟩:=m.take (Ci a[d])
  have i:wdT b c=(⟨(wdT b c).1,Ab a[d]⟩:Cu×U E):=by
   unfold wdT
   grind
  have n:Kv b (wdT b c).1 e:=by
   unfold wdT
   grind
  have j:(wdT b c).2=Ab a[d]:=(by rw[i]);simp only[ftS,ftW];rw[aD trivial,j,Zr,aD h]
  exact⟨by rw[Qi g],n⟩) _ x_
 grind
def Znz{b:U E}(c:Sa b=Z0):∀a,0<a->a<F b->Z b (a-1) 0<Z b a 0:=λa d e=>by grind [Sa,Sb]
def Zp5{g a:U E}{K:KS}{i:Cu}(hK:KRt K)(e:Kv g i (Ll K++a)):(jp g i).2=K/\Kv g (jp g i).1 a:=by
 have o:=hK.ok.a;have m:=hK.ok.g;have f:=hK.ok.b;have p:=hK.ok.w;have t:=hK.num;obtain⟨⟨z,c,h⟩,d⟩:=K;unfold Xl at p;unfold ci at f;simp only[Bool.and_eq_true] at p o m t f
 rcases p with⟨k,l,_⟩|⟨k,l,_⟩
 ·subst k l;have b:(⟨ZZ,_,[]⟩:ES).b=F c:=rfl;rw[b] at m o;have j:Ll ⟨⟨ZZ,c,[]⟩,d⟩++a=[110]++(((d:H):E)%256::((F c:H):E)%256::(Lr c++a)):=(by unfold Ll knB;simp[b]);rw[j] at e;have⟨u,q⟩:=e.take (n:=1) X;have⟨v,r⟩:=q.num (most:=255) O O;have⟨w,s⟩:=r.num (most:=16) O O;have⟨x,y⟩:=Zol s t (Znz f.1.2);unfold jp;simp only;rw[u,v,w,show ZE (([110]:U E)=[119])=ZZ by decide,x,aD w_]
  grind
 subst k l;have b:(⟨Z0,[],_⟩:ES).b=F h:=rfl;rw[b] at m o;have j:Ll ⟨⟨Z0,[],h⟩,d⟩++a=[119]++(((d:H):E)%256::((F h:H):E)%256::(Lw h++a)):=(by unfold Ll ng;simp[b]);rw[j] at e;have⟨u,q⟩:=e.take (n:=1) X;have⟨v,r⟩:=q.num (most:=255) O O;have⟨w,s⟩:=r.num (most:=16) O O;have⟨x,y⟩:=Zpq s f.2;unfold jp
 grind
def Zp1{g i:U E}{d:U H}{c a:H}{h:Cu}(k:Kv g h (Bg (Cf d (Lib.bitLen a)) ((c*Lib.bitLen a+7)/8) (c*Lib.bitLen a)++i))(m:F d=c)(s:∀x∈d,x<=a)(n:a<64):(dnC g c a h).2=An d/\Kv g (dnC g c a h).1 i:=by
 have⟨l,q⟩:=k.take (Dj _ _ _);have r:=Ml n
 have o:∀b,b<c->dnV (Bg (Cf d (Lib.bitLen a)) ((c*Lib.bitLen a+7)/8) (c*Lib.bitLen a)) (Lib.bitLen a) b=Z d b 0:=λb f=>by
  have j:Z d b 0<=a:=by grind [Qf]
  unfold dnV;generalize Lib.bitLen a=e at *;have t:b*e+e<=c*e:=by rw[<- succ_mul];exact aK _ f
  rw[Ni (Z d b 0) (b*e) e (λu p=>by grind [Wm,Kj,Ug,Jf,Mz])];exact mod_eq_of_lt O
 have j:∀b,b<c->Z d b 0<=a:=λb f=>by grind [Qf]
 unfold dnC;simp only;rw[l];constructor
 ·refine Te (by simp[Ak,m]) (λb f=>?_)
  have e:b<c:=by simpa using f
  rw[Bq,Qc,Qd f,Option.getD_some,getElem_map,getElem_range,o b e,aC (p_ (j b e))]
 have e:((range c).any λp=>ZE (a<dnV (Bg (Cf d (Lib.bitLen a)) ((c*Lib.bitLen a+7)/8) (c*Lib.bitLen a)) (Lib.bitLen a) p))=ZZ:=w_;rw[e,Bool.or_false];omega
def ZcE{a:U (H×H)}:∀b,Sd a b=(range b).flatMap λc=>[((((Z a c (0,0)).1:H):E)-Bh a c)%256,(((Z a c (0,0)).2:H):E)%256]
 |0=>X
 |b+1=>by rw[range_succ,flatMap_append,<- ZcE b];simp[Sd]
def Zqi{f d:U E}{b:U H}{a e:H}{g:Cu}(y:Kv f g (Sd (Bu b a) (F (Bu b a))++d))(n:a<=200)(k:F b=a)(W:∀x∈b,x<=e)(R:e<64):(Hr (spC f a e) (g,-1,Y6 a 0) (F (Bu b a))).2.2=An b/\Kv f (Hr (spC f a e) (g,-1,Y6 a 0) (F (Bu b a))).1 d:=by
 have m:∀x∈b,x<=255:=w_;have h:=(dj n k m e d).1;have v:Sj (Bu b a)++d=115::((F (Bu b a):H):E)%256::(Sd (Bu b a) (F (Bu b a))++d):=(by unfold Sj;simp);have S:=Mi b a;have w:ZL ((((F (Bu b a):H):E)%256))=F (Bu b a):=O;rw[v] at h;unfold Hl at h;rw[aD (by rfl)] at h;have L:(Pz (Y6 a 0) (Sd (Bu b a) (F (Bu b a))++d) (ZL (((F (Bu b a):H):E)%256))).2=An b:=h;rw[w] at L;have j:=y;rw[ZcE] at j
 have l:=Kv.a (f:=spC f a e) (A:=λc=>(Bh (Bu b a) c,(Pz (Y6 a 0) (Sd (Bu b a) (F (Bu b a))++d) c).2)) j (λc A g N i=>by
  rw[length_range] at A;rw[getElem_range] at i;have⟨M,_⟩:=Zak n k m d c O;have⟨p,q⟩:=ZeY (Bu b a) (F (Bu b a)) d c O;have⟨a1,a2⟩:=Zlx (N:=b) (n:=a) (k:=c) O;have Q:=ZaN (N:=b) (n:=a) (k:=c) O;have P:=ZaL (Bu b a) c
  have z:Bh (Bu b a) (c+1)=(((Z (Bu b a) c (0,0)).1:H):E):=by
   unfold Bh
   grind
  have a0:Z b (Z (Bu b a) c (0,0)).1 0<=e:=(by grind [Qf]);obtain⟨x,o⟩:∃x:H,(((Z (Bu b a) c (0,0)).1:H):E)-Bh (Bu b a) c=x:=⟨ZL ((((Z (Bu b a) c (0,0)).1:H):E)-Bh (Bu b a) c),O⟩;rw[o] at i;have⟨r,s⟩:=Kv.num (most:=255) i O O;have⟨t,u⟩:=Kv.num (most:=e) s O O;have D:Bh (Bu b a) c+(x:E)=(((Z (Bu b a) c (0,0)).1:H):E):=O;have G:Bh (Bu b a) c+(x:E)%256=(((Z (Bu b a) c (0,0)).1:H):E):=O;unfold spC;simp only;rw[r,D,aC O,t];refine⟨?_,u⟩;simp only[Pz];rw[M,p,q,o,G,z,aD ⟨O,w_⟩]
  rw[show((((Z (Bu b a) c (0,0)).2:H):E))%256=((Z (Bu b a) c (0,0)).2:H) by omega]) (F (Bu b a)) (length_range ▸ x_)
 have o:(λc=>(Bh (Bu b a) c,(Pz (Y6 a 0) (Sd (Bu b a) (F (Bu b a))++d) c).2)) 0=((-1:E),Y6 a (0:E)):=rfl;simp only[o] at l;obtain⟨q,p⟩:=l;rw[drop_eq_nil_of_le (length_range ▸ x_),flatMap_nil,nil_append] at p
 grind
def Zqn{e d:U E}{a:U H}{n c:H}{f:Cu}(b:Kv e f (Ia a c++d))(m:n<=200)(g:F a=n)(k:∀x∈a,x<=c)(j:c<64):(vaC e n c f).2=An a/\Kv e (vaC e n c f).1 d:=by have q:=Mi a n;unfold Ia at b;rw[g] at b;unfold vaC;simp only;split at b;have l:Sj (Bu a n)++d=[115]++(((F (Bu a n):H):E)%256::(Sd (Bu a n) (F (Bu a n))++d)):=(by unfold Sj;simp);rw[l] at b;have⟨i,h⟩:=b.take (n:=1) X;have⟨p,o⟩:=h.num (most:=255) O O;rw[i,aD X,p];exact Zqi o m g k j;have⟨i,h⟩:=Kv.take (A:=[100]) (n:=1) b X;rw[i,aC C];exact Zp1 h g k j
def goF(b:E)(d:H):U H->ZG->Y0 ZG
 |[],_=>ZP
 |a::e,c=>if a=d then T c else goF b d e (c||ZE ((a:E)=b))
def goL(a:H->Y0 ZG):U H->ZG
 |[]=>ZZ
 |b::c=>(a b).getD (goL a c)
def goR(d:U KS)(a c:U (U H))(f e:H):ZG:=goL (λb=>goF (re (Gw d a c b f)).1 e (Z a b []) ZZ) (range (F a))
def Zkj{c e}{a:U H}{b d}(g:b<F a):goF c e (ZF b a) d=if a.getD b 0=e then T d else goF c e (ZF (b+1) a) (d||ZE ((a.getD b 0:E)=c)):=by have f:a.getD b 0=a[b]:=w_;rw[aN g,f];rfl
def Zkm{b c a}(d:a<c):goL b (ZF a (range c))=(b a).getD (goL b (ZF (a+1) (range c))):=by rw[aN (by simpa using d)];simp[goL]
def Zh4 a8 x (f e a3:H) i b h a6 l (a9:DaV l a8 x i b h a6)(Q:rf x i b h)(c4:f<x):C_ 246 #[P_ a8,Y9 #[I f,I e,I a3]] l (U_ (ZR (goR i b h f e)) l):=by
 have⟨g,z⟩:=ez_ (goR i b h f e);rw[z];have⟨a2,W⟩:=Z_ (ZN l (O_ #[I f,I e,I a3] 231));have a0:a2.1[B l.1]? =T (O_ #[I f,I e,I a3] 231):=(by rw[<- W];exact hn_);have M:E_ l a2:=(by rw[<- W];exact r_);have c7:=n_ 0 a0;have c8:=n_ 1 a0;have s:=K_ (a9.q M) Q;have r:=Y M;have a5:K (goL _ _=g):=z;have d4:=Q.p;clear a9 Q a0 M z;refine q_ ?_;go_upto_region 1 with fail;clear W;go_wp2_with fail
 go_loopw [5] (λc d=>∃a:H,c=ZX ZQ a/\a<=F b/\K (goL (λa=>goF (re (Gw i b h a f)).1 e (Z b a []) ZZ) (ZF a (range (F b)))=g)/\E_ a2 d) (λc _=>F b-ZL (ZA c))
 exact⟨0,X,v_,a5,y_⟩;clear a5;obtain⟨a,rfl,d2,c,j⟩:=hrel;have⟨d9,a7,G⟩:=(s.1.q j).i
 by_cases w:a<F b
 ·have c1:=F_ a _;obtain⟨d8,c0,b8,d6,rfl,t,a1⟩:=G.2 a w;rw[Zkm w] at c;have b2:=s.2.A a w;have S:=df _ x a _ a6 (s.1.q j) s.2 w c4;have c9:=Ah j c7;have⟨q,L⟩:=Z_ (goL (λa=>goF (re (Gw i b h a f)).1 e (Z b a []) ZZ) (ZF (a+1) (range (F b))));rw[L] at c;have b7:=Y L;clear L;have⟨o,b3⟩:=Z_ (Z b a []);have⟨A,b1⟩:=Z_ (re (Gw i b h a f));have⟨p,P⟩:=Z_ (F o);rw[b1] at S;rw[b3] at t a1 b2;rw[P] at t b2;have n:K ((goF A.1 e o ZZ).getD q=g):=w_;have y:=K_ a1 P;clear b3 b1 P c a1 G;go_wp2_with fail
  apply S.m;rintro d0 c6 ⟨rfl,v⟩;have N:=j.T (v.m j.size);have a4:=Y N;have e0:=Ah v a7;have e1:=Ah v t;have e2:=Ah N c8;clear S c9 a7 t N;go_wp2_with fail
  go_loopw [8,9] (λu m D=>∃(d:H) (k:ZG),m=ZX ZQ d/\u=ZR k/\d<=p/\K ((goF A.1 e (ZF d o) k).getD q=g)/\∃nq,D=Y1 c6 nq) (λ_ m _=>p-ZL (ZA m))
  exact⟨0,ZZ,X,X,v_,n,0,X⟩;clear n;obtain⟨d,k,rfl,rfl,d5,c,b6,c5⟩:=hrel;subst c5
  by_cases c3:d<p
  ·have c2:=F_ d p;have b4:=y.2 ▸ c3;obtain⟨d7,rfl,b9⟩:=y.1 d b4;have e3:=Ah v b9;rw[Zkj b4] at c;generalize (Z o) d 0=u at *
   by_cases b0:u=e
   ·subst b0;rw[aD X] at c;have m:K (k=g):=c;go_wp2_with fail
    go_quiet (fail);go_wp2;go_ret;exact⟨by rw[<- m];rfl,r.T ((below_drewN (below_drewN a4 _) _).m r.size)⟩
   rw[aC b0] at c;have d3:((u:E)==e)=ZZ:=t_;obtain⟨D,d1⟩:=A;simp only at c ⊢;have⟨m,R⟩:=Z_ (k||ZE ((u:E)=D));have n:K ((goF D e (ZF (d+1) o) m).getD q=g):=(by rw[<- R];exact c);clear c;go_wp2_with fail
   go_quiet (fail);go_upto_region 11 with fail
   cases k
   ·have b5:((u:E)==D)=m:=(by rw[<- R,Bool.false_or];exact(Bool.eq_iff_iff.2 s_));refine J_ ?_;exact⟨d+1,m,g_,X,O,n,b6+nq,s_⟩
   have b5:m=Z0:=(by rw[<- R];simp);subst b5;refine J_ ?_;exact⟨d+1,Z0,g_,X,O,n,b6+nq,s_⟩
  have c2:¬d<(p:E):=O;have m:K (q=g):=(by rw[<- c,drop_of_length_le (p_ y.2)];rfl);refine J_ ?_;exact⟨a+1,g_,O,b7 ▸ m,below_drewN a4 _⟩
 have c1:¬a<(F b:E):=O;have m:K (g=ZZ):=(by rw[<- c,drop_of_length_le t_];rfl);obtain⟨b8,c0,rfl⟩:=G.1;go_wp2;go_ret;exact⟨by rw[m];rfl,r.T (j.m r.size)⟩
def Mk.kept{j k:ZT}{g:H}{b:ZY}{c:U ZY}{d:U (U E)}{f:Y0 H}(e:Mk j g b c d)(h:Y3 j k f)(l:ZW b=ZP∨ZW b≠f)(m:∀a,a<F d->ZW (Z c a Dg)=ZP∨ZW (Z c a Dg)≠f):Mk k g b c d:=
 ⟨World.ownsRow.kept e.M h l,λa i=>Ad.kept (e.j a i) h (m a i),e.apart⟩
structure eo(a:ZT)(b f n:H)(h d e o:ZY)(m:U (ZY×ZY))(k l:U ZY)(c:U KS)(j i:U (U H)):Prop where
 v:Nt a f n h d e o
 A:ja a b h m c
 w:Mk a b d k (j.map An)
 y:Mk a b e l (i.map An)
 G:Bl d e
 x:∀g,g<F c->Vc (Z c g Aj)
 t:b<=f
section
variable {W a:ZT} {base db n:H} {vF vB vC vX v':ZY} {kvs:U (ZY×ZY)} {bvs cvs:U ZY} {Ks:U KS} {Fs Cs:U (U H)} {K:H->Prop}
def eo.p(c:eo W base db n vF vB vC vX kvs bvs cvs Ks Fs Cs)(i:Aa K W a)(h:∀d k b,W.1[d]? =T (O_ k b)->b=142∨b=227∨b=25∨b=3∨b=9->base<=d->¬K d):eo a base db n vF vB vC vX kvs bvs cvs Ks Fs Cs:=
 ⟨i.g c.v (h _ _ _ c.v (ZM X) c.t),c.A.p i (λd e b g j f=>h d e b g O f),c.w.p i (λd e b g j f=>h d e b g O f),c.y.p i (λd e b g j f=>h d e b g O f),c.G,c.x,c.t⟩
def eo.b{c b:H}{d:YZ ZY}(e:eo W base db n vF vB vC vX kvs bvs cvs Ks Fs Cs)(k:W.1[c]? =T (O_ d b))(m:b=288∨b=4)(g:Aa (λf=>f=c) W a):eo a base db n vF vB vC vX kvs bvs cvs Ks Fs Cs:=
 e.p g (λo h p l i _ j=>w_)
def eo.j(a:eo W base db n vF vB vC vX kvs bvs cvs Ks Fs Cs):DkV W db n Ks:=⟨n_ 0 a.v,⟨vF,n_ 1 a.v,a.A.h⟩,a.x⟩
def eo.h(a:eo W base db n vF vB vC vX kvs bvs cvs Ks Fs Cs){b:U XS}(c:XsV W vX b):DaV W db n Ks Fs Cs b:=⟨a.j,⟨vB,n_ 2 a.v,a.w.h⟩,⟨vC,n_ 3 a.v,a.y.h⟩,⟨vX,n_ 4 a.v,c⟩⟩
def eo.e{i:ZY}{j:U H}(b:eo W base db n vF vB vC vX kvs bvs cvs Ks Fs Cs)(t:Ad W base i (An j))(s:∀c,c<F Fs->Bl (Z bvs c Dg) i)(g:Y3 W a (ZW vB))(m:ZD a base 25 1 v' (F Fs+1) (bvs++[i]))(u:ZW v'=ZW vB∨ZW v'=T (B W.1)):eo (ZO a (J db 2) v') base db n vF v' vC vX kvs (bvs++[i]) cvs Ks (Fs++[j]) Cs/\Nt a db n vF vB vC vX:=by
 have l:=La (i:=2) b.v b.w.M g m C;have f:Nt _ _ n _ _ _ _:=l.1;have k:Aa _ _ (ZO a _ v'):=(Aa.refl (λd=>d=db) _).setCell (p:=(J _ 2)) (λ_=>X) _;have v:=(Aa.refl _ _).grown g (λh e _=>e)
 have r:=b.A.p v (λh p w e d _ o=>by
  have⟨q,x⟩:=Ac b.w.M o
  grind)
 have q:=b.y.kept g b.G.a (λc d=>Ap b.w.M (b.y.j c d) C);have o:=b.w.P (L:=An j) t (λc d=>s c w_) g (by rw[length_map];exact m);refine⟨⟨l.2.1,r.p k (λh p w e d _=>f.o e O),?_,q.i f k,?_,b.x,b.t⟩,f⟩;rw[map_append];exact o.i f k
 rcases u with d|d
 unfold Bl;rw[d];exact b.G
 cases e:ZW vC with
 |none=>exact ZJ (ZM e)
 |some h=>exact ZJ (ZJ (by rw[d,e];have:=(B_ b.y.M h e).2;simp;omega))
def eo.f{i:ZY}{j:U H}(b:eo W base db n vF vB vC vX kvs bvs cvs Ks Fs Cs)(t:Ad W base i (An j))(s:∀c,c<F Cs->Bl (Z cvs c Dg) i)(g:Y3 W a (ZW vC))(m:ZD a base 25 1 v' (F Cs+1) (cvs++[i]))(u:ZW v'=ZW vC∨ZW v'=T (B W.1)):eo (ZO a (J db 3) v') base db n vF vB v' vX kvs bvs (cvs++[i]) Ks Fs (Cs++[j])/\Nt a db n vF vB vC vX:=by
 have l:=La (i:=3) b.v b.y.M g m C;have f:Nt _ _ n _ _ _ _:=l.1;have k:Aa _ _ (ZO a _ v'):=(Aa.refl (λd=>d=db) _).setCell (p:=(J _ 3)) (λ_=>X) _;have v:=(Aa.refl _ _).grown g (λh e _=>e)
 have r:=b.A.p v (λh p w e d _ o=>by
  have⟨q,x⟩:=Ac b.y.M o
  grind)
 have o:=b.w.kept g b.G.s.a (λc d=>Ap b.y.M (b.w.j c d) C);have q:=b.y.P (L:=An j) t (λc d=>s c w_) g (by rw[length_map];exact m);refine⟨⟨l.2.1,r.p k (λh p w e d _=>f.o e O),o.i f k,?_,?_,b.x,b.t⟩,f⟩;rw[map_append];exact q.i f k
 rcases u with d|d
 unfold Bl;rw[d];exact b.G
 cases e:ZW vB with
 |none=>exact ZM e
 |some h=>exact ZJ (ZJ (by rw[d,e];have:=(B_ b.w.M h e).2;simp;omega))
end
end Go.Proofs.YtfcgnpchbcmdeaaGreat
