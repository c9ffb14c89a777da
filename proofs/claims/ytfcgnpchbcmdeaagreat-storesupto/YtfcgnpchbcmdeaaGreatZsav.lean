import Derived.Test.YtfcgnpchbcmdeaaGreatZsar
open _root_ renaming Nat->H,Option->Y0,List->U,rfl->X,Int->E,ByteArray->ZC,Array->YZ,Int->Z5,Bool->ZG
open Option renaming some->T,none->ZP
open List renaming length->F,getD->Z,take->ZU,replicate->Y6,drop->ZF
open Int renaming toNat->ZL
open Decidable renaming decide->ZE
open Go.Value renaming int->ZX,tuple->Y5,ownBlock->ZW,slice->ZH,string->YW,pointer->Y7,bool->ZR,agg->Y9
open Go.IntKind renaming i64->ZQ
open Go.Proofs renaming intOf->ZA
open Array renaming size->B,setIfInBounds->YS
open Go renaming Value->ZY,World->ZT,strOfNums->ZB,madeCells->YV,maxLen->Y2
open Go.World renaming setCell->ZO,ownsRow->ZD,grownBy->Y3,alloc->ZN,cell?->ZV,drew->YY,frozen?->YT,drewN->Y1
open Or renaming inl->ZM,inr->ZJ
open ByteArray renaming size->ZK
open Go.Ending renaming returned->ZI
open Bool renaming false->ZZ,true->Z0
namespace Go.Proofs.YtfcgnpchbcmdeaaGreat
set_option linter.all false
set_option maxRecDepth 100000
set_option maxHeartbeats 8000000
open Go.RowKit List Nat Go.World Go.Proofs.Tryz Go.Value Go.IntKind Go.Lib Go.Region
def Lu(b:H):Y0 (H×H)->Y0 H
 |some a=>if a.1=b then T a.2 else ZP
 |none=>ZP
def Iz(b:U KS)(a d:U (U H))(f c:H):H:=((range (F a)).findSome? (λe=>Lu c (Gw b a d e f))).getD (Z b c Aj).d
def ZnG{o}{f:H}:((re o).1=f->Lu f o=T (ZL (re o).2)/\(re o).2=ZL (re o).2)/\((re o).1≠f->Lu f o=ZP):=by
 cases o with
 |none=>exact⟨λa=>by simp[re] at a,λ_=>X⟩
 | some b=>
  grind [re,Lu]
def Zj9{a e d b i}(h:b<F a)(l:rt e d (Z a b Dm))(k:∀c,c<b->¬rt e d (Z a c Dm)):xbF a d e i=(Z a b Dm).i:=by
 have g:∀f _,Z a f Dm=a[f]:=λf m=>w_
 have:a.find? (λj=>ZE (rt e d j))=T a[b]:=(by rw[find?_eq_some_iff_getElem];refine⟨w_,b,h,X,λc j=>?_⟩;have:=k c j;rw[g c O] at this;simp only[aE this,Bool.not_false]);unfold xbF;rw[this,g b h]
def ui{a e c f}(i:∀b,b<F a->¬rt e c (Z a b Dm)):xbF a c e f=f:=by
 have h:∀d _,Z a d Dm=a[d]:=λd k=>w_
 have:a.find? (λg=>ZE (rt e c g))=ZP:=by
  rw[find?_eq_none];intro l j;obtain⟨b,g,rfl⟩:=aM j;have:=i b g;rw[h b g] at this
  simpa using this
 unfold xbF;rw[this]
theorem ZcP{d b c g e a x}(k:a<F b)(h:Lu e (Gw d b c a g)=T x)(j:∀f,f<a->Lu e (Gw d b c f g)=ZP):Iz d b c g e=x:=by unfold Iz;have:(range (F b)).findSome? (λa=>Lu e (Gw d b c a g))=T x:=(by rw[findSome?_eq_some_iff];refine⟨range a,a,(range (F b-(a+1))).map (a+1+ ·),?_,h,λf i=>j f (by simpa using i)⟩;rw[show F b=(a+1)+(F b-(a+1)) by omega,range_add,range_succ];simp);rw[this];rfl
theorem wn{b a d f c}(g:∀e,e<F a->Lu c (Gw b a d e f)=ZP):Iz b a d f c=(Z b c Aj).d:=by grind [Iz]
def oz{y} s e d g f i {b} x (m:DaV x y s g f i b)(D:rf s g f i)(a7:e<s)(a6:d<F g)(d3:F b<=1000000):C_ 138 #[P_ y,I e,I d] x (U_ (Y5 #[ZX ZQ (xbF b d e (Iz g f i e d):H),ZX ZQ 0]) x):=by
 have⟨w,v⟩:=ez_ (xbF b d e (Iz g f i e d));rw[v];have⟨d6,c5,z⟩:=m.l;obtain⟨b6,c0,rfl⟩:=z.1;have⟨d5,a1,q⟩:=m.i;obtain⟨b5,b9,rfl⟩:=q.1;have⟨d4,c2,b7,c1,b8,c3,a0,_,_,_,a2⟩:=m.j.z a6;have c4:=m.j.g;have N:=Y z;have L:=K_ m D;have d1:=D.p;clear m D z q;have c6:¬(e:E)<0:=O;have c7:¬s<=(e:E):=O;have c8:¬(d:E)<0:=O;have c9:¬F g<=(d:E):=O;have d0:=F_ d _;refine q_ ?_;go_wp2_with fail
 go_loopw [8] (λh j=>∃a:H,h=ZX ZQ a/\a<=F b/\K (∀c,c<a->¬rt e d (Z b c Dm))/\j=x) (λh _=>F b-ZL (ZA h))
 exact⟨0,X,v_,λc r=>O,X⟩;obtain⟨a,rfl,d2,j,a9⟩:=hrel;subst a9
 by_cases W:a<F b
 ·have⟨P,M,l,Q,A,b4⟩:=N.2 a W;injection l with e1 _ e3;subst e1 e3;have a3:=F_ a _
  by_cases h:rt e d (Z b a Dm)
  ·have t:K (w=(Z b a Dm).i):=(by show _=_;rw[<- v];exact Zj9 W h j);obtain⟨k,n⟩:=h;have e1:(((Z b a Dm).M:_)==(e:E))=_:=beq_iff_eq.2 O;have p:(((Z b a Dm).f:_)==(d:E))=_:=beq_iff_eq.2 O;generalize (Z b a Dm).M=o at *;generalize (Z b a Dm).f=G at *;generalize (Z b a Dm).i=u at *;clear k n;go_wp2;go_ret2
   exact⟨by rw[t];rfl,y_⟩
  have u:K (∀c,c<a+1->¬rt e d (Z b c Dm)):=λc r=>by
   by_cases l:c=a
   rw[l];exact h;exact j c O
  by_cases k:(Z b a Dm).M=e
  ·have n:¬_:=λn=>h ⟨k,n⟩;have e1:(((Z b a Dm).M:_)==(e:E))=_:=beq_iff_eq.2 O;have p:(((Z b a Dm).f:_)==(d:E))=_:=aO O;clear k n h;generalize (Z b a Dm).M=o at *;generalize (Z b a Dm).f=G at *;go_wp2;go_roundw;exact⟨a+1,g_,O,u,trivial⟩;exact z_
  have e1:(((Z b a Dm).M:_)==(e:E))=_:=aO O;clear k h;generalize (Z b a Dm).M=o at *;go_wp2;go_roundw;exact⟨a+1,g_,O,u,trivial⟩;exact z_
 have t:K (w=Iz g f i e d):=(by show _=_;rw[<- v];exact ui (λc r=>j c O));have a3:¬a<(F b:E):=O;clear v N j;have⟨b3,a8⟩:=W_ wr;subst a8;go_wp2_with fail
 go_loopw [9] (λk l=>∃h:H,k=ZX ZQ h/\h<=F f/\K (∀c,c<h->Lu d (Gw g f i c e)=ZP)/\E_ b3 l) (λk _=>F f-ZL (ZA k))
 exact⟨0,X,v_,λc r=>O,y_⟩;obtain⟨h,rfl,n,j,k⟩:=hrel;have b4:=Ah k a1
 by_cases R:h<F f
 ·have a4:h<(F f:E):=O;go_wp2_with fail
  apply (df y s h e b (L.1.q k) L.2 R a7).m;rintro l d7 ⟨rfl,a5⟩;have⟨P,A⟩:=Z_ (Gw g f i h e);have o:=ZnG (o:=P) (f:=d);rw[A];have M:=Y A;have S:=k.T (a5.m k.size);clear A;have⟨b2,G⟩:=Z_ (re P);rw[G] at o ⊢;obtain⟨b0,b1⟩:=b2;simp only at o ⊢
  by_cases p:b0=(d:E)
  ·have⟨Q,q⟩:=o.1 p;have u:K (w=b1):=(by show _=_;rw[t,ZcP R (M ▸ Q) j,<- q]);have e1:=beq_iff_eq.2 p;clear o Q q p G;go_wp2;go_ret2
   exact⟨by rw[u];rfl,S⟩
  have u:K (∀c,c<h+1->Lu d (Gw g f i c e)=ZP):=λc r=>by
   by_cases l:c=h
   rw[l,M];exact o.2 p;exact j c O
  have e1:=aO p;clear o p G;go_wp2;go_roundw;exact⟨h+1,g_,O,u,S⟩;exact z_
 have a4:¬h<(F f:E):=O;have u:K (w=(Z g d Aj).d):=(by show _=_;rw[t,wn (λc r=>j c O)]);have A:=Ah k a0;have o:=Ah k a2;generalize (Z g d Aj).d=l at *;go_wp2;go_ret2
 exact⟨by rw[u];rfl,k⟩
def Zcc{g e b a c f}(d:DkV f g e c)(q:¬(0<=b/\b<(e:E)/\0<=a/\a<(F c:E))):C_ 138 #[P_ g,I b,I a] f (V_ (Y5 #[ZX ZQ 0,ZX ZQ 1]) f):=by
 have⟨r,l,h⟩:=d.h;obtain⟨i,j,rfl⟩:=h.1;have k:=d.g;clear d h;refine q_ ?_
 by_cases m:b<0
 ·go_wp2;go_ret2
  exact⟨X,X⟩
 by_cases n:(e:E)<=b
 ·go_wp2;go_ret2
  exact⟨X,X⟩
 by_cases o:a<0
 ·go_wp2;go_ret2
  exact⟨X,X⟩
 have p:F c<=a:=O;go_wp2;go_ret2
 exact⟨X,X⟩
def Mk.i{a g c d k e p n o q f b}(h:Mk a c e f b)(i:Nt a d k p n o q)(m:Aa (λl=>l=d) a g):Mk g c e f b:=h.p m (λt r u j s _=>i.o j w_)
structure CoI(b wr)(a f)(i h c j)(e)(d:U (U H)):Prop where
 u:Aa (λg=>g=a) b wr
 v:Nt wr a f i h c j
 y:Mk wr (B b.1) c e (d.map An)
 lt:a<B b.1
section
variable {b wr a:ZT} {db n:H} {vF vB vC vX c d:ZY} {cvs:U ZY} {Cs:U (U H)}
def CoI.q(c:CoI b wr db n vF vB vC vX cvs Cs)(d:E_ wr a):CoI b a db n vF vB vC vX cvs Cs:=⟨c.u.q d,(d.block _ c.v.lt).T c.v,c.y.q d,c.lt⟩
def CoI.P{h N}(d:CoI b wr db n vF vB vC vX cvs Cs)(o:Ad wr (B b.1) h (An N))(m:∀g,g<F Cs->Bl (Z cvs g Dg) h)(j:Y3 wr a (ZW vC))(p:ZD a (B b.1) 25 1 c (F Cs+1) (cvs++[h])):CoI b (ZO a (J db 3) c) db n vF vB c vX (cvs++[h]) (Cs++[N])/\Nt a db n vF vB vC vX:=by
 have q:=(Aa.refl _ _).grown j (λf e _=>e);have i:Nt _ _ n _ _ _ _:=q.g d.v (λe=>by obtain⟨k,f⟩:=Ac d.y.M e;exact d.v.o f C X);have l:=d.y.P (L:=An N) o (λg e=>m g w_) j (by rw[length_map];exact p);have r:Aa _ _ (ZO a _ c):=(Aa.refl (λf=>f=db) _).setCell (p:=(J db 3)) (λ_=>X) _;refine⟨⟨(d.u.grown j (λf e k=>p_ (B_ d.y.M f e).1)).setCell (p:=(J db 3)) (λ_=>X) _,ht_ 3 _ _ _ i,?_,d.lt⟩,i⟩;rw[map_append];exact l.p r (λf k t e s _=>i.o e w_)
end
structure ExI(b wr)(a e)(i g h c)(d:U XS):Prop where
 u:Aa (λf=>f=a) b wr
 v:Nt wr a e i g h c
 r:Xr wr (B b.1) 231 3 c (d.map Cw)
 lt:a<B b.1
section
variable {c wr a:ZT} {db n:H} {vF vB vC vX d:ZY} {b:U XS}
def ExI.q(d:ExI c wr db n vF vB vC vX b)(e:E_ wr a):ExI c a db n vF vB vC vX b:=⟨d.u.q e,(e.block _ d.v.lt).T d.v,d.r.q e,d.lt⟩
def ExI.P{x}(e:ExI c wr db n vF vB vC vX b)(i:Y3 wr a (ZW vX))(m:ZD a (B c.1) 231 3 d (F b+1) ((b.map Cw).flatten++Cw x)):ExI c (ZO a (J db 4) d) db n vF vB vC d (b++[x])/\Nt a db n vF vB vC vX:=by have o:=(Aa.refl _ _).grown i (λf h _=>h);have g:Nt _ _ n _ _ _ _:=o.g e.v (λf=>by obtain⟨k,h⟩:=Ac e.r.M f;exact e.v.o h C X);have p:Aa _ _ (ZO a _ d):=(Aa.refl (λf=>f=db) _).setCell (p:=(J db 4)) (λ_=>X) _;have j:=e.r.P (x:=Cw x) (by rw[length_map];exact m) X;refine⟨⟨(e.u.grown i (λf h k=>p_ (B_ e.r.M f h).1)).setCell (p:=(J db 4)) (λ_=>X) _,ht_ 4 _ _ _ g,?_,e.lt⟩,g⟩;rw[map_append];exact j.p p (λq l f=>by obtain⟨k,h⟩:=Ac j.M l;exact g.o h C f)
end
def n1(a:H):H:=if a%2=1 then a/2^^^3988292384 else a/2
def nJ:H->H->H
 |0,a=>a
 |b+1,a=>nJ b (n1 a)
def Zet{c}:∀a b,nJ (c+a) b=nJ c (nJ a b)
 |0,_=>X
 |a+1,b=>Zet a (n1 b)
def zr a b:nJ (a+1) b=n1 (nJ a b):=by rw[Nat.add_comm,Zet];rfl
def ZoX a b:n1 (a^^^b)=n1 a^^^n1 b:=by
 have d:(a^^^b)%2=(a+b)%2:=by
  have c:=testBit_xor (x:=a) (y:=b) (i:=0)
  grind
 have c:(a^^^b)/2=_:=xor_div_two ..;unfold n1
 grind
def ZkS:∀(a b c:H),nJ a (b^^^c)=nJ a b^^^nJ a c
 |0,_,_=>X
 |a+1,b,c=>by show nJ a (n1 (b^^^c))=nJ a (n1 b)^^^nJ a (n1 c);rw[ZoX,ZkS]
def Zqb{a}(b:a<4294967296):n1 a<4294967296:=by unfold n1;split;exact xor_lt_two_pow (n:=32) O C;omega
def ZoY a b:nJ a (2^a*b)=b:=by
 induction a generalizing b with
 |zero=>simp[nJ]
 | succ a d=>
  show nJ a (n1 (2^(a+1)*b))=b;have c:n1 (2^(a+1)*b)=2^a*b:=(by unfold n1;rw[Nat.pow_succ,Nat.mul_comm (2^a) 2,Nat.mul_assoc,aC O];omega);rw[c,d]
def ZcT:U E->H
 |[]=>0
 |a::b=>ZL a+256*ZcT b
def Zmi{b a}(d:b<256):b+256*a=b^^^256*a:=by
 have g:=two_pow_add_eq_or_of_lt (i:=8) d a
 have e:b&&&256*a=0:=by
  apply eq_of_testBit_eq;intro c;rw[testBit_and,zero_testBit]
  by_cases f:c<8
  rw[show 256*a=2^8*a from X,testBit_two_pow_mul,aE O];simp;rw[testBit_lt_two_pow (x:=b) (i:=c) (Qh d (Nat.pow_le_pow_right (n:=2) (i:=8) C O))];simp
 apply eq_of_testBit_eq;intro c;have h:=congrArg (λf=>f.testBit c) e
 grind
def nF(b:H)(a:U E):H:=nJ (8*F a) (b^^^ZcT a)
theorem zp c {a}(e:0<=a/\a<256) b:nF c (a::b)=nF (nJ 8 (c^^^ZL a)) b:=by have d:nF c (a::b)=nJ (8*_+8) (c^^^(_+_)):=rfl;rw[d,Zmi (show ZL a<256 by omega),<- Nat.xor_assoc,Zet,ZkS 8,show 256*ZcT b=2^8*ZcT b from X,ZoY];rfl
theorem Xu(a b:H)(c:a<4294967296)(d:b<4294967296):bits .xor .u32 a b=(a^^^b:H):=by have e:=xor_lt_two_pow (n:=32) c d;simp only[bits,BitVec.ofInt_natCast,BitVec.toNat_xor,BitVec.toNat_ofNat];rw[show IntKind.u32.bits=32 from X,mod_eq_of_lt (show a<2^32 from c),mod_eq_of_lt (show b<2^32 from d)];simp only[wrap,IntKind.bits,signed];simp;omega
def Zjr{a:H}(b:a<4294967296):bits .and .u32 a 1=(a%2:H):=by simp only[bits];rw[show(1:E)=((1:H):E) from X,BitVec.ofInt_natCast,BitVec.ofInt_natCast,BitVec.toNat_and,BitVec.toNat_ofNat,BitVec.toNat_ofNat];rw[show IntKind.u32.bits=32 from X,mod_eq_of_lt (show a<2^32 from b),mod_eq_of_lt (show 1<2^32 by decide),and_one_is_mod];simp only[wrap,IntKind.bits,signed];simp;omega
def Zox{a}(c:a<4294967296):Zba (a:H)=(n1 a:H):=by
 unfold Zba n1;rw[Zjr c]
 rcases mod_two_eq_zero_or_one a with b|b
 ·grind
 rw[b,aD C,aD X,show((a:E)/2)=((a/2:H):E) by omega,show(3988292384:E)=((3988292384:H):E) from X,Xu _ _ O C]
def ZbJ{c}(b:c<4294967296):∀a,nJ a c<4294967296
 |0=>b
 |a+1=>by rw[zr];exact Zqb (ZbJ b a)
theorem ZjR{b}(c:b<4294967296):∀a,gz a (b:H)=(nJ a b:H)
 |0=>X
 |a+1=>by show Zba (gz a b)=_;rw[ZjR c a,Zox (ZbJ c a),zr]
def lp:∀(b:U E) {z:H},z<4294967296->(∀a∈b,0<=a/\a<256)->b.foldl rx (z:H)=(nF z b:H)
 |[],z,_,_=>by simp[nF,nJ,ZcT]
 |a::b,z,h,f=>by have e:=f a s_;obtain⟨c,rfl⟩:=Int.eq_ofNat_of_zero_le e.1;have d:z^^^c<4294967296:=xor_lt_two_pow (n:=32) h O;rw[zp z e,foldl_cons];have g:rx z c=(nJ 8 (z^^^c):H):=(by grind [rx,Xu,ZjR]);rw[g];exact lp _ (ZbJ d 8) (λi d=>f i (by simp[d]))
def cK(c a b:H):H:=nJ b (c^^^a)^^^a/2^b
def Znc a b:(a^^^b)%2=(a+b)%2:=by
 have c:=testBit_xor (x:=a) (y:=b) (i:=0)
 grind
def Zmx a b:cK a b 0=a:=by grind [cK,nJ]
def Zmw c a b:cK c a (b+1)=if cK c a b%2≠a/2^b%2 then cK c a b/2^^^3988292384 else cK c a b/2:=by
 unfold cK;rw[zr,Znc,xor_div_two,Nat.div_div_eq_div_mul,<- Nat.pow_succ];generalize nJ b (c^^^a)=d;unfold n1
 grind
def Zor{b a}(c:a<256):cK b a 8=nJ 8 (b^^^a):=by unfold cK;rw[show a/2^8=0 from div_eq_of_lt c,xor_zero]
def ZnS{c a}(d:c<4294967296)(e:a<256) b:cK c a b<4294967296:=by unfold cK;exact xor_lt_two_pow (n:=32) (ZbJ (xor_lt_two_pow (n:=32) d O) b) (Nat.lt_of_le_of_lt (div_le_self _ _) O)
def Zl1(a b:H)(c:a<4294967296)(d:b<4294967296):bits .xor ZQ a b=(a^^^b:H):=by have e:=xor_lt_two_pow (n:=32) c d;simp only[bits,BitVec.ofInt_natCast,BitVec.toNat_xor,BitVec.toNat_ofNat];rw[show i64.bits=64 from X,mod_eq_of_lt (show a<2^64 by omega),mod_eq_of_lt (show b<2^64 by omega)];simp only[wrap,IntKind.bits,signed];simp;omega
def ZpV(c a b:H):bits .xor ZQ (c%2) (((a:E)/2^b).tmod 2)=if c%2≠a/2^b%2 then 1 else 0:=by
 have d:((a:E)/2^b).tmod 2=(a/2^b%2:H):=w_;rw[d,show((c:E)%2)=((c%2:H):E) by omega,Zl1 _ _ O O]
 grind [mod_two_eq_zero_or_one]
def zK(a:ZC)(b:H):H:=nF 4294967295 (ZU b (Ab a))
def ub c:∀a∈Ab c,0<=a/\a<256:=λa b=>by simp only[Ab,mem_map] at b;obtain⟨d,_,rfl⟩:=b;have:=d.toNat_lt;omega
def Znd{a b}(e:b<256)(c:H:=4294967295)(d:∀x∈a,0<=x/\x<256:=by assumption):nJ 8 (nF c a^^^b)=nF c (a++[(b:E)]):=by
 induction a generalizing c with
 |nil=>grind [nF,nJ,ZcT]
 | cons x a f=>
  grind [zp]
def Zb9 a n (A:a.size<=4000000):C_ 180 #[Q_ a] n (V_ (.int .i64 (Gy (Ab a))) n):=by
 refine q_ ?_;go_upto_region 3 with fail;go_loopw [3,4] (λh g c=>∃(b e:Nat),h=.int .i64 b/\g=.int .i64 e/\e<=a.size/\b<4294967296/\K (b=zK a e)/\K (n=c)) (λ_ g _=>a.size-(intOf g).toNat)
 exact⟨4294967295,0,rfl,rfl,v_,C,by show _=_;simp[zK,nF,nJ,ZcT],rfl⟩;obtain⟨b,e,rfl,rfl,x,m,k,j⟩:=hrel;have r:=j.out;subst r;clear j
 by_cases t:e<a.size
 ·have w:=F_ e _;have⟨f,q⟩:=W_ ((a[e]'t).toNat);have l:f<256:=q ▸ (UInt8.toNat_lt _);have o:=Y q;clear q;go_upto_region 6 with fail;go_loopw [3,5] (λh g i=>∃(d c:Nat),h=.int .i64 d/\g=.int .i64 c/\c<=8/\K (d=cK b f c)/\K (n=i)) (λ_ g _=>8-(intOf g).toNat)
  exact⟨b,0,rfl,rfl,v_,by show _=_;rw[Zmx],rfl⟩;obtain⟨d,c,rfl,rfl,y,h,j⟩:=hrel;have r:=j.out;subst r;clear j
  by_cases z:c<8
  ·have u:0<=(c:Int):=O;have v:(c:Int)<8:=O;have D:d<4294967296:=h ▸ (ZnS m l c);have s:=o.s;go_upto_region 9 with fail;rw[ZpV];have g:=Zmw b f c;rw[<- h] at g
   by_cases i:d%2≠f/2^c%2
   ·rw[aD i] at g ⊢;have p:K (bits .xor .i64 (d/2) 3988292384=(cK b f (c+1):Nat)):=(by show _=_;rw[g,show((d:Int)/2)=((d/2:Nat):Int) by omega];exact Zl1 _ _ O C);clear g i s h;go_wp2;go_roundw;exact⟨cK b f _,c+1,by rw[p],g_,O,rfl,True.intro⟩;exact z_
   rw[aC i] at g ⊢;have p:K (d/2=((cK b f (c+1):Nat):Int)):=(by show _=_;rw[g];omega);clear g i s h;go_wp2;go_roundw;exact⟨cK b f _,c+1,by rw[p],g_,O,rfl,True.intro⟩;exact z_
  have s:c=8:=O;subst s;have g:K (d=zK a (e+1)):=(by show _=_;have u:(Ab a).length=a.size:=(by simp[Ab]);have p:(Ab a)[e]' O=f:=(by rw[o];simp[Ab];rfl);rw[h,Zor l,k];unfold zK;rw[Qi O,p];exact Znd l _ (λv i=>ub a v (aL i)));have i:d<4294967296:=h ▸ (ZnS m l 8);clear h o k;go_wp2;go_roundw;exact⟨d,e+1,rfl,g_,O,i,g,True.intro⟩;exact z_
 have f:e=a.size:=O;subst f;have l:¬a.size<(a.size:Int):=O
 have c:K (bits .xor .i64 b 4294967295=Gy (Ab a)):=by
  show _=_;have u:(Ab a).length=a.size:=(by simp[Ab]);have g:b=nF 4294967295 (Ab a):=(by rw[k];unfold zK;grind);have d:Zg5 (Ab a)=b:=g ▸ (lp _ (z:=4294967295) C (ub a));unfold Gy;rw[d];have h:=Zl1 b 4294967295 m C;have i:=Xu 4294967295 b C m
  grind
 clear k;go_wp2;go_ret;exact⟨by rw[c];rfl,rfl⟩
def loK(c:E)(b a:H):U E:=Ba c a++Y6 (b-a) 0
def Zgd{c a b}(d:b<=a):F (loK c a b)=a:=by simp[loK,Dr];omega
def Zm4{c b a}(d:a<b):(loK c b a).set a (Tu a c%256)=loK c b (a+1):=by unfold loK;rw[set_append_right _ _ (by rw[Dr];omega),Dr,Nat.sub_self,show b-a=(b-(a+1))+1 by omega,replicate_succ,set_cons_zero];simp[Ba]
def Zm3 b a:loK b a a=Ba b a:=by simp[loK]
def To(e:E)(c k:H) b (t:k<=8)(n:c<=1000000000000)(p:(0<=e/\e=c)∨(e<0/\e=c-4294967296)):C_ 135 #[I e,I k] b (U_ (YW (ZB (Ba c k))) b):=by
 have u:=Rd k O;refine dl_ ?_;go_enter func135,ntmps135;go_upto_if 8 with fail
 go_cut [0] (λa d=>a=ZX ZQ (c:H)/\d=b)
 case first=>
  rcases p with⟨d,a⟩|⟨d,a⟩
  ·subst a;have f:¬(c:E)<0:=O;go_wp2;go_meet
   grind
  have f:e+4294967296=c:=O;go_wp2;go_meet
  grind
 obtain⟨rfl,q⟩:=hcut;obtain rfl:=q.s;go_upto_region 4 with fail
 have l:K (Az (ZN b (O_ (YV #[ZX .u8 0] k) 5)) (B b.1) (L_ (B b.1) k k) (loK c k 0)/\E_ b (ZN b (O_ (YV #[ZX .u8 0] k) 5))):=by
  refine⟨?_,r_⟩
  grind [Rb,loK,Ba]
 generalize (ZN b) (O_ (YV #[ZX .u8 0] k) 5)=x at *;go_upto_region 5 with fail;go_loopw [0,6] (λh f g=>∃(a d:H),h=ZX ZQ (d:H)/\f=ZX ZQ a/\a<=k/\d<=1000000000000/\K (Tu a c=(d:E))/\K (Az g (B b.1) (ZH (T ⟨B b.1,0,ZP⟩) k k) (loK c k a)/\E_ b g)) (λ_ f _=>k-ZL (ZA f))
 case atStart=>exact⟨0,c,X,X,v_,n,X,l⟩
 obtain⟨a,d,rfl,rfl,h,v,g,f⟩:=hrel
 by_cases i:a<k
 ·have o:=F_ a k;have⟨r,s⟩:=f.1.c (k:=a) (Zgd h).s i;have j:K (Az (ZO wr (J (B b.1) a) (ZX .u8 (d%256))) (B b.1) (L_ (B b.1) k k) (loK c k (a+1))/\E_ b (ZO wr (J (B b.1) a) (ZX .u8 (d%256)))):=(by have:=f.1.put (k:=a) (Zgd h).s ((d:E)%256);rw[<- g,Zm4 i] at this;rw[<- g];exact⟨this.1,f.2.setCell x_ _⟩);have m:K (Tu (a+1) c=(d/256:H)):=(by show _=_;unfold Tu;rw[g];omega);have w:IntKind.u8.wrap (d%256)=d%256:=(by simp only[wrap,IntKind.bits,signed];simp);go_upto_region 8 with fail;generalize (ZO wr) (J (B b.1) a) (ZX .u8 ((d:E)%256))=y at *;refine J_ ?_;exact⟨a+1,d/256,g_,g_,O,O,m,j⟩
 have o:a=k:=O;subst o;have r:¬a<(a:E):=O;have m:=Pn _ _ f.1;rw[Zm3] at m;have j:=Y f.2;go_wp2;go_ret;exact⟨X,j⟩
def Nn a b:ZB a++ZB b=ZB (a++b):=by apply ByteArray.ext;simp[ZB]
def Ps a:Ba a 1=[a%256]:=rfl
theorem ZcF b c:∀a,a<=F b->Sd (b++[c]) a=Sd b a
 |0,_=>X
 |a+1,f=>by have d:Z (b++[c]) a (0,0)=Z b a (0,0):=w_;have e:Bh (b++[c]) a=Bh b a:=(by grind [Bh]);simp only[Sd];rw[ZcF b c a O,d,e]
def ZlA a b:Sd (a++[b]) (F a+1)=Sd a (F a)++[(b.1-Bh a (F a))%256,b.2%256]:=by grind [Bh,Sd,ZcF]
theorem kv a b:Bh (a++[b]) (F a+1)=b.1:=by unfold Bh;simp[Z]
theorem Zly b:∀a,a<=F b->F (Bu b a)=Dt (ZU a (nzL b))
 |0,_=>by simp[Bu,Dt]
 | a +1,e=>by
  have d:a<F (nzL b):=by rw[Zd];omega
  have c:(nzL b)[a]=ZE (Z b a 0≠0):=by
   have:=ZbR (N:=b) (k:=a) O
   grind
  rw[Qi d,Pm,<- Zly b a O,c];simp only[Bu]
  grind
def ZnE a:F (Bu a (F a))=nzN a:=by grind [Zly,nzN,Zd]
def ZaM b:∀a,-1<=Bh (Bu b a) (F (Bu b a))/\Bh (Bu b a) (F (Bu b a))<a
 |0=>by simp[Bu,Bh]
 | a+1=>by
  have:=ZaM b a
  grind [Bu,kv]
def la:∀b:Fin 64,∀a:Fin 7,a.val<Lib.bitLen b.val->0<b.val/2^a.val:=by decide+kernel
def ZeF{b c a}(d:b a=0):Bg b c (a+1)=Bg b c a:=by
 have:=cy b c a;rw[<- this,lg,d,Nat.zero_mul,Nat.add_zero];apply ext_getElem;simp
 grind [Bg]
def Zh1 b4 (d3 e:H) a j (s:NuV j b4 a)(c2:F a<=200)(a2:e<64)(e7:∀b,Z a b 0<=1000000):C_ 136 #[V b4 (F a) d3,I e] j (U_ (YW (ZB (Ia a e))) j):=by
 have⟨b1,b3⟩:=Y_ s e7;have c9:K (Ia a e=if 4*F (Bu a (F a))<F a then Sj (Bu a (F a)) else 100::Bg (Cf a (Lib.bitLen e)) ((F a*Lib.bitLen e+7)/8) (F a*Lib.bitLen e)):=(by show _=_;rw[ZnE];rfl);have⟨D,c3⟩:=Z_ (F a);have⟨b0,b2⟩:=Y_ c3 (Mi a);rw[c3] at c2 c9 ⊢;refine dl_ ?_;go_enter func136,ntmps136;go_upto_region 5 with fail;go_loopw [5,6,7,8] (λc a7 c7 S d=>∃(b:H) (r:ZC),c=ZX ZQ (F (Bu a b):H)/\a7=YW r/\c7=ZX ZQ (Bh (Bu a b) (F (Bu a b)))/\S=ZX ZQ b/\b<=D/\K (r=ZB (Sd (Bu a b) (F (Bu a b))))/\K (E_ j d)) (λ_ _ _ S _=>D-ZL (ZA S))
 case atStart=>exact⟨0,_,X,X,X,X,v_,X,y_⟩
 obtain⟨b,r,rfl,rfl,rfl,rfl,g5,u,o⟩:=hrel
 by_cases e1:b<D
 ·have b5:b<(D:E):=O;obtain⟨i,rfl,x⟩:=b1 b (b0 ▸ e1);have S:=Ah o x;have a3:=b3 b;have R:K (Bu a (b+1)=_++_):=rfl;have⟨g,a4⟩:=Z_ (Z a b 0);rw[a4] at x S a3 R;have b6:=aJ _ _ x;have y:=ZaM a b;have c5:=b2 b
  by_cases a7:g=0
  ·subst a7;have f:K (Bu a (b+1)=Bu a b):=w_;refine J_ ?_;exact⟨b+1,r,by rw[f],X,by rw[f],g_,O,f ▸ u,o⟩
  have f:K (Bu a (b+1)=Bu a b++[(b,g)]):=w_;have⟨d,a0⟩:=Z_ (Bu a b);rw[a0] at y c5 u f ⊢;have⟨G,A⟩:=Z_ (Bh d (F d));have L:=Y A;rw[A] at y ⊢;obtain⟨l,a5⟩:∃l:H,b-G=l:=⟨ZL ((b:E)-G),O⟩;have b7:_=(l:E):=Au O O;have Q:K (∀c,E_ j c->C_ 135 #[_,I 1] c λh W=>_/\_):=λc n=>(To _ l 1 c O O (ZM ⟨O,X⟩)).m (λ_ _ s=>⟨s.1,n.T (s.2.m n.size)⟩);have t:K (∀c,E_ j c->C_ 135 #[_,I 1] c λh W=>_/\_):=λc n=>(To _ g 1 c O O (ZM ⟨O,X⟩)).m (λ_ _ s=>⟨s.1,n.T (s.2.m n.size)⟩);have a1:ZK r<=2000:=by rw[u,Bi,Om];omega
  have z:ZK (ZB (Ba l 1))=1:=(by rw[Bi];rfl);have W:ZK (ZB (Ba g 1))=1:=by rw[Bi];rfl
  have M:K (ZB (Sd (d++[(b,g)]) (F (d++[(b,g)])))=r++ZB (Ba l 1)++ZB (Ba g 1)):=(by show _=_;rw[Qe,length_singleton,ZlA,L,a5,u,Nn,Nn,Ps,Ps,append_assoc];rfl);have N:K (Bh (d++[(b,g)]) (F (d++[(b,g)]))=b):=by show _=_;rw[Qe,length_singleton,kv]
  have P:K (F (d++[(b,g)])=F d+1):=(by show _=_;simp);generalize ZB (Ba (l:H) 1)=w,ZB (Ba (g:H) 1)=a8,F d=a6 at *;have a9:¬9223372036854775807<ZK r+ZK w:=O;have b8:¬9223372036854775807<ZK r+ZK w+ZK a8:=O;clear z W;go_upto_region 9 with fail;refine rg_ j 12 (λm=>?_) (hS:=o.drew);refine G_ ?_;refine oc_ 4 (Q _ m) ?_;rintro h c8 ⟨rfl,q⟩;refine⟨_,X,q,λm=>G_ ?_⟩;refine oc_ 10 (t _ m) ?_;rintro h f1 ⟨rfl,v⟩;refine⟨_,X,v,λm=>G_ ?_⟩;refine le_ ?_;replace o:=Y v;clear m q v;refine J_ ?_;exact⟨b+1,_,by rw[f,P];go_num,X,by rw[f,N],g_,O,f ▸ M.s,o⟩
 have e6:b=D:=O;subst e6;have c5:=b2 b
 by_cases f6:4*F (Bu a b)<b
 ·have L:K (Ia a e=Sj (Bu a b)):=w_;have g:K (ZB (Sj (Bu a b))=({data:=#[115]}:ZC)++ZB (Ba (F (Bu a b)) 1)++r):=(by show _=_;rw[u,show({data:=#[115]}:ZC)=ZB [115] from X,Nn,Nn];rfl);have f:=To (F (Bu a b):H) (F (Bu a b)) 1;have a1:ZK r<=2000:=(by rw[u,Bi,Om];omega);have z:ZK (ZB (Ba (F (Bu a b)) 1))=1:=(by rw[Bi];rfl);have a9:¬9223372036854775807<1+ZK (ZB (Ba (F (Bu a b)) 1)):=O;generalize ZB (Ba (F (Bu a b):H) 1)=w,F (Bu a b)=a6 at *;have d6:4*a6<(b:E):=O;have t:K (∀c,Calls _ 135 #[_,I 1] c λh W=>_):=λc=>f c O O (ZM ⟨O,X⟩);go_wp2_with fail
  apply (t _).m;rintro h c8 ⟨rfl,q⟩;have d:=Y (o.T (q.m o.size));go_wp2;go_ret;exact⟨by rw[L,g];rfl,d⟩
 have L:K (Ia a e=100::Bg (Cf a (Lib.bitLen e)) ((b*Lib.bitLen e+7)/8) (b*Lib.bitLen e)):=w_;have e0:=Gj a2;have g1:=Ml a2;have d0:K (∀c,c<Lib.bitLen e->0<e/_):=λc b8=>la ⟨e,a2⟩ ⟨c,O⟩ b8;generalize Lib.bitLen e=l at *;have d6:¬4*F (Bu a b)<(b:E):=O;generalize (F (Bu a b))=a6 at *;generalize wr=t at *;go_upto_region 14 with fail;go_loopw [9] (λd f=>∃c:H,d=ZX ZQ c/\c<=l/\K (t=f)) (λd _=>l-ZL (ZA d))
 case atStart=>exact⟨0,X,v_,X⟩
 obtain⟨c,rfl,b8,e8⟩:=hrel;have e9:=e8.out;subst e9
 by_cases d8:c<l
 ·have d:0<=(c:E):=O;have f:(c:E)<64:=O;have g:=d0 c d8;have e4:0<(e:E)/2^c:=w_;refine J_ ?_;exact⟨c+1,g_,O,True.intro⟩
 have d9:c=l:=O;subst d9;have e4:¬0<(e:E)/2^c:=(by grind [div_eq_of_lt]);have⟨v,Q⟩:=Z_ (b*c);have f7:v<=1200:=(by rw[<- Q];exact Nat.mul_le_mul c2 e0);have f8:b*c=(v:E):=(by rw[<- Q];simp);have⟨d,e3⟩:=Z_ ((v+7)/8);have g8:(v+7)/8=(d:E):=O;have g3:=Rd d O;have M:K (_/\v<=8*d/\d<=200):=⟨Q,O,O⟩;rw[Q,e3] at L;go_upto_region 17 with fail;have f2:K (Az (ZN t (O_ (YV #[ZX .u8 0] d) 5)) (B t.1) (L_ (B t.1) d d) (Bg (Cf a c) d 0)/\E_ j (ZN t (O_ (YV #[ZX .u8 0] d) 5))):=by refine⟨?_,o.alloc o.size _⟩;rw[oq];exact Rb _ _ _ O x_
 have e5:=o.size;generalize (ZN t) (O_ (YV #[ZX .u8 0] d) 5)=c8,B t.1=i at *;go_upto_region 18 with fail;go_loopw [11] (λg h=>∃f:H,g=ZX ZQ f/\f<=b/\K (Az h i (ZH (T ⟨i,0,ZP⟩) d d) (Bg (Cf a c) d (f*c))/\E_ j h)) (λg _=>b-ZL (ZA g))
 case atStart=>grind
 obtain⟨f,rfl,g2,m⟩:=hrel
 by_cases c0:f<b
 ·have g6:0<=(f:E):=O;obtain⟨g9,rfl,x⟩:=b1 f (b0 ▸ c0);have a3:=b3 f;have⟨h,z⟩:=Z_ (f*c);have f9:f*c=(h:E):=by rw[<- z];simp
  have g0:h+c<=v:=by
   rw[<- z,<- M.1];have:(f+1)*c<=b*c:=aK _ c0
   grind
  have a9:K (∀k,_->Cf a c (h+k)=_%2):=λk c1=>by rw[<- z];exact Mz a c1
  have d1:=Y z;rw[z] at m;have⟨g,a4⟩:=Z_ (Z a f 0);rw[a4] at x a3 a9;generalize wr=f1 at *;go_upto_region 21 with fail;go_loopw [12] (λn q=>∃k:H,n=ZX ZQ k/\k<=c/\K (Az q i (ZH (T ⟨i,0,ZP⟩) d d) (Bg (Cf a c) d (h+k))/\E_ j q)) (λn _=>c-ZL (ZA n))
  case atStart=>exact⟨0,X,v_,m⟩
  obtain⟨k,rfl,c1,m⟩:=hrel
  by_cases e2:k<c
  ·have g7:0<=(k:E):=O;have f4:=T_ m.2 x;have A:=a9 k e2;have g4:=M.out;have b6:((g:E)/2^k).tmod 2=(g/2^k%2:H):=by rw[show((g:E)/2^k)=((g/2^k:H):E) by simp];rfl
   rcases mod_two_eq_zero_or_one (g/2^k) with d7|b9
   ·rw[d7] at A b6;have n:K (Bg _ d (h+(k+1))=Bg _ _ (h+k)):=ZeF A;refine J_ ?_;exact⟨k+1,g_,O,n ▸ m⟩
   rw[b9] at A b6;have⟨w,y⟩:=W_ (h+k);have⟨q,P⟩:=W_ (w/8);have⟨n,a1⟩:=W_ (w%8);have b7:q<d:=O;have⟨N,b5⟩:=m.1.c (k:=q) (by rw[Dj]) b7;rw[Kj _ _ b7] at N;have⟨a8,R⟩:=W_ (Hf (Cf a c) (h+k) q);have f0:a8<2^n:=by rw[R,P,a1,<- y];exact lh (Jf a c) w
   have d5:2^n<=128:=by
    have:(2:H)^n<=2^7:=Nat.pow_le_pow_right C O
    simpa using this
   have⟨a0,a5⟩:=W_ (2^n);have⟨G,c6⟩:=W_ (a8+a0);have c4:Hf (Cf a c) (h+k+1) q=G:=by rw[c6,a5,R,P,a1,<- y,lg,y,A,Nat.one_mul]
   have d2:K ((Bg (Cf a c) d (h+k)).set q G=Bg (Cf a c) d (h+(k+1))):=by show _=_;rw[<- c4];have:=cy (Cf a c) d (h+k);rw[<- y,<- P,y] at this;exact this
   have h0:h+k=(w:E):=O;have h1:w/8=(q:E):=O;have h2:(w:E).tmod 8=n:=by rw[Int.tmod_eq_emod_of_nonneg O];omega
   have a7:IntKind.u8.wrap (1*2^n)=a0:=by
    rw[Int.one_mul,Zw _ (by have:(0:H)<=2^n:=v_;exact_mod_cast this) (by
     have:((2:E)^n)=((2^n:H):E):=s_
     rw[this];omega)]
    rw[a5];simp
   have h3:IntKind.u8.wrap (2^n)=a0:=(by rw[<- a7,Int.one_mul]);have c7:IntKind.u8.wrap (a8+a0)=G:=(by rw[Zw _ O O];omega);have S:_=(q:E):=Au O O;have f3:(n:E)<=8:=O;rw[<- R] at N;have d4:ZV (YY wr) _=_:=N;have f5:YT (YY wr) _=_:=b5;clear b9 A y P a1 N b5 R f0 a5 c6 c4 d5;go_upto_region 25 with fail;refine Af (λW=>ZV W _=T _) 13 k_ d4 (λhHeld=>?_);refine tkP 0 ?_;refine tkP 1 ?_;refine tkP 2 ?_;refine tkP 3 ?_;refine tkP 4 ?_;refine tkP 5 ?_;refine tkP 6 ?_;refine Mj [11,12,13] (i:=7) (v:=?_) X k_ k_ k_ k_ k_ (λ_ _ _ s=>s) (ZM ⟨by rfl,?_⟩) a_ ?_
   rotate_left
   ·intro j W
    (try dsimp only at W)
    go_simp;try with_reducible rfl
   try simp only[Act.put,sA,sB,sC]
   refine tkP 8 ?_;refine tkP 9 ?_;refine tkP 10 ?_;refine tkP 11 ?_;refine tkP 12 ?_;refine Ew (i:=13) k_ X k_ (λKK hK=>?_);go_simp;apply hK _ _;try simp only[Act.put,sA,sB,sC]
   refine Fr k_ ?_ _;have W:K (Az (YY (ZO wr (J i q) (ZX .u8 G))) i (L_ i d d) (Bg (Cf a c) d (h+(k+1)))/\E_ j (YY (ZO wr (J i q) (ZX .u8 G)))):=(by rw[<- d2];exact⟨World.ownsRow.drew (m.1.put (by rw[Dj]) _).1,(m.2.setCell (p:=(J i q)) e5 _).drew⟩);refine J_ ?_;exact⟨k+1,g_,O,W⟩
  have q:k=c:=O;subst q;have n:K (Az wr i (L_ i d d) (Bg (Cf a k) d ((f+1)*k))/\E_ j wr):=(by have:(f+1)*k=h+k:=(by rw[Nat.add_mul,Nat.one_mul,d1]);rw[this];exact m);refine J_ ?_;exact⟨f+1,g_,O,n⟩
 have h:f=b:=O;subst h;have q:=Pn _ i m.1;have n:=Y m.2;have g:K (ZB (Ia a e)=({data:=#[100]}:ZC)++ZB (Bg (Cf a c) d (f*c))):=(by show _=_;rw[L,M.1,show({data:=#[100]}:ZC)=ZB [100] from X,Nn];rfl);have w:ZK (ZB (Bg (Cf a c) d (f*c)))=d:=(by rw[Bi,Dj]);have x:=M.2.2;generalize ZB (Bg (Cf a c) d (f*c))=y at *;go_wp2;go_ret;exact⟨by rw[g];rfl,n⟩
def oo j i s {y p} h {q r} c g (P:WB g j i)(M:i[6]? =T y)(N:i[7]? =T p)(L:i[12]? =T (I c))(w:Ad g 0 s h)(S:ZD g 0 25 1 y (F q) q)(R:ZD g 0 3 1 p (F r) r)(Q:ZW p=ZP∨ZW p≠ZW s)(c2:F h<=4194304)(c3:F q<=100000000)(c4:F r<=100000000)(a9:0<=c/\c<=100000000):C_ 142 #[Y7 (T (J j 4)),s] g λb e=>b=ZI (Y5 #[])/\∃a1 a0 d,ae g e j 6 i 25 3 (λa=>Eb a 3 (I (-(c+1)))) (I (-(c+1))) s y p q r (c+1) a1 a0 d:=by
 obtain⟨A,D,rfl⟩:=w.d;have z:K (_=F (h.map (ZX ZQ))):=(length_map _).s;obtain⟨e,f,a4,o,a7⟩:=ZbY (I (c+1)) (Ta (h.map (ZX ZQ)) (I (-(c+1)))) P (by rw[bc];exact w) S R Q M N L;generalize (F h)=k,h.map (ZX ZQ)=a2 at *;obtain⟨c5,c6⟩:=a9;have⟨d,W⟩:=Z_ (-(c+1));have c8:=(Au O O).T W;rw[W] at f ⊢;clear P w S R Q M N L;refine q_ ?_;go_upto_region 3 with fail;generalize (ZO g) (J j 12) (I (c+1))=b8 at *;clear a4 o a7;go_loopw [5] (λa l=>∃b:H,b<=k/\a=ZX ZQ b/\K (tp g l j (YS i 12 (I (c+1))) 3 1 (ZH A k D) k (Ta a2 (I d)) b)) (λa _=>k-ZL (ZA a))
 case atStart=>exact⟨0,v_,X,f⟩
 clear f;obtain⟨b,c1,rfl,f⟩:=hrel
 by_cases x:b<k
 ·obtain⟨t,rfl⟩:=f.ptr x;have⟨⟨u,l⟩,n,a⟩:=f.ab z x e.l;clear f;refine J_ ?_;exact⟨b+1,x,g_,a⟩
 obtain rfl:b=k:=O;have t:=Y (f.N Eb.b (by rw[z,ba]) (by unfold Y2;omega));clear f;go_wp2_with (at_builtin;refine ap_ [I d] (t.n.M.alloc _) ?_)
 intro d4 b8 a;have u:=t.P Eb.b (m:=1) e.l a;obtain⟨b4,b0,rfl⟩:=a.2.2.2.2;clear a t;go_wp2_with (at_builtin;refine ap_ [I d,I d] (u.n.M.alloc _) ?_)
 intro d5 d0 a;have v:=u.P Eb.b (m:=2) e.l a;obtain⟨b5,b1,rfl⟩:=a.2.2.2.2;clear a u;go_wp2_with (at_builtin;refine ap_ [I d,I d,I d] (v.n.M.alloc _) ?_)
 intro d6 d1 a;have n:=v.P Eb.b (m:=3) e.l a;obtain⟨b6,b2,rfl⟩:=a.2.2.2.2;clear a v;have a5:=(n.v.cell 6).T e.t;have o:=n.v.frozen;go_wp2_with (at_builtin;refine ap_ [V A b D,L_ b4 (b+1) b0,L_ b5 (b+2) b1,L_ b6 (b+3) b2] ((e.M n).1.alloc _) ?_)
 intro a1 b9 a;have⟨a8,G,l⟩:=n.M Eb.b e a;obtain⟨b7,b3,rfl⟩:=a.2.2.2.2;clear a n a5 o;go_upto_region 10 with fail;generalize (ZO b9) (J j 6) (L_ b7 (F q+4) b3)=d2 at *;have a6:=l.cell e;have o:=l.v.frozen;clear a8 G;go_wp2_with (at_builtin;refine ap_ [I d,I d,I d,I d] (l.w.alloc _) ?_)
 intro a0 d3 a;obtain⟨c0,G,a3⟩:=l.M Eb.b e r_ X a;obtain⟨c9,c7,rfl⟩:=a.2.2.2.2;clear a l a6 o;go_wp2;go_end0;exact⟨X,_,_,_,a3⟩
def ae.a{w z x e i g o p f j q t r v k m u s l}(a:ae z x e i g o p f j q t r v k m u s l)(n:Aa (λb=>b=e) w z):ae w x e i g o p f j q t r v k m u s l:=
 have A:=n.size
 ⟨a.v,a.x,a.w,a.y,λy h=>⟨(a.all y h).1,λb c=>((a.all y h).2 b c).imp id λd=>O⟩,(n.m λ_ _ d=>ZM d).T a.u,λb c=>(a.D b c).imp id λd=>O,λb c=>(a.z b c).imp id λd=>O,a.A,a.G,a.lt⟩
def tp.a{r d j o b c i g f a}(k:tp r d j o 98 4 (L_ b c i) c (λa=>flat (Fv g f a)) a)(q:c=F g)(y:a<c)(x:T j≠ZW (L_ b c i)):(∃e:Cd,ZV d (J b (a*4))=T (I e.v)/\ZV d (J b (a*4+1))=T (I e.t)/\ZV d (J b (a*4+2))=T (I e.h)/\ZV d (J b (a*4+3))=T (I e.g))/\(∀n,YT d (J b n)=ZZ)/\K (tp r (ZO (ZO (ZO (ZO d (J b (a*4)) (I f)) (J b (a*4+1)) (I 0)) (J b (a*4+2)) (I 0)) (J b (a*4+3)) (I 0)) j o 98 4 (L_ b c i) c (λa=>flat (Fv g f a)) (a+1)):=by
 have e:F (Fv g f a)=c:=(by rw[fd O,q]);have h:F (Y6 a (Lz f))=a:=s_;have m:Ai d 0 (L_ b c i) (Fv g f a):=(by unfold Ai;rw[e];exact k.M);rw[ZdY O] at m e;have⟨s,t,u,v,_⟩:=m.at e.s h;refine⟨⟨_,s,t,u,v⟩,λn=>World.ownsRow.frozenAt k.M n,?_,?_,?_⟩;have:=(((m.b e.s s_ (Zhk h f)).b (e.s.T s_) s_ (Mn h 0)).b (e.s.T s_) s_ (Mo h 0)).b (e.s.T s_) s_ (Mp h 0);rw[<- yv] at this;unfold Ai at this;rw[fd O,<- q] at this;exact this
 exact(((k.u.setCell (p:=J b (a*4)) (λ_=>ZJ X) _).setCell (p:=J b (a*4+1)) (λ_=>ZJ X) _).setCell (p:=J b (a*4+2)) (λ_=>ZJ X) _).setCell (p:=J b (a*4+3)) (λ_=>ZJ X) _;have l:j≠b:=λw=>x (by rw[w];rfl);exact(((k.v.h (p:=J b (a*4)) l).h (p:=J b (a*4+1)) l).h (p:=J b (a*4+2)) l).h (p:=J b (a*4+3)) l
def zt d n S {W D} h {G R} f b (r:WB b d n)(b7:n[4]? =T W)(b8:n[5]? =T D)(a7:n[12]? =T (I f))(y:Ai b 0 S h)(b1:ZD b 0 29 1 W (F G) G)(P:ZD b 0 3 1 D (F R) R)(e8:F h<=4194304)(e9:F G<=100000000)(f0:F R<=100000000)(d4:0<=f/\f<=100000000):C_ 174 #[Y7 (T (J d 4)),S] b λg a0=>g=ZI (Y5 #[])/\∃c5 b3 a,ae b a0 d 4 n 29 3 (λl=>Hx l (-(f+1))) (I (-(f+1))) S W D G R (f+1) c5 b3 a:=by
 obtain⟨p,q,rfl⟩:∃p q,S=ZH p (F h) q:=by
  rcases y.2 with⟨rfl,c⟩|⟨g,a,e,rfl,_⟩
  exact⟨ZP,0,by rw[c]⟩;exact⟨_,a,X⟩
 have c7:ZV b (J d 12)=T (I f):=(by rw[r.cell];exact a7);have a5:=r.frozen;obtain⟨f1,f2⟩:=d4;have⟨e,c2⟩:=Z_ (-(f+1));have d9:i64.wrap (-(f+1))=e:=(Au O O).T c2;have⟨o,A⟩:=W_ (ZN (ZO b (J d 12) (I (f+1))) (O_ #[I e,I 0,I 0,I 0] 98));have a9:=r.set 12 (I (f+1));have b0:WB o d (YS n 12 (I (f+1))):=A ▸ (a9.alloc _);have b5:K (Aa (λa=>a=d) b o):=A ▸ (((Aa.refl (λa=>a=d) _).setCell (p:=(J d 12)) (λ_=>X) _).alloc _);have Q:∀{b2 c3 k:H} {c4:_} {c6:_},ZD b 0 b2 c3 c4 k c6->b2≠90->ZD o 0 b2 c3 c4 k c6:=λc0 d3=>b5.M c0 (λa z g=>by subst g;exact r.apart c0 d3 z.s);have a8:=Q y C
 have i:=Y (OwC.N (i:=4) b0 a8 (Q b1 C) (Q P C) (Ap y P C) (by rw[aH C];exact b7) (by rw[aH C];exact b8));have c1:B (ZO b (J d 12) (I (f+1))).1=B b.1:=(by simp[ZO]);have a2:K (H_ o (B b.1) #[I e,I 0,I 0,I 0] 98):=by rw[A,<- c1];exact hn_
 have L:K (¬(B b.1=d∨ZW (ZH p (F h) q)=T (B b.1)∨ZW W=T (B b.1)∨ZW D=T (B b.1))):=λg=>by
  have:=r.lt
  rcases g with g|g|g|g
  omega;exact Nat.lt_irrefl _ (B_ y _ g).2;exact Nat.lt_irrefl _ (B_ b1 _ g).2;exact Nat.lt_irrefl _ (B_ P _ g).2
 have a1:K (∀l,Aa (λa=>a=d∨ZW (ZH p (F h) q)=T a) o l->ZV l (J (B b.1) 0)=T (I e)/\ZV l (J (B b.1) 1)=T (I 0)/\ZV l (J (B b.1) 2)=T (I 0)/\ZV l (J (B b.1) 3)=T (I 0)):=λl e4=>
  have a:=e4.g a2 (λg=>L (g.imp id ZM))
  n4_ (n_ 0 a) (n_ 1 a) (n_ 2 a) (n_ 3 a)
 have j:K (tp o o d (YS n 12 (I (f+1))) 98 4 (V p (F h) q) (F h) (λa=>flat (Fv h e a)) 0):=⟨by simpa [Fv] using a8,Aa.refl _ _,b0⟩;have c9:ZV (ZO b (J d 12) (I (f+1))) (J d 12)=T (I (f+1)):=(by rw[a9.cell];have:=(Qb a7).1;simp[this]);rw[c2];clear r y b1 P b7 b8 a7 a9 b0 Q a8;generalize b9:F h=k at *;have b4:=Y b9.s;clear b9;refine q_ ?_;go_wp2_with fail
 rw[<- A];clear A c7 a5 c9 d9 c1;go_loopw [5] (λc s=>∃a:H,a<=k/\c=ZX ZQ a/\K (tp o s d (YS n 12 (I (f+1))) 98 4 (ZH p k q) k (λa=>flat (Fv h e a)) a)) (λc _=>k-ZL (ZA c))
 case atStart=>exact⟨0,v_,X,j⟩
 clear j;obtain⟨a,e7,rfl,j⟩:=hrel;have⟨u,v,w,x⟩:=a1 _ j.u
 by_cases z:a<k
 ·obtain⟨a3,rfl⟩:=j.ptr z;have⟨⟨a4,s,t,M,N⟩,a0,c⟩:=j.a b4 z i.l;clear j;refine J_ ?_;exact⟨a+1,z,g_,c⟩
 obtain rfl:a=k:=O;have a3:=Y (j.N Hx.b (by show flat (Fv h e a)=_;unfold Fv;rw[drop_eq_nil_of_le (by rw[<- b4];exact x_),append_nil]) (by unfold Y2;omega));clear j;go_wp2_with (at_builtin;refine ap_ [I e,I 0,I 0,I 0] (a3.n.M.alloc _) ?_)
 intro f9 f5 c;have M:=a3.P Hx.b (m:=1) i.l c;obtain⟨e0,d5,rfl⟩:=c.2.2.2.2;clear c a3 u v w x;have⟨u,v,w,x⟩:=a1 _ M.n.u;go_wp2_with (at_builtin;refine ap_ [I e,I 0,I 0,I 0,I e,I 0,I 0,I 0] (M.n.M.alloc _) ?_)
 intro g0 f6 c;have N:=M.P Hx.b (m:=2) i.l c;obtain⟨e1,d6,rfl⟩:=c.2.2.2.2;clear c M u v w x;have⟨u,v,w,x⟩:=a1 _ N.n.u;go_wp2_with (at_builtin;refine ap_ [I e,I 0,I 0,I 0,I e,I 0,I 0,I 0,I e,I 0,I 0,I 0] (N.n.M.alloc _) ?_)
 intro g1 f7 c;have t:=N.P Hx.b (m:=3) i.l c;obtain⟨e2,d7,rfl⟩:=c.2.2.2.2;clear c N u v w x;have c8:=(t.v.cell 4).T i.t;have a5:=t.v.frozen;go_wp2_with (at_builtin;refine ap_ [V p a q,L_ e0 (a+1) d5,L_ e1 (a+2) d6,L_ e2 (a+3) d7] ((i.M t).1.alloc _) ?_)
 intro c5 e5 c;have⟨d0,b6,s⟩:=t.M Hx.b i c;obtain⟨e3,d8,rfl⟩:=c.2.2.2.2;clear c t c8 a5;go_upto_region 10 with fail;generalize (ZO e5) (J d 4) (L_ e3 (F G+4) d8)=f8 at *;have a4:=s.cell i;have a6:=n_ 0 (s.u.g a2 L);clear d0 b6;refine Af (λa0=>ZV a0 _=T D/\ZV a0 _=T (I e)) 17 k_ ⟨a4,a6⟩ (λhHeld=>?_);refine G_ ?_;refine on_ 13 λKK hK=>?_;go_simp;refine hK _ _ ⟨X_ a4,X_ a6⟩ (λhHeld=>?_);clear hK KK;try simp only[Act.put,tA_,tB_,tC_]
 refine on_ 14 λKK hK=>?_;refine aq_ [I e,I e,I e,I e] ((World.ownsRow.drew s.w).alloc _) ?_;intro b3 e6 c;obtain⟨d1,b6,a0⟩:=s.M Hx.b i (y_.drew.alloc x_ _) X c;have d2:=n_ 0 ((Below.heap_setCell e6 (J d 5) b3 (B b.1) λg=>L (ZM g)).s.T (a0.u.g a2 L));obtain⟨f4,f3,rfl⟩:=c.2.2.2.2;clear c s a4 a6;refine hK _ _ ⟨d1,d2⟩ (λhHeld=>?_);clear hK KK;refine G_ ?_;refine le_ ?_;go_wp2;go_end0;exact⟨X,_,_,_,a0.a b5⟩
def Ir:ZY:=N_
structure Vb(i:ZT)(f:H->H)(j:YZ ZY)(c n o:H)(k:ZT->ZY->ZY->Prop)(l)(h g)(a d):Prop where
 t:j[c]? =T h
 D:j[c+1]? =T g
 x:ZD i 0 n 1 h (F a) a
 on:∀b,ZW h=T b->f b=c
 w:ZD i 0 o 1 g (F d) d
 q:∀b,ZW g=T b->f b=c+1
 y:F d=F a
 p:F a<=4*l
 all:∀e,e<F a->Kc i f 13 (λm=>k m (Z a e Ir) (Z d e Ir))
def fE(b:ZT)(x c:ZY):Prop:=∃a:E,c=I a/\Hx b a x
def fN(b:ZT)(x a:ZY):Prop:=(∃c:E,a=I c)/\Eb b 3 a x
def fS(b:ZT)(x a:ZY):Prop:=(∃c:ZC,a=YW c)/\Eb b 9 a x
def fL(a:ZT)(x b:ZY):Prop:=∃d c,b=I d/\Eb a 25 (L_ c 1 1) x/\a.1[c]? =T (O_ #[b] 3)
def tlB:H->H|4=>29|6=>25|8=>47|_=>84
def tmB:H->H|8=>9|_=>3
def fB:H->ZT->ZY->ZY->Prop|4=>fE|6=>fN|8=>fS|_=>fL
def Grp(i:ZT)(e:H->H)(c:YZ ZY)(a b:H):Prop:=∃g f h d,Vb i e c a (tlB a) (tmB a) (fB a) b g f h d
def Gs(e:ZT)(d:H->H)(c:YZ ZY)(b:H):Prop:=∀a,a=4∨a=6∨a=8∨a=10->Grp e d c a b
section
variable {w w':ZT} {o d:H->H} {c j:YZ ZY} {g i l m N:H} {nx:Z5} {p:ZT->ZY->ZY->Prop} {A:ZT->ZY->Prop} {v n b a h f:ZY} {vs e k:U ZY} {S E:H->Prop}
def Ek.at(b:Ek w o d){k a}(c:k<B w.1)(e:o k=a)(f:a≠99):d k=a:=by have:=b k c;omega
def Vb.z(g:Vb w o c i l m p N b a vs e)(s:Aa S w w')(r:∀f,f<B w.1->S f->o f≠i/\o f≠i+1/\o f≠13)(q:Ek w o d)(P:i<20)(u:j[i]? =c[i]?)(x:j[i+1]? =c[i+1]?){t}(M:N<=t):Vb w' d j i l m p t b a vs e:=
 have n {G D:H} {v L} (z:ZD w 0 G 1 v D L) f h:=(B_ z f h).2
 ⟨u.T g.t,x.T g.D,s.M g.x (λf h k=>(r f (n g.x f h) k).1 (g.on f h)),λf h=>q.at (n g.x f h) (g.on f h) O,s.M g.w (λf h k=>(r f (n g.w f h) k).2.1 (g.q f h)),λf h=>q.at (n g.w f h) (g.q f h) O,g.y,p_ g.p,λA y=>(g.all A y).i s (λf h k=>(r f h k).2.2) q⟩
def Vb.G(h:Vb w o c i l m p N b a vs e)(j:∀d,ZW v=T d->o d=99)(k:i<20):ZW a=ZP∨ZW a≠ZW v:=by
 cases f:ZW a with
 |none=>exact ZM X
 |some d=>exact ZJ (λg=>oj_ (h.q d f) (j d g.s))
def Gs.z(h:Gs w o c N)(s:Aa S w w')(r:∀f,f<B w.1->S f->o f=0∨13<o f)(q:Ek w o d)(g:∀k,4<=k->j[k]? =c[k]?){l}(m:N<=l):Gs w' d j l:=λi n=>by have⟨b,a,vs,e,h⟩:=h i n;exact⟨b,a,vs,e,h.z s (λf p g=>p_ (r f p g)) q O (g _ O) (g _ O) m⟩
structure Gz(w)(o:H->H)(g)(c)(N:H):Prop where
 v:WB w g c
 b:o g=0
 x:B c=13
 p:∃a:Z5,c[12]? =T (I a)/\0<=a/\a<=N
 h:Gs w o c N
def Gz.put(b:Gz w o g c N)(s:Aa S w w')(p:∀k,k<B w.1->S k->k=g∨13<o k)(q:WB w' g j)(h:Ek w o d)(a:∀e,4<=e->j[e]? =c[e]?)(r:B j=13){f}(m:N<=f:=by exact x_):Gz w' d g j f:=by have⟨t,i,l,u⟩:=b.p;exact⟨q,h.at b.v.lt b.b C,r,⟨t,(a _ C).T i,l,O⟩,b.h.z s (λk n a=>by rcases p k n a with rfl|a;exact ZM b.b;exact ZJ a) h a m⟩
def Gz.z(a:Gz w o g c N)(h:Aa S w w')(f:∀b,b<B w.1->S b->13<o b)(j:Ek w o d):Gz w' d g c N:=
 a.put h (λb i e=>ZJ (f b i e)) (h.g a.v λe=>oj_ (f g a.v.lt e) a.b) j (λ_ _=>X) a.x
def Wz(w:ZT)(o:H->H)(E:H->Prop)[DecidablePred E](i:H)(b a:ZY)(c:H):H:=
 if c<B w.1/\o c≠99 then o c else if E c then 13 else if ZW b=T c then i else if ZW a=T c then i+1 else 99
variable [DecidablePred E]
def Mt w o E [DecidablePred E] i b a:Ek w o (Wz w o E i b a):=λd c=>by grind [Wz]
def cx{c}(d:E c)(e:c<B w.1->o c=99):Wz w o E i b a c=13:=by grind [Wz]
theorem ZeE(q:Vb w o c i l m p N b a vs e)(s:ae w w' g i c l m A n v b a vs e nx h f k)(r:o g=0){d}(j:d=g∨ZW v=T d∨ZW b=T d∨ZW a=T d):o d=0∨ZW v=T d∨o d=i∨o d=i+1:=by
 rcases j with rfl|j|j|j
 exact ZM r
 ·grind
 exact ZJ (ZJ (ZM (q.on d j)));exact ZJ (ZJ (ZJ (q.q d j)))
def Vb.grow(r:Vb w o c i l m p N b a vs e)(s:ae w w' g i c l m A n v b a vs e nx h f k)(W:i=4∨i=6∨i=8∨i=10)(a1:o g=0)(a2:∀d,ZW v=T d->o d=99)(a3:B c=13)(a0:l≠m)(S:∀d,E d->ZW h≠T d)(D:∀d,E d->ZW f≠T d)(G:∀x∈k,Kc w' (Wz w o E i h f) 13 (λz=>p z x n)):Vb w' (Wz w o E i h f) (YS (YS (YS c 12 (I nx)) i h) (i+1) f) i l m p (N+1) h f (vs++k) (e++Y6 4 n):=by
 have y:=s.y;refine⟨w_,w_,?_,λd t=>?_,?_,λd t=>?_,by simp[r.y,y],gh_ r.p,λj L=>?_⟩;rw[Qe,y];exact s.x
 ·rcases s.D d t with q|q
  exact(Mt w o E i _ _).at (B_ r.x d q).2 (r.on d q) O
  grind [Wz]
 rw[Qe,length_replicate];exact s.w
 ·rcases s.z d t with q|q
  exact(Mt w o E i _ _).at (B_ r.w d q).2 (r.q d q) O;unfold Wz;rw[aC O,aC (λu=>D d u t),aC (λu=>?_),aD t];have⟨M,Q⟩:=Ac s.x u;have⟨P,R⟩:=Ac s.w t
  grind
 rw[Qe,y] at L;have M:=r.y
 by_cases u:j<F vs
 ·rw[show Z (vs++k) j Ir=Z vs j Ir by grind,show Z (e++Y6 4 n) j Ir=Z e j Ir by grind];refine(r.all j u).i s.u (λd t q=>?_) (Mt w o E i _ _)
  grind [ZeE]
 rw[show Z (vs++k) j Ir=k[j-F vs] by grind,show Z (e++Y6 4 n) j Ir=n by grind];exact G _ (Qf _)
def Zah{c:YZ ZY}{i a x b d}(e:a≠12/\a≠i/\a≠i+1):(YS (YS (YS c 12 x) i b) (i+1) d)[a]? =c[a]?:=w_
abbrev oa(k:U ZY)(a:H):Prop:=∃b∈k,ZW b=T a
def Gs.D(m:Gs w o c N)(s:i=4∨i=6∨i=8∨i=10)(r:Vb w o c i (tlB i) (tmB i) (fB i) N b a vs e)(l:ae w w' g i c (tlB i) (tmB i) A n v b a vs e nx h f k)(p:o g=0)(u:B c=13)(z:g<B w.1)(S:∀d,ZW v=T d->o d=99)(P:0<=nx/\nx<=N+1)(G:∀d,E d->ZW h≠T d)(D:∀d,E d->ZW f≠T d)(L:∀x∈k,Kc w' (Wz w o E i h f) 13 (λy=>fB i y x n)):Gz w' (Wz w o E i h f) g (YS (YS (YS c 12 (I nx)) i h) (i+1) f) (N+1):=by
 have q:=Mt w o E i h f;refine⟨l.v,q.at z p C,by simp[u],⟨nx,w_,P.1,O⟩,λt M=>?_⟩
 by_cases j:t=i
 subst j;exact⟨h,f,_,_,r.grow l s p S u (by rcases s with rfl|rfl|rfl|rfl<;>decide) G D L⟩;have⟨W,a0,Q,R,m⟩:=m t M;refine⟨W,a0,Q,R,m.z l.u (λd a1 j=>?_) q O (Zah O) (Zah O) (le_succ _)⟩
 rcases ZeE r l p j with j|j|j|j
 omega
 ·grind
 omega;omega
def rl(w w':ZT)(o:H->H)(g:H)(N:H)(v:ZY)(c:YZ ZY):Prop:=∃d j,Gz w' d g j (N+1)/\Ek w o d/\Aa (λa=>o a<=13∨ZW v=T a) w w'/\(∀b,b<4->j[b]? =c[b]?)/\(∀a,B w.1<=a->d a<=13∨d a=99)/\(∀a,a<B w.1->o a=99->ZW v≠T a->d a=99)/\∀a,a<B w.1->o a=99->d a<=13∨d a=99
def ZbZ(r:Vb w o c i l m p N b a vs e)(j:ae w w' g i c l m A n v b a vs e nx h f k)(t:o g=0)(s:i<=10):Aa (λd=>o d<=13∨ZW v=T d) w w':=
 j.u.m (λd _ q=>by grind [ZeE])
def jy(e:i<=10){c}(d:B w.1<=c∨o c=99):Wz w o E i b a c<=13∨Wz w o E i b a c=99:=by grind [Wz]
def ZcA(c:YZ ZY) i (e:4<=i){x b d} a (f:a<4):(YS (YS (YS c 12 x) i b) (i+1) d)[a]? =c[a]?:=Zah O
end
def Gz.D{m M l o j f r i w G D R Q L y z s}{q:Z5}(h:Gz m l o f j)(S:i=4∨i=6∨i=8)(k:Vb m l f i (tlB i) (tmB i) (fB i) j G D L y)(e:ae m M o i f (tlB i) (tmB i) s w r G D L y q R Q z)(A:∀a,ZW r=T a->l a=99)(c:0<=q/\q<=j+1)(N:∀{t n u x},s n x->Aa t n u->(∀a,ZW x=T a->¬t a)->fB i u x w):rl m M l o j r f:=by
 have v:∀a,oa _ a->_:=λa ⟨x,c,b⟩=>(e.all x c).2 a b;refine⟨_,_,h.h.D (E:=oa z) O k e h.b h.x h.v.lt A c (λa ⟨x,c,b⟩=>e.G x c a b) (λa ⟨x,c,b⟩=>e.A x c a b) λx c=>?_,Mt _ _ _ _ _ _,ZbZ k e h.b O,ZcA f i O,λa b=>jy O (ZM b),λa b p P=>?_,λa _ p=>jy O (ZJ p)⟩;exact λn g=>N (e.all x c).1 g λa b d=>d (cx ⟨x,c,b⟩ λW=>(v a ⟨x,c,b⟩).elim (A a) O);unfold Wz;rw[aC (λd=>d.2 p),aC (λd=>(v a d).elim P O),aC (λd=>?_),aC (λd=>?_)]
 ·rcases e.z a d with g|g
  have:=k.q a g;omega;omega
 rcases e.D a d with g|g
 have:=k.on a g;omega;omega
def Gz.c{d k e h j c g}(b:Gz d k e j h)(p:Ad d 0 c g)(m:∀f,ZW c=T f->k f=99)(r:F g<=4194304)(x:h<=20000000):C_ 142 #[Y7 (T (J e 4)),c] d λl n=>l=ZI (Y5 #[])/\rl d n k e h c j:=by have⟨N,L,Q,D,a⟩:=b.h 6 C;have⟨w,u,v,A⟩:=b.p;have y:=a.p;have z:=a.y;apply (oo e j c g w d b.v a.t a.D u p a.x a.w (a.G m C) r O O ⟨v,O⟩).m;rintro l n ⟨rfl,P,M,G,s⟩;exact⟨X,b.D (i:=6) C a s m O λb o t=>⟨⟨_,X⟩,b.p o λf _ q _=>t f q⟩⟩
def Gz.g{d k e h j c g}(b:Gz d k e j h)(p:Bj d 0 c g)(m:∀f,ZW c=T f->k f=99)(r:F g<=4194304)(x:h<=20000000):C_ 143 #[Y7 (T (J e 4)),c] d λl n=>l=ZI (Y5 #[])/\rl d n k e h c j:=by have⟨N,L,Q,D,a⟩:=b.h 8 C;have⟨w,u,v,A⟩:=b.p;have y:=a.p;have z:=a.y;apply (zu e j c g w d b.v a.t a.D u p a.x a.w (a.G m C) r O O ⟨v,O⟩).m;rintro l n ⟨rfl,P,M,G,s⟩;exact⟨X,b.D (i:=8) C a s m O λb o t=>⟨⟨_,X⟩,b.p o λf _ q _=>t f q⟩⟩
def Gz.e{d k e h j c g}(b:Gz d k e j h)(o:Ai d 0 c g)(w:∀f,ZW c=T f->k f=99)(q:F g<=4194304)(x:h<=20000000):C_ 174 #[Y7 (T (J e 4)),c] d λl m=>l=ZI (Y5 #[])/\rl d m k e h c j:=by have⟨N,L,Q,D,a⟩:=b.h 4 C;have⟨v,t,u,A⟩:=b.p;have y:=a.p;have z:=a.y;apply (zt e j c g v d b.v a.t a.D t o a.x a.w q O O ⟨u,O⟩).m;rintro l m ⟨rfl,P,M,G,r⟩;exact⟨X,b.D (i:=4) C a r w O λb n s=>⟨_,X,b.p n λf _ p _=>s f p⟩⟩
def Nz(d g:ZT)(c:H->H)(j h:H)(i:YZ ZY):Prop:=∃b f,Gz g b j f h/\Ek d c b/\Aa (λa=>c a<=13∨c a=99) d g/\(∀e,e<4->f[e]? =i[e]?)/\(∀a,B d.1<=a->b a<=13∨b a=99)/\∀a,a<B d.1->c a=99->b a<=13∨b a=99
structure Zi5(e wr)(f c)(m k h)(l g:YZ ZY)(i)(d)(j:H->U E):Prop where
 r:Gz wr c m g (k+h)
 p:Ek e f c
 q:Aa (λa=>f a<=13∨f a=99) e wr
 v:∀b,b<4->g[b]? =l[b]?
 z:∀a,B e.1<=a->c a<=13∨c a=99
 o:ZD wr 0 25 1 i (F d) d
 u:∀a,ZW i=T a->c a=99
 n:∀b,h<=b->b<F d->Ad wr 0 (Z d b Ir) (j b)/\∀a,ZW (Z d b Ir)=T a->c a=99
 t:∀b,b<F d->∀a,ZW (Z d b Ir)=T a->a<B e.1
 N:∀a,a<B e.1->f a=99->c a<=13∨c a=99
def Zi5.ab{x wr y v w n j f s t i g q}(c:Zi5 x wr v w n j f s t i g q)(L:f<F g)(G:∀f d,f<d->d<F g->∀a,ZW (Z g f Ir)=T a->ZW (Z g d Ir)≠T a)(S:rl wr y w n (j+f) (Z g f Ir) t):∃p m,Zi5 x y v p n j (f+1) s m i g q:=by
 obtain⟨p,m,z,k,l,A,a1,r,a2⟩:=S;have P:=c.q.size;have Q:=(c.n f x_ L)
 have M:∀a,ZW i=T a->ZW (Z g f Ir)≠T a:=λa b e=>by
  have⟨h,u⟩:=Ac c.o b;have⟨o,D⟩:=Ac Q.1 e
  grind
 have u:∀{W R:H} {i a0},ZD wr 0 W 1 i R a0->_:=λN a b=>(B_ N a b).2;refine⟨p,m,z,c.p.T P k,c.q.c l (λa b=>?_),λd o=>(A d o).T (c.v d o),λa b=>?_,l.M c.o (λa b e=>?_),λa b=>r a (u c.o a b) (c.u a b) (M a b),λd o h=>⟨l.M (c.n d O h).1 (λa b e=>?_),λa b=>r a (u (c.n d O h).1 a b) ((c.n d O h).2 a b) (λe=>G f d O h a e b)⟩,c.t,λa b D=>?_⟩
 ·have:=c.p a
  grind
 ·have:=c.z a b;have:=k a
  grind
 ·rcases e with e|e
  have:=c.u a b;omega
  grind
 ·rcases e with e|e
  have:=(c.n d O h).2 a b;omega
  grind
 have:=c.N a b D;have:=k a
 grind
def Gz.f{t y f o P a6 j}{Ls:H->U E}(c5:Gz t y f P o)(S:ZD t 0 25 1 a6 (F j) j)(a4:∀a,ZW a6=T a->y a=99)(b6:∀i,i<F j->Ad t 0 (Z j i Ir) (Ls i)/\∀a,ZW (Z j i Ir)=T a->y a=99)(c8:∀i,F (Ls i)<=4194304)(c7:∀c i,c<i->i<F j->∀a,ZW (Z j c Ir)=T a->ZW (Z j i Ir)≠T a)(f4:F j<=1000)(g6:o<=10000000)(d2:∀a,B t.1<=a->y a=99):C_ 144 #[Y7 (T (J f 4)),a6] t λe z=>e=ZI (Y5 #[])/\Nz t z y f (o+F j+1) P:=by
 have e0:K (Zi5 t t y y f o 0 P P a6 _ _):=⟨c5,Ek.refl _ _,Aa.refl _ _,λ_ _=>X,λa b=>ZJ (d2 a b),S,a4,λi _ R=>b6 i R,λi R a b=>(B_ (b6 i R).1 a b).2,λa _ b5=>ZJ b5⟩;have⟨d8,e1⟩:=Y_ c7 c8;have⟨x,b9⟩:=W_ (F j);have a2:=Y b9
 obtain⟨v,A,rfl⟩:∃v A,a6=ZH v x A:=by
  rcases S.2 with⟨rfl,n⟩|⟨h,k,l,rfl,_⟩
  ·grind
  grind
 rw[<- b9] at f4 ⊢;clear c5 S a4 b6 c8 c7 d2 b9;refine dl_ ?_;go_enter func144,ntmps144;go_upto_region 1 with fail;go_loopw [4] (λh d=>∃(c:H) (s:H->H) (G:YZ ZY),c<=x/\h=ZX ZQ c/\K (Zi5 t d y s f o c P G (ZH v x A) j Ls)) (λh _=>x-ZL (ZA h))
 case atStart=>grind
 clear e0;obtain⟨c,s,G,g8,rfl,d⟩:=hrel
 by_cases f1:c<x
 ·have M:=F_ c x;have g:c<F j:=by rw[<- a2];exact f1
  obtain⟨h,rfl⟩:∃h,v=T ⟨h,0,ZP⟩:=by
   rcases d.out.o.2 with⟨_,n⟩|⟨p,k,l,e,_⟩
   omega
   grind
  have u:ZV wr (J h c)=T (Z j c Ir):=by
   have e:=d.o;rw[<- a2] at e
   grind [World.ownsRow.cellAt]
  have n:=d.r.c (d.n c x_ g).1 (d.n c x_ g).2 (e1 c) O;have p:K (∀a5,rl _ a5 _ f _ _ _->_):=λa5 k=>d.ab g d8 k
  obtain⟨q,l,r,z⟩:∃q l r,Z j c Ir=ZH q l r:=by
   have⟨q,r,e⟩:=(d.n c x_ g).1.d
   grind
  rw[z] at u n p;clear z d;go_wp2_with fail
  apply n.m;rintro e a5 ⟨rfl,k⟩;have⟨N,L,w⟩:=p a5 k;have D:=Y w;clear k w n p u;go_wp2;go_roundw;case rel=>grind
  case measure=>exact z_
 have f2:c=x:=O;subst f2;have h1:¬c<(c:E):=O;generalize wr=k at *;have⟨d6,c2,d7,d3,q⟩:=d.r.h 10 C;have⟨l,r,h2,h3⟩:=d.r.p;have g7:=q.p;have h0:F d3<=400000000:=p_ q.y;have Q:=d.r.v;have f0:=Q.lt;have⟨p,c1⟩:=W_ (-(l+1));have h6:i64.wrap (-(l+1))=p:=(by rw[Au O O,c1]);have h7:=c1.s;have h4: -1000000000000<=p:=O;have e4:ZV k (J f 12)=T (I l):=(by rw[Q.cell];exact r);have e5:=Q.frozen;have b7:=Q.set 12 (I (l+1))
 have e6:ZV (ZO k (J f 12) (I (l+1))) (J f 12)=T (I (l+1)):=by
  rw[b7.cell]
  grind
 have⟨n,W⟩:=W_ (ZN (ZO k (J f 12) (I (l+1))) (O_ #[I p] 3));have d1:B (ZO k (J f 12) (I (l+1))).1=B k.1:=(by simp[ZO]);have N:Aa (λa=>a=f) k n:=W ▸ (((Aa.refl (λa=>a=f) _).setCell (p:=(J f 12)) (λ_=>X) _).alloc _);have b8:WB n f (YS G 12 (I (l+1))):=W ▸ (b7.alloc _);have c6:H_ n (B k.1) #[I p] 3:=by rw[W,<- d1];exact hn_
 have f7:B n.1=B k.1+1:=(by rw[W];simp[ZO]);have a9:∀{e2 d4 x:H} {d5:_} {g5:_},_->d4≠90->ZD n e2 d4 1 d5 x g5:=λS f5=>N.M S (λa b e=>by subst e;exact Q.apart S f5 b.s);have c0:=a9 d.o C;have u:=Y (OwC.N (i:=10) b8 c0 (a9 q.x C) (a9 q.w C) (Ap d.o q.w C) (by rw[aH C];exact q.t) (by rw[aH C];exact q.D));have⟨g,a7⟩:=W_ (B k.1);have b0:K (H_ n g #[I p] 3):=a7 ▸ c6
 have M:K (¬(g=f∨ZW (ZH v c A)=T g∨ZW d6=T g∨ZW c2=T g)):=λe=>by
  rcases e with e|e|e|e
  omega;have:=(B_ d.o _ e).2;omega;have:=(B_ q.x _ e).2;omega;have:=(B_ q.w _ e).2;omega
 have d9:K (∀z a1 L a0,ae n z f 10 G 84 3 (λa5=>Eb a5 25 (L_ g 1 1)) (I p) (V v c A) d6 c2 d7 d3 (l+1) a1 L a0->Nz t z y f (o+c+1) P):=λz a1 L a0 w=>by
  have f3:=w.u.g b0 M;have a8:Ek k s (λa=>if a<B k.1 then s a else 99):=λa b=>ZJ (by simp[b]);have a3:∀a,a<B k.1->(λa=>if a<B k.1 then s a else 99) a=s a:=w_;have b2:(λa=>if a<B k.1 then s a else 99) g=99:=(by simp[a7]);obtain⟨D,c9⟩:∃D:H->H,D=λa=>if a<B k.1 then s a else 99:=⟨_,X⟩;rw[<- c9] at a8 a3 b2;have e3:∀a,B k.1<=a->D a=99:=w_;clear c9;have f6:=d.r.b;have b4:∀a,a<B k.1->a=f->s a=0∨13<s a:=w_;have c4:=q.z N (λa b e=>p_ (b4 a b e)) a8 C X X x_;have d0:=(a3 f f0).T f6;have a4:=λa b=>(a3 a (B_ d.o a b).2).T (d.u a b)
  have b3:∀a,(oa a0 a∨a=g)->a<B n.1->D a=99:=λa b f8=>by
   rcases b with⟨h,r,a5⟩|rfl
   exact((w.all h r).2 a a5).elim (a4 a) O;exact b2
  have e8:∀a,(oa a0 a∨a=g)->ZW a1≠T a:=λa b e=>by
   rcases b with⟨h,r,a5⟩|rfl
   exact w.G h r a a5 e;exact(w.D _ e).elim (λb1=>M (ZJ (ZJ (ZM b1)))) O
  have e7:∀a,(oa a0 a∨a=g)->ZW L≠T a:=λa b e=>by
   rcases b with⟨h,r,a5⟩|rfl
   exact w.A h r a a5 e;exact(w.z _ e).elim (λb1=>M (ZJ (ZJ (ZJ b1)))) O
  have b1:=Mt n D (λa=>oa a0 a∨a=g) 10 a1 L
  have e9:∀h∈_,Kc z (Wz n D (λa=>oa _ a∨a=g) 10 a1 L) _ (λa5=>fL a5 h _):=λh r=>
   ((Kc.all (w.all h r).1 (λa b=>cx (ZM ⟨h,r,b⟩) (b3 a (ZM ⟨h,r,b⟩)))).and (Kc.block f3 (cx (ZJ X) (b3 _ (ZJ X))))).m (λa5 c3=>⟨p,g,X,c3.1,c3.2⟩)
  have c3:=d.q.size;refine⟨_,_,(d.r.h.z N b4 a8 (λ_ _=>X) x_).D C c4 w d0 d.r.x O a4 O e8 e7 e9,(d.p.T c3 a8).T (aG c3 N.size) b1,?_,λi R=>(ZcA G 10 C i R).T (d.v i R),λa b=>?_,λa b b5=>?_⟩
  ·refine(d.q.c N (λa b=>?_)).c (ZbZ c4 w d0 C) (λa b=>?_);subst b;have:=d.p a;omega;have:=d.p a
   grind
  ·have:=d.z a b;have:=e3 a;have:=a3 a;have:=b1 a
   by_cases a5:B n.1<=a∨D a=99
   exact jy C a5;omega
  have:=d.N a b b5;have:=a3 a;have:=b1 a
  by_cases a5:D a=99
  exact jy C (ZJ a5);omega
 have D:K (tp n n f (YS G 12 (I (l+1))) 25 1 (V v c A) c (Ta j (L_ g 1 1)) 0):=⟨by rw[bc];have:=c0;rw[<- a2] at this;exact this,Aa.refl _ _,b8⟩;clear q d c0 c6 b7 b8 a9 N Q c1;go_upto_region 7 with fail;rw[<- W,<- a7];clear a7 f7 d1 e6 e4 e5 W;go_loopw [6] (λh a3=>∃a:H,a<=c/\h=ZX ZQ a/\K (tp n a3 f (YS G 12 (I (l+1))) 25 1 (ZH v c A) c (Ta j (ZH (T ⟨g,0,ZP⟩) 1 1)) a)) (λh _=>c-ZL (ZA h))
 case atStart=>grind
 clear D;obtain⟨a,g9,rfl,D⟩:=hrel
 by_cases b:a<c
 ·obtain⟨h,rfl⟩:=D.ptr b;have⟨⟨d5,a5⟩,a8,a3⟩:=D.ab a2 b u.l;clear D;refine J_ ?_
  grind
 obtain rfl:a=c:=O;have a8:=Y (D.N Eb.b (by rw[a2,ba]) (by unfold Y2;omega));clear D;go_wp2_with (at_builtin;refine ap_ [L_ g 1 1] (a8.n.M.alloc _) ?_)
 intro i2 h9 h;have b1:=a8.P Eb.b (m:=1) u.l h;obtain⟨f9,e9,rfl⟩:=h.2.2.2.2;clear h a8;go_wp2_with (at_builtin;refine ap_ [L_ g 1 1,L_ g 1 1] (b1.n.M.alloc _) ?_)
 intro i3 a5 h;have b2:=b1.P Eb.b (m:=2) u.l h;obtain⟨g0,f3,rfl⟩:=h.2.2.2.2;clear h b1;go_wp2_with (at_builtin;refine ap_ [L_ g 1 1,L_ g 1 1,L_ g 1 1] (b2.n.M.alloc _) ?_)
 intro i4 i0 h;have a3:=b2.P Eb.b (m:=3) u.l h;obtain⟨g1,f6,rfl⟩:=h.2.2.2.2;clear h b2;have c9:=(a3.v.cell 10).T u.t;have d0:=a3.v.frozen;go_wp2_with (at_builtin;refine ap_ [V v a A,L_ f9 (a+1) e9,L_ g0 (a+2) f3,L_ g1 (a+3) f6] ((u.M a3).1.alloc _) ?_)
 intro a1 g3 h;have⟨e3,c4,o⟩:=a3.M Eb.b u h;obtain⟨g2,f8,rfl⟩:=h.2.2.2.2;clear h a3 c9 d0;go_upto_region 14 with fail;generalize (ZO g3) (J f 10) (L_ g2 (F d7+4) f8)=i1 at *;have b3:=o.cell u;have b4:=n_ 0 (o.u.g b0 M);clear e3 c4;refine Af (λz=>ZV z _=T c2/\ZV z _=T (I p)) 21 k_ ⟨b3,b4⟩ (λhHeld=>?_);refine G_ ?_;refine on_ 17 λKK hK=>?_;go_simp;refine hK _ _ ⟨X_ b3,X_ b4⟩ (λhHeld=>?_);clear hK KK;try simp only[Act.put,tA_,tB_,tC_]
 refine on_ 18 λKK hK=>?_;refine aq_ [I p,I p,I p,I p] ((World.ownsRow.drew o.w).alloc _) ?_;intro L g4 h;obtain⟨e7,c4,c3⟩:=o.M Eb.b u (y_.drew.alloc x_ _) X h;have e8:=n_ 0 ((Below.heap_setCell g4 (J f 11) L g λe=>M (ZM e)).s.T (c3.u.g b0 M));obtain⟨h8,h5,rfl⟩:=h.2.2.2.2;clear h o b3 b4;refine hK _ _ ⟨e7,e8⟩ (λhHeld=>?_);clear hK KK;refine G_ ?_;refine le_ ?_;go_wp2;go_end0;exact⟨X,d9 _ _ _ _ c3⟩
def Li{h:ZT}{b c a f e:H}{g i}(d:ZD h c a f g e i)(m:b<=c):ZD h b a f g e i:=by
 refine⟨d.1,?_⟩
 rcases d.2 with o|⟨l,j,k,a,n,p⟩
 exact ZM o;exact ZJ ⟨l,j,k,a,aG m n,p⟩
def Ai.h{c n m b}(j:Ai c n m b)(l:F b<=4194304):∃g i,m=ZH g (F b) i/\Cj c g b/\(g=ZP->i=0):=by
 have h:=j
 rcases j.2 with⟨rfl,k⟩|⟨d,o,r,rfl,_,p,_⟩
 exact⟨ZP,0,by rw[k],⟨l,ZM k⟩,λ_=>X⟩;refine⟨_,o,X,⟨l,ZJ ⟨d,0,X,?_⟩⟩,λe=>by cases e⟩
 have s:∀a,a<F b->D_ c d (a*4) (I (Z b a e0).v)/\D_ c d (a*4+1) (I (Z b a e0).t)/\D_ c d (a*4+2) (I (Z b a e0).h)/\D_ c d (a*4+3) (I (Z b a e0).g)/\∀q,YT c (J d q)=ZZ:=λa f=>by have e:b=ZU a b++Z b a e0::ZF (a+1) b:=(by grind [drop_eq_getElem_cons,take_append_drop]);rw[e] at h;exact Ai.at (n:=F b) (by rw[<- e] at h ⊢;exact h) (by rw[<- e]) t_
 refine⟨λ_=>(Qb p).1,λa f=>?_,λa f=>?_,λa f=>?_,λa f=>?_⟩
 ·grind
 ·grind
 ·grind
 grind
def Wi(e:ZT)(c:H)(b:YZ ZY)(h:U (U Cd))(i:E):Prop:=
 ∃ k j m f d g,
  WB e c b/\B b=13/\b[0]? =T k/\b[4]? =T j/\b[5]? =T m/\b[12]? =T (I i)/\
  ZD e (c+1) 29 1 k (F f) f/\ZD e (c+1) 29 1 j (F d) d/\Ad e (c+1) m g/\Bl k j/\
  F f=F h/\F d=F g/\F g<=4*i/\F f<=i/\
  (∀a,a<F h->Ai e (c+1) (Z f a (N_)) (Z h a []))/\
  (∀a,a<F d->Hx e (Z g a 0) (Z d a (N_))/\∀l,ZW (Z d a (N_))=T l->c+1<=l)
def Wi.lt{c b e d f}(a:Wi c b e d f):b<B c.1:=by obtain⟨_,_,_,_,_,_,a,_⟩:=a;exact a.lt
def Wi.q{e w' h g f k}(l:Wi e h g f k)(a:E_ e w'):Wi w' h g f k:=by obtain⟨N,G,L,D,M,A,i,s,t,u,v,w,x,y,z,m,n,o,p,q,r,j⟩:=l;have d:Aa (λ_=>False) e _:=.a a;exact⟨N,G,L,D,M,A,i.q a i.lt,s,t,u,v,w,d.M x (λ_ _=>id),d.M y (λ_ _=>id),d.M z (λ_ _=>id),m,n,o,p,q,λc b=>(r c b).q a,λc b=>⟨(j c b).1.q a,(j c b).2⟩⟩
def ur{d:Type}{b}{x c:d}{a}(e:a<F b+1):Z (b++[x]) a c=if a<F b then Z b a c else x:=w_
def Zfl(d e:ZT):Prop:=∀(c:H) b a,d.1[c]? =T (O_ b a)->a≠90->a≠29->a≠3->e.1[c]? =T (O_ b a)
def Zfl.a{b c}(d:E_ b c):Zfl b c:=λe _ _ a _ _ _=>(d.block e (Qb a).1).T a
def Grp.a{m l j b i}(a:Grp m l j b i):∃d g e h c f,Vb m l j b (tlB b) (tmB b) (fB b) i (V d (F c) g) (V e (F c) h) c f:=by obtain⟨o,n,c,f,a⟩:=a;obtain⟨d,g,rfl,_⟩:=Gg a.x;have⟨e,h,k,_⟩:=Gg a.w;rw[a.y] at k;subst k;exact⟨d,g,e,h,c,f,a⟩
def Vb.at{k A u i G L t n z g D p d q j o}(f:Vb k A u i G L p t (V d n g) (V q z D) j o){a}(m:a<F j):∃b h,d=T ⟨b,0,ZP⟩/\q=T ⟨h,0,ZP⟩/\∀c,E_ k c->ZV c (J b a)=T (Z j a Ir)/\ZV c (J h a)=T (Z o a Ir)/\p c (Z j a Ir) (Z o a Ir):=by
 have r:∀{s:H} {d n g e},ZD k 0 s 1 (V d n g) (F e) e->a<F e->∃b,d=T ⟨b,0,ZP⟩/\D_ k b a (Z e a Ir):=λ{s d n g e} N M=>by grind [Gg,Hn]
 have⟨b,x,v⟩:=r f.x m;have⟨h,y,w⟩:=r f.w (f.y ▸ m);exact⟨b,h,x,y,λc l=>⟨T_ l v,T_ l w,f.all a m c (.a l)⟩⟩
def Eb.cells{f j d h e a}(i:Eb f j e (V a d h)){c}(r:c<d):∃b,a=T ⟨b,0,ZP⟩/\ZV f (J b c)=T e:=by
 obtain⟨k,s,l,n,_,o|⟨g,m,rfl,q,p⟩⟩:=i
 ·grind
 grind [cell_of_row]
def Hx.cells{c e h f d}(i:Hx c f (V d e h)){b}(q:b<e):∃a,d=T ⟨a,0,ZP⟩/\ZV c (J a (b*4))=T (I f)/\ZV c (J a (b*4+1))=T (I 0)/\ZV c (J a (b*4+2))=T (I 0)/\ZV c (J a (b*4+3))=T (I 0):=by
 obtain⟨j,r,k,m,_,n|⟨g,l,rfl,p,o⟩⟩:=i
 ·grind
 grind [cell_of_row]
def Eb.d{h f g d}(e:Eb h f g d):∃b a c,d=ZH b a c/\a<=Y2:=by
 obtain⟨b,a,c,i,j,_⟩:=e
 grind
def Hx.d{f g d}(e:Hx f g d):∃b a c,d=ZH b a c/\a<=Y2:=by
 obtain⟨b,a,c,h,i,_⟩:=e
 grind
def Gz.d{f b0 a7 a6 a8}(i:Gz f b0 a7 a8 a6)(v:a6<=100000000):C_ 43 #[Y7 (T (J a7 4))] f (U_ (ZR Z0) f):=by
 have⟨b3,b6,b4,b7,u,b5,z⟩:=(i.h 4 C).a;have⟨c9,d2,d0,nq,x,d1,v⟩:=(i.h 6 C).a;have⟨d3,d6,d4,d7,y,d5,D⟩:=(i.h 8 C).a;have⟨c2,c5,c3,c6,w,c4,A⟩:=(i.h 10 C).a;have a2:K (∀j,E_ f j->_/\_):=λj m=>⟨T_ m ((i.v.cell 4).T z.t),T_ m ((i.v.cell 5).T z.D)⟩;have b8:=z.p;have a4:K (∀j,E_ f j->_/\_):=λj m=>⟨T_ m ((i.v.cell 6).T v.t),T_ m ((i.v.cell 7).T v.D)⟩;have c0:=v.p;have a5:K (∀j,E_ f j->_/\_):=λj m=>⟨T_ m ((i.v.cell 8).T D.t),T_ m ((i.v.cell 9).T D.D)⟩;have c1:=D.p;have a3:K (∀j,E_ f j->_/\_):=λj m=>⟨T_ m ((i.v.cell 10).T A.t),T_ m ((i.v.cell 11).T A.D)⟩;have b9:=A.p;have a:K (E_ f f):=y_;refine q_ ?_;go_upto_region 2 with fail
 go_loopw [3] (λb d=>∃c:H,c<=F u/\b=ZX ZQ c/\K (E_ f d)) (λb _=>F u-ZL (ZA b))
 exact⟨0,v_,X,a⟩;obtain⟨c,Q,rfl,a⟩:=hrel;have⟨q,r⟩:=a2 wr a
 by_cases s:c<F u
 ·have M:=F_ c (F u);obtain⟨S,W,rfl,rfl,b⟩:=z.at s;have⟨k,l,a1,n,g⟩:=b wr a;have⟨G,e,P,o,t⟩:=g.d;rw[o] at k b;rw[n] at l b;have p:=Y b;unfold Y2 at t;clear b g n o;go_upto_region 5 with fail;go_loopw [4] (λh L=>∃d:H,d<=e/\h=ZX ZQ d/\K (E_ f L)) (λh _=>e-ZL (ZA h))
  exact⟨0,v_,X,a⟩;obtain⟨d,R,rfl,a⟩:=hrel;have⟨q,r⟩:=a2 wr a;have⟨k,l,b⟩:=p wr a
  by_cases h:d<e
  ·obtain⟨b2,aA,g⟩:=b;injection aA with _ aA;subst aA;obtain⟨L,rfl,a0,b1,a9,c7⟩:=g.cells h;have N:=F_ d e;go_upto_region 7 with fail;go_quiet (fail);refine J_ ?_;exact⟨d+1,O,g_,below_drewN a _⟩
  clear b;have:¬d<(e:E):=O;refine J_ ?_;exact⟨c+1,O,g_,a⟩
 have:¬c<(F u:E):=O;go_upto_region 10 with fail;go_loopw [5] (λb d=>∃c:H,c<=F x/\b=ZX ZQ c/\K (E_ f d)) (λb _=>F x-ZL (ZA b))
 exact⟨0,v_,X,a⟩;obtain⟨c,Q,rfl,a⟩:=hrel;have⟨q,r⟩:=a4 wr a
 by_cases s:c<F x
 ·have M:=F_ c (F x);obtain⟨S,W,rfl,rfl,b⟩:=v.at s;have⟨k,l,⟨a1,n⟩,g⟩:=b wr a;have⟨G,e,P,o,t⟩:=g.d;rw[o] at k b;rw[n] at l b;have p:=Y b;unfold Y2 at t;clear b g n o;go_upto_region 13 with fail;go_loopw [6] (λh L=>∃d:H,d<=e/\h=ZX ZQ d/\K (E_ f L)) (λh _=>e-ZL (ZA h))
  exact⟨0,v_,X,a⟩;obtain⟨d,R,rfl,a⟩:=hrel;have⟨q,r⟩:=a4 wr a;have⟨k,l,b⟩:=p wr a
  by_cases h:d<e
  ·obtain⟨L,rfl,a0⟩:=b.2.cells h;clear b;have N:=F_ d e;go_upto_region 15 with fail;go_quiet (fail);refine J_ ?_;exact⟨d+1,O,g_,below_drewN a _⟩
  clear b;have:¬d<(e:E):=O;refine J_ ?_;exact⟨c+1,O,g_,a⟩
 have:¬c<(F x:E):=O;go_upto_region 18 with fail;go_loopw [7] (λb d=>∃c:H,c<=F y/\b=ZX ZQ c/\K (E_ f d)) (λb _=>F y-ZL (ZA b))
 exact⟨0,v_,X,a⟩;obtain⟨c,Q,rfl,a⟩:=hrel;have⟨q,r⟩:=a5 wr a
 by_cases s:c<F y
 ·have M:=F_ c (F y);obtain⟨S,W,rfl,rfl,b⟩:=D.at s;have⟨k,l,⟨a1,n⟩,g⟩:=b wr a;have⟨G,e,P,o,t⟩:=g.d;rw[o] at k b;rw[n] at l b;have p:=Y b;unfold Y2 at t;clear b g n o;go_upto_region 21 with fail;go_loopw [8] (λh L=>∃d:H,d<=e/\h=ZX ZQ d/\K (E_ f L)) (λh _=>e-ZL (ZA h))
  exact⟨0,v_,X,a⟩;obtain⟨d,R,rfl,a⟩:=hrel;have⟨q,r⟩:=a5 wr a;have⟨k,l,b⟩:=p wr a
  by_cases h:d<e
  ·obtain⟨L,rfl,a0⟩:=b.2.cells h;clear b;have N:=F_ d e;go_upto_region 23 with fail;go_quiet (fail);refine J_ ?_;exact⟨d+1,O,g_,below_drewN a _⟩
  clear b;have:¬d<(e:E):=O;refine J_ ?_;exact⟨c+1,O,g_,a⟩
 have:¬c<(F y:E):=O;go_upto_region 26 with fail;go_loopw [9] (λb d=>∃c:H,c<=F w/\b=ZX ZQ c/\K (E_ f d)) (λb _=>F w-ZL (ZA b))
 exact⟨0,v_,X,a⟩;obtain⟨c,Q,rfl,a⟩:=hrel;have⟨q,r⟩:=a3 wr a
 by_cases s:c<F w
 ·have M:=F_ c (F w);obtain⟨S,W,rfl,rfl,b⟩:=A.at s;have⟨k,l,a1,c7,n,g,_⟩:=b wr a;have⟨G,e,P,o,t⟩:=g.d;rw[o] at k b;rw[n] at l b;have p:=Y b;unfold Y2 at t;clear b g n o;go_upto_region 29 with fail;go_loopw [10] (λh L=>∃d:H,d<=e/\h=ZX ZQ d/\K (E_ f L)) (λh _=>e-ZL (ZA h))
  exact⟨0,v_,X,a⟩;obtain⟨d,R,rfl,a⟩:=hrel;have⟨q,r⟩:=a3 wr a;have⟨k,l,b⟩:=p wr a
  by_cases h:d<e
  ·obtain⟨b2,c8,_,g,a9⟩:=b;obtain⟨L,rfl,a0⟩:=g.cells h;have b1:=n_ 0 a9;have N:=F_ d e;go_upto_region 31 with fail;go_quiet (fail);refine J_ ?_;exact⟨d+1,O,g_,below_drewN a _⟩
  clear b;have:¬d<(e:E):=O;refine J_ ?_;exact⟨c+1,O,g_,a⟩
 have:¬c<(F w:E):=O;go_wp2;go_ret;exact⟨X,a⟩
def Tt{u} v {o p c b}(k:Ad b u o c)(l:Ad b v p c)(L:F c<=1000000):C_ 140 #[o,p] b λa e=>a=ZI (ZR Z0)/\∃d,e=Y1 b d:=by
 obtain⟨s,A,rfl,w⟩:=k.a;obtain⟨t,D,rfl,x⟩:=l.a
 have q:K (∀a,a<F c->∃f g,s=T ⟨f,0,ZP⟩/\t=T ⟨g,0,ZP⟩/\ZV b (J f a)=T (I (Z c a 0))/\ZV b (J g a)=T (I (Z c a 0))):=λa n=>w_
 clear k l w x;generalize (F c)=e at *;refine q_ ?_;go_upto_region 4 with fail;go_loopw [5] (λf g=>∃(a d:H),a<=e/\f=ZX ZQ a/\K (g=Y1 b d)) (λf _=>e-ZL (ZA f))
 exact⟨0,0,v_,X,X⟩;obtain⟨a,d,G,rfl,j⟩:=hrel;have y:=j.out;subst y;clear j
 by_cases n:a<e
 ·have z:=F_ a e;obtain⟨f,g,rfl,rfl,h,i⟩:=q a n;have N:ZV (Y1 b d) (J f a)=T (I (Z c a 0)):=(by rw[<- h];exact cb_ (below_drewN (br_ _ b) d|>.block _ (aJ b _ h)));have P:ZV (Y1 b d) (J g a)=T (I (Z c a 0)):=(by rw[<- i];exact cb_ (below_drewN (br_ _ b) d|>.block _ (aJ b _ i)));clear h i;generalize (Z c) a 0=Q,m:Y1 b d=M at *;have r:=Y m;clear m;go_upto_region 6 with fail;go_quiet (fail);refine J_ ?_;exact⟨a+1,_,O,g_,by rw[<- r];exact drewN_drewN _ _ _⟩
 have f:¬a<(e:E):=O;go_wp2;go_ret;exact⟨X,_,X⟩
def Zag{u} v {o p c b}(k:Bj b u o c)(l:Bj b v p c)(D:F c<=1000000):C_ 141 #[o,p] b λg a=>g=ZI (ZR Z0)/\∃d,a=Y1 b d:=by
 obtain⟨s,y,rfl⟩:=k.a;obtain⟨t,z,rfl⟩:=l.a
 have q:K (∀a,a<F c->∃e f,s=T ⟨e,0,ZP⟩/\t=T ⟨f,0,ZP⟩/\ZV b (J e a)=T (Q_ (Z c a ⟨#[]⟩))/\ZV b (J f a)=T (Q_ (Z c a ⟨#[]⟩))):=λa h=>by
  have⟨e,g,_,i⟩:=k.d X h ⟨#[]⟩;have⟨f,d,_,j⟩:=l.d X h ⟨#[]⟩
  grind
 clear k l;generalize (F c)=g at *;refine q_ ?_;go_upto_region 4 with fail;go_loopw [5] (λe f=>∃(a d:H),a<=g/\e=ZX ZQ a/\K (f=Y1 b d)) (λe _=>g-ZL (ZA e))
 exact⟨0,0,v_,X,X⟩;obtain⟨a,d,A,rfl,m⟩:=hrel;have w:=m.out;subst w;clear m
 by_cases h:a<g
 ·have x:=F_ a g;obtain⟨e,f,rfl,rfl,i,j⟩:=q a h;have L:ZV (Y1 b d) (J e a)=T (Q_ (Z c a ⟨#[]⟩)):=(by rw[<- i];exact cb_ (below_drewN (br_ _ b) d|>.block _ (aJ b _ i)));have M:ZV (Y1 b d) (J f a)=T (Q_ (Z c a ⟨#[]⟩)):=(by rw[<- j];exact cb_ (below_drewN (br_ _ b) d|>.block _ (aJ b _ j)));clear i j;generalize (Z c) a ⟨#[]⟩=N,n:Y1 b d=G at *;have r:=Y n;clear n;go_upto_region 6 with fail;go_quiet (fail);refine J_ ?_;exact⟨a+1,_,O,g_,by rw[<- r];exact drewN_drewN _ _ _⟩
 have e:¬a<(g:E):=O;go_wp2;go_ret;exact⟨X,_,X⟩
def cfB(a:U E):H:=2+Zg (dh a 0) 15
def cfU(a:U E):H:=Zg (dh a 2) 21
def cfS(a:U E):H:=cfB a+Zg (dh a 1) (33-cfB a)
def cfM(a:U E):H:=Zg (dh a 3) 4
def cfW(a:U E)(b:H):ZG:=ZE (Zg (dh a (8+b)) 3=0)
def cfC(a:U E)(b:H):E:=if cfW a b=Z0 then 0 else(Zg (dh a (4+b)) 4:H)
def cfT(a:U E)(b:H):E:=if cfW a b=Z0 then 1+(Zg (dh a (4+b)) 9:H) else 0
def Zrf a:2<=cfB a/\cfB a<=16/\cfB a<=cfS a/\cfS a<=32/\cfU a<=20/\cfM a<=3:=by
 have c:=Pv (dh a 0) (show 0<15 by omega);have e:=Pv (dh a 2) (show 0<21 by omega);have f:=Pv (dh a 3) (show 0<4 by omega);have b:cfB a=2+_:=rfl;have d:=Pv (dh a 1) (show 0<33-cfB a by omega)
 grind [cfS,cfU,cfM]
def ZqB a b:Nf (cfW a b) (cfC a b) (cfT a b)=Z0:=by
 have c:=Pv (dh a (4+b)) (show 0<4 by omega);have d:=Pv (dh a (4+b)) (show 0<9 by omega);unfold Nf cfC cfT
 grind
def ZjE(a:U E)(b:H):U ZY:=[ZR (cfW a b),I (cfC a b),I (cfT a b)]
def Zkb(a:U E):H->U ZY
 |0=>[]
 |b+1=>Zkb a b++ZjE a b
def Zhi b:∀a,F (Zkb b a)=a*3
 |0=>X
 |a+1=>by rw[Zkb,Qe,Zhi b a];simp[ZjE];omega
def ZoL:(prog.info? 51).map (λa=>(a.zero,a.size,a.bytes))=T (T (Y9 #[ZR ZZ,I 0,I 0]),3,24):=k_
end Go.Proofs.YtfcgnpchbcmdeaaGreat
