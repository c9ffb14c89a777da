import Derived.Test.YtfcgnpchbcmdeaaGreatZobb
namespace Go.Proofs.YtfcgnpchbcmdeaaGreat
set_option linter.all false
set_option maxRecDepth 100000
set_option maxHeartbeats 8000000
open Go.RowKit List Nat World Go.Proofs.Tryz Value IntKind Lib Region
def Lk(b:Nat):Option (Nat×Nat)->Option Nat
 |some a=>if a.1=b then some a.2 else none
 |none=>none
def Ir(b:List KS)(a d:List (List Nat))(f c:Nat):Nat:=((range a.length).findSome? (λe=>Lk c (Gn b a d e f))).getD (b.getD c Ai).d
def Zmh{o}{f:Nat}:((pi o).1=f->Lk f o=some (pi o).2.toNat/\(pi o).2=(pi o).2.toNat)/\((pi o).1≠f->Lk f o=none):=by
 cases o with
 |none=>exact⟨λa=>by simp[pi] at a,λ_=>rfl⟩
 | some b=>
  grind [pi,Lk]
def ZiQ{a e d b i}(h:b<a.length)(l:pw e d (a.getD b Di))(k:∀c,c<b->¬pw e d (a.getD c Di)):yp a d e i=(a.getD b Di).i:=by
 have g:∀f _,a.getD f Di=a[f]:=λf m=>w_
 have:a.find? (λj=>decide (pw e d j))=some a[b]:=(by rw[find?_eq_some_iff_getElem];refine⟨w_,b,h,rfl,λc j=>?_⟩;have:=k c j;rw[g c O] at this;simp only[aE this,Bool.not_false]);unfold yp;rw[this,g b h]
def sb{a e c f}(i:∀b,b<a.length->¬pw e c (a.getD b Di)):yp a c e f=f:=by
 have h:∀d _,a.getD d Di=a[d]:=λd k=>w_
 have:a.find? (λg=>decide (pw e c g))=none:=by
  rw[find?_eq_none];intro l j;obtain⟨b,g,rfl⟩:=aM j;have:=i b g;rw[h b g] at this
  simpa using this
 unfold yp;rw[this]
theorem ZbX{d b c g e a x}(k:a<b.length)(h:Lk e (Gn d b c a g)=some x)(j:∀f,f<a->Lk e (Gn d b c f g)=none):Ir d b c g e=x:=by unfold Ir;have:(range b.length).findSome? (λa=>Lk e (Gn d b c a g))=some x:=(by rw[findSome?_eq_some_iff];refine⟨range a,a,(range (b.length-(a+1))).map (a+1+ ·),?_,h,λf i=>j f (by simpa using i)⟩;rw[show b.length=(a+1)+(b.length-(a+1)) by omega,range_add,range_succ];simp);rw[this];rfl
theorem ts{b a d f c}(g:∀e,e<a.length->Lk c (Gn b a d e f)=none):Ir b a d f c=(b.getD c Ai).d:=by grind [Ir]
def lu y s e d g f i a x (m:DaV x y s g f i a)(B:pj s g f i)(Z:e<s)(X:d<g.length)(c5:a.length<=1000000):C_ 138 #[P_ y,I e,I d] x (U_ (.tuple #[.int .i64 (yp a d e (Ir g f i e d):Nat),.int .i64 0]) x):=by
 have⟨w,v⟩:=ez_ (yp a d e (Ir g f i e d));rw[v];have⟨c8,b7,z⟩:=m.l;obtain⟨a8,b2,rfl⟩:=z.1;have⟨c7,R,q⟩:=m.j;obtain⟨a7,b1,rfl⟩:=q.1;have⟨c6,b4,a9,b3,b0,b5,Q,_,_,_,S⟩:=m.i.A X;have b6:=m.i.h;have G:=Y z;have E:=T_ m B;have c3:=B.p;clear m B z q;have b8:¬(e:Int)<0:=O;have b9:¬s<=(e:Int):=O;have c0:¬(d:Int)<0:=O;have c1:¬g.length<=(d:Int):=O;have c2:=F_ d g.length;refine v_ ?_;go_wp2_with fail
 go_loopw [8] (λh j=>∃b:Nat,h=.int .i64 b/\b<=a.length/\K (∀c,c<b->¬pw e d (a.getD c Di))/\j=x) (λh _=>a.length-(intOf h).toNat)
 exact⟨0,rfl,r_,λc r=>O,rfl⟩;obtain⟨b,rfl,c4,j,a1⟩:=hrel;subst a1
 by_cases P:b<a.length
 ·have⟨H,F,l,L,A,a6⟩:=G.2 b P;injection l with e1 _ e3;subst e1 e3;have T:=F_ b a.length
  by_cases h:pw e d (a.getD b Di)
  ·have t:K (w=(a.getD b Di).i):=(by show _=_;rw[<- v];exact ZiQ P h j);obtain⟨k,n⟩:=h;have e1:(((a.getD b Di).row:_)==(e:Int))=_:=beq_iff_eq.2 O;have p:(((a.getD b Di).f:_)==(d:Int))=_:=beq_iff_eq.2 O;generalize (a.getD b Di).row=o at *;generalize (a.getD b Di).f=D at *;generalize (a.getD b Di).i=u at *;clear k n;go_wp2;go_ret2
   exact⟨by rw[t];rfl,y_⟩
  have u:K (∀c,c<b+1->¬pw e d (a.getD c Di)):=λc r=>by
   by_cases l:c=b
   rw[l];exact h;exact j c O
  by_cases k:(a.getD b Di).row=e
  ·have n:¬_:=λn=>h ⟨k,n⟩;have e1:(((a.getD b Di).row:_)==(e:Int))=_:=beq_iff_eq.2 O;have p:(((a.getD b Di).f:_)==(d:Int))=_:=aO O;clear k n h;generalize (a.getD b Di).row=o at *;generalize (a.getD b Di).f=D at *;go_wp2;go_roundw;exact⟨b+1,g_,O,u,trivial⟩;exact z_
  have e1:(((a.getD b Di).row:_)==(e:Int))=_:=aO O;clear k h;generalize (a.getD b Di).row=o at *;go_wp2;go_roundw;exact⟨b+1,g_,O,u,trivial⟩;exact z_
 have t:K (w=Ir g f i e d):=(by show _=_;rw[<- v];exact sb (λc r=>j c O));have T:¬b<(a.length:Int):=O;clear v G j;have⟨a5,a0⟩:=M_ wr;subst a0;go_wp2_with fail
 go_loopw [9] (λk l=>∃h:Nat,k=.int .i64 h/\h<=f.length/\K (∀c,c<h->Lk d (Gn g f i c e)=none)/\E_ a5 l) (λk _=>f.length-(intOf k).toNat)
 exact⟨0,rfl,r_,λc r=>O,y_⟩;obtain⟨h,rfl,n,j,k⟩:=hrel;have a6:=Ag k R
 by_cases M:h<f.length
 ·have U:h<(f.length:Int):=O;go_wp2_with fail
  apply (ao y s h e g f i a _ (E.1.below k) E.2 M Z).m;rintro l c9 ⟨rfl,W⟩;have⟨H,A⟩:=Y_ (Gn g f i h e);have o:=Zmh (o:=H) (f:=d);rw[A];have F:=Y A;have N:=k.T (W.m k.size);clear A;have⟨a4,D⟩:=Y_ (pi H);rw[D] at o ⊢;obtain⟨a2,a3⟩:=a4;simp only at o ⊢
  by_cases p:a2=(d:Int)
  ·have⟨L,q⟩:=o.1 p;have u:K (w=a3):=(by show _=_;rw[t,ZbX M (F ▸ L) j,<- q]);have e1:=beq_iff_eq.2 p;clear o L q p D;go_wp2;go_ret2
   exact⟨by rw[u];rfl,N⟩
  have u:K (∀c,c<h+1->Lk d (Gn g f i c e)=none):=λc r=>by
   by_cases l:c=h
   rw[l,F];exact o.2 p;exact j c O
  have e1:=aO p;clear o p D;go_wp2;go_roundw;exact⟨h+1,g_,O,u,N⟩;exact z_
 have U:¬h<(f.length:Int):=O;have u:K (w=(g.getD d Ai).d):=(by show _=_;rw[t,ts (λc r=>j c O)]);have A:=Ag k Q;have o:=Ag k S;generalize (g.getD d Ai).d=l at *;go_wp2;go_ret2
 exact⟨by rw[u];rfl,k⟩
def Zbo g e b a c f (d:DkV f g e c)(q:¬(0<=b/\b<(e:Int)/\0<=a/\a<(c.length:Int))):C_ 138 #[P_ g,I b,I a] f (V_ (.tuple #[.int .i64 0,.int .i64 1]) f):=by
 have⟨r,l,h⟩:=d.i;obtain⟨i,j,rfl⟩:=h.1;have k:=d.h;clear d h;refine v_ ?_
 by_cases m:b<0
 ·go_wp2;go_ret2
  exact⟨rfl,rfl⟩
 by_cases n:(e:Int)<=b
 ·go_wp2;go_ret2
  exact⟨rfl,rfl⟩
 by_cases o:a<0
 ·go_wp2;go_ret2
  exact⟨rfl,rfl⟩
 have p:c.length<=a:=O;go_wp2;go_ret2
 exact⟨rfl,rfl⟩
def Mb.h{a g c d k e p n o q f b}(h:Mb a c e f b)(i:Nh a d k p n o q)(m:Aa (λl=>l=d) a g):Mb g c e f b:=h.p m (λt r u j s _=>i.o j w_)
structure CoI(b wr)(a f)(i h c j)(e)(d:List (List Nat)):Prop where
 u:Aa (λg=>g=a) b wr
 v:Nh wr a f i h c j
 co:Mb wr b.1.size c e (d.map An)
 lt:a<b.1.size
section
variable {b wr a:World} {db n:Nat} {vF vB vC vX c d:Value} {cvs:List Value} {Cs:List (List Nat)}
def CoI.below(c:CoI b wr db n vF vB vC vX cvs Cs)(d:E_ wr a):CoI b a db n vF vB vC vX cvs Cs:=⟨c.u.below d,(d.block _ c.v.lt).T c.v,c.co.below d,c.lt⟩
def CoI.E{h N}(d:CoI b wr db n vF vB vC vX cvs Cs)(o:Ad wr b.1.size h (An N))(m:∀g,g<Cs.length->Bl (cvs.getD g Dd) h)(j:wr.grownBy a vC.ownBlock)(p:a.ownsRow b.1.size 25 1 c (Cs.length+1) (cvs++[h])):CoI b (a.setCell (J db 3) c) db n vF vB c vX (cvs++[h]) (Cs++[N])/\Nh a db n vF vB vC vX:=by
 have q:=(Aa.refl _ _).grown j (λf e _=>e);have i:Nh _ _ n _ _ _ _:=q.g d.v (λe=>by obtain⟨k,f⟩:=Ac d.co.row e;exact d.v.o f C rfl);have l:=d.co.E (L:=An N) o (λg e=>m g w_) j (by rw[length_map];exact p);have r:Aa _ _ (a.setCell _ c):=(Aa.refl (λf=>f=db) _).setCell (p:=(J db 3)) (λ_=>rfl) _;refine⟨⟨(d.u.grown j (λf e k=>p_ (B_ d.co.row f e).1)).setCell (p:=(J db 3)) (λ_=>rfl) _,ht_ 3 _ _ _ i,?_,d.lt⟩,i⟩;rw[map_append];exact l.p r (λf k t e s _=>i.o e w_)
end
structure ExI(b wr)(a e)(i g h c)(d:List XS):Prop where
 u:Aa (λf=>f=a) b wr
 v:Nh wr a e i g h c
 q:Wl wr b.1.size 231 3 c (d.map Ct)
 lt:a<b.1.size
section
variable {c wr a:World} {db n:Nat} {vF vB vC vX d:Value} {b:List XS}
def ExI.below(d:ExI c wr db n vF vB vC vX b)(e:E_ wr a):ExI c a db n vF vB vC vX b:=⟨d.u.below e,(e.block _ d.v.lt).T d.v,d.q.below e,d.lt⟩
def ExI.E{x}(e:ExI c wr db n vF vB vC vX b)(i:wr.grownBy a vX.ownBlock)(m:a.ownsRow c.1.size 231 3 d (b.length+1) ((b.map Ct).flatten++Ct x)):ExI c (a.setCell (J db 4) d) db n vF vB vC d (b++[x])/\Nh a db n vF vB vC vX:=by
 have o:=(Aa.refl _ _).grown i (λf h _=>h);have g:Nh _ _ n _ _ _ _:=o.g e.v (λf=>by obtain⟨k,h⟩:=Ac e.q.row f;exact e.v.o h C rfl);have p:Aa _ _ (a.setCell _ d):=(Aa.refl (λf=>f=db) _).setCell (p:=(J db 4)) (λ_=>rfl) _;have j:=e.q.E (x:=Ct x) (by rw[length_map];exact m) rfl;refine⟨⟨(e.u.grown i (λf h k=>p_ (B_ e.q.row f h).1)).setCell (p:=(J db 4)) (λ_=>rfl) _,ht_ 4 _ _ _ g,?_,e.lt⟩,g⟩;rw[map_append];exact j.p p (λq l f=>by obtain⟨k,h⟩:=Ac j.row l;exact g.o h C f)
end
def n1(a:Nat):Nat:=if a%2=1 then a/2^^^3988292384 else a/2
def nJ:Nat->Nat->Nat
 |0,a=>a
 |b+1,a=>nJ b (n1 a)
def Zdp c:∀a b,nJ (c+a) b=nJ c (nJ a b)
 |0,_=>rfl
 |a+1,b=>Zdp c a (n1 b)
def wu a b:nJ (a+1) b=n1 (nJ a b):=by rw[Nat.add_comm,Zdp];rfl
def Znu a b:n1 (a^^^b)=n1 a^^^n1 b:=by
 have d:(a^^^b)%2=(a+b)%2:=by
  have c:=testBit_xor (x:=a) (y:=b) (i:=0)
  grind
 have c:(a^^^b)/2=_:=xor_div_two ..;unfold n1
 grind
def Zjw:∀(a b c:Nat),nJ a (b^^^c)=nJ a b^^^nJ a c
 |0,_,_=>rfl
 |a+1,b,c=>by show nJ a (n1 (b^^^c))=nJ a (n1 b)^^^nJ a (n1 c);rw[Znu,Zjw]
def Zoy{a}(b:a<4294967296):n1 a<4294967296:=by unfold n1;split;exact xor_lt_two_pow (n:=32) O C;omega
def Znv a b:nJ a (2^a*b)=b:=by
 induction a generalizing b with
 |zero=>simp[nJ]
 | succ a d=>
  show nJ a (n1 (2^(a+1)*b))=b;have c:n1 (2^(a+1)*b)=2^a*b:=(by unfold n1;rw[Nat.pow_succ,Nat.mul_comm (2^a) 2,Nat.mul_assoc,aC O];omega);rw[c,d]
def Zb0:List Int->Nat
 |[]=>0
 |a::b=>a.toNat+256*Zb0 b
def ZkV{b a}(d:b<256):b+256*a=b^^^256*a:=by
 have g:=two_pow_add_eq_or_of_lt (i:=8) d a
 have e:b&&&256*a=0:=by
  apply eq_of_testBit_eq;intro c;rw[testBit_and,zero_testBit]
  by_cases f:c<8
  rw[show 256*a=2^8*a from rfl,testBit_two_pow_mul,aE O];simp;rw[testBit_lt_two_pow (x:=b) (i:=c) (Qh d (Nat.pow_le_pow_right (n:=2) (i:=8) C O))];simp
 apply eq_of_testBit_eq;intro c;have h:=congrArg (λf=>f.testBit c) e
 grind
def nF(b:Nat)(a:List Int):Nat:=nJ (8*a.length) (b^^^Zb0 a)
theorem wq c {a}(e:0<=a/\a<256) b:nF c (a::b)=nF (nJ 8 (c^^^a.toNat)) b:=by have d:nF c (a::b)=nJ (8*_+8) (c^^^(_+_)):=rfl;rw[d,ZkV (show a.toNat<256 by omega),<- Nat.xor_assoc,Zdp,Zjw 8,show 256*Zb0 b=2^8*Zb0 b from rfl,Znv];rfl
theorem Wo(a b:Nat)(c:a<4294967296)(d:b<4294967296):bits .xor .u32 a b=(a^^^b:Nat):=by have e:=xor_lt_two_pow (n:=32) c d;simp only[bits,BitVec.ofInt_natCast,BitVec.toNat_xor,BitVec.toNat_ofNat];rw[show IntKind.u32.bits=32 from rfl,mod_eq_of_lt (show a<2^32 from c),mod_eq_of_lt (show b<2^32 from d)];simp only[wrap,IntKind.bits,signed];simp;omega
def Zh7(a:Nat)(b:a<4294967296):bits .and .u32 a 1=(a%2:Nat):=by simp only[bits];rw[show(1:Int)=((1:Nat):Int) from rfl,BitVec.ofInt_natCast,BitVec.ofInt_natCast,BitVec.toNat_and,BitVec.toNat_ofNat,BitVec.toNat_ofNat];rw[show IntKind.u32.bits=32 from rfl,mod_eq_of_lt (show a<2^32 from b),mod_eq_of_lt (show 1<2^32 by decide),and_one_is_mod];simp only[wrap,IntKind.bits,signed];simp;omega
def Zm5{a}(c:a<4294967296):Zah (a:Nat)=(n1 a:Nat):=by
 unfold Zah n1;rw[Zh7 a c]
 rcases mod_two_eq_zero_or_one a with b|b
 ·grind
 rw[b,aD C,aD rfl,show((a:Int)/2)=((a/2:Nat):Int) by omega,show(3988292384:Int)=((3988292384:Nat):Int) from rfl,Wo _ _ O C]
def ZaT{c}(b:c<4294967296):∀a,nJ a c<4294967296
 |0=>b
 |a+1=>by rw[wu];exact Zoy (ZaT b a)
theorem Ziy{b}(c:b<4294967296):∀a,er a (b:Nat)=(nJ a b:Nat)
 |0=>rfl
 |a+1=>by show Zah (er a b)=_;rw[Ziy c a,Zm5 (ZaT c a),wu]
def jk:∀(b:List Int) {z:Nat},z<4294967296->(∀a∈b,0<=a/\a<256)->b.foldl py (z:Nat)=(nF z b:Nat)
 |[],z,_,_=>by simp[nF,nJ,Zb0]
 |a::b,z,h,f=>by have e:=f a s_;obtain⟨c,rfl⟩:=Int.eq_ofNat_of_zero_le e.1;have d:z^^^c<4294967296:=xor_lt_two_pow (n:=32) h O;rw[wq z e,foldl_cons];have g:py z c=(nJ 8 (z^^^c):Nat):=(by grind [py,Wo,Ziy]);rw[g];exact jk _ (ZaT d 8) (λi d=>f i (by simp[d]))
def cK(c a b:Nat):Nat:=nJ b (c^^^a)^^^a/2^b
def ZlN a b:(a^^^b)%2=(a+b)%2:=by
 have c:=testBit_xor (x:=a) (y:=b) (i:=0)
 grind
def Zk8 a b:cK a b 0=a:=by grind [cK,nJ]
def Zk7 c a b:cK c a (b+1)=if cK c a b%2≠a/2^b%2 then cK c a b/2^^^3988292384 else cK c a b/2:=by
 unfold cK;rw[wu,ZlN,xor_div_two,Nat.div_div_eq_div_mul,<- Nat.pow_succ];generalize nJ b (c^^^a)=d;unfold n1
 grind
def ZmZ b a (c:a<256):cK b a 8=nJ 8 (b^^^a):=by unfold cK;rw[show a/2^8=0 from div_eq_of_lt c,xor_zero]
def Zmt{c a}(d:c<4294967296)(e:a<256) b:cK c a b<4294967296:=by unfold cK;exact xor_lt_two_pow (n:=32) (ZaT (xor_lt_two_pow (n:=32) d O) b) (Nat.lt_of_le_of_lt (div_le_self _ _) O)
def ZkG(a b:Nat)(c:a<4294967296)(d:b<4294967296):bits .xor .i64 a b=(a^^^b:Nat):=by have e:=xor_lt_two_pow (n:=32) c d;simp only[bits,BitVec.ofInt_natCast,BitVec.toNat_xor,BitVec.toNat_ofNat];rw[show i64.bits=64 from rfl,mod_eq_of_lt (show a<2^64 by omega),mod_eq_of_lt (show b<2^64 by omega)];simp only[wrap,IntKind.bits,signed];simp;omega
def Zoi(c a b:Nat):bits .xor .i64 (c%2) (((a:Int)/2^b).tmod 2)=if c%2≠a/2^b%2 then 1 else 0:=by
 have d:((a:Int)/2^b).tmod 2=(a/2^b%2:Nat):=w_;rw[d,show((c:Int)%2)=((c%2:Nat):Int) by omega,ZkG _ _ O O]
 grind [mod_two_eq_zero_or_one]
def zK(a:ByteArray)(b:Nat):Nat:=nF 4294967295 ((Ab a).take b)
def rv c:∀a∈Ab c,0<=a/\a<256:=λa b=>by simp only[Ab,mem_map] at b;obtain⟨d,_,rfl⟩:=b;have:=d.toNat_lt;omega
def ZlO a b (e:b<256)(c:Nat:=4294967295)(d:∀x∈a,0<=x/\x<256:=by assumption):nJ 8 (nF c a^^^b)=nF c (a++[(b:Int)]):=by
 induction a generalizing c with
 |nil=>grind [nF,nJ,Zb0]
 | cons x a f=>
  grind [wq]
def Zbl a n (A:a.size<=4000000):C_ 180 #[Q_ a] n (V_ (.int .i64 (Gp (Ab a))) n):=by
 refine v_ ?_;go_upto_region 3 with fail;go_loopw [3,4] (λh g c=>∃(b e:Nat),h=.int .i64 b/\g=.int .i64 e/\e<=a.size/\b<4294967296/\K (b=zK a e)/\K (n=c)) (λ_ g _=>a.size-(intOf g).toNat)
 exact⟨4294967295,0,rfl,rfl,r_,C,by show _=_;simp[zK,nF,nJ,Zb0],rfl⟩;obtain⟨b,e,rfl,rfl,x,m,k,j⟩:=hrel;have r:=j.out;subst r;clear j
 by_cases t:e<a.size
 ·have w:=F_ e a.size;have⟨f,q⟩:=M_ ((a[e]'t).toNat);have l:f<256:=q ▸ (UInt8.toNat_lt _);have o:=Y q;clear q;go_upto_region 6 with fail;go_loopw [3,5] (λh g i=>∃(d c:Nat),h=.int .i64 d/\g=.int .i64 c/\c<=8/\K (d=cK b f c)/\K (n=i)) (λ_ g _=>8-(intOf g).toNat)
  exact⟨b,0,rfl,rfl,r_,by show _=_;rw[Zk8],rfl⟩;obtain⟨d,c,rfl,rfl,y,h,j⟩:=hrel;have r:=j.out;subst r;clear j
  by_cases z:c<8
  ·have u:0<=(c:Int):=O;have v:(c:Int)<8:=O;have B:d<4294967296:=h ▸ (Zmt m l c);have s:=o.s;go_upto_region 9 with fail;rw[Zoi];have g:=Zk7 b f c;rw[<- h] at g
   by_cases i:d%2≠f/2^c%2
   ·rw[aD i] at g ⊢;have p:K (bits .xor .i64 (d/2) 3988292384=(cK b f (c+1):Nat)):=(by show _=_;rw[g,show((d:Int)/2)=((d/2:Nat):Int) by omega];exact ZkG _ _ O C);clear g i s h;go_wp2;go_roundw;exact⟨cK b f _,c+1,by rw[p],g_,O,rfl,True.intro⟩;exact z_
   rw[aC i] at g ⊢;have p:K (d/2=((cK b f (c+1):Nat):Int)):=(by show _=_;rw[g];omega);clear g i s h;go_wp2;go_roundw;exact⟨cK b f _,c+1,by rw[p],g_,O,rfl,True.intro⟩;exact z_
  have s:c=8:=O;subst s;have g:K (d=zK a (e+1)):=(by show _=_;have u:(Ab a).length=a.size:=(by simp[Ab]);have p:(Ab a)[e]' O=f:=(by rw[o];simp[Ab];rfl);rw[h,ZmZ b f l,k];unfold zK;rw[Qi O,p];exact ZlO _ _ l _ (λv i=>rv a v (aL i)));have i:d<4294967296:=h ▸ (Zmt m l 8);clear h o k;go_wp2;go_roundw;exact⟨d,e+1,rfl,g_,O,i,g,True.intro⟩;exact z_
 have f:e=a.size:=O;subst f;have l:¬a.size<(a.size:Int):=O
 have c:K (bits .xor .i64 b 4294967295=Gp (Ab a)):=by
  show _=_;have u:(Ab a).length=a.size:=(by simp[Ab]);have g:b=nF 4294967295 (Ab a):=(by rw[k];unfold zK;grind);have d:ZfV (Ab a)=b:=g ▸ (jk _ (z:=4294967295) C (rv a));unfold Gp;rw[d];have h:=ZkG b 4294967295 m C;have i:=Wo 4294967295 b C m
  grind
 clear k;go_wp2;go_ret;exact⟨by rw[c];rfl,rfl⟩
def loK(c:Int)(b a:Nat):List Int:=Ay c a++replicate (b-a) 0
def Ze8 c {a b}(d:b<=a):(loK c a b).length=a:=by simp[loK,Dv];omega
def ZlF c {b a}(d:a<b):(loK c b a).set a (Sy a c%256)=loK c b (a+1):=by unfold loK;rw[set_append_right _ _ (by rw[Dv];omega),Dv,Nat.sub_self,show b-a=(b-(a+1))+1 by omega,replicate_succ,set_cons_zero];simp[Ay]
def ZlE b a:loK b a a=Ay b a:=by simp[loK]
def Su(e:Int)(c k:Nat) b (t:k<=8)(n:c<=1000000000000)(p:(0<=e/\e=c)∨(e<0/\e=c-4294967296)):C_ 135 #[I e,I k] b (U_ (.string (strOfNums (Ay c k))) b):=by
 have u:=Qj k O;refine dl_ ?_;go_enter func135,ntmps135;go_upto_if 8 with fail
 go_cut [0] (λa d=>a=.int .i64 (c:Nat)/\d=b)
 case first=>
  rcases p with⟨d,a⟩|⟨d,a⟩
  ·subst a;have f:¬(c:Int)<0:=O;go_wp2;go_meet
   grind
  have f:e+4294967296=c:=O;go_wp2;go_meet
  grind
 obtain⟨rfl,q⟩:=hcut;obtain rfl:=q.s;go_upto_region 4 with fail
 have l:K (Ax (b.alloc (O_ (madeCells #[.int .u8 0] k) 5)) b.1.size (L_ b.1.size k k) (loK c k 0)/\E_ b (b.alloc (O_ (madeCells #[.int .u8 0] k) 5))):=by
  refine⟨?_,q_⟩
  grind [Py,loK,Ay]
 generalize b.alloc (O_ (madeCells #[.int .u8 0] k) 5)=x at *;go_upto_region 5 with fail;go_loopw [0,6] (λh f g=>∃(a d:Nat),h=.int .i64 (d:Nat)/\f=.int .i64 a/\a<=k/\d<=1000000000000/\K (Sy a c=(d:Int))/\K (Ax g b.1.size (.slice (some ⟨b.1.size,0,none⟩) k k) (loK c k a)/\E_ b g)) (λ_ f _=>k-(intOf f).toNat)
 case atStart=>exact⟨0,c,rfl,rfl,r_,n,rfl,l⟩
 obtain⟨a,d,rfl,rfl,h,v,g,f⟩:=hrel
 by_cases i:a<k
 ·have o:=F_ a k;have⟨r,s⟩:=f.1.c (k:=a) (Ze8 _ h).s i;have j:K (Ax (wr.setCell (J b.1.size a) (.int .u8 (d%256))) b.1.size (L_ b.1.size k k) (loK c k (a+1))/\E_ b (wr.setCell (J b.1.size a) (.int .u8 (d%256)))):=(by have:=f.1.put (k:=a) (Ze8 _ h).s ((d:Int)%256);rw[<- g,ZlF _ i] at this;rw[<- g];exact⟨this.1,f.2.setCell x_ _⟩);have m:K (Sy (a+1) c=(d/256:Nat)):=(by show _=_;unfold Sy;rw[g];omega);have w:IntKind.u8.wrap (d%256)=d%256:=(by simp only[wrap,IntKind.bits,signed];simp);go_upto_region 8 with fail;generalize wr.setCell (J b.1.size a) (.int .u8 ((d:Int)%256))=y at *;refine J_ ?_;exact⟨a+1,d/256,g_,g_,O,O,m,j⟩
 have o:a=k:=O;subst o;have r:¬a<(a:Int):=O;have m:=Ou _ _ _ _ f.1;rw[ZlE] at m;have j:=Y f.2;go_wp2;go_ret;exact⟨rfl,j⟩
def Na a b:strOfNums a++strOfNums b=strOfNums (a++b):=by apply ByteArray.ext;simp[strOfNums]
def Oy a:Ay a 1=[a%256]:=rfl
theorem ZbQ b c:∀a,a<=b.length->Rh (b++[c]) a=Rh b a
 |0,_=>rfl
 |a+1,f=>by have d:(b++[c]).getD a (0,0)=b.getD a (0,0):=w_;have e:Bh (b++[c]) a=Bh b a:=(by grind [Bh]);simp only[Rh];rw[ZbQ b c a O,d,e]
def Zke a b:Rh (a++[b]) (a.length+1)=Rh a a.length++[(b.1-Bh a a.length)%256,b.2%256]:=by grind [Bh,Rh,ZbQ]
theorem iv a b:Bh (a++[b]) (a.length+1)=b.1:=by unfold Bh;simp[getD]
theorem Zkc b:∀a,a<=b.length->(Bu b a).length=Dp ((nzL b).take a)
 |0,_=>by simp[Bu,Dp]
 | a +1,e=>by
  have d:a<(nzL b).length:=by rw[Xw];omega
  have c:(nzL b)[a]=decide (b.getD a 0≠0):=by
   have:=Za0 (N:=b) (k:=a) O
   grind
  rw[Qi d,Ot,<- Zkc b a O,c];simp only[Bu]
  grind
def Zmf a:(Bu a a.length).length=nzN a:=by grind [Zkc,nzN,Xw]
def zj b:∀a,-1<=Bh (Bu b a) (Bu b a).length/\Bh (Bu b a) (Bu b a).length<a
 |0=>by simp[Bu,Bh]
 | a+1=>by
  have:=zj b a
  grind [Bu,iv]
def ja:∀b:Fin 64,∀a:Fin 7,a.val<Lib.bitLen b.val->0<b.val/2^a.val:=by decide+kernel
def ZdE b c a (d:b a=0):Bg b c (a+1)=Bg b c a:=by
 have:=ai b c a;rw[<- this,je,d,Nat.zero_mul,Nat.add_zero];apply ext_getElem;simp
 grind [Bg]
def ZgN a6 (c5 e:Nat) a j (s:NuV j a6 a)(b4:a.length<=200)(S:e<64)(d9:∀b,a.getD b 0<=1000000):C_ 136 #[V a6 a.length c5,I e] j (U_ (.string (strOfNums (Hr a e))) j):=by
 have⟨a3,a5⟩:=Z_ s d9;have c1:K (Hr a e=if 4*(Bu a a.length).length<a.length then Rm (Bu a a.length) else 100::Bg (Cd a (Lib.bitLen e)) ((a.length*Lib.bitLen e+7)/8) (a.length*Lib.bitLen e)):=(by show _=_;rw[Zmf];rfl);have⟨B,b5⟩:=Y_ a.length;have⟨a2,a4⟩:=Z_ b5 (Lz a);rw[b5] at b4 c1 ⊢;refine dl_ ?_;go_enter func136,ntmps136;go_upto_region 5 with fail;go_loopw [5,6,7,8] (λc Z b9 N d=>∃(b:Nat) (r:ByteArray),c=.int .i64 ((Bu a b).length:Nat)/\Z=.string r/\b9=.int .i64 (Bh (Bu a b) (Bu a b).length)/\N=.int .i64 b/\b<=B/\K (r=strOfNums (Rh (Bu a b) (Bu a b).length))/\K (E_ j d)) (λ_ _ _ N _=>B-(intOf N).toNat)
 case atStart=>exact⟨0,_,rfl,rfl,rfl,rfl,r_,rfl,y_⟩
 obtain⟨b,r,rfl,rfl,rfl,rfl,f7,u,o⟩:=hrel
 by_cases d3:b<B
 ·have a7:b<(B:Int):=O;obtain⟨i,rfl,x⟩:=a3 b (a2 ▸ d3);have N:=Ag o x;have T:=a5 b;have M:K (Bu a (b+1)=_++_):=rfl;have⟨g,U⟩:=Y_ (a.getD b 0);rw[U] at x N T M;have a8:=aJ _ _ x;have y:=zj a b;have b7:=a4 b
  by_cases Z:g=0
  ·subst Z;have f:K (Bu a (b+1)=Bu a b):=w_;refine J_ ?_;exact⟨b+1,r,by rw[f],rfl,by rw[f],g_,O,f ▸ u,o⟩
  have f:K (Bu a (b+1)=Bu a b++[(b,g)]):=w_;have⟨d,Q⟩:=Y_ (Bu a b);rw[Q] at y b7 u f ⊢;have⟨D,A⟩:=Y_ (Bh d d.length);have E:=Y A;rw[A] at y ⊢;obtain⟨l,W⟩:∃l:Nat,b-D=l:=⟨((b:Int)-D).toNat,O⟩;have a9:_=(l:Int):=As O O;have L:K (∀c,E_ j c->C_ 135 #[_,I 1] c λh P=>_/\_):=λc n=>(Su _ l 1 c O O (.inl ⟨O,rfl⟩)).m (λ_ _ s=>⟨s.1,n.T (s.2.m n.size)⟩);have t:K (∀c,E_ j c->C_ 135 #[_,I 1] c λh P=>_/\_):=λc n=>(Su _ g 1 c O O (.inl ⟨O,rfl⟩)).m (λ_ _ s=>⟨s.1,n.T (s.2.m n.size)⟩);have R:r.size<=2000:=by rw[u,Bk,Nz];omega
  have z:(strOfNums (Ay l 1)).size=1:=(by rw[Bk];rfl);have P:(strOfNums (Ay g 1)).size=1:=by rw[Bk];rfl
  have F:K (strOfNums (Rh (d++[(b,g)]) (d++[(b,g)]).length)=r++strOfNums (Ay l 1)++strOfNums (Ay g 1)):=(by show _=_;rw[Qe,length_singleton,Zke,E,W,u,Na,Na,Oy,Oy,append_assoc];rfl);have G:K (Bh (d++[(b,g)]) (d++[(b,g)]).length=b):=by show _=_;rw[Qe,length_singleton,iv]
  have H:K ((d++[(b,g)]).length=d.length+1):=(by show _=_;simp);generalize strOfNums (Ay (l:Nat) 1)=w,strOfNums (Ay (g:Nat) 1)=a0,d.length=X at *;have a1:¬9223372036854775807<r.size+w.size:=O;have b0:¬9223372036854775807<r.size+w.size+a0.size:=O;clear z P;go_upto_region 9 with fail;refine rg_ j 12 (λm=>?_) (hS:=o.drew);refine K_ ?_;refine oc_ 4 (L _ m) ?_;rintro h c0 ⟨rfl,q⟩;refine⟨_,rfl,q,λm=>K_ ?_⟩;refine oc_ 10 (t _ m) ?_;rintro h e3 ⟨rfl,v⟩;refine⟨_,rfl,v,λm=>K_ ?_⟩;refine le_ ?_;replace o:=Y v;clear m q v;refine J_ ?_;exact⟨b+1,_,by rw[f,H];go_num,rfl,by rw[f,G],g_,O,f ▸ F.s,o⟩
 have d8:b=B:=O;subst d8;have b7:=a4 b
 by_cases e8:4*(Bu a b).length<b
 ·have E:K (Hr a e=Rm (Bu a b)):=w_;have g:K (strOfNums (Rm (Bu a b))=({data:=#[115]}:ByteArray)++strOfNums (Ay (Bu a b).length 1)++r):=(by show _=_;rw[u,show({data:=#[115]}:ByteArray)=strOfNums [115] from rfl,Na,Na];rfl);have f:=Su ((Bu a b).length:Nat) (Bu a b).length 1;have R:r.size<=2000:=(by rw[u,Bk,Nz];omega);have z:(strOfNums (Ay (Bu a b).length 1)).size=1:=(by rw[Bk];rfl);have a1:¬9223372036854775807<1+(strOfNums (Ay (Bu a b).length 1)).size:=O;generalize strOfNums (Ay ((Bu a b).length:Nat) 1)=w,(Bu a b).length=X at *;have c8:4*X<(b:Int):=O;have t:K (∀c,Calls _ 135 #[_,I 1] c λh P=>_):=λc=>f c O O (.inl ⟨O,rfl⟩);go_wp2_with fail
  apply (t _).m;rintro h c0 ⟨rfl,q⟩;have d:=Y (o.T (q.m o.size));go_wp2;go_ret;exact⟨by rw[E,g];rfl,d⟩
 have E:K (Hr a e=100::Bg (Cd a (Lib.bitLen e)) ((b*Lib.bitLen e+7)/8) (b*Lib.bitLen e)):=w_;have d2:=Gc S;have f3:=Mc S;have c2:K (∀c,c<Lib.bitLen e->0<e/_):=λc b0=>ja ⟨e,S⟩ ⟨c,O⟩ b0;generalize Lib.bitLen e=l at *;have c8:¬4*(Bu a b).length<(b:Int):=O;generalize (Bu a b).length=X at *;generalize wr=t at *;go_upto_region 14 with fail;go_loopw [9] (λd f=>∃c:Nat,d=.int .i64 c/\c<=l/\K (t=f)) (λd _=>l-(intOf d).toNat)
 case atStart=>exact⟨0,rfl,r_,rfl⟩
 obtain⟨c,rfl,b0,e0⟩:=hrel;have e1:=e0.out;subst e1
 by_cases d0:c<l
 ·have d:0<=(c:Int):=O;have f:(c:Int)<64:=O;have g:=c2 c d0;have d6:0<(e:Int)/2^c:=w_;refine J_ ?_;exact⟨c+1,g_,O,True.intro⟩
 have d1:c=l:=O;subst d1;have d6:¬0<(e:Int)/2^c:=(by grind [div_eq_of_lt]);have⟨v,L⟩:=Y_ (b*c);have e9:v<=1200:=(by rw[<- L];exact Nat.mul_le_mul b4 d2);have f0:b*c=(v:Int):=(by rw[<- L];simp);have⟨d,d5⟩:=Y_ ((v+7)/8);have g0:(v+7)/8=(d:Int):=O;have f5:=Qj d O;have F:K (_/\v<=8*d/\d<=200):=⟨L,O,O⟩;rw[L,d5] at E;go_upto_region 17 with fail;have e4:K (Ax (t.alloc (O_ (madeCells #[.int .u8 0] d) 5)) t.1.size (L_ t.1.size d d) (Bg (Cd a c) d 0)/\E_ j (t.alloc (O_ (madeCells #[.int .u8 0] d) 5))):=by refine⟨?_,o.alloc o.size _⟩;rw[ll];exact Py _ _ _ O x_
 have d7:=o.size;generalize t.alloc (O_ (madeCells #[.int .u8 0] d) 5)=c0,t.1.size=i at *;go_upto_region 18 with fail;go_loopw [11] (λg h=>∃f:Nat,g=.int .i64 f/\f<=b/\K (Ax h i (.slice (some ⟨i,0,none⟩) d d) (Bg (Cd a c) d (f*c))/\E_ j h)) (λg _=>b-(intOf g).toNat)
 case atStart=>grind
 obtain⟨f,rfl,f4,m⟩:=hrel
 by_cases b2:f<b
 ·have f8:0<=(f:Int):=O;obtain⟨g1,rfl,x⟩:=a3 f (a2 ▸ b2);have T:=a5 f;have⟨h,z⟩:=Y_ (f*c);have f1:f*c=(h:Int):=by rw[<- z];simp
  have f2:h+c<=v:=by
   rw[<- z,<- F.1];have:(f+1)*c<=b*c:=aK _ b2
   grind
  have a1:K (∀k,_->Cd a c (h+k)=_%2):=λk b3=>by rw[<- z];exact Mm a b3
  have c3:=Y z;rw[z] at m;have⟨g,U⟩:=Y_ (a.getD f 0);rw[U] at x T a1;generalize wr=e3 at *;go_upto_region 21 with fail;go_loopw [12] (λn q=>∃k:Nat,n=.int .i64 k/\k<=c/\K (Ax q i (.slice (some ⟨i,0,none⟩) d d) (Bg (Cd a c) d (h+k))/\E_ j q)) (λn _=>c-(intOf n).toNat)
  case atStart=>exact⟨0,rfl,r_,m⟩
  obtain⟨k,rfl,b3,m⟩:=hrel
  by_cases d4:k<c
  ·have f9:0<=(k:Int):=O;have e6:=W_ m.2 x;have A:=a1 k d4;have f6:=F.out;have a8:((g:Int)/2^k).tmod 2=(g/2^k%2:Nat):=by rw[show((g:Int)/2^k)=((g/2^k:Nat):Int) by simp];rfl
   rcases mod_two_eq_zero_or_one (g/2^k) with c9|b1
   ·rw[c9] at A a8;have n:K (Bg _ d (h+(k+1))=Bg _ _ (h+k)):=ZdE _ _ _ A;refine J_ ?_;exact⟨k+1,g_,O,n ▸ m⟩
   rw[b1] at A a8;have⟨w,y⟩:=M_ (h+k);have⟨q,H⟩:=M_ (w/8);have⟨n,R⟩:=M_ (w%8);have a9:q<d:=O;have⟨G,a7⟩:=m.1.c (k:=q) (by rw[Dg]) a9;rw[Kc _ _ a9] at G;have⟨a0,M⟩:=M_ (Gz (Cd a c) (h+k) q);have e2:a0<2^n:=by rw[M,H,R,<- y];exact jf (Ix a c) w
   have c7:2^n<=128:=by
    have:(2:Nat)^n<=2^7:=Nat.pow_le_pow_right C O
    simpa using this
   have⟨Q,W⟩:=M_ (2^n);have⟨D,b8⟩:=M_ (a0+Q);have b6:Gz (Cd a c) (h+k+1) q=D:=by rw[b8,W,M,H,R,<- y,je,y,A,Nat.one_mul]
   have c4:K ((Bg (Cd a c) d (h+k)).set q D=Bg (Cd a c) d (h+(k+1))):=by show _=_;rw[<- b6];have:=ai (Cd a c) d (h+k);rw[<- y,<- H,y] at this;exact this
   have g2:h+k=(w:Int):=O;have g3:w/8=(q:Int):=O;have g4:(w:Int).tmod 8=n:=by rw[Int.tmod_eq_emod_of_nonneg O];omega
   have Z:IntKind.u8.wrap (1*2^n)=Q:=by
    rw[Int.one_mul,Yp _ (by have:(0:Nat)<=2^n:=r_;exact_mod_cast this) (by
     have:((2:Int)^n)=((2^n:Nat):Int):=s_
     rw[this];omega)]
    rw[W];simp
   have g5:IntKind.u8.wrap (2^n)=Q:=(by rw[<- Z,Int.one_mul]);have b9:IntKind.u8.wrap (a0+Q)=D:=(by rw[Yp _ O O];omega);have N:_=(q:Int):=As O O;have e5:(n:Int)<=8:=O;rw[<- M] at G;have c6:wr.drew.cell? _=_:=G;have e7:wr.drew.frozen? _=_:=a7;clear b1 A y H R G a7 M e2 W b8 b6 c7;go_upto_region 25 with fail;refine Af (λP=>P.cell? _=some _) 13 k_ c6 (λhHeld=>?_);refine tkP 0 ?_;refine tkP 1 ?_;refine tkP 2 ?_;refine tkP 3 ?_;refine tkP 4 ?_;refine tkP 5 ?_;refine tkP 6 ?_;refine Ma [11,12,13] (i:=7) (v:=?_) rfl k_ k_ k_ k_ k_ (λ_ _ _ s=>s) (Or.inl ⟨by rfl,?_⟩) a_ ?_
   rotate_left
   ·intro j P
    (try dsimp only at P)
    go_simp;try with_reducible rfl
   try simp only[Act.put,sA,sB,sC]
   refine tkP 8 ?_;refine tkP 9 ?_;refine tkP 10 ?_;refine tkP 11 ?_;refine tkP 12 ?_;refine Eu (i:=13) k_ rfl k_ (λKK hK=>?_);go_simp;apply hK _ _;try simp only[Act.put,sA,sB,sC]
   refine Fn k_ ?_ _;have P:K (Ax (wr.setCell (J i q) (.int .u8 D)).drew i (L_ i d d) (Bg (Cd a c) d (h+(k+1)))/\E_ j (wr.setCell (J i q) (.int .u8 D)).drew):=(by rw[<- c4];exact⟨World.ownsRow.drew (m.1.put (by rw[Dg]) _).1,(m.2.setCell (p:=(J i q)) d7 _).drew⟩);refine J_ ?_;exact⟨k+1,g_,O,P⟩
  have q:k=c:=O;subst q;have n:K (Ax wr i (L_ i d d) (Bg (Cd a k) d ((f+1)*k))/\E_ j wr):=(by have:(f+1)*k=h+k:=(by rw[Nat.add_mul,Nat.one_mul,c3]);rw[this];exact m);refine J_ ?_;exact⟨f+1,g_,O,n⟩
 have h:f=b:=O;subst h;have q:=Ou _ i _ _ m.1;have n:=Y m.2;have g:K (strOfNums (Hr a e)=({data:=#[100]}:ByteArray)++strOfNums (Bg (Cd a c) d (f*c))):=(by show _=_;rw[E,F.1,show({data:=#[100]}:ByteArray)=strOfNums [100] from rfl,Na];rfl);have w:(strOfNums (Bg (Cd a c) d (f*c))).size=d:=(by rw[Bk,Dg]);have x:=F.2.2;generalize strOfNums (Bg (Cd a c) d (f*c))=y at *;go_wp2;go_ret;exact⟨by rw[g];rfl,n⟩
def lj j i s y p h q r c g (H:WB g j i)(F:i[6]? =some y)(G:i[7]? =some p)(E:i[12]? =some (I c))(w:Ad g 0 s h)(N:g.ownsRow 0 25 1 y q.length q)(M:g.ownsRow 0 3 1 p r.length r)(L:p.ownBlock=none∨p.ownBlock≠s.ownBlock)(b4:h.length<=4194304)(b5:q.length<=100000000)(b6:r.length<=100000000)(a1:0<=c/\c<=100000000):C_ 142 #[.pointer (some (J j 4)),s] g λb e=>b=.returned (.tuple #[])/\∃R Q d,Yv g e j 6 i 25 3 (λa=>Do a 3 (I (-(c+1)))) (I (-(c+1))) s y p q r (c+1) R Q d:=by
 obtain⟨A,B,rfl⟩:=w.shape;have z:K (_=(h.map (int .i64)).length):=(length_map _).s;obtain⟨e,f,U,o,Z⟩:=Za9 (I (c+1)) (Se (h.map (int .i64)) (I (-(c+1)))) H (by rw[Zj];exact w) N M L F G E;generalize h.length=k,h.map (int .i64)=S at *;obtain⟨b7,b8⟩:=a1;have⟨d,P⟩:=Y_ (-(c+1));have c0:=(As O O).T P;rw[P] at f ⊢;clear H w N M L F G E;refine v_ ?_;go_upto_region 3 with fail;generalize g.setCell (J j 12) (I (c+1))=b0 at *;clear U o Z;go_loopw [5] (λa l=>∃b:Nat,b<=k/\a=.int .i64 b/\K (rj g l j (i.setIfInBounds 12 (I (c+1))) 3 1 (.slice A k B) k (Se S (I d)) b)) (λa _=>k-(intOf a).toNat)
 case atStart=>exact⟨0,r_,rfl,f⟩
 clear f;obtain⟨b,b3,rfl,f⟩:=hrel
 by_cases x:b<k
 ·obtain⟨t,rfl⟩:=f.ptr x;have⟨⟨u,l⟩,n,a⟩:=f.next z x e.l;clear f;refine J_ ?_;exact⟨b+1,x,g_,a⟩
 obtain rfl:b=k:=O;have t:=Y (f.E Do.mark (by rw[z,Zi]) m_);clear f;go_wp2_with (at_builtin;refine ap_ [I d] (t.n.row.alloc _) ?_)
 intro c6 b0 a;have u:=t.E Do.mark (m:=1) e.l a;obtain⟨a6,a2,rfl⟩:=a.2.2.2.2;clear a t;go_wp2_with (at_builtin;refine ap_ [I d,I d] (u.n.row.alloc _) ?_)
 intro c7 c2 a;have v:=u.E Do.mark (m:=2) e.l a;obtain⟨a7,a3,rfl⟩:=a.2.2.2.2;clear a u;go_wp2_with (at_builtin;refine ap_ [I d,I d,I d] (v.n.row.alloc _) ?_)
 intro c8 c3 a;have n:=v.E Do.mark (m:=3) e.l a;obtain⟨a8,a4,rfl⟩:=a.2.2.2.2;clear a v;have W:=(n.v.cell 6).T e.v;have o:=n.v.frozen;go_wp2_with (at_builtin;refine ap_ [V A b B,L_ a6 (b+1) a2,L_ a7 (b+2) a3,L_ a8 (b+3) a4] ((e.row n).1.alloc _) ?_)
 intro R b1 a;have⟨a0,D,l⟩:=n.F Do.mark e a;obtain⟨a9,a5,rfl⟩:=a.2.2.2.2;clear a n W o;go_upto_region 10 with fail;generalize b1.setCell (J j 6) (L_ a9 (q.length+4) a5)=c4 at *;have X:=l.cell e;have o:=l.v.frozen;clear a0 D;go_wp2_with (at_builtin;refine ap_ [I d,I d,I d,I d] (l.w.alloc _) ?_)
 intro Q c5 a;obtain⟨b2,D,T⟩:=l.E Do.mark e q_ rfl a;obtain⟨c1,b9,rfl⟩:=a.2.2.2.2;clear a l X o;go_wp2;go_end0;exact⟨rfl,_,_,_,T⟩
def Ii:Value:=N_
structure Ud(i:World)(f:Nat->Nat)(j:Array Value)(c n o:Nat)(k:World->Value->Value->Prop)(l)(h g)(a d):Prop where
 v:j[c]? =some h
 z:j[c+1]? =some g
 x:i.ownsRow 0 n 1 h a.length a
 on:∀b,h.ownBlock=some b->f b=c
 w:i.ownsRow 0 o 1 g d.length d
 q:∀b,g.ownBlock=some b->f b=c+1
 len:d.length=a.length
 p:a.length<=4*l
 all:∀e,e<a.length->Jl i f 13 (λm=>k m (a.getD e Ii) (d.getD e Ii))
def fE(b:World)(x c:Value):Prop:=∃a:Int,c=I a/\Gq b a x
def fN(b:World)(x a:Value):Prop:=(∃c:Int,a=I c)/\Do b 3 a x
def fS(b:World)(x a:Value):Prop:=(∃c:ByteArray,a=.string c)/\Do b 9 a x
def fL(a:World)(x b:Value):Prop:=∃d c,b=I d/\Do a 25 (L_ c 1 1) x/\a.1[c]? =some (O_ #[b] 3)
def tlB:Nat->Nat|4=>29|6=>25|8=>47|_=>84
def tmB:Nat->Nat|8=>9|_=>3
def fB:Nat->World->Value->Value->Prop|4=>fE|6=>fN|8=>fS|_=>fL
def Grp(i:World)(e:Nat->Nat)(c:Array Value)(a b:Nat):Prop:=∃g f h d,Ud i e c a (tlB a) (tmB a) (fB a) b g f h d
def Gs(e:World)(d:Nat->Nat)(c:Array Value)(b:Nat):Prop:=∀a,a=4∨a=6∨a=8∨a=10->Grp e d c a b
section
variable {w w':World} {o d:Nat->Nat} {c j:Array Value} {g i l m N:Nat} {nx:Int} {p:World->Value->Value->Prop} {A:World->Value->Prop} {v n b a h f:Value} {vs e k:List Value} {S E:Nat->Prop}
def Em.at(b:Em w o d){k a}(c:k<w.1.size)(e:o k=a)(f:a≠99):d k=a:=by have:=b k c;omega
def Ud.u(g:Ud w o c i l m p N b a vs e)(s:Aa S w w')(r:∀f,f<w.1.size->S f->o f≠i/\o f≠i+1/\o f≠13)(q:Em w o d)(G:i<20)(u:j[i]? =c[i]?)(x:j[i+1]? =c[i+1]?){t}(F:N<=t):Ud w' d j i l m p t b a vs e:=
 have n {D B:Nat} {v E} (z:w.ownsRow 0 D 1 v B E) f h:=(B_ z f h).2
 ⟨u.T g.v,x.T g.z,s.row g.x (λf h k=>(r f (n g.x f h) k).1 (g.on f h)),λf h=>q.at (n g.x f h) (g.on f h) O,s.row g.w (λf h k=>(r f (n g.w f h) k).2.1 (g.q f h)),λf h=>q.at (n g.w f h) (g.q f h) O,g.len,p_ g.p,λA y=>(g.all A y).step s (λf h k=>(r f h k).2.2) q⟩
def Ud.B(h:Ud w o c i l m p N b a vs e)(j:∀d,v.ownBlock=some d->o d=99)(k:i<20):a.ownBlock=none∨a.ownBlock≠v.ownBlock:=by
 cases f:a.ownBlock with
 |none=>exact .inl rfl
 |some d=>exact .inr (λg=>oj_ (h.q d f) (j d g.s))
def Gs.u(h:Gs w o c N)(s:Aa S w w')(r:∀f,f<w.1.size->S f->o f=0∨13<o f)(q:Em w o d)(g:∀k,4<=k->j[k]? =c[k]?){l}(m:N<=l):Gs w' d j l:=λi n=>by have⟨b,a,vs,e,h⟩:=h i n;exact⟨b,a,vs,e,h.u s (λf p g=>p_ (r f p g)) q O (g _ O) (g _ O) m⟩
structure Hu(w)(o:Nat->Nat)(g)(c)(N:Nat):Prop where
 v:WB w g c
 b:o g=0
 r:c.size=13
 p:∃a:Int,c[12]? =some (I a)/\0<=a/\a<=N
 h:Gs w o c N
def Hu.put(b:Hu w o g c N)(s:Aa S w w')(p:∀k,k<w.1.size->S k->k=g∨13<o k)(q:WB w' g j)(h:Em w o d)(a:∀e,4<=e->j[e]? =c[e]?)(r:j.size=13){f}(m:N<=f:=by exact x_):Hu w' d g j f:=by have⟨t,i,l,u⟩:=b.p;exact⟨q,h.at b.v.lt b.b C,r,⟨t,(a _ C).T i,l,O⟩,b.h.u s (λk n a=>by rcases p k n a with rfl|a;exact .inl b.b;exact .inr a) h a m⟩
def Hu.u(a:Hu w o g c N)(h:Aa S w w')(f:∀b,b<w.1.size->S b->13<o b)(j:Em w o d):Hu w' d g c N:=
 a.put h (λb i e=>.inr (f b i e)) (h.g a.v λe=>oj_ (f g a.v.lt e) a.b) j (λ_ _=>rfl) a.r
def Vx(w:World)(o:Nat->Nat)(E:Nat->Prop)[DecidablePred E](i:Nat)(b a:Value)(c:Nat):Nat:=
 if c<w.1.size/\o c≠99 then o c else if E c then 13 else if b.ownBlock=some c then i else if a.ownBlock=some c then i+1 else 99
variable [DecidablePred E]
def Mg w o E [DecidablePred E] i b a:Em w o (Vx w o E i b a):=λd c=>by grind [Vx]
def ah{c}(d:E c)(e:c<w.1.size->o c=99):Vx w o E i b a c=13:=by grind [Vx]
theorem ZdD(q:Ud w o c i l m p N b a vs e)(s:Yv w w' g i c l m A n v b a vs e nx h f k)(r:o g=0){d}(j:d=g∨v.ownBlock=some d∨b.ownBlock=some d∨a.ownBlock=some d):o d=0∨v.ownBlock=some d∨o d=i∨o d=i+1:=by
 rcases j with rfl|j|j|j
 exact .inl r
 ·grind
 exact .inr (.inr (.inl (q.on d j)));exact .inr (.inr (.inr (q.q d j)))
def Ud.grow(r:Ud w o c i l m p N b a vs e)(s:Yv w w' g i c l m A n v b a vs e nx h f k)(Q:i=6∨i=8∨i=10)(S:o g=0)(T:∀d,v.ownBlock=some d->o d=99)(U:c.size=13)(R:l≠m)(P:∀d,E d->h.ownBlock≠some d)(B:∀d,E d->f.ownBlock≠some d)(D:∀x∈k,Jl w' (Vx w o E i h f) 13 (λz=>p z x n)):Ud w' (Vx w o E i h f) (((c.setIfInBounds 12 (I nx)).setIfInBounds i h).setIfInBounds (i+1) f) i l m p (N+1) h f (vs++k) (e++replicate 4 n):=by
 have y:=s.len;refine⟨w_,w_,?_,λd t=>?_,?_,λd t=>?_,by simp[r.len,y],gh_ r.p,λj F=>?_⟩;rw[Qe,y];exact s.x
 ·rcases s.z d t with q|q
  exact(Mg w o E i _ _).at (B_ r.x d q).2 (r.on d q) O
  grind [Vx]
 rw[Qe,length_replicate];exact s.w
 ·rcases s.y d t with q|q
  exact(Mg w o E i _ _).at (B_ r.w d q).2 (r.q d q) O;unfold Vx;rw[aC O,aC (λu=>B d u t),aC (λu=>?_),aD t];have⟨G,L⟩:=Ac s.x u;have⟨H,M⟩:=Ac s.w t
  grind
 rw[Qe,y] at F;have G:=r.len
 by_cases u:j<vs.length
 ·rw[show(vs++k).getD j Ii=vs.getD j Ii by grind,show(e++replicate 4 n).getD j Ii=e.getD j Ii by grind];refine(r.all j u).step s.u (λd t q=>?_) (Mg w o E i _ _)
  grind [ZdD]
 rw[show(vs++k).getD j Ii=k[j-vs.length] by grind,show(e++replicate 4 n).getD j Ii=n by grind];exact D _ (Qf _)
def xz{c:Array Value}{i a x b d}(e:a≠12/\a≠i/\a≠i+1):(((c.setIfInBounds 12 x).setIfInBounds i b).setIfInBounds (i+1) d)[a]? =c[a]?:=w_
abbrev lf(k:List Value)(a:Nat):Prop:=∃b∈k,b.ownBlock=some a
def Gs.q(m:Gs w o c N)(s:i=6∨i=8∨i=10)(r:Ud w o c i (tlB i) (tmB i) (fB i) N b a vs e)(l:Yv w w' g i c (tlB i) (tmB i) A n v b a vs e nx h f k)(p:o g=0)(u:c.size=13)(z:g<w.1.size)(P:∀d,v.ownBlock=some d->o d=99)(H:0<=nx/\nx<=N+1)(D:∀d,E d->h.ownBlock≠some d)(B:∀d,E d->f.ownBlock≠some d)(F:∀x∈k,Jl w' (Vx w o E i h f) 13 (λy=>fB i y x n)):Hu w' (Vx w o E i h f) g (((c.setIfInBounds 12 (I nx)).setIfInBounds i h).setIfInBounds (i+1) f) (N+1):=by
 have q:=Mg w o E i h f;refine⟨l.v,q.at z p C,by simp[u],⟨nx,w_,H.1,O⟩,λt G=>?_⟩
 by_cases j:t=i
 subst j;exact⟨h,f,_,_,r.grow l s p P u (by rcases s with rfl|rfl|rfl<;>decide) D B F⟩;have⟨Q,R,L,M,m⟩:=m t G;refine⟨Q,R,L,M,m.u l.u (λd S j=>?_) q O (xz O) (xz O) (le_succ _)⟩
 rcases ZdD r l p j with j|j|j|j
 omega
 ·grind
 omega;omega
def zb(w w':World)(o:Nat->Nat)(g:Nat)(N:Nat)(v:Value)(c:Array Value):Prop:=∃d j,Hu w' d g j (N+1)/\Em w o d/\Aa (λa=>o a<=13∨v.ownBlock=some a) w w'/\(∀b,b<4->j[b]? =c[b]?)/\(∀a,w.1.size<=a->d a<=13∨d a=99)/\(∀a,a<w.1.size->o a=99->v.ownBlock≠some a->d a=99)/\∀a,a<w.1.size->o a=99->d a<=13∨d a=99
def Zba(r:Ud w o c i l m p N b a vs e)(j:Yv w w' g i c l m A n v b a vs e nx h f k)(t:o g=0)(s:i<=10):Aa (λd=>o d<=13∨v.ownBlock=some d) w w':=
 j.u.m (λd _ q=>by grind [ZdD])
def hy(e:i<=10){c}(d:w.1.size<=c∨o c=99):Vx w o E i b a c<=13∨Vx w o E i b a c=99:=by grind [Vx]
def ZbM(c:Array Value) i (e:4<=i) x b d a (f:a<4):(((c.setIfInBounds 12 x).setIfInBounds i b).setIfInBounds (i+1) d)[a]? =c[a]?:=xz O
end
def Hu.q{o B n p k h s b m z y H G A u v}{r:Int}(j:Hu o n p h k)(L:b=6∨b=8)(l:Ud o n h b (tlB b) (tmB b) (fB b) k z y A u)(e:Yv o B p b h (tlB b) (tmB b) (λg=>Do g (tmB b) m) m s z y A u r H G v)(w:∀a,s.ownBlock=some a->n a=99)(d:0<=r/\r<=k+1)(D:∀g x,Do g (tmB b) m x->fB b g x m):zb o B n p k s h:=by
 have t:∀a,lf _ a->_:=λa ⟨x,d,c⟩=>(e.all x d).2 a c;refine⟨_,_,j.h.q (E:=lf v) O l e j.b j.r j.v.lt w d (λa ⟨x,d,c⟩=>e.B x d a c) (λa ⟨x,d,c⟩=>e.A x d a c) λx d=>?_,Mg _ _ _ _ _ _,Zba l e j.b O,ZbM h b O _ _ _,λa c=>hy O (.inl c),λa c q F=>?_,λa _ q=>hy O (.inr q)⟩;exact(Jl.all (e.all x d).1 (λa c=>ah ⟨x,d,c⟩ λf=>(t a ⟨x,d,c⟩).elim (w a) O)).m (λg f=>D g x f);unfold Vx;rw[aC (λf=>f.2 q),aC (λf=>(t a f).elim F O),aC (λf=>?_),aC (λf=>?_)]
 ·rcases e.y a f with i|i
  have:=l.q a i;omega;omega
 rcases e.z a f with i|i
 have:=l.on a i;omega;omega
def Hu.a{c i d g h b f}(e:Hu c i d h g)(n:Ad c 0 b f)(l:∀k,b.ownBlock=some k->i k=99)(p:f.length<=4194304)(v:g<=20000000):C_ 142 #[.pointer (some (J d 4)),b] c λj m=>j=.returned (.tuple #[])/\zb c m i d g b h:=by have⟨E,B,G,z,a⟩:=e.h 6 C;have⟨t,r,s,y⟩:=e.p;have w:=a.p;have x:=a.len;apply (lj d h b _ _ f _ _ t c e.v a.v a.z r n a.x a.w (a.B l C) p O O ⟨s,O⟩).m;rintro j m ⟨rfl,F,D,A,q⟩;exact⟨rfl,e.q (.inl rfl) a q l O λu H o=>⟨⟨_,rfl⟩,o⟩⟩
def Hu.g{c i d g h b f}(e:Hu c i d h g)(n:Bi c 0 b f)(l:∀k,b.ownBlock=some k->i k=99)(p:f.length<=4194304)(v:g<=20000000):C_ 143 #[.pointer (some (J d 4)),b] c λj m=>j=.returned (.tuple #[])/\zb c m i d g b h:=by have⟨E,B,G,z,a⟩:=e.h 8 C;have⟨t,r,s,y⟩:=e.p;have w:=a.p;have x:=a.len;apply (xi d h b _ _ f _ _ t c e.v a.v a.z r n a.x a.w (a.B l C) p O O ⟨s,O⟩).m;rintro j m ⟨rfl,F,D,A,q⟩;exact⟨rfl,e.q (.inr rfl) a q l O λu H o=>⟨⟨_,rfl⟩,o⟩⟩
def Nm(d g:World)(c:Nat->Nat)(j h:Nat)(i:Array Value):Prop:=∃b f,Hu g b j f h/\Em d c b/\Aa (λa=>c a<=13∨c a=99) d g/\(∀e,e<4->f[e]? =i[e]?)/\(∀a,d.1.size<=a->b a<=13∨b a=99)/\∀a,a<d.1.size->c a=99->b a<=13∨b a=99
structure ZhN(e wr)(f c)(m k h)(l g:Array Value)(i)(d)(j:Nat->List Int):Prop where
 p:Hu wr c m g (k+h)
 q:Em e f c
 r:Aa (λa=>f a<=13∨f a=99) e wr
 v:∀b,b<4->g[b]? =l[b]?
 B:∀a,e.1.size<=a->c a<=13∨c a=99
 n:wr.ownsRow 0 25 1 i d.length d
 u:∀a,i.ownBlock=some a->c a=99
 o:∀b,h<=b->b<d.length->Ad wr 0 (d.getD b Ii) (j b)/\∀a,(d.getD b Ii).ownBlock=some a->c a=99
 y:∀b,b<d.length->∀a,(d.getD b Ii).ownBlock=some a->a<e.1.size
 D:∀a,a<e.1.size->f a=99->c a<=13∨c a=99
def ZhN.next{x wr y v w n j f s t i g q}(c:ZhN x wr v w n j f s t i g q)(E:f<g.length)(D:∀f d,f<d->d<g.length->∀a,(g.getD f Ii).ownBlock=some a->(g.getD d Ii).ownBlock≠some a)(N:zb wr y w n (j+f) (g.getD f Ii) t):∃p m,ZhN x y v p n j (f+1) s m i g q:=by
 obtain⟨p,m,z,k,l,A,R,r,S⟩:=N;have H:=c.r.size;have L:=(c.o f x_ E)
 have F:∀a,i.ownBlock=some a->(g.getD f Ii).ownBlock≠some a:=λa b e=>by
  have⟨h,u⟩:=Ac c.n b;have⟨o,B⟩:=Ac L.1 e
  grind
 have u:∀{P M:Nat} {i Q},wr.ownsRow 0 P 1 i M Q->_:=λG a b=>(B_ G a b).2;refine⟨p,m,z,c.q.T H k,c.r.c l (λa b=>?_),λd o=>(A d o).T (c.v d o),λa b=>?_,l.row c.n (λa b e=>?_),λa b=>r a (u c.n a b) (c.u a b) (F a b),λd o h=>⟨l.row (c.o d O h).1 (λa b e=>?_),λa b=>r a (u (c.o d O h).1 a b) ((c.o d O h).2 a b) (λe=>D f d O h a e b)⟩,c.y,λa b B=>?_⟩
 ·have:=c.q a
  grind
 ·have:=c.B a b;have:=k a
  grind
 ·rcases e with e|e
  have:=c.u a b;omega
  grind
 ·rcases e with e|e
  have:=(c.o d O h).2 a b;omega
  grind
 have:=c.D a b B;have:=k a
 grind
def Hu.e{t y f o H X j}{Ls:Nat->List Int}(b7:Hu t y f H o)(N:t.ownsRow 0 25 1 X j.length j)(U:∀a,X.ownBlock=some a->y a=99)(a8:∀i,i<j.length->Ad t 0 (j.getD i Ii) (Ls i)/\∀a,(j.getD i Ii).ownBlock=some a->y a=99)(c0:∀i,(Ls i).length<=4194304)(b9:∀c i,c<i->i<j.length->∀a,(j.getD c Ii).ownBlock=some a->(j.getD i Ii).ownBlock≠some a)(e6:j.length<=1000)(f8:o<=10000000)(c4:∀a,t.1.size<=a->y a=99):C_ 144 #[.pointer (some (J f 4)),X] t λe z=>e=.returned (.tuple #[])/\Nm t z y f (o+j.length+1) H:=by
 have d2:K (ZhN t t y y f o 0 H H X _ _):=⟨b7,Em.refl _ _,Aa.refl _ _,λ_ _=>rfl,λa b=>.inr (c4 a b),N,U,λi _ M=>a8 i M,λi M a b=>(B_ (a8 i M).1 a b).2,λa _ a7=>.inr a7⟩;have⟨d0,d3⟩:=Z_ b9 c0;have⟨x,b1⟩:=M_ j.length;have S:=Y b1
 obtain⟨v,A,rfl⟩:∃v A,X=.slice v x A:=by
  rcases N.2 with⟨rfl,n⟩|⟨h,k,l,rfl,_⟩
  ·grind
  grind
 rw[<- b1] at e6 ⊢;clear b7 N U a8 c0 b9 c4 b1;refine dl_ ?_;go_enter func144,ntmps144;go_upto_region 1 with fail;go_loopw [4] (λh d=>∃(c:Nat) (s:Nat->Nat) (D:Array Value),c<=x/\h=.int .i64 c/\K (ZhN t d y s f o c H D (.slice v x A) j Ls)) (λh _=>x-(intOf h).toNat)
 case atStart=>grind
 clear d2;obtain⟨c,s,D,g0,rfl,d⟩:=hrel
 by_cases e3:c<x
 ·have F:=F_ c x;have g:c<j.length:=by rw[<- S];exact e3
  obtain⟨h,rfl⟩:∃h,v=some ⟨h,0,none⟩:=by
   rcases d.out.n.2 with⟨_,n⟩|⟨p,k,l,e,_⟩
   omega
   grind
  have u:wr.cell? (J h c)=some (j.getD c Ii):=by
   have e:=d.n;rw[<- S] at e
   grind [World.ownsRow.cellAt]
  have n:=d.p.a (d.o c x_ g).1 (d.o c x_ g).2 (d3 c) O;have p:K (∀W,zb _ W _ f _ _ _->_):=λW k=>d.next g d0 k
  obtain⟨q,l,r,z⟩:∃q l r,j.getD c Ii=.slice q l r:=by
   have⟨q,r,e⟩:=(d.o c x_ g).1.shape
   grind
  rw[z] at u n p;clear z d;go_wp2_with fail
  apply n.m;rintro e W ⟨rfl,k⟩;have⟨G,E,w⟩:=p W k;have B:=Y w;clear k w n p u;go_wp2;go_roundw;case rel=>grind
  case measure=>exact z_
 have e4:c=x:=O;subst e4;have g3:¬c<(c:Int):=O;generalize wr=k at *;have⟨c8,b4,c9,c5,q⟩:=d.p.h 10 C;have⟨l,r,g4,g5⟩:=d.p.p;have f9:=q.p;have g2:c5.length<=400000000:=p_ q.len;have L:=d.p.v;have e2:=L.lt;have⟨p,b3⟩:=M_ (-(l+1));have g8:i64.wrap (-(l+1))=p:=(by rw[As O O,b3]);have g9:=b3.s;have g6: -1000000000000<=p:=O;have d6:k.cell? (J f 12)=some (I l):=(by rw[L.cell];exact r);have d7:=L.frozen;have a9:=L.set 12 (I (l+1))
 have d8:(k.setCell (J f 12) (I (l+1))).cell? (J f 12)=some (I (l+1)):=by
  rw[a9.cell]
  grind
 have⟨n,P⟩:=M_ ((k.setCell (J f 12) (I (l+1))).alloc (O_ #[I p] 3));have c3:(k.setCell (J f 12) (I (l+1))).1.size=k.1.size:=(by simp[World.setCell]);have G:Aa (λa=>a=f) k n:=P ▸ (((Aa.refl (λa=>a=f) _).setCell (p:=(J f 12)) (λ_=>rfl) _).alloc _);have b0:WB n f (D.setIfInBounds 12 (I (l+1))):=P ▸ (a9.alloc _);have b8:H_ n k.1.size #[I p] 3:=by rw[P,<- c3];exact hn_
 have e9:n.1.size=k.1.size+1:=(by rw[P];simp[World.setCell]);have a1:∀{d4 c6 x:Nat} {c7:_} {f7:_},_->c6≠90->n.ownsRow d4 c6 1 c7 x f7:=λN e7=>G.row N (λa b e=>by subst e;exact L.apart N e7 b.s);have b2:=a1 d.n C;have u:=Y (OwC.E (i:=10) b0 b2 (a1 q.x C) (a1 q.w C) (Ao d.n q.w C) (by rw[aH C];exact q.v) (by rw[aH C];exact q.z));have⟨g,Z⟩:=M_ k.1.size;have a2:K (H_ n g #[I p] 3):=Z ▸ b8
 have F:K (¬(g=f∨(slice v c A).ownBlock=some g∨c8.ownBlock=some g∨b4.ownBlock=some g)):=λe=>by
  rcases e with e|e|e|e
  omega;have:=(B_ d.n _ e).2;omega;have:=(B_ q.x _ e).2;omega;have:=(B_ q.w _ e).2;omega
 have d1:K (∀z R E Q,Yv n z f 10 D 84 3 (λW=>Do W 25 (L_ g 1 1)) (I p) (V v c A) c8 b4 c9 c5 (l+1) R E Q->Nm t z y f (o+c+1) H):=λz R E Q w=>by
  have e5:=w.u.g a2 F;have a0:Em k s (λa=>if a<k.1.size then s a else 99):=λa b=>.inr (by simp[b]);have T:∀a,a<k.1.size->(λa=>if a<k.1.size then s a else 99) a=s a:=w_;have a4:(λa=>if a<k.1.size then s a else 99) g=99:=(by simp[Z]);obtain⟨B,c1⟩:∃B:Nat->Nat,B=λa=>if a<k.1.size then s a else 99:=⟨_,rfl⟩;rw[<- c1] at a0 T a4;have d5:∀a,k.1.size<=a->B a=99:=w_;clear c1;have e8:=d.p.b;have a6:∀a,a<k.1.size->a=f->s a=0∨13<s a:=w_;have b6:=q.u G (λa b e=>p_ (a6 a b e)) a0 C rfl rfl x_;have c2:=(T f e2).T e8;have U:=λa b=>(T a (B_ d.n a b).2).T (d.u a b)
  have a5:∀a,(lf Q a∨a=g)->a<n.1.size->B a=99:=λa b f0=>by
   rcases b with⟨h,r,W⟩|rfl
   exact((w.all h r).2 a W).elim (U a) O;exact a4
  have e0:∀a,(lf Q a∨a=g)->R.ownBlock≠some a:=λa b e=>by
   rcases b with⟨h,r,W⟩|rfl
   exact w.B h r a W e;exact(w.z _ e).elim (λa3=>F (.inr (.inr (.inl a3)))) O
  have d9:∀a,(lf Q a∨a=g)->E.ownBlock≠some a:=λa b e=>by
   rcases b with⟨h,r,W⟩|rfl
   exact w.A h r a W e;exact(w.y _ e).elim (λa3=>F (.inr (.inr (.inr a3)))) O
  have a3:=Mg n B (λa=>lf Q a∨a=g) 10 R E
  have e1:∀h∈_,Jl z (Vx n B (λa=>lf _ a∨a=g) 10 R E) _ (λW=>fL W h _):=λh r=>
   ((Jl.all (w.all h r).1 (λa b=>ah (.inl ⟨h,r,b⟩) (a5 a (.inl ⟨h,r,b⟩)))).and (Jl.block e5 (ah (.inr rfl) (a5 _ (.inr rfl))))).m (λW b5=>⟨p,g,rfl,b5.1,b5.2⟩)
  have b5:=d.r.size;refine⟨_,_,(d.p.h.u G a6 a0 (λ_ _=>rfl) x_).q C b6 w c2 d.p.r O U O e0 d9 e1,(d.q.T b5 a0).T (aG b5 G.size) a3,?_,λi M=>(ZbM D 10 C _ _ _ i M).T (d.v i M),λa b=>?_,λa b a7=>?_⟩
  ·refine(d.r.c G (λa b=>?_)).c (Zba b6 w c2 C) (λa b=>?_);subst b;have:=d.q a;omega;have:=d.q a
   grind
  ·have:=d.B a b;have:=d5 a;have:=T a;have:=a3 a
   by_cases W:n.1.size<=a∨B a=99
   exact hy C W;omega
  have:=d.D a b a7;have:=T a;have:=a3 a
  by_cases W:B a=99
  exact hy C (.inr W);omega
 have B:K (rj n n f (D.setIfInBounds 12 (I (l+1))) 25 1 (V v c A) c (Se j (L_ g 1 1)) 0):=⟨by rw[Zj];have:=b2;rw[<- S] at this;exact this,Aa.refl _ _,b0⟩;clear q d b2 b8 a9 b0 a1 G L b3;go_upto_region 7 with fail;rw[<- P,<- Z];clear Z e9 c3 d8 d6 d7 P;go_loopw [6] (λh T=>∃a:Nat,a<=c/\h=.int .i64 a/\K (rj n T f (D.setIfInBounds 12 (I (l+1))) 25 1 (.slice v c A) c (Se j (.slice (some ⟨g,0,none⟩) 1 1)) a)) (λh _=>c-(intOf h).toNat)
 case atStart=>grind
 clear B;obtain⟨a,g1,rfl,B⟩:=hrel
 by_cases b:a<c
 ·obtain⟨h,rfl⟩:=B.ptr b;have⟨⟨c7,W⟩,a0,T⟩:=B.next S b u.l;clear B;refine J_ ?_
  grind
 obtain rfl:a=c:=O;have a0:=Y (B.E Do.mark (by rw[S,Zi]) m_);clear B;go_wp2_with (at_builtin;refine ap_ [L_ g 1 1] (a0.n.row.alloc _) ?_)
 intro h4 h1 h;have a3:=a0.E Do.mark (m:=1) u.l h;obtain⟨f1,e1,rfl⟩:=h.2.2.2.2;clear h a0;go_wp2_with (at_builtin;refine ap_ [L_ g 1 1,L_ g 1 1] (a3.n.row.alloc _) ?_)
 intro h5 W h;have a4:=a3.E Do.mark (m:=2) u.l h;obtain⟨f2,e5,rfl⟩:=h.2.2.2.2;clear h a3;go_wp2_with (at_builtin;refine ap_ [L_ g 1 1,L_ g 1 1,L_ g 1 1] (a4.n.row.alloc _) ?_)
 intro h6 h2 h;have T:=a4.E Do.mark (m:=3) u.l h;obtain⟨f3,e8,rfl⟩:=h.2.2.2.2;clear h a4;have c1:=(T.v.cell 10).T u.v;have c2:=T.v.frozen;go_wp2_with (at_builtin;refine ap_ [V v a A,L_ f1 (a+1) e1,L_ f2 (a+2) e5,L_ f3 (a+3) e8] ((u.row T).1.alloc _) ?_)
 intro R f5 h;have⟨d5,b6,o⟩:=T.F Do.mark u h;obtain⟨f4,f0,rfl⟩:=h.2.2.2.2;clear h T c1 c2;go_upto_region 14 with fail;generalize f5.setCell (J f 10) (L_ f4 (c9.length+4) f0)=h3 at *;have a5:=o.cell u;have a6:=n_ 0 (o.u.g a2 F);clear d5 b6;refine Af (λz=>z.cell? _=some b4/\z.cell? _=some (I p)) 21 k_ ⟨a5,a6⟩ (λhHeld=>?_);refine K_ ?_;refine on_ 17 λKK hK=>?_;go_simp;refine hK _ _ ⟨X_ a5,X_ a6⟩ (λhHeld=>?_);clear hK KK;try simp only[Act.put,tA_,tB_,tC_]
 refine on_ 18 λKK hK=>?_;refine aq_ [I p,I p,I p,I p] ((World.ownsRow.drew o.w).alloc _) ?_;intro E f6 h;obtain⟨d9,b6,b5⟩:=o.E Do.mark u (y_.drew.alloc x_ _) rfl h;have e0:=n_ 0 ((Below.heap_setCell f6 (J f 11) E g λe=>F (.inl e)).s.T (b5.u.g a2 F));obtain⟨h0,g7,rfl⟩:=h.2.2.2.2;clear h o a5 a6;refine hK _ _ ⟨d9,e0⟩ (λhHeld=>?_);clear hK KK;refine K_ ?_;refine le_ ?_;go_wp2;go_end0;exact⟨rfl,d1 _ _ _ _ b5⟩
end Go.Proofs.YtfcgnpchbcmdeaaGreat
