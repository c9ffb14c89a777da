import Derived.Test.YtfcgnpchbcmdeaaGreatZsbd
import Derived.Test.YtfcgnpchbcmdeaaGreatZsbc
open _root_ renaming Int->E,List->U,Nat->H,ByteArray->ZC,rfl->X,Option->Y0
open List renaming drop->ZF,length->F,getD->Z,take->ZU,replicate->Y6
open Bool renaming true->Z0,false->ZZ
open ByteArray renaming size->ZK
open Or renaming inl->ZM,inr->ZJ
open Option renaming some->T,none->ZP
open Int renaming toNat->ZL
open Array renaming size->B
open Go renaming World->ZT,strOfNums->ZB
open Go.Value renaming bool->ZR,int->ZX,ownBlock->ZW,string->YW,pointer->Y7,tuple->Y5
open Go.Ending renaming returned->ZI
open Go.IntKind renaming i64->ZQ
open Go.Proofs.Tryz renaming prog->Y8
open Go.World renaming alloc->ZN
namespace Go.Proofs.YtfcgnpchbcmdeaaGreat
set_option linter.all false
set_option maxRecDepth 100000
set_option maxHeartbeats 8000000
open Go.RowKit Go.Lib Go.Sort List Nat Go.World Go.Proofs.Tryz Go.Value Go.IntKind Go.Lib Go.Region
def Sm(b:U E):Prop:=∀a∈b,0<=a/\a<=255
section
variable {l:U E}
def Sm.tail(a:Sm l):Sm l.tail:=λc b=>a c (mem_of_mem_tail b)
theorem Sm.drop(a:Sm l)(c:H):Sm (ZF c l):=λd b=>a d (mem_of_mem_drop b)
theorem Sm.restW(b:Sm l):∀a,Sm (restW l a)
 |0=>b
 |a+1=>((Sm.restW b a).tail).drop _
theorem Sm.rdR(a:Sm l):Sm (rdR l):=by grind [Go.Proofs.YtfcgnpchbcmdeaaGreat.rdR,restW,drop]
def Sm.lstR(a:Sm l):Sm (lstR l):=a.tail.drop _
theorem Sm.rdColR(a:Sm l){c b:H}:Sm (rdColR l c b):=by unfold Go.Proofs.YtfcgnpchbcmdeaaGreat.rdColR;split;exact a.tail.tail.drop _;exact a.tail.drop _
theorem Sm.lstK(b:Sm l):∀a∈lstK l,0<=a:=λa c=>by obtain⟨d,_,rfl⟩:=mem_map.1 c;exact(Iu b.tail d).1
end
structure KOk(K:KS):Prop where
 w:Xl K
 g:K.e.b<=16
 b:ci K.e=Z0
 a:K.d<K.e.b+2
def qx{c:U ZC}(a:Di c=Z0):∀b∈c,ZK b<=8:=λb e=>by
 unfold Di Is at a;rw[all_eq_true] at a;obtain⟨f,d,rfl⟩:=aM e;have g:=a f (mem_range.2 d)
 grind [En]
theorem Zqg{a:U E}(g:Sm a)(b:(ci (Zl a)&&Oy (Zl a) (rdD a:H))=Z0):KOk ⟨Zl a,rdD a⟩:=by
 rw[Bool.and_eq_true] at b;have h:=b.1;have e:=b.2;have d:(Zl a).b<=16/\Di (Zl a).c=Z0:=(by grind [ci]);have j:=Iu g 2;refine⟨?_,d.1,h,?_⟩;unfold Xl;simp only;have c:=qx d.2;unfold Zl at c ⊢;split;rename_i f;rw[aD f] at c;exact ZJ ⟨X,X,by rw[ek];omega,c⟩;refine ZM ⟨X,X,by rw[cr];omega,λk f=>?_⟩;obtain⟨i,_,rfl⟩:=mem_map.1 f;have:=Zai (ZF (4*i) (ZF 3 a));omega;unfold Oy at e
 grind
def zd{g:U E}(k:Sm g):∀(c:H) (b:U KS) (d:U E),Xh g c=T (b,d)->F b=c/\(∀K∈b,KOk K)/\Sm d
 |0,b,d,a=>by grind [Xh]
 | c + 1,b,d,a=>by
  cases f:Xh g c with
  |none=>simp only[Xh,f] at a;cases a
  | some m=>
   obtain⟨h,e⟩:=m;have⟨i,n,j⟩:=zd k c h e f;simp only[Xh,f] at a
   by_cases l:(ci (Zl e)&&Oy (Zl e) (rdD e:H))=Z0
   ·rw[aD l] at a;simp only[Option.some.injEq,Prod.mk.injEq] at a;rw[<- a.1,<- a.2];refine⟨by simp[i],λK hK=>?_,j.rdR⟩
    grind [Zqg]
   grind
def ms{a:U E}{b c:H}{d:E}(e:b<F a):Z (a.set b d) c 0=if b=c then d else Z a c 0:=w_
def wh{a d:U E}(f:∀e∈a,0<=e/\e<F d)(c:H):∀b,b<=F a->Z (Jz a d b) c 0=Z d c 0+(((ZU b a).map ZL).count c:H)
 |0,_=>by simp[Jz]
 | b+1,k=>by
  have h:b<F a:=O;have i:Z a b 0∈a:=w_;have j:=f _ i;have l:=wh f c b O;have g:ZU (b+1) a=ZU b a++[Z a b 0]:=(by rw[Qi h];grind);simp only[Jz];rw[ms (by rw[du];omega),g,map_append,count_append]
  grind
def Qo{a:U KS}{b:U E}:Dc a b=Bk a (b.map ZL):=by unfold Dc Bk;rw[map_map];rfl
structure Zmd(b:U KS)(d:H)(a:BS):Prop where
 y:F a.N=d
 k:∀e∈a.N,e<=255
 h:a.g<=40
 o:0<F a.fs
 n:∀c∈a.fs,c<F b
 sum:a.g=Bk b a.fs
 j:Dx b (An a.fs) (Xg a.N a.g)=Z0
def kw{a:U KS}{f:H}{r:U E}(A:Sm r):∀(j:H) (d:U BS) (k o:U E),Zz a f r j=T (d,k,o)->F d=j/\F k=F a/\(∀p∈d,Zmd a f p)/\(∀g,Z k g 0=((d.flatMap (·.fs)).count g:H))/\Sm o
 |0,d,k,o,b=>by grind [Zz]
 | j + 1,d,k,o,b=>by
  cases q:Zz a f r j with
  |none=>simp only[Zz,q] at b;cases b
  | some M=>
   obtain⟨w,N,c⟩:=M;have⟨x,s,y,z,l⟩:=kw A j w N c q;simp only[Zz,q] at b
   by_cases n:(Vj a (lstK c)&&Dx a (lstK c) (Xg (Ix (lstR c) f (Dc a (lstK c))) (Dc a (lstK c))))=Z0
   ·rw[aD n] at b;simp only[Option.some.injEq,Prod.mk.injEq] at b;rw[<- b.1,<- b.2.1,<- b.2.2];rw[Bool.and_eq_true] at n;have i:=n.1;unfold Vj at i;simp only[Bool.and_eq_true,decide_eq_true_eq,all_eq_true] at i;have u:=l.lstK;have G:∀e∈_,_/\_:=λe h=>⟨u e h,i.1 e h⟩;have t:Dc a (lstK c)<64:=O;refine⟨by simp[x],by rw[du];exact s,λp D=>?_,λg=>?_,l.lstR.rdColR⟩
    ·rcases mem_append.1 D with m|m
     exact y p m;simp only[mem_cons,not_mem_nil,or_false] at m;subst m;refine⟨di l.lstR f t,λQ v=>?_,i.2.2,by simpa using i.2.1,λe h=>?_,Qo,by simp only;rw[Zgi u];exact n.2⟩;unfold Ix at v;obtain⟨P,L,rfl⟩:=mem_map.1 v;have:=(Uw l.lstR f t).2 P L;omega
     grind
    rw[wh (λe h=>s ▸ (G e h)) g _ x_,z g,flatMap_append,count_append,take_length];simp
   grind
def fh:∀(a:U BS),(∀b∈a,0<F b.fs)->F a<=F (a.flatMap (·.fs))/\∀b∈a,F b.fs<=F (a.flatMap (·.fs))
 |[],_=>s_
 | b::a,c=>by
  have⟨f,g⟩:=fh a (λe d=>c e (by simp[d]))
  grind
structure ZpP(a:U KS)(c:U BS):Prop where
 all:∀d,d<F a->∃b∈c,d∈b.fs
 l:F c<=F a
 r:∀b∈c,F b.fs<=F a
def Zcz{c:U KS}{a:U BS}{e:U E}(q:F e=F c)(l:∀d∈a,0<F d.fs)(p:∀d∈a,∀b∈d.fs,b<F c)(r:∀f,Z e f 0=((a.flatMap (·.fs)).count f:H))(g:Dn e=Z0):ZpP c a:=by
 unfold Dn at g;simp only[all_eq_true,decide_eq_true_eq] at g
 have o:∀b,b<F c->(a.flatMap (·.fs)).count b=1:=λb h=>by grind [Qf]
 have i:(a.flatMap (·.fs)).Perm (range (F c)):=w_;have m:=i.length_eq;rw[length_range] at m;have⟨n,j⟩:=fh a l;refine⟨λb h=>?_,O,λd k=>p_ (j d k)⟩;have:b∈a.flatMap (·.fs):=i.mem_iff.2 (mem_range.2 h)
 grind
structure ZpR(c:Ft)(d:H)(b:U XS):Prop where
 j:∀a∈b,Fi c d a=Z0
 y:∀a∈b.getLast?,F b<=a.M*4+a.f+1
def Ms{a:Ft}{b:H}{x:XS}(c:Fi a b x=Z0):x.M<b/\x.f<F a.g/\x.i<(Z a.g x.f Aj).e.b+2:=by grind [Fi,ZhL,Wx,Oy]
def ZjZ{D:Ft}{g:H}{n:U E}(t:F D.g<=4):∀(c:H) (d:U XS) (h:U E),Vr D g n c=T (d,h)->F d=c/\h=ZF (3*c) n/\ZpR D g d
 |0,d,h,b=>by simp only[Vr,Option.some.injEq,Prod.mk.injEq] at b;rw[<- b.1,<- b.2];exact⟨X,s_,s_,s_⟩
 | c + 1,d,h,b=>by
  cases m:Vr D g n c with
  |none=>simp only[Vr,m] at b;cases b
  | some u=>
   obtain⟨a,i⟩:=u;have⟨r,s,j⟩:=ZjZ t c a i m;simp only[Vr,m] at b
   by_cases k:(Ip a (rdX i)&&Fi D g (rdX i))=Z0
   ·rw[aD k] at b;simp only[Option.some.injEq,Prod.mk.injEq] at b;rw[<- b.1,<- b.2];rw[Bool.and_eq_true] at k;generalize rdX i=e at *;refine⟨by simp[r],by rw[s,drop_drop];congr 1,λp f=>?_,λp f=>?_⟩
    ·rcases mem_append.1 f with l|l
     exact j.j p l
     grind
    simp only[getLast?_append,getLast?_singleton,Option.some_or,Option.mem_def,Option.some.injEq] at f;subst f;rw[Qe,length_singleton]
    by_cases q:F a=0
    omega;have l:=k.1;unfold Ip at l;rw[aE q,Bool.false_or,decide_eq_true_eq] at l
    have x:(Z a (F a-1) Dm).M<e.M∨(Z a (F a-1) Dm).M=e.M/\(Z a (F a-1) Dm).f<e.f:=by
     have o:ltOf Na (Z a (F a-1) Dm) e=Z0:=by unfold ltOf;simpa using l
     rw[(ltX _ e)] at o
     simpa using o
    have o:a.getLast? =T (Z a (F a-1) Dm):=w_;have v:=j.y _ o;have w:=Ms (j.j _ (mem_of_getLast? o));omega
   grind
end Go.Proofs.YtfcgnpchbcmdeaaGreat
namespace Go.Proofs.YtfcgnpchbcmdeaaGreat
set_option linter.all false
set_option maxRecDepth 100000
set_option maxHeartbeats 8000000
open Go.RowKit List Nat Go.World Go.Proofs.Tryz Go.Value Go.IntKind Go.Lib Go.Region
def Ma(a:U E):Y0 (Ft×U E):=
 if 200<ZL (Z a 2 0)∨ZL (Z a 3 0)<1∨4<ZL (Z a 3 0) then ZP
 else match Xh (ZF 4 a) (ZL (Z a 3 0)) with
 |none=>ZP
 | some (b,d)=>match Zz b (ZL (Z a 2 0)) d.tail (ZL (d.headD 0)) with
  |none=>ZP
  | some (c,h,e)=>if Dn h=Z0 then match Vr ⟨b,c,[]⟩ (ZL (Z a 2 0)) (ZF 2 e) (Lf e 2) with
    |none=>ZP
    |some (f,g)=>T (⟨b,c,f⟩,g)
   else ZP
def Zdd(c d:ZT)(b g:H)(j:Y0 (Ft×U E))(f:Ending):Prop:=match j with
 |none=>f=ZI (ZR ZZ)/\Aa (λa=>a=g∨a=b) c d
 |some (e,_)=>f=ZI (ZR Z0)/\(∃l k m i h,Vp (B c.1) d b l k m i h e.r e)/\Aa (λa=>a=g∨a=b) c d
def Aa.f{h c w2:ZT}{f b:H}(d:Aa (λa=>a=b) h c)(e:Aa (λa=>a=b∨a=f) c w2):=(d.m (λ_ _ g=>ZM g)).T e
def Zdu{p:Prop}(h:p:=by
 have l:K (f=ZP):=w_;clear L;go_wp2;go_ret;show Zdd _ _ _ _ f _;rw[l.out]
 exact⟨X,s.out.m (λ_ _ h=>ZM h)⟩):p:=h
def Zha(m c:H)(b:U E)(e:ZT)(a6:Cn e c b)(c8:H_ e m #[N_,N_,N_] 168)(c9:m≠c):Calls Y8 99 #[P_ m,P_ c] e λh d=>Zdd e d m c (Ma b) h:=by
 have i:=a6.a;have d9:Hid (Sm b):=i;have e8:=Iu i 2;have e9:=Iu i 3;have c4:Hid (Calls Y8 164 #[P_ c,I 2] e λh d=>(∃a4,h=ZI (YW a4)/\Ab a4=ZU 2 b)/\Cn d c (ZF 2 b)/\Aa (λa=>a=c) e d):=ga c 2 b e a6;have a1:Hid (∀(t:ZT) (b:U E),Cn t c b->Calls Y8 165 #[P_ c] t λh d=>h=ZI (ZX ZQ (b.headD 0))/\Cn d c b.tail/\Aa (λa=>a=c) t d):=λt b e6=>Eg c b t e6;obtain⟨j,b2⟩:∃j:H,Z b 2 0=(j:E):=⟨ZL (Z b 2 0),O⟩;obtain⟨g,a7⟩:∃g:H,Z b 3 0=(g:E):=⟨ZL (Z b 3 0),O⟩;have G:Hid ((ZF 2 b).headD 0=(j:E)/\(ZF 2 b).tail=ZF 3 b/\(ZF 3 b).headD 0=(g:E)/\(ZF 3 b).tail=ZF 4 b):=⟨by rw[Fx];exact b2,Iq,by rw[Fx];exact a7,Iq⟩
 have L:Hid (Ma b=if 200<j∨g<1∨4<g then ZP else match Xh (ZF 4 b) g with
  |none=>ZP
  | some (d,r)=>match Zz d j r.tail (ZL (r.headD 0)) with
   |none=>ZP
   | some (n,D,p)=>if Dn D=Z0 then match Vr ⟨d,n,[]⟩ j (ZF 2 p) (Lf p 2) with
     |none=>ZP
     |some (u,x)=>T (⟨d,n,u⟩,x)
    else ZP):=by show _=_;unfold Ma;rw[b2,a7,Int.toNat_natCast,Int.toNat_natCast]
 have e0:Hid (∀t,Aa (λa=>a=c) e t->H_ t m #[N_,N_,N_] 168):=λt e7=>e7.g c8 c9;have f0:g<=255:=O;have f4:j<=255:=O;clear a6 c8 i e8 e9 b2 a7 c9;generalize Ma b=f at *;refine dl_ ?_;go_enter func99,ntmps99;go_wp2_with fail
 apply c4.out.m;rintro h d7 ⟨⟨a4,rfl,_⟩,d0,d3⟩;have c2:Hid (Aa (λa=>a=c) e d7):=d3;have v:=a1.out d7 _ d0;rw[G.out.1,G.out.2.1] at v;clear d0 d3 c4;go_wp2_with fail
 apply v.m;clear v;rintro h d8 ⟨rfl,d1,d4⟩;have c3:Hid (Aa (λa=>a=c) e d8):=c2.out.T d4;have v:=a1.out d8 _ d1;rw[G.out.2.2.1,G.out.2.2.2] at v;clear d1 d4 c2;go_wp2_with fail
 apply v.m;clear v;rintro h a0 ⟨rfl,d2,d5⟩;have s:Hid (Aa (λa=>a=c) e a0):=c3.out.T d5;have c1:Hid (Cn a0 c (ZF 4 b)):=d2;clear d2 d5 c3 G a1
 by_cases f1:200<j
 have e3:(200:E)<(j:E):=O;exact Zdu;have e3:¬(200:E)<(j:E):=O
 by_cases f2:g<1
 have e4:(g:E)<(1:E):=O;exact Zdu;have e4:¬(g:E)<(1:E):=O
 by_cases f3:4<g
 have e5:(4:E)<(g:E):=O;exact Zdu;have e5:¬(4:E)<(g:E):=O;have o:=dl m c g (ZF 4 b) a0 c1.out (e0.out a0 s.out) O;go_wp2_with fail
 apply o.m;clear o;intro h b7 o
 cases M:Xh (ZF 4 b) g with
 | none=>
  rw[M] at o;obtain⟨rfl,d⟩:=o;have l:Hid (f=ZP):=w_;have y:Hid (Aa (λa=>a=c∨a=m) e b7):=s.out.f d;clear L d M;go_wp2;go_ret;show Zdd _ _ _ _ f _;rw[l.out];exact⟨X,y.out⟩
 |some P=>
 obtain⟨d,r⟩:=P;rw[M] at o;obtain⟨rfl,Q,W,o⟩:=o;have⟨b0,b1,c7⟩:=zd (d9.out.drop 4) g d r M
 have a2 :Hid (f=match Zz d j r.tail (ZL (r.headD 0)) with
   |none=>ZP
   | some (n,D,p)=>if Dn D=Z0 then match Vr ⟨d,n,[]⟩ j (ZF 2 p) (Lf p 2) with
     |none=>ZP
     |some (u,x)=>T (⟨d,n,u⟩,x)
    else ZP):=w_
 have y:Hid (Aa (λa=>a=c∨a=m) e b7):=s.out.f o.t;have R:Hid ((∀K∈d,KOk K)/\Sm r/\F d=g):=⟨b1,c7,b0⟩;have k:=io (B e.1) m c j r Q W d b7 o.u o.r (o.w.m s.out.size) y.out.size O (λa l=>(b1 a l).g) O;have e2:Hid (∀a,ZW Q=T a->B e.1<=a):=λa a8=>aG s.out.size (o.z a a8);clear L M o b0 b1 c7 c1 s;go_wp2_with fail
 apply k.m;clear k;intro h b8 k
 cases A:Zz d j r.tail (ZL (r.headD 0)) with
 | none=>
  rw[A] at k;obtain⟨rfl,n⟩:=k;have l:Hid (f=ZP):=w_;have z:Hid (Aa (λa=>a=c∨a=m) e b8):=y.out.T n;clear a2 n A;go_wp2;go_ret;show Zdd _ _ _ _ f _;rw[l.out];exact⟨X,z.out⟩
 |some P=>
 obtain⟨n,D,p⟩:=P;rw[A] at k;obtain⟨rfl,b6,a5,k⟩:=k;have⟨c6,b5,w,b4,c5⟩:=kw R.out.2.1.tail _ n D p A;have z:Hid (Aa (λa=>a=c∨a=m) e b8):=y.out.T k.t
 cases b3:Dn D with
 | false=>
  have l:Hid (f=ZP):=w_;clear a2 A k b4 c6 b5 w c5 b3;go_wp2;go_ret;show Zdd _ _ _ _ f _;rw[l.out];exact⟨X,z.out⟩
 |true=>
 have N:=Zcz b5 (λl i=>(w l i).o) (λl i=>(w l i).n) b4 b3
 have c0 :Hid (f=match Vr ⟨d,n,[]⟩ j (ZF 2 p) (Lf p 2) with
     |none=>ZP
     |some (u,x)=>T (⟨d,n,u⟩,x)):=w_
 have b0:=R.out.2.2;have a9:0<F d:=O
 have q:=Xa (B e.1) m c j p Q b6 W a5 d n b8 k.u ⟨⟨k.r,k.v,rn_⟩,k.w,List.Perm.refl _,Pairwise.nil,e2.out,λa a8=>aG y.out.size (k.z a a8),by simp[ZW]⟩ z.out.size (by
   have⟨l,i,_⟩:=N.all 0 a9
   grind) (p_ N.l) O (λl i=>(w l i).y) (λl i=>p_ (w l i).h) (λu x=>(R.out.1 u x).g) a9
   (λx S=>Zgw (D:=⟨d,n,[]⟩) (N.all x S) (λl i=>p_ (N.r l i)) (λl i=>(w l i).n) (λu a3=>by
    have:=(R.out.1 (Z d u Aj) w_).g;show(Z d u Aj).e.b+2<=100
    omega))
 clear a2 A k b4 c6 b5 w c5 b3 N a9;go_wp2_with fail
 apply q.m;clear q;intro h b9 q
 cases S:Vr ⟨d,n,[]⟩ j (ZF 2 p) (Lf p 2) with
 | none=>
  rw[S] at q;obtain⟨rfl,u⟩:=q;have l:Hid (f=ZP):=w_;have a3:Hid (Aa (λa=>a=c∨a=m) e b9):=z.out.T u;clear c0 u S;go_wp2;go_ret;show Zdd _ _ _ _ f _;rw[l.out];exact⟨X,a3.out⟩
 | some P=>
  obtain⟨u,x⟩:=P;rw[S] at q;obtain⟨rfl,d6,q⟩:=q;have l:Hid (f=T (⟨d,n,u⟩,x)):=w_;have a3:Hid (Aa (λa=>a=c∨a=m) e b9):=z.out.T q.t;have e1:Hid (Vp (B e.1) b9 m Q b6 d6 W a5 u ⟨d,n,u⟩):=q.o;clear c0 q S;go_wp2;go_ret;show Zdd _ _ _ _ f _;rw[l.out];exact⟨X,⟨Q,b6,d6,W,a5,e1.out⟩,a3.out⟩
structure ZaG(a:Ft)(b:H):Prop where
 w:b<=200
 y:0<F a.g
 i:F a.g<=4
 g:∀K∈a.g,KOk K
 f:∀c∈a.f,Zmd a.g b c
 d:ZpP a.g a.f
 e:ZpR ⟨a.g,a.f,[]⟩ b a.r
def Zcm{a x:U E}{k:Ft}(d:Sm a)(b:Ma a=T (k,x)):ZaG k (ZL (Z a 2 0)):=by
 unfold Ma at b
 by_cases s:200<ZL (Z a 2 0)∨ZL (Z a 3 0)<1∨4<ZL (Z a 3 0)
 ·grind
 rw[aC s] at b
 cases n:Xh (ZF 4 a) (ZL (Z a 3 0)) with
 |none=>grind
 | some e=>
  obtain⟨c,i⟩:=e;simp only[n] at b;have⟨D,t,r⟩:=zd (d.drop 4) _ c i n
  cases l:Zz c (ZL (Z a 2 0)) i.tail (ZL (i.headD 0)) with
  |none=>grind
  | some e=>
   obtain⟨g,p,j⟩:=e;simp only[l] at b;have⟨A,v,h,u,z⟩:=kw r.tail _ g p j l
   cases o:Dn p with
   |false=>grind
   | true=>
    simp only[o,if_true] at b
    cases m:Vr ⟨c,g,[]⟩ (ZL (Z a 2 0)) (ZF 2 j) (Lf j 2) with
    |none=>grind
    | some e=>
     obtain⟨q,y⟩:=e;simp only[m,Option.some.injEq,Prod.mk.injEq] at b;have⟨_,_,w⟩:=ZjZ (D:=⟨c,g,[]⟩) (show F c<=4 by omega) _ q y m;rw[<- b.1];exact⟨O,w_,w_,t,h,(Zcz v (λf d=>(h f d).o) (λf d=>(h f d).n) u o),w⟩
def ZaG.k{a:Ft}{c:H}(b:ZaG a c):0<F a.f:=by
 have⟨d,e,_⟩:=b.d.all 0 b.y
 grind
def ZaG.u{b:Ft}{e:H}(a:ZaG b e):F b.r<=800:=by
 cases c:b.r.getLast? with
 |none=>grind
 | some d=>
  have f:=a.e.y d c;have g:=Ms (a.e.j d (mem_of_getLast? c));have h:=a.w;have i:=a.i
  grind
def ZaG.t{d:Ft}{l:H}(c:ZaG d l):∀a∈d.f,ZaF a:=λa f=>by
 have b:=c.f a f;have n:=b.h;have o:=c.d.r a f;have i:=c.w;have p:=c.i;have r:F a.N*Lib.bitLen a.g<=200*6:=Nat.mul_le_mul (b.y ▸ i) (Gj O);have t:=Mi a.N (F a.N);have s:=Dj (Cf a.N (Lib.bitLen a.g)) ((F a.N*Lib.bitLen a.g+7)/8) (F a.N*Lib.bitLen a.g);have q:=b.y;refine⟨O,λh j=>p_ (b.n h j),⟨O,λm k=>?_⟩,O,?_⟩
 ·have⟨e,g,_⟩:=(Rf _ _ m).1 k;refine⟨O,?_⟩;rw[g,Qc,Qd e];have:=b.k _ (Qf e)
  grind
 grind [Dq,Sr,Ia,Sj,Om]
def Zob{x a:ZC}(c:¬x=a):(x.toList==a.toList)=ZZ:=by
 rw[beq_eq_false_iff_ne,toList_data,toList_data];intro b;apply c
 cases x;cases a
 simp at b;rw[b]
def oe(b:U E):Y0 Ft:=match Ma b with
 |none=>ZP
 |some (a,_)=>if Br a a.r=b then T a else ZP
def Lp.q{base:H}{e w':ZT}{c:H}{b:Ft}(a:Lp base e c b)(d:E_ e w'):Lp base w' c b:=by obtain⟨j,i,k,h,g,f,a⟩:=a;exact⟨j,i,k,h,g,f,a.v.q d,a.w.q d,a.n,a.l,a.o,a.x,a.p⟩
def OpE(a c:ZT)(f:Y0 Ft)(d:Ending):Prop:=match f with
 |none=>d=ZI (Y5 #[Y7 ZP,ZR ZZ])/\E_ a c
 |some e=>∃b,d=ZI (Y5 #[Y7 (T ⟨b,0,ZP⟩),ZR Z0])/\Lp (B a.1) c b e/\B a.1<=b/\E_ a c
def ZkI{b:E}:∀a,Sm (Ba b a):=λa d c=>p_ (js b a d c)
def Qr(b:Ft)(c:U XS):Sm (Br b c):=λe d=>by
 unfold Br at d
 rcases mem_append.1 d with a|a
 have:=jx b c e a;omega;exact ZkI _ e a
def Ya{a:U E}(b:Sm a):Ab (ZB a)=a:=by
 unfold Ab ZB;simp only[map_map]
 conv=>rhs;rw[<- map_id a]
 refine map_congr_left λd c=>?_;have:=b d c;simp only[Function.comp,UInt8.toNat_ofNat',id];omega
def ZcJ{b:U E}{c:ZC}(d:Sm b):ZB b=c↔b=Ab c:=
 ⟨λa=>by rw[<- a,Ya d],λa=>by rw[a,Tv]⟩
def ZdQ(b:ZC)(c:ZT)(b2:ZK b<=140737488355328):C_ 59 #[Q_ b] c λv a=>OpE c a (oe (Ab b)) v:=by
 have⟨u,m⟩:=W_ (B c.1);have⟨j,n⟩:=W_ (ZN c (O_ #[N_,N_,N_] 168));have⟨q,A⟩:=W_ (ZN j (O_ #[Q_ b] 180));have⟨p,a1⟩:=W_ (B j.1);have y:E_ c j:=n ▸ r_;have W:H_ j u #[N_,N_,N_] 168:=(by rw[n,m];exact hn_);have R:E_ j q:=A ▸ r_;have a0:Cn q p (Ab b):=⟨b,by rw[A,a1];exact hn_,X,b2⟩;have b3:=(Qb W).1;have x:=y.T (R.m y.size);have i:=Zha u p (Ab b) q a0 ((R.block _ b3).T W) O;have N:K (∀t,Aa (λa=>a=p∨a=u) q t->E_ c t):=λt b6=>x.T (b6.b x.size (λg f=>p_ y.size));have h:=Y x.size
 have M:K (oe (Ab b)=match Ma (Ab b) with
  |none=>ZP
  |some (a,_)=>if Br a a.r=Ab b then T a else ZP):=rfl
 have a8:K (∀a o,Ma (Ab b)=T (a,o)->ZaG a (ZL (Z (Ab b) 2 0))):=λa o w=>Zcm a0.a w;generalize oe (Ab b)=P at *;generalize Ma (Ab b)=a9 at *;rw[m] at i;have b4:p=B c.1+1:=(by rw[a1,n];simp);refine q_ ?_;go_wp2_with fail
 rw[<- n,<- A,<- b4];apply i.m;intro v r i
 cases a9 with
 | none=>
  obtain⟨rfl,z⟩:=i;have⟨k,d⟩:=Y_ M.out (N r (m ▸ z));go_wp2;go_ret2
  rw[k];exact⟨X,d⟩
 | some b5=>
  obtain⟨a,o⟩:=b5;obtain⟨rfl,⟨a4,a3,a5,a2,Q,d⟩,z⟩:=i;have e:=a8 a o X;have D:=Y (N r (m ▸ z));have a6:K (Lp (B c.1) r (B c.1) a):=⟨a4,a3,a5,a2,Q,a.r,d.v.m h,d.w.m h,d.n,d.l,λg f=>aG h (d.o g f),λg f=>aG h (d.x g f),λg f=>aG h (d.p g f)⟩;have b1:=uc (B c.1) a4 a3 a5 a2 Q a.r a r d.zero e.k (λk l=>(e.g k l).w) e.i e.t (oj_ e.d.l e.i) (p_ e.u) (jx a a.r);have L:K (ZB (Br a a.r)=b↔Br a a.r=Ab b):=ZcJ (Qr a a.r);have k:=Y M.out;generalize ZB (Br a a.r)=b0 at *;go_wp2_with fail
  apply b1.m;rintro v b8 ⟨rfl,S⟩;have⟨G,a7⟩:=Y_ (D.T (S.m D.size)) (a6.q S)
  by_cases l:b0=b
  ·have s:K (P=T a):=(by show _=_;rw[k,aD (L.1 l)]);subst l;go_wp2;go_ret2
   rw[s];exact⟨_,X,a7,x_,G⟩
  have s:K (P=ZP):=(by show _=_;rw[k,aC (λw=>l (L.2 w))]);have b7:=Zob l;go_wp2;go_ret2
  rw[s];exact⟨X,G⟩
def OpG(a b:ZT)(g:Y0 Ft)(c:Ending):Prop:=match g with
 |none=>c=ZI (Y5 #[Y7 ZP,ZX ZQ 2])/\E_ a b
 |some e=>∃d f,c=ZI (Y5 #[Y7 (T ⟨d,0,ZP⟩),ZX ZQ 0])/\xq (B a.1) b d f e/\E_ a b
def uq(b:ZC)(e:ZT)(i:ZK b<=140737488355328):C_ 33 #[Q_ b] e λf a=>OpG e a (oe (Ab b)) f:=by
 have c:=ZdQ b e i;generalize oe (Ab b)=g at *;refine q_ ?_;go_wp2_with fail
 apply c.m;intro f l c
 cases g with
 | none=>
  obtain⟨rfl,d⟩:=c;go_wp2;go_ret2
  exact⟨X,d⟩
 | some m=>
  obtain⟨h,rfl,k,j,d⟩:=c;have a:=x3_ d k j;go_wp2;go_ret2
  exact⟨B l.1,h,X,⟨hn_,a.2.1.q r_,a.1.size,a.2.2⟩,a.1.alloc a.1.size _⟩
def Zp9(a:E):Ba a 4=[a%256,a/256%256,a/256/256%256,a/256/256/256%256]:=rfl
theorem ZnD{a:E}(c: -2147483648<=a)(d:a<=2147483647)(b:U E):pw (Ba a 4++b)=a:=by rw[Zp9];unfold pw;simp only[Lf,cons_append,nil_append,getD_cons_zero,getD_cons_succ,Nat.mul_zero,Nat.pow_zero,Nat.mul_one,reduceMul,reducePow,Nat.zero_add];simp[wrap,IntKind.bits,signed];omega
def Zq0{n:H}(b:n<65536)(a:U E):Lf (Ba (n:H) 2++a) 2=n/\ZF 2 (Ba (n:H) 2++a)=a:=by
 refine⟨?_,X⟩;show Lf ([(n:E)%256,(n:E)/256%256]++a) 2=n
 grind [Lf]
theorem tw(a:E)(b c:U E):Lr (a::b)++c=Ba a 4++(Lr b++c):=by unfold Lr;grind
theorem xf(a:ZC)(c:U ZC)(b:U E):Lw (a::c)++b=((ZK a:H):E)%256::Ab a++(Lw c++b):=by unfold Lw;grind
theorem ak{d:U E}:∀(b:U E) (a:H),a<=F b->ZF (4*a) (Lr b++d)=Lr (ZF a b)++d
 |_,0,_=>X
 |[],a+1,c=>by simp at c
 |e::b,a+1,c=>by rw[tw,show 4*(a+1)=4+4*a by omega,<- drop_drop,drop_left' (Dr e 4),drop_succ_cons];exact ak b a (by simpa using c)
theorem ZhP{a:U E}(d:∀b∈a,-2147483648<=b/\b<=2147483647)(c:U E):Tn (Lr a++c) (F a)=a:=by
 unfold Tn;apply ext_getElem;simp
 grind [ak,drop_eq_getElem_cons,tw,Qf,ZnD]
theorem vj{a:ZC}(d:ZK a<256){b:U E}:vi (((ZK a:H):E)%256::Ab a++b)=b/\gm (((ZK a:H):E)%256::Ab a++b)=a:=by
 have c:ZL ((((ZK a:H):E)%256::Ab a++b).headD 0)=ZK a:=w_
 grind [vi,Ci,gm,Tv]
theorem dm{e:U E}:∀(b:H) (a:U ZC),(∀c∈a,ZK c<256)->b<=F a->restW (Lw a++e) b=Lw (ZF b a)++e
 |0,_,_,_=>X
 |b+1,a,c,f=>by have d:b<F a:=O;simp only[restW];rw[dm b a c O,aN d];rw[xf];exact(vj (c _ (Qf d))).1
theorem ZiM{a:U ZC}(d:∀c∈a,ZK c<256)(b:U E):We (Lw a++b) (F a)=a:=by
 unfold We;apply ext_getElem;simp
 grind [dm,drop_eq_getElem_cons,xf,vj]
structure KRt(K:KS):Prop where
 ok:KOk K
 num:∀a∈K.e.f,-2147483648<=a/\a<=2147483647
def Zqf{K:KS}(f:KRt K)(b:U E):Zl (Ll K++b)=K.e/\rdD (Ll K++b)=K.d/\rdR (Ll K++b)=b:=by
 have k:=f.ok.a;have j:=f.ok.g;obtain⟨n,c⟩:=K;obtain⟨t,d,a⟩:=n;have l:=f.ok.w;have q:=f.num;unfold Xl at l;simp only at l k j q
 rcases l with⟨h,i,o,_⟩|⟨h,i,o,s⟩
 ·subst h i;have e:(⟨ZZ,d,[]⟩:ES).b=F d:=rfl;rw[e] at j k;have g:Ll ⟨⟨ZZ,d,[]⟩,c⟩++b=110::((c:H):E)%256::((F d:H):E)%256::(Lr d++b):=(by unfold Ll knB;simp[e]);rw[g];have m:ZL ((((F d:H):E)%256))=F d:=O;refine⟨?_,?_,?_⟩
  ·grind [Zl,ZhP]
  show ZL ((((c:H):E)%256))=c;omega
  grind [rdR,Lr,ak]
 subst h i;have e:(⟨Z0,[],a⟩:ES).b=F a:=rfl;rw[e] at j k;have g:Ll ⟨⟨Z0,[],a⟩,c⟩++b=119::((c:H):E)%256::((F a:H):E)%256::(Lw a++b):=(by unfold Ll ng;simp[e]);rw[g];have m:ZL ((((F a:H):E)%256))=F a:=O;have p:∀r∈a,ZK r<256:=w_;refine⟨?_,?_,?_⟩
 ·grind [Zl,ZiM]
 show ZL ((((c:H):E)%256))=c;omega;unfold rdR;rw[aD s_];show restW (Lw a++b) (ZL ((((F a:H):E)%256)))=b;rw[m,dm _ a p x_,drop_length];rfl
def zc{b:U KS}(e:∀K∈b,KRt K)(c:U E):∀a,a<=F b->Xh (b.flatMap Ll++c) a=T (ZU a b,(ZF a b).flatMap Ll++c)
 |0,_=>by simp[Xh]
 | a +1,j=>by
  have d:a<F b:=O;have hK:=e _ (Qf d);simp only[Xh];rw[zc e c a O];have f:(ZF a b).flatMap Ll++c=Ll b[a]++((ZF (a+1) b).flatMap Ll++c):=(by rw[aN d,flatMap_cons,append_assoc]);simp only;rw[f];have⟨g,h,i⟩:=Zqf hK ((ZF (a+1) b).flatMap Ll++c)
  rw[g,h,i,aD (by
   rw[hK.ok.b,Bool.true_and];unfold Oy;rw[decide_eq_true_eq];have:=hK.ok.a
   omega),Qi d]
theorem bh{a c:U E}{b:H}(d:b<F a):Z (a++c) b 0=Z a b 0:=w_
theorem Zea(a b:U E)(c:H):Z (a++b) (F a+c) 0=Z b c 0:=w_
def ZeY(b:U (H×H)):∀(c:H) (d:U E) (a:H),a<c->Z (Sd b c++d) (2*a) 0=((((Z b a (0,0)).1:H):E)-Bh b a)%256/\Z (Sd b c++d) (2*a+1) 0=(((Z b a (0,0)).2:H):E)%256
 |0,_,_,f=>O
 | c+1,d,a,f=>by
  simp only[Sd];rw[append_assoc]
  rcases Nat.lt_or_ge a c with e|e
  exact ZeY b c _ a e
  grind [Om,Zea]
def Zlx{N:U H}{n k:H}(a:k<F (Bu N n)):(Z (Bu N n) k (0,0)).1<n/\(Z (Bu N n) k (0,0)).2=Z N (Z (Bu N n) k (0,0)).1 0:=by grind [Qf,Rf]
def Zaj{N:U H}{n j k:H}(a:j<k)(b:k<F (Bu N n)):(Z (Bu N n) j (0,0)).1<(Z (Bu N n) k (0,0)).1:=by grind [pairwise_iff_getElem,Zo]
def ZcD{a:U H}{c b:H}(f:b<c)(e:Z a b 0≠0):∃d,d<F (Bu a c)/\(Z (Bu a c) d (0,0)).1=b:=by have h:(b,Z a b 0)∈Bu a c:=(Rf a c _).2 ⟨f,X,e⟩;have⟨d,g,i⟩:=aM h;exact⟨d,g,w_⟩
def ZaL(a:U (H×H))(b:H): -1<=Bh a b:=by unfold Bh;split<;>omega
def ZaN{N:U H}{n k:H}(a:k<F (Bu N n)):Bh (Bu N n) k<((Z (Bu N n) k (0,0)).1:H):=by unfold Bh;split;omega;have:=Zaj (N:=N) (n:=n) (j:=k-1) (k:=k) O a;omega
def Zak{a:U H}{b:H}(r:b<=200)(o:F a=b)(q:∀x∈a,x<=255)(f:U E):∀c,c<=F (Bu a b)->(Pz (Y6 b 0) (Sd (Bu a b) (F (Bu a b))++f) c).1=Bh (Bu a b) c/\∀d,d<b->Z (Pz (Y6 b 0) (Sd (Bu a b) (F (Bu a b))++f) c).2 d 0=if(d:E)<=Bh (Bu a b) c then((Z a d 0:H):E) else 0
 |0,_=>by grind [Bh,Pz]
 | c + 1,A=>by
  have⟨s,D⟩:=Zak r o q f c O;have⟨k,l⟩:=ZeY (Bu a b) (F (Bu a b)) f c O;have⟨G,t⟩:=Zlx (N:=a) (n:=b) (k:=c) O;have y:=ZaN (N:=a) (n:=b) (k:=c) O;have w:=ZaL (Bu a b) c
  have n:Bh (Bu a b) (c+1)=(((Z (Bu a b) c (0,0)).1:H):E):=by
   unfold Bh
   grind
  have z:∀d,d<b->Bh (Bu a b) c<(d:E)->d<(Z (Bu a b) c (0,0)).1->Z a d 0=0:=λd i h v=>by
   by_cases j:Z a d 0=0
   exact j;exfalso;have⟨g,p,u⟩:=ZcD i j
   rcases Nat.lt_or_ge g c with m|m
   ·unfold Bh at h;rw[aC O] at h
    rcases Nat.lt_or_ge g (c-1) with e|e
    have:=Zaj (N:=a) (n:=b) e O;omega
    grind
   rcases Nat.lt_or_ge c g with e|e
   have:=Zaj (N:=a) (n:=b) e p;omega
   grind
  have g:Z a (Z (Bu a b) c (0,0)).1 0<=255:=(by grind [Qf]);have e:Bh (Bu a b) c+(((Z (Bu a b) c (0,0)).1:H)-Bh (Bu a b) c)%256=(((Z (Bu a b) c (0,0)).1:H):E):=O;simp only[Pz];rw[s,k,l,n,e,t];generalize (Z (Bu a b) c (0,0)).1=j at *;refine⟨X,λd i=>?_⟩;rw[aD ⟨O,w_⟩,ms (by rw[Uy,length_replicate];omega),Int.toNat_natCast]
  grind
def Te{a b:U E}(e:F a=F b)(d:∀c,c<F a->Z a c 0=Z b c 0):a=b:=by grind [ext_getElem]
theorem Ga(a:U H):(An a).map ZL=a:=by
 unfold An;rw[map_map]
 conv=>rhs;rw[<- map_id a]
 exact map_congr_left λb _=>X
theorem dj{b:U H}{a:H}(o:a<=200)(j:F b=a)(n:∀x∈b,x<=255)(h:H)(c:U E):Hl (Sj (Bu b a)++c) a h=An b/\rdColR (Sj (Bu b a)++c) a h=c:=by
 have r:=Mi b a;have g:Sj (Bu b a)++c=115::((F (Bu b a):H):E)%256::(Sd (Bu b a) (F (Bu b a))++c):=(by unfold Sj;simp);have l:ZL ((((F (Bu b a):H):E)%256))=F (Bu b a):=O;rw[g];constructor
 ·unfold Hl;rw[aD (by rfl)];show(Pz (Y6 a 0) (Sd (Bu b a) (F (Bu b a))++c) (ZL (((F (Bu b a):H):E)%256))).2=_;rw[l];have⟨_,m⟩:=Zak o j n c (F (Bu b a)) x_;refine Te (by rw[Uy,length_replicate,Ak,j]) (λf e=>?_);rw[Uy,length_replicate] at e;rw[m f e,Bq]
  by_cases d:(f:E)<=Bh (Bu b a) (F (Bu b a))
  rw[aD d];rw[aC d]
  by_cases k:Z b f 0=0
  rw[k];rfl;exfalso;have⟨p,q,g⟩:=ZcD e k;unfold Bh at d;rw[aC O] at d
  rcases Nat.lt_or_ge p (F (Bu b a)-1) with i|i
  have:=Zaj (N:=b) (n:=a) i O;omega
  grind
 grind [rdColR,Om]
def Zli{c:U H}{b a:H}(j:F c=b)(n:∀x∈c,x<=a)(l:a<64)(e:U E):Hl (100::Bg (Cf c (Lib.bitLen a)) ((b*Lib.bitLen a+7)/8) (b*Lib.bitLen a)++e) b a=An c/\rdColR (100::Bg (Cf c (Lib.bitLen a)) ((b*Lib.bitLen a+7)/8) (b*Lib.bitLen a)++e) b a=e:=by
 have o:=Ml l;constructor
 ·unfold Hl;rw[aC s_];show dnN (Bg (Cf c (Lib.bitLen a)) ((b*Lib.bitLen a+7)/8) (b*Lib.bitLen a)++e) b (Lib.bitLen a)=_;generalize Lib.bitLen a=d at *
  have k:∀f,f<b*d->Vf (Bg (Cf c d) ((b*d+7)/8) (b*d)++e) f=Cf c d f:=λf q=>by grind [Vf,bh,Dj,Kj,Ug,Jf]
  unfold dnN;refine Te (by simp[Ak,j]) (λg h=>?_)
  have i:g<b:=by simpa using h
  rw[Bq,Qc,Qd h,Option.getD_some,getElem_map,getElem_range];have p:g*d+d<=b*d:=(by rw[<- succ_mul];exact aK _ i);rw[Ni _ _ d (λr m=>by rw[k _ O];exact Mz c m)];have m:Z c g 0<=a:=(by grind [Qf]);rw[mod_eq_of_lt O]
 unfold rdColR;rw[aC s_];exact drop_left' (Dj _ _ _)
def Zpe{b:U H}{d a:H}(j:d<=200)(g:F b=d)(h:∀x∈b,x<=a)(i:a<64)(c:U E):Ix (Ia b a++c) d a=b/\rdColR (Ia b a++c) d a=c:=by
 unfold Ix Ia;rw[g];split
 ·have⟨e,f⟩:=dj j g (λx k=>p_ (h x k)) a c;rw[e,f,Ga]
  grind
 have⟨e,f⟩:=Zli g h i c;rw[e,f,Ga]
 grind
def Zdn{a:U H}{b:H}(d:∀x∈a,x<=b)(c:b<64):Xg a b=a:=by
 unfold Xg;split;rfl
 conv=>rhs;rw[<- map_id a]
 refine map_congr_left λx e=>?_;have f:=d x e;have g:=Ml c;exact mod_eq_of_lt O
def Zgs{a:U H}(k:F a<256)(i:∀g∈a,g<256)(b:U E):lstK ([((F a:H):E)%256]++Sr a++b)=An a/\lstR ([((F a:H):E)%256]++Sr a++b)=b:=by
 have e:[((F a:H):E)%256]++Sr a++b=((F a:H):E)%256::(Sr a++b):=s_;have f:ZL ((((F a:H):E)%256))=F a:=O;have j:F (Sr a)=F a:=(by simp[Sr]);rw[e];constructor
 ·show(range (ZL ((((F a:H):E)%256)))).map (λc=>Z (Sr a++b) c 0)=_;rw[f];refine Te (by simp[Ak]) (λc d=>?_)
  have h:c<F a:=by simpa using d
  rw[Bq,Qc,Qd d,Option.getD_some,getElem_map,getElem_range,bh O];have:=i _ (Qf h);unfold Sr
  grind
 show ZF (ZL ((((F a:H):E)%256))) (Sr a++b)=b
 grind
end Go.Proofs.YtfcgnpchbcmdeaaGreat
namespace Go.Proofs.YtfcgnpchbcmdeaaGreat
set_option linter.all false
set_option maxRecDepth 100000
set_option maxHeartbeats 8000000
open Go.RowKit Go.Lib Go.Sort List Nat Go.World Go.Proofs.Tryz Go.Value Go.IntKind Go.Lib Go.Region
structure BRt(b:U KS)(d:H)(a:BS):Prop where
 y:F a.N=d
 k:∀e∈a.N,e<=a.g
 h:a.g<=40
 o:0<F a.fs
 A:F a.fs<256
 n:∀c∈a.fs,c<F b
 sum:a.g=Bk b a.fs
 j:Dx b (An a.fs) a.N=Z0
def ZaQ{e:U KS}{h:H}{b:U BS}(l:h<=200)(v:F e<256)(j:∀n∈b,BRt e h n)(d:U E):∀a,a<=F b->∃m,Zz e h (b.flatMap Dq++d) a=T (ZU a b,m,(ZF a b).flatMap Dq++d)
 |0,_=>⟨_,X⟩
 | a +1,x=>by
  have g:a<F b:=O;have c:=j _ (Qf g);have⟨m,w⟩:=ZaQ l v j d a O
  have o:(ZF a b).flatMap Dq++d=[((F b[a].fs:H):E)%256]++Sr b[a].fs++(Ia b[a].N b[a].g++((ZF (a+1) b).flatMap Dq++d)):=by
   rw[aN g,flatMap_cons];unfold Dq
   grind
  simp only[Zz];rw[w];simp only;rw[o];have⟨p,q⟩:=Zgs c.A (λi f=>p_ (c.n i f)) (Ia b[a].N b[a].g++((ZF (a+1) b).flatMap Dq++d));have k:Dc e (An b[a].fs)=b[a].g:=(by rw[Qo,Ga,c.sum]);have⟨r,s⟩:=Zpe l c.y c.k (p_ c.h) ((ZF (a+1) b).flatMap Dq++d)
  rw[p,q,k,r,s,Ga,Zdn c.k (p_ c.h),aD (by
   rw[c.j,Bool.and_true];unfold Vj;rw[k];simp only[Bool.and_eq_true,decide_eq_true_eq,all_eq_true];refine⟨λi f=>?_,by rw[Ak];exact c.o,c.h⟩;unfold An at f;obtain⟨t,u,rfl⟩:=mem_map.1 f;have:=c.n t u
   omega)]
  exact⟨_,by rw[Qi g]⟩
def Gu(c:U XS):Prop:=c.Pairwise λa b=>a.M<b.M∨a.M=b.M/\a.f<b.f
def Zbm{b:U XS}(g:Gu b){a:H}(f:a<F b):Ip (ZU a b) b[a]=Z0:=by
 unfold Ip;rw[length_take,Nat.min_eq_left O]
 by_cases d:a=0
 subst d;rfl;rw[aE d,Bool.false_or,decide_eq_true_eq];have e:Z (ZU a b) (a-1) Dm=b[a-1]:=w_;rw[e];have c:=ltX b[a-1] b[a];rw[aF (pairwise_iff_getElem.1 g (a-1) a O f O)] at c;unfold ltOf at c
 simpa using c
def Zpd{x:XS}(e:x.M<256/\x.f<256/\x.i<256)(a:U E):rdX (xB x++a)=x/\ZF 3 (xB x++a)=a:=by
 refine⟨?_,X⟩;obtain⟨b,c,d⟩:=x;simp only at e;show(⟨ZL ((b:E)%256),ZL ((c:E)%256),ZL ((d:E)%256)⟩:XS)=_
 grind
def Zj0{e:Ft}{i:H}{a:U XS}(h:Gu a)(g:∀x∈a,Fi e i x=Z0)(f:∀x∈a,x.M<256/\x.f<256/\x.i<256)(c:U E):∀b,b<=F a->Vr e i (a.flatMap xB++c) b=T (ZU b a,(ZF b a).flatMap xB++c)
 |0,_=>by simp[Vr]
 |b+1,m=>by have d:b<F a:=O;simp only[Vr];rw[Zj0 h g f c b O];have j:(ZF b a).flatMap xB++c=xB a[b]++((ZF (b+1) a).flatMap xB++c):=(by rw[aN d,flatMap_cons,append_assoc]);simp only;rw[j];have⟨k,l⟩:=Zpd (f _ (Qf d)) ((ZF (b+1) a).flatMap xB++c);rw[k,l,aD (by rw[Zbm h d,g _ (Qf d)];rfl),Qi d]
structure DRt(c:H)(a:Ft)(b:U XS):Prop where
 w:c<=200
 y:0<F a.g
 i:F a.g<=4
 k:0<F a.f
 l:F a.f<=4
 g:∀K∈a.g,KRt K
 f:∀d∈a.f,BRt a.g c d
 h:(a.f.flatMap (·.fs)).Perm (range (F a.g))
 r:Gu b
 j:∀e∈b,Fi ⟨a.g,a.f,[]⟩ c e=Z0
 u:F b<=800
def Zcl{e:H}{a:Ft}{b:U XS}(c:DRt e a b):Ma (Br a b)=T (⟨a.g,a.f,b⟩,Ba (Gy (Hv a b)) 4):=by
 have z:F (Z a.f 0 Df).N=e:=(by rw[Qc,Qd c.k];exact(c.f _ (Qf _)).y);have⟨d,q⟩:=W_ (Ba (Gy (Hv a b)) 4);have u:=c.w;have w:=c.i;have y:=c.y;have x:=c.l;have D:=c.u;have k:Br a b=71::82::(e:E)%256::(F a.g:E)%256::(a.g.flatMap Ll++((F a.f:E)%256::(a.f.flatMap Dq++(Ba (F b:H) 2++(b.flatMap xB++d))))):=(by grind [Br,Hv]);rw[<- q];have j:=Qr a b;rw[k] at j ⊢;have p:ZL (Z (71::82::(e:E)%256::(F a.g:E)%256::(a.g.flatMap Ll++((F a.f:E)%256::(a.f.flatMap Dq++(Ba (F b:H) 2++(b.flatMap xB++d))))):U E) 2 0)=e:=w_
 have o:ZL (Z (71::82::(e:E)%256::(F a.g:E)%256::(a.g.flatMap Ll++((F a.f:E)%256::(a.f.flatMap Dq++(Ba (F b:H) 2++(b.flatMap xB++d))))):U E) 3 0)=F a.g:=by show ZL ((F a.g:E)%256)=F a.g;omega
 unfold Ma;rw[p,o,aC O];have n:ZF 4 (71::82::(e:E)%256::(F a.g:E)%256::(a.g.flatMap Ll++((F a.f:E)%256::(a.f.flatMap Dq++(Ba (F b:H) 2++(b.flatMap xB++d))))):U E)=a.g.flatMap Ll++((F a.f:E)%256::(a.f.flatMap Dq++(Ba (F b:H) 2++(b.flatMap xB++d)))):=rfl;rw[n,zc c.g _ (F a.g) x_,take_length,drop_length];simp only[flatMap_nil,nil_append,tail_cons,headD_cons];rw[show ZL ((F a.f:E)%256)=F a.f by omega];have⟨t,g⟩:=ZaQ c.w O c.f (Ba (F b:H) 2++(b.flatMap xB++d)) (F a.f) x_;rw[g];rw[take_length,drop_length] at g ⊢;simp only[flatMap_nil,nil_append] at g ⊢
 have⟨_,A,_,r,_⟩:=kw (λh i=>j h (mem_cons_of_mem _ (mem_cons_of_mem _ (mem_cons_of_mem _ (mem_cons_of_mem _ (mem_append_right _ (mem_cons_of_mem _ i))))))) _ _ _ _ g
 have s:Dn t=Z0:=by
  unfold Dn;rw[all_eq_true];intro m l;obtain⟨h,i,rfl⟩:=aM l;have f:=r h;rw[c.h.count_eq h,nodup_range.count,aD (mem_range.2 O),Qc,Qd i] at f
  simpa using f
 rw[aD s];have⟨l,m⟩:=Zq0 (n:=F b) O (b.flatMap xB++d);rw[l,m,Zj0 c.r c.j (λh i=>?_) d (F b) x_,take_length,drop_length];rfl;have f:=Ms (c.j h i);simp only at f;have v:=(c.g (Z a.g h.f Aj) w_).ok.g;omega
def ZhQ{d:H}{a:Ft}{b:U XS}(c:DRt d a b):oe (Br a b)=T ⟨a.g,a.f,b⟩:=by unfold oe;rw[Zcl c];exact aD X
end Go.Proofs.YtfcgnpchbcmdeaaGreat
namespace Go.Proofs.YtfcgnpchbcmdeaaGreat
set_option linter.all false
set_option maxRecDepth 100000
set_option maxHeartbeats 8000000
open Go.RowKit List Nat Go.World Go.Proofs.Tryz Go.Value Go.IntKind Go.Lib Go.Region
def Zns{c}:∀b∈(Zl c).f,-2147483648<=b/\b<=2147483647:=λb a=>by unfold Zl at a;split at a;simp at a;simp only[Tn,mem_map] at a;obtain⟨d,_,rfl⟩:=a;have:=Zai (ZF 3 c|>.drop (4*d));omega
def ZfY{g:U E}:∀c {b:U KS} {e:U E},Xh g c=T (b,e)->∀K∈b,∀h∈K.e.f,-2147483648<=h/\h<=2147483647
 | 0,b,e,a=>by
  simp only[Xh,Option.some.injEq,Prod.mk.injEq] at a
  grind
 | c + 1,b,e,a=>by
  simp only[Xh] at a
  cases f:Xh g c with
  |none=>grind
  | some i=>
   obtain⟨j,k⟩:=i;rw[f] at a;simp only at a;split at a
   ·simp only[Option.some.injEq,Prod.mk.injEq] at a;rw[<- a.1];intro K hK
    rcases mem_append.1 hK with d|d
    exact ZfY c f K d;rw[mem_singleton.1 d];exact Zns
   cases a
def Zie{b m:U E}{d:Ft}(a:Ma b=T (d,m)):∀K∈d.g,∀i∈K.e.f,-2147483648<=i/\i<=2147483647:=by
 unfold Ma at a;split at a
 ·cases a
 cases f:Xh (ZF 4 b) (ZL (Z b 3 0)) with
 |none=>grind
 | some c=>
  obtain⟨e,g⟩:=c;simp only[f] at a
  cases k:Zz e (ZL (Z b 2 0)) g.tail (ZL (g.headD 0)) with
  |none=>grind
  | some c=>
   obtain⟨j,p,h⟩:=c;simp only[k] at a;split at a
   ·cases l:Vr ⟨e,j,[]⟩ (ZL (Z b 2 0)) (ZF 2 h) (Lf h 2) with
    |none=>grind
    | some c=>
     obtain⟨n,o⟩:=c;simp only[l,Option.some.injEq,Prod.mk.injEq] at a;rw[<- a.1];exact ZfY _ f
   cases a
def ZkZ{a:U KS}{b:U BS}{c:U E}(i:F c=F a)(h:∀f∈b,∀g∈f.fs,g<F a)(j:∀d,Z c d 0=((b.flatMap (·.fs)).count d:H))(e:Dn c=Z0):(b.flatMap (·.fs)).Perm (range (F a)):=by
 unfold Dn at e;simp only[all_eq_true,decide_eq_true_eq] at e
 grind [Qf]
def ZhM{a:U XS}{x:XS}(b:Ip a x=Z0):a=[]∨(Z a (F a-1) Dm).M<x.M∨(Z a (F a-1) Dm).M=x.M/\(Z a (F a-1) Dm).f<x.f:=by
 unfold Ip at b;simp only[Bool.or_eq_true,decide_eq_true_eq] at b
 rcases b with b|b
 ·grind
 right;unfold Na orI compareInt at b
 grind
theorem gc{a:U XS}{x:XS}(c:Gu a)(b:a=[]∨(Z a (F a-1) Dm).M<x.M∨(Z a (F a-1) Dm).M=x.M/\(Z a (F a-1) Dm).f<x.f):Gu (a++[x]):=by
 unfold Gu at c ⊢;rw[pairwise_append];refine⟨c,s_,λj d k i=>?_⟩;rw[mem_singleton.1 i]
 rcases b with rfl|b
 simp at d;obtain⟨e,g,rfl⟩:=aM d;have h:Z a (F a-1) Dm=a[F a-1]:=w_;rw[h] at b
 by_cases f:e=F a-1
 subst f;exact b;have:=pairwise_iff_getElem.1 c e (F a-1) g O O;omega
def lx{e:Ft}{h:H}{g:U E}:∀c {b:U XS} {d:U E},Vr e h g c=T (b,d)->Gu b
 |0,b,d,a=>by simp only[Vr,Option.some.injEq,Prod.mk.injEq] at a;rw[<- a.1];exact Pairwise.nil
 | c +1,b,d,a=>by
  simp only[Vr] at a
  cases f:Vr e h g c with
  |none=>grind
  | some i=>
   obtain⟨j,l⟩:=i;rw[f] at a;simp only at a;split at a;rename_i k;simp only[Option.some.injEq,Prod.mk.injEq] at a;rw[<- a.1];exact gc (lx c f) (ZhM w_)
   cases a
theorem Zig{d:U H}{a b:H}(j:F d=a)(f:U E):Hl (100::Bg (Cf d (Lib.bitLen b)) ((a*Lib.bitLen b+7)/8) (a*Lib.bitLen b)++f) a b=An (d.map (· %2^Lib.bitLen b)):=by
 unfold Hl;rw[aC s_];show dnN (Bg (Cf d (Lib.bitLen b)) ((a*Lib.bitLen b+7)/8) (a*Lib.bitLen b)++f) a (Lib.bitLen b)=_;generalize Lib.bitLen b=c at *
 have k:∀e,e<a*c->Vf (Bg (Cf d c) ((a*c+7)/8) (a*c)++f) e=Cf d c e:=λe n=>by grind [Vf,bh,Dj,Kj,Ug,Jf]
 unfold dnN;refine Te (by simp[Ak,j]) (λh g=>?_)
 have i:h<a:=by simpa using g
 rw[Bq,Qc,Qd g,Option.getD_some,getElem_map,getElem_range];have m:h*c+c<=a*c:=(by rw[<- succ_mul];exact aK _ i);rw[Ni _ _ c (λo l=>by rw[k _ O];exact Mz d l)]
 grind
def Znt{a:U H}{b g:H}(f:b<=200)(d:F a=b)(e:∀x∈a,x<=255)(c:U E):Ix (Ia a g++c) b g=Xg a g/\rdColR (Ia a g++c) b g=c:=by
 unfold Ix Ia Xg
 grind [dj,Ga,Zig,rdColR,Dj]
def Zgu{b:U KS}:∀(a:U E) (d:E),Ii b a d=Z0->d<Dc b a
 |[],d,c=>by simp[Ii] at c
 |e::a,d,c=>by have f:Dc b (e::a)=((Z b (ZL e) Aj).e.b+2)+Dc b a:=(by simp[Dc]);rw[f];simp only[Ii] at c;split at c;rename_i g;simp only[Oy,decide_eq_true_eq] at g;omega;have:=Zgu a _ c;omega
def ZhK{d:U KS}{a:U E}{e:U H}(b:Dx d a e=Z0):∀c∈e,c<=Dc d a:=λc g=>by
 unfold Dx at b;simp only[all_eq_true,Bool.or_eq_true,decide_eq_true_eq] at b
 rcases b c g with f|f
 omega;have:=Zgu a _ f;omega
def Zmo(a:U H)(b:H):Xg (Xg a b) b=Xg a b:=by
 by_cases d:4*nzN a<F a
 have c:Xg a b=a:=(by unfold Xg;rw[aD d]);rw[c,c];have c:Xg a b=a.map (· %2^Lib.bitLen b):=(by unfold Xg;rw[aC d]);rw[c];unfold Xg;split;rfl;rw[map_map];exact map_congr_left λe _=>mod_mod _ _
def Zod{d:U KS}{e:H}{b:BS}(a:Zmd d e b)(g:F b.fs<256)(f:Xg b.N b.g=b.N):BRt d e b:=by have c:=a.j;rw[f] at c;refine⟨a.y,λi h=>?_,a.h,a.o,g,a.n,a.sum,c⟩;have:=ZhK c i h;rw[Qo,Ga,<- a.sum] at this;exact this
def ZaP{f:U KS}{i:H}{b:U BS}(m:i<=200)(w:F f<256)(k:∀d∈b,Zmd f i d/\F d.fs<256)(e:U E):∀a,a<=F b->∃n,Zz f i (b.flatMap Dq++e) a=T ((ZU a b).map (λd=>⟨d.fs,Xg d.N d.g,d.g⟩),n,(ZF a b).flatMap Dq++e)
 |0,_=>⟨_,X⟩
 | a +1,y=>by
  have h:a<F b:=O;have⟨c,u⟩:=k _ (Qf h);have⟨n,x⟩:=ZaP m w k e a O
  have o:(ZF a b).flatMap Dq++e=[((F b[a].fs:H):E)%256]++Sr b[a].fs++(Ia b[a].N b[a].g++((ZF (a+1) b).flatMap Dq++e)):=by
   rw[aN h,flatMap_cons];unfold Dq
   grind
  simp only[Zz];rw[x];simp only;rw[o];have⟨p,q⟩:=Zgs u (λj g=>p_ (c.n j g)) (Ia b[a].N b[a].g++((ZF (a+1) b).flatMap Dq++e));have l:Dc f (An b[a].fs)=b[a].g:=(by rw[Qo,Ga,c.sum]);have⟨r,s⟩:=Znt (g:=b[a].g) m c.y c.k ((ZF (a+1) b).flatMap Dq++e)
  rw[p,q,l,r,s,Ga,Zmo,aD (by
   rw[c.j,Bool.and_true];unfold Vj;rw[l];simp only[Bool.and_eq_true,decide_eq_true_eq,all_eq_true];refine⟨λj g=>?_,by rw[Ak];exact c.o,c.h⟩;unfold An at g;obtain⟨t,v,rfl⟩:=mem_map.1 g;have:=c.n t v
   omega)]
  exact⟨_,by rw[Qi h,map_append];rfl⟩
def ZfT{a:U BS}(c:∀b∈a,0<F b.fs):F a<=F (a.flatMap (·.fs)):=by
 induction a with
 |nil=>simp
 | cons b a d=>
  grind
def Za0(a:Ft)(b:U XS):ZF 4 (Br a b)=a.g.flatMap Ll++((F a.f:E)%256::(a.f.flatMap Dq++(Ba (F b:H) 2++(b.flatMap xB++Ba (Gy (Hv a b)) 4)))):=by generalize e:Ba (Gy (Hv a b)) 4=c;have d:Br a b=71::82::((F (Z a.f 0 Df).N:H):E)%256::(F a.g:E)%256::(a.g.flatMap Ll++((F a.f:E)%256::(a.f.flatMap Dq++(Ba (F b:H) 2++(b.flatMap xB++c))))):=(by grind [Br,Hv]);rw[d];rfl
def Zo3{d:U E}{o:Ft}(b:Sm d)(k:oe d=T o):DRt (ZL (Z d 2 0)) o o.r:=by
 unfold oe at k
 cases e:Ma d with
 |none=>grind
 | some h=>
  obtain⟨j,a8⟩:=h;simp only[e] at k
  by_cases L:Br j j.r=d
  ·rw[aD L,Option.some.injEq] at k;subst k;have g:=Zcm b e;have a1:=Zie e;have p:=Za0 j j.r;rw[L] at p;have r:∀K∈_,KRt K:=λK hK=>⟨g.g K hK,a1 K hK⟩;have u:=g.i;have z:=g.w;have G:=g.u;have v:=g.k;unfold Ma at e
   by_cases a0:200<ZL (Z d 2 0)∨ZL (Z d 3 0)<1∨4<ZL (Z d 3 0)
   ·grind
   rw[aC a0] at e
   cases q:Xh (ZF 4 d) (ZL (Z d 3 0)) with
   |none=>grind
   | some h=>
    obtain⟨i,s⟩:=h;simp only[q] at e;have⟨y,a7,W⟩:=zd (b.drop 4) _ i s q
    cases l:Zz i (ZL (Z d 2 0)) s.tail (ZL (s.headD 0)) with
    |none=>grind
    | some h=>
     obtain⟨c,M,t⟩:=h;simp only[l] at e;have⟨R,a4,m,a2,a6⟩:=kw W.tail _ c M t l
     cases A:Dn M with
     |false=>grind
     | true=>
      simp only[A,if_true] at e
      cases w:Vr ⟨i,c,[]⟩ (ZL (Z d 2 0)) (ZF 2 t) (Lf t 2) with
      |none=>grind
      | some h=>
       obtain⟨f,a9⟩:=h;simp only[w,Option.some.injEq,Prod.mk.injEq] at e;obtain⟨P,_⟩:=e;subst P;simp only at p r u G v;have D:=ZkZ a4 (λa b=>(m a b).n) a2 A
       have x:∀a∈c,F a.fs<256:=λa b=>by
        have:=g.d.r a b
        grind
       have n:=zc r ((F c:E)%256::(c.flatMap Dq++(Ba (F f:H) 2++(f.flatMap xB++Ba (Gy (Hv ⟨i,c,f⟩ f)) 4)))) _ x_;rw[<- p,y,q] at n;rw[<- y,drop_length] at n;simp only[flatMap_nil,nil_append,Option.some.injEq,Prod.mk.injEq] at n;have a3:=n.2;have⟨b0,a5⟩:=ZaP z O (λa b=>⟨m a b,x a b⟩) (Ba (F f:H) 2++(f.flatMap xB++Ba (Gy (Hv ⟨i,c,f⟩ f)) 4)) (F c) x_;rw[<- R,a3,tail_cons,a5,Option.some.injEq,Prod.mk.injEq,take_length] at l
       have Q:∀a∈c,Xg a.N a.g=a.N:=λa b=>by
        have N:c.map (λa=>(⟨a.fs,Xg a.N a.g,a.g⟩:BS))=c.map id:=(by rw[map_id];exact l.1);have:=map_inj_left.1 N a b
        grind
       have S:F c<=4:=(by have N:=ZfT λa b=>(m a b).o;rw[D.length_eq,length_range] at N;omega);exact⟨z,g.y,u,v,S,r,λa b=>Zod (m a b) (x a b) (Q a b),D,lx _ w,g.e.j,G⟩
  grind
end Go.Proofs.YtfcgnpchbcmdeaaGreat
