import Derived.Test.YtfcgnpchbcmdeaaGreatZobi
namespace Go.Proofs.YtfcgnpchbcmdeaaGreat
set_option linter.all false
set_option maxRecDepth 100000
set_option maxHeartbeats 16000000
open Go.RowKit List Nat World Go.Proofs.Tryz Value IntKind Lib Region
structure KnR(k):Prop where
 x:Ue k
 g:∀a∈k.e.g,-4294967296<=a/\a<=1000000000000
 c:∀b∈k.e.c,b.size<=1000
 d:k.d<=1000000
structure BuR(e)(b:List KS)(a:BS):Prop where
 len:a.N.length=e
 p:a.fs.length<=1000
 n:∀c∈a.fs,c<b.length
 A:∀d,a.fs.getD d 0<=1000000
 h:a.g=Bj b a.fs
 i:a.g<64
 val:∀f,a.N.getD f 0<=1000000
def Zno(a:Bool):List Int:=if a=true then[119] else[110]
def Znm{a}(d:Ue a) c:Lc a++c=Zno a.e.a++(Ay a.d 1++(Ay ((a.e.g.length:Int)+a.e.c.length) 1++(Li a.e.g++(Lm a.e.c++c)))):=by
 unfold Lc Zno
 cases b:a.e.a
 rw[d.2.2.2 b];simp[knB,ES.b,Kr,b,Lm,Oy];rw[d.2.2.1 b];simp[kq,ES.b,Kr,b,Li,Oy]
def ZmX(a:BS) b:Dm a++b=Ay a.fs.length 1++(a.fs.flatMap (λc:Nat=>Ay c 1)++(Hr a.N a.g++b)):=by simp only[Dm,Oy,Rv,append_assoc,map_eq_flatMap]
def Vw(d:Nat)(b:List KS)(a:List BS)(c:List XS):List Int:=[71,82,(d:Int)%256,b.length%256]++b.flatMap Lc++[(a.length:Int)%256]++a.flatMap Dm++Ay c.length 2++c.flatMap xB
def fx.get{d m o l a}(b:fx d m o l a){i}(e:i<a.length):∃c p g j h k,o=L_ c a.length p/\d.cell? (J c (i*4))=some (.bool (a.getD i Ai).e.a)/\d.cell? (J c (i*4+1))=some (.slice g (a.getD i Ai).e.g.length j)/\d.cell? (J c (i*4+2))=some (.slice h (a.getD i Ai).e.c.length k)/\d.cell? (J c (i*4+3))=some (I (a.getD i Ai).d)/\Ad d m (.slice g (a.getD i Ai).e.g.length j) (a.getD i Ai).e.g/\Bi d m (.slice h (a.getD i Ai).e.c.length k) (a.getD i Ai).e.c:=by
 have⟨c,q,n,_,_,_,_,f⟩:=b.row.at (i:=i) (b.a ▸ e);rw[b.a] at n;have u:=b.j i e;have⟨g,j,r⟩:=(b.j i e).1.shape;have⟨h,k,s⟩:=(b.j i e).2.a;have t:(zipWith Bs a l).getD i []=Bs (a.getD i Ai) (l.getD i Ld):=(by simp[getD,getElem?_zipWith,e,show i<l.length by rw[b.len];exact e]);rw[t] at f;exact⟨c,q,g,j,h,k,n,f 0 O _ rfl,f 1 O _ (by rw[<- r];rfl),f 2 O _ (by rw[<- s];rfl),f 3 O _ rfl,w_,w_⟩
def Hk{d:Type}{a:List d}{b} c (e:b<a.length):a.getD b c∈a:=w_
def Yk a:strOfNums (Ab a)=a:=by
 cases a with
 | mk b=>
  unfold strOfNums Ab;congr 1;apply Array.ext';simp[map_map,Function.comp_def]
structure SB(f wr:World)(e:ByteArray)(d c:List Int):Prop where
 s:∃a,e=strOfNums a/\a++d=c
 z:c.length<=1000000
 b:E_ f wr
section
variable {w wr W:World} {S:ByteArray} {R R' a:List Int}
def SB.size(b:SB w wr S R a):S.size+R.length<=1000000:=by
 obtain⟨⟨d,rfl,rfl⟩,c,_⟩:=b;rw[Bk]
 simpa using c
def SB.e(b:SB w wr S R a)(c:R=R'):SB w wr S R' a:=c ▸ b
def SB.g{c}(b:SB w wr S R a)(d:E_ W c):K (SB W c S R a):=⟨b.s,b.z,d⟩
def SB.E{c d}(e:SB w wr S (c++R) a)(g:E_ w W)(b:d=strOfNums c):(¬9223372036854775807<S.size+d.size)/\K (SB w W (S++d) R a):=by have h:=e.size;subst b;obtain⟨⟨f,rfl,b⟩,i,_⟩:=e;rw[Bk] at *;rw[Qe] at h;exact⟨by rw[Bk];omega,⟨f++c,Na _ _,by simpa using b⟩,i,g⟩
def LoP(w:World)(S:ByteArray)(R a:List Int)(c:Ending)(d:World):Prop:=∃b,c=.returned (.string b)/\(¬9223372036854775807<S.size+b.size)/\K (SB w d (S++b) R a)
def SB.call{c:Nat}{b:Array Value}{e}(f:SB w wr S (e++R) a)(g:E_ w W)(h:C_ c b W (U_ (.string (strOfNums e)) W)):C_ c b W (LoP w S R a):=h.m λ_ _ d=>⟨_,d.1,f.E (bt_ g d.2) rfl⟩
def SB.A{x b}(c:SB w wr S (Ay x b++R) a)(f:E_ w W)(g:b<=4:=by omega)(d: -4294967296<=x:=by omega)(e:x<=1000000000000:=by omega):C_ 135 #[I x,I (b:Nat)] W (LoP w S R a):=c.call f (Zbp x b W g d e)
def LoI{d:Type}(w:World)(e:d->List Int)(c:List d)(R a:List Int)(f g:Value)(wr:World):Prop:=∃(b:Nat) (S:ByteArray),f=.string S/\g=I b/\b<=c.length/\K (SB w wr S ((c.drop b).flatMap e++R) a)
def SB.d{f:Type}{d:f->List Int}{c:List f}{b}(g:SB w wr S ((c.drop b).flatMap d++R) a)(h)(e:b<c.length):∃R',K (SB w wr S (d (c.getD b h)++R') a)/\K (R'=(c.drop (b+1)).flatMap d++R)/\(0:Int)<=b/\(b:Int)<c.length:=by refine⟨_,g.e ?_,rfl,F_ _ _⟩;rw[aN e,flatMap_cons,append_assoc];simp[getD,e]
def SB.c{c:Type}{e:c->List Int}{b:List c}(d:SB w wr S ((b.drop b.length).flatMap e++R) a):K (SB w wr S R a):=d.e s_
end
def ZdJ M e3 j g1 f9 g0 g2 f5 e4 e6 e c d i (s:RfX i e3 M j g1 f9 g0 g2 f5 e4 e6 e (c.map BS.fs) (c.map BS.N) d)(c4:∀K∈e,KnR K)(o:∀l∈c,BuR j e l)(h6:e.length<=1000)(h2:c.length<=1000)(h9:d.length<=100000)(t:∀x∈d,x.row<=1000000/\x.f<=1000000/\x.i<=1000000)(f2:j<=200)(a7:(Vw j e c d).length<=1000000)(c3:Dw (Vw j e c d)):C_ 76 #[P_ M] i (U_ (.string (strOfNums (Vw j e c d++Ay (Gp (Vw j e c d)) 4))) i):=by
 have⟨G,b6⟩:=Z_ s.view s.z;have a:Hid (SB i i ⟨#[71,82]⟩ (Ay j 1++(Ay e.length 1++(e.flatMap Lc++(Ay c.length 1++(c.flatMap Dm++(Ay d.length 2++(d.flatMap xB++[]))))))) (Vw j e c d)):=⟨⟨[71,82],rfl,by simp[Vw,Oy]⟩,a7,.refl _ _⟩;have d3:Hid (∀W,C_ 134 #[Q_ (strOfNums (Vw j e c d))] W λf b=>_/\E_ W b):=λW=>du _ W c3 a7;obtain⟨e1,g9,rfl⟩:=b6.view.1;have e8:=n_ 0 s.v;have e9:=n_ 1 s.v;have i0:=lt_ e8;have⟨i2,L,Z⟩:=G.j;have⟨i3,f0,a0⟩:=G.k;have⟨i4,b9,a1⟩:=G.l;obtain⟨d7,g6,rfl⟩:=Z.1;obtain⟨d8,g7,rfl⟩:=a0.1;obtain⟨d9,g8,rfl⟩:=a1.1;rw[length_map] at L f0;have y:=x6_ Z a0 a1 c4 o t;clear s c4 o t Z a0 a1 a7 c3;generalize strOfNums (Vw j e c d++Ay (Gp (Vw j e c d)) 4)=g5 at *;generalize Vw j e c d=v at *
 have⟨d4,c1⟩:=ez_ (Ay c.length 1++(c.flatMap Dm++(Ay d.length 2++(d.flatMap xB++[]))));rw[c1] at a;refine dl_ ?_;go_enter func76,ntmps76;go_upto_region 1 with fail;refine rg_ i 13 λb=>?_;refine K_ ?_;refine oc_ 4 (a.A b) ?_;rintro f Q ⟨b0,rfl,p,a⟩;replace p:¬_<2+b0.size:=p;refine⟨_,rfl,a.b,λb=>K_ ?_⟩;refine oc_ 11 (a.A b) ?_;rintro f b2 ⟨c9,rfl,k,a⟩;rw[ByteArray.size_append] at k;replace k:¬_<2+_+_:=k;refine⟨_,rfl,a.b,λb=>K_ ?_⟩;refine le_ ?_;clear b p k;go_upto_region 3 with fail;go_loopw [3,4] (LoI i Lc e d4 v) (λ_ g _=>e.length-(intOf g).toNat)
 case atStart=>exact⟨0,_,rfl,rfl,r_,a⟩
 clear a;obtain⟨N,g4,rfl,rfl,h4,a⟩:=hrel;have F:=Ag a.b e9
 by_cases a3:N<e.length
 ·have⟨f8,h0,e0,e5,e2,e7,B,S,T,U,X,a8,a9⟩:=b6.get a3;obtain rfl:e1=some ⟨f8,0,none⟩:=(by injection B);have⟨b7,a,f1,D⟩:=a.d Ai a3;have w:=y.2.2.2.1 _ (Hk Ai a3);replace a:=Y (a.e (Znm w.x _));clear B;generalize e.getD N Ai=K at *;obtain⟨⟨b3,n,g⟩,c0⟩:=K;simp only at S T U X a8 a9 a;have E:=x4_ a8 a9 w.g w.c;have h3:c0<=1000000:=w.d;have h7:n.length+g.length<=2000:=add_le_add w.x.1 w.x.2.1;have b4:=Ag a.b S;have p:=Ag a.b T;have k:=Ag a.b U;have b5:=Ag a.b X;clear S T U X a8 a9 w;go_upto_region 6 with fail;have⟨z,c7,o,t⟩:=na_ wr #[.bool b3,V e0 n.length e5,V e2 g.length e7,I c0] 227;rw[<- c7];have P:=Y (bt_ a.b o);have H:=n_ 0 t;have d0:=n_ 1 t;have d1:=n_ 2 t;have g3:=n_ 3 t;clear c7 t o F b4 p k b5;generalize wr.1.size=h1 at *;have c8:=lt_ H
  have⟨f4,a6⟩:=M_ (strOfNums (Zno b3));have⟨b4,a⟩:=(a.g (W:=z) (.refl _ _)).E (.refl _ _) a6;go_upto_if 42 with fail
  go_cut [6] (λh m=>h=.string f4/\m=z)
  case first=>cases b3<;>(subst a6;go_wp2;go_meet;exact⟨rfl,rfl⟩)
  obtain⟨rfl,f3⟩:=hcut;obtain rfl:=f3.s;clear a6 H;have f7:i64.wrap (n.length+g.length)=n.length+g.length:=As O O;have⟨d5,c2⟩:=ez_ (Lm g++b7);rw[c2] at a;go_upto_region 9 with fail;refine rg_ z 16 λb=>?_;refine K_ ?_;refine oc_ 5 (a.A b) ?_;rintro f Q ⟨b0,rfl,p,a⟩;rw[ByteArray.size_append] at p;refine⟨_,rfl,a.b,λb=>K_ ?_⟩;refine oc_ 14 (a.A b) ?_;rintro f b2 ⟨c9,rfl,k,a⟩;rw[ByteArray.size_append,ByteArray.size_append] at k;refine⟨_,rfl,a.b,λb=>K_ ?_⟩;refine le_ ?_;clear b b4 p k f7 g3;go_upto_region 11 with fail;go_loopw [3,7] (LoI z (λx=>Ay x 4) n d5 v) (λ_ h _=>n.length-(intOf h).toNat)
  case atStart=>exact⟨0,_,rfl,rfl,r_,a⟩
  clear a;obtain⟨h,d6,rfl,rfl,c5,a⟩:=hrel;have F:=Ag a.b d0
  by_cases a5:h<n.length
  ·obtain⟨R,rfl,_,_,q⟩:=E.1.b rfl a5;have m:=Ag a.b (Ag P q.1);have A:=E.2.2.1 _ (Hk 0 a5);have⟨b8,a,a2,D⟩:=a.d 0 a5;clear q;generalize n.getD h 0=x at *;go_wp2_with fail
   apply (a.A a.b).m;rintro f Q ⟨r,rfl,u,a⟩;clear F m;refine J_ ?_;exact⟨h+1,_,rfl,g_,O,a.e a2⟩
  obtain rfl:h=n.length:=O;have c6:=Int.lt_irrefl n.length;replace a:=a.c;rw[<- c2] at a;generalize wr=i5 at *;go_upto_region 15 with fail;clear F;go_loopw [3,8] (LoI z (λr:ByteArray=>(r.size:Int)%256::Ab r) g b7 v) (λ_ m _=>g.length-(intOf m).toNat)
  case atStart=>exact⟨0,_,rfl,rfl,r_,a⟩
  clear a;obtain⟨u,R,rfl,rfl,h5,a⟩:=hrel;have m:=Ag a.b d1
  by_cases a4:u<g.length
  ·obtain⟨i1,rfl,_,q⟩:=E.2.1.d rfl a4 ByteArray.empty;have d2:=Ag P q;have A:=Ag a.b d2;have f6:=lt_ d2;have h8:=E.2.2.2 _ (Hk ByteArray.empty a4);have⟨b8,a,a2,D⟩:=a.d ByteArray.empty a4;clear q;generalize g.getD u ByteArray.empty=b1 at *;replace a:=Y (a.e (R':=Ay b1.size 1++(Ab b1++b8)) rfl);go_upto_region 17 with fail;refine rg_ z 15 (λb=>?_) (hS:=a.b.drew);refine K_ ?_;refine oc_ 7 (a.A b) ?_;rintro f Q ⟨r,rfl,p,a⟩;have o:=a.b;have⟨k,a⟩:=a.E o (Yk b1).s;rw[ByteArray.size_append] at k;refine⟨_,rfl,o,λb=>K_ ?_⟩;refine le_ ?_;clear b o m A;refine J_ ?_;exact⟨u+1,_,rfl,g_,O,a.e a2⟩
  obtain rfl:u=g.length:=O;have q:=Int.lt_irrefl g.length;replace a:=(a.c.e f1).g (bt_ P a.b);refine J_ ?_;exact⟨N+1,_,rfl,g_,O,a⟩
 obtain rfl:N=e.length:=O;have e2:=Int.lt_irrefl e.length;have m:=Ag a.b L;replace a:=a.c;rw[<- c1] at a;have⟨c2,b4⟩:=ez_ (Ay d.length 2++(d.flatMap xB++[]));rw[b4] at a;go_wp2_with fail
 apply (a.A a.b).m;rintro f Q ⟨r,rfl,u,a⟩;clear F m;go_upto_region 20 with fail;clear u;go_loopw [3,9] (LoI i Dm c c2 v) (λ_ g _=>c.length-(intOf g).toNat)
 case atStart=>exact⟨0,_,rfl,rfl,r_,a⟩
 clear a;obtain⟨l,d6,rfl,rfl,o,a⟩:=hrel;have m:=Ag a.b L
 by_cases w:l<c.length
 ·obtain⟨d5,e5,a5,a9,B,H,P⟩:=y.1.2 l (by rw[length_map];exact w);obtain⟨e0,e7,a4,a8,b1,a6,T⟩:=y.2.1.2 l (by rw[length_map];exact w);obtain rfl:d7=some ⟨d5,0,none⟩:=(by injection B);obtain rfl:d8=some ⟨e0,0,none⟩:=(by injection b1);rw[show(c.map BS.fs).getD l []=(c.getD l Db).fs by simp[getD,w]] at H P;rw[show(c.map BS.N).getD l []=(c.getD l Db).N by simp[getD,w]] at a6 T;have⟨c7,a,d1,D⟩:=a.d Db w;have n:=y.2.2.2.2.1 _ (Hk Db w);replace a:=Y (a.e (ZmX _ _));clear B b1;generalize c.getD l Db=g at *;have d2:=n.p
  have c0:Hid (∀W,E_ i W->C_ 137 #[P_ M,V a5 g.fs.length a9] W (U_ (.int .i64 g.g) i)):=λW E=>by rw[n.h];exact(aq M j a9 a5 g.fs e W (G.i.below E) (P.below E) n.n d2).m (λ_ _ s=>⟨s.1,bt_ E s.2⟩)
  have b8:Hid (∀W,E_ i W->C_ 136 #[V a4 g.N.length a8,I g.g] W (U_ (.string (strOfNums (Hr g.N g.g))) W)):=λW E=>ZgN a4 a8 g.g g.N W (T.below E) (n.len ▸ f2) n.i n.val;have X:=T_ P n.A;clear P T n;have A:=Ag a.b H;have⟨d0,b5⟩:=ez_ (Hr g.N g.g++c7);rw[b5] at a;go_wp2_with fail
  apply (a.A a.b).m;rintro f b2 ⟨r,rfl,u,a⟩;clear m A;go_upto_region 24 with fail;clear u;go_loopw [3,10] (LoI i (λb3:Nat=>Ay b3 1) g.fs d0 v) (λ_ h _=>g.fs.length-(intOf h).toNat)
  case atStart=>exact⟨0,_,rfl,rfl,r_,a⟩
  clear a;obtain⟨h,R,rfl,rfl,c5,a⟩:=hrel;have m:=Ag a.b L;have A:=Ag a.b H
  by_cases b7:h<g.fs.length
  ·obtain⟨c8,rfl,q⟩:=X.1 h b7;have z:=Ag a.b q;have c6:=X.2 h;have⟨a2,a,S,D⟩:=a.d 0 b7;clear q;generalize g.fs.getD h 0=b3 at *;go_wp2_with fail
   apply (a.A a.b).m;rintro f U ⟨r,rfl,u,a⟩;clear m A z;refine J_ ?_;exact⟨h+1,_,rfl,g_,O,a.e S⟩
  obtain rfl:h=g.fs.length:=O;have c6:=Int.lt_irrefl g.fs.length;replace a:=a.c;rw[<- b5] at a;go_upto_region 27 with fail;have c8:=lt_ H;have f6:=lt_ a6;refine rg_ i 19 (λb=>?_) (hS:=a.b.drew);refine K_ ?_;refine oc_ 16 (c0 _ b) ?_;rintro f U ⟨rfl,b⟩;refine⟨_,rfl,b,λb=>K_ ?_⟩;refine oc_ 17 (a.call b (b8 _ b)) ?_;rintro f b3 ⟨r,rfl,u,a⟩;refine⟨_,rfl,a.b,λb=>K_ ?_⟩;refine le_ ?_;clear b m A;refine J_ ?_;exact⟨l+1,_,rfl,g_,O,a.e d1⟩
 obtain rfl:l=c.length:=O;have B:=Int.lt_irrefl c.length;replace a:=a.c;rw[<- b4] at a;have z:=Ag a.b b9;go_wp2_with fail
 apply (a.A a.b).m;rintro f b2 ⟨r,rfl,u,a⟩;clear m z;go_upto_region 30 with fail;clear u;go_loopw [3,11] (LoI i xB d [] v) (λ_ g _=>d.length-(intOf g).toNat)
 case atStart=>exact⟨0,_,rfl,rfl,r_,a⟩
 clear a;obtain⟨h,R,rfl,rfl,c5,a⟩:=hrel;have z:=Ag a.b b9
 by_cases g:h<d.length
 ·have⟨A,q,n,H,d0,d1⟩:=y.2.2.1.2 h g;obtain rfl:d9=some ⟨A,0,none⟩:=(by injection n);clear n;have⟨E,P,T⟩:=y.2.2.2.2.2 _ (Hk Di g);have⟨a2,a,S,D⟩:=a.d Di g;generalize d.getD h Di=x at *;replace a:=Y (a.e (R':=Ay x.row 1++(Ay x.f 1++(Ay x.i 1++a2))) rfl);go_upto_region 32 with fail;have c8:=lt_ H;refine rg_ i 31 (λb=>?_) (hS:=a.b.drew);refine K_ ?_;refine oc_ 9 (a.A b) ?_;rintro f U ⟨b0,rfl,p,a⟩;refine⟨_,rfl,a.b,λb=>K_ ?_⟩;refine oc_ 19 (a.A b) ?_;rintro f b3 ⟨c9,rfl,k,a⟩;rw[ByteArray.size_append] at k;refine⟨_,rfl,a.b,λb=>K_ ?_⟩;refine oc_ 29 (a.A b) ?_;rintro f a4 ⟨X,rfl,b5,a⟩;rw[ByteArray.size_append,ByteArray.size_append] at b5;refine⟨_,rfl,a.b,λb=>K_ ?_⟩;refine le_ ?_;clear b z;refine J_ ?_;exact⟨h+1,_,rfl,g_,O,a.e S⟩
 obtain rfl:h=d.length:=O;have c6:=Int.lt_irrefl d.length
 obtain rfl:R=strOfNums v:=by
  obtain⟨⟨n,f,rfl⟩,_⟩:=a.c
  simpa using f
 go_wp2_with fail
 apply (d3 wr).m;rintro f U ⟨rfl,n⟩;have q:=Y (bt_ a.b n);clear n z;refine wr_ ?_;exact⟨rfl,q⟩
def Zc7(i p k:Nat) f a b l (j:On l i p b)(s:¬(0<=f/\f<(k:Int)/\0<=a/\a<(b.h.length:Int)))(z:b.h.length<=1000)(x:0<b.g.length)(q:(b.g.getD 0 Db).N.length=k)(G:k<=1000):C_ 44 #[P_ i,I f,I a] l (U_ (.tuple #[.int .i64 0,.int .i64 1]) l):=by
 have F:=n_ 0 j.g;have v:=Y j;have⟨M,L,N,H,E,w,r⟩:=j.h;have c:=Mq _ _ _ _ _ _ w l r.v x;rw[q] at c
 have m:K (¬(0<=a/\a<b.h.length)->∀d:World,On d i p b->C_ 52 #[P_ i,I a] d (V_ (.bool false) d)):=λn d y=>by have e:=Jd _ _ b a d y z;have g:decide (0<=a/\a<=b.h.length-1)=false:=w_;rw[g] at e;exact e
 clear j r q
 by_cases t:0<=f/\f<=(k:Int)-1
 ·have n:¬(0<=a/\a<b.h.length):=O;have u:=Y (m n);clear s n m;refine dl_ ?_;go_enter func44,ntmps44;go_wp2_with fail
  apply c.m;rintro h B ⟨rfl,e⟩;have g:=Y e;clear e c;go_wp2_with fail
  apply (pc _ _ _ _ t).m;rintro h D ⟨rfl,o⟩;obtain rfl:=o.s;go_wp2_with fail
  apply (u _ (v.below g)).m;rintro h P ⟨rfl,A⟩;obtain rfl:=A.s;go_wp2;go_ret2
  exact⟨rfl,g⟩
 clear s m;go_enter func44,ntmps44;go_wp2_with fail
 apply c.m;rintro h B ⟨rfl,e⟩;have g:=Y e;clear e c;go_wp2_with fail
 apply (Zhs _ _ _ _ t).m;rintro h D ⟨rfl,o⟩;obtain rfl:=o.s;go_wp2;go_ret2
 exact⟨rfl,g⟩
def Zc5 d h a c b (e:On b d h c)(j:¬(0<=a/\a<(c.h.length:Int)))(k:c.h.length<=1000):C_ 27 #[P_ d,I a] b (V_ (.tuple #[.slice none 0 0,.slice none 0 0,.int .i64 1]) b):=by
 have g:C_ 52 #[P_ d,I a] b (V_ (.bool false) b):=(by have f:=Jd _ _ c a b e k;have i:decide (0<=a/\a<=c.h.length-1)=false:=w_;rw[i] at f;exact f);clear e j;refine dl_ ?_;go_enter func27,ntmps27;go_wp2_with fail
 apply g.m;rintro i l ⟨rfl,f⟩;obtain rfl:=f.s;go_wp2;go_ret3
 exact⟨rfl,rfl⟩
end Go.Proofs.YtfcgnpchbcmdeaaGreat
