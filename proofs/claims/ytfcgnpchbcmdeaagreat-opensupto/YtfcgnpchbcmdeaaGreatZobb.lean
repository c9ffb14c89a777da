import Derived.Test.YtfcgnpchbcmdeaaGreatZoaz
namespace Go.Proofs.YtfcgnpchbcmdeaaGreat
set_option linter.all false
set_option maxRecDepth 100000
set_option maxHeartbeats 8000000
open Go.RowKit List Nat World Go.Proofs.Tryz Value IntKind Lib Region
def zz x g a c:C_ 373 #[.agg #[I (x:Nat),I (g:Nat)],I (a:Nat)] c (U_ (.int .i64 (compareInt x a)) c):=by
 have d:K (∀b:_,Calls _ _ #[.int _ (x:_),.int _ (a:_)] b λe f=>_):=λb=>Tryz.cmp_Compare_int _ _ b;generalize compareInt (x:Nat) (a:Nat)=h at *;refine v_ ?_;go_wp2_with fail
 apply (d _).m;rintro e i ⟨rfl,f⟩;obtain rfl:=f.s;go_wp2;go_ret;exact⟨rfl,q_⟩
def ZeD x a:compareInt (x:Nat) (a:Nat)<0↔x<a:=by unfold compareInt;omega
def ZeC x a:compareInt (x:Nat) (a:Nat)=0↔x=a:=by unfold compareInt;omega
structure ZhL(b:List (Nat×Nat))(d c):Prop where
 le:c<=b.length
 y:∀a,a<c->(b.getD a (0,0)).1<d
 g:∀a,c<=a->a<b.length->d<=(b.getD a (0,0)).1
def Of(a:List (Nat×Nat))(c b:Nat):Bool:=decide (b<a.length/\(a.getD b (0,0)).1=c)
def Zn6(d:World)(b:List (Nat×Nat))(c:Nat)(e:Ending)(f:World):Prop:=∃a,e=.returned (.tuple #[I (a:Nat),.bool (Of b c a)])/\ZhL b c a/\E_ d f
def Zf2 t u e b m (l:Wj m 0 (V t b.length u) b)(T:b.Pairwise (λx E=>x.1<E.1))(a2:b.length<=1000000):C_ 372 #[V t b.length u,I (e:Nat),.func (.func 373) #[] #[]] m λw a=>Zn6 m b e w a:=by
 have F:=Y l
 have H:K (∀a d,a<d->d<b.length->(b.getD a (0,0)).1<(b.getD d (0,0)).1):=λa d R a1=>by grind [pairwise_iff_getElem]
 have G:=Y (λx E c=>zz x E e c);clear l T;generalize P:b.length=i at *;have h:=Y P;clear P;refine v_ ?_;go_wp2_with fail
 go_loopw [9,10] (λf g j=>∃(a d:Nat),f=I a/\g=I d/\a<=d/\d<=i/\K ((∀c,c<a->(b.getD c (0,0)).1<e)/\(∀c,d<=c->c<i->e<=(b.getD c (0,0)).1)/\E_ m j)) (λf g _=>(intOf g).toNat-(intOf f).toNat)
 exact⟨0,i,rfl,rfl,r_,x_,λc B=>O,λc j M=>O,y_⟩;obtain⟨a,d,rfl,rfl,R,v,f⟩:=hrel
 by_cases a3:a<d
 ·have Z:a<(d:Int):=O;have N:(a+d)/2<i:=O;have⟨U,D,S,r,s⟩:=(show Wj m 0 (V t b.length u) b by rw[h];exact F).b (k:=(a+d)/2) (h ▸ N);have⟨y,z⟩:=k2_ f.2.2 r s;clear r s;subst D;generalize Q:(a+d)/2=g at *;have a4:(a+d)/2=(g:Int):=O;have a0:=F_ g i;clear Q
  have A:K ((∀c,c<=g->(b.getD c (0,0)).1<=(b.getD g (0,0)).1)/\(∀c,g<=c->c<i->(b.getD g (0,0)).1<=(b.getD c (0,0)).1)):=⟨λc B=>by
   rcases Nat.lt_or_ge c g with j|j
   exact Nat.le_of_lt (H c g j N)
   grind,λc B k=>by
   rcases Nat.lt_or_ge g c with j|j
   exact Nat.le_of_lt (H g c j k)
   grind⟩
  generalize (b.getD g (0,0)).1=n at *;generalize (b.getD g (0,0)).2=X at *;go_wp2_with fail
  apply (G _ _ _).m;rintro w W ⟨rfl,p⟩;have o:=Y (f.2.2.T (p.m f.2.2.size));clear p y z
  by_cases k:n<e
  ·have q:=(ZeD _ e).2 k;generalize compareInt (n:Nat) (e:Nat)=L at *;go_wp2;go_roundw;exact⟨g+1,d,g_,rfl,O,v,λc B=>p_ (A.1 c O),f.2.1,o⟩;exact z_
  have q:¬_:=λl=>k ((ZeD _ e).1 l);generalize compareInt (n:Nat) (e:Nat)=L at *;go_wp2;go_roundw;exact⟨a,g,rfl,rfl,O,O,f.1,λc j M=>p_ (A.2 c j M),o⟩;exact z_
 have Z:¬a<(d:Int):=O;have Q:a=d:=O;subst Q
 by_cases A:a<i
 ·have N:=F_ a i;have⟨U,D,S,r,s⟩:=(show Wj m 0 (V t b.length u) b by rw[h];exact F).b (k:=a) (h ▸ A);have⟨y,z⟩:=k2_ f.2.2 r s;clear r s;subst D;have g:K (Of b e a=decide ((b.getD a (0,0)).1=e)):=(by show _=_;unfold Of;rw[h];simp[A]);generalize (b.getD a (0,0)).1=n at *;generalize (b.getD a (0,0)).2=X at *;go_wp2_with fail
  apply (G _ _ _).m;rintro w W ⟨rfl,p⟩;have o:=Y (f.2.2.T (p.m f.2.2.size));clear p y z
  by_cases k:n=e
  ·have q:=(ZeC _ e).2 k;rw[q];go_wp2;go_ret2
   exact⟨a,by rw[g];simp[k],⟨h ▸ v,f.1,h ▸ f.2.1⟩,o⟩
  have q:¬_:=λl=>k ((ZeC _ e).1 l);generalize compareInt (n:Nat) (e:Nat)=L at *;go_wp2;go_ret2
  exact⟨a,by rw[g];simp[k,q],⟨h ▸ v,f.1,h ▸ f.2.1⟩,o⟩
 have N:¬a<(i:Int):=O;have g:K (Of b e a=false):=(by show _=_;unfold Of;rw[h];simp[A]);go_wp2;go_ret2
 exact⟨a,by rw[g];rfl,⟨h ▸ v,f.1,h ▸ f.2.1⟩,f.2.2⟩
theorem Ql c:∀b a,a∈Bu c b↔a.1<b/\a.2=c.getD a.1 0/\a.2≠0
 |0,a=>by simp[Bu]
 | b+1,a=>by
  obtain⟨d,e⟩:=a;rw[Bu,mem_append,Ql c b]
  grind
theorem Yh b:∀a,(Bu b a).Pairwise (λc d=>c.1<d.1)
 |0=>by simp[Bu]
 | a+1=>by
  rw[Bu,pairwise_append];refine⟨Yh b a,by split<;>simp,λc e d f=>?_⟩
  grind [Ql]
def ZiR{a c b d}(l:b<c)(h:ZhL (Bu a c) b d):(if Of (Bu a c) b d=true then((Bu a c).getD d (0,0)).2 else 0)=a.getD b 0:=by
 have n:=Yh a c;have k:=Ql a c;generalize Bu a c=g at *
 by_cases i:a.getD b 0=0
 ·grind [Of]
 have j:(b,a.getD b 0)∈g:=(k _).2 ⟨l,rfl,i⟩;have⟨f,r,o⟩:=aM j;have p:g.getD f (0,0)=(b,a.getD b 0):=w_
 have q:f=d:=by
  rcases Nat.lt_trichotomy f d with e|e|e
  ·have:=h.y f e
   grind
  exact e;have m:=h.g d x_ O
  grind [pairwise_iff_getElem]
 grind [Of]
def Qn p A w f B a i (g:iq i 0 p A w B (Bu a a.length))(m:f<a.length)(y:a.length<=1000000):C_ 371 #[P_ p,I f] i (U_ (.int .i64 (a.getD f 0:Nat)) i):=by
 obtain⟨u,v,rfl⟩:=g.row.shape;have o:=n_ 2 g.r;have s:=Y g.row;have r:=Zf2 u v f _ i g.row (Yh a _) (p_ (Lz a a.length));have t:K (∀b,ZhL (Bu a _) _ b->_):=λb h=>ZiR m h;clear g m y;generalize Bu a a.length=c at *;generalize a.getD f 0=n at *;refine v_ ?_;go_wp2_with fail
 apply r.m;rintro G N ⟨b,rfl,h,l⟩;have e:=t b h;have j:=Y l;have Q:=W_ l o;have E:=Y h;clear l h o
 cases d:Of c f b
 ·have k:K (n=0):=(by rw[d] at e;exact e.s);clear e d;generalize c.length=z at *;go_wp2;go_ret;exact⟨by rw[k];rfl,j⟩
 have k:K (n=(c.getD b (0,0)).2):=(by rw[d] at e;exact e.s);have x:b<c.length:=(by simp only[Of,decide_eq_true_eq] at d;exact d.1);obtain⟨M,rfl,L,D,q⟩:=s.b x;have H:=W_ j q;clear e d D q;have F:=F_ b c.length;generalize (c.getD b (0,0)).2=P at *;generalize c.length=z at *;go_wp2;go_ret;exact⟨by rw[k];rfl,j⟩
abbrev Wn(a b:Nat)(x:XS):Prop:=x.row<a∨x.row=a/\x.f<b
abbrev pw(b a:Nat)(x:XS):Prop:=x.row=b/\x.f=a
def Zlb x b a:Mn x ⟨b,a,0⟩<0↔Wn b a x:=by
 unfold Mn orI Wn compareInt
 grind
def Zla x b a:Mn x ⟨b,a,0⟩=0↔pw b a x:=by
 unfold Mn orI pw compareInt
 grind
structure ZhM(b:List XS)(e d c):Prop where
 le:c<=b.length
 y:∀a,a<c->Wn e d (b.getD a Di)
 g:∀a,c<=a->a<b.length->¬Wn e d (b.getD a Di)
def Ka(a:List XS)(d c b:Nat):Bool:=decide (b<a.length/\pw d c (a.getD b Di))
def Zn7(e:World)(b:List XS)(d c:Nat)(f:Ending)(g:World):Prop:=∃a,f=.returned (.tuple #[I (a:Nat),.bool (Ka b d c a)])/\ZhM b d c a/\E_ e g
def Zf3 a1 a2 f e b j (i:Ni j 0 (V a1 b.length a2) b)(b1:Eh b)(c7:b.length<=1000000):C_ 147 #[V a1 b.length a2,.agg #[I (f:Nat),I (e:Nat),I 0],.func (.func 148) #[] #[]] j λr g=>Zn7 j b f e r g:=by
 have X:=Y i
 have a0:K (∀a c,a<c->c<b.length->(b.getD a Di).row<(b.getD c Di).row∨(b.getD a Di).row=(b.getD c Di).row/\(b.getD a Di).f<=(b.getD c Di).f):=λa c a7 b9=>by
  have:=pairwise_iff_getElem.1 b1 a c O b9 a7
  grind
 have Z:K (∀_ (h:_),Calls _ 148 #[_,.agg #[I (f:Nat),I (e:Nat),.int _ 0]] h λr g=>_/\_):=λc4 h=>(Hq c4 ⟨f,e,0⟩ h).m (λ_ _ i=>⟨i.1,i.2.below⟩);clear i b1;generalize b0:b.length=m at *;have n:=Y b0;clear b0;refine v_ ?_;go_upto_region 1 with fail;generalize L:j.alloc (O_ #[I (f:Nat),I (e:Nat),I 0] 184)=S;have a5:E_ j S:=(by rw[<- L];exact q_);have y:H_ S j.1.size #[I f,I e,I 0] 184:=(by rw[<- L];exact hn_);have b2:=(Qb y).1;have b4:=n_ 0 y;have b5:=n_ 1 y;have b6:=n_ 2 y;have s:=x4_ a5 b4 b5 b6;clear L a5 y b4 b5 b6;go_wp2_with fail
 go_loopw [9,10] (λd g l=>∃(a c:Nat),d=I a/\g=I c/\a<=c/\c<=m/\K ((∀k,k<a->Wn f e (b.getD k Di))/\(∀k,c<=k->k<m->¬Wn f e (b.getD k Di))/\E_ S l)) (λd g _=>(intOf g).toNat-(intOf d).toNat)
 exact⟨0,m,rfl,rfl,r_,x_,λk P=>O,λk o a4=>O,y_⟩;obtain⟨a,c,rfl,rfl,a7,N,l⟩:=hrel;have⟨A,B,D⟩:=k3_ l.2.2 s.2.1 s.2.2.1 s.2.2.2;have b3:=l.2.2.size;have p:=Y (s.1.T (l.2.2.m s.1.size))
 by_cases c8:a<c
 ·have c5:a<(c:Int):=O;have a9:(a+c)/2<m:=O;have⟨q,Q,R,E,F,G⟩:=X.b n (k:=(a+c)/2) a9;have⟨u,v,w⟩:=k3_ p E F G;clear E F G;subst Q;have c1:=Qh R p.size;have c2:=Qh b2 b3;generalize c0:(a+c)/2=d at *;have c9:(a+c)/2=(d:Int):=O;have c6:=F_ d m;clear c0
  have M:K ((∀k,k<=d->Wn f e (b.getD d Di)->Wn f e (b.getD k Di))/\(∀k,d<=k->k<m->¬Wn f e (b.getD d Di)->¬Wn f e (b.getD k Di))):=⟨λk P b8=>by
   rcases Nat.lt_or_ge k d with o|o
   have:=a0 k d o a9;omega
   grind,λk P g b8=>by
   rcases Nat.lt_or_ge d k with o|o
   have:=a0 d k o g;omega
   grind⟩
  have t:=Z (b.getD d Di);have a8:=Zlb (b.getD d Di) f e;generalize c3:Wn f e (b.getD d Di)=b7 at *;generalize Mn (b.getD d Di) ⟨f,e,0⟩=a3 at *;generalize (b.getD d Di).row=W at *;generalize (b.getD d Di).f=U at *;generalize (b.getD d Di).i=T at *;have H:K (∀h:_,Below _ wr h->Calls _ _ _ h λr _=>_/\_):=λh x=>(t h).m (λ_ _ i=>⟨i.1,x.T (i.2.m x.size)⟩);clear t c3;go_upto_region 5 with fail;go_region_held3 (λg=>D_ g q (d*3) (I (W:Nat))/\D_ g q (d*3+1) (I (U:Nat))/\D_ g q (d*3+2) (I (T:Nat))/\D_ g j.1.size 0 (I (f:Nat))/\D_ g j.1.size 1 (I (e:Nat))/\D_ g j.1.size 2 (I 0)) (first|exact⟨u,v,w,A,B,D⟩|grind [Below.cell]) (first|(go_at_call 148;apply (H _ y_.drew).m;rintro r g ⟨rfl,z⟩))
  have g:=Y (l.2.2.T (z.m l.2.2.size));clear z u v w A B D
  by_cases a6:a3<0
  ·have r:=a8.1 a6;go_wp2;go_roundw;exact⟨d+1,c,g_,rfl,O,N,λk P=>M.1 k O r,l.2.1,g⟩;exact z_
  have r:¬b7:=λi=>a6 (a8.2 i);go_wp2;go_roundw;exact⟨a,d,rfl,rfl,O,O,l.1,λk o a4=>M.2 k o a4 r,g⟩;exact z_
 have b7:¬a<(c:Int):=O;have a8:a=c:=O;subst a8
 by_cases M:a<m
 ·have a6:a<(m:Int):=O;have a9:0<=(a:Int):=O;have⟨q,Q,R,E,F,G⟩:=X.b n (k:=a) M;have⟨u,v,w⟩:=k3_ p E F G;clear E F G;subst Q;have c1:=Qh R p.size;have c2:=Qh b2 b3;have d:K (Ka b f e a=decide (Mn (b.getD a Di) ⟨f,e,0⟩=0)):=by show _=_;unfold Ka;rw[n];simp only[M,true_and,Zla]
  have t:=Z (b.getD a Di);generalize Mn (b.getD a Di) ⟨f,e,0⟩=a3 at *;generalize (b.getD a Di).row=W at *;generalize (b.getD a Di).f=U at *;generalize (b.getD a Di).i=T at *;have H:K (∀h:_,Below _ wr h->Calls _ _ _ h λr _=>_/\_):=λh x=>(t h).m (λ_ _ i=>⟨i.1,x.T (i.2.m x.size)⟩);clear t;go_upto_region 8 with fail;go_region_held3 (λg=>D_ g q (a*3) (I (W:Nat))/\D_ g q (a*3+1) (I (U:Nat))/\D_ g q (a*3+2) (I (T:Nat))/\D_ g j.1.size 0 (I (f:Nat))/\D_ g j.1.size 1 (I (e:Nat))/\D_ g j.1.size 2 (I 0)) (first|exact⟨u,v,w,A,B,D⟩|grind [Below.cell]) (first|(go_at_call 148;apply (H _ y_.drew).m;rintro r g ⟨rfl,z⟩))
  have g:=Y (p.T (z.m p.size));clear z u v w A B D;go_wp2;go_ret2
  exact⟨a,by rw[d];rfl,⟨n ▸ N,l.1,n ▸ l.2.1⟩,g⟩
 have a6:¬a<(m:Int):=O;have d:K (Ka b f e a=false):=(by show _=_;unfold Ka;rw[n];simp[M]);clear A B D;go_upto_region 8 with fail;go_quiet (fail);go_wp2;go_ret2
 exact⟨a,by rw[d];rfl,⟨n ▸ N,l.1,n ▸ l.2.1⟩,below_drewN p _⟩
def yp(b:List XS)(d e c:Nat):Nat:=
 match b.find? (λa=>decide (pw e d a)) with
 |some a=>a.i
 |none=>c
def Sp(a:Ga)(f:List XS)(d b e c:Nat):Nat:=
 if Ll a b e<=(a.g.getD b Db).N.getD c 0/\(a.g.getD b Db).N.getD c 0<Ll a b e+(a.h.getD d Ai).a then(a.g.getD b Db).N.getD c 0-Ll a b e
 else yp f d c (a.h.getD d Ai).d
def ZkE{b:List XS}{f e a m:Nat}(r:Eh b)(k:ZhM b f e a):yp b e f m=if Ka b f e a=true then(b.getD a Di).i else m:=by
 unfold yp
 have g:∀c _,b.getD c Di=b[c]:=λc i=>by rw[Qc,Qd i];rfl
 by_cases d:Ka b f e a=true
 rw[aD d];simp only[Ka,decide_eq_true_eq] at d;have:b.find? (λj=>decide (pw f e j))=some b[a]:=(by rw[find?_eq_some_iff_getElem];refine⟨by rw[<- g a d.1];exact aF d.2,a,d.1,rfl,λh j=>?_⟩;have:=k.y h j;rw[g h O] at this;unfold Wn at this;rw[Bool.not_eq_true',decide_eq_false_iff_not];unfold pw;omega);rw[this,g a d.1];rw[aC d]
 have:b.find? (λj=>decide (pw f e j))=none:=by
  rw[find?_eq_none];intro j s;obtain⟨c,i,rfl⟩:=aM s;simp only[decide_eq_true_eq];intro l
  rcases Nat.lt_or_ge c a with n|n
  have:=k.y c n;rw[g c i] at this;unfold Wn at this;unfold pw at l;omega;apply d;simp only[Ka,decide_eq_true_eq];have h:a<b.length:=O;refine⟨h,?_⟩;have o:=k.g a x_ h;rw[g a h] at o ⊢
  rcases Nat.lt_or_ge a c with p|p
  have:=pairwise_iff_getElem.1 r a c h i p;unfold Wn at o;unfold pw at l ⊢;omega;have q:c=a:=O;subst q;exact l
 rw[this]
def Zmr{p:Prop}(h:p:=by
 have HSE:=ZbK _ f _ p _ _ _ _ _ X D w h hs hbl;have⟨hI,_⟩:=h.v.v.j bi hs.h;have⟨fa,fcc,hvf⟩:=hI.shape;have hfk:=hs.n _ p x_ hs.j;rw[hs.g] at hfk;have hmn:=hs.q f hfk;have⟨qk,cK,ab,cb,aw,cw,hvK,hqkl,k0,k1,k2,k3,_⟩:=h.q.at hfk;subst hvK;have⟨xa,xc,hvX⟩:=h.v.j.shape;subst hvX;have d0:w.cell? _=some (V _ _ _):=G_ 0 _ _ _ h.v.r;have d2:w.cell? _=some (V _ _ _):=G_ 2 _ _ _ h.v.r;have hdl:=(Qb h.v.r).1;rw[hvf,hvc] at HSE;have HAT:=Y hat;have HMN:=KS.b (D.h.getD f Ai)
 have HHM:K (∀W:World,Calls prog 146 #[.agg #[.bool (D.h.getD f Ai).e.a,V ab (D.h.getD f Ai).e.g.length cb,V aw (D.h.getD f Ai).e.c.length cw]] W (U_ (.int .i64 (((D.h.getD f Ai).a:Nat):Int)) W)):=λW=>by rw[<- HMN];exact Fm _ _ _ _ _ _ _ W (by unfold KS.a ES.b at hmn;omega)
 have HXW:K (∀W:_,_->Ni W 0 _ X):=λW hW=>(Aa.a (S:=λ_=>False) hW).row h.v.j (λ_ _=>id);have HFX:=Y (λW hW=>Zf3 _ _ row f X W (HXW.out W hW) h.l hxl);have HLF:K (Sp D X f bi p row=if _/\_ then _ else _):=rfl;have HXB:K (∀i,ZhM X row f i->yp X f row (D.h.getD f Ai).d=_):=λi hi=>ZkE h.l hi;clear HMN hvf hvc hI hs h hat hbl;generalize Sp D X f bi p row=res at *;generalize (D.g.getD bi Db).N.getD row 0=x at *;generalize Ll D bi p=off at *;generalize (An (D.g.getD bi Db).fs).length=nf at *;generalize D.h.getD f Ai=Kf at *;generalize yp X f row Kf.d=xres at *;generalize Kf.e.a=kwd at *;generalize Kf.e.g.length=knb at *;generalize Kf.e.c.length=knw at *;generalize Kf.a=km at *;generalize Kf.d=kd at *;generalize hnk:D.h.length=nk at *
 clear hnk;generalize hnx:X.length=nx at *;have HNX:=Y hnx;clear hnx;have bf1:(0:Int)<=(f:Int):=O;have bf2:(f:Int)<(nk:Int):=O;refine dl_ ?_;go_enter func78,ntmps78;go_wp2_with fail
 apply HSE.m;rintro e w2 ⟨rfl,hb2⟩;have HB2:=Y hb2;clear hb2 HSE;go_wp2_with fail
 apply (HAT.out _ (HB2.out.alloc HB2.out.size _)).m;rintro e w3 ⟨rfl,hb3⟩;have HB3:=Y ((HB2.out.alloc HB2.out.size _).T (hb3.m (by have:=HB2.out.size;simp;omega)));have d0w:=W_ HB3.out d0;have d2w:=W_ HB3.out d2;have e0:=W_ HB3.out k0;have e1:=W_ HB3.out k1;have e2:=W_ HB3.out k2;clear hb3 HB2
 by_cases hlo:off<=x
 ·obtain⟨bn,hbn⟩:∃bn,bn=x-off:=⟨_,rfl⟩;have q1:(x:Int)-(off:Int)=(bn:Int):=O;have q2:_=(bn:Int):=As O O;have q3:(0:Int)<=(bn:Int):=O;have HBN:=Y hbn;clear hbn;go_wp2_with fail
  apply (HHM.out _).m;rintro e w4 ⟨rfl,hb4⟩;have HB4:=Y (HB3.out.T (hb4.m HB3.out.size));clear hb4
  by_cases hhi:x<off+km
  ·have q4:(bn:Int)<(km:Int):=p_ HBN.out;have HE:K (res=bn):=(by have:=HLF.out;rw[aD ⟨hlo,hhi⟩] at this;exact this.T HBN.out.s);go_wp2;go_ret;exact⟨by rw[HE.out];rfl,HB4.out⟩
  have q4:¬(bn:Int)<(km:Int):=p_ HBN.out;have HE:K (res=xres):=(by have:=HLF.out;rw[aC (λh=>hhi h.2)] at this;exact this);have d2x:=W_ HB4.out d2;clear d0w d2w e0 e1 e2;go_wp2_with fail
  apply (HFX.out _ HB4.out).m;rintro e w5 ⟨i,rfl,hi,hb5⟩;have HB5:=Y (HB4.out.T (hb5.m HB4.out.size));have hxb:=HXB.out i hi;have⟨d0y,d2y,e3⟩:=k3_ HB5.out d0 d2 k3;clear hb5
  cases hf:Ka X row f i
  ·have HR:K (res=kd):=(by rw[hf] at hxb;exact HE.out.T hxb);clear hxb hf hi;go_wp2;go_ret;exact⟨by rw[HR.out];rfl,HB5.out⟩
  have HR:K (res=(X.getD i Di).i):=(by rw[hf] at hxb;exact HE.out.T hxb);have hil:i<nx:=(by simp only[Ka,decide_eq_true_eq] at hf;have:=hf.1;rw[HNX.out] at this;exact this);have⟨q,hq,hql,_,_,y2⟩:=(HXW.out _ HB5.out).b HNX.out hil;subst hq;have b1:(0:Int)<=(i:Int):=O;have b2:(i:Int)<(nx:Int):=O;clear hxb hf hi;generalize (X.getD i Di).i=xb at *;go_wp2;go_ret;exact⟨by rw[HR.out];rfl,HB5.out⟩
 have q1:_=(x:Int)-(off:_):=As O O;have q3:¬(0:Int)<=(x:Int)-(off:Int):=O;have HE:K (res=xres):=(by have:=HLF.out;rw[aC (λh=>hlo h.1)] at this;exact this);have HB4:=Y HB3.out;go_wp2_with fail
 apply (HFX.out _ HB4.out).m;rintro e w5 ⟨i,rfl,hi,hb5⟩;have HB5:=Y (HB4.out.T (hb5.m HB4.out.size));have hxb:=HXB.out i hi;have⟨d0y,d2y,e3⟩:=k3_ HB5.out d0 d2 k3;clear hb5
 cases hf:Ka X row f i
 ·have HR:K (res=kd):=(by rw[hf] at hxb;exact HE.out.T hxb);clear hxb hf hi;go_wp2;go_ret;exact⟨by rw[HR.out];rfl,HB5.out⟩
 have HR:K (res=(X.getD i Di).i):=(by rw[hf] at hxb;exact HE.out.T hxb);have hil:i<nx:=(by simp only[Ka,decide_eq_true_eq] at hf;have:=hf.1;rw[HNX.out] at this;exact this);have⟨q,hq,hql,_,_,y2⟩:=(HXW.out _ HB5.out).b HNX.out hil;subst hq;have b1:(0:Int)<=(i:Int):=O;have b2:(i:Int)<(nx:Int):=O;clear hxb hf hi;generalize (X.getD i Di).i=xb at *;go_wp2;go_ret
 exact⟨by rw[HR.out];rfl,HB5.out⟩):p:=h
def wk(c f bi p row a:Nat)(g e i:Value)(d b:List (Value×Value))(X:List XS)(D:Ga)(w:World)(h:Om w c g e i d b X D)(hs:Vi D f bi p)(hbl:D.g.length<=1000)(hxl:X.length<=1000000)(j:(D.g.getD bi Db).N.getD row 0<64)(l:Ll D bi p<=100000)(hvc:(b.getD bi Ld).2=.iface 382 (P_ a))(hat:∀W:World,E_ w W->Calls prog 323 #[P_ a,I (row:Nat)] W (U_ (.int .i64 ((D.g.getD bi Db).N.getD row 0:Nat)) W)):Calls prog 78 #[P_ c,I (row:Nat),I (f:Nat)] w (U_ (.int .i64 (Sp D X f bi p row:Nat)) w):=by
 have k:∀W:World,(method 535 382 (P_ a) "At").run prog W=.ok (323,P_ a) W:=λW=>k_
 exact Zmr
def qg(c f bi p row a:Nat)(g e i:Value)(d b:List (Value×Value))(X:List XS)(D:Ga)(w:World)(h:Om w c g e i d b X D)(hs:Vi D f bi p)(hbl:D.g.length<=1000)(hxl:X.length<=1000000)(j:(D.g.getD bi Db).N.getD row 0<64)(l:Ll D bi p<=100000)(hvc:(b.getD bi Ld).2=.iface 380 (P_ a))(hat:∀W:World,E_ w W->Calls prog 371 #[P_ a,I (row:Nat)] W (U_ (.int .i64 ((D.g.getD bi Db).N.getD row 0:Nat)) W)):Calls prog 78 #[P_ c,I (row:Nat),I (f:Nat)] w (U_ (.int .i64 (Sp D X f bi p row:Nat)) w):=by
 have k:∀W:World,(method 535 380 (P_ a) "At").run prog W=.ok (371,P_ a) W:=λW=>k_
 exact Zmr
def Zdi(a:Nat)(c:a<=1000000) b:(Instr.makeSlice 84 (I a) (I a)).run prog b=.ok (L_ b.1.size a a) (b.alloc (O_ (madeCells #[N_] a) 25)):=mk_ 1
structure Mk(g)(j l k e:Nat)(i:List (List Int)):Prop where
 n:∃b:Array Value,g.1[l]? =some (O_ b 25)/\b.size=k/\(∀a,a<e->∃c,b[a]? =some c/\Ad g j c (i.getD a []))/\∀a d,a<d->d<e->∀f c h,b[a]? =some f->b[d]? =some c->f.ownBlock=some h->c.ownBlock≠some h
def Mk.below{g h base a f e b}(j:Mk g base a f e b)(d:E_ g h):Mk h base a f e b:=by
 have⟨i,c,k,l,m⟩:=j.n
 exact⟨i,(d.block a (Qb c).1).T c,k,λq n=>by
  have⟨r,p,o⟩:=l q n
  exact⟨r,p,o.below d⟩,m⟩
def Mk.put{e g c j i f v}(o:Mk e g c j i f)(q:i<j)(t:Ad e g v (f.getD i [])){l}(w:∀x,v.ownBlock=some x->l<=x)(B:∀b:Array Value,e.1[c]? =some (O_ b 25)->∀a,a<i->∀d,b[a]? =some d->∀x,d.ownBlock=some x->x<l):Mk (e.setCell (J c i) v) g c j (i+1) f:=by
 have⟨b,h,m,p,u⟩:=o.n;refine⟨b.setIfInBounds i v,hs_ e c i b _ v h,by simp[m],λa y=>?_,λa k z A d F x n E D=>?_⟩
 rotate_left
 ·rw[aH O] at n
  by_cases r:k=i
  ·grind
  grind
 by_cases r:a=i
 subst r;exact⟨v,by simp[m,q],Al t h C⟩;have⟨d,n,s⟩:=p a O;exact⟨d,w_,Al s h C⟩
def Zw(a:Ga):List (List Int):=a.g.map (λb=>An b.fs)
theorem Xr{a b}(c:b<a.g.length):(Zw a).getD b []=An (a.g.getD b Db).fs:=by grind [Zw]
def ZmO(c:World)(a:Ga)(x:Ending)(d:World):Prop:=∃b,x=.returned (L_ b a.g.length a.g.length)/\c.1.size<=b/\Mk d c.1.size b a.g.length a.g.length (Zw a)/\E_ c d
def pz a3 d9 d8 e0 d4 c0 b8 b a (o:Om a a3 d9 d8 e0 d4 c0 b8 b)(c7:0<b.g.length)(e9:b.g.length<=1000)(a9:∀i,i<b.g.length->0<(b.g.getD i Db).fs.length/\(b.g.getD i Db).fs.length<=1000):C_ 94 #[P_ a3] a λn c=>ZmO a b n c:=by
 have⟨W,b4⟩:=Z_ o a9;have⟨d7,e6,d3,f3,_,_⟩:=o.v.v.at (i:=0) c7;subst d3;have a2:=n_ 1 o.v.r;have c9:∀b7:_,(Instr.makeSlice _ _ (.int _ (b.g.length:_))).run _ b7=_:=Zdi _ O;clear o a9;generalize b0:b.g.length=c at *;have u:=Y b0;clear b0;refine v_ ?_;go_upto_region 2 with fail;generalize z:a.alloc (O_ (madeCells #[N_] c) 25)=R;have w:E_ a R:=by rw[<- z];exact q_
 have e1:K (Mk R a.1.size a.1.size c 0 (Zw b)/\E_ a R):=(by refine⟨⟨_,by rw[<- z];exact hn_,by simp[madeCells],λd q=>O,λd k _ e=>O⟩,w⟩);have e7:=W_ w a2;clear z w c9 a2;go_wp2_with fail
 go_loopw [17] (λd e=>∃(i:Nat),d=.int .i64 i/\i<=c/\K (Mk e a.1.size a.1.size c i (Zw b)/\E_ a e)) (λd _=>c-(intOf d).toNat)
 grind
 obtain⟨i,rfl,f2,e⟩:=hrel
 by_cases F:i<c
 ·have E:i<b.g.length:=u ▸ F;have⟨d6,e4,d2,f4,L,M⟩:=W.v.v.at E;have d1:d6=d7:=w_;subst d1;have⟨j,a8⟩:=W.v.v.j i E;have⟨c5,v,G⟩:=j.shape;have⟨a0,Z,b3⟩:=a8.iface;rw[Aj] at G;rw[G] at L j;rw[b3] at M;have⟨f0,f1⟩:=b4 i F;have⟨c3,c4⟩:=k2_ e.2 L M;have⟨b6,b5⟩:=Z_ (Xr E) j
  have d0:∃r,c5=some ⟨r,0,none⟩:=by
   rcases j.2 with⟨n,d⟩|⟨c6,c1,c2,n,_⟩
   ·grind
   grind
  obtain⟨r,rfl⟩:=d0;have e3:=F_ i c;clear G b3 j a8 L M d2;generalize b1:(b.g.getD i Db).fs.length=N at *;have m:K ((An (b.g.getD i Db).fs).length=N):=(by show _=_;rw[Aj];exact b1);clear b1;go_upto_region 5 with fail;generalize A:wr.alloc (O_ #[L_ r N v,.iface a0 (P_ Z)] 163)=s;have x:E_ wr s:=(by rw[<- A];exact q_);have a6:s.1[wr.1.size]? =some (O_ #[L_ r N v,.iface a0 (P_ Z)] 163):=(by rw[<- A];exact hn_);have f7:=n_ 0 a6;have g:=T_ (e.1.below x) (e.2.T (x.m e.2.size));clear A a6 c3 c4 x e;have a4:=b5.below g.2
  have T:=Tryz.slices_Clone_int _ 0 _ v _ _ (by rw[m];exact x_) O (λd q=>by
   have⟨f,aA,_,_,S,_⟩:=a4.b m (k:=d) (by rw[<- m];exact q);injection aA with aA;injection aA with aA _;subst aA;rw[Nat.zero_add]
   exact S)
  clear a4;go_wp2_with fail
  apply T.m;clear T;rintro n t ⟨Q,rfl,l,_,p⟩;have y:=g.1.below p;have b2:=g.2.size;have a7:=g.2.T (p.m b2);have a5:Ad t a.1.size Q ((Zw b).getD i []):=by rw[b6];rw[<- m,take_length] at l;exact Ad.m (b':=s.1.size) l b2
  have U:∀h:Array Value,t.1[a.1.size]? =some (O_ h 25)->∀d,d<i->∀P,h[d]? =some P->∀f,P.ownBlock=some f->f<s.1.size:=λh B d q P hu f H=>by have⟨c1,D,_,X,_⟩:=g.1.n;have a1:=(p.block _ (Qb D).1).T D;rw[a1] at B;simp at B;subst B;have⟨c2,b9,S⟩:=X d q;rw[b9] at hu;injection hu with hu;subst hu;exact(B_ S f H).2
  have⟨a1,D,c8,_⟩:=y.n
  have S:t.cell? (J a.1.size i)=some (a1[i]' O):=by
   rw[G_ i _ 25 (0,0) D]
   grind
  have e8:=R_ i _ _ D;generalize (a1[i]' O)=f6 at S;have e2:K (_/\Below _ a (t.setCell (J a.1.size i) Q)):=⟨y.put F a5 (λf H=>(B_ l f H).1) U,a7.setCell x_ _⟩
  obtain⟨X,f5,e5,rfl⟩:∃b9 d5 h,Q=.slice b9 d5 h:=by
   rcases l.2 with⟨rfl,_⟩|⟨c6,c1,c2,rfl,_⟩
   omega
   grind
  clear y a7 a5 D c8 p l U;go_wp2;go_roundw
  grind
  exact z_
 have f:¬i<(c:Int):=O;have d:i=c:=O;subst d;go_wp2;go_ret;refine⟨a.1.size,by rw[u];rfl,x_,?_,e.2⟩;rw[u];exact e.1
def vy f p a b (c:On b f p a)(g:0<a.g.length)(j:a.g.length<=1000)(k:∀d,d<a.g.length->0<(a.g.getD d Db).fs.length/\(a.g.getD d Db).fs.length<=1000):C_ 55 #[P_ f] b λe h=>ZmO b a e h:=by
 have s:=n_ 0 c.g;have⟨w,v,x,t,r,o,i⟩:=c.h;have n:=pz _ _ _ _ _ _ o a b i g j k;clear c i k g j;refine v_ ?_;go_wp2_with fail
 apply n.m;rintro e y ⟨q,rfl,h⟩;have m:=Y h;clear h;generalize l:a.g.length=u at *;go_wp2;go_ret;exact⟨q,by rw[l];rfl,l ▸ m⟩
theorem Ru f e:∀a d,(Fo f e d a).Sublist (a.map λb=>b.v)
 |[],_=>by simp[Fo]
 |b::c,d=>by unfold Fo;split;exact List.Sublist.cons_cons _ (Ru _ _ c _);exact(Ru _ _ c _).cons _
def Rt{tot bins B}:∀c b,(∀a∈c,By bins tot a.g<=B)->b<=B+1->(Fo tot bins b c).length<=B+1-b
 |[],b,_,d=>by simp[Fo];omega
 | a ::g,b,e,d=>by
  have j:=e a s_;have f:=λi h=>e i (mem_cons_of_mem a h);unfold Fo;split
  ·have:=Rt g (By bins tot a.g+1) f O
   grind
  exact Rt g _ f d
def cz a b:(Bm a b).Sublist ((a.take (a.length-1)).map λc=>c.v):=by grind [Bm,Ru]
def ur{a}(c:Be a) b:(Bm a b).Pairwise (· < ·):=by apply Pairwise.sublist ((cz a _).T ((take_sublist _ _).map _));rw[pairwise_map];exact c.step.imp λd=>d.1
def zq{a}(d:Be a){b}(o:2<=b):(Bm a b).length<b:=by
 unfold Bm;split;simp;omega;rename_i f;split
 ·grind
 have p:=d.at (i:=a.length-1) O;have r:Ae a=(a.getD (a.length-1) e0).g:=(by unfold Ae;rw[aC f]);have:=Rt (tot:=Ae a) (bins:=b) (B:=b-1) (a.take (a.length-1)) 1 (λm h=>?_) O;omega;obtain⟨c,k,rfl⟩:=Zjt h;rw[length_take] at k;have l:c<a.length-1:=O;have e:(a.take (a.length-1)).getD c e0=a.getD c e0:=w_;rw[e];have q:=(d.lt (i:=c) (j:=a.length-1) l O).2.2;unfold By;have g:_*(a.getD c e0).g<b*Ae a:=Int.mul_lt_mul_of_pos_left O O;have n:=Int.ediv_lt_of_lt_mul O g;omega
theorem sr a b {c d}(j:a.length<=200)(h:2<=d)(i:d<=32)(f:2<=c):(Ey a b c d).Pairwise (· < ·)/\(Ey a b c d).length<c:=by have g:((Ba a b).map Prod.fst).length<=2097152:=(by have:=Kb a b;simp;omega);have e:=(Sl h i _ ((Ba a b).map Prod.snd) g).1;exact⟨ur e _,zq e f⟩
structure Uf(e)(b:RS):Prop where
 k:∀d∈b.k,0<=d/\d<=99
 row:∀a∈b.row,(-1000000000<=a.num/\a.num<=1000000000)/\a.g.size<=8
 h:∀c,c<e->∀a∈b.a c,(-1000000000<=a.num/\a.num<=1000000000)/\a.g.size<=8
def Uf.start a:Uf a RS.start:=⟨by simp[RS.start],by simp[RS.start],by simp[RS.start]⟩
def Gt.E{b}(c:Gt b){a}(f:a.length<=8):(-1000000000<=(Hn b a).num/\(Hn b a).num<=1000000000)/\(Hn b a).g.size<=8:=by have d:=c.le;have e:=c.b;refine⟨?_,?_⟩;show -1000000000<=Sr b/\Sr b<=1000000000;unfold Sr;split<;>omega;show(strOfNums a).size<=8;have:(strOfNums a).size=a.length:=(by simp[strOfNums,ByteArray.size]);omega
def Uf.take{n o m d h i}(a:Uf n d)(e:Is n d)(q:Cr n o m d i=.ok h):Uf n h:=by
 unfold Cr at q;split at q
 ·cases q
 split at q
 ·split at q
  ·cases q
  injection q with q;subst q;exact⟨a.k,a.row,a.h⟩;injection q with q;subst q;exact⟨a.k,a.row,a.h⟩
 split at q;injection q with q;subst q;exact⟨a.k,a.row,a.h⟩;split at q
 ·injection q with q;subst q
  have j:∀c∈d.row++[Hn d.p d.g],(-1000000000<=c.num/\c.num<=1000000000)/\c.g.size<=8:=λc f=>by
   rcases mem_append.1 f with b|b
   exact a.row c b;simp only[mem_singleton] at b;rw[b];exact e.num.E e.g
  unfold He;split
  ·refine⟨λp k=>?_,s_,λl g c f=>?_⟩
   ·rcases mem_append.1 k with b|b
    exact a.k p b;simp only[mem_singleton] at b;rw[b];exact⟨e.d,e.e⟩
   simp only[g,if_true] at f
   rcases mem_append.1 f with b|b
   exact a.h l g c b
   grind
  exact⟨a.k,j,a.h⟩
 cases q
def Uf.a{a k f}(m:1<=a)(n:∀c,c<a->k c=false->0<=f c/\f c<=3):∀j {b d i},Uf a b->Is a b->Bt a k f b j i=.ok d->Uf a d
 |[],b,d,i,g,_,e=>by injection e with e;subst e;exact g
 | o::j,b,d,i,g,l,e=>by
  simp only[Bt] at e
  cases h:Cr a k f b o with
  |error q=>grind
  |ok p=>rw[h] at e;exact Uf.a m n j (g.take l h) (l.take m n h) e
structure ZhO(c):Prop where
 ok:ZhP c
 g:∀(b) (e) (d a),b.length<=200->2<=a->a<=16->Qv (c b e d a)/\(c b e d a).a=true/\(c b e d a).b<=16
def Zaa{f e g m h c d l b}(s:(∃a,a<e+1/\g a=true)->ZhO f)(t:∀a,a<e+1->g a=false->0<=m a/\m a<=3)(p:2<=c)(v:c<=16)(w:2<=d)(x:d<=32)(j:Bt (e+1) g m RS.start l 0=.ok b):ua f e g h c d b:=by
 have n:=Is.a O t l (Is.start (show 1<=e+1 by omega)) j;have o:=Uf.a O t l (Uf.start _) (Is.start (show 1<=e+1 by omega)) j;refine⟨λk=>(s k).ok,λa q=>?_,o.h,o.k⟩;have r:(b.a a).length<=200:=(n.h a q) ▸ n.k
 cases k:g a with
 | true=>
  have i:Ck f true (h a) c d (b.a a) b.k=f (b.a a) b.k (h a) c:=(by simp[Ck]);rw[i];exact(s ⟨a,q,k⟩).g _ _ _ _ r p v
 | false=>
  have i:Ck f false (h a) c d (b.a a) b.k=⟨false,Ey (b.a a) b.k c d,[]⟩:=(by simp[Ck]);rw[i];have⟨u,y⟩:=sr (b.a a) b.k r w x p;refine⟨⟨u.imp λj=>O,?_,s_⟩,rfl,?_⟩
  ·grind
  show Kr false (Ey (b.a a) b.k c d).length 0<=16;simp[Kr];omega
def clF(b:List KS)(a:List (List Nat))(e:List Nat)(f g:Nat):Nat:=(range g).countP (λc=>sO b a f c&&e.any (λd=>sO b a d c))
def Zim b a d e c:clF b a d e (c+1)=clF b a d e c+(if(sO b a e c&&d.any (λf=>sO b a f c))=true then 1 else 0):=by unfold clF;rw[range_succ,countP_append,countP_singleton]
def Zm2 b a d e c:clF b a d e c<=c:=by have:=countP_le_length (p:=λf=>sO b a e f&&d.any (λg=>sO b a g f)) (l:=range c);rw[length_range] at this;exact this
def Zh0{a:List Nat}{b}(d:b<a.length) c:(a.take (b+1)).any c=((a.take b).any c||c (a.getD b 0)):=by
 rw[Qi d,any_append]
 grind
def Ov{a:List Nat}{b}(c:b<a.length):a.getD b 0∈a:=w_
def ZdK F P h M g z b c d j (m:MkV j F P h c d)(A:NuV j z b)(T:g<c.length)(B:∀e∈b,e<c.length)(a6:h<=1000)(W:b.length<=1000):C_ 291 #[P_ F,V z b.length M,I g] j λn a=>n=.returned (.int .i64 (clF c d b g h:Nat))/\∃i,a=j.drewN i:=by
 have y:=Y m;have w:=T_ A B;have a8:=m.j;have a3:=m.i.h;have⟨k,p⟩:=Y_ b.length;have x:=Y p;rw[p] at W ⊢;clear m A B p;refine v_ ?_;go_wp2_with fail
 go_loopw [7,8] (λl f n=>∃(a i:Nat),f=.int .i64 a/\a<=h/\l=.int .i64 (clF c d b g a:Nat)/\n=j.drewN i) (λ_ f _=>h-(intOf f).toNat)
 exact⟨0,0,rfl,r_,rfl,rfl⟩;obtain⟨a,i,rfl,a7,rfl,t⟩:=hrel;subst t
 by_cases D:a<h
 ·have Q:a<(h:Int):=O;have v:=Y (Zim c d b g a);have a4:=Zm2 c d b g a;generalize clF c d b g a=N at *;go_wp2_with fail
  apply ((y.drewN _).a T D).m;rintro n a1 ⟨rfl,X,s⟩;have⟨G,r⟩:=Y_ (sO c d g a);have L:=Y r;rw[r];subst s;clear r;go_wp2_with fail
  go_loopw [10,11] (λo l q=>∃(f i:Nat),l=.int .i64 f/\f<=k/\o=.bool ((b.take f).any (λe=>sO c d e a))/\q=j.drewN i) (λ_ l _=>k-(intOf l).toNat)
  exact⟨0,i+X,rfl,r_,rfl,s_⟩;obtain⟨f,E,rfl,a5,rfl,t⟩:=hrel;subst t
  by_cases U:f<k
  ·have o:f<b.length:=x ▸ U;obtain⟨a9,rfl,a2⟩:=w.1 f o;have S:=w.2 _ (Ov o);have u:K ((b.take _).any (λe=>sO c d e a)=_):=Zh0 o _;generalize b.getD f 0=e at *;generalize (b.take f).any (λe=>sO c d e a)=l at *;have R:=F_ f k;go_wp2_with fail
   apply ((y.drewN _).a S D).m;rintro n a1 ⟨rfl,Z,s⟩;subst s;have⟨a0,q⟩:=Y_ (sO c d e a);have H:K ((b.take (f+1)).any (λe=>sO c d e a)=(l||a0)):=(by rw[<- q];exact u);rw[q];clear u q
   cases l<;>
    (go_wp2
     go_roundw;exact⟨f+1,E+Z,g_,O,by rw[H];rfl,s_⟩
     simp[intOf];omega)
  have R:¬f<(k:Int):=O;have o:b.take f=_:=aI (p_ x.out);rw[o];have q:K (clF c d b g (a+1)=N+(if(G&&b.any (λe=>sO c d e a))=true then 1 else 0)):=(by rw[<- L];exact v);clear v o;generalize b.any (λe=>sO c d e a)=l at *
  cases G<;>cases l<;>
   (go_wp2
    go_roundw;exact⟨a+1,E,g_,O,by rw[q];first|rfl|go_num,by first|rfl|simp⟩
    simp[intOf];omega)
 have Q:¬a<(h:Int):=O;obtain rfl:a=h:=O;go_wp2;go_ret;exact⟨rfl,_,rfl⟩
def Zd1{c}{a:List Nat}{b}(d:b<a.length):Bj c (a.take (b+1))=Bj c (a.take b)+(c.getD (a.getD b 0) Ai).a:=by
 unfold Bj;rw[Qi d,map_append,sum_append]
 grind
def Zkl{Ks fs}(b:∀a∈fs,(Ks.getD a Ai).a<=2002):Bj Ks fs<=2002*fs.length:=by
 induction fs with
 |nil=>simp[Bj]
 | cons a fs c=>
  grind [Bj]
def aq r a0 R z b c k (s:DkV k r a0 c)(m:NuV k z b)(t:∀d∈b,d<c.length)(X:b.length<=1000):C_ 137 #[P_ r,V z b.length R] k (U_ (.int .i64 (Bj c b:Nat)) k):=by
 have y:=Y s;have w:=T_ m t
 have P:=Y (λa e=>by
  have:=Zkl (Ks:=c) (fs:=b.take a) (λd m=>by
   have e:=s.x d (t d (aL m));have:=e.a;have:=e.1;have:=e.2.1
   omega)
  rw[length_take,Nat.min_eq_left e] at this
  exact this)
 have⟨i,v⟩:=Y_ b.length;have x:=Y v;rw[v] at X ⊢;clear s m t v;refine v_ ?_;go_wp2_with fail
 go_loopw [5,6] (λf e g=>∃a:Nat,e=.int .i64 a/\a<=i/\f=.int .i64 (Bj c (b.take a):Nat)/\E_ k g) (λ_ e _=>i-(intOf e).toNat)
 exact⟨0,rfl,r_,rfl,y_⟩;obtain⟨a,rfl,e,rfl,h⟩:=hrel
 by_cases W:a<i
 ·have u:a<b.length:=x ▸ W;obtain⟨a3,rfl,A⟩:=(w.1.below h) a u;have L:=w.2 _ (Ov u);have⟨j,S,n,p,o,q,B,D,E,F,G⟩:=(y.below h).A L;have Q:K (Bj c _=_):=Zd1 u;have f:=y.x _ L;have M:=f.a;have a8:=P a O;have H:=Ke n o (c.getD (b.getD a 0) Ai).e.g.length (c.getD (b.getD a 0) Ai).e.c.length p q (c.getD (b.getD a 0) Ai).e.a (c.getD (b.getD a 0) Ai).d
  have N:K (∀l:World,C_ 189 #[.agg #[.bool (c.getD (b.getD a 0) Ai).e.a,V n (c.getD (b.getD a 0) Ai).e.g.length p,V o (c.getD (b.getD a 0) Ai).e.c.length q,I (c.getD (b.getD a 0) Ai).d]] l (U_ (.int .i64 (c.getD (b.getD a 0) Ai).a) l)):=λl=>by rw[<- M];exact H l f.1 f.2.1
  have a9:(c.getD (b.getD a 0) Ai).a<=2002:=oj_ f.1 f.2.1;clear H M f;generalize (c.getD (b.getD a 0) Ai).a=Z at *;generalize (c.getD (b.getD a 0) Ai).e.a=a5 at *;generalize (c.getD (b.getD a 0) Ai).e.g.length=a1 at *;generalize (c.getD (b.getD a 0) Ai).e.c.length=a2 at *;generalize (c.getD (b.getD a 0) Ai).d=T at *;generalize b.getD a 0=d at *;generalize Bj c (b.take a)=a4 at *;have U:=F_ a i;have a7:=F_ d c.length;have b0:_=(a4:Int)+(Z:_):=As O O;go_upto_region 5 with fail
  go_region_held3 (λg=>D_ g r 1 (L_ j c.length S)/\D_ g a3 a (I (d:Nat))/\D_ g j (d*4) (.bool a5)/\D_ g j (d*4+1) (V n a1 p)/\D_ g j (d*4+2) (V o a2 q)/\D_ g j (d*4+3) (I (T:Nat))) (first|exact⟨B,A,D,E,F,G⟩|exact⟨Ag aA B,Ag aA A,Ag aA D,Ag aA E,Ag aA F,Ag aA G⟩) (first|(go_at_call 189;apply (N _).m;rintro a6 b1 ⟨rfl,g⟩;have aA:Below wr.1.size _ _:=y_.drew.T g))
  go_wp2;go_roundw;exact⟨a+1,g_,O,by rw[Q];go_num,h.T (aA.m h.size)⟩;exact z_
 have U:¬a<(i:Int):=O;have f:b.take a=_:=aI (p_ x.out);rw[f];go_wp2;go_ret;exact⟨rfl,h⟩
abbrev Dd:Value:=N_
structure Mb(f:World)(e)(g)(c)(b:List (List Int)):Prop where
 row:f.ownsRow e 25 1 g b.length c
 j:∀a,a<b.length->Ad f e (c.getD a Dd) (b.getD a [])
 apart:∀a d,a<d->d<b.length->Bl (c.getD a Dd) (c.getD d Dd)
section
variable {w w':World} {base:Nat} {v v':Value} {vs:List Value} {Ls:List (List Int)}
def Mb.len(a:Mb w base v vs Ls):vs.length=Ls.length:=p_ a.row.1
def Mb.nil w base:Mb w base (N_) [] []:=⟨rn_,λc a=>by simp at a,λc d _ b=>by simp at b⟩
def Mb.p{K}(b:Mb w base v vs Ls)(j:Aa K w w')(i:∀a k h,w.1[a]? =some (O_ k h)->h=25∨h=3->base<=a->¬K a):Mb w' base v vs Ls:=
 ⟨j.row b.row (λa c=>by obtain⟨d,e⟩:=Ac b.row c;exact i a d _ e (.inl rfl) (B_ b.row a c).1),λg f=>j.row (b.j g f) (λa c=>by obtain⟨d,e⟩:=Ac (b.j g f) c;exact i a d _ e (.inr rfl) (B_ (b.j g f) a c).1),b.apart⟩
def Mb.below(a:Mb w base v vs Ls)(b:E_ w w'):=a.p (.a (S:=λ_=>False) b) (λ_ _ _ _ _ _=>id)
def Mb.shape(c:Mb w base v vs Ls):∃a b,v=.slice a Ls.length b:=by
 rcases c.row.2 with⟨rfl,g⟩|⟨f,d,e,rfl,_⟩
 ·grind
 grind
def Mb.m{c}(a:Mb w base v vs Ls)(d:c<=base):Mb w c v vs Ls:=by
 refine⟨⟨a.row.1,?_⟩,λj i=>(a.j j i).m d,a.apart⟩
 rcases a.row.2 with b|⟨g,e,f,b,h,k⟩
 exact .inl b;exact .inr ⟨g,e,f,b,aG d h,k⟩
def Mb.at(d:Mb w base v vs Ls){i}(n:i<Ls.length):∃a h b k,v=L_ a Ls.length h/\w.cell? (J a i)=some (.slice b (Ls.getD i []).length k)/\(∀e,w.frozen? (J a e)=false)/\vs.getD i Dd=.slice b (Ls.getD i []).length k/\(∃c,w.1[a]? =some (.cells c 25 (0,0)))/\base<=a:=by
 rcases d.row.2 with⟨_,o⟩|⟨l,j,c,rfl,m,g,p,_⟩
 omega;have⟨b,k,f⟩:=(d.j i n).shape;refine⟨l,j,b,k,rfl,?_,λe=>R_ e _ _ g,f,⟨c,g⟩,m⟩;rw[World.ownsRow.cellAt d.row i O,<- f]
 grind
def Mb.E{c L}(d:Mb w base v vs Ls)(i:Ad w base c L)(m:∀a,a<Ls.length->Bl (vs.getD a Dd) c)(g:w.grownBy w' v.ownBlock)(o:w'.ownsRow base 25 1 v' (Ls.length+1) (vs++[c])):Mb w' base v' (vs++[c]) (Ls++[L]):=by
 have n:=d.len;have e:∀a,a<Ls.length->(vs++[c]).getD a Dd=vs.getD a Dd/\(Ls++[L]).getD a []=Ls.getD a []:=w_;have h:(vs++[c]).getD Ls.length Dd=c/\(Ls++[L]).getD Ls.length []=L:=w_;refine⟨w_,λa j=>?_,λa f k l=>?_⟩
 ·rw[Qe,length_singleton] at j
  by_cases b:a<Ls.length
  rw[(e a b).1,(e a b).2];exact Ad.kept (d.j a b) g (Ao d.row (d.j a b) C);obtain rfl:a=Ls.length:=O;rw[h.1,h.2];exact Ad.kept i g (Ao d.row i C)
 rw[Qe,length_singleton] at l;rw[(e a O).1]
 by_cases b:f<Ls.length
 rw[(e f b).1];exact d.apart a f k b
 grind
def Mb.grow{j o b d i}(c:Mb w base (L_ j Ls.length o) vs Ls)(r:b<Ls.length)(q:w.grownBy w' (vs.getD b Dd).ownBlock)(v:Ad w' base d i)(u:d.ownBlock=(vs.getD b Dd).ownBlock∨d.ownBlock=some w.1.size):Mb (w'.setCell (J j b) d) base (L_ j Ls.length o) (vs.set b d) (Ls.set b i):=by
 have z:=c.len;have t:=World.ownsRow.kept c.row q (Ao (c.j b r) c.row C);have⟨x,s⟩:=Ac t (k:=j) rfl;have⟨y,_⟩:=World.ownsRow.stored t b d;refine⟨w_,λa m=>?_,λa f n e=>?_⟩
 ·rw[length_set] at m
  by_cases g:a=b
  subst g;have h:(vs.set a d).getD a Dd=d:=w_;have k:(Ls.set a i).getD a []=i:=w_;rw[h,k];exact Al v s C;have h:(vs.set b d).getD a Dd=vs.getD a Dd:=w_;have k:(Ls.set b i).getD a []=Ls.getD a []:=w_;rw[h,k];refine Al (Ad.kept (c.j a m) q ?_) s C
  rcases Nat.lt_or_gt_of_ne g with g|g
  exact(c.apart a b g r).s.a;exact(c.apart b a g m).a
 rw[length_set] at e;have g:∀k,k<Ls.length->k≠b->(vs.set b d).getD k Dd=vs.getD k Dd:=w_;have h:(vs.set b d).getD b Dd=d:=w_
 by_cases l:a=b
 subst l;rw[h,g f e O];exact Bl.b (c.apart a f n e) (c.j f e) u
 by_cases p:f=b
 subst p;rw[h,g a O l];exact(Bl.b (c.apart a f n e).s (c.j a O) u).s;rw[g a O l,g f e p];exact c.apart a f n e
end
def Mb.view{k n j t a}(c:Mb k n j t (a.map An)):LiV k j a:=by have⟨l,o,d⟩:=c.shape;rw[length_map] at d;refine⟨⟨l,o,d⟩,λb u=>?_⟩;have h:b<(a.map An).length:=w_;have⟨s,p,m,r,e,f,_,q,_⟩:=c.at h;have g:(a.map An).getD b []=An (a.getD b []):=w_;have i:=c.j b h;rw[q,g,Aj] at i;rw[g,Aj] at f;rw[length_map] at e;exact⟨s,p,m,r,e,f,i.e rfl⟩
structure fx(e)(d)(f)(c)(a):Prop where
 row:Wl e d 227 4 f (zipWith Bs a c)
 len:c.length=a.length
 j:∀b,b<a.length->Ad e d (c.getD b Ld).1 (a.getD b Ai).e.g/\Bi e d (c.getD b Ld).2 (a.getD b Ai).e.c
section
variable {w w':World} {base:Nat} {v v':Value} {kvs:List (Value×Value)} {Ks:List KS}
def fx.nil w base:fx w base (N_) [] []:=⟨Wl.nil _ _ _ _,rfl,λb a=>by simp at a⟩
def fx.a(a:fx w base v kvs Ks):(zipWith Bs Ks kvs).length=Ks.length:=by rw[length_zipWith,a.len,Nat.min_self]
def fx.p{K}(c:fx w base v kvs Ks)(n:Aa K w w')(i:∀b h a,w.1[b]? =some (O_ h a)->a=227∨a=3∨a=9->base<=b->¬K b):fx w' base v kvs Ks:=by have e:∀{a m l:Nat} {o:_} {p:_},w.ownsRow _ a m o l p->(a=227∨_=3∨a=9)->_:=λd k=>n.row d (λb f=>by obtain⟨g,j⟩:=Ac d f;exact i b g _ j k (B_ d b f).1);exact⟨⟨e c.row.row (.inl rfl),c.row.h⟩,c.len,λg f=>⟨e (c.j g f).1 (.inr (.inl rfl)),e (c.j g f).2 (.inr (.inr rfl))⟩⟩
def fx.below(a:fx w base v kvs Ks)(b:E_ w w'):=a.p (.a (S:=λ_=>False) b) (λ_ _ _ _ _ _=>id)
def fx.E{b c}(d:fx w base v kvs Ks)(l:Ad w base c.1 b.e.g)(m:Bi w base c.2 b.e.c)(k:w.grownBy w' v.ownBlock)(t:w'.ownsRow base 227 4 v' (Ks.length+1) ((zipWith Bs Ks kvs).flatten++Bs b c)):fx w' base v' (kvs++[c]) (Ks++[b]):=by
 have i:=d.len;refine⟨?_,by simp[i],λa o=>?_⟩;rw[zipWith_append i.s];exact d.row.E w_ rfl;have e:∀{r q n:Nat} {x:_} {s:_},w.ownsRow base r q x n s->_:=λj p=>World.ownsRow.kept j k (Ao d.row.row j p);rw[Qe,length_singleton] at o
 by_cases h:a<Ks.length
 have f:(kvs++[c]).getD a Ld=kvs.getD a Ld:=w_;have g:(Ks++[b]).getD a Ai=Ks.getD a Ai:=w_;rw[f,g];exact⟨e (d.j a h).1 C,e (d.j a h).2 C⟩;obtain rfl:a=Ks.length:=O;have f:(kvs++[c]).getD Ks.length Ld=c:=w_;have g:(Ks++[b]).getD Ks.length Ai=b:=(by simp[getD]);rw[f,g];exact⟨e l C,e m C⟩
def fx.view(a:fx w base v kvs Ks):FeV w v Ks:=by have⟨f,j,d⟩:=a.row.shape;rw[a.a] at d;refine⟨⟨f,j,d⟩,λi c=>?_⟩;have⟨q,k,e,_,_,_,_,b⟩:=a.row.at (i:=i) (a.a ▸ c);rw[a.a] at e;have⟨g,l,n⟩:=(a.j i c).1.shape;have⟨h,m,o⟩:=(a.j i c).2.a;have p:(zipWith Bs Ks kvs).getD i []=Bs (Ks.getD i Ai) (kvs.getD i Ld):=(by simp[getD,getElem?_zipWith,c,show i<kvs.length by rw[a.len];exact c]);rw[p] at b;exact⟨q,k,g,l,h,m,e,b 0 O _ rfl,b 1 O _ (congrArg some n),b 2 O _ (congrArg some o),b 3 O _ rfl⟩
end
def Nh(g:World)(a b:Nat)(e c d f:Value):Prop:=g.1[a]? =some (O_ #[I b,e,c,d,f] 142)
structure MkX(b:World)(e m f g:Nat)(h o p q i j)(l)(k)(d)(c:List (List Nat))(n):Prop where
 r:b.1[m]? =some (O_ #[P_ f,i,j] 331)
 v:Nh b f g h o p q
 z:fx b e h l d
 w:Mb b e i k (c.map An)
 y:Ad b e j (An n)
 len:c.length=d.length
 u:∀a,a<c.length->(c.getD a []).length=g
 x:∀a,a<d.length->Ue (d.getD a Ai)
section
variable {w w':World} {base a db n:Nat} {vF vB vC vX vb d e f g:Value} {kvs:List (Value×Value)} {b:List Value} {Ks:List KS} {Bb:List (List Nat)} {c:List Nat}
def MkX.view(e:MkX w base a db n vF vB vC vX vb d kvs b Ks Bb c):MkV w a db n Ks Bb:=
 ⟨G_ 0 _ 331 (0,0) e.r,⟨vb,G_ 1 _ 331 (0,0) e.r,e.w.view⟩,⟨G_ 0 _ 142 (0,0) e.v,⟨vF,G_ 1 _ 142 (0,0) e.v,e.z.view⟩,e.x⟩,e.len,e.u⟩
def MkX.h(h:MkX w base a db n vF vB vC vX vb d kvs b Ks Bb c)(m:Aa (λs=>s=db) w w')(r:Nh w' db n vF e f g):MkX w' base a db n vF e f g vb d kvs b Ks Bb c:=by
 have o:∀i l k,H_ w i l k->k≠142->¬i=db:=λi l k j p t=>by
  have q:=h.v;unfold Nh at q
  grind
 exact⟨m.g h.r (o _ _ _ h.r C),r,h.z.p m (λi l k j p _=>o i _ _ j w_),h.w.p m (λi l k j p _=>o i _ _ j w_),
  m.row h.y (λi j=>by obtain⟨q,u⟩:=Ac h.y j;grind),h.len,h.u,h.x⟩
end
structure Wg(a wr)(b j)(m e l n f o)(d)(c:List (List Nat))(g)(h):Prop where
 u:Aa (λk=>k=b) a wr
 v:Nh wr b j m e l n
 r:Mb wr a.1.size e d (c.map An)
 cf:Ad wr a.1.size f (An g)
 B:∀i,i<c.length->Bl f (d.getD i Dd)
 p:Ej wr a.1.size o h
 lt:b<a.1.size
section
variable {w wr c:World} {db n:Nat} {vF vB vC vX e f:Value} {bvs:List Value} {Fs:List (List Nat)} {a:List Nat} {d:List Bool}
def Wg.below(b:Wg w wr db n vF vB vC vX e f bvs Fs a d)(g:E_ wr c):Wg w c db n vF vB vC vX e f bvs Fs a d:=by have h:=Aa.a (S:=λ_=>False) g;exact⟨b.u.below g,h.g b.v id,b.r.below g,b.cf.below g,b.B,h.row b.p (λ_ _=>id),b.lt⟩
def Nh.lt(a:Nh w db n vF vB vC vX):db<w.1.size:=(Qb a).1
def Nh.o(d:Nh w db n vF vB vC vX){a b:Nat}{c}(f:H_ w a c b)(g:b≠142):a≠db:=λe=>by
 unfold Nh at d
 grind
def Wg.i{c j i h b}(f:Wg w wr db n vF vB vC vX e (L_ c h j) bvs Fs a d)(q:d.length=h):Wg w (wr.setCell (J c i) (.bool b)) db n vF vB vC vX e (L_ c h j) bvs Fs a (d.set i b):=by
 have⟨t,v⟩:=Ac f.p (k:=c) rfl;have x:=(B_ f.p c rfl).1;have m:Aa _ _ (wr.setCell _ (.bool b)):=(Aa.refl (λg=>g=c) _).setCell (p:=(J c i)) (λ_=>rfl) _;have r:∀g k o,H_ wr g k o->o≠4->¬g=c:=w_
 have s:Ej (wr.setCell (J c i) (.bool b)) w.1.size (L_ c h j) (d.set i b):=(by have l:=f.p;unfold Ej at l ⊢;rw[q] at l;rw[length_set,q,map_set];exact(World.ownsRow.stored l i _).1);exact⟨f.u.setCell (p:=(J c i)) (λl=>by simp at l;omega) _,m.g f.v (r _ _ _ f.v C),f.r.p m (λg k o l u _=>r g _ _ l w_),m.row f.cf (λg l=>by obtain⟨k,u⟩:=Ac f.cf l;grind),f.B,s,f.lt⟩
def Wg.grow{h p b i r}(g:Wg w wr db n vF (L_ h Fs.length p) vC vX e f bvs Fs a d)(v:b<Fs.length)(k:wr.grownBy c (bvs.getD b Dd).ownBlock)(B:Ad c w.1.size i (An r))(z:i.ownBlock=(bvs.getD b Dd).ownBlock∨i.ownBlock=some wr.1.size):Wg w (c.setCell (J h b) i) db n vF (L_ h Fs.length p) vC vX e f (bvs.set b i) (Fs.set b r) a d:=by
 have x:b<(Fs.map An).length:=w_;have o:=g.r.j b x;have D:=(Aa.refl _ _).grown k (λj l _=>l);have A:Mb wr w.1.size (L_ h (Fs.map An).length p) bvs (Fs.map An):=(by rw[length_map];exact g.r);have u:=A.grow x k B z;rw[length_map] at u;have m:∃s,H_ c h s 25:=by have j:=World.ownsRow.kept g.r.row k (Ao o g.r.row C);exact Ac j (k:=h) rfl
 obtain⟨s,m⟩:=m;have F:=(B_ g.r.row h rfl).1;have t:Nh _ _ n _ _ _ _:=D.g g.v (λl=>by obtain⟨q,j⟩:=Ac o l;exact g.v.o j C rfl);have E:Aa _ _ (c.setCell _ i):=(Aa.refl (λj=>j=h) _).setCell (p:=(J h b)) (λ_=>rfl) _;refine⟨(g.u.grown k (λj l q=>p_ (B_ o j l).1)).setCell (p:=(J h b)) (λq=>by simp at q;omega) _,E.g t (λl=>t.o m C l.s),map_set ▸ u,?_,λj y=>?_,?_,g.lt⟩;exact Al (Ad.kept g.cf k ((g.B b v).s.a)) m C
 ·rw[length_set] at y
  by_cases l:j=b
  subst l;have q:(bvs.set j i).getD j Dd=i:=gh_ g.r.len;rw[q];exact(Bl.b (g.B j v).s g.cf z).s;have q:(bvs.set b i).getD j Dd=bvs.getD j Dd:=w_;rw[q];exact g.B j y
 exact Al (World.ownsRow.kept g.p k (Ao o g.p C)) m C
def Wg.g{c o g m h}(b:Wg w wr db n vF vB vC vX (L_ c m o) f bvs Fs a d)(v:a.length=m):Wg w (wr.setCell (J c g) (I (h:Nat))) db n vF vB vC vX (L_ c m o) f bvs Fs (a.set g h) d:=by
 have⟨y,z⟩:=Ac b.cf (k:=c) rfl;have A:=(B_ b.cf c rfl).1;have k:Aa _ _ (wr.setCell _ (I (h:_))):=(Aa.refl (λe=>e=c) _).setCell (p:=(J c g)) (λ_=>rfl) _;have x:∀j l s,H_ wr j l s->s≠3->¬j=c:=w_;have q:=(Ad.put b.cf (k:=g) (by rw[Aj];exact v.s) (h:Int)).1;have e:(An a).set g h=An (a.set g h):=(by unfold An;rw[map_set]);rw[e] at q
 have t:Mb _ _ _ _ _:=
  ⟨k.row b.r.row (λj i=>by obtain⟨l,r⟩:=Ac b.r.row i;grind),λr u=>k.row (b.r.j r u) (λj i e=>by
   have:=b.B r w_;subst e
   rcases this with e|e|e
   simp[ownBlock] at e
   ·grind
   exact e (by rw[i];rfl)),b.r.apart⟩
 exact⟨b.u.setCell (p:=(J c g)) (λi=>by simp at i;omega) _,k.g b.v (x _ _ _ b.v C),t,q,b.B,k.row b.p (λj i=>by obtain⟨l,r⟩:=Ac b.p i;grind),b.lt⟩
def Wg.b{h m L}(b:Wg w wr db n vF vB vC vX e f bvs Fs a d)(t:Ad wr w.1.size h (An L))(r:∀g,g<Fs.length->Bl (bvs.getD g Dd) h)(y:Bl e h)(j:wr.grownBy c vB.ownBlock)(u:c.ownsRow w.1.size 25 1 m (Fs.length+1) (bvs++[h])):Wg w (c.setCell (J db 2) m) db n vF m vC vX e f (bvs++[h]) (Fs++[L]) a d/\Nh c db n vF vB vC vX:=by
 have v:=(Aa.refl _ _).grown j (λl k _=>k);have i:Nh _ _ n _ _ _ _:=v.g b.v (λk=>by obtain⟨p,l⟩:=Ac b.r.row k;exact b.v.o l C rfl);have q:=b.r.E (L:=An L) t (λg o=>r g w_) j (by rw[length_map];exact u);have x:Aa _ _ (c.setCell _ m):=(Aa.refl (λl=>l=db) _).setCell (p:=(J db 2)) (λ_=>rfl) _;have s:=b.r.len;rw[length_map] at s;refine⟨⟨(b.u.grown j (λl k o=>p_ (B_ b.r.row l k).1)).setCell (p:=(J db 2)) (λ_=>rfl) _,ht_ 2 _ _ _ i,?_,?_,λg o=>?_,?_,b.lt⟩,i⟩;rw[map_append];exact q.p x (λl p A k z _=>i.o k w_);exact Al (Ad.kept b.cf j (Ao b.r.row b.cf C)) i C
 ·rw[Qe,length_singleton] at o
  by_cases k:g<Fs.length
  have l:(bvs++[h]).getD g Dd=bvs.getD g Dd:=w_;rw[l];exact b.B g k
  grind
 exact Al (World.ownsRow.kept b.p j (Ao b.r.row b.p C)) i C
def Wg.h{i}{k:Nat}(b:Wg w wr db n vF vB vC vX e f bvs Fs a d)(g:wr.grownBy c e.ownBlock)(q:Ad c w.1.size i (An a++[(k:Int)]))(m:i.ownBlock=e.ownBlock∨i.ownBlock=some wr.1.size):Wg w c db n vF vB vC vX i f bvs Fs (a++[k]) d:=by have o:=(Aa.refl _ _).grown g (λj h _=>h);have l:Nh _ _ n _ _ _ _:=o.g b.v (λh=>by obtain⟨p,j⟩:=Ac b.cf h;exact b.v.o j C rfl);refine⟨b.u.grown g (λj h p=>p_ (B_ b.cf j h).1),l,⟨World.ownsRow.kept b.r.row g (Ao b.cf b.r.row C),λh j=>Ad.kept (b.r.j h j) g (b.B h w_).a,b.r.apart⟩,by unfold An at *;grind,λh j=>Bl.b (b.B h j) (b.r.j h w_) m,World.ownsRow.kept b.p g (Ao b.cf b.p C),b.lt⟩
end
def XsV(e:World)(f:Value)(b:List XS):Prop:=(∃g d,f=.slice g b.length d)/\∀a,a<b.length->∃c d,f=L_ c b.length d/\e.cell? (J c (a*3))=some (I (b.getD a Di).row)/\e.cell? (J c (a*3+1))=some (I (b.getD a Di).f)/\e.cell? (J c (a*3+2))=some (I (b.getD a Di).i)
def XsV.below{e f d b}(c:XsV e d b)(a:E_ e f):XsV f d b:=⟨c.1,λm l=>by
 have⟨n,g,h,i,j,k⟩:=c.2 m l
 exact⟨n,g,h,Ag a i,Ag a j,Ag a k⟩⟩
structure DaV(b)(c h)(f)(e d)(g):Prop where
 i:DkV b c h f
 j:∃a,b.cell? (J c 2)=some a/\LiV b a e
 k:∃a,b.cell? (J c 3)=some a/\LiV b a d
 l:∃a,b.cell? (J c 4)=some a/\XsV b a g
def DaV.below{i j g h e d c f}(b:DaV i g h e d c f)(a:E_ i j):DaV j g h e d c f:=by have⟨q,k,n⟩:=b.j;have⟨r,l,o⟩:=b.k;have⟨s,m,p⟩:=b.l;exact⟨b.i.below a,⟨q,Ag a k,n.below a⟩,⟨r,Ag a l,o.below a⟩,⟨s,Ag a m,p.below a⟩⟩
structure pj(f)(d:List KS)(b c:List (List Nat)):Prop where
 len:c.length=b.length
 p:b.length<=1000
 u:∀a,a<c.length->(c.getD a []).length=f
 val:∀a,a<c.length->∀g,(c.getD a []).getD g 0<=1000000
 A:∀a,a<b.length->(b.getD a []).length<=1000
 n:∀a,a<b.length->∀e∈b.getD a [],e<d.length
def Yn(a:List KS):List Nat->Nat->Option (Nat×Nat)
 |[],_=>none
 |b::d,c=>if c<(a.getD b Ai).a then some (b,c) else Yn a d (c-(a.getD b Ai).a)
def Nj(b:List KS)(c:List Nat)(a:Nat):Option (Nat×Nat):=if a=0 then none else Yn b c (a-1)
def pi:Option (Nat×Nat)->Int×Int
  |some a=>(a.1,a.2)
  |none=>(-1,0)
def Gn(d:List KS)(c b:List (List Nat))(a e:Nat):Option (Nat×Nat):=Nj d (c.getD a []) ((b.getD a []).getD e 0)
def Zkn{Ks}{a:List Nat}{b v}(d:b<a.length):Yn Ks (a.drop b) v=if v<(Ks.getD (a.getD b 0) Ai).a then some (a.getD b 0,v) else Yn Ks (a.drop (b+1)) (v-(Ks.getD (a.getD b 0) Ai).a):=by have c:a.getD b 0=a[b]:=w_;rw[aN d,c];rfl
def ao v z d h b f k b6 A (w:DaV A v z b f k b6)(i:pj z b f k)(x:d<f.length)(c9:h<z):C_ 190 #[P_ v,I d,I h] A (U_ (.tuple #[.int .i64 (pi (Gn b f k d h)).1,.int .i64 (pi (Gn b f k d h)).2]) A):=by
 have⟨l,B⟩:=ez_ (Gn b f k d h);rw[B];have⟨e8,b9,a3⟩:=w.j;have⟨e9,c0,a4⟩:=w.k;have y:d<k.length:=i.len ▸ x;obtain⟨e7,d6,d5,e6,rfl,U,b0⟩:=a4.2 d y;obtain⟨b2,b7,d4,d0,rfl,T,a9⟩:=a3.2 d x;rw[i.u d y] at U;obtain⟨d8,rfl,c2⟩:=b0 h ((i.u d y) ▸ c9);have e1:=i.val d y h;have c7:=i.A d x;have t:K (l=Nj _ _ _):=B.s;have Q:=T_ a9 (i.n d x);have N:=Y w.i;have e3:=i.len;clear w i a9 b0 a3 a4 B;generalize (k.getD d []).getD h 0=D at *;generalize f.getD d []=c at *;have⟨p,M⟩:=Y_ c.length;have P:=Y M;rw[M] at T c7;clear M;have d7:=F_ d f.length;have d9:=F_ h z;refine v_ ?_
 by_cases a5:D=0
 ·subst a5;have j:K (l=none):=(by rw[t];rfl);clear t;go_wp2;go_ret2
  exact⟨by rw[j];rfl,y_⟩
 obtain⟨m,rfl⟩:∃m,D=m+1:=⟨D-1,O⟩;have R:K (l=Yn b c m):=(by rw[t];rfl);have c3:i64.wrap ((m+1:Nat)-1)=m:=(by rw[As O O];omega);have c6:¬(m:Int)<0:=O;clear t a5;go_wp2_with fail
 go_loopw [8,9] (λj g n=>∃a e:Nat,g=.int .i64 a/\a<=p/\j=.int .i64 e/\e<=1000000/\K (l=Yn b (c.drop a) e)/\E_ A n) (λ_ g _=>p-(intOf g).toNat)
 exact⟨0,m,rfl,r_,rfl,O,R,y_⟩;clear R c3 c6 c2 U c0;obtain⟨a,e,rfl,e2,rfl,e5,s,g⟩:=hrel;have b3:=Ag g b9;have b4:=Ag g T
 by_cases c8:a<p
 ·have L:a<c.length:=P ▸ c8;obtain⟨b1,rfl,W⟩:=(Q.1.below g) a L;have a7:=Q.2 _ (Ov L);have S:=Y (Zkn (Ks:=b) (v:=e) L);have⟨r,b8,E,G,F,H,X,Z,a0,a1,a2⟩:=(N.below g).A a7;have o:=N.x _ a7;have a6:=Ke E F (b.getD (c.getD a 0) Ai).e.g.length (b.getD (c.getD a 0) Ai).e.c.length G H (b.getD (c.getD a 0) Ai).e.a (b.getD (c.getD a 0) Ai).d
  have b5:K (∀u:World,C_ 189 #[.agg #[.bool (b.getD (c.getD a 0) Ai).e.a,V E (b.getD (c.getD a 0) Ai).e.g.length G,V F (b.getD (c.getD a 0) Ai).e.c.length H,I (b.getD (c.getD a 0) Ai).d]] u (U_ (.int .i64 (b.getD (c.getD a 0) Ai).a) u)):=λu=>by rw[<- o.a];exact a6 u o.1 o.2.1
  have e4:(b.getD (c.getD a 0) Ai).a<=2002:=(by have:=o.a;have:=o.1;have:=o.2.1;omega);clear a6 o;generalize (b.getD (c.getD a 0) Ai).a=q at *;generalize (b.getD (c.getD a 0) Ai).e.a=d3 at *;generalize (b.getD (c.getD a 0) Ai).e.g.length=d1 at *;generalize (b.getD (c.getD a 0) Ai).e.c.length=d2 at *;generalize (b.getD (c.getD a 0) Ai).d=c1 at *;generalize c.getD a 0=n at *;have c5:=F_ a p;have e0:=F_ n b.length;go_upto_region 7 with fail
  go_region_held3 (λj=>D_ j v 1 (L_ r b.length b8)/\D_ j v 2 (L_ b2 f.length b7)/\D_ j b2 d (L_ b1 p d0)/\D_ j b1 a (I (n:Nat))/\D_ j r (n*4) (.bool d3)/\D_ j r (n*4+1) (V E d1 G)/\D_ j r (n*4+2) (V F d2 H)/\D_ j r (n*4+3) (I (c1:Nat))) (first|exact⟨X,b3,b4,W,Z,a0,a1,a2⟩|exact⟨Ag aA X,Ag aA b3,Ag aA b4,Ag aA W,Ag aA Z,Ag aA a0,Ag aA a1,Ag aA a2⟩) (first|(go_at_call 189;apply (b5 _).m;rintro a8 c4 ⟨rfl,j⟩;have aA:Below wr.1.size _ _:=y_.drew.T j))
  by_cases a8:e<q
  ·have j:K (l=some (n,e)):=(by show _=_;rw[s,S,aD a8]);have c4:e<(q:Int):=O;go_wp2;go_ret2
   exact⟨by rw[j];rfl,g.T (aA.m g.size)⟩
  have j:K (l=Yn b (c.drop (a+1)) (e-q)):=(by show _=_;rw[s,S,aC a8]);have c4:¬e<(q:Int):=O;go_wp2;go_roundw;exact⟨a+1,e-q,g_,O,g_,O,j,g.T (aA.m g.size)⟩;exact z_
 have c5:¬a<(p:Int):=O;have j:K (l=none):=(by show _=_;rw[s,drop_of_length_le (p_ P.out)];rfl);clear s;go_wp2;go_ret2
 exact⟨by rw[j];rfl,g⟩
def MaB(e:World)(b a:Nat)(c d:Value):Prop:=e.1[b]? =some (O_ #[P_ a,c,d] 331)
def MaB.o{d b f h i}(g:MaB d b f h i){a c:Nat}{e}(k:H_ d a e c)(l:c≠331):a≠b:=λj=>by
 unfold MaB at g
 grind
structure MkY(b)(d l h m)(j o p q k c)(i)(g)(f)(e:List (List Nat))(n):Prop where
 r:MaB b l h k c
 v:Nh b h m j o p q
 z:fx b d j i f
 w:Mb b d k g (e.map An)
 y:Ad b d c (An n)
 u:∀a,a<e.length->Bl c (g.getD a Dd)
 x:∀a,a<f.length->Bl c (i.getD a Ld).1
section
variable {w w':World} {base a db n:Nat} {vF vB vC vX vb b f g e:Value} {kvs:List (Value×Value)} {c:List Value} {Ks:List KS} {Bb:List (List Nat)} {d:List Nat}
def MkY.below(e:MkY w base a db n vF vB vC vX vb b kvs c Ks Bb d)(f:E_ w w'):MkY w' base a db n vF vB vC vX vb b kvs c Ks Bb d:=by have g:=Aa.a (S:=λ_=>False) f;exact⟨g.g e.r id,g.g e.v id,e.z.below f,e.w.below f,e.y.below f,e.u,e.x⟩
def MkY.h(e:MkY w base a db n vF vB vC vX vb b kvs c Ks Bb d)(g:Bb.length=Ks.length)(i:∀f,f<Bb.length->(Bb.getD f []).length=n)(h:∀f,f<Ks.length->Ue (Ks.getD f Ai)):MkX w base a db n vF vB vC vX vb b kvs c Ks Bb d:=⟨e.r,e.v,e.z,e.w,e.y,g,i,h⟩
def MkY.A{k u}(e:MkY w base a db n vF vB vC vX vb b kvs c Ks Bb d)(x:Ad w base u.1 k.e.g)(y:Bi w base u.2 k.e.c)(B:Bl b u.1)(o:w.grownBy w' vF.ownBlock)(A:w'.ownsRow base 227 4 f (Ks.length+1) ((zipWith Bs Ks kvs).flatten++Bs k u)):MkY (w'.setCell (J db 1) f) base a db n f vB vC vX vb b (kvs++[u]) c (Ks++[k]) Bb d/\Nh w' db n vF vB vC vX/\MaB w' a db vb b:=by
 have r:=(Aa.refl _ w).grown o (λk h _=>h);have m:∀k,vF.ownBlock=some k->∃j,w.1[k]? =some (O_ j 227 _):=λk h=>Ac e.z.row.row h;have l:Nh _ _ n _ _ _ _:=r.g e.v (λg=>by obtain⟨j,p⟩:=m _ g;exact e.v.o p C rfl);have q:MaB _ _ _ _ _:=r.g e.r (λg=>by obtain⟨j,p⟩:=m _ g;exact e.r.o p C rfl);have p:Aa _ _ (w'.setCell _ f):=(Aa.refl (λk=>k=db) _).setCell (p:=(J db 1)) (λ_=>rfl) _;have v:=e.z.E x y o A;have t:=e.w.p r (λk j s h z _ g=>w_);have D:=e.z.len
 refine⟨⟨p.g q (λg=>l.o q C g),ht_ 1 _ _ _ l,v.p p (λk j s h m _=>l.o h w_),t.p p (λk j s h m _=>l.o h w_),Al (Ad.kept e.y o (Ao e.z.row.row e.y C)) l C,e.u,λi z=>?_⟩,l,q⟩;rw[Qe,length_singleton] at z
 by_cases g:i<Ks.length
 have s:(kvs++[u]).getD i Ld=kvs.getD i Ld:=w_;rw[s];exact e.x i g
 grind
def MkY.k{l B}(e:MkY w base a db n vF vB vC vX vb b kvs c Ks Bb d)(y:Ad w base l (An B))(z:∀f,f<Bb.length->Bl (c.getD f Dd) l)(E:Bl b l)(p:w.grownBy w' vb.ownBlock)(D:w'.ownsRow base 25 1 g (Bb.length+1) (c++[l])):MkY (w'.setCell (J a 1) g) base a db n vF vB vC vX g b kvs (c++[l]) Ks (Bb++[B]) d/\MaB w' a db vb b:=by
 have r:=(Aa.refl _ w).grown p (λj i _=>i);have o:∀j,_=some j->_:=λj i=>Ac e.w.row i;have s:Nh _ _ n _ _ _ _:=r.g e.v (λh=>by obtain⟨m,q⟩:=o _ h;exact e.v.o q C rfl);have k:MaB _ _ _ _ _:=r.g e.r (λh=>by obtain⟨m,q⟩:=o _ h;exact e.r.o q C rfl);have q:Aa _ _ (w'.setCell _ g):=(Aa.refl (λj=>j=a) _).setCell (p:=(J a 1)) (λ_=>rfl) _;have x:=e.z.p r (λj m u i t _ h=>w_);have v:=e.w.E (L:=An B) y (λf t=>z f w_) p (by rw[length_map];exact D);have A:=e.w.len;rw[length_map] at A;refine⟨⟨ht_ 1 _ _ _ k,q.g s (λh=>k.o s C h),x.p q (λj m u i o _=>k.o i w_),?_,Al (Ad.kept e.y p (Ao e.w.row e.y C)) k C,λf t=>?_,e.x⟩,k⟩
 rw[map_append];exact v.p q (λj m u i o _=>k.o i w_);rw[Qe,length_singleton] at t
 by_cases h:f<Bb.length
 have m:(c++[l]).getD f Dd=c.getD f Dd:=w_;rw[m];exact e.u f h
 grind
def MkY.B{z:Nat}(f:MkY w base a db n vF vB vC vX vb b kvs c Ks Bb d)(k:w.grownBy w' b.ownBlock)(s:Ad w' base e (An d++[(z:Int)]))(t:e.ownBlock=b.ownBlock∨e.ownBlock=some w.1.size):MkY (w'.setCell (J a 2) e) base a db n vF vB vC vX vb e kvs c Ks Bb (d++[z])/\MaB w' a db vb b:=by
 have u:=(Aa.refl _ w).grown k (λj i _=>i);have o:∀j,_=some j->_:=λj i=>Ac f.y i;have r:Nh _ _ n _ _ _ _:=u.g f.v (λm=>by obtain⟨p,g⟩:=o _ m;exact f.v.o g C rfl);have l:MaB _ _ _ _ _:=u.g f.r (λm=>by obtain⟨p,g⟩:=o _ m;exact f.r.o g C rfl);have q:Aa _ _ (w'.setCell _ e):=(Aa.refl (λj=>j=a) _).setCell (p:=(J a 2)) (λ_=>rfl) _;have x:fx _ _ _ _ _:=⟨⟨World.ownsRow.kept f.z.row.row k (Ao f.y f.z.row.row C),f.z.row.h⟩,f.z.len,λg h=>⟨Ad.kept (f.z.j g h).1 k (f.x g h).a,World.ownsRow.kept (f.z.j g h).2 k (Ao f.y (f.z.j g h).2 C)⟩⟩
 have v:Mb _ _ _ _ _:=⟨World.ownsRow.kept f.w.row k (Ao f.y f.w.row C),λg h=>Ad.kept (f.w.j g h) k (f.u g w_).a,f.w.apart⟩;refine⟨⟨ht_ 2 _ _ _ l,q.g r (λm=>l.o r C m),x.p q (λj p m i o _=>l.o i w_),v.p q (λj p m i o _=>l.o i w_),?_,λg h=>Bl.b (f.u g h) (f.w.j g w_) t,λg h=>Bl.b (f.x g h) (f.z.j g h).1 t⟩,l⟩;have:Ad w' base e (An (d++[z])):=(by unfold An at s ⊢;rw[map_append];exact s);exact Al this l C
end
structure RfX(b)(a d p)(h f g i)(o)(m n)(c)(k j:List (List Nat))(l:List XS):Prop where
 v:Nh b d p h f g i
 z:fx b a h o c
 r:Mb b a f m (k.map An)
 co:Mb b a g n (j.map An)
 q:Wl b a 231 3 i (l.map Ct)
 x:∀e,e<c.length->Ue (c.getD e Ai)
 y:a<=d
section
variable {w w':World} {base db n:Nat} {vF vB vC vX b:Value} {kvs:List (Value×Value)} {bvs cvs:List Value} {Ks:List KS} {Fs Cs:List (List Nat)} {a:List XS}
def RfX.u(b:RfX w base db n vF vB vC vX kvs bvs cvs Ks Fs Cs a)(f:Aa (λc=>c<base) w w'):RfX w' base db n vF vB vC vX kvs bvs cvs Ks Fs Cs a:=by have i:∀{c h:Nat} {g},H_ w c g h->base<=c->¬c<base:=O;exact⟨f.g b.v (p_ b.y),b.z.p f (λc g h e _ d=>i e d),b.r.p f (λc g h e _ d=>i e d),b.co.p f (λc g h e _ d=>i e d),b.q.p f (λe d=>p_ (B_ b.q.row e d).1),b.x,b.y⟩
def XsV.E{f}(e:Wl w base 231 3 f (a.map Ct)):XsV w f a:=by have⟨g,h,c⟩:=e.shape;rw[length_map] at c;refine⟨⟨g,h,c⟩,λi m=>?_⟩;have⟨l,j,d,_,_,_,_,b⟩:=e.at (i:=i) w_;rw[length_map] at d;have k:(a.map Ct).getD i []=Ct (a.getD i Di):=w_;rw[k] at b;exact⟨l,j,d,b 0 O _ rfl,b 1 O _ rfl,b 2 O _ rfl⟩
def RfX.view(b:RfX w base db n vF vB vC vX kvs bvs cvs Ks Fs Cs a):DaV w db n Ks Fs Cs a:=
 ⟨⟨G_ 0 _ 142 (0,0) b.v,⟨vF,G_ 1 _ 142 (0,0) b.v,b.z.view⟩,b.x⟩,⟨vB,G_ 2 _ 142 (0,0) b.v,b.r.view⟩,⟨vC,G_ 3 _ 142 (0,0) b.v,b.co.view⟩,⟨vX,G_ 4 _ 142 (0,0) b.v,XsV.E b.q⟩⟩
end
end Go.Proofs.YtfcgnpchbcmdeaaGreat
