import Derived.Test.YtfcgnpchbcmdeaaGreatZobn
namespace Go.Proofs.YtfcgnpchbcmdeaaGreat
set_option linter.all false
set_option maxRecDepth 100000
set_option maxHeartbeats 16000000
open Go.RowKit List Nat World Go.Proofs.Tryz Value IntKind Lib Region
def Vv(c:ES)(b:Nat)(a:Int):Bool:=Og c a&&!decide (a=(b:Int))
def Vc(a:ES)(j k:Option Addr)(h l o m c:Nat)(b:Int)(d:World)(w:a.g.length=h)(x:a.c.length=o)(v:a.b<=1000000):C_ 284 #[.agg #[.bool a.a,V j h l,V k o m,I (c:Nat)],I b] d (U_ (.bool (Vv a c b)) d):=by
 have⟨y,g⟩:=M_ (d.alloc (O_ #[.bool a.a,V j h l,V k o m,I (c:Nat)] 172));have s:KbX _ _ _ _ _ c:=⟨g ▸ (ha_ d _)⟩;have e:K (E_ d y):=(by show Below _ _ _;rw[g];exact q_);have p:K (∀i,C_ 226 #[.agg #[.bool a.a,V j h l,_,I (c:Nat)],I b] i _):=λi=>Vr a _ k _ _ _ m _ b i w x v;have B:K (Vv a c b=(_&&_)):=rfl;generalize Vv a c b=q at *;generalize Og a b=u at *;generalize a.a=E at *
 cases u with
 | false=>
  have r:K (q=false):=w_;refine v_ ?_;go_wp2_with fail
  rw[<- g];apply (p _).m;rintro A z ⟨rfl,f⟩;have n:=e.T (f.m e.size);go_wp2;go_ret;exact⟨by rw[r];rfl,n⟩
 | true=>
  refine v_ ?_;go_wp2_with fail
  rw[<- g];apply (p _).m;rintro A z ⟨rfl,f⟩;have n:=e.T (f.m e.size);have t:=s.below f;have D:=t.e;have r:K (q=(b !=(c:Int))):=w_;go_wp2;go_ret;exact⟨by rw[r];rfl,n⟩
def Ia(a:List KS):List Int->Int->Bool
 |[],_=>false
 |b::d,c=>if Og (a.getD b.toNat Ai).e c=true then Vv (a.getD b.toNat Ai).e (a.getD b.toNat Ai).d c else Ia a d (c-(((a.getD b.toNat Ai).e.b:Nat)+2))
def ZbI(H g G a5:Nat)(F:Option Addr)(c6:Value)(c2:List (Value×Value))(a:List KS)(f:List Int)(x:Int)(h:World)(a9:DkX h H c6 c2 a)(a6:Ad h a5 (V F g G) f)(A:f.length=g)(e3:g<=1000)(t:∀b∈f,0<=b/\b<a.length)(a8:∀K∈a,K.e.b<=16)(e5:1<=x)(e6:x<=1000):C_ 283 #[P_ H,V F g G,I x] h (U_ (.bool (Ia a f (x-1))) h):=by
 have X:Hid (∀c,E_ h c->_):=λc y=>a9.below y;have a3:Hid (∀c,E_ h c->_):=λc y=>a6.below y;have a1:=Y t;have⟨o,M⟩:=Y_ (Ia a f (x-1));rw[M];refine v_ ?_;go_wp2_with fail
 go_loopw [7,15] (λj i k=>∃(e:Nat) (d:Int),i=.int .i64 e/\e<=g/\j=.int .i64 d/\0<=d/\d<=1000/\Hid (Ia a (f.drop e) d=o)/\Hid (E_ h k)) (λ_ i _=>g-(intOf i).toNat)
 exact⟨0,x-1,rfl,r_,g_,O,O,M,y_⟩;obtain⟨e,d,rfl,e1,rfl,d8,d9,D,j⟩:=hrel
 by_cases t:e<g
 ·have b4:=A ▸ t;obtain⟨e9,rfl,_,_,c8,_⟩:=(a3 wr j).b A t;have b5:f.getD e 0∈f:=w_;have b1:=a1 _ b5;have b0:f.drop e=f.getD e 0::f.drop (e+1):=(by rw[aN b4];grind);have l:=D.out;rw[b0] at l;simp only[Ia] at l;obtain⟨b,b2⟩:∃b:Nat,f.getD e 0=(b:Int):=⟨(f.getD e 0).toNat,O⟩;rw[b2] at c8 b1 l;rw[Int.toNat_natCast] at l;have b3:b<a.length:=O;have Q:=X _ j;obtain⟨e8,e7,p,r,q,s,rfl,e2,d4,d5,d6,d7,_,_⟩:=Q.q.at b3;have e0:=a8 (a.getD b Ai) w_;have d3:=Q.v;have Z:Hid (∀c,C_ 226 #[.agg #[.bool (a.getD b Ai).e.a,_,_,I ((a.getD b Ai).d:Nat)],I d] c _):=λc=>Vr _ p q _ r _ s _ d c rfl rfl O
  have a4:Hid (∀c,C_ 284 _ c (U_ (.bool (Vv (a.getD b Ai).e (a.getD b Ai).d d)) c)):=λc=>Vc _ p q _ r _ s _ d c rfl rfl O;have a0:Hid (∀c,C_ 146 _ c (U_ (.int .i64 (((a.getD b Ai).e.b:Nat)+2)) c)):=λc=>Fm _ p q _ r _ s c (by show(a.getD b Ai).e.b<=_;omega)
  have a2:Hid (Og (a.getD b Ai).e d=false->((a.getD b Ai).e.b:Int)+2<=d):=λR=>by unfold Og at R;simpa using R
  have E:=Y l;have⟨c9,d0⟩:=F_ e g;have⟨d1,d2⟩:=F_ b a.length;generalize (a.getD b Ai).e.g.length=c3 at *;generalize (a.getD b Ai).e.c.length=c4 at *;generalize (a.getD b Ai).e.a=U at *;generalize (a.getD b Ai).e.b=w at *;generalize (a.getD b Ai).d=L at *;generalize Og (a.getD b Ai).e d=a7 at *;generalize Vv (a.getD b Ai).e L d=c5 at *;go_upto_region 6 with fail;generalize N:wr.alloc (O_ #[.bool U,V p c3 r,V q c4 s,I (L:Nat)] 172)=T;have k:Hid (KbX T _ U _ _ _):=⟨by rw[<- N];exact hn_⟩;have B:Hid (E_ h T):=(by show Below _ _ _;rw[<- N];exact j.alloc j.size _);have b8:=k.v;have b9:=k.z;have c0:=k.q;have c1:=k.e;go_wp2_with fail
  apply (Z _).m;rintro W f1 ⟨rfl,P⟩;have⟨m,n⟩:=Z_ (B.T (P.m B.size)) (k.below P);have b8:=n.v;have b9:=n.z;have c0:=n.q;have c1:=n.e
  cases a7 with
  | true=>
   have i:Hid (c5=o):=(by have:=E.out;rw[aD rfl] at this;exact this);go_wp2_with fail
   apply (a4 _).m;rintro W c7 ⟨rfl,z⟩;have v:=Y (m.T (z.m m.size));go_wp2;go_ret;rw[<- i];exact⟨rfl,v⟩
  | false=>
   have i:Hid (Ia a (f.drop (e+1)) (d-((w:Int)+2))=o):=(by have:=E.out;rw[aC s_] at this;exact this);have e4:=a2 rfl;go_wp2_with fail
   apply (a0 _).m;rintro W c7 ⟨rfl,z⟩;have v:=Y (m.T (z.m m.size));have⟨u,S⟩:=M_ (d-((w:Int)+2));have f0:i64.wrap (d-((w:Int)+2))=u:=S ▸ (As O O);rw[<- S] at i;have b6:0<=u:=O;have b7:u<=1000:=O;go_wp2;go_roundw;exact⟨e+1,u,g_,O,w_,b6,b7,i,v⟩;exact z_
 have k:¬(e:Int)<(g:Int):=O;have i:Hid (false=o):=(by have:=D.out;rw[drop_eq_nil_of_le (p_ A)] at this;exact this);go_wp2;go_ret;rw[<- i];exact⟨rfl,j⟩
def Pg(c:List Int)(b:List Int):Nat->Int×List Int
 |0=>(-1,c)
 |a+1=>((Pg c b a).1+b.getD (2*a) 0,if 0<=(Pg c b a).1+b.getD (2*a) 0/\(Pg c b a).1+b.getD (2*a) 0<c.length then(Pg c b a).2.set ((Pg c b a).1+b.getD (2*a) 0).toNat (b.getD (2*a+1) 0) else(Pg c b a).2)
theorem Ua(a c:List Int):∀b,(Pg a c b).2.length=a.length
 |0=>rfl
 | b+1=>by
  have:=Ua a c b;simp only[Pg]
  grind
def Zft{c:List Int}(d:∀x∈c,0<=x/\x<=255)(b:List Int):∀a,-1<=(Pg b c a).1/\(Pg b c a).1<=255*(a:Int)
 |0=>by simp[Pg]
 |a+1=>by have:=Zft d b a;have:=Il d (2*a);simp only[Pg];omega
structure Lr(i wr:World)(e b a h f:Nat)(g d:List Int):Prop where
 u:Ci wr b g
 q:Ad wr e (L_ a h f) d
 t:Aa (λc=>c=b∨c=a) i wr
 o:b≠a
section
variable {w wr w2:World} {base a g n c:Nat} {l b N:List Int}
def Lr.step(d:Lr w wr base a g n c l N)(j:Ci w2 a b)(i:Aa (λf=>f=a) wr w2):Lr w w2 base a g n c b N:=
 ⟨j,i.row d.q (λf h e=>by simp[ownBlock] at h;exact d.o (e.s.T h.s)),d.t.T (i.m (λf _ e=>.inl e)),d.o⟩
def Lr.below(b:Lr w wr base a g n c l N)(d:E_ wr w2):=b.step (b.u.below d) (.a d)
def Lr.put(b:Lr w wr base a g n c l N)(e:n=N.length)(k:Nat)(d:Int):Lr w (wr.setCell (J g k) (I d)) base a g n c l (N.set k d):=by exact⟨b.u.p ((Aa.refl (λf=>f=g) wr).setCell (p:=(J g k)) (λ_=>rfl) _) b.o,(b.q.put (k:=k) e d).1,b.t.setCell (p:=(J g k)) (λ_=>.inr rfl) _,b.o⟩
end
def Zib{p:Prop}(h:p:=by
 have s:K (Lr k A p e m f o (b.drop (2*(a+1))) (Pg c b (a+1)).2):=by
  have:=t.out;rw[n]
  grind
 have r:K ((Pg c b (a+1)).1=i):=(by show _=_;rw[n]);go_wp2;go_roundw;exact⟨a+1,g_,O,by rw[r],s⟩
 exact z_):p:=h
theorem me(p e m f o:Nat)(d c:List Int)(k:World)(u:Lr k k p e m f o d c)(M:c.length=f):C_ 280 #[.func (.func 165) #[P_ e] #[],L_ m f o] k λl i=>l=.returned (.tuple #[])/\Lr k i p e m f o (d.tail.drop (2*(d.headD 0).toNat)) (Pg c d.tail (d.headD 0).toNat).2:=by
 have a9:=Il u.u.a 0;have b0:d.headD 0=d.getD 0 0:=(by have:=Fr d 0;grind);obtain⟨h,Z⟩:∃h:Nat,d.headD 0=(h:Int):=⟨(d.headD 0).toNat,O⟩;have b3:h<=255:=O
 have w:K (∀(g:World) (d:List Int) (j:Int),d.headD 0=j->Ci g e d->C_ 165 #[P_ e] g λl i=>l=.returned (.int .i64 j)/\Ci i e d.tail/\Aa (λa=>a=e) g i):=λg d j v W=>by rw[<- v];exact Dz e d g W
 have G:=w k d (h:Int) Z u.u;have U:(d.headD 0).toNat=h:=O;rw[U];have⟨b,H⟩:=Y_ d.tail;rw[H] at G ⊢;have B:K (∀j∈b,0<=j/\j<=255):=λj v=>u.u.a j (by rw[<- H] at v;exact mem_of_mem_tail v);refine v_ ?_;go_wp2_with fail
 apply G.m;rintro l b7 ⟨rfl,a0,a3⟩;have R:=Y (u.step a0 a3);go_wp2_with fail
 go_loopw [4,8] (λn i q=>∃a:Nat,i=.int .i64 a/\a<=h/\n=.int .i64 (Pg c b a).1/\K (Lr k q p e m f o (b.drop (2*a)) (Pg c b a).2)) (λ_ i _=>h-(intOf i).toNat)
 exact⟨0,rfl,r_,rfl,R⟩;obtain⟨a,rfl,b1,rfl,x⟩:=hrel
 by_cases b2:a<h
 ·have a8:(a:Int)<(h:Int):=O;have b4:=Zft B c a;have b5:=Il B (2*a);have y:=Ua c b a;rw[M] at y;have n:K (Pg c b (a+1)=((Pg c b a).1+b.getD (2*a) 0,if 0<=(Pg c b a).1+b.getD (2*a) 0/\(Pg c b a).1+b.getD (2*a) 0<(f:Int) then(Pg c b a).2.set ((Pg c b a).1+b.getD (2*a) 0).toNat (b.getD (2*a+1) 0) else(Pg c b a).2)):=(by show _=_;rw[<- M];rfl);have F:=w wr (b.drop (2*a)) _ (Fr b (2*a)) x.u;rw[Ih] at F
  have Q:K (∀g,Ci g e (b.drop (2*a+1))->C_ 165 #[P_ e] g λl i=>l=.returned (.int .i64 (b.getD (2*a+1) 0))/\Ci i e (b.drop (2*(a+1)))/\Aa (λa=>a=e) g i):=λg X=>by have:=w g (b.drop (2*a+1)) _ (Fr b (2*a+1)) X;rw[Ih] at this;exact this
  generalize b.getD (2*a) 0=j at *;generalize b.getD (2*a+1) 0=P at *;generalize (Pg c b a).1=N at *;generalize (Pg c b a).2=a7 at *;have⟨i,z⟩:=M_ (N+j);have b6:i64.wrap (N+j)=i:=z ▸ (As O O);rw[<- z] at n;clear z;go_wp2_with fail
  apply F.m;rintro l b8 ⟨rfl,a1,a4⟩;have D:=Y (x.step a1 a4);go_wp2_with fail
  apply (Q _ D.u).m;rintro l A ⟨rfl,a2,a5⟩;have t:=Y (D.step a2 a5)
  by_cases E:0<=i
  ·have S:decide ((0:Int)<=i)=true:=by simp[E]
   by_cases L:i<(f:Int)
   ·have T:decide (i<(f:Int))=true:=(by simp[L]);obtain⟨q,rfl⟩:∃q:Nat,i=(q:Int):=⟨i.toNat,O⟩;have a6:q<f:=O;have⟨b9,c0⟩:=t.q.c y.s a6;have s:K (Lr k (A.setCell (J m q) (I P)) p e m f o (b.drop (2*(a+1))) (Pg c b (a+1)).2):=(by have:=t.put y.s q P;rw[n];rw[aD ⟨E,L⟩,Int.toNat_natCast];exact this);have r:K ((Pg c b (a+1)).1=(q:Int)):=(by show _=_;rw[n]);go_wp2;go_roundw;exact⟨a+1,g_,O,by rw[r],s⟩;exact z_
   have T:decide (i<(f:Int))=false:=t_;exact Zib
  have S:decide ((0:Int)<=i)=false:=t_;exact Zib
 have n:¬(a:Int)<(h:Int):=O;have i:a=h:=O;subst i;go_wp2;go_end0;exact⟨rfl,x⟩
def Uh(b:List Int)(a:Nat):Nat:=(b.getD (a/8) 0).toNat/2^(a%8)%2
def Zew(b:List Int):∀a,Uh b a<=1:=λa=>by unfold Uh;omega
theorem sw(c:List Int)(b:Nat):∀a,a<=8->Hc (Uh c) (8*b) a=(c.getD b 0).toNat%2^a
 |0,_=>by simp[Hc,mod_one]
 | a+1,d=>by
  show Hc (Uh c) (8*b) a+Uh c (8*b+a)*2^a=_;rw[(sw c b a O),Nat.pow_succ,mod_mul]
  grind [Uh]
def ZdF{c:List Int}(e:∀x∈c,0<=x/\x<=255)(a:Nat):Bg (Uh c) a (8*a)=Cp (λb=>c.getD b 0) a a:=by
 rw[Id];unfold Bg;refine map_congr_left λb d=>?_;have d:=mem_range.1 d;have:=Il e b
 grind [Gz,sw]
def ZgI(b:Nat->Nat)(a:Nat)(c:Nat->Int):Bg b a 0=Cp c a 0:=by rw[Ie];unfold Bg;refine eq_replicate_iff.2 ⟨s_,λf d=>?_⟩;obtain⟨e,_,rfl⟩:=mem_map.1 d;unfold Gz;rw[show min 8 (0-8*e)=0 by omega];rfl
def ZnP{x:Int}(a:0<=x/\x<=255):IntKind.u8.wrap x=x:=by simp[wrap,IntKind.bits,signed];omega
section
variable {w w':World} {base dd a n d:Nat} {bs:List Int}
def Oa.p{S:Nat->Prop}(b:Oa w base dd a n d bs)(c:Aa S w w')(e:¬S dd)(h:¬S a):Oa w' base dd a n d bs:=
 ⟨c.g b.r e,c.row b.row (λi f g=>by simp[ownBlock] at f;grind)⟩
def Oa.below(b:Oa w base dd a n d bs)(c:E_ w w'):Oa w' base dd a n d bs:=b.p (S:=λ_=>False) (.a c) id id
def Oa.q(c:Oa w base dd a n d bs){b:Nat}(e:bs.length=b):w.cell? (J dd 2)=some (L_ a b b):=by
 have:=G_ 2 _ 396 (0,0) c.r
 grind
end
def Ax.d{c:World}{d:Nat}{b:Value}{a:List Int}(e:Ax c d b a):Ax c 0 b a:=by
 obtain⟨f,g⟩:=e;refine⟨f,?_⟩
 grind
def ag(b:Nat->Int)(c:List Int)(a:Nat):List Int:=(range a).map b++c.drop a
def ZgG(b:Nat->Int)(a:List Int):ag b a 0=a:=by simp[ag]
def ZgF(c:Nat->Int){b:List Int}{a:Nat}(d:b.length=a):ag c b a=(range a).map c:=by simp[ag,drop_eq_nil_of_le (show b.length<=a by omega)]
def ZjG(c:Nat->Int)(a:List Int){b:Nat}(d:b<=a.length):(ag c a b).length=a.length:=by simp[ag];omega
def ZjH(b:Nat->Int){c:List Int}{a:Nat}(d:a<c.length):(ag b c a).set a (b a)=ag b c (a+1):=by unfold ag;rw[aN d,set_append_right _ _ s_,length_map,length_range,Nat.sub_self,set_cons_zero,range_succ,map_append,append_assoc];rfl
def dnN(b:List Int)(c a:Nat):List Int:=(range c).map λd=>((Hc (Uh b) (d*a) a:Nat):Int)
def qr(t m h b o e:Nat)(d k:List Int)(i:World)(A:Lr i i t m h b o d k)(z:k.length=b)(R:b<=200)(D:e<=6)(b1:h<i.1.size):C_ 281 #[.func (.func 165) #[P_ m] #[],L_ h b o,I (e:Nat)] i λq c=>q=.returned (.tuple #[])/\Lr i c t m h b o (d.drop ((b*e+7)/8)) (dnN d b e):=by
 have P:=Xu _ b e 0 0 [] i (by exact Ad.nil _ _) rfl r_ R D;have⟨g,G⟩:=M_ ((b*e+7)/8);rw[Nat.zero_mul,<- G] at P;rw[<- G];have b3:=Nat.mul_le_mul R D;have b2:g<=151:=O;have a9:b*e<=8*g:=O;have M:=Y A.u.a;have b5:=A.u.lt;clear G;refine v_ ?_;go_wp2_with fail
 apply P.m;rintro q b7 ⟨b6,rfl,⟨u,f,rfl,b0,B⟩,a2⟩;rw[ZgI _ g (λc=>d.getD c 0)] at B;have X:=Y (A.below a2);have a8:=B.q (Fd _ r_);go_wp2_with fail
 go_loopw [19] (λn j=>∃a:Nat,n=.int .i64 a/\a<=g/\K (Oa j i.1.size u f b e (Cp (λc=>d.getD c 0) g a))/\K (Lr i j t m h b o (d.drop a) k)) (λn _=>g-(intOf n).toNat)
 exact⟨0,rfl,r_,B,X⟩;obtain⟨a,rfl,F,l,s⟩:=hrel
 by_cases Q:a<g
 ·have⟨a0,a1⟩:=F_ a g
  have L:=Y (λc j=>by
   have:=Dz m (d.drop a) c j;rw[Fr,Ih] at this
   exact this)
  have a3:=ZnP (Il M a);have N:=Y (Jz (λc=>d.getD c 0) Q);have⟨r,Z⟩:=Y_ (d.getD a 0);rw[Z] at a3 N L;go_upto_region 4 with fail;refine Af (λc=>D_ c _ 2 _) 9 k_ (l.q (Fd _ F)) (λhHeld=>?_);refine K_ ?_;refine on_ 6 λKK hK=>?_;go_simp;apply (L _ (s.below y_.drew).u).m;rintro q v ⟨rfl,W,S⟩;have x:=Y ((s.below y_.drew).step W S)
  have j:=Y ((l.below y_.drew).p S O (λU=>by
   have:=(B_ l.row f rfl).1
   omega))
  have E:=Fd (λc=>d.getD c 0) F;have w:=j.row;rw[E] at w;have⟨a6,a7⟩:=w.c E.s Q;go_simp;refine hK _ _ (j.q (Fd _ F)) (λhHeld=>?_);refine K_ ?_;refine la1_ λKK hK=>?_;go_simp;apply hK _ _;refine Fn k_ ?_ _;have T:K (Oa (v.setCell (J f a) (.int .u8 r)) i.1.size u f b e (Cp (λc=>d.getD c 0) g (a+1))):=by have w:=j.row;have H:=(Ax.put (k:=a) w rfl r).1;rw[N] at H;have y:(Cp (λc=>d.getD c 0) g (a+1)).length=(Cp (λc=>d.getD c 0) g a).length:=(by rw[Fd _ O,E]);have c:Aa _ v (v.setCell _ (.int .u8 r)):=(Aa.refl (λn=>n=f) _).setCell (p:=(J f a)) (λ_=>rfl) _;refine⟨?_,y ▸ H⟩;rw[y];exact c.g j.r (λq=>Ah w (k:=f) rfl j.r C q.s)
  have y:K (Lr i (v.setCell (J f a) (.int .u8 r)) t m h b o (d.drop (a+1)) k):=(by have U:=(B_ j.row f rfl).1;have c:Aa _ v (v.setCell _ (.int .u8 r)):=(Aa.refl (λn=>n=f) _).setCell (p:=(J f a)) (λ_=>rfl) _;exact⟨x.u.p c O,c.row x.q (λn H q=>by simp[ownBlock] at H;omega),x.t.setCell (p:=(J f a)) (λH=>by simp at H;omega) _,x.o⟩);go_wp2;go_roundw;exact⟨a+1,g_,O,T,y⟩;exact z_
 have b4:¬(a:Int)<(g:Int):=O;have a3:a=g:=O;subst a3;have v:K (Oa wr 0 u f b e (Bg (Uh d) a (8*a))):=(by have:=l.out;rw[<- ZdF M a] at this;exact⟨this.r,this.row.d⟩);have⟨w,T⟩:=Z_ s.out ((B_ l.row f rfl).1);go_wp2_with fail
 obtain⟨j,L⟩:∃j:Nat->Int,j=λc=>((Hc (Uh d) (c*e) e:Nat):Int):=⟨_,rfl⟩
 have W:K (∀c,j c=_):=λc=>by rw[L]
 have U:K (dnN d b e=ag j k b):=(by show _=_;rw[ZgF j z,L];rfl);go_loopw [34] (λn r=>∃c:Nat,n=.int .i64 c/\c<=b/\K (Oa r 0 u f b e (Bg (Uh d) a (8*a)))/\K (Lr i r t m h b o (d.drop a) (ag j k c))) (λn _=>b-(intOf n).toNat)
 exact⟨0,rfl,r_,v,by rw[ZgG];exact w⟩;obtain⟨c,rfl,a4,l,s⟩:=hrel
 by_cases x:c<b
 ·have⟨a0,a1⟩:=F_ c b
  have a5:c*e+e<=8*a:=by
   have:(c+1)*e<=b*e:=aK e x
   grind
  have H:=Nr u f b e a _ c _ wr l (Zew d) D a5 x_ O;rw[<- W c] at H;have Z:=Y (ZjH j (z ▸ x));have S:(ag j k c).length=b:=(by rw[ZjG j k (z ▸ a4),z]);generalize j c=n at *;go_wp2_with fail
  apply H.m;rintro q E ⟨rfl,N⟩;have y:=Y (s.below N);have⟨a6,a7⟩:=y.q.c S.s x;have w:K (Lr i (E.setCell (J h c) (I n)) t m h b o (d.drop a) (ag j k (c+1))):=(by have:=y.put S.s c n;rw[Z] at this;exact this);have v:K (Oa (E.setCell (J h c) (I n)) 0 u f b e (Bg (Uh d) a (8*a))):=(by exact(l.below N).p ((Aa.refl (λr=>r=h) E).setCell (p:=(J h c)) (λ_=>rfl) _) O (p_ T.out));go_wp2;go_roundw;exact⟨c+1,g_,O,v,w⟩;exact z_
 have r:¬(c:Int)<(b:Int):=O;have n:c=b:=O;subst n;go_wp2;go_end0;rw[U];exact⟨rfl,s⟩
def Hd(a:List Int)(b c:Nat):List Int:=if a.headD 0=115 then(Pg (replicate b 0) a.tail.tail (a.tail.headD 0).toNat).2 else dnN a.tail b (Lib.bitLen c)
def rdColR(a:List Int)(c b:Nat):List Int:=if a.headD 0=115 then a.tail.tail.drop (2*(a.tail.headD 0).toNat) else a.tail.drop ((c*Lib.bitLen b+7)/8)
def Ip(b:List Int)(c a:Nat):List Nat:=(Hd b c a).map Int.toNat
theorem ZdX{f:List Int}(d:∀x∈f,0<=x/\x<=255)(e:Nat):∀b,∀x∈(Pg (replicate e 0) f b).2,0<=x/\x<=255
 |0=>λx a=>p_ (eq_of_mem_replicate a)
 | b +1=>λx a=>by
  simp only[Pg] at a;split at a
  ·rcases mem_or_eq_of_mem_set a with c|c
   exact ZdX d e b x c;rw[c];exact Il d _
  exact ZdX d e b x a
def Zm8(c:List Int)(f:Nat){a:Nat}(d:a<=6):∀b∈dnN c f a,0<=b/\b<=255:=λb e=>by obtain⟨g,_,rfl⟩:=mem_map.1 e;have h:=Pw (Zew c) (g*a) a;have i:(2:Nat)^a<=2^6:=Nat.pow_le_pow_right C d;omega
def Ty{c:List Int}(e:∀x∈c,0<=x/\x<=255)(a:Nat){b:Nat}(d:b<64):(Hd c a b).length=a/\∀x∈Hd c a b,0<=x/\x<=255:=by
 unfold Hd;split
 ·grind [Ua,ZdX,mem_of_mem_tail]
 exact⟨by simp[dnN],Zm8 _ a (Gc d)⟩
def Zdq{a:List Int}(b:∀x∈a,0<=x/\x<=255):An (a.map Int.toNat)=a:=by
 unfold An;rw[map_map]
 conv=>rhs;rw[<- map_id a]
 grind [map_congr_left]
def av{c:List Int}(d:∀x∈c,0<=x/\x<=255)(a:Nat){b:Nat}(e:b<64):(Ip c a b).length=a:=by unfold Ip;rw[length_map];exact(Ty d a e).1
def Zae(f a c:Nat)(e:List Int)(b:World)(q:Ci b f e)(M:a<=200)(s:c<64):C_ 229 #[.func (.func 165) #[P_ f] #[],I (a:Nat),I (c:Nat)] b λg j=>∃i,g=.returned i/\Hv j b.1.size i (Ip e a c) c/\Ci j f (rdColR e a c)/\Aa (λl=>l=f) b j:=by
 have Z:=Gf a O;have a0:=q.lt;have⟨z,y⟩:=M_ (b.alloc (O_ (madeCells #[I 0] a) 3));have R:Ad z b.1.size (L_ b.1.size a a) (replicate a 0):=y ▸ (Ge a b b.1.size O x_);have L:E_ b z:=y ▸ q_;have H:=Dz f e z (q.below L);have F:=T_ R L;have⟨X,S⟩:=Ty q.a a s;have G:K (∀d,Ad d 0 (L_ b.1.size a a) (Hd e a c)->C_ 257 #[L_ b.1.size a a,I (c:Nat)] d λg j=>∃i,g=.returned i/\Hv j d.1.size i (Ip e a c) c/\E_ d j):=λd m=>rz _ a a c (Ip e a c) d (by unfold Ip;rw[Zdq S];exact m) (av q.a a s) M s
 have P:K (∀d h,Lr d d b.1.size f b.1.size a a e.tail (replicate a 0)->e.headD 0=h->h=115->C_ 280 #[.func (.func 165) #[P_ f] #[],L_ b.1.size a a] d λg j=>g=.returned (.tuple #[])/\Lr d j b.1.size f b.1.size a a (rdColR e a c) (Hd e a c)):=λd h m o r=>by grind [me,rdColR,Hd]
 have Q:K (∀d h,Lr d d b.1.size f b.1.size a a e.tail (replicate a 0)->e.headD 0=h->¬h=115->C_ 281 #[.func (.func 165) #[P_ f] #[],L_ b.1.size a a,I (Lib.bitLen c:Nat)] d λg j=>g=.returned (.tuple #[])/\Lr d j b.1.size f b.1.size a a (rdColR e a c) (Hd e a c)):=λd h m o r=>by
  have:=qr b.1.size f b.1.size a a (Lib.bitLen c) e.tail (replicate a 0) d m s_ M (Gc s) ((B_ m.q b.1.size rfl).2)
  grind [rdColR,Hd]
 have⟨h,o⟩:=Y_ (e.headD 0);rw[o] at H;generalize Hd e a c=W at *;generalize rdColR e a c=D at *;generalize Ip e a c=B at *;refine v_ ?_;go_wp2_with fail
 rw[<- y];apply H.m;rintro g t ⟨rfl,T,N⟩;have E:K (Lr t t b.1.size f b.1.size a a e.tail (replicate a 0)):=⟨T,N.row F.1 (λl i g=>by simp[ownBlock] at i;omega),Aa.refl _ _,O⟩;have p:=Y ((Aa.a F.2).T N)
 by_cases r:h=115
 ·have w:=P t h E o r;go_wp2_with fail
  apply w.m;rintro g A ⟨rfl,j⟩;have v:=G A (j.q.m r_);go_wp2_with fail
  apply v.m;rintro g k ⟨i,rfl,x,n⟩;have u:K (Hv k b.1.size i B c/\Ci k f D/\Aa (λl=>l=f) b k):=(by refine⟨x.m (aG p.size j.t.size),j.u.below n,?_⟩;exact(p.c j.t (λl g=>O)).below n);go_wp2;go_ret;exact⟨i,rfl,u⟩
 have w:=Q t h E o r;have a1:(h==115)=false:=w_;go_wp2_with fail
 apply ((λd=>jb c d O) _).m;rintro g a2 ⟨rfl,U⟩;obtain rfl:=U.s;go_wp2_with fail
 apply w.m;rintro g A ⟨rfl,j⟩;have v:=G A (j.q.m r_);go_wp2_with fail
 apply v.m;rintro g k ⟨i,rfl,x,n⟩;have u:K (Hv k b.1.size i B c/\Ci k f D/\Aa (λl=>l=f) b k):=(by refine⟨x.m (aG p.size j.t.size),j.u.below n,?_⟩;exact(p.c j.t (λl g=>O)).below n);go_wp2;go_ret;exact⟨i,rfl,u⟩
def Dt(b:List KS)(d:List Int)(c:List Nat):Bool:=c.all λa=>decide (a=0)||Ia b d ((a:Int)-1)
def ky (t k p z g l s h A:Nat) (o:Option Addr) (N:Value) (M:List (Value×Value)) (d:List KS) (e:List Int) (c:List Nat) (f:World) (b0:DkX f t N M d) (a0:Ad f z (V o k p) e) (b3:e.length=k) (b4:k<=1000) (b1:∀D∈e,0<=D/\D<d.length) (a9:∀K∈d,K.e.b<=16) (a3:c.length=h) (c7:h<=200) (a4:∀x∈c,x<=255) (b8:l=382/\s=323∨l=380/\s=371) (c6:∀a:World,(method 535 l (P_ g) "At").run prog a=.ok (s,P_ g) a) (b7:∀a:World,E_ f a->(method 535 l (P_ g) "Rows").run prog a=.ok (299,.agg #[I (h:Nat),I (A:Nat)]) a) (a2:∀a:World,E_ f a->∀b,b<h->C_ s #[P_ g,I (b:Nat)] a (U_ (.int .i64 (c.getD b 0:Nat)) a)):C_ 231 #[P_ t,.agg #[V o k p,.iface l (P_ g)]] f (U_ (.bool (Dt d e c)) f):=by
 have⟨m,u⟩:=M_ (f.alloc (O_ #[V o k p,.iface l (P_ g)] 163));have G:H_ m f.1.size #[V o k p,.iface l (P_ g)] 163:=u ▸ (ha_ f _);have F:E_ f m:=u ▸ q_
 have i:Hid (∀a,E_ m a->E_ f a/\D_ a f.1.size 0 (V o k p)/\D_ a f.1.size 1 (.iface l (P_ g))):=λa j=>by have n:=(j.block _ ((Qb G).1)).T G;exact⟨F.T (j.m F.size),G_ 0 _ 163 (0,0) n,G_ 1 _ 163 (0,0) n⟩
 have S:Hid (∀a:World,E_ m a->(method 535 l (P_ g) "Rows").run prog a=.ok (299,.agg #[I (h:Nat),I (A:Nat)]) a):=λa j=>b7 a (i a j).1;have Q:Hid (∀a:World,E_ m a->∀b,b<h->C_ s #[P_ g,I (b:Nat)] a (U_ (.int .i64 (c.getD b 0:Nat)) a)):=λa j b H=>a2 a (i a j).1 b H;have W:Hid (∀a:World,E_ m a->∀x:Nat,1<=x->x<=255->C_ 283 #[P_ t,V o k p,I (x:Nat)] a (U_ (.bool (Ia d e ((x:Int)-1))) a)):=λa j x E c4=>ZbI t k p z o N M d e x a (b0.below (i a j).1) (a0.below (i a j).1) b3 b4 b1 a9 O O;have⟨_,v,w⟩:=i m y_;have b6:=S m y_;refine v_ ?_;rw[u] at b6 v w;go_wp2_with fail
 rw[<- u];apply (Vb _ _ _).m;rintro B c9 ⟨rfl,a6⟩;go_wp2_with fail
 go_loopw [10] (λn q=>∃b:Nat,n=.int .i64 b/\b<=h/\Hid (Dt d e (c.take b)=true)/\Hid (E_ m q)) (λn _=>h-(intOf n).toNat)
 exact⟨0,rfl,r_,rfl,a6⟩;obtain⟨b,rfl,H,Z,q⟩:=hrel
 by_cases L:b<h
 ·have b2:b<c.length:=a3 ▸ L;have b5:c.getD b 0∈c:=w_;have c5:c.take (b+1)=c.take b++[c.getD b 0]:=(by rw[Qi b2];grind);have c1:=a4 _ b5
  have T:Hid ((decide (c.getD b 0=0)||Ia d e ((c.getD b 0:Int)-1))=true->Dt d e (c.take (b+1))=true):=λb9=>by
   have E:=Z.out;unfold Dt at E ⊢
   grind
  have c3:Hid ((decide (c.getD b 0=0)||Ia d e ((c.getD b 0:Int)-1))=false->Dt d e c=false):=λb9=>by
   unfold Dt
   grind
  have⟨_,v,w⟩:=i wr q;have a1:=Q wr q b L;generalize c.getD b 0=x at *;have X:=Y b8
  rcases X.out with⟨rfl,rfl⟩|⟨rfl,rfl⟩
  all_goals
   go_wp2_with fail
   apply a1.m;rintro B P ⟨rfl,a7⟩;have r:=Y (q.T (a7.m q.size));have⟨_,v,w⟩:=i P r
   by_cases c0:x=0
   ·subst c0;have n:=Y (T s_);go_wp2;go_roundw;exact⟨b+1,g_,O,n,r⟩;exact z_
   have c8:((x:Int)==0)=false:=w_;have a5:=W P r x O c1;have U:Hid (Ia d e ((x:Int)-1)=true->Dt d e (c.take (b+1))=true):=w_;have R:Hid (Ia d e ((x:Int)-1)=false->Dt d e c=false):=w_;generalize Ia d e ((x:Int)-1)=c2 at *;go_wp2_with fail
   apply a5.m;rintro B d0 ⟨rfl,a8⟩;have y:=Y (r.T (a8.m r.size))
   cases c2 with
   | true=>
    have n:=Y (U rfl);go_wp2;go_roundw;exact⟨b+1,g_,O,n,y⟩;exact z_
   | false=>
    have n:=Y (R rfl);go_wp2;go_ret;exact⟨by rw[n];rfl,(i _ y).1⟩
 have r:¬(b:Int)<(h:Int):=O;have n:Hid (Dt d e c=true):=w_;go_wp2;go_ret;exact⟨by rw[n];rfl,(i _ q).1⟩
def cr(c:Nat->Prop)(f:World)(d:Nat):Prop:=∀a e b,f.1[a]? =some (O_ e b)->c a->b=d
section
variable {S:Nat->Prop} {w w':World} {a:Nat}
def cr.row(f:cr S w a){e c m l:Nat}{d:Value}{n:List Value}(j:w.ownsRow e c m d l n)(i:c≠a):∀b,d.ownBlock=some b->¬S b:=λb h k=>by have⟨o,g⟩:=Ac j h;exact i (f b _ c g k)
def cr.at(d:cr S w a){k b:Nat}{c:Array Value}(e:H_ w k c b)(f:b≠a):¬S k:=λg=>f (d k c b e g)
def cr.x{a b:Nat}{c:Array Value}(f:H_ w a c b):cr (λk=>k=a) w b:=λk d h g e=>w_
def cr.q{d a h g:Nat}{c:Value}{i:List Value}(f:w.ownsRow d a h c g i):cr (λb=>c.ownBlock=some b) w a:=λb j n m e=>by
 have⟨k,l⟩:=Ac f e
 grind
def Hv.g{k:Nat}{m:Value}{j:List Nat}{l:Nat}(o:Hv w k m j l)(d:Aa S w w')(c:cr S w a)(p:403≠a)(q:396≠a)(r:405≠a)(s:5≠a):Hv w' k m j l:=by
 rcases o with⟨e,i,f,u,v,g,h,b⟩|⟨e,i,f,n,t,g,h,b⟩
 exact .inl ⟨e,i,f,u,v,g,h,d.g b.r (c.at b.r p),d.row b.row (c.row b.row r)⟩;exact .inr ⟨e,i,f,n,t,g,h,d.g b.r (c.at b.r q),d.row b.row (c.row b.row s)⟩
def Ok.g{j:Nat}{h:Value}{i:List (Value×Value)}{e:List BS}(d:Ok j w h i e)(g:Aa S w w')(q:cr S w a)(k:403≠a)(l:396≠a)(m:405≠a)(n:5≠a)(p:∀c,h.ownBlock=some c->¬S c)(o:∀b,b<e.length->∀c,(i.getD b Ld).1.ownBlock=some c->¬S c):Ok j w' h i e:=
 ⟨g.row d.row p,d.len,λb f=>⟨g.row (d.j b f).1 (o b f),(d.j b f).2.g g q k l m n⟩⟩
def Jk.g{h:Nat}{k:Value}{g:List (Value×Value)}{e:List KS}(c:Jk h w k g e)(f:Aa S w w')(i:cr S w a)(l:172≠a)(m:9≠a)(n:∀b,b<e.length->∀j,(g.getD b Ld).1.ownBlock=some j->¬S j):Jk h w' k g e:=
 ⟨f.row c.row (i.row c.row l),c.len,λb d=>⟨f.row (c.j b d).1 (n b d),f.row (c.j b d).2 (i.row (c.j b d).2 m)⟩⟩
end
structure fv(h:Nat)(f wr:World)(k m c d:Nat)(p:List Int)(o e:Value)(l:List (Value×Value))(g:List KS)(j:List (Value×Value))(i:List BS)(n:List Int):Prop where
 r:wr.1[k]? =some (O_ #[o,e,N_] 168)
 q:Jk h wr o l g
 v:Ok h wr e j i
 u:Ci wr m p
 x:Ad wr 0 (L_ c d d) n
 D:n.length=d
 t:Aa (λb=>b=m∨b=k) f wr
 B:∀b,e.ownBlock=some b->f.1.size<=b
 A:f.1.size<=c
 w:∀a,a<i.length->(j.getD a Ld).1.ownBlock≠some c
 y:∀a,a<g.length->(l.getD a Ld).1.ownBlock≠some c
section
variable {c:Nat} {w wr w2:World} {db d a f:Nat} {l b:List Int} {e vB:Value} {kvs:List (Value×Value)} {Ks:List KS} {bvs:List (Value×Value)} {bs:List BS} {st:List Int}
def fv.step(g:fv c w wr db d a f l e vB kvs Ks bvs bs st)(n:Ci w2 d b)(i:Aa (λm=>m=d) wr w2):fv c w w2 db d a f b e vB kvs Ks bvs bs st:=by have⟨S,o,_⟩:=g.u.q;have h:=cr.x o;exact⟨i.g g.r (h.at g.r C),g.q.g i h C C (λk j=>h.row (g.q.j k j).1 C),g.v.g i h C C C C (h.row g.v.row C) (λk j=>h.row (g.v.j k j).1 C),n,i.row g.x (h.row g.x C),g.D,g.t.T (i.m (λm _ j=>.inl j)),g.B,g.A,g.w,g.y⟩
def fv.below(b:fv c w wr db d a f l e vB kvs Ks bvs bs st)(g:E_ wr w2):fv c w w2 db d a f l e vB kvs Ks bvs bs st:=b.step (b.u.below g) (.a g)
def fv.put(b:fv c w wr db d a f l e vB kvs Ks bvs bs st)(k:Nat)(m:Int):fv c w (wr.setCell (J a k) (I m)) db d a f l e vB kvs Ks bvs bs (st.set k m):=by have j:Aa _ wr (wr.setCell _ (I m)):=(Aa.refl (λq=>q=a) _).setCell (p:=(J _ k)) (λ_=>rfl) _;have⟨v,s⟩:=Ac b.x (k:=a) rfl;have h:=cr.x s;have⟨S,r,t,u⟩:=b.u.q;refine⟨j.g b.r (h.at b.r C),b.q.g j h C C (λi o q g n=>b.y i o (by rw[g,n])),b.v.g j h C C C C (h.row b.v.row C) (λi o q g n=>b.w i o (by rw[g,n])),⟨S,j.g r (h.at r C),t,u⟩,(b.x.put (k:=k) b.D.s m).1,by rw[length_set];exact b.D,b.t.setCell (p:=(J a k)) (λg=>by have:=b.A;simp at g;omega) _,b.B,b.A,b.w,b.y⟩
def fv.h{h:Nat}{r:Array Value}(b:fv c w wr db d a f l e vB kvs Ks bvs bs st)(t:H_ wr h r 163)(u:vB.ownBlock≠some h)(y:w.1.size<=h)(m:Nat)(o:Value):fv c w (wr.setCell (J h m) o) db d a f l e vB kvs Ks bvs bs st:=by have i:Aa _ _ (wr.setCell _ o):=(Aa.refl (λk=>k=h) _).setCell (p:=(J _ m)) (λ_=>rfl) _;have g:=cr.x t;have⟨q,n,v,x⟩:=b.u.q;exact⟨i.g b.r (g.at b.r C),b.q.g i g C C (λk j=>g.row (b.q.j k j).1 C),b.v.g i g C C C C (λk j s=>u (by rw[j,s])) (λk j=>g.row (b.v.j k j).1 C),⟨q,i.g n (g.at n C),v,x⟩,i.row b.x (g.row b.x C),b.D,b.t.setCell (p:=(J h m)) (λj=>by simp at j;omega) _,b.B,b.A,b.w,b.y⟩
def fv.i(b:fv c w wr db d a f l e vB kvs Ks bvs bs st):DkX wr db e kvs Ks:=⟨G_ 0 _ 168 (0,0) b.r,(Qb b.r).1,b.q.m r_⟩
def fv.z(b:fv c w wr db d a f l e vB kvs Ks bvs bs st):wr.cell? (J db 1)=some vB:=G_ 1 _ 168 (0,0) b.r
def fv.E{t:World}{q j m:Value}{b:BS}(g:fv c w wr db d a f l e vB kvs Ks bvs bs st)(A:wr.grownBy t vB.ownBlock)(L:t.ownsRow 0 163 2 q (bs.length+1) (Od bvs++[j,m]))(G:q.ownBlock=vB.ownBlock∨q.ownBlock=some wr.1.size)(B:Ad wr c j (An b.fs))(P:j.ownBlock≠some a)(H:Hv wr c m b.N b.g):fv c w (t.setCell (J db 1) q) db d a f l e q kvs Ks (bvs++[(j,m)]) (bs++[b]) st:=by
 have n:=(Aa.refl _ _).grown A (λs hk _=>hk);have k:=cr.q g.v.row;have⟨F,u,M,N⟩:=g.u.q;have z:=n.g g.r (k.at g.r C);have v:Aa _ _ (t.setCell _ q):=(Aa.refl (λs=>s=db) _).setCell (p:=(J _ 1)) (λ_=>rfl) _;have p:=cr.x z;have D:=g.q.g n k C C (λh i=>k.row (g.q.j h i).1 C);have E:=n.row g.x (k.row g.x C)
 have x:Ok c t q (bvs++[(j,m)]) (bs++[b]):=by
  refine⟨by rw[Qe,Uv];exact L,by simp[g.v.len],λh i=>?_⟩;rw[Qe] at i;simp at i
  by_cases o:h<bs.length
  have r:(bvs++[(j,m)]).getD h Ld=bvs.getD h Ld:=(by simp[getD,getElem?_append_left (show h<bvs.length by rw[g.v.len];exact o)]);have s:(bs++[b]).getD h Db=bs.getD h Db:=w_;rw[r,s];exact⟨n.row (g.v.j h o).1 (k.row (g.v.j h o).1 C),(g.v.j h o).2.g n k C C C C⟩;have y:h=bs.length:=O;subst y;have r:(bvs++[(j,m)]).getD bs.length Ld=(j,m):=(by simp[getD,g.v.len.s]);have s:(bs++[b]).getD bs.length Db=b:=(by simp[getD]);rw[r,s];exact⟨(n.row B (k.row B C)),(H.g n k C C C C)⟩
 refine⟨?_,D.g v p C C (λh i=>p.row (D.j h i).1 C),x.g v p C C C C (p.row x.row C) (λh i=>p.row (x.j h i).1 C),⟨F,v.g (n.g u (k.at u C)) (p.at (n.g u (k.at u C)) C),M,N⟩,v.row E (p.row E C),g.D,(g.t.grown A (λs hk h=>absurd (g.B s hk) O)).setCell (p:=(J db 1)) (λ_=>.inr rfl) _,λs hk=>?_,g.A,λh i=>?_,g.y⟩;rw[hs_ _ db 1 _ 168 _ z];rfl
 ·rcases G with o|o
  rw[o] at hk;exact g.B s hk;rw[o] at hk;injection hk with hk;have:=g.t.size;omega
 rw[Qe] at i;simp at i
 by_cases o:h<bs.length
 have r:(bvs++[(j,m)]).getD h Ld=bvs.getD h Ld:=(by simp[getD,getElem?_append_left (show h<bvs.length by rw[g.v.len];exact o)]);rw[r];exact g.w h o
 have y:h=bs.length:=O;subst y;have r:(bvs++[(j,m)]).getD bs.length Ld=(j,m):=by simp[getD,g.v.len.s]
 grind
end
def Ju(a c:List Int):Nat->List Int
 |0=>c
 |b+1=>(Ju a c b).set (a.getD b 0).toNat ((Ju a c b).getD (a.getD b 0).toNat 0+1)
def be(c b:List Int):∀a,(Ju c b a).length=b.length
 |0=>rfl
 |a+1=>by simp only[Ju,length_set];exact be _ _ a
def mo{fs f:List Int}{c:Int}(e:∀a∈f,0<=a/\a<=c)(h:0<=c):∀b:Nat,∀a∈Ju fs f b,0<=a/\a<=c+b
 |0,a,d=>p_ (e a d)
 | b+1,a,d=>by
  have i:=mo (fs:=fs) e h b
  rcases mem_or_eq_of_mem_set d with g|g
  ·grind
  grind [Qf]
def Wa(a:List Nat)(b:Nat):List Nat:=if 4*nzN a<a.length then a else a.map (· %2^Lib.bitLen b)
def Zdj(n i m p d:Nat)(l:Option Addr)(v H:Value)(t:List (Value×Value))(g:List KS)(h:List Int)(c:List Nat)(e:World)(D:DkX e n v t g)(y:Ad e p (V l i m) h)(F:h.length=i)(G:i<=1000)(E:∀w∈h,0<=w/\w<g.length)(B:∀K∈g,K.e.b<=16)(r:c.length<=200)(z:∀x∈c,x<=255)(N:d<64)(R:Hv e 0 H c d):C_ 231 #[P_ n,.agg #[V l i m,H]] e (U_ (.bool (Dt g h (Wa c d))) e):=by
 rcases R with⟨o,T,rfl,u,W,rfl,M,k⟩|⟨o,T,rfl,q,U,rfl,M,k⟩
 ·have f:∀a,_->iq a 0 _ _ _ _ _:=λa b=>⟨(b.block _ (Qb k.r).1).T k.r,(Aa.a (S:=λ_=>False) b).row k.row (λ_ _=>id)⟩;unfold Wa;rw[aD o]
  exact ky n i m p u 380 371 _ _ l v t g h c e D y F G E B rfl r z (.inr ⟨rfl,rfl⟩) (λa=>k_)
   (λa b=>tj u a _ _ (G_ 0 _ 403 (0,0) (f a b).r) (G_ 1 _ 403 (0,0) (f a b).r))
   (λa b j s=>Qn u _ _ j W c a (f a b) s O)
 have A:=Gc N;have f:∀a,E_ e a->_:=λa b=>k.below b;have X:=Nat.mul_le_mul r A;unfold Wa;rw[aC o]
 refine ky n i m p q 382 323 _ _ l v t g h _ e D y F G E B s_ r (λx S=>?_) (.inl ⟨rfl,rfl⟩) (λa=>k_)
  (λa b=>tk q a _ _ (G_ 0 _ 396 (0,0) (f a b).r) (G_ 1 _ 396 (0,0) (f a b).r))
  (λa b j s=>?_)
 obtain⟨P,L,rfl⟩:=mem_map.1 S;exact aG (mod_le _ _) (z P L);have Q:j*Lib.bitLen d+Lib.bitLen d<=c.length*Lib.bitLen d:=(by rw[<- succ_mul];exact aK _ s);have L:=Nr q U _ _ _ _ j _ a (f a b) (λP=>Ix _ _ P) A Q O O;rw[Mu (c.getD j 0) (j*Lib.bitLen d) (Lib.bitLen d) (λZ P=>Mm c P)] at L
 grind
def Yr(b:List KS)(c:Nat)(d:List Int):Nat->Option (List BS×List Int×List Int)
 |0=>some ([],replicate b.length 0,d)
 | f+1=>match Yr b c d f with
  |none=>none
  |some (e,g,a)=>if(Ul b (lstK a)&&Dt b (lstK a) (Wa (Ip (lstR a) c (Cz b (lstK a))) (Cz b (lstK a))))=true then some (e++[⟨(lstK a).map Int.toNat,Ip (lstR a) c (Cz b (lstK a)),Cz b (lstK a)⟩],Ju (lstK a) g (lstK a).length,rdColR (lstR a) c (Cz b (lstK a))) else none
def Zh3(a:List KS)(c:Nat)(b:List Int){k m:Nat}(f:Yr a c b k=none)(g:k<=m):Yr a c b m=none:=by
 induction m with
 |zero=>grind
 | succ m d=>
  by_cases e:k=m+1
  ·grind
  simp only[Yr,d O]
structure BbX(d:World)(a:Nat)(c b:Value):Prop where
 r:d.1[a]? =some (O_ #[c,b] 163)
section
variable {w w2:World} {bb c d:Nat} {b a:Value}
def BbX.v(c:BbX w bb b a):w.cell? (J bb 0)=some b:=G_ 0 _ 163 (0,0) c.r
def BbX.z(c:BbX w bb b a):w.cell? (J bb 1)=some a:=G_ 1 _ 163 (0,0) c.r
def BbX.p{S:Nat->Prop}{c:Nat}(d:BbX w bb b a)(f:Aa S w w2)(g:cr S w c)(e:163≠c):BbX w2 bb b a:=⟨f.g d.r (g.at d.r e)⟩
end
def Zfd{a:List Int}(b:∀x∈a,0<=x):An (a.map Int.toNat)=a:=by
 unfold An;rw[map_map]
 conv=>rhs;rw[<- map_id a]
 grind [map_congr_left]
def BdE(i:Nat)(a h:World)(c f:Nat)(p:Value)(l:List (Value×Value))(b:List KS)(m:Option (List BS×List Int×List Int))(d:Ending):Prop:=match m with
 |none=>d=.returned (.bool false)/\Aa (λe=>e=f∨e=c) a h
 |some (j,g,n)=>d=.returned (.bool (Dj g))/\∃o k,fv i a h c f a.1.size b.length n p o l b k j g
structure BdT(d:Nat)(a wr:World)(i m l:Nat)(k:List Int)(o e:Value)(j:List (Value×Value))(f:List KS)(h:List (Value×Value))(g:List BS)(n:List Int)(b:Nat)(c p:Value)(fs:List Int):Prop where
 q:fv d a wr i m a.1.size l k o e j f h g n
 fs:Ad wr d c fs
 r:BbX wr b c p
 x:e.ownBlock≠some b
 v:a.1.size<=b
 w:c.ownBlock≠some a.1.size
section
variable {b:Nat} {w wr w2:World} {db a d bb:Nat} {l g fs:List Int} {e vB c f:Value} {kvs:List (Value×Value)} {Ks:List KS} {bvs:List (Value×Value)} {bs:List BS} {st:List Int}
def BdT.step(h:BdT b w wr db a d l e vB kvs Ks bvs bs st bb c f fs)(k:Ci w2 a g)(i:Aa (λm=>m=a) wr w2):BdT b w w2 db a d g e vB kvs Ks bvs bs st bb c f fs:=by have⟨S,n,_⟩:=h.q.u.q;have j:=cr.x n;exact⟨h.q.step k i,i.row h.fs (j.row h.fs C),h.r.p i j C,h.x,h.v,h.w⟩
def BdT.below(g:BdT b w wr db a d l e vB kvs Ks bvs bs st bb c f fs)(h:E_ wr w2):=g.step (g.q.u.below h) (.a h)
def BdT.start{bv r}(f:fv b w wr db a w.1.size d l e vB kvs Ks bvs bs st)(i:Ad w2 wr.1.size c r)(m:Ci w2 a g)(j:Aa (λn=>n=a) wr w2)(o:b<=w.1.size)(k:bb=w2.1.size):BdT b w (w2.alloc (O_ #[c,bv] 163)) db a d g e vB kvs Ks bvs bs st bb c bv r:=by have p:=f.t.size;have q:=j.size;subst k;exact⟨(f.step m j).below q_,(i.m O).below q_,⟨hn_⟩,λh=>p_ (B_ f.v.row _ h).2,O,λh=>oj_ (B_ i _ h).1 (B_ f.x w.1.size rfl).2⟩
def BdT.put(g:BdT b w wr db a d l e vB kvs Ks bvs bs st bb c f fs)(h:Nat)(i:Int):BdT b w (wr.setCell ⟨w.1.size,h,none⟩ (I i)) db a d l e vB kvs Ks bvs bs (st.set h i) bb c f fs:=by have j:Aa _ wr (wr.setCell ⟨_,h,_⟩ (I i)):=(Aa.refl (λk=>k=w.1.size) _).setCell (p:=J w.1.size h) (λ_=>rfl) _;have⟨p,n⟩:=Ac g.q.x (k:=w.1.size) rfl;exact⟨g.q.put h i,j.row g.fs (λk o m=>g.w (by rw[o,m])),g.r.p j (cr.x n) C,g.x,g.v,g.w⟩
def BdT.h(g:BdT b w wr db a d l e vB kvs Ks bvs bs st bb c f fs){h i j}(n:Hv wr b h i j):BdT b w (wr.setCell ⟨bb,1,none⟩ h) db a d l e vB kvs Ks bvs bs st bb c h fs/\Hv (wr.setCell ⟨bb,1,none⟩ h) b h i j:=by have k:Aa _ _ (wr.setCell ⟨_,1,_⟩ h):=(Aa.refl (λm=>m=bb) _).setCell (p:=J _ 1) (λ_=>rfl) _;have m:=cr.x g.r.r;exact⟨⟨g.q.h g.r.r g.x g.v 1 _,k.row g.fs (m.row g.fs C),⟨ht_ 1 _ _ _ g.r.r⟩,g.x,g.v,g.w⟩,n.g k m C C C C⟩
end
def ZlG{a:List Int}(c:∀x∈a,0<=x/\x<=255):(lstK a).length<=255/\∀b∈lstK a,0<=b:=by
 have d:=Il c 0;have e:a.headD 0=a.getD 0 0:=by cases a<;>rfl
 grind [lstK]
def Zh2{b c f e d g a}(h:Yr b c f e=some (d,g,a)):Yr b c f (e+1)=if(Ul b (lstK a)&&Dt b (lstK a) (Wa (Ip (lstR a) c (Cz b (lstK a))) (Cz b (lstK a))))=true then some (d++[⟨(lstK a).map Int.toNat,Ip (lstR a) c (Cz b (lstK a)),Cz b (lstK a)⟩],Ju (lstK a) g (lstK a).length,rdColR (lstR a) c (Cz b (lstK a))) else none:=by simp only[Yr,h]
def ZlA{c a}(d:Ul c a=true)(e:∀b∈a,0<=b):(∀b∈a,0<=b/\b<c.length)/\Cz c a<=40:=by grind [Ul]
def Zj8{a st:List Int}{c d:Nat}(g:c<a.length)(e:∀b∈a,0<=b/\b<d):∃b:Nat,a.getD c 0=b/\b<d/\Ju a st (c+1)=(Ju a st c).set b ((Ju a st c).getD b 0+1):=by have f:=e (a.getD c 0) w_;exact⟨(a.getD c 0).toNat,O,O,rfl⟩
def fh(q r w h:Nat)(i:List Int)(s:Value)(v:List (Value×Value))(d:List KS)(e:World)(A:Ci e w i)(R:H_ e r #[s,.slice none 0 0,.slice none 0 0] 168)(H:Jk q e s v d)(c5:q<=e.1.size)(f2:d.length<=1000)(c6:∀K∈d,K.e.b<=16)(d3:h<=200):Calls prog 167 #[.pointer (some ⟨r,0,none⟩),.pointer (some ⟨w,0,none⟩),.int .i64 (h:Nat)] e λn m=>BdE q e m r w s v d (Yr d h i.tail (i.headD 0).toNat) n:=by
 have e9:=Il A.a 0;have f1:i.headD 0=i.getD 0 0:=(by cases i<;>rfl);obtain⟨k,d1⟩:∃k:Nat,i.headD 0=(k:Int):=⟨(i.headD 0).toNat,O⟩;have g4:k<=255:=O;rw[show(i.headD 0).toNat=k by omega];have⟨W,N⟩:=ez_ d.length;have d2:=Gf d.length O;have⟨f5,L⟩:=M_ (e.alloc (.cells (madeCells #[I 0] d.length) 3));have F:E_ e _:=L ▸ q_;have f:Hid (fv q e f5 r w e.1.size d.length i s (.slice none 0 0) v d [] [] (replicate d.length 0)):=by refine⟨(F.block _ (Qb R).1).T R,H.below F,⟨rn_,rfl,s_⟩,A.below F,L ▸ (Ge _ e 0 O r_),s_,.a F,by simp[ownBlock],x_,s_,λg c7 n=>?_⟩;have:=(B_ (H.j g c7).1 _ n).2;omega
 have a1:=Y c6;have g5:=A.lt;have⟨f3,f4,e0⟩:=(H.m r_).a;have c3:e.cell? ⟨r,0,none⟩=some (.slice f3 d.length f4):=(by rw[<- e0];exact n_ 0 R);rw[N] at d2 f c3 f2 L;have a4:=Dz _ i _ f.u;rw[d1] at a4;generalize i.tail=B at *;clear A R H c6 e9 f1 d1 F e0;refine v_ ?_;go_wp2_with fail
 rw[<- L];apply a4.m;rintro n h1 ⟨rfl,d4,d7⟩;replace f:=Y (f.step d4 d7);clear d4 d7 d2 L c3 a4;go_wp2_with fail
 go_loopw [19] (λm a=>∃(g:Nat) (G:List BS) (o D:List Int) (X:Value) (Q:List (Value×Value)),m=.int .i64 g/\g<=k/\G.length<=g/\Hid (Yr d h B g=some (G,o,D))/\Hid (∀p∈o,0<=p/\p<=256*(g:Int))/\Hid (fv q e a r w e.1.size W D s X v d Q G o)) (λm _=>k-(intOf m).toNat)
 case atStart=>exact⟨0,[],_,B,_,_,rfl,r_,x_,by rw[<- N];rfl,λp U=>p_ (eq_of_mem_replicate U),f⟩
 clear f;obtain⟨g,G,o,D,X,Q,rfl,c7,g2,K,a3,f⟩:=hrel
 by_cases c8:g<k
 case neg=>
  obtain rfl:g=k:=O;go_wp2_with fail
  apply (Zco _ W W 0 o wr f.x f.D O).m;rintro n e4 ⟨rfl,a⟩;obtain rfl:=a.s;go_wp2;go_ret;show BdE _ _ _ _ _ _ _ _ (Yr d h B g) _;rw[K];exact⟨rfl,X,Q,N ▸ f⟩
 have⟨g3,d0⟩:=ZlG f.u.a;have⟨a2,y,a5⟩:=y3_ d0 (Zh2 K) (λA=>Zh3 d h B (k:=g+1) (m:=k) A c8);have b9:=xv _ D _ f.u;clear K d0;generalize lstK D=c,lstR D=P at *;go_wp2_with fail
 apply b9.m;rintro n e3 ⟨h0,rfl,b5,d5,d8⟩;obtain⟨t,z,rfl⟩:=b5.shape;go_upto_region 5 with fail;have a:=Y (BdT.start (bv:=.nilIface) f b5 d5 d8 c5 rfl);clear f b5 d5 d8 b9;generalize e3.alloc (.cells #[.slice t c.length z,.nilIface] 163)=f6,e3.1.size=c2 at *;have l:=a.r.v;go_wp2_with fail
 apply (Zdl r _ z q t s v d c f6 a.q.i a.fs rfl O a2 a1).m;rintro n h2 ⟨rfl,c0⟩;replace a:=Y (a.below c0);clear l c0
 cases S:Ul d c
 ·have m:=a5 (by rw[y,S];simp);go_wp2;go_ret;show BdE _ _ _ _ _ _ _ _ (Yr d h B k) _;rw[m];exact⟨rfl,a.q.t⟩
 have⟨c9,f0⟩:=ZlA S a2;have M:=Y c9;rw[S] at y;clear S c9;have⟨u,b7⟩:=ez_ (Cz d c);rw[b7] at y f0;have l:=a.r.v;go_wp2_with fail
 clear l;go_loopw [32] (λm p=>∃j:Nat,m=.int .i64 j/\j<=c.length/\Hid (BdT q e p r w W P s X v d Q G (Ju c o j) c2 (.slice t c.length z) .nilIface c)) (λm _=>c.length-(intOf m).toNat)
 case atStart=>exact⟨0,rfl,r_,a⟩
 clear a;obtain⟨j,rfl,H,a⟩:=hrel
 by_cases b3:j<c.length
 ·obtain⟨a6,rfl,_,_,a0,_⟩:=a.fs.b rfl b3;obtain⟨m,E,T,Z⟩:=Zj8 (st:=o) b3 (by rw[N] at M;exact M);rw[E] at a0;have⟨a8,a9⟩:=a.q.x.c a.q.D.s T;have U:=mo (fs:=c) a3 O j ((Ju c _ j).getD m 0) (by rw[Qc,Qd (a.q.D ▸ T)];exact Qf _);have x:=Y (a.put m ((Ju c o j).getD m 0+1));rw[<- Z] at x;clear E Z a;generalize (Ju c o j).getD m 0=p at *;have a7:_=p+1:=As O O;refine J_ ?_;exact⟨j+1,g_,b3,x⟩
 obtain rfl:j=c.length:=O;have a0:=iz _ _ _ q t s _ _ c _ a.q.i a.fs rfl O M a1;rw[b7] at a0;have l:=a.r.v;go_wp2_with fail
 apply a0.m;rintro n f7 ⟨rfl,c1⟩;replace a:=Y (a.below c1);have b8:=Y a.q.u.a;clear c1 l a0;go_wp2_with fail
 apply (Zae w h u P f7 a.q.u d3 O).m;rintro n f8 ⟨g8,rfl,b2,d6,d9⟩;obtain⟨a9,a8,rfl⟩:=b2.iface;have E:=b2.m (aG c5 a.q.t.size);replace a:=a.step d6 d9;have x:=a.r.z;have e8:=R_ 1 _ _ a.r.r;replace a:=Y (a.h E);clear d6 d9 b2 E;go_upto_region 13 with fail;clear x e8;generalize f8.setCell (J c2 1) (.iface a9 (P_ a8))=e4 at *;have l:=a.1.r.v;have x:=a.1.r.z;go_wp2_with fail
 refine(Zdj r _ z q u t s _ v d c _ e4 a.1.q.i a.1.fs rfl O M a1 (by rw[av b8 h O];exact d3) (λa6 T=>by
  unfold Ip at T;obtain⟨p,m,rfl⟩:=mem_map.1 T;have:=(Ty b8 h (show u<64 by omega)).2 p m
  omega) O a.2.zero).m ?_
 rintro n e2 ⟨rfl,a7⟩;replace a:=T_ (a.1.below a7) (a.2.below a7);clear a7 l x
 cases b4:Dt d c (Wa (Ip P h u) u)
 ·have m:=a5 (by rw[y,b4];simp);go_wp2;go_ret;show BdE _ _ _ _ _ _ _ _ (Yr d h B k) _;rw[m];exact⟨rfl,a.1.q.t⟩
 rw[b4] at y;have e5:Hid (∀p∈Ju c o c.length,0<=p/\p<=256*((g+1:Nat):Int)):=λp U=>p_ (mo (fs:=c) a3 O _ p U);clear a5 b4 a3;obtain⟨f9,g0,rfl⟩:=(a.1.q.v.m r_).a;have b0:=a.1.q.z;have l:=a.1.r.v;have x:=a.1.r.z;go_upto_region 15 with fail;refine Af (λm=>m.cell? _=some _/\m.cell? _=some _/\m.cell? _=some _) 10 k_ ⟨b0,l,x⟩ (λhHeld=>?_);refine K_ ?_;refine on_ 6 λKK hK=>?_;go_simp;refine hK _ _ ⟨X_ b0,X_ l,X_ x⟩ (λhHeld=>?_);clear hK KK;try simp only[Act.put,tA_,tB_,tC_]
 refine on_ 7 λKK hK=>?_;have Z:E_ e2 (e2.alloc (.cells #[.slice t c.length z,.iface a9 (P_ a8)] 163)).drew:=q_.drew;obtain⟨m,E⟩:_/\_:=⟨a.1.below Z,a.2.below Z⟩;refine aq_ [.slice t c.length z,.iface a9 (P_ a8)] m.q.v.row ?_;rintro g9 h3 ⟨e1,b1,c4,_,g7,g6,rfl⟩;have e6:=Y (m.q.E (b:=⟨c.map _,Ip P h u,u⟩) b1 e1 (c4.imp id And.left) (by rw[Zfd a2];exact m.fs) m.w E);have b6:=(Aa.refl _ _).grown b1 (λa6 T _=>T);have T:=b6.g m.q.r ((cr.q m.q.v.row).at m.q.r C);have e7:=n_ 1 T;have g1:=R_ 1 _ _ T;have a6:BbX _ _ _ _:=⟨b6.g m.r.r m.x⟩;refine hK _ _ ⟨e7,a6.v,a6.z⟩ (λhHeld=>?_);clear hK KK e1 b1 c4 m E Z a b0 l x b6 T a6;refine K_ ?_;refine le_ ?_;go_wp2;go_roundw;case rel=>exact⟨g+1,_,_,_,_,_,g_,c8,t_,y,e5,e6⟩
 case measure=>exact z_
def Ig(a:List XS)(x:XS):Bool:=decide (a.length=0)||decide (Mn (a.getD (a.length-1) Di) x<0)
def qj(n:Nat)(a2 a1 a3:Value)(R:List (Value×Value))(Q:List BS)(b:List XS)(x:XS)(c:World)(e:DsX c n a2 a1 a3 R Q b)(b0:b.length<=1000000):C_ 234 #[P_ n,.agg #[I (x.row:Nat),I (x.f:Nat),I (x.i:Nat)]] c (U_ (.bool (Ig b x)) c):=by
 have⟨b5,a4,Z⟩:=e.j.shape;subst Z;have T:=n_ 2 e.r;have P:=Y e.j;have H:K (∀(h:XS) (d:World),C_ 148 #[.agg #[I (h.row:Nat),I (h.f:Nat),I (h.i:Nat)],.agg #[I (x.row:Nat),I (x.f:Nat),I (x.i:Nat)]] d (U_ (.int .i64 (Mn h x)) d)):=λh d=>(Hq h x d).m (λ_ _ e=>⟨e.1,e.2.below⟩);have a8:K (Ig b x=(decide (b.length=0)||decide (Mn (b.getD (b.length-1) Di) x<0))):=rfl;generalize Ig b x=t at *;have⟨l,g⟩:=M_ (c.alloc (O_ #[I (x.row:Nat),I (x.f:Nat),I (x.i:Nat)] 184));have o:H_ l c.1.size #[I (x.row:Nat),I (x.f:Nat),I (x.i:Nat)] 184:=g ▸ (ha_ c _);have i:K (E_ c l):=(by show Below _ _ _;rw[g];exact q_);have A:=n_ 0 o;have B:=n_ 1 o;have D:=n_ 2 o;have u:=W_ i T;have M:=H.out;generalize W:b.length=p at *
 by_cases U:p=0
 ·subst U;have m:K (t=true):=w_;generalize x.row=s at *;generalize x.f=r at *;generalize x.i=q at *;refine v_ ?_;go_upto_region 1 with fail;rw[<- g];clear g;go_upto_region 2 with fail;generalize a:(-1:Int)=f;have j:decide (f<0)=true:=(by rw[<- a];rfl);go_quiet (fail);go_wp2;go_ret;exact⟨by rw[m];rfl,below_drewN i _⟩
 obtain⟨a,rfl⟩:∃a,p=a+1:=⟨p-1,O⟩;have b1:(((a+1:Nat):Int)-1)=(a:Int):=O;have a9:(a:Int)<((a+1:Nat):Int):=O;have⟨j,X,b3,a5,a6,a7⟩:=P.b W (k:=a) O;have⟨v,w,y⟩:=k3_ i a5 a6 a7;subst X;have m:K (t=decide (Mn (b.getD a Di) x<0)):=w_;have N:=M (b.getD a Di);generalize Mn (b.getD a Di) x=S at *;generalize (b.getD a Di).row=G at *;generalize (b.getD a Di).f=F at *;generalize (b.getD a Di).i=E at *;generalize x.row=s at *;generalize x.f=r at *;generalize x.i=q at *;have L:K (∀d:World,E_ l d->C_ 148 #[.agg #[I (G:Nat),I (F:Nat),I (E:Nat)],.agg #[I (s:Nat),I (r:Nat),I (q:Nat)]] d (U_ (.int .i64 S) l)):=λd z=>(N d).m (λ_ _ e=>⟨e.1,z.T (e.2.m z.size)⟩);generalize b2:a+1=a0 at *;refine v_ ?_
 go_upto_region 1 with fail;rw[<- g];clear g;go_upto_region 2 with fail;go_region_held3 (λf=>D_ f n 2 (L_ j a0 a4)/\D_ f j (a*3) (I (G:Nat))/\D_ f j (a*3+1) (I (F:Nat))/\D_ f j (a*3+2) (I (E:Nat))/\D_ f c.1.size 0 (I (s:Nat))/\D_ f c.1.size 1 (I (r:Nat))/\D_ f c.1.size 2 (I (q:Nat))) (first|exact⟨u,v,w,y,A,B,D⟩|exact⟨W_ aA u,W_ aA v,W_ aA w,W_ aA y,W_ aA A,W_ aA B,W_ aA D⟩) (first|(go_at_call 148;apply (L _ y_.drew).m;rintro f b4 ⟨rfl,aA⟩))
 have f:=Y (i.T (aA.m i.size));go_wp2;go_ret;exact⟨by rw[m];rfl,f⟩
end Go.Proofs.YtfcgnpchbcmdeaaGreat
