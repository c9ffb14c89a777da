import Derived.Test.YtfcgnpchbcmdeaaGreatZoat
namespace Go.Proofs.YtfcgnpchbcmdeaaGreat
set_option linter.all false
set_option maxRecDepth 100000
set_option maxHeartbeats 8000000
open Go.RowKit List Nat World Go.Proofs.Tryz Value IntKind Lib Region
def Ed(c:World)(b:Value)(e:World)(d:Value):Prop:=Aa (λa=>b.ownBlock=some a) c e/\∀a,d.ownBlock=some a->b.ownBlock=some a∨c.1.size<=a
def Ed.refl b a:Ed b a b a:=⟨Aa.refl _ _,λ_ c=>.inl c⟩
def Ed.T{i j k f g h}(a:Ed i f j g)(e:Ed j g k h):Ed i f k h:=by
 refine⟨a.1.c e.1 (λb c=>a.2 b c),λb c=>?_⟩
 rcases e.2 b c with d|d
 exact a.2 b d;have:=a.1.size;omega
def Ed.b{d e f v c}(a:E_ d e)(b:Ed e v f c):Ed d v f c:=
 ⟨(Aa.a a).T b.1,λi h=>(b.2 i h).imp id (λg=>aG a.size g)⟩
def Ed.a{a e c d b}(g:a.grownBy e c.ownBlock)(i:d.ownBlock=c.ownBlock∨d.ownBlock=some b/\Below b a e)(j:a.1.size<=b):Ed a c e d:=by
 refine⟨(Aa.refl _ a).grown g (λh f _=>f),λh f=>?_⟩
 grind
def yw(g:World)(f:Value)(c e:List Int)(d:Ending)(b:World):Prop:=∃a,d=.returned a/\Ax b 0 a (c++e)/\Ed g f b a
def Ax.E{e c d a b n}(f:e.ownsRow c 5 1 d (a.length+n) (a.map (int .u8)++b.map (int .u8)))(g:b.length=n):Ax e c d (a++b):=by grind [Ax]
def Sy:Nat->Int->Int
 |0,a=>a
 |b+1,a=>Sy b a/256
def Ay(b:Int):Nat->List Int
 |0=>[]
 |a+1=>Ay b a++[Sy a b%256]
theorem Dv b:∀a,(Ay b a).length=a
 |0=>rfl
 |a+1=>by simp[Ay,Dv b a]
def Zfs{b}(c: -1000000000000<=b)(d:b<=1000000000000):∀a,-1000000000000<=Sy a b/\Sy a b<=1000000000000
 |0=>⟨c,d⟩
 |a+1=>by have:=Zfs c d a;unfold Sy;omega
def Oc e f d b c j (u:Ax j 0 (V e b.length f) b)(L:d<=8)(M:b.length<=1000000)(i: -1000000000000<=c)(v:c<=1000000000000):C_ 102 #[V e b.length f,I c,I (d:Nat)] j λa g=>yw j (V e b.length f) b (Ay c d) a g:=by
 have⟨p,q⟩:=Z_ u (Zfs i v);refine v_ ?_;go_wp2_with fail
 go_loopw [0,1,8] (λn m k l=>∃(a:Nat) (g:Option Addr) (h:Nat),n=.slice g (b.length+a) h/\m=.int .i64 (Sy a c)/\k=.int .i64 a/\a<=d/\K (Ax l 0 (.slice g (b.length+a) h) (b++Ay c a)/\Ed j (.slice e b.length f) l (.slice g (b.length+a) h))) (λ_ _ k _=>d-(intOf k).toNat)
 exact⟨0,e,f,rfl,rfl,rfl,r_,by show Ax _ _ _ (b++[])/\_;rw[append_nil];exact⟨p,Ed.refl _ _⟩⟩;obtain⟨a,g,h,rfl,rfl,rfl,G,k⟩:=hrel
 by_cases H:a<d
 ·have F:=q a;have m:K (Sy (a+1) c=_/_/\b++Ay c (a+1)=_):=⟨rfl,(append_assoc _ _ _).s⟩;have l:K ((b++Ay c a).length=b.length+a):=(by show _=_;rw[Qe,Dv]);generalize Sy a c=A at *;have r:K (wr.ownsRow 0 5 1 (V g (b.length+a) h) (b.length+a) ((b++Ay c a).map (int .u8))):=(by have i:=k.1;unfold Ax at i;rw[l] at i;exact i);generalize b++Ay c a=D,w:b.length+a=E at *;go_wp2_with (at_builtin;refine ap_ [.int .u8 (A%256)] (r.alloc _) ?_)
  rintro n o ⟨z,t,s,_,N,y,x⟩;have B:K (Ax o 0 n (b++Ay c (a+1))/\Ed j (V e b.length f) o n):=(by refine⟨?_,k.2.T (Ed.b q_ (Ed.a t s s_))⟩;rw[m.2];refine Ax.E (n:=1) ?_ rfl;rw[l];exact z);subst x;refine J_ ?_;exact⟨a+1,some _,y,by rw[<- w];rfl,by rw[m.1],g_,O,w_⟩
 have m:¬a<(d:Int):=O;have l:a=d:=O;subst l;go_wp2;go_ret;exact⟨_,rfl,k⟩
def Zah(a:Int):Int:=if(bits .and .u32 a 1==1)=true then bits .xor .u32 (a/2) 3988292384 else a/2
def er:Nat->Int->Int
 |0,a=>a
 |b+1,a=>Zah (er b a)
def py(b a:Int):Int:=er 8 (bits .xor .u32 b a)
def ZfV(a:List Int):Int:=a.foldl py 4294967295
def Gp(a:List Int):Int:=bits .xor .u32 4294967295 (ZfV a)
def Pn a x b:0<=bits a .u32 x b/\bits a .u32 x b<4294967296:=by unfold bits;simp only[wrap];constructor;exact Int.emod_nonneg _ C;exact Int.emod_lt_of_pos _ C
def Zle{a}(b:0<=a/\a<4294967296):0<=Zah a/\Zah a<4294967296:=by unfold Zah;split;exact Pn _ _ _;omega
def vd{b}(c:0<=b/\b<4294967296):∀a,0<=er a b/\er a b<4294967296
 |0=>c
 |a+1=>Zle (vd c a)
def ZeF:∀(b:List Int) (a:Int),0<=a/\a<4294967296->0<=b.foldl py a/\b.foldl py a<4294967296
 |[],_,d=>d
 |c::b,a,_=>ZeF b (py a c) (vd (Pn _ _ _) 8)
def Ax.b{a h e b i d}(g:Ax a h (V e b i) d)(n:d.length=b){k}(s:k<b):∃c,e=some ⟨c,0,none⟩/\c<a.1.size/\a.cell? (J c k)=some (.int .u8 (d.getD k 0)):=by
 subst n;have l:=g
 rcases l.2 with⟨f,r⟩|⟨j,p,q,f,_,m,t,_⟩
 omega;injection f with e1 e2 e3;subst e1;refine⟨j,rfl,(Qb m).1,?_⟩;have o:a.ownsRow _ 5 1 _ _ _:=g;rw[World.ownsRow.cellAt o k O]
 grind
def uu y z a m (A:Ax m 0 (V y a.length z) a)(M:a.length<=1000000)(j:∀i∈a,0<=i/\i<256):C_ 103 #[V y a.length z] m (V_ (.int .u32 (Gp a)) m):=by
 have⟨u,F⟩:=Z_ A j;clear A j;have⟨l,q⟩:=M_ a.length;have o:=Y q.s;rw[<- q] at u M ⊢;clear q;refine v_ ?_;go_wp2_with fail
 go_loopw [9,3] (λf n c=>∃(b:Nat) (e:Int),f=.int .i64 b/\n=.int .u32 e/\b<=l/\K (e=(a.take b).foldl py 4294967295)/\K (m=c)) (λf _ _=>l-(intOf f).toNat)
 exact⟨0,4294967295,rfl,rfl,r_,rfl,rfl⟩;obtain⟨b,e,rfl,rfl,a1,h,k⟩:=hrel;have r:=k.out;subst r;clear k;have E:0<=e/\e<4294967296:=h ▸ (ZeF _ _ C)
 by_cases D:b<l
 ·have⟨a4,H,a2,R⟩:=u.b o D;subst H;have B:b<a.length:=o ▸ D;have p:a.getD b 0=a[b]:=w_
  have v:K ((a.take (b+1)).foldl py 4294967295=er 8 (bits .xor .u32 e (a.getD b 0))):=(by show _=_;rw[Qi B,foldl_append,<- h,p];rfl);have L:0<=a.getD b 0/\a.getD b 0<256:=p ▸ (F _ (Qf _));clear p h B;generalize a.getD b 0=i at *;obtain⟨_⟩:=E;obtain⟨W,X⟩:=L;have Q:=F_ b l;have s:=Pn .xor e i;go_wp2_with fail
  generalize bits .xor .u32 e i=g at *;have G:=Y s;clear s;go_loopw [17,3] (λf n t=>∃(d:Nat) (c:Int),f=.int .i64 d/\n=.int .u32 c/\d<=8/\K (c=er d g)/\K (m=t)) (λf _ _=>8-(intOf f).toNat)
  exact⟨0,g,rfl,rfl,r_,rfl,rfl⟩;obtain⟨d,c,rfl,rfl,Z,f,k⟩:=hrel;have r:=k.out;subst r;clear k;have N:0<=c/\c<4294967296:=f ▸ (vd G d);obtain⟨_⟩:=N
  by_cases a0:d<8
  ·have P:(d:Int)<8:=O;have s:=Pn .xor (c/2) 3988292384;have a3:=Pn .and c 1;have w:K (er (d+1) g=if(bits .and .u32 c 1==1)=true then bits .xor .u32 (c/2) 3988292384 else c/2):=(by show Zah (er d g)=_;rw[<- f];rfl);generalize S:bits .and .u32 c 1=t,T:bits .xor .u32 (c/2) 3988292384=x at *
   by_cases j:(t==1)=true
   ·have n:K (x=er (d+1) g):=w_;clear w f;refine J_ ?_;exact⟨d+1,x,g_,rfl,O,n,True.intro⟩
   have U:(t==1)=false:=by simpa using j
   have n:K (c/2=er (d+1) g):=w_;clear w f j;refine J_ ?_;exact⟨d+1,c/2,g_,rfl,O,n,True.intro⟩
  have w:¬(d:Int)<8:=O;have t:d=8:=O
  have n:K (c=(a.take (b+1)).foldl py 4294967295):=(by show _=_;rw[v,<- t];exact f);clear t f v;refine J_ ?_;exact⟨b+1,c,g_,rfl,O,n,True.intro⟩
 have d:¬b<(l:Int):=O;have c:a.take b=_:=aI (p_ o.out);have n:K (e=ZfV a):=(by have:=h.out;rw[c] at this;exact this);clear c h;obtain⟨_⟩:=E;go_wp2;go_ret;unfold Gp;rw[<- n];exact⟨rfl,rfl⟩
def es f h a6 a1 d i j a b (p:Oa b 0 f h a6 a1 d)(A:Ax b 0 (V i a.length j) a)(G:(slice i a.length j).ownBlock≠some h)(a2:0<d.length)(b5:d.length<=1000)(b4:a.length<=1000000):C_ 374 #[P_ f,V i a.length j] b λc k=>yw b (V i a.length j) a (100::d) c k:=by
 have⟨t,m,X⟩:=y3_ A p G;have w:=n_ 2 p.r;have b3:=(Qb p.r).1;have⟨Q,F,M,N,P⟩:=info_parts ZeY;clear A p G;generalize E:a.length=e,H:d.length=g at *;have l:=T_ E H;clear E H;refine v_ ?_;go_upto_region 1 with fail;refine Af (λk=>k.cell? _=some _) 8 k_ w (λhHeld=>?_);refine K_ ?_;refine K_ ?_;refine K_ ?_;refine K_ ?_;refine K_ ?_;refine on_ 1 λKK hK=>?_;go_simp;refine hK _ _ (X_ w) (λhHeld=>?_);clear hK KK;try simp only[Act.put,sA,sB,sC]
 refine on_ 2 λKK hK=>?_;have L:b.ownsRow 0 5 1 (V i e j) e (a.map (int .u8)):=(by have c:=t.out;unfold Ax at c;rw[l.1] at c;exact c);apply Kg rfl _ _ 66 rfl 0 5 Q _ 1 1 underlying66 F M N P rfl C _ e _ j_ (ra_ (w:=b.drew) L _) _ 1 1 [.int .u8 100] j_ rfl (one_new _ _ 5) (by intro y k;simp at k;rcases k with rfl;rfl) C m_ O s_;rintro b8 a9 ⟨T,z,x,_,S,R,a3⟩;have D:E_ b (b.drew.alloc (O_ #[.int .u8 100] 5)):=((br_ _ b).drew).alloc x_ _;have o:=Ed.b D (Ed.a z x x_);have r:=o.1.g m.r (λc=>Ah L c m.r C rfl);have B:Ax _ 0 _ _:=o.1.row m.row (λa5 k c=>X (by simp[ownBlock] at k;rw[k];exact c))
 have v:a9.cell? (J f 2)=some (L_ h g g):=(by have c:=n_ 2 r;rw[l.2] at c;exact c);have⟨q,Z,u⟩:=y3_ o B T;subst a3;clear T z x D o r B;refine hK _ _ v (λhHeld=>?_);clear hK KK;try simp only[Act.put,sA,sB,sC]
 refine on_ 7 λKK hK=>?_
 refine Kg rfl (.tmp 7) (.tmp 11) 66 rfl 0 5 Q (.int .u8 0) 1 1 underlying66 F M N P rfl C (L_ S (e+1) R) (e+1) (a.map (int .u8)++[.int .u8 100]) j_ u.out ⟨h,0,none⟩ g g (d.map (int .u8)) j_ (by rw[length_map,l.out.2,Nat.mul_one]) (λn y k=>by
  have c:=Z.out;unfold Ax at c;have a0:n<d.length:=w_;have U:=World.ownsRow.cellAt c n O;rw[k] at U
  have W:((J h 0):Addr).add n=(J h n):=by
   by_cases s:n=0
   subst s;rfl;simp[Addr.add,s]
  grind) (by intro y k;obtain⟨n,_,rfl⟩:=mem_map.1 k;rfl) a2 m_ O r_ ?_
 rintro U s ⟨a7,n,y,_,b7,b6,a4⟩
 have W:K (Ax s 0 U (a++100::d)/\Ed b (V i e j) s U):=by
  refine⟨?_,q.T (Ed.a n y x_)⟩;unfold Ax;have c:(a++100::d).length=e+1+g:=by rw[Qe,length_cons,l.1,l.2];omega
  grind
 have a0:s.cell? (J f 2)=some (L_ h g g):=by
  have a8:=(Aa.refl _ _).grown n (λa5 k _=>k)
  have k:¬(L_ S (e+1) R).ownBlock=some f:=λc=>by
   have⟨b0,b2⟩:=Ac u c
   have r:=q.1.g m.r (λc=>by
    have⟨a5,b1⟩:=Ac t c;have:=m.r
    grind)
   grind
  rw[cb_ (a:=(J f 2)) (a8.block f (p_ q.1.size) k)];exact v
 subst a4;clear a7 n y;refine hK _ _ a0 (λhHeld=>?_);clear hK KK;try simp only[Act.put,sA,sB,sC]
 refine le_ ?_;go_wp2;go_ret;exact⟨_,rfl,W⟩
def Bh(b:List (Nat×Nat))(a:Nat):Int:=if a=0 then -1 else(b.getD (a-1) (0,0)).1
def Rh(a:List (Nat×Nat)):Nat->List Int
 |0=>[]
 |b+1=>Rh a b++[((a.getD b (0,0)).1-Bh a b)%256,(a.getD b (0,0)).2%256]
theorem Nz b:∀a,(Rh b a).length=a*2
 |0=>rfl
 |a+1=>by simp[Rh,Nz b a];omega
def Rm(a:List (Nat×Nat)):List Int:=[115,(a.length:Int)%256]++Rh a a.length
def sd:∀(c:List (Nat×Nat)) (b:Nat),b<c.length->∀a,a<2->(Sh c)[b*2+a]? =(Ry (c.getD b (0,0)))[a]?
  |[],b,d=>by simp at d
  |f::c,0,_=>λa e=>by grind [Sh,Ry]
  |f::c,b+1,d=>λa e=>by simp only[Sh];rw[getElem?_append_right (by simp[Ry];omega),show(b+1)*2+a-(Ry f).length=b*2+a by simp[Ry];omega];exact sd c b (by simpa using d) a e
def Wj.b{c l f m a}(i:Wj c l (V f a.length m) a){k}(p:k<a.length):∃d,f=some ⟨d,0,none⟩/\d<c.1.size/\c.cell? (J d (k*2))=some (I (a.getD k (0,0)).1)/\c.cell? (J d (k*2+1))=some (I (a.getD k (0,0)).2):=by
 have n:=i
 rcases n.2 with⟨g,v⟩|⟨h,t,u,g,_,o,w,_⟩
 omega;injection g with e1 e2 e3;subst e1;have r:c.ownsRow _ _ 2 _ _ _:=i
 have j:∀b e,b<2->(Ry (a.getD k (0,0)))[b]? =some e->c.cell? (J h (k*2+b))=some e:=λb e q s=>by rw[World.ownsRow.cellAt r (k*2+b) O];exact(sd a k p b q).T s
 exact⟨h,rfl,(Qb o).1,j 0 _ O rfl,j 1 _ O rfl⟩
def bj B a9 M c7 b h j c f (m:iq f 0 B a9 M c7 b)(z:Ax f 0 (V h c.length j) c)(d5:b.length<=1000)(a5:∀x∈b,x.1<=1000/\x.2<=1000)(d9:c.length<=1000000):C_ 370 #[P_ B,V h c.length j] f λl a=>yw f (V h c.length j) c (Rm b) l a:=by
 have⟨d1,q,E⟩:=y3_ z m a5;have⟨H,L,c5⟩:=m.row.shape;subst c5;have b9:=n_ 2 m.r;have s:K _:=z;have b6:K (Rm b=_++_):=rfl;clear z m a5;generalize W:c.length=e,a4:b.length=d at *;have p:=T_ W a4;clear W a4;refine v_ ?_;go_wp2_with (at_builtin;refine ap_ [.int .u8 115,.int .u8 ((d:Int)%256)] (s.alloc _) ?_)
 rintro e7 c8 ⟨b0,Q,P,_,e5,e3,c3⟩;have A:=Ed.b q_ (Ed.a Q P s_);have R:Ax _ 0 _ (_++[_,_]):=Ax.E (n:=2) (p.1 ▸ b0) rfl;subst c3
 have F:K (∀v b2,Ed f (V h e j) v b2->iq v 0 B a9 M (V H d L) b):=λv b2 S=>by refine⟨S.1.g q.r (λl=>Ah s l q.r C rfl),S.1.row q.row (λa a2 l=>?_)⟩;have⟨i,g⟩:=Ac q.row a2;exact Ah s l g C rfl
 have r:=T_ A R;have b8:c8.cell? _=some (V _ _ _):=G_ 2 _ _ _ (F _ _ A).r;clear b0 Q P A R b9;go_wp2_with fail
 go_loopw [1,5,22] (λo n g l=>∃(a:Nat) (i:Option Addr) (k:Nat),o=.slice i (e+2+a*2) k/\n=.int .i64 (Bh b a)/\g=.int .i64 a/\a<=d/\K (Ax l 0 (.slice i (e+2+a*2) k) (c++[115,(d:Int)%256]++Rh b a)/\Ed f (.slice h e j) l (.slice i (e+2+a*2) k))) (λ_ _ g _=>d-(intOf g).toNat)
 exact⟨0,_,_,rfl,rfl,rfl,r_,by show Ax _ _ _ (_++[])/\_;rw[append_nil];exact⟨r.2,r.1⟩⟩;clear r b8;obtain⟨a,i,k,rfl,rfl,rfl,a2,g⟩:=hrel
 by_cases c1:a<d
 ·have m:=F _ _ g.2;have a3:a<b.length:=p.2 ▸ c1;have a7:=m.row;have a8:Wj wr 0 (V H b.length L) b:=p.2 ▸ a7;have⟨e4,c2,e0,c9,d0⟩:=a8.b a3;subst c2;have a1:b.getD a (0,0)=b[a]:=w_;have a6:=E _ (Qf a3);rw[<- a1] at a6;have u:K (c++[115,(d:Int)%256]++Rh b (a+1)=(c++[115,(d:Int)%256]++Rh b a)++[((b.getD a (0,0)).1-Bh b a)%256,(b.getD a (0,0)).2%256]/\Bh b (a+1)=(b.getD a (0,0)).1):=⟨by simp[Rh],by simp[Bh]⟩
  have c0: -1<=Bh b a/\Bh b a<=1000:=by
   unfold Bh;split;omega;have n:a-1<b.length:=O;have l:b.getD (a-1) (0,0)=b[a-1]:=w_;have o:=(E _ (Qf n)).1
   grind
  have D:K ((c++[115,(d:Int)%256]++Rh b a).length=e+2+a*2):=(by show _=_;rw[Qe,Qe,Nz,p.1];rfl);have t:K (wr.ownsRow 0 5 1 (V i (e+2+a*2) k) (e+2+a*2) ((c++[115,(d:Int)%256]++Rh b a).map (int .u8))):=(by have l:=g.1;unfold Ax at l;rw[D] at l;exact l);generalize c++[115,(d:Int)%256]++Rh b a=d2,Bh b a=w at *;obtain⟨e1,e2⟩:=a6;obtain⟨d6,d7⟩:=c0;clear a1 a7 a8 m;generalize (b.getD a (0,0)).1=n,(b.getD a (0,0)).2=o,X:e+2+a*2=G at *;have b5:=Y X;have d8:G<=1002002:=O;clear X;have d3:=F_ a d;go_wp2_with (at_builtin;refine ap_ [.int .u8 (((n:Int)-w)%256),.int .u8 ((o:Int)%256)] ((t.alloc _).alloc _) ?_)
  rintro b3 b4 ⟨b1,y,N,_,e6,c6,c4⟩;have a0:Below _ wr ((wr.alloc (O_ #[I (n:Nat),I (o:Nat)] 405)).alloc (O_ #[.int .u8 (((n:Int)-w)%256),.int .u8 ((o:Int)%256)] 5)):=q_.alloc s_ _;have U:((wr.alloc (O_ #[I (n:Nat),I (o:Nat)] 405)).alloc (O_ #[.int .u8 (((n:Int)-w)%256),.int .u8 ((o:Int)%256)] 5)).1[wr.1.size]? =_:=(hc_ s_).T hn_
  have T:=(y.block _ t_ (λl=>by
   have:=(B_ t _ l.s).2
   omega)).T U
  have d4:=n_ 0 T;have l:K (Ax b4 0 b3 (c++[115,(d:Int)%256]++Rh b (a+1))/\Ed f (V h e j) b4 b3):=(by refine⟨?_,g.2.T (Ed.b a0 (Ed.a y N s_))⟩;rw[u.1];refine Ax.E (n:=2) ?_ rfl;rw[D];exact b1);subst c4;have b7:=Y u.2;clear b1 y N t g a0 U T u c9 d0;have Z:G+2=e+2+(a+1)*2:=p_ b5.out;rw[Z] at l ⊢;clear Z;refine J_ ?_;exact⟨a+1,some _,c6,rfl,by rw[b7],g_,O,l⟩
 have t:¬a<(d:Int):=O;have o:a=d:=O
 have n:K (Ax wr 0 (V i (e+2+a*2) k) (c++Rm b)/\Ed f (V h e j) wr (V i (e+2+a*2) k)):=by
  refine⟨?_,g.2⟩;rw[b6,<- append_assoc];have l:=g.1
  grind
 clear o g;go_wp2;go_ret;exact⟨_,rfl,n⟩
def Zg j m T z e f g a b (r:Oa b 0 j m T z e)(F:Ax b 0 (V f a.length g) a)(N:(slice f a.length g).ownBlock≠some m)(P:e.length=0)(Z:a.length<=1000000):C_ 374 #[P_ j,V f a.length g] b λc k=>yw b (V f a.length g) a (100::e) c k:=by
 have⟨v,i,y⟩:=y3_ F r N;have q:=n_ 2 r.r;generalize M:a.length=d,R:e.length=t at *;have h:=T_ M R;refine v_ ?_;go_upto_region 1 with fail;refine Af (λk=>k.cell? _=some _) 8 k_ q (λhHeld=>?_);refine K_ ?_;refine K_ ?_;refine K_ ?_;refine K_ ?_;refine K_ ?_;refine on_ 1 λKK hK=>?_;go_simp;refine hK _ _ (X_ q) (λhHeld=>?_);try simp only[Act.put,sA,sB,sC]
 refine on_ 2 λKK hK=>?_;have s:b.ownsRow 0 5 1 (V f d g) d (a.map (int .u8)):=(by have c:=v.out;unfold Ax at c;rw[h.1] at c;exact c);refine aq_ [.int .u8 100] (ra_ (w:=b.drew) s _) ?_;rintro a1 n ⟨U,E,A,_,u,l,S⟩;have L:E_ b (b.drew.alloc (O_ #[.int .u8 100] 5)):=((br_ _ b).drew).alloc x_ _;have k:=Ed.b L (Ed.a E A x_);have G:=k.1.g i.r (λc=>Ah s c i.r C rfl);have H:Ax _ 0 _ _:=k.1.row i.row (λp o c=>y (by simp[ownBlock] at o;rw[o];exact c));have p:D_ n j 2 (L_ m t t):=(by have c:=n_ 2 G;rw[h.2] at c;exact c);have⟨w,W,o⟩:=y3_ k H U;subst S;refine hK _ _ p (λhHeld=>?_);try simp only[Act.put,sA,sB,sC]
 refine on_ 7 λKK hK=>?_;have Q:=P;subst Q
 have X:d+1<=l:=by
  rcases o.out.2 with⟨c,_⟩|⟨D,x,B,c,_,_,a0,_⟩
  ·cases c
  grind
 go_simp;have x:K (Ax n 0 (L_ u (d+1) l) (a++100::e)/\Ed b (V f d g) n (L_ u (d+1) l)):=(by refine⟨?_,w⟩;unfold Ax;have c:=length_eq_zero_iff.1 h.2;have B:(a++100::e).length=d+1:=(by rw[c,Qe,h.1];rfl);have D:(a++100::e).map (int .u8)=a.map (int .u8)++[.int .u8 100]:=(by rw[c];simp);rw[B,D];exact o);refine hK _ _ p (λhHeld=>?_);try simp only[Act.put,sA,sB,sC]
 refine la1_ λKK hK=>?_;go_simp;apply hK _ _;try simp only[Act.put,sA,sB,sC]
 refine Fn k_ ?_ _;go_wp2;go_ret;exact⟨_,rfl,x⟩
structure Hw(a d)(c)(e):Prop where
 o:E_ a d
 x:Ax d 0 c e
 B:∀b,c.ownBlock=some b->a.1.size<=b
def io(d:World)(a:List Int)(e:Ending)(f:World):Prop:=∃b c,e=.returned (.slice b a.length c)/\Hw d f (V b a.length c) a
def Hw.n{f j d i c k e}(a:Hw f j i k)(m:Ax d 0 c e)(g:Ed j i d c):Hw f d c e:=by
 refine⟨a.o.T (g.1.b a.o.size (λh b=>a.B h b)),m,λh l=>?_⟩
 rcases g.2 h l with b|b
 exact a.B h b;exact aG a.o.size b
def Hw.below{b f g e c}(a:Hw b f e c)(d:E_ f g):Hw b g e c:=⟨a.o.T (d.m a.o.size),(Aa.a (S:=λ_=>False) d).row a.x (λ_ _=>id),a.B⟩
def yw.out{b g h f a e c}(k:Hw b g f a)(l:yw g f a e c h):io b (a++e) c h:=by obtain⟨n,rfl,d,m⟩:=l;obtain⟨i,j,rfl⟩:=d.a;exact⟨i,j,rfl,k.n d m⟩
def Zf i f h g e b c a d (k:Oa d 0 i f h g e)(j:Ax d 0 (V b a.length c) a)(m:(slice b a.length c).ownBlock≠some f)(o:e.length<=1000)(l:a.length<=1000000):C_ 374 #[P_ i,V b a.length c] d λn p=>yw d (V b a.length c) a (100::e) n p:=by
 by_cases n:e.length=0
 exact Zg _ f h g _ b c _ d k j m n l;exact es _ f h g _ b c _ d k j m O o l
def Hr(a:List Nat)(b:Nat):List Int:=if 4*nzN a<a.length then Rm (Bu a a.length) else 100::Bg (Cd a (Lib.bitLen b)) ((a.length*Lib.bitLen b+7)/8) (a.length*Lib.bitLen b)
def Rv(b:List Nat):List Int:=b.map (λa=>(a:Nat)%256)
def Dm(a:BS):List Int:=[(a.fs.length:Int)%256]++Rv a.fs++Hr a.N a.g
def Zij{a:List Nat}{b}(c:b<a.length):Rv (a.take (b+1))=Rv (a.take b)++[((a.getD b 0:Nat):Int)%256]:=by
 unfold Rv;rw[Qi c,map_append]
 grind
def Zh8{p:Prop}(h:p:=by
 clear B;go_wp2_with fail
 apply y.m;rintro c b5 ⟨H,L,rfl,f⟩;rw[<- X] at f ⊢;have⟨b0,o⟩:=M_ ((e++Dm a).length);rw[<- o] at f ⊢;have⟨A,E⟩:=Z_ o f;clear f y o;go_wp2;go_ret
 exact⟨H,L,by rw[<- A];rfl,by rw[<- A];exact E⟩):p:=h
def Zc h D w a b6 k l e r (a7:Ad h 0 (V D a.fs.length w) (An a.fs))(Q:Hv h 0 b6 a.N a.g)(R:Hw h r (V k e.length l) e)(d4:a.fs.length<=1000)(a8:∀M∈a.fs,M<=1000)(d6:e.length<=900000)(S:(Bu a.N a.N.length).length<=1000/\∀x∈Bu a.N a.N.length,x.1<=1000/\x.2<=1000)(b3:(Bg (Cd a.N (Lib.bitLen a.g)) ((a.N.length*Lib.bitLen a.g+7)/8) (a.N.length*Lib.bitLen a.g)).length<=1000):C_ 101 #[.agg #[V D a.fs.length w,b6],V k e.length l] r λc i=>io h (e++Dm a) c i:=by
 have⟨U,c1⟩:=Z_ R a7;have⟨q,g,T⟩:=Q.iface
 have F:K (∀p k l j,Hw h p (V k j.length l) j->j.length<=1000000->(q=380/\Calls prog 370 #[P_ g,V k j.length l] p λc i=>io h (j++Hr a.N a.g) c i)∨(q=382/\Calls prog 374 #[P_ g,V k j.length l] p λc i=>io h (j++Hr a.N a.g) c i)):=λp k l j s a3=>by
  rcases Q with⟨o,y,c,v,z,m,_,b⟩|⟨o,y,c,u,t,m,_,b⟩
  left;rw[T,m] at c;injection c with e3 e4;injection e4 with e4;injection e4 with e4;injection e4 with e4 _;subst e4;refine⟨e3,?_⟩;have d:=s.o;have n:iq p 0 g _ _ _ _:=⟨(d.block _ (Qb b.r).1).T b.r,(Aa.a (S:=λ_=>False) d).row b.row (λ_ _=>id)⟩;apply (bj g _ _ _ _ k l j p n s.x S.1 S.2 a3).m;intro c i f;unfold Hr;rw[aD o];exact f.out s;right;rw[T,m] at c;injection c with e3 e4;injection e4 with e4;injection e4 with e4;injection e4 with e4 _;subst e4;refine⟨e3,?_⟩;have d:=s.o;have n:Oa p 0 g _ _ _ _:=⟨(d.block _ (Qb b.r).1).T b.r,(Aa.a (S:=λ_=>False) d).row b.row (λ_ _=>id)⟩;refine(Zf g _ _ _ _ k l j p n s.x (λc=>?_) b3 a3).m ?_;have i:=s.B _ c;have f:=(B_ b.row t rfl).2;omega
  intro c i f;unfold Hr;rw[aC o];exact f.out s
 subst T;have c2:=Y a8;have Z:K _:=R.x;have b9:K (Dm a=_++_):=rfl
 have c6:q=380∨q=382:=by
  rcases F.out r k l e U O with f|f
  exact .inl f.1;exact .inr f.1
 clear a7 Q R a8 S b3;generalize a5:e.length=n,b2:a.fs.length=d at *;have t:=T_ a5 b2;clear a5 b2;refine v_ ?_;go_wp2_with (at_builtin;refine ap_ [.int .u8 ((d:Int)%256)] ((Z.alloc _).alloc _) ?_)
 rintro e1 d1 ⟨b4,N,a0,_,d9,d8,c7⟩;have a6:Below _ r ((r.alloc (O_ #[V D d w,.iface q (P_ g)] 163)).alloc (O_ #[.int .u8 ((d:Int)%256)] 5)):=q_.alloc s_ _;have a2:=Ed.b a6 (Ed.a N a0 s_);have a4:Ax _ 0 _ (_++[_]):=Ax.E (n:=1) (t.1 ▸ b4) rfl
 have P:H_ d1 r.1.size #[V D d w,.iface q (P_ g)] 163:=(N.block _ t_ (λc=>by
  have:=(B_ Z _ c.s).2
  omega)).T ((hc_ s_).T hn_)
 have a1:=U.out;have W:=T_ (a1.n a4 a2) P;have c3:=n_ 0 P;subst c7;clear b4 N a0 a2 a4 P a6 a1;go_wp2_with fail
 go_loopw [1,17] (λi c f=>∃(b:Nat) (u:Option Addr) (v:Nat),i=.slice u (n+1+b) v/\c=.int .i64 b/\b<=d/\K (Hw h f (.slice u (n+1+b) v) (e++[(d:Int)%256]++Rv (a.fs.take b))/\H_ f r.1.size #[.slice D d w,.iface q (.pointer (some ⟨g,0,none⟩))] 163)) (λ_ c _=>d-(intOf c).toNat)
 exact⟨0,_,_,rfl,rfl,r_,by rw[take_zero];show Hw _ _ _ (_++[])/\_;rw[append_nil];exact W⟩;clear W c3;obtain⟨b,u,v,rfl,rfl,d5,m⟩:=hrel;have z:K ((e++[(d:Int)%256]++Rv (a.fs.take b)).length=n+1+b):=by show _=_;rw[Qe,Qe,t.1];have o:(Rv (a.fs.take b)).length=b:=(by unfold Rv;rw[length_map,length_take,t.2];omega);rw[o];rfl
 by_cases b1:b<d
 ·have b0:b<a.fs.length:=t.2 ▸ b1;have X:=c1.below m.1.o;obtain⟨y,c4,d7,_,b8,_⟩:=X.b (by rw[Aj];exact t.2) b1;rw[Br] at b8;subst c4;have a9:a.fs.getD b 0=a.fs[b]:=w_;have c5:=c2 _ (Qf b0);rw[<- a9] at c5;have A:K (e++[(d:Int)%256]++Rv (a.fs.take (b+1))=(e++[(d:Int)%256]++Rv (a.fs.take b))++[((a.fs.getD b 0:Nat):Int)%256]):=(by show _=_;rw[Zij b0,append_assoc (e++[(d:Int)%256])]);have f:K (wr.ownsRow 0 5 1 (V u (n+1+b) v) (n+1+b) ((e++[(d:Int)%256]++Rv (a.fs.take b)).map (int .u8))):=by have o:=m.1.x;unfold Ax at o;rw[z] at o;exact o
  generalize e++[(d:Int)%256]++Rv (a.fs.take b)=G at *;clear a9 X;generalize a.fs.getD b 0=M,L:n+1+b=o at *;have c0:=Y L;have d3:o<=902002:=O;clear L;have d2:=F_ b d;go_wp2_with (at_builtin;refine ap_ [.int .u8 ((M:Int)%256)] (f.alloc _) ?_)
  rintro d0 b7 ⟨b5,E,B,_,e0,c9,c8⟩;have i:K (Hw h b7 d0 (e++[(d:Int)%256]++Rv (a.fs.take (b+1)))/\H_ b7 r.1.size #[L_ y d w,.iface q (P_ g)] 163):=(by have H:=Ed.b (v:=V _ _ _) q_ (Ed.a E B s_);refine⟨m.1.n ?_ H,H.1.g m.2 (λc=>Ah f c m.2 C rfl)⟩;rw[A];refine Ax.E (n:=1) ?_ rfl;rw[z];exact b5);subst c8;clear b5 E B f m A b8;have c:o+1=n+1+(b+1):=p_ c0.out;rw[c] at i ⊢;clear c;refine J_ ?_;exact⟨b+1,some _,c9,rfl,g_,O,i⟩
 have b8:¬b<(d:Int):=O;have a9:a.fs.take b=_:=aI (p_ t.2);have X:K (e++Dm a=(e++[(d:Int)%256]++Rv (a.fs.take b))++Hr a.N a.g):=(by show _=_;rw[b9,a9,append_assoc,append_assoc,append_assoc]);have b7:=n_ 1 m.2;have B:=Y (F _ _ _ _ (by rw[z];exact m.1) (by rw[z];omega));rw[z] at B;generalize e++[(d:Int)%256]++Rv (a.fs.take b)=G at *;clear m a9 F
 rcases c6 with rfl|rfl
 ·have y:C_ 370 #[P_ g,V u (n+1+b) v] wr λc i=>io h (G++Hr a.N a.g) c i:=by
   rcases B.out with f|f
   exact f.2;exact absurd f.1 C
  exact Zh8
 have y:C_ 374 #[P_ g,V u (n+1+b) v] wr λc i=>io h (G++Hr a.N a.g) c i:=by
  rcases B.out with f|f
  exact absurd f.1 C;exact f.2
 exact Zh8
def Li(a:List Int):List Int:=a.flatMap (λb=>Ay b 4)
def ZfL{a:List Int}{b}(c:b<a.length):Li (a.take (b+1))=Li (a.take b)++Ay (a.getD b 0) 4:=by
 unfold Li;rw[Qi c,flatMap_append]
 grind
def zp a:(Li a).length=a.length*4:=by
 induction a with
 |nil=>rfl
 | cons c a b=>
  grind [Li,Dv]
def knB(a:KS):List Int:=[110,(a.d:Int)%256,a.e.b%256]++Li a.e.g
def ev s o t p u a a7 a8 d m (M:a.e.a=false)(b3:Ad s 0 (V o a.e.g.length p) a.e.g)(G:Hw s m (V a7 d.length a8) d)(e4:a.e.g.length<=1000)(c4:∀x∈a.e.g,-1000000000000<=x/\x<=1000000000000)(e5:d.length<=900000):C_ 100 #[.agg #[.bool a.e.a,V o a.e.g.length p,V t 0 u,I a.d],V a7 d.length a8] m λf i=>io s (d++knB a) f i:=by
 rw[M];have⟨c9,d1,d4⟩:=y3_ G b3 c4;have b9:a.e.b=a.e.g.length:=by unfold ES.b Kr;rw[M];rfl
 have d2:K (knB a=[110,(a.d:Int)%256,a.e.g.length%256]++Li a.e.g):=(by show _=_;unfold knB;rw[b9]);have d0:K (∀D:_,Calls _ 169 _ D λf i=>f=.returned (.int _ ((a.e.g.length:Nat):Int))/\_):=λD=>Tm false o t _ p 0 u D;have a4:K _:=G.x;clear b3 G c4 M b9;generalize a.d=h,b8:d.length=g,c3:a.e.g.length=c at *;have n:=T_ b8 c3;clear b8 c3;refine v_ ?_;go_upto_region 4 with fail;generalize F:m.alloc (O_ #[.bool false,V o c p,V t 0 u,I (h:Nat)] 172)=P;have b2:E_ m P:=(by rw[<- F];exact q_);have l:P.1[m.1.size]? =some (O_ #[.bool false,V o c p,V t 0 u,I h] 172):=(by rw[<- F];exact hn_);have N:=(Qb l).1;have Q:=n_ 0 l;have R:=n_ 1 l;have S:=n_ 2 l;have T:=n_ 3 l;have a6:=T_ l b2;clear F b2 l
 refine Af (λi=>i.cell? _=some _/\i.cell? _=some _/\i.cell? _=some _/\i.cell? _=some _) 11 k_ ⟨Q,R,S,T⟩ (λhHeld=>?_);refine K_ ?_;refine on_ 7 λKK hK=>?_;go_simp;apply (d0 _).m;rintro f c8 ⟨rfl,b6⟩;have y:=(br_ P.1.size _).drew.T b6;have⟨w,U,W,X⟩:=k4_ y Q R S T;have e2:=Qh N y.size;go_simp;refine hK _ _ ⟨w,U,W,X⟩ (λhHeld=>?_);clear hK KK b6;refine K_ ?_;refine on_ 9 λKK hK=>?_;go_simp;refine hK _ _ ⟨X_ w,X_ U,X_ W,X_ X⟩ (λhHeld=>?_);clear hK KK;try simp only[Act.put,sA,sB,sC]
 refine on_ 10 λKK hK=>?_;have z:=a6.2.T (y.m (Nat.le_of_lt N));refine aq_ [.int .u8 110,.int .u8 ((h:Int)%256),.int .u8 ((c:Int)%256)] (ra_ (w:=c8) ((Aa.a (S:=λ_=>False) z).row a4 (λ_ _=>id)) _) ?_;rintro f2 f4 ⟨c7,E,a9,_,f0,e8,e1⟩;have b7:Below _ m (c8.alloc (O_ #[.int .u8 110,.int .u8 ((h:Int)%256),.int .u8 ((c:Int)%256)] 5)):=z.alloc z.size _;have b1:=Ed.b b7 (Ed.a E a9 x_);have b5:Ax _ 0 _ (_++[_,_,_]):=Ax.E (n:=3) (n.1 ▸ c7) rfl
 have q:=(E.block _ t_ (λf=>by
  have:=(B_ a4 _ f.s).2
  omega)).T ((hc_ e2).T ((y.block _ N).T a6.1))
 have b0:=c9.out;have B:=T_ (b0.n b5 b1) q;have Z:=n_ 0 q;have a0:=n_ 1 q;have a1:=n_ 2 q;have a2:=n_ 3 q;subst e1;clear c7 E a9 b7 b1 b5 q b0 w U W X z;refine hK _ _ ⟨Z,a0,a1,a2⟩ (λhHeld=>?_);clear hK KK;try simp only[Act.put,sA,sB,sC]
 refine le_ ?_;clear Q R S T hHeld;have d8:=n_ 1 B.2;go_wp2_with fail
 go_loopw [1,28] (λv i e=>∃(b:Nat) (j:Option Addr) (k:Nat),v=.slice j (g+3+b*4) k/\i=.int .i64 b/\b<=c/\K (Hw s e (.slice j (g+3+b*4) k) (d++[110,(h:Int)%256,(c:Int)%256]++Li (a.e.g.take b))/\e.1[m.1.size]? =some (.cells #[.bool false,.slice o c p,.slice t 0 u,.int .i64 (h:Nat)] 172 (0,0)))) (λ_ i _=>c-(intOf i).toNat)
 exact⟨0,_,_,rfl,rfl,r_,by rw[take_zero];show Hw _ _ _ (_++[])/\_;rw[append_nil];exact B⟩;clear B d8;obtain⟨b,j,k,rfl,rfl,d9,e⟩:=hrel;have e7:=(Qb e.2).1;have r:K ((d++[110,(h:Int)%256,c%256]++Li (a.e.g.take b)).length=g+3+b*4):=by show _=_;rw[Qe,Qe,zp,length_take,n.1,n.2,Nat.min_eq_left d9];rfl
 by_cases c2:b<c
 ·have c1:b<a.e.g.length:=n.2 ▸ c2;have b4:=d1.below e.1.o;have⟨e9,e0,e6,_,w,_⟩:=b4.b n.2 c2;subst e0;have c0:a.e.g.getD b 0=a.e.g[b]:=w_;have A:=d4 _ (Qf c1);rw[<- c0] at A;have a5:K (d++[110,(h:Int)%256,c%256]++Li (a.e.g.take (b+1))=(d++[110,(h:Int)%256,c%256]++Li (a.e.g.take b))++Ay (a.e.g.getD b 0) 4):=(by show _=_;rw[ZfL c1,append_assoc (d++_)]);generalize d++[110,(h:Int)%256,(c:Int)%256]++Li (a.e.g.take b)=d5 at *;clear c0 b4;generalize a.e.g.getD b 0=x at *;have a3:C_ 102 #[V j (g+3+b*4) k,I x,I 4] wr λf i=>yw wr (V j (g+3+b*4) k) d5 (Ay x 4) f i:=by have v:=e.1;rw[<- r] at v ⊢;exact Oc _ _ 4 _ x _ v.x O (by rw[r];omega) A.1 A.2
  have e3:=F_ b c;clear A hHeld Z a0 a1 a2;go_wp2_with fail
  apply a3.m;rintro f f3 ⟨f1,rfl,H,L⟩;have v:=e.1.n H L;have c6:=L.1.g e.2 (λf=>Ah e.1.x f e.2 C rfl);have⟨d6,d7,c5⟩:=H.a;rw[Qe,Dv,r,show g+3+b*4+4=g+3+(b+1)*4 by omega] at c5;subst c5;rw[<- a5] at v;have d3:=T_ v c6;clear a3 H L v c6 e a5 w;refine J_ ?_;exact⟨b+1,d6,d7,rfl,g_,O,d3⟩
 have c0:¬b<(c:Int):=O;have L:a.e.g.take b=_:=aI (p_ n.2);have A:K (Hw s wr (V j (g+3+b*4) k) (d++knB a)/\(d++knB a).length=g+3+b*4):=(by have v:=e.1;have i:=r.out;rw[L,append_assoc,<- d2] at v i;exact⟨v,i⟩);have b4:=n_ 2 e.2;clear L e r hHeld Z a0 a1 a2;obtain⟨H,a3⟩:∃H,H=wr:=⟨wr,rfl⟩;subst a3;go_wp2_with fail
 go_loopw [1,40] (λv i a5=>v=.slice j (g+3+b*4) k/\i=.int .i64 0/\K (H=a5)) (λ_ _ _=>0)
 exact⟨rfl,rfl,rfl⟩;obtain⟨rfl,rfl,i⟩:=hrel;have v:=i.out;subst v;clear i;go_wp2;go_ret;exact⟨j,k,by rw[A.2];rfl,A.2 ▸ A.1⟩
def Lm(b:List ByteArray):List Int:=b.flatMap (λa=>a.size%256::Ab a)
def Zhu{a:List ByteArray}{b}(d:b<a.length) c:Lm (a.take (b+1))=Lm (a.take b)++((a.getD b c).size:Int)%256::Ab (a.getD b c):=by
 unfold Lm;rw[Qi d,flatMap_append]
 grind
def kq(a:KS):List Int:=[119,(a.d:Int)%256,a.e.b%256]++Lm a.e.c
def Hw.q{b g f c}(a:Hw b g f c):Ax g b.1.size f c:=by
 refine⟨a.x.1,?_⟩
 rcases a.x.2 with j|⟨e,h,i,d,_,k⟩
 exact .inl j;exact .inr ⟨e,h,i,d,a.B e (by rw[d];rfl),k⟩
def Hw.a{a c e d}(f:E_ a c)(b:Ax c a.1.size e d):Hw a c e d:=by
 refine⟨f,⟨b.1,?_⟩,λi g=>(B_ b i g).1⟩
 rcases b.2 with h|⟨m,j,k,l,_,n⟩
 exact .inl h
 grind
def Bi.d{f i g d j b}(h:Bi f i (V g d j) b)(o:b.length=d){a}(s:a<d) k:∃e,g=some ⟨e,0,none⟩/\e<f.1.size/\f.cell? (J e a)=some (Q_ (b.getD a k)):=by
 have m:=h;subst o
 rcases h.2 with⟨c,r⟩|⟨l,p,q,c,_,n,_⟩
 omega;simp only[slice.injEq,true_and] at c;obtain⟨rfl,rfl⟩:=c;refine⟨l,rfl,(Qb n).1,?_⟩;rw[World.ownsRow.cellAt m a O]
 grind
theorem Rw a:(Ab a).length=a.size:=by unfold Ab;rw[length_map];rfl
def nj a:Go.Lib.strCells a=(Ab a).map (int .u8):=by unfold Go.Lib.strCells Ab;rw[map_map];rfl
def Zt i s n u o a b3 b4 e l (Z:a.e.a=true)(c3:Bi i 0 (V n a.e.c.length o) a.e.c)(X:Hw i l (V b3 e.length b4) e)(i4:a.e.c.length<=1000)(d5:∀x∈a.e.c,x.size<=8)(i6:e.length<=900000):C_ 100 #[.agg #[.bool a.e.a,V s 0 u,V n a.e.c.length o,I a.d],V b3 e.length b4] l λf b=>io i (e++kq a) f b:=by
 rw[Z];have⟨e9,f1,f5⟩:=y3_ X c3 d5;have d2:a.e.b=a.e.c.length:=by unfold ES.b Kr;rw[Z];rfl
 have f2:K (kq a=[119,(a.d:Int)%256,a.e.c.length%256]++Lm a.e.c):=by show _=_;unfold kq;rw[d2]
 have f0:K (∀P:_,Calls _ 169 _ P λf b=>f=.returned (.int _ ((a.e.c.length:Nat):Int))/\_):=λP=>Tm true s n 0 u _ o P;have⟨h4,g3,h1,h2,h3⟩:=info_parts ZeY;have b0:K _:=X.x;clear c3 X d5 Z d2;generalize a.d=h,d1:e.length=B,d4:a.e.c.length=c at *;have r:=T_ d1 d4;clear d1 d4;refine v_ ?_;go_upto_region 4 with fail;generalize U:l.alloc (O_ #[.bool true,V s 0 u,V n c o,I (h:Nat)] 172)=a1;have c1:E_ l a1:=(by rw[<- U];exact q_);have k:a1.1[l.1.size]? =some (O_ #[.bool true,V s 0 u,V n c o,I h] 172):=(by rw[<- U];exact hn_);have a0:=(Qb k).1;have a2:=n_ 0 k;have a3:=n_ 1 k;have a4:=n_ 2 k;have a5:=n_ 3 k;have b2:=T_ k c1;clear U c1 k
 refine Af (λb=>b.cell? _=some _/\b.cell? _=some _/\b.cell? _=some _/\b.cell? _=some _) 11 k_ ⟨a2,a3,a4,a5⟩ (λhHeld=>?_);refine K_ ?_;refine on_ 7 λKK hK=>?_;go_simp;apply (f0 _).m;rintro f e4 ⟨rfl,c9⟩;have D:=(br_ a1.1.size _).drew.T c9;have⟨w,a6,a7,a8⟩:=k4_ D a2 a3 a4 a5;have h0:=Qh a0 D.size;go_simp;refine hK _ _ ⟨w,a6,a7,a8⟩ (λhHeld=>?_);clear hK KK c9;refine K_ ?_;refine on_ 9 λKK hK=>?_;go_simp;refine hK _ _ ⟨X_ w,X_ a6,X_ a7,X_ a8⟩ (λhHeld=>?_);clear hK KK;try simp only[Act.put,sA,sB,sC]
 refine on_ 10 λKK hK=>?_;have E:=b2.2.T (D.m (Nat.le_of_lt a0));refine aq_ [.int .u8 119,.int .u8 ((h:Int)%256),.int .u8 ((c:Int)%256)] (ra_ (w:=e4) ((Aa.a (S:=λ_=>False) E).row b0 (λ_ _=>id)) _) ?_;rintro j1 i1 ⟨e3,Q,b6,_,h7,e0,g8⟩;have d0:Below _ l (e4.alloc (O_ #[.int .u8 119,.int .u8 ((h:Int)%256),.int .u8 ((c:Int)%256)] 5)):=E.alloc E.size _;have c0:=Ed.b d0 (Ed.a Q b6 x_);have c6:Ax _ 0 _ (_++[_,_,_]):=Ax.E (n:=3) (r.1 ▸ e3) rfl
 have p:=(Q.block _ t_ (λf=>by
  have:=(B_ b0 _ f.s).2
  omega)).T ((hc_ h0).T ((D.block _ a0).T b2.1))
 have b9:=e9.out;have G:=T_ (b9.n c6 c0) p;have e5:=n_ 0 p;have e6:=n_ 1 p;have e7:=n_ 2 p;have e8:=n_ 3 p;subst g8;clear e3 Q b6 d0 c0 c6 p b9 w a6 a7 a8 E;refine hK _ _ ⟨e5,e6,e7,e8⟩ (λhHeld=>?_);clear hK KK;try simp only[Act.put,sA,sB,sC]
 refine le_ ?_;clear a2 a3 a4 a5 hHeld;have g0:=n_ 1 G.2;clear e5 e6 e7 e8 hHeld;go_wp2_with fail
 go_loopw [1,28] (λj g b=>j=.slice (some ⟨h7,0,none⟩) (B+3) e0/\g=.int .i64 0/\K (i1=b)) (λ_ _ _=>0)
 exact⟨rfl,rfl,rfl⟩;obtain⟨rfl,rfl,d9⟩:=hrel;have g9:=d9.out;subst g9;clear d9;have g1:=n_ 2 G.2;go_wp2_with fail
 go_loopw [1,40] (λj g m=>∃(b:Nat) (t:Option Addr) (v:Nat) (d:List Int),j=.slice t d.length v/\g=.int .i64 b/\b<=c/\K (d=e++[119,(h:Int)%256,(c:Int)%256]++Lm (a.e.c.take b))/\d.length<=B+3+9*b/\K (Hw i m (.slice t d.length v) d/\m.1[l.1.size]? =some (.cells #[.bool true,.slice s 0 u,.slice n c o,.int .i64 (h:Nat)] 172 (0,0)))) (λ_ g _=>c-(intOf g).toNat)
 case atStart=>
  have b:(e++[119,(h:Int)%256,c%256]).length=B+3:=(by rw[Qe,r.1];rfl);refine⟨0,some _,e0,e++[119,(h:Int)%256,(c:Int)%256],by rw[b],rfl,r_,?_,O,?_⟩;show _=_;rw[take_zero];simp[Lm]
  grind
 clear G g1 g0;obtain⟨b,t,v,d,rfl,rfl,i5,H,g5,g⟩:=hrel
 by_cases d3:b<c
 ·have g4:b<a.e.c.length:=r.2 ▸ d3;have c4:=f1.below g.1.o;have⟨iZ,g6,i7,w⟩:=c4.d r.2 d3 ⟨#[]⟩;subst g6;have d6:(a.e.c.getD b ⟨#[]⟩).size<=8:=f5 _ w_;have b1:K (e++[119,(h:Int)%256,c%256]++Lm (a.e.c.take (b+1))=(d++[((a.e.c.getD b ⟨#[]⟩).size:Int)%256])++Ab (a.e.c.getD b ⟨#[]⟩)):=(by show _=_;rw[Zhu g4 ⟨#[]⟩,H];simp);clear c4;generalize a.e.c.getD b ⟨#[]⟩=x at *;have⟨q,W⟩:=M_ d.length;have y:=Y W;rw[<- W] at g g5 ⊢;clear W;have L:K (wr.ownsRow 0 5 1 (V t q v) q (d.map (int .u8))):=(by have j:=g.1.x;unfold Ax at j;rw[<- y] at j;exact j);have i3:=F_ b c;have M:=Y d6;clear d6;have⟨i9,d8⟩:=M_ x.size;have i2:=Y d8;clear d8;go_wp2_with (at_builtin;refine ap_ [.int .u8 _] (L.alloc _) ?_)
  rintro j0 h9 ⟨e1,b7,b5,_,h6,h5,g7⟩;have c5:Ax _ 0 _ (_++[_]):=Ax.E (n:=1) (by rw[<- y];exact e1) rfl;have R:=Ed.b q_ (Ed.a b7 b5 s_);have c7:=R.1.g g.2 (λf=>Ah L f g.2 C rfl);have F:=g.1.n c5 R;subst g7;have m:=T_ F c7;have z:K (h9.ownsRow i.1.size 5 1 (L_ h6 (q+1) h5) (q+1) ((d++[(x.size:Int)%256]).map (int .u8))):=by have j:=F.q;unfold Ax at j;rw[Qe,<- y] at j;exact j
  have d7:=F.o.size;have g2:x.size<=8->_:=λ_=>trivial;clear e1 b7 b5 c5 R c7 F L g w g2;have⟨A,S⟩:=M_ (d++[(x.size:Int)%256]);rw[<- S] at m z b1;have a9:K (A.length=q+1):=(by show _=_;rw[S,Qe,y];rfl);clear S;go_wp2_with (at_builtin;refine Go.Lib.wpList_append_own_string _ rfl (.tmp 50) (.tmp 51) 66 9 rfl i.1.size 5 h4 underlying66 underlying9 g3 h1 h2 h3 _ (q+1) _ rfl z x rfl (by have:=M.out;unfold maxLen;omega) (p_ M.out) d7 ?_)
  intro h8 i0 e2 b8 f9;have T:Ax i0 i.1.size h8 (A++Ab x):=(by unfold Ax;rw[Qe,a9,Rw,map_append,<- nj];exact e2);obtain⟨f7,f8,rfl⟩:=T.a;have N:=(Aa.refl _ _).grown b8 (λa c2 _=>c2);have c8:=N.g m.2 (λf=>Ah z f m.2 C rfl);have c2:=m.1.o.T (N.b d7 (λf4 f3=>m.1.B f4 f3));have f4:=T_ (Hw.a c2 T) c8;have f3:K ((A++Ab x).length<=B+3+9*(b+1)):=(by show _<=_;rw[Qe,a9,Rw];have:=M.out;omega);clear e2 b8 f9 T N c8 c2 m z;generalize A++Ab x=f6 at *;refine J_ ?_;exact⟨b+1,f7,f8,f6,rfl,g_,O,b1.s,f3,f4⟩
 have y:¬b<(c:Int):=O;have q:a.e.c.take b=_:=aI (p_ r.2);have m:d=e++kq a:=(by rw[H,q,f2,append_assoc]);have j:=T_ g.1 m;clear q m H g;go_wp2;go_ret;refine⟨t,v,?_,?_⟩;rw[<- j.2];rfl;rw[<- j.2];exact j.1
def Vb a c b:C_ 299 #[.agg #[I a,I c]] b (U_ (.int .i64 a) b):=by refine dl_ ?_;go_enter func299,ntmps299;go_wp2;go_ret;exact⟨rfl,q_⟩
theorem Zj2:((prog.info? 380).bind (λc=>(c.methods.find? (λa=>a.name== "Rows")).map (λa=>(a.path.toList.map (λb=>(b.struct,b.index,b.deref)),a.func))))=some ([(403,0,true)],some (299,false)):=k_
theorem Zj3:((prog.info? 382).bind (λc=>(c.methods.find? (λa=>a.name== "Rows")).map (λa=>(a.path.toList.map (λb=>(b.struct,b.index,b.deref)),a.func))))=some ([(396,0,true)],some (299,false)):=k_
def iy{g h:Type}{c a}{b:g}{d:h}(e:c.bind a=some d)(f:c=some b):a b=some d:=by subst f;exact e
def tj e c h f (o:D_ c e 0 (I h))(p:D_ c e 1 (I f)):(method 535 380 (P_ e) "Rows").run prog c=.ok (299,.agg #[I h,I f]) c:=by
 obtain⟨b,g⟩:∃b,prog.info? 380=some b:=by
  cases a:prog.info? 380 with
  |none=>grind [Zj2]
  |some b=>exact⟨b,rfl⟩
 have i:=iy Zj2 g;have⟨d,k,j⟩:=Option.map_eq_some_iff.1 i;injection j with hp hf
 obtain⟨a,m⟩:∃a,d.path.toList=[a]/\(a.struct,a.index,a.deref)=(403,0,true):=by
  cases n:d.path.toList with
  |nil=>grind
  | cons l q=>
   grind [map_eq_nil_iff]
 obtain⟨q,n⟩:=m;injection n with e1 e2;injection e2 with e2 e3;unfold method;have l:d.path=#[a]:=w_;simp[go_sem,typeInfo,g,k,l,hf,follow,e1,e2,e3,Place.get,receiverAt,o,p]
def tk e c h f (o:D_ c e 0 (I h))(p:D_ c e 1 (I f)):(method 535 382 (P_ e) "Rows").run prog c=.ok (299,.agg #[I h,I f]) c:=by
 obtain⟨b,g⟩:∃b,prog.info? 382=some b:=by
  cases a:prog.info? 382 with
  |none=>grind [Zj3]
  |some b=>exact⟨b,rfl⟩
 have i:=iy Zj3 g;have⟨d,k,j⟩:=Option.map_eq_some_iff.1 i;injection j with hp hf
 obtain⟨a,m⟩:∃a,d.path.toList=[a]/\(a.struct,a.index,a.deref)=(396,0,true):=by
  cases n:d.path.toList with
  |nil=>grind
  | cons l q=>
   grind [map_eq_nil_iff]
 obtain⟨q,n⟩:=m;injection n with e1 e2;injection e2 with e2 e3;unfold method;have l:d.path=#[a]:=w_;simp[go_sem,typeInfo,g,k,l,hf,follow,e1,e2,e3,Place.get,receiverAt,o,p]
def jq:∀(c:List (Value×Value)) (a:Nat),a<c.length->∀b,b<2->(Od c)[a*2+b]? =[(c.getD a Ld).1,(c.getD a Ld).2][b]?
  |[],a,d=>by simp at d
  |e::f,0,_=>λb g=>by grind [Od]
  |e::f,a+1,d=>λb g=>by simp only[Od];rw[getElem?_append_right t_,show(a+1)*2+b-[e.1,e.2].length=a*2+b by simp;omega];exact jq f a (by simpa using d) b g
def Ok.at{c k b e}(f:Zn4 c k b e){i}(p:i<e.length):∃d a,k=L_ d e.length a/\d<c.1.size/\c.cell? (J d (i*2))=some (b.getD i Ld).1/\c.cell? (J d (i*2+1))=some (b.getD i Ld).2:=by
 have q:=f.row
 rcases f.row.2 with⟨_,t⟩|⟨h,l,s,m,u,o,v,_⟩
 omega;subst m
 have j:∀a g,a<2->[(b.getD i Ld).1,(b.getD i Ld).2][a]? =some g->c.cell? (J h (i*2+a))=some g:=λa g n r=>by rw[World.ownsRow.cellAt q (i*2+a) O];exact(jq _ i (f.len ▸ p) a n).T r
 exact⟨h,l,rfl,(Qb o).1,j 0 _ O rfl,j 1 _ O rfl⟩
def Ok.a{g b f a}(e:Zn4 g b f a):∃c d,b=.slice c a.length d:=by
 rcases e.row.2 with⟨rfl,i⟩|⟨k,j,h,rfl,_⟩
 ·grind
 grind
def Mq n z y A r a q g (e:DsX g n z y A r a q)(o:0<a.length):C_ 51 #[P_ n] g (U_ (.int .i64 (a.getD 0 Db).N.length) g):=by
 have⟨M,F,v,L,p,l⟩:=e.v.at o;subst v;have E:=n_ 1 e.r;have H:0<(a.length:Int):=O;have m:=Y Vb;have t:=(e.v.j 0 o).2;generalize a.length=D at *;rw[show 0*2+1=1 from rfl] at l
 rcases t with⟨i,x,b,P,Q,d,_,c⟩|⟨i,x,b,G,N,d,_,c⟩
 ·rw[b,d] at l;have j:=n_ 0 c.r;have k:=n_ 1 c.r;clear c b d i;generalize (a.getD 0 Db).N.length=w,Lib.bitLen (a.getD 0 Db).g=s at *;have u:=tj _ g _ _ j k;clear e p;refine dl_ ?_;go_enter func51,ntmps51;go_wp2_with fail
  apply (m _ _ _).m;rintro b B ⟨rfl,f⟩;have h:=Y f;clear f;go_wp2;go_ret;exact⟨rfl,h⟩
 rw[b,d] at l;have j:=n_ 0 c.r;have k:=n_ 1 c.r;clear c b d i;generalize (a.getD 0 Db).N.length=w,Lib.bitLen (a.getD 0 Db).g=s at *;have u:=tk _ g _ _ j k;clear e p;go_enter func51,ntmps51;go_wp2_with fail
 apply (m _ _ _).m;rintro b B ⟨rfl,f⟩;have h:=Y f;clear f;go_wp2;go_ret;exact⟨rfl,h⟩
def Jk.a{g b f a}(e:ZfF g b f a):∃c d,b=.slice c a.length d:=by
 rcases e.row.2 with⟨rfl,i⟩|⟨k,j,h,rfl,_⟩
 ·grind
 grind
def vj d i h j g f e c b (a:Om b d i h j g f e c):C_ 93 #[P_ d] b (V_ (.int .i64 c.h.length) b):=by obtain⟨k,l,rfl⟩:=a.q.a;have m:=n_ 0 a.v.r;clear a;refine er_ ?_;exact⟨rfl,rfl⟩
def Jd e i a c b (d:On b e i a)(n:a.h.length<=1000):C_ 52 #[P_ e,I c] b (V_ (.bool (decide (0<=c/\c<=a.h.length-1))) b):=by
 have m:=n_ 0 d.g;have⟨r,q,s,o,k,h,f⟩:=d.h;have g:=vj _ _ _ _ _ _ h a b f;clear f d;generalize a.h.length=p at *;refine v_ ?_;go_wp2_with fail
 apply g.m;rintro l t ⟨rfl,j⟩;obtain rfl:=j.s;go_wp2
 all_goals go_ret
 all_goals (refine⟨?_,rfl⟩;simp<;>omega)
def Zgd d k a b (c:On b d k a)(e:0<a.g.length):C_ 26 #[P_ d] b (U_ (.int .i64 (a.g.getD 0 Db).N.length) b):=by
 have n:=n_ 0 c.g;have⟨r,q,s,o,l,j,f⟩:=c.h;have i:=Mq _ _ _ _ _ _ j b f.v e;clear f c e;generalize (a.g.getD 0 Db).N.length=p at *;refine v_ ?_;go_wp2_with fail
 apply i.m;rintro m t ⟨rfl,g⟩;have h:=Y g;clear g;go_wp2;go_ret;exact⟨rfl,h⟩
def Zau(a:World) c d:(a.freeze (J c d) 1).1.size=a.1.size/\(∀b,b≠c->(a.freeze (J c d) 1).1[b]? =a.1[b]?):=by
 unfold World.freeze
 grind
def Xf a c d:Aa (λb=>b=c) a (a.freeze (J c d) 1):=by
 have⟨g,e⟩:=Zau a c d;refine⟨?_,?_,?_,O,λb _ f=>e b f⟩
 all_goals (unfold World.freeze;grind)
def vt(d:World) b c (e:Nat) a (f:H_ d b c e):(d.freeze (J b a) 1).1[b]? =some (O_ c e (a,a+1)):=by
 unfold World.freeze
 grind
def ZfU b a e d c (f:H_ b a c 5):(convert 66 66 (L_ a e d)).run prog b=.ok (L_ a e d) (b.freeze (J a c.size) 1):=by have h:b.shape? a=some (5,c.size):=(by unfold shape?;rw[f]);have i:prog.underlying 66=some (.slice 5):=underlying66;have g:prog.underlying 5=some (.int .u8):=k_;simp[convert,run_underlying i,run_underlying g,markStringish,h]
def bm{r c d a K z y}(G:c.guard=none) s x (N:c.op=.call {callee:=.builtin .append,args:=#[s,x],argTypes:=#[66,66]}) l m t u v w W X (Q:d.eval s=L_ l 2 2)(S:d.eval x=L_ m 2 2)(E:a.1[l]? =some (O_ #[.int .u8 t,.int .u8 u] 5 W))(F:a.1[m]? =some (O_ #[.int .u8 v,.int .u8 w] 5 X))(D:∀f k,Hid (Ax k 0 f [t,u,v,w]/\f.ownBlock=some a.1.size/\E_ a k/\∃B A,f=L_ B 4 A)->K (d.put c.dst f) k):if wanted c (yielded r d.tmps)=true then Oper.wp prog c d a K z else y:=by
 have R:wanted c (yielded r d.tmps)=true:=(by simp[wanted,G]);rw[aD R];have⟨Z,L,T,p,U⟩:=info_parts ZeY
 have o:∀g i j q,a.1[g]? =some (O_ #[i,j] 5 q)->∀e h,([i,j]:List Value)[e]? =some h->a.cell? (((J g 0):Addr).add e)=some h:=λg i j q n e h b=>by
  match e,b with
  |0,b=>simp at b;subst b;simp[Addr.add,cell?,n]
  |1,b=>simp at b;subst b;simp[Addr.add,cell?,n]
  |e+2,b=>simp at b
 have P:=run_append_grow (P:=prog) (w:=a) 66 c.type 5 _ _ underlying66 L T _ 2 2 _ (by rw[p];rfl) (o _ _ _ _ E) _ 2 2 _ (by rw[p];rfl) (o _ _ _ _ F) C C (by rw[U];decide);have H:=grownCap_ge a 4 2 5;have M:=grownCap_le_maxLen a 4 2 5 C;unfold Oper.wp;simp only[execOp,N,resolve,invoke,builtin,Sem.run_bind,Sem.run_pure,Result.andThen_ok,map_toArray,map_cons,map_nil,Q,S,P];refine D _ _ ⟨⟨rfl,.inr ⟨a.1.size,grownCap a _ 2 5,_,rfl,r_,hn_,?_⟩⟩,rfl,(br_ _ a).drew.alloc x_ _,_,_,rfl⟩;refine⟨H,M,?_,?_⟩
 ·rw[Array.size_append,Array.size_append,size_zeroCells];show 2+2+_=_;simp only[Value.cells]
  grind
 simp
end Go.Proofs.YtfcgnpchbcmdeaaGreat
