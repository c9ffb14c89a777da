import Derived.Test.YtfcgnpchbcmdeaaGreatZobq
import Derived.Test.YtfcgnpchbcmdeaaGreatZobp
namespace Go.Proofs.YtfcgnpchbcmdeaaGreat
set_option linter.all false
set_option maxRecDepth 100000
set_option maxHeartbeats 8000000
open Go.RowKit List Nat World Go.Proofs.Tryz Value IntKind Lib Region
def spC(b:List Int)(d:Nat)(c:Int)(a:Cu×Int×List Int):Cu×Int×List Int:=
 if a.2.1+(Cv b 255 a.1).2<0∨(d:Int)<=a.2.1+(Cv b 255 a.1).2 then(⟨(Cv b c (Cv b 255 a.1).1).1.k,true⟩,a.2.1+(Cv b 255 a.1).2,a.2.2)
 else((Cv b c (Cv b 255 a.1).1).1,a.2.1+(Cv b 255 a.1).2,a.2.2.set (a.2.1+(Cv b 255 a.1).2).toNat ((Cv b c (Cv b 255 a.1).1).2:Nat))
def Vk(b:List Int)(a:Nat):Nat:=(b.getD (a/8) 0).toNat/2^(a%8)%2
def dnV(b:List Int)(a c:Nat):Nat:=Hc (Vk b) (c*a) a
def dnC(f:List Int)(d a:Nat)(e:Cu):Cu×List Int:=
 let b:=La f ((d*Lib.bitLen a+7)/8) e
 (⟨b.1.k,b.1.z||(range d).any λc=>decide (a<dnV b.2 (Lib.bitLen a) c)⟩,(range d).map λc=>if a<dnV b.2 (Lib.bitLen a) c then 0 else((dnV b.2 (Lib.bitLen a) c:Nat):Int))
def vaC(a:List Int)(c d:Nat)(e:Cu):Cu×List Int:=
 let b:=La a 1 e
 if b.2=[115] then((Hh (spC a c d) ((Cv a 255 b.1).1,-1,replicate c 0) (Cv a 255 b.1).2).1,(Hh (spC a c d) ((Cv a 255 b.1).1,-1,replicate c 0) (Cv a 255 b.1).2).2.2)
 else dnC a c d b.1
def Zmg{a:List Int}(g:∀d∈a,0<=d/\d<256){b:Nat}(c:b<(strOfNums a).size):((strOfNums a)[b]'c).toNat=(a.getD b 0).toNat:=by have e:b<a.length:=(by rw[Bk] at c;exact c);have:=g _ (Qf e);have f:(strOfNums a)[b]'c=UInt8.ofNat (a[b]).toNat:=(by rw[show(strOfNums a)[b]'c=(strOfNums a).data[b]'c from rfl];simp[strOfNums]);rw[f,UInt8.toNat_ofNat',Qc,Qd e];simp only[Option.getD_some];omega
structure ug(c a:World)(g h b:Nat)(l j k m:Value)(e:ByteArray)(f:Cu)(d:List Int):Prop where
 w:Oj a g e f
 D:f.k<=e.size
 v:Nh a h b l j k m
 x:Ad a c.1.size (L_ c.1.size b b) d
 n:d.length=b
 u:Aa (λi=>i=g) c a
section
variable {w W a:World} {cb db n:Nat} {vF vB vC vX:Value} {S:ByteArray} {c b:Cu} {N:List Int}
def ug.call(d:ug w W cb db n vF vB vC vX S c N)(h:Oj a cb S b)(e:b.k<=S.size)(f:Aa (λi=>i=cb) W a):ug w a cb db n vF vB vC vX S b N:=
 ⟨h,e,f.g d.v (λg=>d.v.o d.w C g.s),f.row d.x (λg e=>Ah d.x e d.w C),d.n,d.u.T f⟩
def ug.g(a:ug w W cb db n vF vB vC vX S c N):=a.call a.w.g.1 a.D a.w.g.2
def ug.below(b:ug w W cb db n vF vB vC vX S c N)(d:E_ W a):=b.call (b.w.below d) b.D (.a d)
def ug.cells(a:ug w W cb db n vF vB vC vX S c N):W.cell? (J cb 2)=some (.bool c.z)/\W.frozen? (J cb 2)=false/\W.cell? (J db 0)=some (I n):=⟨n_ 2 a.w,R_ 2 _ _ a.w,n_ 0 a.v⟩
def ug.put(a:ug w W cb db n vF vB vC vX S c N){k:Nat}(d:Int):ug w (W.setCell (J w.1.size k) (I d)) cb db n vF vB vC vX S c (N.set k d):=by have e:Aa _ W (W.setCell _ (I d)):=(Aa.refl (λb=>b=w.1.size) W).setCell (p:=(J w.1.size k)) (λ_=>rfl) _;refine⟨e.g a.w (λb=>Ah a.x (k:=w.1.size) rfl a.w C b.s),a.D,e.g a.v (λb=>Ah a.x (k:=w.1.size) rfl a.v C b.s),(a.x.put a.n.s d).1,by rw[length_set];exact a.n,?_⟩;exact a.u.c e λk b=>.inr O
end
def VaP(b c:World)(e f:Nat)(d:ByteArray)(a:Cu×List Int):Prop:=Ad c b.1.size (L_ b.1.size f f) a.2/\Oj c e d a.1/\a.1.k<=d.size/\Aa (λg=>g=e) b c
def Zbu l w (b g:Nat) M L z A (c:ByteArray)(f:Cu) i (d2:Oj i l c f)(b5:Nh i w b M L z A)(W:c.size<=4000000)(b6:f.k<=c.size)(g4:b<=200)(b7:g<64):C_ 245 #[P_ l,P_ w,I g] i λp a8=>p=.returned (.slice (some ⟨i.1.size,0,none⟩) b b)/\VaP i a8 l b c (vaC (Ab c) b g f):=by
 have⟨a1,j⟩:=ez_ (vaC (Ab c) b g f);rw[j];have q:(Ab c).length=c.size:=(by simp[Ab]);have a0:=Po c;have g3:=Gf b O
 have a9:K (ug i _ l _ b _ _ z A c f _):=
  ⟨d2.below q_,b6,(Aa.a (S:=λ_=>False) q_).g b5 id,Ge b i _ O x_,s_,(Aa.refl _ _).alloc _⟩
 have t:=n_ 0 b5;have a5:_=decide ((La _ 1 f).2=[115]):=Ze2 (Ib _ 1 f) (Nc a0 1 f) 115;unfold vaC at j;simp only at j;clear d2 b5;refine dl_ ?_;go_enter func245,ntmps245;go_upto_region 2 with fail;clear t g3;generalize i.alloc (O_ (madeCells #[I 0] b) 3)=i3 at *;go_wp2_with fail
 apply (Io _ 1 c f _ a9.w C W b6).m;rintro p e3 ⟨rfl,d3,c2⟩;have o:=Y (a9.call d3 (q ▸ Td (q ▸ b6)) c2);clear d3 c2 a9;generalize La (Ab c) 1 f=H at *
 by_cases N:H.2=[115]
 ·rw[aD N] at j;rw[aF N] at a5;clear N;go_wp2_with fail
  apply (Cg _ _ c _ _ o.w W o.D).m;rintro p h1 ⟨rfl,S,Z⟩;have D:=Y (o.call S (q ▸ Ht (q ▸ o.D)) Z);have c4:=(Je a0 255 H.1).1;clear S Z o a5;generalize Cv (Ab c) 255 H.1=R at *;obtain⟨R,v⟩:=R;have⟨G,a2⟩:=Y_ ((R,-1,replicate b 0):Cu×Int×List Int);simp only at j D c4 ⊢;rw[a2] at j;have a6:=Y a2;clear a2;go_wp2_with fail
  go_loopw [10,11] (λh e m=>∃(d:Nat) (f:Cu) (a:Int) (y:List Int),e=.int .i64 d/\h=.int .i64 a/\d<=v/\ -1<=a/\a<=256*d/\K ((f,a,y)=Hh (spC (Ab c) b g) G d)/\K (ug i m l w b M L z A c f y)) (λ_ e _=>v-(intOf e).toNat)
  case atStart=>exact⟨0,R,-1,_,rfl,rfl,r_,O,O,a6,D⟩
  clear D a6;obtain⟨d,f,a,y,rfl,rfl,c0,c7,c8,E,e⟩:=hrel;have⟨Q,a8,t⟩:=e.cells
  have F:K (f.z=true∨d=v->VaP i wr l b c a1):=λX=>by
   have p:Hh (spC (Ab c) b g) G v=(f,a,y):=by
    rcases X with r|r
    rw[E];exact Xk (by rw[<- E];exact r) c0;rw[E,r]
   rw[p] at j;rw[<- j];exact⟨e.x,e.w,e.D,e.u⟩
  by_cases c1:d<v
  ·have b2:d<(v:Int):=O
   cases r:f.z
   ·rw[r] at Q;have B:=Kv (f:=spC _ b _) (s:=G) (k:=d) (by rw[<- E];exact r);rw[<- E] at B
    have u:K (Hh (spC (Ab c) b g) G (d+1)=if a+(Cv (Ab c) 255 f).2<0∨(b:Int)<=a+(Cv (Ab c) 255 f).2 then(⟨(Cv (Ab c) g (Cv (Ab c) 255 f).1).1.k,true⟩,a+(Cv (Ab c) 255 f).2,y)
     else((Cv (Ab c) g (Cv (Ab c) 255 f).1).1,a+(Cv (Ab c) 255 f).2,y.set (a+(Cv (Ab c) 255 f).2).toNat ((Cv (Ab c) g (Cv (Ab c) 255 f).1).2:Nat))):=B
    clear B F E r;go_wp2_with fail
    apply (Cg l 255 c f wr e.w W e.D).m;rintro p c5 ⟨rfl,b0,b3⟩;have n:=Y (e.call b0 (q ▸ Ht (q ▸ e.D)) b3);have b8:=(Je a0 255 f).1;clear b0 b3 e Q a8 t;generalize Cv (Ab c) 255 f=P at *;have⟨m,T⟩:=Y_ (a+P.2);have e1:i64.wrap (a+P.2)=m:=(by rw[As O O];exact T);rw[T] at u;have c9: -1<=m/\m<=256*(d+1):=O;clear T;go_wp2_with fail
    apply (Cg l g c P.1 c5 n.w W n.D).m;rintro p e2 ⟨rfl,b1,b4⟩;have h:=Y (n.call b1 (q ▸ Ht (q ▸ n.D)) b4);clear b1 b4 n;generalize Cv (Ab c) g P.1=a4 at *;have⟨Q,a8,t⟩:=h.cells
    by_cases U:m<0∨(b:Int)<=m
    ·rw[aD U] at u;have s:K (VaP i (e2.setCell (J l 2) (.bool true)) l b c a1):=(by have p:Hh (spC (Ab c) b g) G v=(⟨a4.1.k,true⟩,m,y):=(by rw[<- u];exact Xk (by rw[u]) c1);rw[p] at j;rw[<- j];exact⟨h.g.x,h.g.w,h.g.D,h.g.u⟩);clear u h j
     by_cases x:m<0
     ·go_wp2;go_ret;exact⟨rfl,s⟩
     have a3:m≥b:=O;go_wp2;go_ret;exact⟨rfl,s⟩
    rw[aC U] at u;obtain⟨s,rfl⟩:∃s:Nat,m=s:=⟨m.toNat,O⟩;have c3:s<b:=O;have a3:¬(s:Int)<0:=O;have c6:¬(s:Int)≥b:=O;have f3:0<=(s:Int):=O;have f4:(s:Int)<b:=O;rw[Int.toNat_natCast] at u;have⟨x,a7⟩:=h.x.c h.n.s c3;have b9:=Y (h.put (k:=s) a4.2);clear h U j;refine J_ ?_;exact⟨d+1,a4.1,s,_,g_,rfl,O,O,O,u.s,b9⟩
   rw[r] at Q;have s:=F (.inl r);clear F r;go_wp2;go_ret;exact⟨rfl,s⟩
  have b2:¬d<(v:Int):=O;have s:=F (.inr O);clear F;go_wp2;go_ret;exact⟨rfl,s⟩
 rw[aC N] at j;rw[aE N] at a5;clear N;unfold dnC at j;simp only at j;have g0:=Gc b7;have g1:=Mc b7;have c4:K (∀d,d<Lib.bitLen g->0<g/2^d):=λd b4=>ja ⟨g,b7⟩ ⟨d,O⟩ b4;generalize Lib.bitLen g=a2 at *;go_upto_region 15 with fail;clear a5;go_wp2_with fail
 go_loopw [13] (λa e=>∃d:Nat,a=.int .i64 d/\d<=a2/\K (e3=e)) (λa _=>a2-(intOf a).toNat)
 case atStart=>exact⟨0,rfl,r_,rfl⟩
 obtain⟨d,rfl,b4,e0⟩:=hrel;have g7:=e0.out;subst g7;clear e0
 by_cases d8:d<a2
 ·have e8:0<=(d:Int):=O;have e9:(d:Int)<64:=O;have a:=c4 d d8;have b8:0<(g:Int)/2^d:=w_;clear a;refine J_ ?_;exact⟨d+1,g_,O,True.intro⟩
 obtain rfl:d=a2:=O;have e8:0<=(d:Int):=O;have e9:(d:Int)<64:=O;have b8:¬0<(g:Int)/2^d:=(by grind [div_eq_of_lt]);have⟨F,T⟩:=Y_ (b*d);have h4:F<=1200:=(by rw[<- T];exact Nat.mul_le_mul g4 g0);have f8:(b:Int)*d=(F:Int):=(by rw[<- T];simp);have⟨r,g5⟩:=Y_ ((F+7)/8);have e1:((F:Int)+7).tdiv 8=r:=w_;have g9:((F:Int)+7)/8=(r:Int):=O;rw[T,g5] at j;have c6:K (_/\F<=8*r):=⟨T,O⟩;have⟨_,_,t⟩:=o.cells;clear T c4 g1 b4 d8;go_wp2_with fail
 apply (Io l r c H.1 e3 o.w O W o.D).m;rintro p h1 ⟨rfl,S,Z⟩;have D:=Y (o.call S (q ▸ Td (q ▸ o.D)) Z);have c0:=Ib (Ab c) r H.1;have b9:=Nc a0 r H.1;clear S Z o e1 g9 f8 b8 t;generalize La (Ab c) r H.1=h0 at *;obtain⟨y,h⟩:=h0;simp only at j D c0 b9 ⊢;have e5:=Y b9;clear b9;have⟨v,b3⟩:=Y_ (λa=>if g<dnV h d a then(0:Int) else((dnV h d a:Nat):Int));have e4:=Y (λa=>congrFun b3 a);have⟨u,a6⟩:=Y_ (λa=>(y.z||(range a).any λa=>decide (g<dnV h d a)))
 have e7:K (∀a,u (a+1)=(u a||decide (g<dnV h d a))):=λa=>by rw[<- a6];simp[range_succ,Bool.or_assoc]
 have d0:K (u 0=y.z):=(by show _=_;rw[<- a6];simp);have c7:K (((⟨y.k,u b⟩:Cu),Cp v b b)=a1):=(by show _=_;rw[<- j,<- a6,<- b3,Id]);clear b3 a6 j;go_wp2_with fail
 go_loopw [15] (λe m=>∃a:Nat,e=.int .i64 a/\a<=b/\K (ug i m l w b M L z A c ⟨y.k,u a⟩ (Cp v b a))) (λe _=>b-(intOf e).toNat)
 case atStart=>exact⟨0,rfl,r_,by rw[d0,Ie];exact D⟩
 clear D d0;obtain⟨a,rfl,h9,e⟩:=hrel;have⟨_,_,t⟩:=e.cells
 by_cases G:a<b
 ·have b2:=F_ a b;have c3:=e4 a;have d1:=e7 a;have⟨P,U⟩:=Y_ (Cp v b a);have c8:K (P.set a (v a)=Cp v b (a+1)):=by rw[<- U];exact Jz v G
  have e6:K (P.set a 0=P):=by show _=_;rw[<- U];unfold Cp;rw[show b-a=(b-a-1)+1 by omega,replicate_succ,set_append_right _ _ s_];simp
  have c5:K (P.length=b):=(by have:=e.n;rw[U] at this;exact this);rw[U] at e;clear U;have⟨m,a4⟩:=Y_ (a*d);have h5:(a:Int)*d=(m:Int):=by rw[<- a4];simp
  have h6:m+d<=F:=by
   rw[<- a4,<- c6.1];have:(a+1)*d<=b*d:=aK _ G
   grind
  have c9:K (dnV h d a=Hc (Vk h) m d):=(by show _=_;unfold dnV;rw[a4]);clear a4;go_wp2_with fail
  rename_i i4;go_loopw [16] (λn s=>∃k:Nat,n=.int .i64 k/\k<=d/\K (ug i s l w b M L z A c ⟨y.k,u a⟩ (P.set a ((Hc (Vk h) m k:Nat):Int)))) (λn _=>d-(intOf n).toNat)
  case atStart=>exact⟨0,rfl,r_,by rw[show((Hc (Vk h) m 0:Nat):Int)=0 from rfl,e6];exact e⟩
  clear e t;obtain⟨k,rfl,h7,e⟩:=hrel
  by_cases h8:k<d
  ·have g8:=F_ k d;have i2:(k:Int)<64:=O;have⟨R,d7⟩:=Y_ (m+k);have c2:i64.wrap ((m:Int)+k)=R:=(by rw[As O O];omega);have⟨E,d4⟩:=Y_ (R/8);have⟨s,d6⟩:=Y_ (R%8);have h2:(R:Int).tdiv 8=E:=w_;have h3:(R:Int).tmod 8=s:=w_;have f5:E<r:=p_ c6.2;have g2:E<(strOfNums h).size:=(by rw[Bk,c0];exact f5);have⟨B,c1⟩:=Y_ ((h.getD E 0).toNat);have f9:((strOfNums h)[E]'g2).toNat=B:=(by rw[<- c1];exact Zmg e5 _);have i1:B<256:=(by rw[<- f9];exact UInt8.toNat_lt _);have⟨Q,X⟩:=Y_ (B/2^s%2);have f0:((B:Int)/2^s).tmod 2=Q:=by rw[<- X,show((B:Int)/2^s)=((B/2^s:Nat):Int) by simp];rfl
   have b0:K (Hc (Vk h) m (k+1)=Hc (Vk h) m k+Q*2^k):=(by show _=_;simp only[Hc];rw[d7];unfold Vk;rw[d4,d6,c1,X]);have d5:=Pw (f:=Vk h) (λn=>by unfold Vk;omega) m (k+1);have f6:2^(k+1)<=2^6:=Nat.pow_le_pow_right C O;have i0:((strOfNums h).size:Int)=r:=(by rw[Bk,c0]);have f1:=As (z:=(E:Int)) O O;have f2:=As (z:=(s:Int)) O O;have a3:=F_ E r;have f3:0<=(s:Int):=O;have f4:(s:Int)<64:=O;have⟨x,a7⟩:=e.x.c (k:=a) e.n.s G;rw[Qc,getElem?_set_self (c5 ▸ G)] at x;simp only[Option.getD_some] at x;rw[b0] at d5
   have n:K (ug i (wr.setCell (J i.1.size a) (I ((Hc (Vk h) m (k+1):Nat):Int))).drew l w b M L z A c ⟨y.k,u a⟩ (P.set a ((Hc (Vk h) m (k+1):Nat):Int))):=(by have:=e.put (k:=a) ((Hc (Vk h) m (k+1):Nat):Int);rw[set_set] at this;exact this.below y_.drew);rw[b0] at n;have f7:Hc (Vk h) m k+Q*2^k<64:=O;clear d7 d4 d6 c1 X e f6 d5;generalize Hc (Vk h) m k=b1 at *;go_upto_region 26 with fail;refine Af (λa8=>a8.cell? (J i.1.size a)=some (I (b1:Nat))/\a8.frozen? (J i.1.size a)=false) 19 k_ ⟨x,a7⟩ λhHeld=>?_;refine K_ ?_;refine le_ ?_
   have d9:i64.wrap ((b1:Int)+i64.wrap ((i64.wrap (B:Int)/2^s).tmod 2*2^k))=((b1+Q*2^k:Nat):Int):=(by rw[As (z:=(B:Int)) O O,f0];have⟨e2,a8⟩:=Y_ (Q*2^k);have g6:(Q:Int)*2^k=e2:=(by rw[<- a8];simp);rw[a8] at f7 ⊢;rw[g6,As (z:=(e2:Int)) O O,As O O];simp);rw[d9];clear d9 x a7;generalize (wr.setCell _ _).drew=e2 at *;refine J_ ?_;exact⟨k+1,g_,O,b0 ▸ n⟩
  have g8:¬k<(d:Int):=O;obtain rfl:k=d:=O;rw[<- c9] at e;have⟨x,a7⟩:=e.x.c (k:=a) e.n.s G;rw[Qc,getElem?_set_self (c5 ▸ G)] at x;simp only[Option.getD_some] at x;have⟨Q,a8,t⟩:=e.cells
  have B:K (g<dnV h k a->ug i ((wr.setCell (J l 2) (.bool true)).setCell (J i.1.size a) (I 0)) l w b M L z A c ⟨y.k,u (a+1)⟩ (Cp v b (a+1))):=λs=>by have:=e.g.put (k:=a) 0;rw[set_set] at this;rw[d1,aF s,<- c8,<- c3,aD s,Bool.or_true];exact this
  have E:K (¬g<dnV h k a->ug i wr l w b M L z A c ⟨y.k,u (a+1)⟩ (Cp v b (a+1))):=λs=>by rw[d1,aE s,<- c8,<- c3,aC s,Bool.or_false];exact e
  have⟨f1,f2⟩:=e.g.x.c (k:=a) e.g.n.s G;clear e c9;generalize dnV h k a=R at *
  by_cases s:g<R
  ·have a3:(R:Int)>g:=O;have n:=Y (B s);clear B E;refine J_ ?_;exact⟨a+1,g_,O,n⟩
  have a3:¬(R:Int)>g:=O;have n:=Y (E s);clear B E;refine J_ ?_;exact⟨a+1,g_,O,n⟩
 have b2:¬a<(b:Int):=O;obtain rfl:a=b:=O;have s:K (VaP i wr l a c a1):=(by rw[<- c7];exact⟨e.x,e.w,e.D,e.u⟩);clear c7;go_wp2;go_ret;exact⟨rfl,s⟩
structure Kn(b:List Int)(a:Cu)(c:List Int):Prop where
 z:a.z=false
 k:a.k<=b.length
 t:b.drop a.k=c
def Kn.take{b A d:List Int}{c:Cu}(a:Kn b c (A++d)){n:Nat}(e:A.length=n):(La b n c).2=A/\Kn b (La b n c).1 d:=by have f:=congrArg length a.t;rw[length_drop,Qe] at f;have g:=a.k;unfold La;rw[aD ⟨a.z,O⟩];refine⟨?_,rfl,by simp only;omega,?_⟩;simp only;rw[a.t,<- e,take_left'];rfl;simp only;rw[<- drop_drop,a.t,<- e,drop_left'];rfl
def Kn.num{a c:List Int}{b:Cu}{x:Nat}{most:Int}(d:Kn a b (((x:Nat):Int)%256::c))(h:x<256)(g:(x:Int)<=most):(Cv a most b).2=x/\Kn a (Cv a most b).1 c:=by
 have⟨e,f⟩:=Kn.take (A:=[((x:Nat):Int)%256]) d (n:=1) rfl
 grind [Cv,Ys]
def Kn.a{h k:Type}{e d:List Int}{f:Cu×h->Cu×h}{g:k->List Int}{c:List k}{A:Nat->h}{b:Cu}(i:Kn e b (c.flatMap g++d))(m:∀a (n:a<c.length) b d,Kn e b (g c[a]++d)->(f (b,A a)).2=A (a+1)/\Kn e (f (b,A a)).1 d):∀a,a<=c.length->(Hh f (b,A 0) a).2=A a/\Kn e (Hh f (b,A 0) a).1 ((c.drop a).flatMap g++d)
 |0,_=>⟨rfl,i⟩
 | a+1,n=>by
  have⟨l,j⟩:=Kn.a i m a O;rw[Kv j.z];have o:Hh f (b,A 0) a=((Hh f (b,A 0) a).1,A a):=(by rw[<- l]);rw[aN (show a<c.length by omega),flatMap_cons,append_assoc] at j
  grind
def Zmd{a:Int}(b: -2147483648<=a)(c:a<=2147483647):sgR (Ys (Ay a 4))=a:=by simp only[Ay,Sy,nil_append,cons_append,Ys,sgR];split<;>omega
def ZmT{c a e:List Int}{d:Cu}(i:Kn c d (Li a++e))(l:∀h∈a,-2147483648<=h/\h<=2147483647)(o:∀b,0<b->b<a.length->a.getD (b-1) 0<a.getD b 0):(Hh (ftS c) (d,⟨false,[],[]⟩) a.length).2=⟨false,a,[]⟩/\Kn c (Hh (ftS c) (d,⟨false,[],[]⟩) a.length).1 e:=by
 have n:=Kn.a (f:=ftS c) (A:=λb=>(⟨false,a.take b,[]⟩:ES)) i (λb f d e k=>by
  have g:=l _ (Qf f);have⟨j,m⟩:=k.take (Dv _ 4);simp only[ftS,ftN];rw[aC C,j,Zmd g.1 g.2];refine⟨by rw[Qi f],?_⟩
  grind) a.length x_
 grind
def ZnR{b e:List Int}{a:List ByteArray}{c:Cu}(l:Kn b c (Lm a++e))(f:Df a=true):(Hh (ftS b) (c,⟨true,[],[]⟩) a.length).2=⟨true,[],a⟩/\Kn b (Hh (ftS b) (c,⟨true,[],[]⟩) a.length).1 e:=by
 have o:=pd f;unfold Df Ij at f;rw[all_eq_true] at f
 have t:=Kn.a (f:=ftS b) (A:=λd=>(⟨true,[],a.take d⟩:ES)) l (λd g c e p=>by
  have u:=o _ (Qf g);have h:=f d (mem_range.2 g);have k:a.getD d ⟨#[]⟩=a[d]:=w_;rw[k,Bool.and_eq_true,Bool.not_eq_true'] at h;have⟨q,m⟩:=Kn.num (most:=8) p O O;have⟨r,s⟩:=m.take (Cf a[d])
  have i:wdT b c=(⟨(wdT b c).1,Ab a[d]⟩:Cu×List Int):=by
   unfold wdT
   grind
  have n:Kn b (wdT b c).1 e:=by
   unfold wdT
   grind
  have j:(wdT b c).2=Ab a[d]:=(by rw[i]);simp only[ftS,ftW];rw[aD trivial,j,Yk,aD h]
  exact⟨by rw[Qi g],n⟩) _ x_
 grind
def Zma{b:List Int}(c:Re b=true):∀a,0<a->a<b.length->b.getD (a-1) 0<b.getD a 0:=λa d e=>by grind [Re,Rf]
def Zos{g a:List Int}{K:KS}{i:Cu}(hK:KRt K)(e:Kn g i (Lc K++a)):(gu g i).2=K/\Kn g (gu g i).1 a:=by
 have o:=hK.ok.a;have m:=hK.ok.g;have f:=hK.ok.b;have p:=hK.ok.q;have t:=hK.num;obtain⟨⟨z,c,h⟩,d⟩:=K;unfold Wf at p;unfold Zy at f;simp only[Bool.and_eq_true] at p o m t f
 rcases p with⟨k,l,_⟩|⟨k,l,_⟩
 ·subst k l;have b:(⟨false,_,[]⟩:ES).b=c.length:=rfl;rw[b] at m o;have j:Lc ⟨⟨false,c,[]⟩,d⟩++a=[110]++(((d:Nat):Int)%256::((c.length:Nat):Int)%256::(Li c++a)):=(by unfold Lc knB;simp[b]);rw[j] at e;have⟨u,q⟩:=e.take (n:=1) rfl;have⟨v,r⟩:=q.num (most:=255) O O;have⟨w,s⟩:=r.num (most:=16) O O;have⟨x,y⟩:=ZmT s t (Zma f.1.2);unfold gu;simp only;rw[u,v,w,show decide (([110]:List Int)=[119])=false by decide,x,aD w_]
  grind
 subst k l;have b:(⟨true,[],_⟩:ES).b=h.length:=rfl;rw[b] at m o;have j:Lc ⟨⟨true,[],h⟩,d⟩++a=[119]++(((d:Nat):Int)%256::((h.length:Nat):Int)%256::(Lm h++a)):=(by unfold Lc kq;simp[b]);rw[j] at e;have⟨u,q⟩:=e.take (n:=1) rfl;have⟨v,r⟩:=q.num (most:=255) O O;have⟨w,s⟩:=r.num (most:=16) O O;have⟨x,y⟩:=ZnR s f.2;unfold gu
 grind
def Zoo{g i:List Int}{d:List Nat}{c a:Nat}{h:Cu}(k:Kn g h (Bg (Cd d (Lib.bitLen a)) ((c*Lib.bitLen a+7)/8) (c*Lib.bitLen a)++i))(m:d.length=c)(s:∀x∈d,x<=a)(n:a<64):(dnC g c a h).2=An d/\Kn g (dnC g c a h).1 i:=by
 have⟨l,q⟩:=k.take (Dg _ _ _);have r:=Mc n
 have o:∀b,b<c->dnV (Bg (Cd d (Lib.bitLen a)) ((c*Lib.bitLen a+7)/8) (c*Lib.bitLen a)) (Lib.bitLen a) b=d.getD b 0:=λb f=>by
  have j:d.getD b 0<=a:=by grind [Qf]
  unfold dnV;generalize Lib.bitLen a=e at *;have t:b*e+e<=c*e:=by rw[<- succ_mul];exact aK _ f
  rw[Mu (d.getD b 0) (b*e) e (λu p=>by grind [Vk,Kc,Tj,Ix,Mm])];exact mod_eq_of_lt O
 have j:∀b,b<c->d.getD b 0<=a:=λb f=>by grind [Qf]
 unfold dnC;simp only;rw[l];constructor
 ·refine Si (by simp[Aj,m]) (λb f=>?_)
  have e:b<c:=by simpa using f
  rw[Br,Qc,Qd f,Option.getD_some,getElem_map,getElem_range,o b e,aC (p_ (j b e))]
 have e:((range c).any λp=>decide (a<dnV (Bg (Cd d (Lib.bitLen a)) ((c*Lib.bitLen a+7)/8) (c*Lib.bitLen a)) (Lib.bitLen a) p))=false:=w_;rw[e,Bool.or_false];omega
def ZbP(a:List (Nat×Nat)):∀b,Rh a b=(range b).flatMap λc=>[((((a.getD c (0,0)).1:Nat):Int)-Bh a c)%256,(((a.getD c (0,0)).2:Nat):Int)%256]
 |0=>rfl
 |b+1=>by rw[range_succ,flatMap_append,<- ZbP a b];simp[Rh]
def ZoF{f d:List Int}{b:List Nat}{a e:Nat}{g:Cu}(y:Kn f g (Rh (Bu b a) (Bu b a).length++d))(n:a<=200)(k:b.length=a)(P:∀x∈b,x<=e)(M:e<64):(Hh (spC f a e) (g,-1,replicate a 0) (Bu b a).length).2.2=An b/\Kn f (Hh (spC f a e) (g,-1,replicate a 0) (Bu b a).length).1 d:=by
 have m:∀x∈b,x<=255:=w_;have h:=(ax n k m e d).1;have v:Rm (Bu b a)++d=115::(((Bu b a).length:Nat):Int)%256::(Rh (Bu b a) (Bu b a).length++d):=(by unfold Rm;simp);have N:=Lz b a;have w:(((((Bu b a).length:Nat):Int)%256)).toNat=(Bu b a).length:=O;rw[v] at h;unfold Hd at h;rw[aD (by rfl)] at h;have E:(Pg (replicate a 0) (Rh (Bu b a) (Bu b a).length++d) ((((Bu b a).length:Nat):Int)%256).toNat).2=An b:=h;rw[w] at E;have j:=y;rw[ZbP] at j
 have l:=Kn.a (f:=spC f a e) (A:=λc=>(Bh (Bu b a) c,(Pg (replicate a 0) (Rh (Bu b a) (Bu b a).length++d) c).2)) j (λc A g G i=>by
  rw[length_range] at A;rw[getElem_range] at i;have⟨F,_⟩:=ye n k m d c O;have⟨p,q⟩:=ZdW (Bu b a) (Bu b a).length d c O;have⟨R,S⟩:=Zkb (N:=b) (n:=a) (k:=c) O;have L:=zk (N:=b) (n:=a) (k:=c) O;have H:=zi (Bu b a) c
  have z:Bh (Bu b a) (c+1)=((((Bu b a).getD c (0,0)).1:Nat):Int):=by
   unfold Bh
   grind
  have Q:b.getD ((Bu b a).getD c (0,0)).1 0<=e:=(by grind [Qf]);obtain⟨x,o⟩:∃x:Nat,((((Bu b a).getD c (0,0)).1:Nat):Int)-Bh (Bu b a) c=x:=⟨(((((Bu b a).getD c (0,0)).1:Nat):Int)-Bh (Bu b a) c).toNat,O⟩;rw[o] at i;have⟨r,s⟩:=Kn.num (most:=255) i O O;have⟨t,u⟩:=Kn.num (most:=e) s O O;have B:Bh (Bu b a) c+(x:Int)=((((Bu b a).getD c (0,0)).1:Nat):Int):=O;have D:Bh (Bu b a) c+(x:Int)%256=((((Bu b a).getD c (0,0)).1:Nat):Int):=O;unfold spC;simp only;rw[r,B,aC O,t];refine⟨?_,u⟩;simp only[Pg];rw[F,p,q,o,D,z,aD ⟨O,w_⟩]
  rw[show(((((Bu b a).getD c (0,0)).2:Nat):Int))%256=(((Bu b a).getD c (0,0)).2:Nat) by omega]) (Bu b a).length (length_range ▸ x_)
 have o:(λc=>(Bh (Bu b a) c,(Pg (replicate a 0) (Rh (Bu b a) (Bu b a).length++d) c).2)) 0=((-1:Int),replicate a (0:Int)):=rfl;simp only[o] at l;obtain⟨q,p⟩:=l;rw[drop_eq_nil_of_le (length_range ▸ x_),flatMap_nil,nil_append] at p
 grind
def ZoK{e d:List Int}{a:List Nat}{n c:Nat}{f:Cu}(b:Kn e f (Hr a c++d))(m:n<=200)(g:a.length=n)(k:∀x∈a,x<=c)(j:c<64):(vaC e n c f).2=An a/\Kn e (vaC e n c f).1 d:=by have q:=Lz a n;unfold Hr at b;rw[g] at b;unfold vaC;simp only;split at b;have l:Rm (Bu a n)++d=[115]++((((Bu a n).length:Nat):Int)%256::(Rh (Bu a n) (Bu a n).length++d)):=(by unfold Rm;simp);rw[l] at b;have⟨i,h⟩:=b.take (n:=1) rfl;have⟨p,o⟩:=h.num (most:=255) O O;rw[i,aD rfl,p];exact ZoF o m g k j;have⟨i,h⟩:=Kn.take (A:=[100]) (n:=1) b rfl;rw[i,aC C];exact Zoo h g k j
def goF(b:Int)(d:Nat):List Nat->Bool->Option Bool
 |[],_=>none
 |a::e,c=>if a=d then some c else goF b d e (c||decide ((a:Int)=b))
def goL(a:Nat->Option Bool):List Nat->Bool
 |[]=>false
 |b::c=>(a b).getD (goL a c)
def goR(d:List KS)(a c:List (List Nat))(f e:Nat):Bool:=goL (λb=>goF (pi (Gn d a c b f)).1 e (a.getD b []) false) (range a.length)
def Zi0{c e}{a:List Nat}{b d}(g:b<a.length):goF c e (a.drop b) d=if a.getD b 0=e then some d else goF c e (a.drop (b+1)) (d||decide ((a.getD b 0:Int)=c)):=by have f:a.getD b 0=a[b]:=w_;rw[aN g,f];rfl
def Zi3{b c a}(d:a<c):goL b ((range c).drop a)=(b a).getD (goL b ((range c).drop (a+1))):=by rw[aN (by simpa using d)];simp[goL]
def ZgP a0 x (f e T:Nat) i b h X l (a1:DaV l a0 x i b h X)(L:pj x i b h)(b6:f<x):C_ 246 #[P_ a0,.agg #[I f,I e,I T]] l (U_ (.bool (goR i b h f e)) l):=by
 have⟨g,z⟩:=ez_ (goR i b h f e);rw[z];have⟨S,P⟩:=Y_ (l.alloc (O_ #[I f,I e,I T] 231));have Q:S.1[l.1.size]? =some (O_ #[I f,I e,I T] 231):=(by rw[<- P];exact hn_);have F:E_ l S:=(by rw[<- P];exact q_);have b9:=n_ 0 Q;have c0:=n_ 1 Q;have s:=T_ (a1.below F) L;have r:=Y F;have W:K (goL _ _=g):=z;have c6:=L.p;clear a1 L Q F z;refine v_ ?_;go_upto_region 1 with fail;clear P;go_wp2_with fail
 go_loopw [5] (λc d=>∃a:Nat,c=.int .i64 a/\a<=b.length/\K (goL (λa=>goF (pi (Gn i b h a f)).1 e (b.getD a []) false) ((range b.length).drop a)=g)/\E_ S d) (λc _=>b.length-(intOf c).toNat)
 exact⟨0,rfl,r_,W,y_⟩;clear W;obtain⟨a,rfl,c4,c,j⟩:=hrel;have⟨d1,Z,D⟩:=(s.1.below j).j
 by_cases w:a<b.length
 ·have b3:=F_ a _;obtain⟨d0,b2,b0,c8,rfl,t,R⟩:=D.2 a w;rw[Zi3 w] at c;have a4:=s.2.A a w;have N:=ao _ x a _ _ _ _ X _ (s.1.below j) s.2 w b6;have c1:=Ag j b9;have⟨q,E⟩:=Y_ (goL (λa=>goF (pi (Gn i b h a f)).1 e (b.getD a []) false) ((range b.length).drop (a+1)));rw[E] at c;have a9:=Y E;clear E;have⟨o,a5⟩:=Y_ (b.getD a []);have⟨A,a3⟩:=Y_ (pi (Gn i b h a f));have⟨p,H⟩:=Y_ o.length;rw[a3] at N;rw[a5] at t R a4;rw[H] at t a4;have n:K ((goF A.1 e o false).getD q=g):=w_;have y:=T_ R H;clear a5 a3 H c R D;go_wp2_with fail
  apply N.m;rintro c2 b8 ⟨rfl,v⟩;have G:=j.T (v.m j.size);have U:=Y G;have d2:=Ag v Z;have d3:=Ag v t;have d4:=Ag G c0;clear N c1 Z t G;go_wp2_with fail
  go_loopw [8,9] (λu m B=>∃(d:Nat) (k:Bool),m=.int .i64 d/\u=.bool k/\d<=p/\K ((goF A.1 e (o.drop d) k).getD q=g)/\∃nq,B=b8.drewN nq) (λ_ m _=>p-(intOf m).toNat)
  exact⟨0,false,rfl,rfl,r_,n,0,rfl⟩;clear n;obtain⟨d,k,rfl,rfl,c7,c,a8,b7⟩:=hrel;subst b7
  by_cases b5:d<p
  ·have b4:=F_ d p;have a6:=y.2 ▸ b5;obtain⟨c9,rfl,b1⟩:=y.1 d a6;have d5:=Ag v b1;rw[Zi0 a6] at c;generalize o.getD d 0=u at *
   by_cases a2:u=e
   ·subst a2;rw[aD rfl] at c;have m:K (k=g):=c;go_wp2_with fail
    go_quiet (fail);go_wp2;go_ret;exact⟨by rw[<- m];rfl,r.T ((below_drewN (below_drewN U _) _).m r.size)⟩
   rw[aC a2] at c;have c5:((u:Int)==e)=false:=t_;obtain⟨B,c3⟩:=A;simp only at c ⊢;have⟨m,M⟩:=Y_ (k||decide ((u:Int)=B));have n:K ((goF B e (o.drop (d+1)) m).getD q=g):=(by rw[<- M];exact c);clear c;go_wp2_with fail
   go_quiet (fail);go_upto_region 11 with fail
   cases k
   ·have a7:((u:Int)==B)=m:=(by rw[<- M,Bool.false_or];exact(Bool.eq_iff_iff.2 s_));refine J_ ?_;exact⟨d+1,m,g_,rfl,O,n,a8+nq,s_⟩
   have a7:m=true:=(by rw[<- M];simp);subst a7;refine J_ ?_;exact⟨d+1,true,g_,rfl,O,n,a8+nq,s_⟩
  have b4:¬d<(p:Int):=O;have m:K (q=g):=(by rw[<- c,drop_of_length_le (p_ y.2)];rfl);refine J_ ?_;exact⟨a+1,g_,O,a9 ▸ m,below_drewN U _⟩
 have b3:¬a<(b.length:Int):=O;have m:K (g=false):=(by rw[<- c,drop_of_length_le t_];rfl);obtain⟨b0,b2,rfl⟩:=D.1;go_wp2;go_ret;exact⟨by rw[m];rfl,r.T (j.m r.size)⟩
def Mb.kept{j k:World}{g:Nat}{b:Value}{c:List Value}{d:List (List Int)}{f:Option Nat}(e:Mb j g b c d)(h:j.grownBy k f)(l:b.ownBlock=none∨b.ownBlock≠f)(m:∀a,a<d.length->(c.getD a Dd).ownBlock=none∨(c.getD a Dd).ownBlock≠f):Mb k g b c d:=
 ⟨World.ownsRow.kept e.row h l,λa i=>Ad.kept (e.j a i) h (m a i),e.apart⟩
structure cj(a:World)(b f n:Nat)(h d e o:Value)(m:List (Value×Value))(k l:List Value)(c:List KS)(j i:List (List Nat)):Prop where
 v:Nh a f n h d e o
 z:fx a b h m c
 r:Mb a b d k (j.map An)
 co:Mb a b e l (i.map An)
 B:Bl d e
 x:∀g,g<c.length->Ue (c.getD g Ai)
 y:b<=f
section
variable {W a:World} {base db n:Nat} {vF vB vC vX v':Value} {kvs:List (Value×Value)} {bvs cvs:List Value} {Ks:List KS} {Fs Cs:List (List Nat)} {K:Nat->Prop}
def cj.p(c:cj W base db n vF vB vC vX kvs bvs cvs Ks Fs Cs)(i:Aa K W a)(h:∀d k b,W.1[d]? =some (O_ k b)->b=142∨b=227∨b=25∨b=3∨b=9->base<=d->¬K d):cj a base db n vF vB vC vX kvs bvs cvs Ks Fs Cs:=
 ⟨i.g c.v (h _ _ _ c.v (.inl rfl) c.y),c.z.p i (λd e b g j f=>h d e b g O f),c.r.p i (λd e b g j f=>h d e b g O f),c.co.p i (λd e b g j f=>h d e b g O f),c.B,c.x,c.y⟩
def cj.b{c b:Nat}{d:Array Value}(e:cj W base db n vF vB vC vX kvs bvs cvs Ks Fs Cs)(k:W.1[c]? =some (O_ d b))(m:b=288∨b=4)(g:Aa (λf=>f=c) W a):cj a base db n vF vB vC vX kvs bvs cvs Ks Fs Cs:=
 e.p g (λo h p l i _ j=>w_)
def cj.i(a:cj W base db n vF vB vC vX kvs bvs cvs Ks Fs Cs):DkV W db n Ks:=⟨n_ 0 a.v,⟨vF,n_ 1 a.v,a.z.view⟩,a.x⟩
def cj.view(a:cj W base db n vF vB vC vX kvs bvs cvs Ks Fs Cs){b:List XS}(c:XsV W vX b):DaV W db n Ks Fs Cs b:=⟨a.i,⟨vB,n_ 2 a.v,a.r.view⟩,⟨vC,n_ 3 a.v,a.co.view⟩,⟨vX,n_ 4 a.v,c⟩⟩
def cj.e{i:Value}{j:List Nat}(b:cj W base db n vF vB vC vX kvs bvs cvs Ks Fs Cs)(t:Ad W base i (An j))(s:∀c,c<Fs.length->Bl (bvs.getD c Dd) i)(g:W.grownBy a vB.ownBlock)(m:a.ownsRow base 25 1 v' (Fs.length+1) (bvs++[i]))(u:v'.ownBlock=vB.ownBlock∨v'.ownBlock=some W.1.size):cj (a.setCell (J db 2) v') base db n vF v' vC vX kvs (bvs++[i]) cvs Ks (Fs++[j]) Cs/\Nh a db n vF vB vC vX:=by
 have l:=Kt (i:=2) b.v b.r.row g m C;have f:Nh _ _ n _ _ _ _:=l.1;have k:Aa _ _ (a.setCell _ v'):=(Aa.refl (λd=>d=db) _).setCell (p:=(J _ 2)) (λ_=>rfl) _;have v:=(Aa.refl _ _).grown g (λh e _=>e)
 have r:=b.z.p v (λh p w e d _ o=>by
  have⟨q,x⟩:=Ac b.r.row o
  grind)
 have q:=b.co.kept g b.B.a (λc d=>Ao b.r.row (b.co.j c d) C);have o:=b.r.E (L:=An j) t (λc d=>s c w_) g (by rw[length_map];exact m);refine⟨⟨l.2.1,r.p k (λh p w e d _=>f.o e O),?_,q.h f k,?_,b.x,b.y⟩,f⟩;rw[map_append];exact o.h f k
 rcases u with d|d
 unfold Bl;rw[d];exact b.B
 cases e:vC.ownBlock with
 |none=>exact .inr (.inl e)
 |some h=>exact .inr (.inr (by rw[d,e];have:=(B_ b.co.row h e).2;simp;omega))
def cj.h{i:Value}{j:List Nat}(b:cj W base db n vF vB vC vX kvs bvs cvs Ks Fs Cs)(t:Ad W base i (An j))(s:∀c,c<Cs.length->Bl (cvs.getD c Dd) i)(g:W.grownBy a vC.ownBlock)(m:a.ownsRow base 25 1 v' (Cs.length+1) (cvs++[i]))(u:v'.ownBlock=vC.ownBlock∨v'.ownBlock=some W.1.size):cj (a.setCell (J db 3) v') base db n vF vB v' vX kvs bvs (cvs++[i]) Ks Fs (Cs++[j])/\Nh a db n vF vB vC vX:=by
 have l:=Kt (i:=3) b.v b.co.row g m C;have f:Nh _ _ n _ _ _ _:=l.1;have k:Aa _ _ (a.setCell _ v'):=(Aa.refl (λd=>d=db) _).setCell (p:=(J _ 3)) (λ_=>rfl) _;have v:=(Aa.refl _ _).grown g (λh e _=>e)
 have r:=b.z.p v (λh p w e d _ o=>by
  have⟨q,x⟩:=Ac b.co.row o
  grind)
 have o:=b.r.kept g b.B.s.a (λc d=>Ao b.co.row (b.r.j c d) C);have q:=b.co.E (L:=An j) t (λc d=>s c w_) g (by rw[length_map];exact m);refine⟨⟨l.2.1,r.p k (λh p w e d _=>f.o e O),o.h f k,?_,?_,b.x,b.y⟩,f⟩;rw[map_append];exact q.h f k
 rcases u with d|d
 unfold Bl;rw[d];exact b.B
 cases e:vB.ownBlock with
 |none=>exact .inl e
 |some h=>exact .inr (.inr (by rw[d,e];have:=(B_ b.r.row h e).2;simp;omega))
end
def zu(b:List Int)(K:Nat)(a:Cu×List Bool×List Nat):Cu×List Bool×List Nat:=
 (if a.2.1.getD (Cv b ((K:Int)-1) a.1).2 false=true then⟨(Cv b ((K:Int)-1) a.1).1.k,true⟩ else(Cv b ((K:Int)-1) a.1).1,a.2.1.set (Cv b ((K:Int)-1) a.1).2 true,a.2.2++[(Cv b ((K:Int)-1) a.1).2])
structure BuZ(b:World)(f cb i ib k:Nat)(n l m o:Value)(j:List (Value×Value))(g h:List Value)(e:List KS)(d c:List (List Nat)):Prop where
 F:cj b f i k n l m o j g h e d c
 cb:∃a,b.1[cb]? =some (O_ a 288)
 ib:∃a,b.1[ib]? =some (O_ a 4)
structure el(j b:World)(k e f:Nat)(a:List KS)(c:ByteArray)(d:Cu)(g:List Bool)(vl:Value)(h:List Nat):Prop where
 w:Oj b e c d
 D:d.k<=c.size
 A:Ej b k (L_ f a.length a.length) g
 q:g.length=a.length
 vl:Ad b j.1.size vl (An h)
 n:∀l∈h,l<a.length
 u:Aa (λi=>i=e∨i=f) j b
section
variable {w W d:World} {base cb db a n:Nat} {vF vB vC vX b v':Value} {kvs:List (Value×Value)} {bvs cvs:List Value} {Ks:List KS} {Fs Cs:List (List Nat)} {S:ByteArray} {c e:Cu} {inn:List Bool} {l:List Nat}
def el.F(h:el w W base cb a Ks S c inn b l)(f:BuZ w base cb db a n vF vB vC vX kvs bvs cvs Ks Fs Cs):cj W base db n vF vB vC vX kvs bvs cvs Ks Fs Cs:=
 f.F.p h.u (λo c p d g _ e=>by
  have⟨k,i⟩:=f.cb;have⟨m,j⟩:=f.ib
  rcases e with e|e
  ·rw[e,i] at d;simp at d;have:=d.2
   rcases g with rfl|rfl|rfl|rfl|rfl<;>cases this
  rw[e,j] at d;simp at d;have:=d.2
  rcases g with rfl|rfl|rfl|rfl|rfl<;>cases this)
def el.call(f:el w W base cb a Ks S c inn b l)(j:Oj d cb S e)(g:e.k<=S.size)(h:Aa (λk=>k=cb) W d):el w d base cb a Ks S e inn b l:=
 ⟨j,g,h.row f.A (λi g=>Ah f.A g f.w C),f.q,h.row f.vl (λi g=>Ah f.vl g f.w C),f.n,f.u.T (h.m (λ_ _ i=>.inl i))⟩
def el.g(d:el w W base cb a Ks S c inn b l):=d.call d.w.g.1 d.D d.w.g.2
def el.below(e:el w W base cb a Ks S c inn b l)(f:E_ W d):=e.call (e.w.below f) e.D (.a f)
def el.B(d:el w W base cb a Ks S c inn b l)(f:base<=cb)(g:base<=a)(e:base<=w.1.size):=d.u.b e (λi h=>O)
def el.cells(d:el w W base cb a Ks S c inn b l)(e:BuZ w base cb db a n vF vB vC vX kvs bvs cvs Ks Fs Cs):W.cell? (J cb 2)=some (.bool c.z)/\W.frozen? (J cb 2)=false/\W.cell? (J db 0)=some (I n)/\W.cell? (J db 1)=some vF/\W.cell? (J db 2)=some vB/\W.cell? (J db 3)=some vC/\W.frozen? (J db 2)=false/\W.frozen? (J db 3)=false:=
 ⟨n_ 2 d.w,R_ 2 _ _ d.w,n_ 0 (d.F e).v,n_ 1 (d.F e).v,n_ 2 (d.F e).v,n_ 3 (d.F e).v,R_ 2 _ _ (d.F e).v,R_ 3 _ _ (d.F e).v⟩
def el.h(d:el w W base cb a Ks S c inn b l)(f:Nat):el w (W.setCell (J a f) (.bool true)) base cb a Ks S c (inn.set f true) b l:=by have g:Aa _ W (W.setCell _ (.bool true)):=(Aa.refl (λe=>e=a) W).setCell (p:=(J _ f)) (λ_=>rfl) _;have⟨i,h⟩:=Ac d.A (k:=a) rfl;exact⟨g.g d.w (λe=>Ah d.A (k:=a) rfl d.w C e.s),d.D,(d.A.put d.q.s _).1,by rw[length_set];exact d.q,g.row d.vl (λj e=>Ah d.vl e h C),d.n,d.u.T (g.m (λ_ _ e=>.inr e))⟩
def el.add{g:Nat}(e:el w W base cb a Ks S c inn b l)(k:g<Ks.length)(h:W.grownBy d b.ownBlock)(n:d.ownsRow w.1.size 3 1 v' (l.length+1) ((An l).map (int .i64)++[I g])):el w d base cb a Ks S c inn v' (l++[g]):=by
 have j:=(Aa.refl _ _).grown h (λi f _=>f);refine⟨j.g e.w (λf=>Ah e.vl f e.w C rfl),e.D,World.ownsRow.kept e.A h (Ao e.vl e.A C),e.q,?_,λo m=>?_,?_⟩
 ·have:Ad d w.1.size v' (An l++[(g:Int)]):=Ad.E (by rw[Aj];exact n)
  simpa [An] using this
 ·rcases mem_append.1 m with f|f
  exact e.n o f;rw[mem_singleton.1 f];exact k
 exact e.u.c j λi f=>.inr (B_ e.vl i f).1
end
def Zjc{c h:World}{i x s w:Nat}{A y z B m:Value}{D:List Value}(n:Nh c i x A y z B)(v:c.ownsRow s 25 1 m w D)(r:Aa (λq=>q=i∨m.ownBlock=some q) c h):(∀{d a:Nat} {g:Array Value},c.1[d]? =some (O_ g a)->a≠142->a≠25->h.1[d]? =some (O_ g a))/\∀{b a d l:Nat} {e:Value} {f:List Value},c.ownsRow b a d e l f->a≠142->a≠25->h.ownsRow b a d e l f:=by
 have p:∀{d a:Nat} {g:Array Value},c.1[d]? =some (O_ g a)->a≠142->a≠25->¬(d=i∨m.ownBlock=some d):=λb e f j=>by
  rcases j with rfl|j
  unfold Nh at n;rw[n] at b;simp at b;exact e b.2.s;have⟨t,k⟩:=Ac v j;rw[k] at b;simp at b;exact f b.2.s
 exact⟨λb e f=>r.g b (p b e f),λo e f=>r.row o (λl u=>by obtain⟨t,k⟩:=Ac o u;exact p k e f)⟩
structure BuK(g b:World)(a f l m p:Nat)(s q r t:Value)(o:List (Value×Value))(j k:List Value)(c:List KS)(i h:List (List Nat))(d:ByteArray)(e:Cu)(n:List Bool):Prop where
 w:Oj b f d e
 D:e.k<=d.size
 A:Ej b a (L_ m c.length c.length) n
 F:cj b a l p s q r t o j k c i h
 B:Below a g b
 v:a<=f
 u:a<=g.1.size
section
variable {w W a:World} {base cb db b n:Nat} {vF vB vC vX:Value} {kvs:List (Value×Value)} {bvs cvs:List Value} {Ks:List KS} {Fs Cs:List (List Nat)} {S:ByteArray} {c d:Cu} {inn:List Bool}
def BuK.call(e:BuK w W base cb db b n vF vB vC vX kvs bvs cvs Ks Fs Cs S c inn)(i:Oj a cb S d)(f:d.k<=S.size)(g:Aa (λh=>h=cb) W a):BuK w a base cb db b n vF vB vC vX kvs bvs cvs Ks Fs Cs S d inn:=
 ⟨i,f,g.row e.A (λj f=>Ah e.A f e.w C),e.F.b e.w (.inl rfl) g,e.B.T (g.b (aG e.u e.B.size) (λh j=>p_ e.v)),e.v,e.u⟩
def BuK.g(a:BuK w W base cb db b n vF vB vC vX kvs bvs cvs Ks Fs Cs S c inn):=a.call a.w.g.1 a.D a.w.g.2
def BuK.below(d:BuK w W base cb db b n vF vB vC vX kvs bvs cvs Ks Fs Cs S c inn)(e:E_ W a):=d.call (d.w.below e) d.D (.a e)
def BuK.e{g f:Value}{k:List Nat}(d:BuK w W base cb db b n vF vB vC vX kvs bvs cvs Ks Fs Cs S c inn)(s:Ad W base g (An k))(p:∀j,j<Fs.length->Bl (bvs.getD j Dd) g)(i:W.grownBy a vB.ownBlock)(l:a.ownsRow base 25 1 f (Fs.length+1) (bvs++[g]))(t:f.ownBlock=vB.ownBlock∨f.ownBlock=some W.1.size):BuK w (a.setCell (J db 2) f) base cb db b n vF f vC vX kvs (bvs++[g]) cvs Ks (Fs++[k]) Cs S c inn/\Nh a db n vF vB vC vX/\∀{h e:Nat} {m:Value} {o:List Value},W.ownsRow h 3 1 m e o->(a.setCell (J db 2) f).ownsRow h 3 1 m e o:=by
 have⟨o,q⟩:=d.F.e s p i l t;have h:=Kt (i:=2) d.F.v d.F.r.row i l C;have e:=Zjc d.F.v d.F.r.row h.2.2.2;exact⟨⟨e.1 d.w C C,d.D,e.2 d.A C C,o,d.B.T (h.2.2.2.b (aG d.u d.B.size) (λu r=>by rcases r with rfl|m;exact d.F.y;exact(B_ d.F.r.row u m).1)),d.v,d.u⟩,q,λm=>e.2 m C C⟩
def BuK.h{f e:Value}{g:List Nat}(d:BuK w W base cb db b n vF vB vC vX kvs bvs cvs Ks Fs Cs S c inn)(s:Ad W base f (An g))(o:∀j,j<Cs.length->Bl (cvs.getD j Dd) f)(h:W.grownBy a vC.ownBlock)(l:a.ownsRow base 25 1 e (Cs.length+1) (cvs++[f]))(t:e.ownBlock=vC.ownBlock∨e.ownBlock=some W.1.size):BuK w (a.setCell (J db 3) e) base cb db b n vF vB e vX kvs bvs (cvs++[f]) Ks Fs (Cs++[g]) S c inn/\Nh a db n vF vB vC vX:=by have⟨p,q⟩:=d.F.h s o h l t;have i:=Kt (i:=3) d.F.v d.F.co.row h l C;have k:=Zjc d.F.v d.F.co.row i.2.2.2;exact⟨⟨k.1 d.w C C,d.D,k.2 d.A C C,p,d.B.T (i.2.2.2.b (aG d.u d.B.size) (λu r=>by rcases r with rfl|m;exact d.F.y;exact(B_ d.F.co.row u m).1)),d.v,d.u⟩,q⟩
end
def Ze1{c:Type}{f:Cu×c->Cu×c}{b:Cu×c}(a:Cu×c->Prop)(e:a b)(g:∀b,a b->a (f b)):∀d,a (Hh f b d)
 |0=>e
 |d+1=>by have:=Ze1 a e g d;unfold Hh;split;exact this;exact g _ this
def Zkt{c:List Int}(k:∀h∈c,0<=h/\h<256)(e d:Nat)(i:Cu):(vaC c e d i).2.length=e/\∀a∈(vaC c e d i).2,0<=a/\a<=d:=by
 unfold vaC;simp only;split
 ·refine Ze1 (f:=spC c e _) (λf=>f.2.2.length=e/\∀a∈f.2.2,0<=a/\a<=d) ⟨s_,λa b=>p_ (eq_of_mem_replicate b)⟩ (λf g=>?_) _;unfold spC;split;exact g;refine⟨by simpa using g.1,λa b=>?_⟩
  rcases mem_or_eq_of_mem_set b with j|j
  exact g.2 a j;have:=(Je k d (Cv c 255 f.1).1).2;omega
 refine⟨by simp[dnC],λa b=>?_⟩;simp only[dnC,mem_map] at b;obtain⟨f,_,rfl⟩:=b;split<;>omega
def ZlP{a:List Int}{d:Int}(b:∀x∈a,0<=x/\x<=d):An (a.map Int.toNat)=a:=by
 unfold An;rw[map_map]
 conv=>rhs;rw[<- map_id a]
 exact map_congr_left λx c=>by have:=b x c;simp;omega
def pj.E{n:Nat}{i:List KS}{h k:List (List Nat)}{j N:List Nat}(f:pj n i h k)(s:h.length<1000)(q:j.length<=1000)(p:∀l∈j,l<i.length)(m:N.length=n)(r:∀x∈N,x<=255):pj n i (h++[j]) (k++[N]):=by
 have g:∀{L:List (List Nat)} {x:List Nat} {b:Nat},b<(L++[x]).length->(b<L.length/\(L++[x]).getD b []=L.getD b [])∨(L++[x]).getD b []=x:=λ{L x b} d=>by
  by_cases c:b<L.length
  exact .inl ⟨c,w_⟩;right;have:b=L.length:=(by simp at d;omega);subst this;simp[getD]
 have o:∀e,N.getD e 0<=1000000:=λe=>by
  by_cases c:e<N.length
  have:=r _ (Qf c);rw[Qc,Qd c];simp only[Option.getD_some];omega;rw[Qc,getElem?_eq_none O];simp
 refine⟨by simp[f.len],t_,λb d=>?_,λb d e=>?_,λb d=>?_,λb d=>?_⟩
 ·rcases g d with⟨c,a⟩|a
  rw[a];exact f.u b c;rw[a];exact m
 ·rcases g d with⟨c,a⟩|a
  rw[a];exact f.val b c e;rw[a];exact o e
 ·rcases g d with⟨c,a⟩|a
  rw[a];exact f.A b c;rw[a];exact q
 rcases g d with⟨c,a⟩|a
 rw[a];exact f.n b c;rw[a];exact p
theorem yg{d:List KS}:∀(a:List Nat) {c:Nat} {b:Nat×Nat},Yn d a c=some b->b.1∈a
 |[],_,_,h=>by cases h
 |e::a,c,b,h=>by unfold Yn at h;split at h;injection h with h;subst h;simp;exact mem_cons_of_mem _ (yg _ h)
theorem ZbH{d:List KS}{b:List Nat}{e:Nat}{c:Nat×Nat}(a:Nj d b e=some c):c.1∈b:=by
 unfold Nj at a;split at a
 ·cases a
 exact yg _ a
def Zg5{e:List KS}{a d:List (List Nat)}{c b:List Nat}(i:d.length=a.length)(f:Nat):Gn e (a++[c]) (d++[b]) a.length f=Nj e c (b.getD f 0):=by unfold Gn;have g:(a++[c]).getD a.length []=c:=(by simp[getD]);have h:(d++[b]).getD a.length []=b:=(by rw[<- i];simp[getD]);rw[g,h]
def dfB(b:List KS):Option (Nat×Nat)->Bool
 |some a=>decide (a.2=(b.getD a.1 Ai).d)
 |none=>false
def ep(f:List Int)(h:Nat)(b:List KS)(c:Cu×List Bool×List (List Nat)×List (List Nat)):Cu×List Bool×List (List Nat)×List (List Nat):=
 let g:=Cv f b.length c.1
 let a:=Hh (zu f b.length) (g.1,c.2.1,[]) g.2
 let e:Cu:=if g.2=0∨40<Bj b a.2.2 then⟨a.1.k,true⟩ else a.1
 if e.z=true then(e,a.2.1,c.2.2.1,c.2.2.2)
 else
  let d:=vaC f h (Bj b a.2.2) e
  (⟨d.1.k,d.1.z||(range h).any λi=>dfB b (Nj b a.2.2 ((d.2.map Int.toNat).getD i 0))⟩,a.2.1,c.2.2.1++[a.2.2],c.2.2.2++[d.2.map Int.toNat])
def BuP(q c:World)(d g i j l:Nat)(o p:Value)(k:List (Value×Value))(b:List KS)(e:ByteArray)(a:Cu×List Bool×List (List Nat)×List (List Nat)):Prop:=
 ∃m n f h,Oj c g e a.1/\a.1.k<=e.size/\Ej c d (L_ j b.length b.length) a.2.1/\a.2.1.length=b.length/\cj c d i l o m n p k f h b a.2.2.1 a.2.2.2/\Below d q c
def Zbj s j F p f g5 d9 e0 Q b1 e9 d3 a u G (e:ByteArray)(b:Cu) g h8 l (e2:BuZ l s j F p f g5 d9 e0 Q b1 e9 d3 a u G)(a6:Oj l j e b)(j4:Ej l s (L_ p a.length a.length) g)(j5:g.length=a.length)(g0:e.size<=4000000)(W:b.k<=e.size)(l8:f<=200)(hK:a.length<=4)(c6:∀S,XsV S Q h8)(f9:s<=j)(j7:s<=p)(a9:s<=l.1.size)(j8:pj f a u G)(l6:u.length<=256):C_ 185 #[P_ j,P_ F,L_ p a.length a.length] l λt c=>t=.returned (.tuple #[])/\BuP l c s j F p f g5 Q b1 a e (ep (Ab e) f a (b,g,u,G)):=by
 have⟨d0,h⟩:=ez_ (ep (Ab e) f a (b,g,u,G));rw[h];have d6:(Ab e).length=e.size:=(by simp[Ab]);have e3:=Po e;have c8:Hid (el l l _ j p _ e b _ Dd []):=⟨a6,W,j4,j5,Ad.nil _ _,λN l5=>by simp at l5,Aa.refl _ _⟩;have v:=Y e2;obtain⟨d1,d2,m2⟩:∃e8 b,g5=.slice e8 a.length b:=(by have⟨e8,b,t⟩:=e2.F.z.row.shape;rw[e2.F.z.a] at t;exact⟨e8,b,t⟩);subst m2;have⟨l2,c9⟩:=Z_ c6 j8;unfold ep at h;simp only at h;have⟨K,f4⟩:=Y_ a.length;have H:=Y f4;clear e2 a6 j4 j5 c6 j8;have⟨_,_,_,E,_,_,_,_⟩:=c8.cells v;rw[f4] at E h hK ⊢;clear f4;refine dl_ ?_;go_enter func185,ntmps185;go_wp2_with fail
 apply (Cg _ K e b l c8.w g0 W).m;rintro t o5 ⟨rfl,i1,k3⟩;have e5:=Y (c8.call i1 (d6 ▸ Ht (d6 ▸ W)) k3);have c5:=(Je e3 K b).2 O;clear i1 k3 c8 E;generalize Cv (Ab e) K b=P at *;obtain⟨P,z⟩:=P;simp only at e5 h c5 ⊢;have⟨g4,g1⟩:=Y_ ((P,g,[]):Cu×List Bool×List Nat);rw[g1] at h;have h3:=Y g1;clear g1;go_wp2_with fail
 go_loopw [7,8] (λm d n=>∃(k:Nat) (b:Cu) (g:List Bool) (c:List Nat),d=.int .i64 k/\k<=z/\c.length=k/\Hid ((b,g,c)=Hh (zu (Ab e) K) g4 k)/\Hid (el l n s j p a e b g m c)) (λ_ d _=>z-(intOf d).toNat)
 case atStart=>exact⟨0,P,g,[],rfl,r_,rfl,h3,e5⟩
 clear e5 h3;obtain⟨k,b,g,c,rfl,c4,a8,b5,q⟩:=hrel;have⟨w,M,a3,E,a4,a5,d4,b8⟩:=q.cells v;rw[H] at E
 rcases Zmu k z b.z with⟨d5,o⟩|⟨d5,o⟩|d5
 ·have b9:k<(z:Int):=O;rw[o] at w;have A:=Kv (f:=zu _ K) (s:=g4) (k:=k) (by rw[<- b5];exact o);rw[<- b5] at A;have a1:Hid (Hh (zu (Ab e) K) g4 (k+1)=(bdC (g.getD (Cv (Ab e) ((K:Int)-1) b).2 false) (Cv (Ab e) ((K:Int)-1) b).1,g.set (Cv (Ab e) ((K:Int)-1) b).2 true,c++[(Cv (Ab e) ((K:Int)-1) b).2])):=A;have g3:=As (z:=(K:Int)-1) O O;clear A h o b5;go_wp2_with fail
  apply (Cg j _ e b wr q.w g0 q.D).m;rintro t b3 ⟨rfl,X,Z⟩;have x:=Y (q.call X (d6 ▸ Ht (d6 ▸ q.D)) Z);have c3:=(Je e3 ((K:Int)-1) b).2 O;clear X Z q w M a3 E a4 a5 d4 b8 g3;generalize Cv (Ab e) ((K:Int)-1) b=y at *;obtain⟨y,i⟩:=y;simp only at x a1 c3 ⊢;have L:i<K:=O;have l4:=F_ i K;have⟨_,e1,_,_,T,U⟩:=x.A.b x.q (k:=i) (H ▸ L);injection e1 with e1;injection e1 with e1;subst e1;have⟨w,M,_⟩:=x.cells v;generalize a2:g.getD i false=R at *;go_upto_if 44 with fail
  go_cut [44] (λ_ d=>Hid (el l d s j p a e (bdC R y) g u7 c))
  case first=>cases R<;>(go_wp2;go_meet;first|exact x|exact x.g)
  have m:=hcut;clear hcut x T U w M;generalize bdC R y=a0 at *;have⟨_,e1,_,_,T,U⟩:=m.A.b m.q (k:=i) (H ▸ L);injection e1 with e1;injection e1 with e1;subst e1;have r:=Y (m.h i);go_upto_region 9 with fail;clear T U m;generalize wc.setCell _ _=g6 at *;obtain⟨B,D,rfl⟩:=r.vl.shape;rw[Aj,a8] at r ⊢;have b0:=r.u.size;have a7:(An c).length<=1000:=(by rw[Aj];omega);go_wp2_with (at_builtin;refine ap_ [I i] (ra_ r.vl _) ?_)
  intro m8 k5 d;have n:=Y ((r.below q_).add (H ▸ L) d.2.1 (by rw[<- Aj c];exact d.1));clear d r;refine J_ ?_;exact⟨k+1,a0,g.set i _,c++[i],g_,O,by simp[a8],a1.s,n⟩
 focus
  have a1:Hid (_∨k=z):=.inl o;have b9:k<(z:Int):=O;rw[o] at w;clear o d5;go_upto_region 10 with fail
 rotate_left
 focus
  have a1:Hid (b.z=true∨k=z):=.inr O;have b9:¬k<(z:Int):=O;clear d5;go_upto_region 10 with fail
 all_goals
  rw[Ts b5 c4 a1] at h;simp only at h;obtain⟨B,D,rfl⟩:=q.vl.shape;rw[Aj] at q ⊢;clear a1 b5 b9 w M a3 E a4 a5 d4 b8;have n9:c.length<=4:=O;have a0:Hid (∀S b,el l S s j p a e b g (V B c.length D) c->C_ 137 #[P_ F,V B c.length D] S (U_ (.int .i64 (Bj a c:Nat)) S)):=λS b a7=>aq _ f _ _ c _ S (a7.F v).i (a7.vl.e rfl) a7.n O;have⟨b2,d7⟩:=Y_ (Bj a c);rw[d7] at h;simp only[d7] at a0;have l1:=Y d7;clear d7;have⟨T,U⟩:=Y_ (decide (z=0∨40<b2));rw[Zcu,U] at h;go_cut [62] (λm d=>m=.bool T/\Hid (el l d s j p a e b g (.slice B c.length D) c))
  case first=>
   clear h
   by_cases d:z=0
   ·have f1:((z:Int)==0)=true:=(by simp[d]);have m:Hid (T=true):=U ▸ aF (.inl d);clear d c4 a8 c5 a0 U;go_wp2;go_meet
    exact⟨by rw[m],q⟩
   have f1:((z:Int)==0)=false:=t_;have m:Hid (T=decide ((b2:Int)>40)):=U ▸ Bool.eq_iff_iff.2 t_;have a7:=a0 _ b q;clear d c4 a8 c5 a0 U;go_wp2_with fail
   apply a7.m;rintro t b3 ⟨rfl,c1⟩;replace q:=Y (q.below c1);clear a7 c1;go_wp2;go_meet
   exact⟨by rw[m],q⟩
  obtain⟨rfl,x⟩:=hcut;clear q
  have e7:Hid ((bdC T b).z=false->b2<=40):=λt=>by
   rw[<- U,<- Zcu] at t;split at t
   ·cases t
   omega
  clear U;have⟨w,M,_⟩:=x.cells v;go_upto_if 62 with fail
  go_cut [62] (λ_ d=>Hid (el l d s j p a e (bdC T b) g (.slice B c.length D) c))
  case first=>cases T<;>(clear h c4 a8 c5 e7;go_wp2;go_meet;first|exact x|exact x.g)
  have m:=hcut;clear hcut x w M;generalize bdC T b=b7 at *;have⟨w,M,_⟩:=m.cells v
  cases o:b7.z
  ·rw[o] at w;have n7:=e7 o;rw[aC (by rw[o];decide)] at h;clear e7 o c4 a8 c5;go_wp2_with fail
   apply (a0 wc b7 m).m;rintro t b3 ⟨rfl,c1⟩;have r:=Y (m.below c1);clear c1 m w M a0;go_wp2_with fail
   apply (Zbu j F f b2 _ d9 e0 Q e b7 b3 r.w (r.F v).v g0 r.D l8 O).m;rintro t g6 ⟨rfl,b0⟩;have⟨i9,f5⟩:=Zkt e3 f b2 b7;have n:=Y (r.call b0.2.1 b0.2.2.1 b0.2.2.2);have f6:=b0.1.m (aG a9 r.u.size);have j1:∀k,_->l.1.size<=k:=λk W=>oj_ (B_ b0.1 k W).1 r.u.size;generalize vaC (Ab e) f b2 b7=L at *;have⟨y,c0⟩:=Y_ (L.2.map Int.toNat);have i6:An y=L.2:=by rw[<- c0];exact ZlP f5
   have iZ:y.length=f:=by rw[<- c0];simpa using i9
   have i7:∀k6∈y,k6<=255:=λk6 c6=>by rw[<- c0] at c6;obtain⟨A,d,rfl⟩:=mem_map.1 c6;have:=f5 A d;omega
   rw[<- i6] at f6;have h2:Hid (((⟨L.1.k,L.1.z||(range f).any λd=>dfB a (Nj a c (y.getD d 0))⟩:Cu),g,u++[c],G++[y])=d0):=by show _=_;rw[<- h,<- c0]
   have⟨k7,c7⟩:=Z_ (c9.E O O n.n iZ i7) (n.F v);have e4:=T_ f6 j1;have o1:=n.u.size;clear b0 i9 f5 c0 i6 iZ i7 f6 j1 h r l1;have⟨_,_,a3,E,a4,a5,d4,b8⟩:=n.cells v;have⟨n0,n2,j9⟩:=c7.r.shape;rw[length_map] at j9;have R:=Y c7.r.row;rw[length_map] at R;have g7:Hid (∀i,_->Bl _ (V B _ D)):=λi c3=>rq (v.F.r.j i (by rw[length_map];exact c3)) λk W=>(B_ n.vl k W).1;have g8:=Y (λi c3=>rq (v.F.co.j i (by rw[length_map];exact c3)) e4.2);have h5:Hid (Ad g6 _ (V B _ D) _):=n.vl.m a9;have k8:=Y n.n;have k9:=Y n.q;have h0:Hid (BuK l g6 _ j F p f (V d1 _ d2) d9 e0 Q b1 _ d3 a u G e L.1 _):=⟨n.w,n.D,n.A,c7,n.B f9 j7 a9,f9,a9⟩;subst j9;clear n v
   go_wp2_with (at_builtin;refine ap_ [V B c.length D] (ra_ R _) ?_)
   rintro m8 k5 ⟨k1,h9,i2,_,m5,m3,m0⟩;have⟨i4,f7,j6⟩:=(h0.below (q_ (o:=O_ #[V B c.length D] 25))).e (h5.below q_) g7 h9 k1 (i2.imp id (λa6=>by simpa using a6.1));have g9:Hid (Ad _ _ _ _):=j6 (e4.1.below q_);have Z:=Y i4;have f2:=n_ 2 f7;have f3:=R_ 2 _ _ f7;subst m0;clear k1 h9 i2 i4 f7 j6 h0 R h5 g7 e4 c7 a3 E a4 a5 d4 b8;go_upto_region 15 with fail;clear f2 f3;generalize k5.setCell _ _=o7 at *;have⟨n1,n3,k0⟩:=Z.F.co.shape;rw[length_map] at k0;have R:=Y Z.F.co.row;rw[length_map] at R;have a5:=n_ 3 Z.F.v;have n8:=c9.len ▸ l6;have o2:=aG a9 Z.B.size;subst k0;go_wp2_with (at_builtin;refine ap_ [L_ b3.1.size f f] (ra_ R _) ?_)
   rintro o4 m9 ⟨k2,i0,i3,_,m6,m4,m1⟩;have⟨i5,f8⟩:=(Z.below (q_ (o:=O_ #[L_ b3.1.size f f] 25))).h (g9.below q_) g8 i0 k2 (i3.imp id (λa6=>by simpa using a6.1));have h1:=Y i5;have f2:=n_ 3 f8;have f3:=R_ 3 _ _ f8;subst m1;clear k2 i0 i3 i5 f8 Z R g8 g9 a5;go_upto_region 16 with fail;clear f2 f3;generalize m9.setCell _ _=o6 at *;have⟨b4,d8⟩:=Y_ (λd=>(L.1.z||(range d).any λd=>dfB a (Nj a c (y.getD d 0))))
   have h7:Hid (∀d,b4 (d+1)=(b4 d||dfB a (Nj a c (y.getD d 0)))):=λd=>by rw[<- d8];simp[range_succ,Bool.or_assoc]
   have h6:Hid (b4 0=L.1.z):=(by show _=_;rw[<- d8];simp);have e6:Hid (((⟨L.1.k,b4 f⟩:Cu),g,u++[c],G++[y])=d0):=(by show _=_;rw[<- h2,<- d8]);have h4:Hid (∀d,_=Nj a c (y.getD d 0)):=λd=>Zg5 c9.len d;clear d8 h2 c9;go_wp2_with fail
   go_loopw [11] (λA X=>∃d:Nat,A=.int .i64 d/\d<=f/\Hid (BuK l X s j F p f (.slice d1 a.length d2) (.slice (some ⟨m5,0,none⟩) (u.length+1) m3) (.slice (some ⟨m6,0,none⟩) (G.length+1) m4) Q b1 (e9++[.slice B c.length D]) (d3++[.slice (some ⟨b3.1.size,0,none⟩) f f]) a (u++[c]) (G++[y]) e ⟨L.1.k,b4 d⟩ g)) (λA _=>f-(intOf A).toNat)
   case atStart=>exact⟨0,rfl,r_,h6 ▸ h1⟩
   clear h1 h6;obtain⟨d,rfl,o0,A⟩:=hrel;have a3:=n_ 0 A.F.v;have a4:=n_ 2 A.F.v
   by_cases l7:d<f
   ·have b9:d<(f:Int):=O;have g2:=ao F f u.length d _ _ _ h8 _ (A.F.view (l2 _)) k7 s_ l7;rw[h4] at g2;have a2:=h7 d;have g3:i64.wrap (((u.length+1:Nat):Int)-1)=u.length:=by rw[As O O];omega
    have l0:Hid (∀P,Nj a c (y.getD d 0)=some P->P.1<K):=λP l9=>by rw[<- H];exact k8 _ (ZbH l9)
    generalize Nj a c (y.getD d 0)=m7 at *;go_wp2_with fail
    apply g2.m;rintro t k4 ⟨rfl,j0⟩;have X:=Y (A.below j0);clear j0 g2 A a3 a4 g3 h4 h7 e6
    cases m7 with
    | none=>
     simp only[pi];refine J_ ?_;exact⟨d+1,g_,O,by rw[a2,show dfB a none=false from rfl,Bool.or_false];exact X⟩
    | some l3=>
     obtain⟨N,b6⟩:=l3;have j3:=l0 _ rfl;simp only at j3;have⟨o3,n4,_,_,_,_,E,_,_,_,b8⟩:=X.F.i.A (i:=N) (H ▸ j3);rw[H] at E;have j2:dfB a (some (N,b6))=decide (b6=(a.getD N Ai).d):=rfl;rw[j2] at a2;generalize (a.getD N Ai).d=f0 at *;have l4:(N:Int)≥0:=O;have n5:0<=(N:Int):=O;have n6:(N:Int)<K:=O;obtain⟨w,M⟩:k4.cell? (J j 2)=some (.bool (b4 d))/\k4.frozen? (J j 2)=false:=⟨n_ 2 X.w,R_ 2 _ _ X.w⟩;simp only[pi];clear j2
     by_cases c2:b6=f0
     ·have f1:((b6:Int)==f0)=true:=(by simp[c2]);rw[aF c2,Bool.or_true] at a2;clear c2;refine J_ ?_;exact⟨d+1,g_,O,a2 ▸ X.g⟩
     have f1:((b6:Int)==f0)=false:=t_;rw[aE c2,Bool.or_false] at a2;clear c2;refine J_ ?_;exact⟨d+1,g_,O,a2 ▸ X⟩
   have b9:¬d<(f:Int):=O;obtain rfl:d=f:=O
   have X:Hid (BuP l wr s j F p d (V d1 a.length d2) Q b1 a e d0):=(by rw[<- e6];exact⟨_,_,_,_,A.w,A.D,A.A,k9,A.F,A.B⟩);clear e6;go_wp2;go_end0;exact⟨rfl,by rw[<- H];exact X⟩
  rw[o] at w;have X:Hid (BuP l wc s j F p f (V d1 a.length d2) Q b1 a e d0):=(by rw[aD o] at h;rw[<- h];exact⟨d9,e0,e9,d3,m.w,m.D,m.A,m.q,m.F v,m.B f9 j7 a9⟩);clear h o;go_wp2;apply bodyPost_ret (results_none rfl _ _ _) rfl;exact⟨rfl,by rw[<- H];exact X⟩
end Go.Proofs.YtfcgnpchbcmdeaaGreat
