import Derived.Test.YtfcgnpchbcmdeaaGreatZobs
namespace Go.Proofs.YtfcgnpchbcmdeaaGreat
set_option linter.all false
set_option maxRecDepth 100000
set_option maxHeartbeats 8000000
open Go.RowKit List Nat World Go.Proofs.Tryz Value IntKind Lib Region
section
variable {w W b:World} {cb db n a:Nat} {vF vB vC vX:Value} {S:ByteArray} {c:Cu} {d:List XS}
structure XbI(w W:World)(cb db a:Nat)(vX:Value)(x:XS):Prop where
 r:W.1[a]? =some (O_ #[I x.row,I x.f,I x.i] 231)
 y:w.1.size<=a
 o:∀b,vX.ownBlock=some b->b≠a
def XbI.p{x:XS}{K:Nat->Prop}(c:XbI w W cb db a vX x)(e:Aa K W b)(d:¬K a):XbI w b cb db a vX x:=⟨e.g c.r d,c.y,c.o⟩
def XbI.below{x:XS}(c:XbI w W cb db a vX x)(d:E_ W b):XbI w b cb db a vX x:=c.p (.a (S:=λ_=>False) d) id
def XbI.cells{x:XS}(b:XbI w W cb db a vX x):W.cell? (J a 0)=some (I x.row)/\W.cell? (J a 1)=some (I x.f)/\W.cell? (J a 2)=some (I x.i)/\(∀i,W.frozen? (J a i)=false)/\a<W.1.size:=⟨n_ 0 b.r,n_ 1 b.r,n_ 2 b.r,λi=>R_ i _ _ b.r,(Qb b.r).1⟩
def cv.e{x:XS}{i:Nat}{v:Value}(b:cv w W cb db n vF vB vC vX S c d)(h:XbI w W cb db a vX x):cv w (W.setCell (J a i) v) cb db n vF vB vC vX S c d:=by
 have f:Aa _ W (W.setCell _ v):=(Aa.refl (λj=>j=a) W).setCell (p:=(J _ i)) (λ_=>rfl) _
 have l:∀{k m:Nat} {o:Array Value},W.1[k]? =some (O_ o m)->m≠231->¬k=a:=λg p e=>by rw[e,h.r] at g;simp at g;exact p g.2.s
 refine⟨f.g b.w (l b.w C),b.D,f.g b.v (l b.v C),b.q.p f (λj q e=>h.o j q e),?_⟩;have j:=h.y;exact b.u.c f λq e=>.inr O
end
def fg k3 k p h h5 R M l7 k4 k6 e w u (a:ByteArray)(c:Cu) l (d4:cj l k3 p h h5 R M Dd l7 k4 k6 e w u)(c0:Oj l k a c)(e9:a.size<=4000000)(b3:c.k<=a.size)(m9:h<=200)(hK:e.length<=4)(i9:pj h e w u)(iZ:∀i,i<e.length->(e.getD i Ai).e.g.length<=16/\(e.getD i Ai).e.c.length<=16):C_ 186 #[P_ k,P_ p] l λj n=>j=.returned (.tuple #[])/\∃m,cv l n k p h h5 R M m a (xcC (Ab a) h e w u c).1 (xcC (Ab a) h e w u c).2:=by
 have⟨e2,z⟩:=ez_ (xcC (Ab a) h e w u c);rw[z];have a0:(Ab a).length=a.size:=(by simp[Ab]);have c3:=Po a;have h7:Hid (cv l l k _ h _ _ M _ a c []):=⟨c0,b3,d4.v,Wl.nil _ _ _ _,Aa.refl _ _⟩;have a4:Hid (_/\∃b,_=some (O_ b 288)):=⟨d4,_,c0⟩;obtain⟨a5,a6,l5⟩:∃b8 c,h5=.slice b8 e.length c:=by have⟨b8,c,j⟩:=d4.z.row.shape;rw[d4.z.a] at j;exact⟨b8,c,j⟩
 subst l5;have c7:=T_ i9 iZ;unfold xcC at z;have i6:=Io _ 2 a c l c0 C e9 b3;have f6:=Tw (strOfNums (La (Ab a) 2 c).2);rw[Bk,Ib,Rx (Nc c3 2 c)] at f6;have j3:Ys (La (Ab a) 2 c).2<65536:=(by have:=Zr _ (Nc c3 2 c);rw[Ib] at this;exact this);have h8:Hid (∀i2,_->_->cv l i2 k p h (V a5 e.length a6) R M Dd a (La (Ab a) 2 c).1 []):=λi2 N d2=>h7.call N (a0 ▸ Td (a0 ▸ b3)) d2;generalize La (Ab a) 2 c=h0 at *;generalize Ys h0.2=c1 at *;have⟨h1,g9⟩:=Y_ ((h0.1,[]):Cu×List XS);rw[g9] at z;have i0:=Y g9;have⟨K,g7⟩:=Y_ e.length;have d8:=Y g7;clear d4 c0 i9 iZ g9 h7;rw[g7] at hK;clear g7;refine dl_ ?_;go_enter func186,ntmps186;go_wp2_with fail
 apply i6.m;rintro j n4 ⟨rfl,N,d2⟩;have T:=Y (h8 _ N d2);clear N d2 i6 h8;go_wp2_with fail
 apply (f6 _ C).m;rintro j f1 ⟨rfl,j1⟩;obtain rfl:=j1.s;clear j1 f6;go_wp2_with fail
 go_loopw [5] (λb4 b=>∃(q:Nat) (c:Cu) (g:List XS) (m:Value),b4=.int .i64 q/\q<=c1/\g.length=q/\Hid ((c,g)=Hh (xcS (Ab a) h e w u) h1 q)/\Hid (cv l b k p h (.slice a5 e.length a6) R M m a c g)) (λb4 _=>c1-(intOf b4).toNat)
 case atStart=>exact⟨0,h0.1,[],Dd,rfl,r_,rfl,i0,T⟩
 clear T i0;obtain⟨q,c,g,m,rfl,l0,P,d5,a3⟩:=hrel;have⟨G,b1,X,B,A,L⟩:=a3.cells
 have c4:Hid (c.z=true∨q=c1->∃m,cv l wr k p h (V a5 e.length a6) R M m a e2.1 e2.2):=λj3=>by rw[Ts d5 l0 j3] at z;rw[<- z];exact⟨m,a3⟩
 by_cases k9:q<c1
 ·have k7 :q<(c1:Int):=O
  cases D:c.z
  ·rw[D] at G;have g2:=Kv (f:=xcS _ h _ _ _) (s:=h1) (k:=q) (by rw[<- d5];exact D);rw[<- d5] at g2
   have s:Hid (Hh (xcS (Ab a) h e w u) h1 (q+1)=if(Cv (Ab a) 255 (Cv (Ab a) 255 (Cv (Ab a) 255 c).1).1).1.z=true∨h<=(Cv (Ab a) 255 c).2∨e.length<=(Cv (Ab a) 255 (Cv (Ab a) 255 c).1).2 then(⟨(Cv (Ab a) 255 (Cv (Ab a) 255 (Cv (Ab a) 255 c).1).1).1.k,true⟩,g)
    else(if xcB e w u g ⟨(Cv (Ab a) 255 c).2,(Cv (Ab a) 255 (Cv (Ab a) 255 c).1).2,(Cv (Ab a) 255 (Cv (Ab a) 255 (Cv (Ab a) 255 c).1).1).2⟩=true then(Cv (Ab a) 255 (Cv (Ab a) 255 (Cv (Ab a) 255 c).1).1).1 else⟨(Cv (Ab a) 255 (Cv (Ab a) 255 (Cv (Ab a) 255 c).1).1).1.k,true⟩,g++[⟨(Cv (Ab a) 255 c).2,(Cv (Ab a) 255 (Cv (Ab a) 255 c).1).2,(Cv (Ab a) 255 (Cv (Ab a) 255 (Cv (Ab a) 255 c).1).1).2⟩])):=g2
   clear g2 c4 d5 D;go_wp2_with fail
   apply (Cg k 255 a c wr a3.w e9 a3.D).m;rintro j k0 ⟨rfl,b2,j8⟩;have T:=Y (a3.call b2 (a0 ▸ Ht (a0 ▸ a3.D)) j8);have l1:=(Je c3 255 c).1;clear b2 j8 a3 G b1 X B A L;generalize Cv (Ab a) 255 c=c9 at *;obtain⟨c9,d⟩:=c9;simp only at T s l1 ⊢;have⟨S,j4⟩:=Y_ k0.1.size;have g3:Hid (XbI l (k0.alloc (O_ #[I d,I 0,I 0] 231)) k p S m ⟨d,0,0⟩):=(by rw[<- j4];exact⟨hn_,T.u.size,λq b3 j=>p_ (B_ T.q.row q b3).2⟩);have b5:=Y (T.below (q_ (o:=O_ #[I d,I 0,I 0] 231)))
   have g1:Hid (S≠k):=λj=>by have b8:=g3.r;have b:=b5.w;unfold Oj at b;rw[j,b] at b8;simp at b8
   clear T;go_wp2_with fail
   clear j4;apply (Cg k 255 a c9 _ b5.w e9 b5.D).m;rintro j k1 ⟨rfl,i4,h2⟩;have⟨f7,b6⟩:=Z_ (b5.call i4 (a0 ▸ Ht (a0 ▸ b5.D)) h2) (g3.p h2 g1);have l2:=(Je c3 255 c9).1;clear i4 h2 b5 g3;generalize Cv (Ab a) 255 c9=d0 at *;obtain⟨d0,b⟩:=d0;simp only at f7 s l2 ⊢;have i1:Hid (XbI l (k1.setCell (J S 1) (I b)) k p S m ⟨d,b,0⟩):=⟨ht_ 1 _ _ _ b6.r,b6.y,b6.o⟩;have c5:=Y (f7.e b6 (i:=1) (v:=I b));have⟨_,r,_,t,_⟩:=b6.cells;have m2:=t 1;clear f7 b6 t;go_wp2_with fail
   clear r m2;generalize k1.setCell _ _=m1 at *;apply (Cg k 255 a d0 _ c5.w e9 c5.D).m;rintro j k2 ⟨rfl,i5,b4⟩;have⟨f8,b7⟩:=Z_ (c5.call i5 (a0 ▸ Ht (a0 ▸ c5.D)) b4) (i1.p b4 g1);have l3:=(Je c3 255 d0).1;clear i5 b4 c5 i1;generalize Cv (Ab a) 255 d0=Q at *;obtain⟨Q,f⟩:=Q;simp only at f8 s l3 ⊢;have g4:Hid (XbI l (k2.setCell (J S 2) (I f)) k p S m ⟨d,b,f⟩):=⟨ht_ 2 _ _ _ b7.r,b7.y,b7.o⟩;have f9:=Y (f8.e b7 (i:=2) (v:=I f));have⟨_,_,o,t,_⟩:=b7.cells;have m3:=t 2;clear f8 b7 t;go_upto_region 7 with fail;clear o m3;generalize k2.setCell _ _=f1 at *;have⟨G,b1,X,B,A,L⟩:=f9.cells;have⟨y,r,o,t,_⟩:=g4.cells;rw[d8] at B s;go_cut [57] (λv n=>v=.bool (decide (Q.z=true∨h<=d∨K<=b))/\∃nq,n=f1.drewN nq)
   case first=>
    have E:=Y s;clear s
    cases D:Q.z
    ·rw[D] at G
     by_cases N:h<=d
     ·have n:decide ((d:Int)≥h)=_:=aF O;go_quiet (fail);go_wp2;go_meet
      exact⟨by simp[N],_,rfl⟩
     have n:decide ((d:Int)≥h)=false:=aE O;go_quiet (fail);go_wp2;go_meet
     exact⟨by simp[N,D],_,rfl⟩
    rw[D] at G;go_quiet (fail);go_wp2;go_meet
    exact⟨by simp[D],_,rfl⟩
   obtain⟨rfl,nq,j2⟩:=hcut;have⟨U,W⟩:=Z_ (f9.below (below_drewN y_ nq)) (g4.below (below_drewN y_ nq));rw[<- j2] at U W;clear j2 f9 g4 G b1 X B A L y r o t;have⟨G,b1,X,B,A,L⟩:=U.cells
   by_cases Z:Q.z=true∨h<=d∨K<=b
   ·rw[aD Z] at s;rw[aF Z];have n:Hid (∃m,cv l (wc.setCell (J k 2) (.bool true)) k p h (V a5 e.length a6) R M m a e2.1 e2.2):=(by rw[Ts s.s k9 (.inl rfl)] at z;rw[<- z];exact⟨m,U.g⟩);clear Z s z U W;go_wp2;apply bodyPost_ret (results_none rfl _ _ _) rfl;exact⟨rfl,n⟩
   rw[aC Z] at s;rw[aE Z];have l6:=Nat.lt_of_not_le (λj=>Z (.inr (.inl j)));have j5:=Nat.lt_of_not_le (λj=>Z (.inr (.inr j)));clear Z B;have⟨d1,k5,e3,e5,e4,e6,B,a7,a8,a9,b0⟩:=(U.F a4.1 a4.2).i.A (i:=b) (d8 ▸ j5);rw[d8] at B;have⟨m8,n1⟩:=c7.2 b (d8 ▸ j5);have d9:Hid (xcB e w u g ⟨d,b,f⟩=((goR e w u d b&&riB g ⟨d,b,f⟩)&&(decide (f<(e.getD b Ai).e.g.length+(e.getD b Ai).e.c.length+2)&&!decide (f=(e.getD b Ai).d)))):=rfl;generalize (e.getD b Ai).e.a=f2 at *;generalize (e.getD b Ai).e.g.length=E at *;generalize (e.getD b Ai).e.c.length=F at *;generalize (e.getD b Ai).d=b9 at *;have⟨y,r,o,t,c2⟩:=W.cells;have m6:0<=(b:Int):=O;have m7:(b:Int)<K:=O;go_upto_region 9 with fail
   go_cut [7] (λv n=>∃e7:Nat,v=.pointer (some ⟨e7,0,none⟩)/\Hid (fy n e7 f2 (.slice e3 E e5) (.slice e4 F e6) b9/\E_ wc n))
   case first=>
    clear U W s z c7 a4 d9;go_region_held3 (λn=>n.cell? (J p 1)=some (L_ d1 K k5)/\n.cell? (J S 1)=some (I b)/\n.cell? (J d1 (b*4))=some (.bool f2)/\n.cell? (J d1 (b*4+1))=some (V e3 E e5)/\n.cell? (J d1 (b*4+2))=some (V e4 F e6)/\n.cell? (J d1 (b*4+3))=some (I b9)) (first|exact⟨B,r,a7,a8,a9,b0⟩|exact⟨X_ B,X_ r,X_ a7,X_ a8,X_ a9,X_ b0⟩) (fail)
    go_wp2;go_meet
    exact⟨wc.1.size,rfl,hn_,q_.drew⟩
   rename_i n6;obtain⟨e7,rfl,d6⟩:=hcut;have⟨d7,g5⟩:=Z_ (U.below d6.2) (W.below d6.2);clear U W G b1 X B A L a7 a8 a9 b0 y r o t c2;have⟨y,r,o,t,c2⟩:=g5.cells;go_wp2_with fail
   apply (ZgP p h d b f e w u g wc ((d7.F a4.1 a4.2).view (XsV.E d7.q)) c7.1 l6).m;rintro j d3 ⟨rfl,e8⟩;have⟨c6,e0⟩:=Z_ (d7.below e8) (g5.below e8);have f4:Hid (fy d3 e7 f2 (V e3 E e5) (V e4 F e6) _):=(Aa.a (S:=λ_=>False) e8).g d6.1 id;clear d7 g5 d6 e8 y r o t c2;generalize goR e w u d b=k8 at *;have⟨_,_,X,_,A,L⟩:=c6.cells;have⟨y,r,o,t,c2⟩:=e0.cells;go_upto_if 73 with fail
   go_cut [9] (λv n=>v=.bool (riB g ⟨d,b,f⟩)/\Hid (E_ d3 n))
   case first=>
    clear s z c7 a4 d9
    cases q with
    | zero=>
     have i7:¬((0:Nat):Int)>0:=O;have H:=length_eq_zero_iff.1 P;have n:Hid (riB g ⟨d,b,f⟩=true):=(by rw[H];rfl);clear H;go_wp2;go_meet
     exact⟨by rw[n],y_⟩
    | succ a1=>
     have i7:((a1+1:Nat):Int)>0:=O;have⟨j9,j6,j,g0,g6,g8⟩:=(XsV.E c6.q).2 a1 O;rw[P] at j
     have n:Hid (riB g ⟨d,b,f⟩=decide ((g.getD a1 Di).row<d∨(g.getD a1 Di).row=d/\(g.getD a1 Di).f<b)):=by
      have H:g≠[]:=λc0=>by rw[c0] at P;simp at P
      show _=_;unfold riB;rw[P];simp[H]
     subst j;generalize g.getD a1 Di=j0 at *;obtain⟨a2,f5,h6⟩:=j0;simp only at g0 g6 g8 n;have j7:i64.wrap (((a1+1:Nat):Int)-1)=a1:=(by rw[As O O];omega);clear c6 e0 f4;have⟨h9,f0⟩:=Y_ (d3.alloc (O_ #[I a2,I f5,I h6] 231));have e1:h9.1[d3.1.size]? =some (O_ #[I a2,I f5,I h6] 231):=(by rw[<- f0];exact hn_);have H:Hid (E_ d3 h9):=(by rw[<- f0];exact q_);have h3:=n_ 0 e1;have h4:=n_ 1 e1;have l4:=Ag H y;have d2:=Ag H r;clear e1;go_upto_region 14 with fail;clear f0 g0 g6 g8 y r o t c2 X A L
     by_cases N:a2<d
     ·have f3:(a2:Int)<d:=O;go_wp2;go_meet
      exact⟨by rw[n];simp[N],H⟩
     have f3:¬(a2:Int)<d:=O
     by_cases b2:a2=d
     ·have i3:((a2:Int)==d)=true:=(by simp[b2]);have c8:Hid (riB g ⟨d,b,f⟩=decide (f5<b)):=n ▸ (Bool.eq_iff_iff.2 (by simp[b2]));clear b2 n;go_wp2;go_meet
      exact⟨by rw[c8],H⟩
     have i3:((a2:Int)==d)=false:=t_;have c8:=Y (n ▸ (aE O));clear b2 n;go_wp2;go_meet
     exact⟨by rw[c8],H⟩
   obtain⟨rfl,H⟩:=hcut;have⟨g0,e1⟩:=Z_ (c6.below H) (e0.below H);have f5:Hid (fy wc _ _ _ _ _):=(Aa.a (S:=λ_=>False) H).g f4 id;clear c6 e0 f4 H X A L y r o t c2;generalize riB g ⟨d,b,f⟩=l8 at *;generalize xcB e w u g ⟨d,b,f⟩=f0 at *;have⟨⟨a7,a8,a9,b0⟩,_,_⟩:=f5.cells;have⟨_,_,o,_,_⟩:=e1.cells;have h6:=Ke e3 e4 E F e5 e6 f2 b9;go_upto_region 15 with fail;go_cut [120] (λv n=>v=.bool (!f0)/\Hid (E_ wc n))
   case first=>
    clear s z c7 a4 g0 e1 f5;obtain rfl:=d9.out
    cases k8
    ·go_quiet (fail);go_wp2;go_meet
     exact⟨rfl,below_drewN y_ _⟩
    cases l8
    ·go_quiet (fail);go_wp2;go_meet
     exact⟨rfl,below_drewN y_ _⟩
    refine Af (λn=>n.cell? _=some _/\n.cell? _=some _/\n.cell? _=some _/\n.cell? _=some _/\n.cell? _=some _) 19 k_ ⟨o,a7,a8,a9,b0⟩ λhHeld=>?_;refine K_ ?_;refine oc_ 10 (h6 _ O O) ?_;rintro j m1 ⟨rfl,g6⟩;have n:E_ wc _:=y_.drew.T g6;refine⟨_,rfl,⟨Ag n o,Ag n a7,Ag n a8,Ag n a9,Ag n b0⟩,λhHeld=>?_⟩;try simp only[Act.put,sA,sB,sC]
    by_cases a1:f<E+F+2
    ·have f3:decide ((f:Int)≥((E+F+2:Nat):Int))=false:=aE O;have c8:¬(E:Int)+F+2<=f:=O;have a2:Hid ((true&&true&&(decide (f<E+F+2)&&!decide (f=b9)))=!decide (f=b9)):=(by rw[aF a1];rfl);clear a1;refine K_ ?_;refine le_ ?_;go_wp2;go_meet
     exact⟨by rw[a2,Bool.not_not];exact congrArg _ (Bool.eq_iff_iff.2 t_),n⟩
    have f3:decide ((f:Int)≥((E+F+2:Nat):Int))=true:=aF O;have c8:(E:Int)+F+2<=f:=O;have a2:Hid ((true&&true&&(decide (f<E+F+2)&&!decide (f=b9)))=false):=(by rw[aE a1];rfl);clear a1;refine K_ ?_;refine le_ ?_;go_wp2;go_meet
    exact⟨by rw[a2];rfl,n⟩
   obtain⟨rfl,f3⟩:=hcut;have⟨a2,g6⟩:=Z_ (g0.below f3) (e1.below f3);clear g0 e1 f5 f3 d9 a7 a8 a9 b0 o h6;have⟨G,b1,_⟩:=a2.cells;go_upto_if 120 with fail
   go_cut [120] (λ_ n=>Hid (cv l n k p h (.slice a5 e.length a6) R M m a (if f0=true then Q else⟨Q.k,true⟩) g/\XbI l n k p S m ⟨d,b,f⟩))
   case first=>
    clear s z
    cases f0
    ·have n:Hid (cv l _ k p h (V a5 _ a6) R M m a _ g/\_):=⟨a2.g,g6.p a2.w.g.2 g1⟩;go_wp2;go_meet
     exact n
    have n:=T_ a2.out g6.out;go_wp2;go_meet
    exact n
   have a1:=hcut;clear hcut a2 g6 G b1;generalize (if f0=true then Q else⟨Q.k,true⟩)=i3 at *;have⟨m4,m5,j0⟩:=a1.1.q.shape;rw[length_map,P] at j0;have⟨_,_,_,_,A,L⟩:=a1.1.cells;have⟨y,r,o,_,_⟩:=a1.2.cells;have c8:Hid (cv l (wc.alloc (O_ #[I d,I b,I f] 231)).drew k p h (V a5 e.length a6) R M m a i3 g/\XbI l (wc.alloc (O_ #[I d,I b,I f] 231)).drew k p S m ⟨d,b,f⟩):=⟨a1.1.below q_.drew,a1.2.below q_.drew⟩;have h9:Hid ((wc.alloc (O_ #[I d,I b,I f] 231)).drew.ownsRow l.1.size 231 3 m q ((g.map Ct).flatten)):=(by have:=c8.1.q.row;rw[length_map,P] at this;exact this);have n0:=a1.1.u.size;clear a1 L;subst j0;go_upto_region 17 with fail;refine Af (λn=>n.cell? _=some _/\n.cell? _=some _/\n.cell? _=some _/\n.cell? _=some _) 10 k_ ⟨A,y,r,o⟩ λhHeld=>?_
   refine K_ ?_;refine on_ 6 λKK hK=>?_;go_simp;refine hK _ _ ⟨Ag q_ A,Ag q_ y,Ag q_ r,Ag q_ o⟩ λhHeld=>?_;clear hK KK;try simp only[Act.put,sA,sB,sC]
   refine on_ 7 λKK hK=>?_;refine aq_ [I d,I b,I f] h9 ?_;rintro m0 f1 ⟨j6,n,_,_,n3,n2,l4⟩;have⟨i7,g8⟩:=c8.1.E (v':=m0) (x:=⟨d,b,f⟩) n (P ▸ j6);have W:=Y i7;have⟨h3,h4,j9,_,_⟩:=(c8.2.p ((Aa.refl _ _).grown n (λq b3 _=>b3)) (λj=>c8.2.o _ j rfl)).cells;have j7:=n_ 4 g8;have l9:=R_ 4 _ _ g8;subst l4;clear j6 n i7 g8 A y r o c8 h9;refine hK _ _ ⟨j7,h3,h4,j9⟩ λhHeld=>?_;clear hK KK;refine K_ ?_;refine le_ ?_;clear j7 l9 h3 h4 j9 hHeld;generalize f1.setCell _ _=n5 at *;refine J_ ?_;exact⟨q+1,i3,g++[(⟨d,b,f⟩:XS)],_,g_,O,by simp[P],s.s,W⟩
  rw[D] at G;have n:=c4 (.inl D);clear c4 D;go_wp2;go_end0;exact⟨rfl,n⟩
 have k7:¬q<(c1:Int):=O;have n:=c4 (.inr O);clear c4;go_wp2;go_end0;exact⟨rfl,n⟩
def Zlp{d:List Int}(g:∀f∈d,0<=f/\f<256)(a:Cu):Ue (gu d a).2/\(gu d a).2.e.g.length<=16/\(gu d a).2.e.c.length<=16:=by
 have i:∀(e:Bool) (a:Cu) b,let c:=(Hh (ftS d) (a,⟨e,[],[]⟩) b).2;c.a=e/\(e=true->c.g=[])/\(e=false->c.c=[])/\c.g.length<=b/\c.c.length<=b:=λe a b=>by
  induction b with
  |zero=>simp[Hh]
  | succ b h=>
   grind [Hh,ftS,ftN,ftW]
 grind [Cv,gu,Ue]
structure yr(b a:World)(f g k:Nat)(i:Value)(j:List (Value×Value))(c:List KS)(d:ByteArray)(e:Cu):Prop where
 w:Oj a f d e
 D:e.k<=d.size
 v:Nh a g k i Dd Dd Dd
 z:fx a b.1.size i j c
 x:∀h,h<c.length->Ue (c.getD h Ai)
 B:E_ b a
 y:b.1.size<=f/\b.1.size<=g
section
variable {w W a:World} {cb db n:Nat} {vF v':Value} {kvs:List (Value×Value)} {Ks:List KS} {b:ByteArray} {c d:Cu}
def yr.call(e:yr w W cb db n vF kvs Ks b c)(i:Oj a cb b d)(j:d.k<=b.size)(f:Aa (λh=>h=cb) W a):yr w a cb db n vF kvs Ks b d:=
 ⟨i,j,f.g e.v (λg=>e.v.o e.w C g.s),e.z.p f (λp l q o g _ m=>by
  have k:=e.w
  grind [Oj]),e.x,e.B.T (f.b e.B.size (λh g=>p_ e.y)),e.y⟩
def yr.below(d:yr w W cb db n vF kvs Ks b c)(e:E_ W a):=d.call (d.w.below e) d.D (.a e)
def yr.cells(a:yr w W cb db n vF kvs Ks b c):W.cell? (J cb 2)=some (.bool c.z)/\W.cell? (J db 1)=some vF/\W.frozen? (J db 1)=false:=⟨n_ 2 a.w,n_ 1 a.v,R_ 1 _ _ a.v⟩
def yr.u(a:yr w W cb db n vF kvs Ks b c)(e:Nat):yr w (W.setCell (J db 0) (I e)) cb db e vF kvs Ks b c:=by have f:Aa (λd=>d=db) W (W.setCell (J db 0) (I e)):=(Aa.refl (λd=>d=db) W).setCell (p:=(J db 0)) (λ_=>rfl) _;exact⟨f.g a.w (a.v.o a.w C),a.D,hs_ _ db 0 _ 142 _ a.v,a.z.p f (λi g j d h _=>a.v.o d O),a.x,a.B.T (f.b a.B.size (λd g=>p_ a.y)),a.y⟩
def yr.A{K:KS}{u:Value×Value}(d:yr w W cb db n vF kvs Ks b c)(m:Ad W w.1.size u.1 K.e.g)(o:Bi W w.1.size u.2 K.e.c)(hK:Ue K)(j:W.grownBy a vF.ownBlock)(l:a.ownsRow w.1.size 227 4 v' (Ks.length+1) ((zipWith Bs Ks kvs).flatten++Bs K u)):yr w (a.setCell (J db 1) v') cb db n v' (kvs++[u]) (Ks++[K]) b c/\Nh a db n vF Dd Dd Dd:=by
 have g:=Kt (i:=1) d.v d.z.row.row j (n':=Ks.length+1) l C;have h:Nh a db n vF Dd Dd Dd:=g.1;have q:Aa (λf=>f=db) a (a.setCell (J db 1) v'):=(Aa.refl (λf=>f=db) _).setCell (p:=(J db 1)) (λ_=>rfl) _;refine⟨⟨g.2.2.2.g d.w (λe=>?_),d.D,g.2.1,(d.z.E m o j l).p q (λk p r f e _=>h.o f O),λi r=>?_,d.B.T (g.2.2.2.b d.B.size (λf p=>?_)),d.y⟩,h⟩
 ·rcases e with e|e
  exact d.v.o d.w C e;exact Ah d.z.row.row e d.w C rfl
 ·by_cases e:i<Ks.length
  ·have:=d.x i e
   grind
  grind
 rcases p with rfl|e
 exact d.y.2;exact(B_ d.z.row.row f e).1
end
theorem Zfu{a:List KS}{d:Nat}(e:List Nat):∀(b:List Nat) (c:Nat),(b++d::e).Nodup->Lk d (Yn a (b++d::e) c)=if Bj a b<=c/\c<Bj a b+(a.getD d Ai).a then some (c-Bj a b) else none
 | [],c,h=>by
  simp only[nil_append,Yn,Bj,map_nil,sum_nil]
  by_cases f:c<(a.getD d Ai).a
  rw[aD f,aD O];simp[Lk];rw[aC f,aC O]
  cases g:Yn a e (c-(a.getD d Ai).a) with
  |none=>rfl
  | some i=>
   grind [yg,Lk]
 | g::b,c,h=>by
  have i:Bj a (g::b)=(a.getD g Ai).a+Bj a b:=(by simp[Bj]);rw[cons_append,nodup_cons] at h;simp only[cons_append,Yn]
  by_cases f:c<(a.getD g Ai).a
  ·grind [Lk]
  rw[aC f,Zfu e b _ h.2,i]
  grind
def Zgo{x:Nat}{a:Ga}{h:List XS}(i:DRt x a h){b c:Nat}(u:b<a.h.length):Sp a h b (Da a b) (Iq a b) c=yp h b c (Ir a.h (a.g.map BS.fs) (a.g.map BS.N) c b):=by
 have⟨d,k,f,y,t,z,o,p,A⟩:=Zfq i.i u;have n:a.g.getD d Db=a.g[d]:=w_
 have E:∀e,e<a.g.length->e≠d->Lk b (Gn a.h (a.g.map BS.fs) (a.g.map BS.N) e c)=none:=λe j D=>by
  unfold Gn;rw[Zx _ j,Zx _ j]
  cases g:Nj a.h a.g[e].fs (a.g[e].N.getD c 0) with
  |none=>rfl
  | some l=>
   grind [ZbH,Lk]
 have B:Lk b (Gn a.h (a.g.map BS.fs) (a.g.map BS.N) d c)=if 1+Bj a.h f<=a.g[d].N.getD c 0/\a.g[d].N.getD c 0<1+Bj a.h f+(a.h.getD b Ai).a then some (a.g[d].N.getD c 0-(1+Bj a.h f)) else none:=by
  unfold Gn Nj;rw[Zx _ k,Zx _ k,t]
  by_cases g:a.g[d].N.getD c 0=0
  rw[aD g,aC O];rfl
  grind [Zfu]
 have w:Ir a.h (a.g.map BS.fs) (a.g.map BS.N) c b=if 1+Bj a.h f<=a.g[d].N.getD c 0/\a.g[d].N.getD c 0<1+Bj a.h f+(a.h.getD b Ai).a then a.g[d].N.getD c 0-(1+Bj a.h f) else(a.h.getD b Ai).d:=by
  unfold Ir;rw[length_map]
  cases g:(range a.g.length).findSome? (λe=>Lk b (Gn a.h (a.g.map BS.fs) (a.g.map BS.N) e c)) with
  | none=>
   grind
  | some l=>
   obtain⟨e,j,s⟩:=exists_of_findSome?_eq_some g
   grind
 unfold Sp;rw[o,p,n,w];split
 ·rename_i s;unfold yp
  cases r:h.find? (λm=>decide (pw c b m)) with
  |none=>rfl
  | some m=>
   have g:=find?_some r;have g:=of_decide_eq_true g;have l:=i.n m (mem_of_find?_eq_some r);unfold Ff Zgw at l;simp only[Bool.and_eq_true,decide_eq_true_eq] at l;have q:=i.g _ (Qf k);have v:=l.2.2.2.2;rw[g.1,g.2,show Da ⟨a.h,a.g,[]⟩ b=d from o,show Iq ⟨a.h,a.g,[]⟩ b=Iq a b from rfl,show Ll ⟨a.h,a.g,[]⟩ d (Iq a b)=_ from p,n,Zcs q.le (p_ q.i)] at v;omega
 rfl
def DRt.a{i:Nat}{f:Ga}{g:List XS}(a:DRt i f g)(k:g=f.q):Ko i f:=by
 subst k;have m:=a.i.length_eq;rw[length_range] at m;have hK:∀d,d<f.h.length->KRt (f.h.getD d Ai):=λd e=>a.h _ (Hk Ai e);have p:=a.j;refine⟨a.w,a.v,a.j,a.k,a.l,λc b=>⟨(a.g c b).len,(a.g c b).le,(a.g c b).sum⟩,λc b=>(a.g c b).i,λc b=>(a.g c b).o,λc b=>?_,λc b=>(a.g c b).n,λo l=>?_,λd e=>?_,λd e=>(hK d e).ok.a,λd e=>?_,?_,a.r,λj n=>?_⟩
 ·have⟨q,r,h⟩:=append_of_mem b
  grind
 ·simpa using a.i.mem_iff.2 (mem_range.2 l)
 have:=(hK d e).ok.g;show _+2<=18;omega;have:=(hK d e).sum;have:=(hK d e).ok.g;omega
 ·exact a.q.imp λa=>O
 have h:=Mf (a.n j n);simp only at h;have:=(hK j.f h.2.1).ok.g;omega
def Yu(b c:World)(g:Option Ga)(d:Ending):Prop:=match g with
 |none=>d=.returned (.tuple #[.pointer none,.int .i64 2])/\E_ b c
 |some a=>∃f e,d=.returned (.tuple #[P_ f,.int .i64 0])/\ij b c f e a/\DRt e a a.q/\E_ b c
def Yu.i{b c:World}{a:Option Ga}(d:a=none)(e:E_ b c):Yu b c a (.returned (.tuple #[.pointer none,.int .i64 2])):=by subst d;exact⟨rfl,e⟩
structure OpJ(d b:World)(h j k m c:Nat)(p:Value)(l:List (Value×Value))(e:List KS)(f:ByteArray)(a:Cu×List Bool×List (List Nat)×List (List Nat)):Prop where
 w:Oj b h f a.1
 D:a.1.k<=f.size
 A:Ej b d.1.size (L_ k c c) a.2.1
 q:a.2.1.length=c
 F:a.1.z=false->c=e.length/\∃n o g i,cj b d.1.size j m p n o Dd l g i e a.2.2.1 a.2.2.2
 B:E_ d b
def OpJ.call{i k e:World}{b l m p o:Nat}{r:Value}{n:List (Value×Value)}{j:List KS}{c:ByteArray}{d:Cu}{g:Cu×List Bool×List (List Nat)×List (List Nat)}(a:OpJ i k b l m p o r n j c g)(x:Oj e b c d)(f:d.k<=c.size)(y:d.z=false->g.1.z=false)(h:Aa (λq=>q=b) k e)(B:i.1.size<=b):OpJ i e b l m p o r n j c (d,g.2):=
 ⟨x,f,h.row a.A (λs f=>Ah a.A f a.w C),a.q,λu=>by
  have⟨v,z,A,s,t,w⟩:=a.F (y u)
  exact⟨v,z,A,s,t,w.b a.w (.inl rfl) h⟩,a.B.T (h.b a.B.size (λq D=>O))⟩
def Zms{h:List KS}:∀{b c:List BS},(∀a∈b,a.g=Bj h a.fs)->(∀a∈c,a.g=Bj h a.fs)->b.map (·.fs)=c.map (·.fs)->b.map (·.N)=c.map (·.N)->b=c
 |[],[],_,_,_,_=>rfl
 |[],_::_,_,_,d,_=>by simp at d
 |_::_,[],_,_,d,_=>by simp at d
 | i::b,a::c,j,k,e,l=>by
  simp only[map_cons,List.cons.injEq] at e l;have m:=Zms (λg f=>j g (mem_cons_of_mem _ f)) (λg f=>k g (mem_cons_of_mem _ f)) e.2 l.2;have f:=j i (mem_cons_self ..);have g:=k a (mem_cons_self ..);rw[e.1,<- g] at f
  cases i
  cases a
  grind
def Zm9{d:List KS}{c:List BS}{f:List XS}{a:Ga}(g:∀b∈c,b.g=Bj d b.fs)(h:d=a.h)(e:(c.map (·.fs),c.map (·.N))=(a.g.map (·.fs),a.g.map (·.N)))(i:f=a.q)(j:∀b∈a.g,b.g=Bj a.h b.fs):(⟨d,c,f⟩:Ga)=a:=by subst h i;simp only[Prod.mk.injEq] at e;rw[Zms g j e.1 e.2]
def ZnA{a b:ByteArray}{f:Nat}{D:Ga}(d:DRt f D D.q)(c:strOfNums (Cb D D.q)=b)(e:b=a):opD (Ab a)=some D:=by subst e;rw[<- c,Wt (Pp _ _)];exact ZgB d
def yr.F{h c:World}{k d f:Nat}{g:Value}{e:List (Value×Value)}{b:List KS}{i:ByteArray}{j:Cu}(a:yr h c k d f g e b i j):cj c h.1.size d f g Dd Dd Dd e [] [] b [] []:=⟨a.v,a.z,Mb.nil _ _,Mb.nil _ _,.inl rfl,a.x,a.y.2⟩
def ZeH{g:List KS}{k:Nat}{b:List BS}(e:∀a∈b,BRt g k a)(n:b.length<=256):pj k g (b.map (·.fs)) (b.map (·.N)):=by
 have l:∀{a},a<b.length->∃c∈b,(b.map (·.fs)).getD a []=c.fs/\(b.map (·.N)).getD a []=c.N:=λ{a} d=>⟨b[a],Qf d,w_,w_⟩;refine⟨s_,t_,λa d=>?_,λa d o=>?_,λa d=>?_,λa d m j=>?_⟩<;>rw[length_map] at d<;>obtain⟨c,f,h,i⟩:=l d;rw[i];exact(e c f).len
 ·rw[i];have:=(e c f).le;have:=(e c f).i
  grind [Qf]
 rw[h];have:=(e c f).A;omega;rw[h] at j;exact(e c f).n m j
end Go.Proofs.YtfcgnpchbcmdeaaGreat
