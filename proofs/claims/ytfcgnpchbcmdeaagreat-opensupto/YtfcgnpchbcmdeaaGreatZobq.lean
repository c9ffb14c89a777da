import Derived.Test.YtfcgnpchbcmdeaaGreatZobl
import Derived.Test.YtfcgnpchbcmdeaaGreatZobd
namespace Go.Proofs.YtfcgnpchbcmdeaaGreat
set_option linter.all false
set_option maxRecDepth 100000
set_option maxHeartbeats 8000000
open Go.RowKit List Nat World Go.Proofs.Tryz Value IntKind Lib Region
def Kt{h e:World}{a i f k b m u n':Nat}{l:Array Value}{g d:Value}{x r:List Value}(n:H_ h a l f)(s:h.ownsRow k b m g u x)(o:h.grownBy e g.ownBlock)(v:e.ownsRow k b m d n' r)(q:b≠f):e.1[a]? =some (O_ l f)/\(e.setCell (J a i) d).1[a]? =some (O_ (l.setIfInBounds i d) f)/\(e.setCell (J a i) d).ownsRow k b m d n' r/\Aa (λc=>c=a∨g.ownBlock=some c) h (e.setCell (J a i) d):=by have w:Aa (λc=>c=a∨_) _ _:=(Aa.refl _ _).grown o (λt c _=>.inr c);have j:H_ _ a _ _:=((Aa.refl _ _).grown o (λt c _=>c)).g (S:=λc=>g.ownBlock=some c) n (λb=>Ah s b n q rfl);exact⟨j,hs_ _ a i _ _ _ j,Al v j q,w.setCell (p:=(J a i)) (λ_=>.inl rfl) _⟩
def Hh{c:Type}(a:Cu×c->Cu×c)(b:Cu×c):Nat->Cu×c
 |0=>b
 |d+1=>if(Hh a b d).1.z then Hh a b d else a (Hh a b d)
def Kv{a:Type}{f:Cu×a->Cu×a}{s:Cu×a}{k:Nat}(b:(Hh f s k).1.z=false):Hh f s (k+1)=f (Hh f s k):=aC (by rw[b];decide)
def Xk{e:Type}{b:Cu×e->Cu×e}{d:Cu×e}{c a:Nat}(f:(Hh b d c).1.z=true)(g:c<=a):Hh b d a=Hh b d c:=by
 induction a with
 |zero=>grind
 | succ a h=>
  grind [Hh]
def sgR(a:Nat):Int:=if 2147483648<=a then(a:Int)-4294967296 else a
def wdT(a:List Int)(b:Cu):Cu×List Int:=La a (Cv a 8 b).2 (Cv a 8 b).1
def ftW(b:List Int)(a:Cu×ES):Cu×ES:=(if Ei (strOfNums (wdT b a.1).2)=true/\containsS a.2.c (strOfNums (wdT b a.1).2)=false then(wdT b a.1).1 else⟨(wdT b a.1).1.k,true⟩,⟨true,a.2.g,a.2.c++[strOfNums (wdT b a.1).2]⟩)
def ftN(b:List Int)(a:Cu×ES):Cu×ES:=(if a.2.g≠[]/\sgR (Ys (La b 4 a.1).2)<=a.2.g.getD (a.2.g.length-1) 0 then⟨(La b 4 a.1).1.k,true⟩ else(La b 4 a.1).1,⟨false,a.2.g++[sgR (Ys (La b 4 a.1).2)],a.2.c⟩)
def ftS(b:List Int)(a:Cu×ES):Cu×ES:=if a.2.a=true then ftW b a else ftN b a
def gu(b:List Int)(f:Cu):Cu×KS:=
 let c:=La b 1 f
 let d:=Cv b 255 c.1
 let e:=Cv b 16 d.1
 let a:=Hh (ftS b) (e.1,⟨decide (c.2=[119]),[],[]⟩) e.2
 (if(c.2=[110]∨c.2=[119])/\d.2<a.2.g.length+a.2.c.length+2 then a.1 else⟨a.1.k,true⟩,⟨a.2,d.2⟩)
def bdC(b:Bool)(a:Cu):Cu:=if b=true then⟨a.k,true⟩ else a
def Zcu(a:Prop)[Decidable a](b:Cu):(if a then⟨b.k,true⟩ else b)=bdC (decide a) b:=by simp[bdC]
def Zet(a:Prop)[Decidable a](b:Cu):(if a then b else⟨b.k,true⟩)=bdC (!decide a) b:=by unfold bdC;by_cases c:a<;>simp[c]
def Zmu(a b:Nat)(c:Bool):(a<b/\c=false)∨(a<b/\c=true)∨¬a<b:=by cases c<;>simp<;>omega
def Ts{e:Type}{f:Cu×e->Cu×e}{g d:Cu×e}{b c:Nat}(h:d=Hh f g b)(i:b<=c)(a:d.1.z=true∨b=c):Hh f g c=d:=by
 subst h
 rcases a with a|rfl
 exact Xk a i;rfl
def rq{f:World}{g b k d j l e}(i:f.ownsRow g b k d j l)(h:∀a,e.ownBlock=some a->f.1.size<=a):Bl d e:=by
 cases c:d.ownBlock with
 |none=>exact .inl c
 | some a=>
  refine .inr (.inr λb=>?_);have:=(B_ i a c).2;have:=h a (b ▸ c);omega
structure pf(b a:World)(h e d:Nat)(f:ByteArray)(g:Cu)(c:ES)(k:Int)(i j:Value):Prop where
 w:Oj a h f g
 D:g.k<=f.size
 o:fy a e false (N_) (N_) 0
 r:fy a d c.a i j k
 x:Ad a b.1.size i c.g
 B:Bi a b.1.size j c.c
 u:Aa (λl=>l=h) b a
 y:b.1.size<=e/\b.1.size<=d/\e≠d
section
variable {w W a:World} {cb rb fb:Nat} {S:ByteArray} {c f:Cu} {e:ES} {d d':Int} {vb b v':Value}
def pf.call(g:pf w W cb rb fb S c e d vb b)(m:Oj a cb S f)(h:f.k<=S.size)(i:Aa (λo=>o=cb) W a):pf w a cb rb fb S f e d vb b:=by
 have l:∀{k p q r s},fy W k p q r s->¬k=cb:=λj e=>by have:=g.w;unfold Oj at this;unfold fy at j;rw[e,this] at j;simp at j
 exact⟨m,h,i.g g.o (l g.o),i.g g.r (l g.r),i.row g.x (λn h=>Ah g.x h g.w C),i.row g.B (λn h=>Ah g.B h g.w C),g.u.T i,g.y⟩
def pf.g(a:pf w W cb rb fb S c e d vb b):=a.call a.w.g.1 a.D a.w.g.2
def pf.below(f:pf w W cb rb fb S c e d vb b)(g:E_ W a):=f.call (f.w.below g) f.D (.a g)
def pf.cells(a:pf w W cb rb fb S c e d vb b):(W.cell? (J cb 2)=some (.bool c.z)/\W.frozen? (J cb 2)=false)/\W.cell? (J fb 0)=some (.bool e.a)/\W.cell? (J fb 1)=some vb/\W.cell? (J fb 2)=some b/\W.cell? (J fb 3)=some (I d)/\W.frozen? (J fb 1)=false/\W.frozen? (J fb 2)=false/\W.frozen? (J fb 3)=false:=
 ⟨⟨n_ 2 a.w,R_ 2 _ _ a.w⟩,n_ 0 a.r,n_ 1 a.r,n_ 2 a.r,n_ 3 a.r,R_ 1 _ _ a.r,R_ 2 _ _ a.r,R_ 3 _ _ a.r⟩
def pf.q{j:ES}{n o:Value}{G:Nat->Prop}(f:pf w W cb rb fb S c e d vb b)(m:Aa (λi=>i=fb∨G i) W a)(q:∀i,G i->w.1.size<=i/\∃p g,W.1[i]? =some (O_ p g)/\(g=3∨g=9))(x:fy a fb j.a n o d')(l:Ad a w.1.size n j.g)(t:Bi a w.1.size o j.c):pf w a cb rb fb S c j d' n o:=by
 have r:∀{h g} {s:Array Value},W.1[h]? =some (O_ s g)->h≠fb->g≠3->g≠9->¬(h=fb∨G h):=λz l u v e=>by
  rcases e with e|e
  exact l e;have⟨_,p,g,k,y⟩:=q _ e;rw[z] at k;simp at k
  rcases y with rfl|rfl
  exact u k.2;exact v k.2
 have y:cb≠fb:=λe=>by have k:=f.w;have h:=f.r;unfold Oj at k;unfold fy at h;rw[e,h] at k;simp at k
 refine⟨m.g f.w (r f.w y C C),f.D,m.g f.o (r f.o f.y.2.2 C C),x,l,t,?_,f.y⟩;exact f.u.c m λk e=>.inr (e.elim (λe=>e ▸ f.y.2.1) λe=>(q k e).1)
def pf.num(a:pf w W cb rb fb S c e d vb b):pf w (W.setCell (J fb 3) (I d')) cb rb fb S c e d' vb b:=
 a.q (G:=λ_=>False) ((Aa.refl _ _).setCell (p:=(J fb 3)) (λ_=>.inl rfl) _) (λ_ e=>e.elim) (hs_ _ fb 3 _ 227 _ a.r) (Al a.x a.r C) (Al a.B a.r C)
end
def Ze2{b:List Int}(f:b.length=1)(e:∀a∈b,0<=a/\a<256)(c:UInt8):((strOfNums b).toList==[c])=decide (b=[(c.toNat:Int)]):=by
 match b,f with
 | [a],_=>
  have g:=e a s_;have d:(strOfNums [a]).toList=[UInt8.ofNat a.toNat]:=(by rw[toList_data];rfl);rw[d,Bool.eq_iff_iff,decide_eq_true_eq,beq_iff_eq];simp only[List.cons.injEq,and_true];rw[<- UInt8.toNat_inj,UInt8.toNat_ofNat'];omega
def xq i (b:ByteArray)(c:Cu) f (H:Oj f i b c)(a6:b.size<=4000000)(a4:c.k<=b.size):C_ 184 #[P_ i] f λa d=>∃R S,a=.returned (.agg #[.bool (gu (Ab b) c).2.e.a,R,S,.int .i64 (gu (Ab b) c).2.d])/\Ad d f.1.size R (gu (Ab b) c).2.e.g/\Bi d f.1.size S (gu (Ab b) c).2.e.c/\Oj d i b (gu (Ab b) c).1/\(gu (Ab b) c).1.k<=b.size/\Aa (λg=>g=i) f d:=by
 have⟨f1,G⟩:=ez_ (gu (Ab b) c);rw[G];have E:(Ab b).length=b.size:=(by simp[Ab]);have a1:=Po b;have e2:=Io _ 1 b c (f.alloc (O_ #[.bool false,N_,N_,I 0] 227)) (H.below q_) C a6 a4;have d2:=Td (n:=1) (E ▸ a4);have b0:=Ze2 (Ib _ 1 c) (Nc a1 1 c);unfold gu at G;generalize La (Ab b) 1 c=l at *;have u:fy _ f.1.size false (N_) (N_) 0:=hn_;have⟨B,c2⟩:=Y_ (decide (l.2=[119]));have⟨d5,d1⟩:=Y_ (decide (l.2=[110]));have c3:=(b0 119).T c2;have c4:=(b0 110).T d1;clear b0;refine dl_ ?_;go_enter func184,ntmps184;go_wp2_with fail
 apply e2.m;rintro a d8 ⟨rfl,X,c5⟩;clear e2
 have b7:K (pf f (d8.alloc (O_ #[.bool B,N_,N_,I 0] 227)) i f.1.size d8.1.size b l.1 ⟨B,[],[]⟩ 0 (N_) (N_)):=by
  have e:=c5.size;simp at e
  have d:f.1.size≠i:=λa=>by have:=(Qb H).1;omega
  exact⟨X.below q_,E ▸ d2,(Aa.a (S:=λ_=>False) q_).g (c5.g u d) id,hn_,Ad.nil _ _,Bi.nil _ _,(((Aa.refl _ _).alloc _).T c5).alloc _,x_,O,O⟩
 have⟨a3,f5⟩:=Y_ d8.1.size;clear X c5 H u;go_wp2_with fail
 apply (Cg _ _ b _ _ b7.w a6 b7.D).m;rintro a g5 ⟨rfl,b9,e6⟩;have F:=Y (b7.call b9 (E ▸ Ht d2) e6);have a5:=(Je a1 255 l.1).1;have f6:(Cv _ 255 _).1.k<=_:=Ht d2;clear b9 e6 b7;rw[f5] at F;generalize Cv (Ab b) 255 l.1=g at *;have⟨_,_,_,_,f2,_,_,f3⟩:=F.cells;have b8:=Y (F.num (d':=g.2));clear F;go_wp2_with fail
 clear f2 f3;apply (Cg _ _ b _ _ b8.w a6 b8.D).m;rintro a g6 ⟨rfl,c0,e7⟩;have d:=Y (b8.call c0 (E ▸ Ht f6) e7);have f7:=(Je a1 16 g.1).2 C;clear c0 e7 b8;generalize Cv (Ab b) 16 g.1=d6 at *;obtain⟨d6,Q⟩:=d6;simp only at d G f7 ⊢;rw[c2] at G;have⟨e5,d3⟩:=Y_ ((d6,⟨B,[],[]⟩):Cu×ES);rw[d3] at G;have d9:=Y d3;clear d3;go_wp2_with fail
 go_loopw [6] (λh j=>∃(e:Nat) (c:Cu) (a:ES) (R S:Value),h=.int .i64 e/\e<=Q/\K ((c,a)=Hh (ftS (Ab b)) e5 e)/\K (pf f j i f.1.size a3 b c a g.2 R S)/\K (a.a=B/\(B=true->a.g=[]/\a.c.length=e)/\(B=false->a.c=[]/\a.g.length=e))) (λh _=>Q-(intOf h).toNat)
 case atStart=>exact⟨0,_,_,_,_,rfl,r_,d9,d,rfl,λ_=>⟨rfl,rfl⟩,λ_=>⟨rfl,rfl⟩⟩
 clear d d9;obtain⟨e,c,a,R,S,rfl,b0,b5,h,b6⟩:=hrel;have⟨⟨o,s⟩,m,q,r,v,w,x,_⟩:=h.cells
 rcases Zmu e Q c.z with⟨c1,a7⟩|⟨c1,a7⟩|c1
 ·have e1:e<(Q:Int):=O;rw[a7] at o;have c8:=Kv (f:=ftS _) (s:=e5) (k:=e) (by rw[<- b5];exact a7);rw[<- b5] at c8;have M:=Y c8;clear c8 G
  cases B
  ·have⟨Z,_,e3⟩:=b6.out;have⟨e8,A⟩:=e3 rfl;rw[Z] at m;have D:=Y (M.T (aC (by rw[Z];decide)));unfold ftN at D;simp only at D;rw[A] at D;clear e3 c3 c4 M;go_wp2_with fail
   apply (Io i 4 b c _ h.w C a6 h.D).m;rintro a8 c6 ⟨rfl,a9,b4⟩;have d:=Y (h.call a9 (E ▸ Td (E ▸ h.D)) b4);have N:=Tw (strOfNums (La (Ab b) 4 c).2);rw[Bk,Ib,Rx (Nc a1 4 c)] at N;have e9:Ys (La (Ab b) 4 c).2<4294967296:=(by have:=Zr _ (Nc a1 4 c);rw[Ib] at this;exact this);clear a9 b4 o s m q r v w x h;generalize La (Ab b) 4 c=a0 at *;generalize Ys a0.2=L at *;go_wp2_with fail
   apply (N _ C).m;rintro a8 f0 ⟨rfl,P⟩;obtain rfl:=P.s;clear P N
   have e0:K (sgR L=if 2147483648<=(L:Int) then(L:Int)-4294967296 else L):=by unfold sgR;split<;>split<;>first|rfl|omega
   have f4:0<=(L:Int)/\(L:Int)<4294967296:=O;clear e9;generalize (L:Int)=g1 at *;go_upto_if 65 with fail
   go_cut [11] (λj k=>j=.int .i64 (sgR L)/\c6=k)
   case first=>by_cases j:2147483648<=g1<;>(go_wp2;go_meet;exact⟨by rw[e0];simp[j]<;>omega,rfl⟩)
   obtain⟨rfl,rfl⟩:=hcut;clear e0 f4;generalize sgR L=j at *;obtain⟨T,U,rfl⟩:=d.x.shape;rw[A] at d;have⟨⟨o,s⟩,m,q,r,v,w,x,_⟩:=d.cells;have⟨e4,b1⟩:=Y_ (a.g.getD (e-1) 0);have⟨n,t⟩:=Y_ (decide (a.g≠[]/\j<=e4));rw[b1,Zcu,t] at D;go_upto_region 19 with fail;go_cut [79] (λp k=>p=.bool n/\c6=k)
   case first=>
    cases e with
    | zero=>
     have y:¬((0:Nat):Int)>0:=O;have p:=length_eq_zero_iff.1 A;go_wp2;go_meet
     exact⟨by rw[<- t];simp[p],rfl⟩
    | succ k=>
     have y:((k+1:Nat):Int)>0:=O;obtain⟨a2,rfl,_,_,z,_⟩:=d.x.b A (show k<k+1 by omega);rw[show a.g.getD k 0=e4 from b1] at z;clear b1
     have p:a.g≠[]:=λH=>by rw[H] at A;simp at A
     have W:i64.wrap (((k+1:Nat):Int)-1)=k:=(by rw[As O O];omega);go_wp2;go_meet
     exact⟨by rw[<- t];simp[p],rfl⟩
   obtain⟨rfl,rfl⟩:=hcut;clear t;go_upto_if 79 with fail
   go_cut [79] (λ_ k=>K (pf f k i f.1.size a3 b (bdC n a0.1) a g.2 (.slice T e U) S))
   case first=>cases n<;>(go_wp2;go_meet;first|exact d|exact d.g)
   have y:=hcut;clear d o s m q r v w x hcut;generalize bdC n a0.1=a2 at *;have⟨⟨o,s⟩,m,q,r,v,w,x,_⟩:=y.cells
   have p:K (∀b2,(wc.alloc b2).ownsRow f.1.size 3 1 (V T e U) e (a.g.map (int .i64))):=λb2=>by have:=y.x;unfold Ad at this;rw[A] at this;exact ra_ this _
   have f8:=y.u.size;go_wp2_with (at_builtin;refine ap_ [I j] (p _) ?_)
   rintro d7 g2 ⟨b3,W,_,_,g0,f9,d4⟩;have z:=Y (y.below (q_ (o:=O_ #[I j] 3)));have k:=Kt (i:=1) z.r (p _) W b3 C
   have c7:K (pf f _ i f.1.size a3 b a2 ⟨false,a.g++[j],a.c⟩ g.2 d7 S):=
    z.q k.2.2.2 (λg a5=>⟨(B_ (p (O_ #[I j] 3)) g a5).1,by obtain⟨c9,d0⟩:=Ac (p (O_ #[I j] 3)) a5;exact⟨c9,3,d0,.inl rfl⟩⟩) (by have:=k.2.1;rw[Z] at this;exact this) (Ad.E (A ▸ k.2.2.1)) (Al (World.ownsRow.kept z.B W (Ao (p (O_ #[I j] 3)) z.B C)) k.1 C)
   have c9:=n_ 1 k.1;have d0:=R_ 1 _ _ k.1;subst d4;clear b3 W y z k p o s m q r v w x;refine J_ ?_;exact⟨e+1,a2,⟨false,a.g++[j],a.c⟩,_,S,g_,O,D.s,c7,rfl,(λH=>by cases H),λ_=>⟨e8,by simp[A]⟩⟩
  have⟨Z,e3,_⟩:=b6.out;have⟨f4,b1⟩:=e3 rfl;rw[Z] at m;have D:=Y (M.T (aD Z));unfold ftW wdT at D;simp only at D;clear e3 c3 c4 M;go_wp2_with fail
  apply (Cg i 8 b c _ h.w a6 h.D).m;rintro a8 c6 ⟨rfl,a9,b4⟩;have d:=Y (h.call a9 (E ▸ Ht (E ▸ h.D)) b4);have g3:=(Je a1 8 c).2 C;clear a9 b4 o s m q r v w x h;generalize Cv (Ab b) 8 c=U at *;go_wp2_with fail
  apply (Io i U.2 b U.1 _ d.w O a6 d.D).m;rintro a8 g1 ⟨rfl,e0,e8⟩;have T:=Y (d.call e0 (E ▸ Td (E ▸ d.D)) e8);have g4:(strOfNums (La (Ab b) U.2 U.1).2).size<=8:=(by rw[Bk,Ib];omega);clear e0 e8 d;generalize La (Ab b) U.2 U.1=a0 at *;generalize strOfNums a0.2=A at *;go_wp2_with fail
  apply (ZgS A _ O).m;rintro a8 f0 ⟨rfl,P⟩;obtain rfl:=P.s;clear P;obtain⟨L,N,rfl⟩:=T.B.b;rw[b1] at T;have⟨⟨o,s⟩,m,q,r,v,w,x,_⟩:=T.cells;go_wp2_with fail
  apply (Zbn _ e N L a.c A _ T.B b1 O).m;rintro a8 f0 ⟨rfl,P⟩;obtain rfl:=P.s;clear P;generalize Ei A=e4,containsS a.c A=e9 at *;have⟨n,t⟩:=Y_ (!decide (e4=true/\e9=false));rw[Zet,t] at D;go_upto_region 13 with fail;go_cut [51] (λj k=>j=.bool n/\g1=k)
  case first=>subst t;cases e4<;>cases e9<;>(go_wp2;go_meet;exact⟨rfl,rfl⟩)
  obtain⟨rfl,rfl⟩:=hcut;clear t;go_upto_if 51 with fail
  go_cut [51] (λj k=>K (pf f k i f.1.size a3 b (bdC n a0.1) a g.2 R (.slice L e N)))
  case first=>cases n<;>(go_wp2;go_meet;first|exact T|exact T.g)
  have y:=hcut;clear T o s m q r v w x hcut;generalize bdC n a0.1=a2 at *;have⟨⟨o,s⟩,m,q,r,v,w,x,_⟩:=y.cells
  have p:K (∀b2,(wc.alloc b2).ownsRow f.1.size 9 1 (V L e N) e (a.c.map string)):=λb2=>by have:=y.B;unfold Bi at this;rw[b1] at this;exact ra_ this _
  have f8:=y.u.size;go_wp2_with (at_builtin;refine ap_ [Q_ A] (p _) ?_)
  rintro d7 g2 ⟨b3,W,_,_,g0,f9,d4⟩;have z:=Y (y.below (q_ (o:=O_ #[Q_ A] 9)));have k:=Kt (i:=2) z.r (p _) W b3 C
  have c7:K (pf f _ i f.1.size a3 b a2 ⟨true,a.g,a.c++[A]⟩ g.2 R d7):=
   z.q k.2.2.2 (λg a5=>⟨(B_ (p (O_ #[Q_ A] 9)) g a5).1,by obtain⟨c9,d0⟩:=Ac (p (O_ #[Q_ A] 9)) a5;exact⟨c9,9,d0,.inr rfl⟩⟩) (by have:=k.2.1;rw[Z] at this;exact this) (Al (World.ownsRow.kept z.x W (Ao (p (O_ #[Q_ A] 9)) z.x C)) k.1 C) (Bi.add (b1 ▸ k.2.2.1))
  have c9:=n_ 2 k.1;have d0:=R_ 2 _ _ k.1;subst d4;clear b3 W y z k p o s m q r v w x;refine J_ ?_;exact⟨e+1,a2,⟨true,a.g,a.c++[A]⟩,R,_,g_,O,D.s,c7,rfl,λ_=>⟨f4,by simp[b1]⟩,λH=>by cases H⟩
 focus
  have M:K (_∨e=Q):=.inl a7;have e1:e<(Q:Int):=O;rw[a7] at o;clear a7 c1;go_upto_region 22 with fail
 rotate_left
 focus
  have M:K (c.z=true∨e=Q):=.inr O;have e1:¬e<(Q:Int):=O;clear c1;go_upto_region 22 with fail
 all_goals
  have z:K ((if(l.2=[110]∨l.2=[119])/\g.2<a.g.length+a.c.length+2 then c else⟨c.k,true⟩,⟨a,g.2⟩)=f1):=(by rw[Ts b5 b0 M] at G;exact G);obtain⟨T,U,rfl⟩:=h.x.shape;obtain⟨L,N,rfl⟩:=h.B.b
  have b1:a.g.length<=16/\a.c.length<=16:=by
   have X:=b6.2
   cases B
   have:=X.2 rfl;rw[this.1];simp;omega;have:=X.1 rfl;rw[this.1];simp;omega
  obtain⟨a8,a9⟩:=b1;have A:=Ke T L a.g.length a.c.length U N a.a g.2;have⟨p,W⟩:=Y_ a.g.length;have⟨y,Z⟩:=Y_ a.c.length;rw[W,Z] at A h z;rw[W] at a8 q;rw[Z] at a9 r;clear G M;have⟨n,t⟩:=Y_ (!decide ((l.2=[110]∨l.2=[119])/\g.2<p+y+2));rw[Zet,t] at z;go_cut [101] (λj k=>j=.bool n/\K (E_ wr k))
  case first=>
   subst t
   have D:(!decide ((l.2=[110]∨l.2=[119])/\g.2<p+y+2))=((!d5&&!B)||decide ((g.2:Int)≥((p+y+2:Nat):Int))):=by
    rw[<- c2,<- d1]
    by_cases X:l.2=[110]<;>by_cases b9:l.2=[119]<;>by_cases c0:g.2<p+y+2<;>simp[X,b9,c0]<;>omega
   have k:=Y D;have a0:((strOfNums l.2).toList !=[119])=!B:=(by rw[bne,c3]);have a2:((strOfNums l.2).toList !=[110])=!d5:=(by rw[bne,c4]);clear D d1 c2 b5 b6 z
   cases d5<;>cases B<;>simp only[Bool.not_false,Bool.not_true] at a0 a2
   ·go_quiet (fail);go_wp2;go_meet
    exact⟨by rw[k];rfl,below_drewN y_ _⟩
   all_goals
    have b2:=lt_ m;refine rg_ wr 12 λj=>?_;refine K_ ?_;refine oc_ 10 (A _ O O) ?_;rintro a c6 ⟨rfl,P⟩;refine⟨_,rfl,bt_ j P,λj=>K_ ?_⟩;refine le_ ?_;go_wp2;go_meet
    exact⟨by rw[k];simp,j⟩
  obtain⟨rfl,D⟩:=hcut;have F:=Y (h.below D);have⟨⟨o,s⟩,m,q,r,v,w,x,_⟩:=F.cells;clear h D t;go_upto_if 101 with fail
  go_cut [101] (λj k=>K (pf f k i f.1.size a3 b (bdC n c) a g.2 (.slice T p U) (.slice L y N)))
  case first=>cases n<;>(go_wp2;go_meet;first|exact F|exact F.g)
  have d:=hcut;generalize bdC n c=a2 at *;obtain rfl:=z.out;have⟨⟨o,s⟩,m,q,r,v,w,x,_⟩:=d.cells;have u:=d.o;have b2:=n_ 0 u;have c3:=n_ 1 u;have c4:=n_ 2 u;have b3:=n_ 3 u;have b4:=R_ 0 _ _ u;have c6:=R_ 1 _ _ u;have c7:=R_ 2 _ _ u;have c8:=R_ 3 _ _ u;clear F hcut u z;go_wp2;apply bodyPost_ret (v:=.agg #[.bool a.a,V T p U,V L y N,I g.2]) (by simp[results,results184,go_sem, *]) rfl;have j:=Aa.e wc f.1.size (.bool a.a) (V T p U) (V L y N) (I g.2)
  have a0:f.1.size≠i:=λa=>by have k:=d.w;have P:=d.o;unfold Oj at k;unfold fy at P;rw[<- a,P] at k;simp at k
  refine⟨_,_,rfl,j.row d.x (λe a4 a=>Ah d.x a4 d.o C a),j.row d.B (λe a4 a=>Ah d.B a4 d.o C a),j.g d.w (λa=>a0 a.s),d.D,?_⟩;exact d.u.c j λe a=>.inr O
end Go.Proofs.YtfcgnpchbcmdeaaGreat
