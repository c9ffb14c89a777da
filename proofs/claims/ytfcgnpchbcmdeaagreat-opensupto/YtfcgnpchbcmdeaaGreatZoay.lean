import Derived.Test.YtfcgnpchbcmdeaaGreatZoax
import Derived.Test.YtfcgnpchbcmdeaaGreatZoau
namespace Go.Proofs.YtfcgnpchbcmdeaaGreat
set_option linter.all false
set_option maxRecDepth 100000
set_option maxHeartbeats 8000000
open Go.RowKit List Nat World Go.Proofs.Tryz Value IntKind Lib Region
def Xe(c:ByteArray)(e:Int):Nat->Int->Nat->Int×Nat×Nat
 |0,b,a=>(b,0,a)
 |d+1,b,a=>if Jb c a e=true then Xe c e d (10*b+(Ea c a-48)) (a+1) else(b,d+1,a)
def ptF(c:ByteArray)(b:Nat)(a:Int)(e:Nat)(f:Int):Int×Nat×Nat×Int:=
 if Bp c b a 46=true/\0<e then
  let g:=if Jb c (b+1) a=true then a else wrg a
  let d:=Xe c g e f (b+1)
  (d.1,d.2.1,d.2.2,g)
 else(f,e,b,a)
def gj(b:ByteArray)(d:Nat)(f:Int)(g:Nat):Int×Nat×Int:=
 let e:=Bp b d f 45
 let c:=Nv b (if e=true then d+1 else d) f 5 true
 let a:=ptF b c.2.2.1 c.2.2.2 g c.1
 (if e=true then -(a.1*10^a.2.1) else a.1*10^a.2.1,a.2.2.1,a.2.2.2)
def ZiB{a c d}(b:Jb a c d=true):=(of_decide_eq_true b).2
def Zfe e g h:∀b a c d,0<=c->c<10^a->0<=(Pf e g h b a c d).1/\(Pf e g h b a c d).1<10^(b+a)
 |0,a,c,d,f,i=>by simpa [Pf] using ⟨f,i⟩
 | b +1,a,c,d,f,i=>by
  unfold Pf;split
  ·rename_i j;have:=ZiB j.1;have:=Zfe e g h b (a+1) (10*c+(Ea e d-48)) (d+1) O O
   grind
  refine⟨f,?_⟩
  have j:(10:Int)^a<=10^(b+1+a):=by
   have:=Nat.pow_le_pow_right (show 0<10 by omega) (show a<=b+1+a by omega)
   grind
  omega
def ZlT a b c:0<=(Nv a b c 5 true).1/\(Nv a b c 5 true).1<100000:=by unfold Nv;rw[aC s_];exact Zfe a c _ 5 0 0 b O C
def yh(d k c:Nat) b q p n (a6:Fi n d b k q p)(d5:c<=3)(c4:b.size<=1000000000000000):C_ 328 #[P_ d,I c] n λv a=>v=.returned (.int .i64 (gj b k q c).1)/\Fi a d b (gj b k q c).2.1 (gj b k q c).2.2 p/\Aa (λh=>h=d) n a:=by
 have D:=Fh _ k b q 45 _ n a6 C;have⟨b9,a2⟩:=ez_ (gj b k q c);rw[a2];refine v_ ?_;go_wp2_with fail
 apply D.m;rintro v b6 ⟨rfl,m,j⟩;have x:K (Fi b6 d b k q p/\Aa (λh=>h=d) n b6):=j ▸ ⟨a6.drew m,(Aa.refl _ _).drewN m⟩;clear a6 D j m;have⟨a0,R⟩:=ez_ (Bp b k q 45);rw[R];obtain⟨H,Q⟩:∃H,K (H=if a0=true then k+1 else k):=⟨_,rfl⟩;go_upto_if 14 with fail
 go_cut [] (λa=>K (Fi a d b H q p/\Aa (λh=>h=d) n a))
 case first=>
  cases a0 with
  | true=>
   have c2:=Hg C R;have⟨a3,a4,_⟩:=x.1.cells;have a5:=R_ 1 _ _ x.1;have a:K (_=k+1):=Q.out;go_wp2;go_meet
   have⟨L,M⟩:=x.1.go (k+1);rw[a];exact⟨L,x.2.T M⟩
  | false=>
   have a:K (_=k):=Q.out;go_wp2;go_meet
   rw[a];exact x
 clear x;have s:=ef _ _ 5 b q true _ _ hcut.out.1 O c4;have G:=ZlT b H q;have⟨b8,a1⟩:=ez_ (Nv b H q 5 true);rw[a1] at s G;obtain⟨m,d7,f,o⟩:=b8;simp only at s G;go_wp2_with fail
 apply s.m;rintro v e2 ⟨rfl,b3,b5⟩;have T:=T_ b3 (hcut.out.2.T b5);clear b3 b5 hcut s;have D:=Fh _ _ b _ 46 _ _ T.1 C;go_wp2_with fail
 apply D.m;rintro v y ⟨rfl,r,j⟩;have u:K (Fi y d b f o p/\Aa (λh=>h=d) n y):=j ▸ ⟨T.1.drew r,T.2.drewN r⟩;clear T D j r;have⟨g,z⟩:=ez_ (ptF b f o c m);have⟨b0,w⟩:=ez_ (Bp b f o 46);rw[w];go_upto_region 7 with fail;go_cut [34] (λe a=>e=.bool (b0&&decide (0<c))/\a=y)
 case first=>
  cases b0 with
  |false=>go_wp2;go_meet;grind
  |true=>go_wp2;go_meet;grind
 obtain⟨rfl,j⟩:=hcut;obtain rfl:=j.s;clear j;have⟨d0,B⟩:=ez_ ((b0&&decide (0<c)));rw[B];go_upto_if 34 with fail
 go_cut [8,6] (λl e a=>l=I (g.2.1:Nat)/\e=I g.1/\K (g.2.1<=c/\0<=g.1/\g.1<10^(8-g.2.1)/\Fi a d b g.2.2.1 g.2.2.2 p/\Aa (λh=>h=d) n a))
 case first=>
  cases d0 with
  | false=>
   have N:K (g=(m,c,f,o)):=by
    show _=_;have F:=B.out;rw[<- z];refine aC λa=>?_;rw[<- w,a.1,aF a.2] at F
    cases F
   go_wp2;go_meet
   rw[N];refine⟨rfl,rfl,x_,G.1,?_,u⟩;have:(c:Nat)=0∨c=1∨c=2∨c=3:=O
   grind
  | true=>
   have F:=B.out;rw[Bool.and_eq_true,decide_eq_true_eq] at F;obtain⟨rfl,c9⟩:=F;have c2:=Hg C w;obtain⟨i,X⟩:∃i,K (i=if Jb b (f+1) o=true then o else wrg o):=⟨_,rfl⟩;have N:K (g=((Xe b i c m (f+1)).1,(Xe b i c m (f+1)).2.1,(Xe b i c m (f+1)).2.2,i)):=(by show _=_;rw[<- z,X];exact aD ⟨w,c9⟩);clear z w B;have⟨a3,a4,c0,_⟩:=u.1.cells;have a5:=R_ 1 _ _ u.1;have U:K (Fi (y.setCell (J d 1) (I (f+1))) d b (f+1) o p/\Aa (λh=>h=d) n (y.setCell (J d 1) (I (f+1)))):=(by have⟨L,M⟩:=u.1.go (f+1);exact⟨L,u.2.T M⟩);clear u;go_upto_region 9 with fail;generalize y.setCell (J d 1) (I ((f:Int)+1))=e3 at *;clear a3 a4 c0 a5;have A:=Qp _ _ b _ _ _ U.1;go_wp2_with fail
   apply A.m;rintro v b1 ⟨rfl,r,j⟩;have E:K (Fi b1 d b (f+1) o p/\Aa (λh=>h=d) n b1):=j ▸ ⟨U.1.drew r,U.2.drewN r⟩;clear U A j r;have⟨c1,P⟩:=ez_ (Jb b (f+1) o);rw[P];go_upto_if 45 with fail
   go_cut [8,6] (λl e a=>l=I (c:Nat)/\e=I m/\K (Fi a d b (f+1) i p/\Aa (λh=>h=d) n a))
   case first=>
    cases c1 with
    | true=>
     have a:K (i=o):=(by show _=_;rw[X];exact aD P);go_wp2;go_meet
     rw[a];exact⟨rfl,rfl,E⟩
    | false=>
     have a:K (i=wrg o):=(by show _=_;rw[X];exact aC (by rw[P];decide));go_wp2_with fail
     apply (Nb d (f+1) b o p b1 E.1).m;rintro v t ⟨rfl,e,h⟩;have l:=T_ e (E.2.T h);clear e h E;go_wp2;go_meet
     rw[a];exact⟨rfl,rfl,l⟩
   obtain⟨rfl,rfl,b2⟩:=hcut;clear E X P;go_wp2_with fail
   go_loopw [8,6] (λt L M=>∃(a l:Nat) (e:Int),t=I a/\L=I e/\a<=c/\0<=e/\e<10^(8-a)/\K (Xe b i c m (f+1)=Xe b i a e l)/\K (Fi M d b l i p/\Aa (λh=>h=d) n M)) (λt _ _=>(intOf t).toNat)
   case atStart=>
    refine⟨c,f+1,m,rfl,rfl,x_,G.1,?_,rfl,b2⟩;have:(c:Nat)=1∨c=2∨c=3:=O
    rcases this with rfl|rfl|rfl<;>omega
   clear b2;obtain⟨a,l,e,rfl,rfl,c5,c7,a7,t,S⟩:=hrel
   by_cases c6:0<a
   ·obtain⟨a,rfl⟩:∃a9,a=a9+1:=⟨a-1,O⟩;have d2:0<((a+1:Nat):Int):=O;have A:=Qp _ _ b _ _ _ S.1;go_wp2_with fail
    apply A.m;rintro v b7 ⟨rfl,r,j⟩;have W:K (Fi b7 d b l i p/\Aa (λh=>h=d) n b7):=j ▸ ⟨S.1.drew r,S.2.drewN r⟩;clear S A j r
    cases Z:Jb b l i with
    | true=>
     have⟨c3,_,d3,d4,b4⟩:=ve Z;have s:K (Xe b i c m (f+1)=Xe b i a (10*e+(Ea b l-48)) (l+1)):=(by show _=_;rw[t,Xe,aD Z]);rw[b4] at s;have d1:=F_ l b.size;have a8:(10:Int)^(8-a)=10^(8-(a+1))*10:=by rw[show 8-a=(8-(a+1))+1 by omega];omega
     have c8:(10:Int)^(8-(a+1))<=10000000:=by
      have:a=0∨a=1∨a=2:=O
      rcases this with rfl|rfl|rfl<;>decide
     have⟨a3,a4,_⟩:=W.1.cells;have a5:=R_ 1 _ _ W.1;generalize d6:((b[l]'c3).toNat:Int)=h at *;have d8:IntKind.u8.wrap (h-48)=h-48:=(by simp[wrap,IntKind.bits,signed];omega);have d9:_=h-48:=As O O;have e0:_=10*e:=As O O;have e1:_=10*e+(h-48):=As O O;clear t Z b4;go_upto_region 15 with fail;go_quiet (fail);go_wp2;go_roundw
     case rel=>
      have⟨L,M⟩:=(W.1.drew nq).go (l+1);exact⟨a,l+1,10*e+(h-48),g_,rfl,O,O,p_ a8,s,L,(W.2.drewN _).T M⟩
     exact z_
    | false=>
     have h:K (g=(e,a+1,l,i)):=(by show _=_;rw[N,t,Xe,aC (by rw[Z];decide)]);go_wp2;go_meet
     rw[h]
     grind
   have L:a=0:=O;subst L;have h:K (g=(e,0,l,i)):=(by show _=_;rw[N,t,Xe]);go_wp2;go_meet
   rw[h]
   grind
 obtain⟨rfl,rfl,i⟩:=hcut;clear u B w G;have⟨F,M,N,_⟩:=i.out;have A:K (b9=(if a0=true then -(g.1*10^g.2.1) else g.1*10^g.2.1,g.2.2.1,g.2.2.2)):=(by show _=_;rw[<- a2];unfold gj;simp only;rw[R,<- Q,a1];simp only;rw[z]);clear a2 a1 z R Q;obtain⟨E,l,U,W⟩:=g;simp only at F M N i A;go_wp2_with fail
 go_loopw [8,6] (λt L h=>∃(a:Nat) (e:Int),t=I a/\L=I e/\a<=l/\0<=e/\e<10^(8-a)/\K (E*10^l=e*10^a)/\h=wc) (λt _ _=>(intOf t).toNat)
 grind
 obtain⟨a,e,rfl,rfl,c5,c7,a7,t,P⟩:=hrel;subst P
 by_cases c6:0<a
 ·obtain⟨a,rfl⟩:∃a9,a=a9+1:=⟨a-1,O⟩;have a8:(10:Int)^(8-a)=10^(8-(a+1))*10:=by rw[show 8-a=(8-(a+1))+1 by omega];omega
  have c8:(10:Int)^(8-(a+1))<=10000000:=by
   have:a=0∨a=1∨a=2:=O
   grind
  have s:K (E*10^l=10*e*10^a):=w_;clear t;refine J_ ?_;exact⟨a,10*e,g_,rfl,O,O,p_ a8,s,trivial⟩
 have L:a=0:=O;subst L;have S:e<100000000:=a7;have h:K (E*10^l=e):=w_;clear t a7
 cases a0 with
 | true=>
  go_wp2;go_ret;rw[A,h];exact⟨rfl,i.2.2.2⟩
 | false=>
  go_wp2;go_ret;rw[A,h];exact⟨rfl,i.2.2.2⟩
def mt(a:ByteArray)(b:Nat):Bool:=Xq a b 0||Bp a b 0 32||Bp a b 0 44||Bp a b 0 10
def ff(c:ByteArray):Nat->List Int->Nat->List Int×Nat×Int
 |0,b,a=>(b,a,2)
 | d +1,b,a=>
  if Bp c a 0 34=true then
   if Bp c (a+1) 0 34=true/\b.length≠8 then ff c d (b++[34]) (a+2) else(b,a+1,0)
  else if mt c a=true/\b.length≠8 then ff c d (b++[Ea c a]) (a+1) else(b,a,2)
def nl b x a (c:a=strOfNums [x]):strOfNums b++a=strOfNums (b++[x]):=by rw[c];apply ByteArray.ext;simp[strOfNums]
def Bk a:(strOfNums a).size=a.length:=by simp[strOfNums,ByteArray.size]
def ZeL{a b}(c:b<a.size):a.extract b (b+1)=strOfNums [Ea a b]:=by rw[Zd c];apply ByteArray.ext;rw[ByteArray.data_extract];apply Array.ext;show(a.data.extract b (b+1)).size=1;rw[Array.size_extract];have:a.data.size=a.size:=rfl;omega;intro e f d;have:e=0:=(by simp[strOfNums] at d;omega);subst this;simp[strOfNums];rfl
def gw{a b}(c:mt a b=true):b<a.size:=by grind [mt,Xq,Bp,Ti]
def ZbU e n a l k (p:Fi k e a n 0 l)(a0:Bp a n 0 34=true)(b0:a.size<=1000000000000000):C_ 344 #[P_ e] k λo b=>o=.returned (.string (strOfNums (ff a 9 [] (n+1)).1))/\Fi b e a (ff a 9 [] (n+1)).2.1 (ff a 9 [] (n+1)).2.2 l/\Aa (λi=>i=e) k b:=by
 have g:=bt _ n a 0 34 _ k p C b0;have a4:Oh a n 0 _=_:=aD a0;have a5:Oz a n 0 _=0:=aD a0;rw[a4,a5] at g;have⟨x,W⟩:=ez_ (ff a 9 [] (n+1));rw[W];clear p a4 a5 a0;refine v_ ?_;go_wp2_with fail
 apply g.m;rintro o b6 ⟨rfl,F,a7⟩;have a3:=T_ F a7;clear F a7 g;go_wp2_with fail
 go_loopw [3] (λc f=>∃(d:List Int) (b:Nat),c=.string (strOfNums d)/\d.length<=8/\K (x=ff a (9-d.length) d b)/\K (Fi f e a b 0 l/\Aa (λi=>i=e) k f)) (λc _=>9-(match c with|.string b=>b.size|_=>0))
 exact⟨[],n+1,rfl,s_,W.s,a3⟩;clear a3 W;obtain⟨d,b,rfl,b5,m,w⟩:=hrel;have⟨B,D,X,_⟩:=w.1.cells;have g:=Fh _ _ a 0 34 _ _ w.1 C;obtain⟨t,a9⟩:∃t,9-d.length=t+1:=⟨8-d.length,O⟩;rw[a9] at m;go_wp2_with fail
 apply g.m;rintro o G ⟨rfl,f,h⟩;have c:K (Fi G e a b 0 l/\Aa (λi=>i=e) k G):=h ▸ ⟨w.1.drew f,w.2.drewN f⟩;clear w g h f B D X
 cases q:Bp a b 0 34 with
 | true=>
  have a6:=Hg C q;have⟨B,D,X,_⟩:=c.1.cells;have Z:=R_ 1 _ _ c.1;have s:K (Fi (G.setCell (J e 1) (I (b+1))) e a (b+1) 0 l/\Aa (λi=>i=e) k (G.setCell (J e 1) (I (b+1)))):=(by have⟨L,M⟩:=c.1.go (b+1);exact⟨L,c.2.T M⟩);clear c;go_upto_region 7 with fail;generalize G.setCell (J e 1) (I ((b:Int)+1))=a2 at *;clear B D X Z;have g:=Fh _ _ a 0 34 _ _ s.1 C;go_wp2_with fail
  apply g.m;rintro o H ⟨rfl,f,h⟩;have j:K (Fi H e a (b+1) 0 l/\Aa (λi=>i=e) k H):=h ▸ ⟨s.1.drew f,s.2.drewN f⟩;clear s g h f;have a1:=Bk d
  by_cases i:Bp a (b+1) 0 34=true/\d.length≠8
  ·have r:K (x=ff a t (d++[34]) (b+2)):=(by show _=_;rw[m,ff,aD q,aD i]);have u:=Hg C i.1;rw[i.1];have⟨B,D,_⟩:=j.1.cells;have Z:=R_ 1 _ _ j.1;have v:K (_++(⟨#[34]⟩:ByteArray)=_):=nl d 34 _ rfl;have b1:d.length<8:=O;have U:9-(d++[34]).length=t:=(by rw[Qe,length_singleton];omega);clear q i m;go_wp2;go_roundw
   case rel=>
    have⟨L,M⟩:=j.1.go (b+2);exact⟨d++[34],b+2,by rw[v],t_,U ▸ r,L,j.2.T M⟩
   rw[v];simp[Bk];omega
  have r:K (x=(d,b+1,0)):=(by show _=_;rw[m,ff,aD q,aC i]);clear q
  cases u:Bp a (b+1) 0 34 with
  | true=>
   have h8:(((strOfNums d).size:Int)==8)=true:=beq_iff_eq.2 (by
    have:d.length=8:=Decidable.byContradiction λp=>i ⟨u,p⟩
    omega)
   clear u i m;go_wp2;go_ret;rw[r];exact⟨rfl,j⟩
  | false=>
   clear u i m;go_wp2;go_ret;rw[r];exact⟨rfl,j⟩
 | false=>
  have g:=ed _ _ a 0 _ _ c.1;go_wp2_with fail
  apply g.m;rintro o a2 ⟨rfl,f,h⟩;have j:K (Fi a2 e a b 0 l/\Aa (λi=>i=e) k a2):=h ▸ ⟨c.1.drew f,c.2.drewN f⟩;clear g h f c;have⟨y,Q⟩:=ez_ (Xq a b 0);rw[Q];have c:=j;clear j;have g:=Fh _ _ a 0 32 _ _ c.1 C;go_wp2_with fail
  apply g.m;rintro o H ⟨rfl,f,h⟩;have j:K (Fi H e a b 0 l/\Aa (λi=>i=e) k H):=h ▸ ⟨c.1.drew f,c.2.drewN f⟩;clear g h f c;have⟨z,R⟩:=ez_ (Bp a b 0 32);rw[R];have c:=j;clear j;have g:=Fh _ _ a 0 44 _ _ c.1 C;go_wp2_with fail
  apply g.m;rintro o a8 ⟨rfl,f,h⟩;have j:K (Fi a8 e a b 0 l/\Aa (λi=>i=e) k a8):=h ▸ ⟨c.1.drew f,c.2.drewN f⟩;clear g h f c;have⟨A,S⟩:=ez_ (Bp a b 0 44);rw[S];have c:=j;clear j;have g:=Fh _ _ a 0 10 _ _ c.1 C;go_wp2_with fail
  apply g.m;rintro o P ⟨rfl,f,h⟩;have j:K (Fi P e a b 0 l/\Aa (λi=>i=e) k P):=h ▸ ⟨c.1.drew f,c.2.drewN f⟩;clear g h f c;have⟨E,T⟩:=ez_ (Bp a b 0 10);rw[T];have c:=j;clear j;have N:K (mt a b=(y||z||A||E)):=(by show _=_;unfold mt;rw[Q,R,S,T]);have a1:=Bk d;clear Q R S T;obtain⟨s,u⟩:∃s,K (decide (d.length=8)=s):=⟨_,rfl⟩
  have h8:(((strOfNums d).size:Int)==8)=s:=by
   rw[<- u,a1]
   by_cases p:d.length=8
   rw[aF p];exact beq_iff_eq.2 O;rw[aE p];exact aO O
  go_upto_region 16 with fail;go_cut [72] (λi r=>i=.bool (!(y||z||A||E)||s)/\r=P)
  case first=>
   clear a1
   cases y<;>cases z<;>cases A<;>cases E<;>(go_wp2;go_meet;first|exact⟨rfl,rfl⟩|exact⟨by rw[h8];rfl,rfl⟩|exact⟨s_,rfl⟩)
  obtain⟨rfl,h⟩:=hcut;obtain rfl:=h.s;clear h
  by_cases i:mt a b=true/\d.length≠8
  ·have r:K (x=ff a t (d++[Ea a b]) (b+1)):=(by show _=_;rw[m,ff,aC (by rw[q];decide),aD i]);have a6:=gw i.1;have v:=Y (nl d _ _ (ZeL a6));rw[show(!(y||z||A||E)||s)=false by rw[<- N,i.1,<- u,aE i.2];rfl];have⟨B,D,_⟩:=c.1.cells;have Z:=R_ 1 _ _ c.1;have b2:0<=(b:Int):=O;have b3:b<=(b:Int)+1:=O;have b4:b+1<=(a.size:Int):=O;have U:9-(d++[Ea a b]).length=t:=(by rw[Qe,length_singleton];omega);have b1:d.length<8:=O;clear q i m N h8 u;go_upto_region 18 with fail;go_quiet (fail);go_wp2;go_roundw
   case rel=>
    have⟨L,M⟩:=(c.1.drew nq).go (b+1);exact⟨d++[Ea a _],b+1,by rw[<- v],t_,U ▸ r,L,(c.2.drewN _).T M⟩
   (try simp only[v.out]);(try simp[Bk]);(try omega)
  have r:K (x=(d,b,2)):=by show _=_;rw[m,ff,aC (by rw[q];decide),aC i]
  rw[show(!(y||z||A||E)||s)=true by
   rw[<- N,<- u]
   by_cases F:mt a b=true
   rw[aF (Decidable.byContradiction λp=>i ⟨F,p⟩),Bool.or_true]
   rw[Bool.not_eq_true _|>.mp F];rfl]
  clear q i m N h8 u;go_wp2_with fail
  apply (Nb e b a 0 l P c.1).m;rintro o M ⟨rfl,v,L⟩;have j:K (Fi _ _ a _ 2 _/\_):=⟨v,c.2.T L⟩;clear v L c;go_wp2;go_ret;rw[r];exact⟨rfl,j⟩
def Mv(c:ByteArray):Nat->List Int->Nat->List Int×Nat
 |0,b,a=>(b,a)
 |d+1,b,a=>if Xq c a 0=true then Mv c d (b++[Ea c a]) (a+1) else(b,a)
def fu(a:ByteArray)(b:Nat):List Int×Nat×Int:=
 if Bp a b 0 34=true then ff a 9 [] (b+1) else((Mv a 8 [] b).1,(Mv a 8 [] b).2,0)
def ZiK{b c a d}(f:a<b.size)(g:c<=a)(e:b.extract c a=strOfNums d):b.extract c (a+1)=strOfNums (d++[Ea b a]):=by rw[<- nl d _ _ (ZeL f),<- e,ByteArray.extract_append_extract,Nat.min_eq_left g,Nat.max_eq_right O]
def Zhi e b a p j (B:Fi j e a b 0 p)(T:b<=a.size)(S:a.size<=1000000000000000):C_ 327 #[P_ e] j λu c=>u=.returned (.string (strOfNums (fu a b).1))/\Fi c e a (fu a b).2.1 (fu a b).2.2 p/\Aa (λi=>i=e) j c:=by
 have G:=Fh _ b a 0 34 _ j B C;have⟨y,s⟩:=ez_ (fu a b);rw[s];refine v_ ?_;go_wp2_with fail
 apply G.m;rintro u H ⟨rfl,o,n⟩;have k:K (Fi H e a b 0 p/\Aa (λi=>i=e) j H):=n ▸ ⟨B.drew o,(Aa.refl _ _).drewN o⟩;clear B G n o
 cases x:Bp a b 0 34 with
 | true=>
  have c:=ZbU _ b a _ _ k.1 x S;have v:fu a b=_:=aD x;rw[<- v,s] at c;clear v;go_wp2_with fail
  apply c.m;rintro u D ⟨rfl,d,f⟩;have g:=T_ d (k.2.T f);clear d f k c;go_wp2;go_ret;exact⟨rfl,g⟩
 | false =>
  have F:K (y=((Mv a 8 [] b).1,(Mv a 8 [] b).2,0)):=(by show _=_;rw[<- s];exact aC (by rw[x];decide));have⟨t,l,z,_⟩:=k.1.cells;clear x s;go_upto_region 5 with fail;clear t l z;go_loopw [5] (λ_ f=>∃(d:List Int) (c:Nat),d.length<=8/\K (c=b+d.length)/\c<=a.size/\K (a.extract b c=strOfNums d)/\K (Mv a 8 [] b=Mv a (8-d.length) d c)/\K (Fi f e a c 0 p/\Aa (λi=>i=e) j f)) (λ_ c=>8-(match c.cell? (J e 1) with|some (.int _ o)=>o.toNat-b|_=>0))
  exact⟨[],b,s_,rfl,T,by show _=_;apply ByteArray.ext;simp[strOfNums],rfl,k⟩;clear k;obtain⟨d,c,Z,r,a1,q,f,g⟩:=hrel;have a0:b<=c:=p_ r.out;have⟨t,l,z,_⟩:=g.1.cells
  by_cases X:d.length<8
  ·have P:c-(b:Int)<8:=p_ r.out;have E:=ed _ _ a 0 _ _ g.1;have L:=Y l;obtain⟨w,Q⟩:∃w,8-d.length=w+1:=⟨7-d.length,O⟩;rw[Q] at f;go_wp2_with fail
   apply E.m;rintro u D ⟨rfl,A,n⟩;have h:K (Fi D e a c 0 p/\Aa (λi=>i=e) j D):=n ▸ ⟨g.1.drew A,g.2.drewN A⟩;clear g E n A t l z;have⟨t,l,_⟩:=h.1.cells
   cases m:Xq a c 0 with
   | true=>
    have R:=gw (by unfold mt;rw[m];rfl);have i:K (Mv a 8 [] b=Mv a w (d++[Ea a c]) (c+1)):=(by show _=_;rw[f,Mv,aD m]);have M:=Y (ZiK R O q);have N:8-(d++[Ea a c]).length=w:=w_;have W:=R_ 1 _ _ h.1;clear m f q;go_wp2;go_roundw
    case rel=>
     have⟨v,U⟩:=h.1.go (c+1);exact⟨d++[Ea a _],c+1,t_,by show _=_;rw[r];simp;omega,O,M,N ▸ i,v,h.2.T U⟩
    case measure=>
     have v:=(h.1.go (c+1)).1.cells.2.1;rw[show((c:Int)+1)=((c+1:Nat):Int) by omega,v,L.out]
     grind
   | false=>
    have i:K (y=(d,c,0)):=(by show _=_;rw[F,f,Mv,aC (by rw[m];decide)]);have v:0<=(b:Int):=O;have M:b<=(c:Int):=O;have N:c<=(a.size:Int):=O;clear m f;go_upto_region 9 with fail;go_quiet (fail);go_wp2;go_ret;rw[i,<- q];exact⟨rfl,h.1.drew _,h.2.drewN _⟩
  have P:¬c-(b:Int)<8:=p_ r.out;have i:K (y=(d,c,0)):=(by show _=_;rw[F,f,show 8-d.length=0 by omega,Mv]);have v:0<=(b:Int):=O;have M:b<=(c:Int):=O;have N:c<=(a.size:Int):=O;clear f;go_upto_region 9 with fail;go_quiet (fail);go_wp2;go_ret;rw[i,<- q];exact⟨rfl,g.1.drew _,g.2.drewN _⟩
def gq(a:ByteArray)(b:Nat)(e:Bool)(d:Nat)(c:Int):VS×Nat×Int:=
 if Bp a b 0 c=true then(⟨true,0,⟨#[]⟩⟩,b+1,0)
 else if e=true then(⟨false,0,strOfNums (fu a b).1⟩,Oh a (fu a b).2.1 (fu a b).2.2 c,Oz a (fu a b).2.1 (fu a b).2.2 c)
 else(⟨false,(gj a b 0 d).1,⟨#[]⟩⟩,Oh a (gj a b 0 d).2.1 (gj a b 0 d).2.2 c,Oz a (gj a b 0 d).2.1 (gj a b 0 d).2.2 c)
def Fi.p{d w' K a S b e c}(f:Fi d a S b e c)(h:Aa K d w')(g:¬K a):Fi w' a S b e c:=h.g f g
def Fi.lt{b a c e g f}(d:Fi b a c e g f):a<b.1.size:=(Qb d).1
structure ub(b a:World)(d h c:Nat)(f)(k)(j)(g)(i)(e:VS):Prop where
 r:Fi a d f c k i
 q:a.1[b.1.size]? =some (O_ #[.bool j,I h,I g] 51)
 o:a.1[b.1.size+1]? =some (O_ #[.bool false,I 0,Q_ ⟨#[]⟩] 335)
 vl:a.1[b.1.size+1+1]? =some (O_ #[.bool e.a,I e.num,Q_ e.g] 335)
 t:Aa (λc=>c=d) b a
 n:d<b.1.size
section
variable {w W d:World} {b sc a e:Nat} {S:ByteArray} {y f:Int} {wd:Bool} {ct:Int} {c:Value} {v:VS}
def ub.p(g:ub w W b sc a S y wd ct c v)(j:Fi d b S e f c)(h:Aa (λa=>a=b) W d):ub w d b sc e S f wd ct c v:=
 have i:=g.n
 ⟨j,h.g g.q O,h.g g.o O,h.g g.vl O,g.t.T h,i⟩
def ub.g(d:ub w W b sc a S y wd ct c v) f:ub w (W.setCell (J (w.1.size+1+1) 2) (Q_ f)) b sc a S y wd ct c ⟨v.a,v.num,f⟩:=by have h:=d.n;have e:Aa _ W (W.setCell _ (Q_ f)):=(Aa.refl (λg=>g=w.1.size+1+1) _).setCell (p:=(J (w.1.size+1+1) 2)) (λ_=>rfl) _;exact⟨d.r.p e O,e.g d.q O,e.g d.o O,ht_ 2 _ _ _ d.vl,d.t.setCell (p:=(J (w.1.size+1+1) 2)) (λg=>absurd g w_) _,h⟩
def ub.num(d:ub w W b sc a S y wd ct c v) f:ub w (W.setCell (J (w.1.size+1+1) 1) (I f)) b sc a S y wd ct c ⟨v.a,f,v.g⟩:=by have h:=d.n;have e:Aa _ W (W.setCell _ (I f)):=(Aa.refl (λg=>g=w.1.size+1+1) _).setCell (p:=(J (w.1.size+1+1) 1)) (λ_=>rfl) _;exact⟨d.r.p e O,e.g d.q O,e.g d.o O,ht_ 1 _ _ _ d.vl,d.t.setCell (p:=(J (w.1.size+1+1) 1)) (λg=>absurd g w_) _,h⟩
def ub.cells(d:ub w W b sc a S y wd ct c v):(W.cell? (J w.1.size 0)=some (.bool wd)/\W.cell? (J w.1.size 1)=some (I sc))/\(W.cell? (J (w.1.size+1+1) 0)=some (.bool v.a)/\W.cell? (J (w.1.size+1+1) 1)=some (I v.num)/\W.cell? (J (w.1.size+1+1) 2)=some (Q_ v.g)/\W.frozen? (J (w.1.size+1+1) 1)=false/\W.frozen? (J (w.1.size+1+1) 2)=false)/\W.cell? (J (w.1.size+1) 0)=some (.bool false)/\W.cell? (J (w.1.size+1) 1)=some (I 0)/\W.cell? (J (w.1.size+1) 2)=some (Q_ ⟨#[]⟩)/\W.frozen? (J (w.1.size+1) 0)=false/\W.frozen? (J (w.1.size+1) 1)=false/\W.frozen? (J (w.1.size+1) 2)=false:=
 ⟨⟨G_ 0 _ 51 (0,0) d.q,G_ 1 _ 51 (0,0) d.q⟩,⟨G_ 0 _ 335 (0,0) d.vl,G_ 1 _ 335 (0,0) d.vl,G_ 2 _ 335 (0,0) d.vl,R_ 1 _ 335 d.vl,R_ 2 _ 335 d.vl⟩,G_ 0 _ 335 (0,0) d.o,G_ 1 _ 335 (0,0) d.o,G_ 2 _ 335 (0,0) d.o,R_ 0 _ 335 d.o,R_ 1 _ 335 d.o,R_ 2 _ 335 d.o⟩
def ub.i(f:ub w W b sc a S y wd ct c v):∃d,d=((W.setCell (J (w.1.size+1) 0) (.bool v.a)).setCell (J (w.1.size+1) 1) (I v.num)).setCell (J (w.1.size+1) 2) (Q_ v.g)/\(d.cell? (J (w.1.size+1) 0)=some (.bool v.a)/\d.cell? (J (w.1.size+1) 1)=some (I v.num)/\d.cell? (J (w.1.size+1) 2)=some (Q_ v.g))/\Fi d b S a y c/\Aa (λa=>a=b) w d:=by
 have h:=f.n;have g:=ht_ 2 _ _ (Q_ v.g) (ht_ 1 _ _ (I v.num) (ht_ 0 _ _ (.bool v.a) f.o));refine⟨_,rfl,⟨G_ 0 _ _ _ g,G_ 1 _ _ _ g,G_ 2 _ 335 _ g⟩,f.r.p ((((Aa.refl (λe=>e=w.1.size+1) W).setCell (p:=(J (w.1.size+1) 0)) (λ_=>rfl) (.bool v.a)).setCell (p:=(J (w.1.size+1) 1)) (λ_=>rfl) (I v.num)).setCell (p:=(J (w.1.size+1) 2)) (λ_=>rfl) (Q_ v.g)) O,?_⟩;exact((f.t.setCell (p:=(J (w.1.size+1) 0)) (λe=>absurd e w_) _).setCell (p:=(J (w.1.size+1) 1)) (λe=>absurd e w_) _).setCell (p:=(J (w.1.size+1) 2)) (λe=>absurd e w_) _
def ub.h(e:Fi w b S a 0 c) f g:ub w ((((w.alloc (O_ #[.bool wd,I sc,I ct] 51)).alloc (O_ #[.bool false,I 0,Q_ ⟨#[]⟩] 335)).drewN f).alloc (O_ #[.bool g,I 0,Q_ ⟨#[]⟩] 335)) b sc a S 0 wd ct c ⟨g,0,⟨#[]⟩⟩:=by
 have p:Aa (λ_=>False) w (w.alloc (O_ #[.bool wd,I sc,I ct] 51)):=(Aa.refl _ w).alloc _;have o:=ha_ w (O_ #[.bool wd,I sc,I ct] 51);have n:(w.alloc (O_ #[.bool wd,I sc,I ct] 51)).1.size=w.1.size+1:=s_;generalize w.alloc (O_ #[.bool wd,I sc,I ct] 51)=d at *;have l:Aa (λ_=>False) d (d.alloc (O_ #[.bool false,I 0,Q_ ⟨#[]⟩] 335)):=(Aa.refl _ _).alloc _;have j:=ha_ d (O_ #[.bool false,I 0,Q_ ⟨#[]⟩] 335);have q:(d.alloc (O_ #[.bool false,I 0,Q_ ⟨#[]⟩] 335)).1.size=d.1.size+1:=s_;generalize d.alloc (O_ #[.bool false,I 0,Q_ ⟨#[]⟩] 335)=h at *;have i:Aa (λ_=>False) h ((h.drewN f).alloc (O_ #[.bool g,I 0,Q_ ⟨#[]⟩] 335)):=((Aa.refl _ _).drewN f).alloc _;have k:=ha_ (h.drewN f) (O_ #[.bool g,I 0,Q_ ⟨#[]⟩] 335)
 rw[heap_drewN,q,n] at k;rw[n] at j;have m:=p.T (l.T i);exact⟨e.p m id,i.g (l.g o id) id,i.g j id,k,m.m (λ_ _ e=>e.elim),e.lt⟩
end
def Zd4(j b d:Nat) a g k e m i (D:Fi i j a b 0 m)(R:b<=a.size)(S:g=false->d<=3)(E:0<=e)(z:a.size<=1000000000000000):C_ 287 #[P_ j,.agg #[.bool g,I d,I k],.int .u8 e] i λq f=>q=.returned (.agg #[.bool (gq a b g d e).1.a,.int .i64 (gq a b g d e).1.num,.string (gq a b g d e).1.g])/\Fi f j a (gq a b g d e).2.1 (gq a b g d e).2.2 m/\Aa (λc=>c=j) i f:=by
 have⟨w,t⟩:=ez_ (gq a b g d e);rw[t];refine dl_ ?_;go_enter func287,ntmps287;go_wp2_with fail
 apply (Fh _ b a 0 _ _ ((i.alloc (O_ #[.bool g,I d,I k] 51)).alloc (O_ #[.bool false,I 0,Q_ ⟨#[]⟩] 335)) (D.below (q_.alloc s_ _)) E).m;rintro q a5 ⟨rfl,u,rfl⟩;generalize a1:Bp a b 0 e=y at *;have l:=Y ((λu c=>ub.h (wd:=g) (sc:=d) (ct:=k) D u c) u y);go_upto_region 3 with fail;generalize ((((i.alloc (O_ #[.bool g,I d,I k] 51)).alloc (O_ #[.bool false,I 0,Q_ ⟨#[]⟩] 335)).drewN u).alloc (O_ #[.bool y,I 0,Q_ ⟨#[]⟩] 335))=x at *;have⟨A,B⟩:=l.cells.1
 cases y
 rotate_left
 focus
  have v:K (∃c f h,ub i x j d c a f g k m h/\w=(h,Oh a c f e,Oz a c f e)):=by
   refine⟨b,0,_,l,?_⟩;rw[<- t];unfold gq Oh Oz
   grind
  go_upto_region 7 with fail
 rotate_left
 cases g
 focus
  have L:=yh _ b _ a 0 _ _ l.r (S rfl) z;go_wp2_with fail
  apply L.m;rintro q n ⟨rfl,r,s⟩;have o:=Y (l.p r s);have⟨⟨A,B⟩,⟨F,G,H,M,N⟩,_⟩:=o.cells;have p:=o.num (gj a b 0 d).1
  have v:K (∃c f h,ub i (n.setCell (J (i.1.size+1+1) 1) (I (gj a b 0 d).1)) j d c a f false k m h/\w=(h,Oh a c f e,Oz a c f e)):=by
   refine⟨_,_,_,p,?_⟩;rw[<- t];unfold gq
   grind
  have c:=p.cells.1.1;go_upto_region 5 with fail;generalize n.setCell (J (i.1.size+1+1) 1) (I (gj a b 0 d).1)=x at *;go_upto_region 7 with fail
 rotate_left
 focus
  go_wp2_with fail
  apply (Zhi _ b a _ _ l.r R z).m;rintro q n ⟨rfl,r,s⟩;have o:=Y (l.p r s);have⟨⟨A,B⟩,⟨F,G,H,M,N⟩,_⟩:=o.cells;have p:=o.g (strOfNums (fu a b).1)
  have v:K (∃c f h,ub i (n.setCell (J (i.1.size+1+1) 2) (Q_ (strOfNums (fu a b).1))) j d c a f true k m h/\w=(h,Oh a c f e,Oz a c f e)):=by
   refine⟨_,_,_,p,?_⟩;rw[<- t];unfold gq
   grind
  have c:=p.cells.1.1;go_upto_region 5 with fail;generalize n.setCell (J (i.1.size+1+1) 2) (Q_ (strOfNums (fu a b).1))=x at *;go_upto_region 7 with fail
 all_goals
  obtain⟨c,f,h,p,P⟩:=v;go_wp2_with fail
  apply ((Y (λn c f o=>bt j c a f _ m n o E z)) _ c f p.r).m;rintro q n ⟨rfl,r,s⟩;have o:=(Y p).p r s;have⟨_,⟨F,G,H,_,_⟩,a2,a3,a4,X,Z,a0⟩:=o.cells;have⟨W,Q,⟨L,M,N⟩,U,T⟩:=o.i;go_wp2;rw[<- (Y Q)]
  (try simp only[Exit.inBlock,Exit.then])
  apply bodyPost_ret (v:=.agg #[.bool h.a,I h.num,Q_ h.g]) (by simp[results,results287,go_sem,L,M,N]) rfl;rw[(Y P)];exact⟨rfl,(T_ U T)⟩
def Ux(e:ByteArray)(f:Nat)(h:Nat->Bool)(g:Nat->Int):Nat->Nat->List VS->Nat->List VS×Nat×Int
 |0,_,b,d=>(b,d,0)
 | i+1,c,b,d=>
  let a:=gq e d (h c) (g c).toNat (Eg c f)
  if a.2.2=0 then Ux e f h g i (c+1) (b++[a.1]) a.2.1 else(b++[a.1],a.2.1,a.2.2)
def fj(b:ByteArray)(e:Nat)(i:Nat->Bool)(h:Nat->Int)(g:Nat):Int×List VS×Nat×Int:=
 let a:=Nv b g 0 2 false
 let d:=Oh b a.2.2.1 a.2.2.2 44
 let f:=Oz b a.2.2.1 a.2.2.2 44
 if f=0 then let c:=Ux b e i h e 0 [] d;(a.1,c.1,c.2.1,c.2.2) else(a.1,[],d,f)
def Kk(d:ByteArray)(e:Nat)(g:Nat->Bool)(f:Nat->Int):Nat->List (Int×List VS)->Nat->List (Int×List VS)×Nat×Int
 |0,a,b=>(a,b,0)
 | h + 1,a,b=>
  if b<d.size then
   if a.length=200 then(a,b,3)
   else
    let c:=fj d e g f b
    if c.2.2.2=0 then Kk d e g f h (a++[(c.1,c.2.1)]) c.2.2.1 else(a,c.2.2.1,c.2.2.2)
  else(a,b,0)
section
variable {S:ByteArray}
theorem Zfc{a z b}(c:0<=b)(e:a<=S.size):a<=Oh S a z b/\Oh S a z b<=S.size:=by unfold Oh;split;rename_i d;have:=Hg c d;omega;omega
def ZeJ{a c}(b:Jb S a c=true):a<S.size:=(ve b).1
theorem ZmF e f:∀d b c a,a<=S.size->a<=(Pf S e f d b c a).2.2/\(Pf S e f d b c a).2.2<=S.size
 |0,b,c,a,g=>by simp only[Pf];omega
 | d+1,b,c,a,g=>by
  unfold Pf;split;rename_i i;have h:=ZeJ i.1;have:=ZmF e f d (b+1) (10*c+(Ea S a-48)) (a+1) h;omega
  grind
def ZjA{a} d c b (e:a<=S.size):a<=(Nv S a d c b).2.2.1/\(Nv S a d c b).2.2.1<=S.size:=by grind [Nv,ZmF]
theorem Zmy d:∀c b a,a<=S.size->a<=(Xe S d c b a).2.2/\(Xe S d c b a).2.2<=S.size
 |0,b,a,e=>by simp only[Xe];omega
 | c+1,b,a,e=>by
  unfold Xe;split;rename_i g;have f:=ZeJ g;have:=Zmy d c (10*b+(Ea S a-48)) (a+1) f;omega
  grind
theorem Zon{a} b c (d:a<=S.size):a<=(gj S a b c).2.1/\(gj S a b c).2.1<=S.size:=by
 unfold gj;simp only;have e:a<=(if _=_ then _ else a)/\(if _=_ then _ else a)<=_:=Zfc (z:=b) (b:=45) C d;generalize (if Bp S a b 45=true then a+1 else a)=g at *;have i:=ZjA b 5 true e.2;generalize Nv S g b 5 true=h at *;unfold ptF;split
 ·rename_i f;have j:=Hg C f.1
  grind [Zmy]
 grind
def ZjQ:∀(c:Nat)(b:List Int)(a:Nat),a<=S.size->a<=(ff S c b a).2.1/\(ff S c b a).2.1<=S.size
 |0,b,a,f=>by simp only[ff];omega
 | c +1,b,a,f=>by
  unfold ff;split
  ·rename_i h;have e:=Hg C h;split;rename_i d;have g:=Hg C d.1;have:=ZjQ c (b++[34]) (a+2) g;omega
   grind
  split;rename_i d;have e:=gw d.1;have:=ZjQ c (b++[Ea S a]) (a+1) e;omega
  grind
def Zjn:∀(c:Nat)(b:List Int)(a:Nat),a<=S.size->a<=(Mv S c b a).2/\(Mv S c b a).2<=S.size
 |0,b,a,d=>by simp only[Mv];omega
 |c+1,b,a,d=>by unfold Mv;split;rename_i f;have e:=gw (by unfold mt;rw[f];rfl);have:=Zjn c (b++[Ea S a]) (a+1) e;omega;omega
theorem ZoL{a}(b:a<=S.size):a<=(fu S a).2.1/\(fu S a).2.1<=S.size:=by unfold fu;split;rename_i d;have c:=Hg C d;have:=ZjQ 9 [] (a+1) c;omega;exact Zjn 8 _ a b
def Zmx{a} d c {b}(e:0<=b)(g:a<=S.size):a<=(gq S a d c b).2.1/\(gq S a d c b).2.1<=S.size:=by
 unfold gq;split;rename_i f;have:=Hg e f;simp only;omega
 grind [ZoL,Zfc,Zon]
def bf a b:0<=Eg a b:=by unfold Eg;split<;>decide
theorem Zmz d f e:∀g a c b,b<=S.size->b<=(Ux S d f e g a c b).2.1/\(Ux S d f e g a c b).2.1<=S.size
 |0,a,c,b,h=>by simp only[Ux];omega
 |g+1,a,c,b,h=>by have i:=Zmx (f a) (e a).toNat (bf a d) h;unfold Ux;simp only;split;have:=Zmz d f e g (a+1) (c++[(gq S b (f a) (e a).toNat (Eg a d)).1]) _ i.2;omega;exact i
def ZmJ b d c {a}(e:a<=S.size):(a<=(fj S b d c a).2.2.1/\(fj S b d c a).2.2.1<=S.size)/\((fj S b d c a).2.2.2=0->a<(fj S b d c a).2.2.1):=by
 have f:=ZjA 0 2 false e
 grind [fj,Zfc,Zmz,Oh,Oz,wrg]
end
theorem Mp a b:Jb a b 0=Cc (Ea a b):=by unfold Jb Cc;simp
theorem Zdh a b:Xq a b 0=Ft (Ea a b):=by unfold Xq Ft;simp
theorem Hf a c b:Bp a c 0 b=decide (Ea a c=b):=by unfold Bp;simp
def Zj9 a b (c:Ea a b≠34):mt a b=Fz (Ea a b):=by grind [mt,Fz,Zdh,Hf]
def qx(c:ByteArray)(g:Bool)(f:Int):Nat->Ch->List Int->Nat->Option (Ch×List Int)
 |0,b,a,_=>some (b,a)
 | h+1,b,a,d=>match Ar g f b a (Ea c d) with
  |some e=>qx c g f h e.1 e.2 (d+1)
  |none=>none
def Fw(c:ByteArray)(j:Bool)(i:Int)(g:Ch)(d:List Int)(a:Nat)(h:Ch)(e:List Int)(f:Nat):Prop:=∃b,f=a+b/\qx c j i b g d a=some (h,e)
section
variable {S:ByteArray} {wd:Bool} {u:Int} {p b f:Ch} {bs a c:List Int} {k d e:Nat}
def Fw.refl:Fw S wd u p bs k p bs k:=⟨0,rfl,rfl⟩
def ZbG:∀(a b:Nat) (p:Ch) (bs:List Int) (k:Nat),qx S wd u (a+b) p bs k=(qx S wd u a p bs k).bind (λc=>qx S wd u b c.1 c.2 (k+a))
 |0,b,p,bs,k=>by simp[qx]
 | a +1,b,p,bs,k=>by
  rw[show a+1+b=(a+b)+1 by omega];simp only[qx]
  cases Ar wd u p bs (Ea S k) with
  |none=>rfl
  | some c=>
   simp only;rw[ZbG a b c.1 c.2 (k+1),show k+1+a=k+(a+1) by omega]
def Fw.T(h:Fw S wd u p bs k b a d)(g:Fw S wd u b a d f c e):Fw S wd u p bs k f c e:=by obtain⟨i,rfl,h⟩:=h;obtain⟨j,rfl,g⟩:=g;exact⟨i+j,O,by rw[ZbG,h];exact g⟩
def Fw.x(c:Ar wd u p bs (Ea S k)=some (b,a)):Fw S wd u p bs k b a (k+1):=⟨1,rfl,by simp[qx,c]⟩
end
def pD(c e:Bool)(a d:Int)(b:Nat):Ch:=⟨if e=true then 2 else 3,c,b,a,d*a,N_⟩
def Zff d g j c:∀f a e b,1<=a->f+a=5->(c=true->a=1)->Fw d false g (pD j c g e a) [] b (pD j c g (Pf d 0 c f a e b).1 (Pf d 0 c f a e b).2.1) [] (Pf d 0 c f a e b).2.2/\1<=(Pf d 0 c f a e b).2.1/\(c=true->(Pf d 0 c f a e b).2.1=1)/\(c=true∨(Pf d 0 c f a e b).2.1=5∨Cc (Ea d (Pf d 0 c f a e b).2.2)=false)
 |0,a,e,b,h,m,i=>by simp only[Pf];exact⟨.refl,h,i,.inr (.inl O)⟩
 | f +1,a,e,b,h,m,i=>by
  unfold Pf;split
  ·rename_i k;have n:c=false:=w_;subst n;have l:=Zff d g j false f (a+1) (10*e+(Ea d b-48)) (b+1) O O s_;refine⟨Fw.T (Fw.x ?_) l.1,l.2⟩;have o:Cc (Ea d b)=true:=(by rw[<- Mp];exact k.1);unfold Ar Dk pD Lj
   grind
  rename_i k;simp only;refine⟨.refl,h,i,?_⟩
  grind [Mp]
def p1(a:Bool):Ch:=if a=true then {part0 with g:=1,neg:=true} else part0
def Zf4 a d c b (e:Cc (Ea a b)=true):Ar false d (p1 c) [] (Ea a b)=some (pD c (decide (Ea a b=48)) d (Ea a b-48) 1,[]):=by
 have f:=Md e
 grind [Ar,Dk,p1,part0,Qm,If,pD]
def ZlU b d g a:(Cc (Ea b a)=true/\(Nv b a 0 5 true).2.2.2=0/\∃c,Fw b false d (p1 g) [] a (pD g c d (Nv b a 0 5 true).1 (Nv b a 0 5 true).2.1) [] (Nv b a 0 5 true).2.2.1/\(c=true∨(Nv b a 0 5 true).2.1=5∨Cc (Ea b (Nv b a 0 5 true).2.2.1)=false))∨(Cc (Ea b a)=false/\Nv b a 0 5 true=(0,0,a,2)):=by
 have c:Nv b a 0 5 true=(_,_,_,_):=aC s_
 cases f:Cc (Ea b a) with
 | true=>
  have e:Pf b 0 (Bp b a 0 48) 5 0 0 a=Pf b 0 (Bp b a 0 48) 4 1 (Ea b a-48) (a+1):=by
   conv=>lhs;unfold Pf
   rw[aD ⟨by rw[Mp];exact f,s_⟩];simp
  rw[e] at c;have⟨h,j,k,i⟩:=Zff b d g (Bp b a 0 48) 4 1 (Ea b a-48) (a+1) O O (λ_=>rfl);rw[c];refine .inl ⟨rfl,aC O,Bp b a 0 _,Fw.T (Fw.x ?_) h,i⟩;rw[Hf];exact Zf4 b d _ a f
 | false=>
  have e:Pf b 0 (Bp b a 0 48) 5 0 0 a=(0,0,a):=(by unfold Pf;rw[aC (λh=>by rw[Mp,f] at h;grind)]);rw[e] at c;exact .inr ⟨rfl,c⟩
theorem ca:∀a,Ca a=10^a
 |0=>rfl
 |a+1=>by rw[Ca,ca a,Int.pow_succ]
def pF(d:Bool)(b:Nat)(e:Int)(a:Nat)(c:Int):Ch:=⟨e,d,b,10^a,c*10^a,N_⟩
def ZdG{a}(c:0<a):(10:Int)^a≠1:=by obtain⟨a,rfl⟩:∃b,a=b+1:=⟨a-1,O⟩;omega
def ZeP b j h g:∀d c a e,(e=4∨e=5)->∃f,(f=5∨f=e/\(Xe b 0 d c a).2.2=a)/\Fw b false j (pF h g e d c) [] a (pF h g f (Xe b 0 d c a).2.1 (Xe b 0 d c a).1) [] (Xe b 0 d c a).2.2/\((Xe b 0 d c a).2.1=0∨Cc (Ea b (Xe b 0 d c a).2.2)=false)
 |0,c,a,e,n=>⟨e,.inr ⟨rfl,rfl⟩,.refl,.inl rfl⟩
 | d +1,c,a,e,n=>by
  unfold Xe;split
  ·rename_i i;have p:Cc (Ea b a)=true:=(by rw[<- Mp];exact i);have⟨f,o,k,l⟩:=ZeP b j h g d (10*c+(Ea b a-48)) (a+1) 5 (.inr rfl);refine⟨5,.inl rfl,?_,l⟩;have m:f=5:=O;subst m;refine Fw.T (Fw.x ?_) k;unfold Ar Dk pF Iw
   grind
  rename_i i;exact⟨e,.inr ⟨rfl,rfl⟩,.refl,.inr (by rw[<- Mp];grind)⟩
theorem ZiW c e:∀d b a,a<=(Xe c e d b a).2.2
 |0,b,a=>x_
 | d+1,b,a=>by
  unfold Xe;split;have:=ZiW c e d (10*b+(Ea c a-48)) (a+1);omega
  grind
def ZiV d a c b:Xe d 2 a c b=(c,a,b):=by
 cases a with
 |zero=>rfl
 |succ a=>unfold Xe;rw[aC (by unfold Jb;simp)]
def ZnG a f e c g d b (h:e=true∨d=5∨Cc (Ea a b)=false)(i:¬(Ea a b=46/\c≠1)):Ar false c (pD f e c g d) [] (Ea a b)=none:=by grind [Ar,Dk,pD,Lj,Mx]
def ZjK b e h a f c d (i:Ea b d=46)(g:0<a):Ar false (Ca a) (pD e h (Ca a) f c) [] (Ea b d)=some (pF e c 4 a f,[]):=by
 have j:=ZdG g;unfold Ar Dk pD pF
 grind [ca,Lj,Cc,Mx]
def Zlf a b c:∃f,Fw a false (Ca c) part0 [] b f [] (gj a b 0 c).2.1/\Ar false (Ca c) f [] (Ea a (gj a b 0 c).2.1)=none/\(((gj a b 0 c).2.2=0/\Ep f.g=true/\f.g≠0/\Sr f=(gj a b 0 c).1)∨((gj a b 0 c).2.2=2/\(Ep f.g=false∨(gj a b 0 c).2.1=b))):=by
 have m:Fw a false (Ca c) part0 [] b (p1 (Bp a b 0 45)) [] (if Bp a b 0 45=true then b+1 else b):=by
  cases d:Bp a b 0 45 with
  |false=>exact .refl
  | true=>
   rw[Hf] at d;apply Fw.x;rw[(of_decide_eq_true d)];rfl
 have A:Bp a b 0 _=false->(if Bp a b 0 _=true then b+1 else b)=b/\Ea a b≠45:=λd=>⟨by rw[d];rfl,λg=>by rw[Hf,aF g] at d;cases d⟩;unfold gj;simp only;generalize Bp a b 0 45=j at *;generalize (if j=true then b+1 else b)=p at *
 rcases ZlU a (Ca c) j p with⟨_,r,t,n,q⟩|⟨k,g⟩
 ·generalize Nv a p 0 5 true=u at *;obtain⟨l,o,i,E⟩:=u;simp only at r n q;subst r;unfold ptF;split
  ·rename_i e;rw[Hf,decide_eq_true_eq] at e;have s:=(m.T n).T (Fw.x (ZjK a _ _ _ l o _ e.1 e.2))
   cases k:Cc (Ea a (i+1)) with
   | true=>
    have h:Jb a (i+1) 0=true:=(by rw[Mp];exact k);simp only[h,if_true];have⟨z,x,y,D⟩:=ZeP a (Ca c) j o c l (i+1) 4 (.inl rfl)
    have v:z=5:=by
     rcases x with d|⟨_,d⟩
     exact d;exfalso;obtain⟨B,rfl⟩:∃w,c=w+1:=⟨c-1,O⟩
     grind [Xe,ZiW]
    subst v;generalize Xe a 0 c l (i+1)=w at *;refine⟨_,s.T y,?_,.inl ⟨by trivial,rfl,by simp[pF],?_⟩⟩
    ·grind [Ar,Dk,pF,Iw]
    unfold Sr pF
    cases j<;>rfl
   | false=>
    have h:Jb a (i+1) 0=false:=(by rw[Mp,k]);simp only[h,Bool.false_eq_true,if_false];rw[show wrg 0=2 from rfl,ZiV];refine⟨_,s,?_,.inr ⟨by trivial,.inl rfl⟩⟩;unfold Ar Dk pF Iw;simp[k]
  rename_i e;rw[Hf,decide_eq_true_eq] at e;refine⟨_,m.T n,ZnG a _ _ _ l o _ q (λd=>e ⟨d.1,Nat.pos_of_ne_zero λg=>d.2 (by rw[g];rfl)⟩),.inl ⟨rfl,?_,?_,?_⟩⟩
  ·cases t<;>rfl
  ·cases t<;>simp[pD]
  grind [Sr,pD,ca]
 rw[g];simp only;have h:ptF a p 2 c 0=_:=aC (λd=>by unfold Bp at d;simp at d);rw[h];refine⟨_,m,?_,.inr ⟨rfl,?_⟩⟩
 ·grind [Ar,Dk,p1,part0,Qm,If]
 cases j
 ·grind
 exact .inl rfl
def pW(a:Int):Ch:={part0 with g:=a}
def ox{a f st b c o}(e:Cl st b (Ea a c)=o):Ar true f (pW st) b (Ea a c)=o.map (λd=>(pW d.1,d.2)):=by unfold Ar;rw[aD rfl];show(Cl st b (Ea a c)).map _=_;rw[e];rfl
theorem ZlC{a c b}(d:b.length=8∨Ft (Ea a c)=false):Lw b (Ea a c)=none:=aC λe=>w_
theorem Zgl{a}(b:Ft a=true):a≠34:=λc=>by rw[c] at b;exact absurd b C
def ZaP c i:∀e a b d,(d=0∨d=6)->a.length+e=8->∃g,(g=6∨g=d/\(Mv c e a b).2=b)/\Fw c true i (pW d) a b (pW g) (Mv c e a b).1 (Mv c e a b).2/\((Mv c e a b).1.length=8∨Ft (Ea c (Mv c e a b).2)=false)
 |0,a,b,d,m,h=>⟨d,.inr ⟨rfl,rfl⟩,.refl,.inl (by simpa [Mv] using h)⟩
 |e+1,a,b,d,m,h=>by unfold Mv;split;rename_i f;rw[Zdh] at f;have⟨g,o,j,k⟩:=ZaP c i e (a++[Ea c b]) (b+1) 6 (.inr rfl) t_;have l:g=6:=O;subst l;refine⟨6,.inl rfl,Fw.T (Fw.x ?_) j,k⟩;have p:Lw a _=_:=aD ⟨f,O⟩;have n:Cl d a (Ea c b)=some (6,a++[Ea c b]):=(by grind [Cl,Zgl]);exact ox n;rename_i f;rw[Zdh] at f;exact⟨d,.inr ⟨rfl,rfl⟩,.refl,.inr (Bool.eq_false_iff.2 f)⟩
def xk c h:∀d a b,a.length+d=9->a.length<=8->∃e,Fw c true h (pW 7) a b (pW e) (ff c d a b).1 (ff c d a b).2.1/\Cl e (ff c d a b).1 (Ea c (ff c d a b).2.1)=none/\(((ff c d a b).2.2=0/\e=8)∨((ff c d a b).2.2=2/\e=7))
 |0,a,b,m,l=>O
 | d + 1,a,b,m,l=>by
  unfold ff;split
  ·rename_i f;rw[Hf,decide_eq_true_eq] at f;have n:Fw c _ h (pW 7) _ b (pW 8) a _:=Fw.x (ox (o:=some (8,a)) (by rw[f];rfl));split
   ·rename_i g;rw[Hf,decide_eq_true_eq] at g;have⟨e,i,j,k⟩:=xk c h d (a++[34]) (b+2) t_ t_;refine⟨e,n.T (Fw.T (Fw.x (k:=b+1) (ox (o:=some (7,a++[34])) ?_)) i),j,k⟩
    grind [Cl,Nx]
   grind [Hf,Cl,Nx]
  rename_i f;rw[Hf,decide_eq_true_eq] at f;split
  ·rename_i g;rw[Zj9 c b f] at g;have⟨e,i,j,k⟩:=xk c h d (a++[Ea c b]) (b+1) t_ t_;refine⟨e,Fw.T (Fw.x (ox (o:=some (7,a++[Ea c b])) ?_)) i,j,k⟩
   grind [Cl,dy]
  rename_i g;rw[Zj9 c b f] at g;refine⟨7,.refl,?_,.inr ⟨rfl,rfl⟩⟩
  grind [Cl,dy]
def Zmi a b f:∃c,Fw a true f part0 [] b (pW c) (fu a b).1 (fu a b).2.1/\Ar true f (pW c) (fu a b).1 (Ea a (fu a b).2.1)=none/\(((fu a b).2.2=0/\Ep c=true/\(c≠0∨(fu a b).2.1=b))∨((fu a b).2.2=2/\Ep c=false)):=by
 unfold fu;split
 ·rename_i e;rw[Hf,decide_eq_true_eq] at e;have⟨c,g,h,i⟩:=xk a f 9 [] (b+1) rfl s_;refine⟨c,Fw.T (Fw.x (ox (st:=0) (o:=some _) (by rw[e];rfl))) g,ox (o:=none) h,?_⟩
  rcases i with⟨d,rfl⟩|⟨d,rfl⟩
  exact .inl ⟨d,rfl,.inl C⟩;exact .inr ⟨d,rfl⟩
 rename_i e;rw[Hf,decide_eq_true_eq] at e;have⟨c,g,h,i⟩:=ZaP a f 8 [] b 0 (.inl rfl) rfl;refine⟨c,h,ox (o:=none) ?_,.inl ⟨rfl,?_,?_⟩⟩
 ·grind [ZlC,Cl]
 ·rcases g with rfl|⟨rfl,d⟩<;>rfl
 grind
def bc(c:ByteArray)(d:Nat)(f:Nat->Bool)(e:Nat->Int):Nat->RS->Nat->Except (Int×Nat) RS
 |0,b,_=>.ok b
 | g+1,b,a=>match Cr d f e b (Ea c a) with
  |.error i=>.error (i,a)
  |.ok h=>bc c d f e g h (a+1)
def It(c:ByteArray)(e:Nat)(i:Nat->Bool)(h:Nat->Int)(f:RS)(a:Nat)(g:RS)(d:Nat):Prop:=∃b,d=a+b/\bc c e i h b f a=.ok g
section
variable {S:ByteArray} {n:Nat} {wd:Nat->Bool} {sc:Nat->Int} {s a d:RS} {k b c:Nat}
def It.refl:It S n wd sc s k s k:=⟨0,rfl,rfl⟩
def mj:∀(b c:Nat) (s:RS) (k:Nat),bc S n wd sc (b+c) s k=match bc S n wd sc b s k with
  |.error d=>.error d
  |.ok a=>bc S n wd sc c a (k+b)
 |0,c,s,k=>by simp[bc]
 | b +1,c,s,k=>by
  rw[show b+1+c=(b+c)+1 by omega];simp only[bc]
  cases Cr n wd sc s (Ea S k) with
  |error d=>rfl
  | ok e=>
   simp only;rw[mj b c e (k+1),show k+1+b=k+(b+1) by omega]
def It.T(f:It S n wd sc s k a b)(e:It S n wd sc a b d c):It S n wd sc s k d c:=by obtain⟨g,rfl,f⟩:=f;obtain⟨h,rfl,e⟩:=e;exact⟨g+h,O,by rw[mj,f];exact e⟩
def It.x(b:Cr n wd sc s (Ea S k)=.ok a):It S n wd sc s k a (k+1):=⟨1,rfl,by simp[bc,b]⟩
def Zj5{b c a}(f:s.k.length≠200)(e:s.A=true)(d:Ar (wd s.row.length) (Ca (sc s.row.length).toNat) s.p s.g b=some (c,a)):Cr n wd sc s b=.ok {s with p:=c,g:=a}:=by grind [Cr]
def ba{a}(f:s.k.length≠200)(d:s.A=true)(b:Ar (wd s.row.length) (Ca (sc s.row.length).toNat) s.p s.g a=none)(c:a=Eg s.row.length n)(e:Ep s.p.g=true):Cr n wd sc s a=.ok (He n s (s.row++[Hn s.p s.g])):=by grind [Cr]
theorem Tz{a}(e:s.k.length≠200)(d:s.A=true)(b:Ar (wd s.row.length) (Ca (sc s.row.length).toNat) s.p s.g a=none)(c:a≠Eg s.row.length n∨Ep s.p.g=false):Cr n wd sc s a=.error 2:=by grind [Cr]
def Fw.up{h d}(g:s.k.length≠200)(e:s.A=true)(a:Fw S (wd s.row.length) (Ca (sc s.row.length).toNat) s.p s.g k h d b):It S n wd sc s k {s with p:=h,g:=d} b:=by
 obtain⟨c,rfl,a⟩:=a
 induction c generalizing s k with
 | zero=>
  simp only[qx,Option.some.injEq,Prod.mk.injEq] at a;obtain⟨rfl,rfl⟩:=a;exact .refl
 | succ c m=>
  simp only[qx] at a
  cases f:Ar (wd s.row.length) (Ca (sc s.row.length).toNat) s.p s.g (Ea S k) with
  |none=>grind
  | some i=>
   rw[f] at a;have j:=It.x (Zj5 (n:=n) g e f);have l:=m (s:={s with p:=i.1,g:=i.2}) (k:=k+1) g e a;rw[show k+(c+1)=k+1+c by omega];exact j.T l
def dx{c b}{a}:He n {s with p:=c,g:=b} a=He n s a:=by unfold He;split<;>rfl
theorem ad{b}:Oh S k 2 b=k/\Oz S k 2 b=2:=by have a:Bp S k 2 b=false:=(by unfold Bp;simp);unfold Oh Oz;rw[a];exact⟨rfl,rfl⟩
def Zdo{b}:(Ea S k=b/\Oh S k 0 b=k+1/\Oz S k 0 b=0)∨(Ea S k≠b/\Oh S k 0 b=k/\Oz S k 0 b=2):=by
 unfold Oh Oz;rw[Hf]
 by_cases a:Ea S k=b
 ·grind
 rw[aE a];exact .inr ⟨a,rfl,rfl⟩
def Zlo(m:s.k.length≠200)(h:s.A=true)(j:s.p=part0)(r:s.g=[]):((gq S k (wd s.row.length) (sc s.row.length).toNat (Eg s.row.length n)).2.2=0/\It S n wd sc s k (He n s (s.row++[(gq S k (wd s.row.length) (sc s.row.length).toNat (Eg s.row.length n)).1])) (gq S k (wd s.row.length) (sc s.row.length).toNat (Eg s.row.length n)).2.1)∨((gq S k (wd s.row.length) (sc s.row.length).toNat (Eg s.row.length n)).2.2=2/\∃a,It S n wd sc s k a (gq S k (wd s.row.length) (sc s.row.length).toNat (Eg s.row.length n)).2.1/\a.h=s.h/\Cr n wd sc a (Ea S (gq S k (wd s.row.length) (sc s.row.length).toNat (Eg s.row.length n)).2.1)=.error 2):=by
 have x:Eg s.row.length n=10∨Eg s.row.length n=44:=(by unfold Eg;omega);unfold gq;split
 ·rename_i l;rw[Hf,decide_eq_true_eq] at l;refine .inl ⟨rfl,It.x ?_⟩
  have c:Ar (wd s.row.length) (Ca (sc s.row.length).toNat) s.p s.g (Ea S k)=none:=by
   rw[j,r,l]
   cases wd s.row.length<;>rcases x with b|b<;>rw[b]<;>rfl
  rw[ba m h c l (by rw[j];rfl),j,r];rfl
 rename_i l;rw[Hf,decide_eq_true_eq] at l;split
 ·rename_i b;have⟨p,t,g,q⟩:=Zmi S k (Ca (sc s.row.length).toNat);generalize fu S k=c at *;have v:It S n wd _ s k _ _:=Fw.up m h (by rw[j,r,b];exact t);rw[<- b] at g
  rcases q with⟨o,i,q⟩|⟨o,i⟩
  ·rw[o]
   rcases Zdo (S:=S) (k:=c.2.1) (b:=Eg s.row.length n) with⟨d,e,f⟩|⟨d,e,f⟩
   ·rw[e,f];have u:p≠0:=w_
    refine .inl ⟨rfl,v.T (It.x ?_)⟩;rw[ba (s:={s with p:=pW p,g:=c.1}) m h g d i,dx];have w:Hn (pW p) c.1=⟨false,0,strOfNums c.1⟩:=by unfold Hn;rw[show(pW p).g=p from rfl,aE u];rfl
    grind
   grind [Tz]
  grind [ad,Tz,pW]
 rename_i b;have b:=Bool.eq_false_iff.2 b;have⟨p,t,g,q⟩:=Zlf S k (sc s.row.length).toNat;generalize gj S k 0 (sc s.row.length).toNat=c at *;have v:It S n wd _ s k _ _:=Fw.up m h (by rw[j,r,b];exact t);rw[<- b] at g
 rcases q with⟨o,i,u,w⟩|⟨o,i⟩
 ·rw[o]
  rcases Zdo (S:=S) (k:=c.2.1) (b:=Eg s.row.length n) with⟨d,e,f⟩|⟨d,e,f⟩
  rw[e,f];refine .inl ⟨rfl,v.T (It.x ?_)⟩;rw[ba (s:={s with p:=p,g:=[]}) m h g d i,dx];simp only[Hn,aE u,w];rfl
  grind [Tz]
 grind [ad,Tz]
def Zlk(n:Nat)(s:RS)(b:List VS):RS:=⟨s.k++[s.h],λa=>if a<n then s.a a++[b.getD a Aw] else s.a a,0,false,[],part0,[]⟩
def ZeR:∀(b:Nat)(s:RS)(k:Nat),s.k.length≠200->s.A=true->s.p=part0->s.g=[]->s.row.length+(b+1)=n->((Ux S n wd sc (b+1) s.row.length s.row k).2.2=0/\It S n wd sc s k (Zlk n s (Ux S n wd sc (b+1) s.row.length s.row k).1) (Ux S n wd sc (b+1) s.row.length s.row k).2.1)∨((Ux S n wd sc (b+1) s.row.length s.row k).2.2=2/\∃a,It S n wd sc s k a (Ux S n wd sc (b+1) s.row.length s.row k).2.1/\a.h=s.h/\Cr n wd sc a (Ea S (Ux S n wd sc (b+1) s.row.length s.row k).2.1)=.error 2)
 | b,s,k,i,h,t,q,r=>by
  have p:=Zlo (S:=S) (n:=n) (wd:=wd) (sc:=sc) (k:=k) i h t q;unfold Ux;simp only;generalize gq S k (wd s.row.length) (sc s.row.length).toNat (Eg s.row.length n)=d at *
  rcases p with⟨j,c⟩|⟨j,a,c,u,v⟩
  ·rw[aD j]
   cases b with
   | zero=>
    refine .inl ⟨rfl,?_⟩;have e:He n s _=Zlk n s (_++[d.1]):=aD (by rw[Qe];simpa using r);rw[e] at c;exact c
   | succ b=>
    have e:He n s (s.row++[d.1])=_:=aC w_;rw[e] at c;have l:=ZeR b {s with row:=s.row++[d.1],p:=part0,g:=[]} d.2.1 i h rfl rfl t_;simp only[Qe,length_singleton] at l
    rcases l with⟨f,g⟩|⟨f,a,g,m,o⟩
    exact .inl ⟨f,c.T g⟩;exact .inr ⟨f,a,c.T g,m,o⟩
  grind
theorem Sw{a}(d:s.k.length≠200)(c:s.A=false):Cr n wd sc s a=match Aq s.h a with
  |none=>.error 2
  |some none=>.ok {s with A:=true}
  |some (some b)=>.ok {s with h:=b}:=by
 grind [Cr]
def ZlS S k s (o:s.k.length≠200)(m:s.A=false)(i:s.h=0):((Nv S k 0 2 false).2.2.2=0/\1<=(Nv S k 0 2 false).1/\It S n wd sc s k {s with h:=(Nv S k 0 2 false).1} (Nv S k 0 2 false).2.2.1/\(Ea S (Nv S k 0 2 false).2.2.1≠44->Cr n wd sc {s with h:=(Nv S k 0 2 false).1} (Ea S (Nv S k 0 2 false).2.2.1)=.error 2))∨
  (Nv S k 0 2 false=(0,0,k,2)/\Cr n wd sc s (Ea S k)=.error 2):=by
 by_cases a:Cc (Ea S k)=true/\Ea S k≠48
 ·have c:=Md a.1;have e:Bp S k 0 48=false:=(by rw[Hf,aE a.2]);have f:Jb S k 0=true:=by rw[Mp];exact a.1
  have h:It S n wd sc s k {s with h:=Ea S k-48} (k+1):=It.x (by grind [Sw,Aq])
  cases b:Cc (Ea S (k+1)) with
  | true=>
   have l:=Md b;have g:Jb S (k+1) 0=true:=by rw[Mp];exact b
   have d:Nv S k 0 2 false=(10*(Ea S k-48)+(Ea S (k+1)-48),2,k+2,0):=(by unfold Nv;rw[e,aC s_];simp[Pf,f,g]);rw[d];refine .inl ⟨rfl,by simp only;omega,h.T (It.x ?_),λj=>?_⟩
   ·grind [Sw,Aq]
   grind [Sw,Aq]
  | false=>
   grind [Jb,Nv,Pf,Cr,Cc,Aq]
 refine .inr ⟨?_,?_⟩
 ·unfold Nv;rw[Hf]
  by_cases b:Ea S k=48
  rw[aD ⟨aF b,rfl⟩];rfl
  have c:Jb S k 0=false:=by
   rw[Mp,Bool.eq_false_iff]
   grind
  rw[aC (by simp[b])];simp[Pf,c];rfl
 grind [Sw,Aq,Cc]
end
structure Bnd(a:RS):Prop where
 A:a.A=false
 h:a.h=0
 row:a.row=[]
 p:a.p=part0
 g:a.g=[]
section
variable {S:ByteArray} {n:Nat} {wd:Nat->Bool} {sc:Nat->Int}
def Zmb(H:1<=n) b a (m:b.k.length≠200)(B:Bnd b):((fj S n wd sc a).2.2.2=0/\It S n wd sc b a (Zlk n {b with h:=(fj S n wd sc a).1} (fj S n wd sc a).2.1) (fj S n wd sc a).2.2.1)∨
  ((fj S n wd sc a).2.2.2=2/\∃c,It S n wd sc b a c (fj S n wd sc a).2.2.1/\Cr n wd sc c (Ea S (fj S n wd sc a).2.2.1)=.error 2/\((fj S n wd sc a).2.2.1=a∨c.h≠0)):=by
 obtain⟨i,d,P,E,N,M,D⟩:=b;obtain⟨p,q,r,s,t⟩:=B;simp only at p q r s t m;subst p q r s t;unfold fj;simp only
 rcases ZlS (n:=n) (wd:=wd) (sc:=sc) S a ⟨i,d,0,false,[],part0,[]⟩ m rfl rfl with⟨l,u,v,G⟩|⟨l,u⟩
 ·generalize Nv S a 0 2 false=y at *;obtain⟨o,L,g,Q⟩:=y;simp only at *;subst l
  rcases Zdo (S:=S) (k:=g) (b:=44) with⟨z,e,f⟩|⟨z,e,f⟩
  ·rw[e,f,aD rfl];have x:It S n wd sc ⟨i,d,o,false,[],part0,[]⟩ g ⟨i,d,o,true,[],part0,[]⟩ (g+1):=It.x (by grind [Sw,Aq]);obtain⟨h,rfl⟩:∃h,n=h+1:=⟨n-1,O⟩;have w:=ZeR (S:=S) (n:=h+1) (wd:=wd) (sc:=sc) h ⟨i,d,o,true,[],part0,[]⟩ (g+1) m rfl rfl rfl s_;simp only[length_nil] at w
   rcases w with⟨j,k⟩|⟨j,c,k,F,A⟩
   exact .inl ⟨j,(v.T x).T k⟩;exact .inr ⟨j,c,(v.T x).T k,A,.inr O⟩
  grind
 rw[l];have⟨e,f⟩:=ad (S:=S) (k:=a) (b:=44);simp only[e,f];rw[aC C];exact .inr ⟨rfl,_,.refl,u,.inl rfl⟩
def Zen(n:Nat)(c:RS)(b:List (Int×List VS)):Prop:=c.k=b.map Prod.fst/\∀a,a<n->c.a a=b.map (λd=>d.2.getD a Aw)
def Zfm(s:1<=n):∀e b a d,Bnd d->Zen n d b->b.length<=200->a<=S.size->S.size+1<=e+a->((Kk S n wd sc e b a).2.2=0/\(Kk S n wd sc e b a).2.1=S.size/\∃c,It S n wd sc d a c S.size/\Bnd c/\Zen n c (Kk S n wd sc e b a).1)∨((Kk S n wd sc e b a).2.2=2/\(Kk S n wd sc e b a).2.1=S.size/\∃c,It S n wd sc d a c S.size/\c.h≠0)∨((Kk S n wd sc e b a).2.2≠0/\(Kk S n wd sc e b a).2.1<S.size/\∃c,It S n wd sc d a c (Kk S n wd sc e b a).2.1/\Cr n wd sc c (Ea S (Kk S n wd sc e b a).2.1)=.error (Kk S n wd sc e b a).2.2)
 |0,b,a,d,o,l,w,q,x=>O
 | e + 1,b,a,d,o,l,w,q,x=>by
  have B:d.k.length=b.length:=(by rw[l.1,length_map]);unfold Kk;split
  ·rename_i r;split
   ·rename_i v;refine .inr (.inr ⟨s_,r,d,.refl,?_⟩)
    grind [Cr]
   rename_i v;have g:=Zmb (S:=S) (wd:=wd) (sc:=sc) s d a O o;have u:=ZmJ (S:=S) n wd sc q;simp only;generalize fj S n wd sc a=f at *
   rcases g with⟨t,g⟩|⟨t,c,g,z,A⟩
   ·rw[aD t];have y:=Zfm s e (b++[(f.1,f.2.1)]) f.2.2.1 (Zlk n {d with h:=f.1} f.2.1) ⟨rfl,rfl,rfl,rfl,rfl⟩ ⟨?_,λm p=>?_⟩ t_ u.1.2 O
    ·rcases y with⟨h,i,c,j,k⟩|⟨h,i,c,j,k⟩|⟨h,i,c,j,k⟩
     exact .inl ⟨h,i,c,g.T j,k⟩;exact .inr (.inl ⟨h,i,c,g.T j,k⟩);exact .inr (.inr ⟨h,i,c,g.T j,k⟩)
    show d.k++[f.1]=_;rw[l.1,map_append];rfl;show(if m<n then d.a m++[f.2.1.getD m Aw] else d.a m)=_;rw[aD p,l.2 m p,map_append];rfl
   grind
  rename_i r;have c:a=S.size:=O;exact .inl ⟨rfl,c,d,by rw[<- c];exact .refl,o,l⟩
def zy{a}(b:a<S.size):(Ab S).drop a=Ea S a::(Ab S).drop (a+1):=by have c:a<(Ab S).length:=(by unfold Ab;rw[length_map];exact b);rw[aN c,Zd b];congr 1;simp only[Ab,getElem_map];rfl
def tr:∀(c:Nat)(b:RS)(a:Nat),a+c=S.size->Bt n wd sc b ((Ab S).drop a) a=bc S n wd sc c b a
 |0,b,a,d=>by have:(Ab S).drop a=[]:=drop_eq_nil_of_le (by unfold Ab;rw[length_map];show S.size<=a;omega);rw[this];rfl
 | c+1,b,a,d=>by
  rw[zy O];simp only[Bt,bc]
  cases Cr n wd sc b (Ea S a) with
  |error f=>rfl
  |ok e=>exact tr c _ _ O
def ZbA(m:1<=n):(∃a,Bt n wd sc RS.start (Ab S) 0=.ok a/\a.h=0/\(Kk S n wd sc (S.size+1) [] 0).2.2=0/\(Kk S n wd sc (S.size+1) [] 0).2.1=S.size/\Zen n a (Kk S n wd sc (S.size+1) [] 0).1)∨(∃a,Bt n wd sc RS.start (Ab S) 0=.ok a/\a.h≠0/\(Kk S n wd sc (S.size+1) [] 0).2.2=2/\(Kk S n wd sc (S.size+1) [] 0).2.1=S.size)∨(Bt n wd sc RS.start (Ab S) 0=.error ((Kk S n wd sc (S.size+1) [] 0).2.2,(Kk S n wd sc (S.size+1) [] 0).2.1)/\(Kk S n wd sc (S.size+1) [] 0).2.2≠0/\(Kk S n wd sc (S.size+1) [] 0).2.1<S.size):=by
 have g:=tr (S:=S) (n:=n) (wd:=wd) (sc:=sc) S.size RS.start 0 O;rw[drop_zero] at g
 rcases Zfm (S:=S) (wd:=wd) (sc:=sc) m (S.size+1) [] 0 RS.start ⟨rfl,rfl,rfl,rfl,rfl⟩ ⟨rfl,λ_ _=>rfl⟩ s_ r_ O with⟨b,c,i,⟨a,f,d⟩,e,k⟩|⟨b,c,i,⟨a,f,d⟩,e⟩|⟨b,c,i,⟨a,f,d⟩,e⟩
 have:a=S.size:=O;subst this;exact .inl ⟨i,by rw[g,d],e.h,b,c,k⟩
 ·grind
 refine .inr (.inr ⟨?_,b,c⟩);obtain⟨h,l⟩:∃h,S.size=a+(h+1):=⟨S.size-a-1,O⟩;have j:bc S n wd sc S.size RS.start 0=bc S n wd sc (a+(h+1)) RS.start 0:=(by rw[<- l]);rw[g,j,mj,d];simp only[bc];rw[<- f,e]
end
def ju{d}:∀(e:List (List Value)) a,(∀f∈e,f.length=d)->a<e.length->∀b,b<d->e.flatten[a*d+b]? =(e.getD a [])[b]?
 |[],a,_,c=>by simp at c
 |h::i,0,g,_=>λb j=>w_
 |h::i,a+1,g,c=>λb j=>by have k:=g h s_;rw[flatten_cons,getElem?_append_right w_,show(a+1)*d+b-h.length=a*d+b by grind];exact ju i a (λf c=>g f (by simp[c])) (by simpa using c) b j
def dh{d}:∀(b:List (List Value)),(∀a∈b,a.length=d)->b.flatten.length=b.length*d
 |[],_=>s_
 |g::e,c=>by rw[flatten_cons,Qe,dh e (λa f=>c a (by simp[f])),c g s_,length_cons,Nat.add_mul];omega
def Xc{b}:∀(c:List (List Value)) a,(∀e∈c,e.length=b)->a<=c.length->(c.take a).flatten=c.flatten.take (a*b)
 |[],a,_,d=>s_
 |f::g,0,_,_=>s_
 |f::g,a+1,h,d=>by have i:=h f s_;rw[take_succ_cons,flatten_cons,flatten_cons,Xc g a (λe d=>h e (by simp[d])) (by simpa using d),take_append,aI (l:=f) w_,i,show(a+1)*b-b=a*b by grind]
structure Wl(g:World)(c e b:Nat)(f)(a:List (List Value)):Prop where
 row:g.ownsRow c e b f a.length a.flatten
 h:∀d∈a,d.length=b
section
variable {w w':World} {base ty b:Nat} {v v':Value} {a:List (List Value)}
def Wl.nil w base ty b:Wl w base ty b (N_) []:=⟨rn_,s_⟩
def Wl.p{K}(c:Wl w base ty b v a)(f:Aa K w w')(e:∀d,v.ownBlock=some d->¬K d):Wl w' base ty b v a:=⟨f.row c.row e,c.h⟩
def Wl.below(c:Wl w base ty b v a)(d:E_ w w'):Wl w' base ty b v a:=c.p (.a (S:=λ_=>False) d) (λ_ _=>id)
def Wl.shape(e:Wl w base ty b v a):∃c d,v=.slice c a.length d:=by
 rcases e.row.2 with⟨rfl,i⟩|⟨h,f,g,rfl,_⟩
 ·grind
 grind
def Wl.at(e:Wl w base ty b v a){i}(m:i<a.length):∃d g,v=L_ d a.length g/\a.length<=g/\base<=d/\d<w.1.size/\(∀c,w.frozen? (J d c)=false)/\∀c,c<b->∀f,(a.getD i [])[c]? =some f->w.cell? (J d (i*b+c))=some f:=by
 rcases e.row.2 with⟨_,r⟩|⟨k,j,q,rfl,l,h,n,_⟩
 omega;refine⟨k,j,rfl,n,l,(Qb h).1,λc=>R_ c _ _ h,λc o f p=>?_⟩;rw[World.ownsRow.cellAt e.row (i*b+c) (gh_ (aK b (show i+1<=a.length by omega))),ju a i e.h m c o];exact p
def Wl.E{x}(e:Wl w base ty b v a)(h:w'.ownsRow base ty b v' (a.length+1) (a.flatten++x))(g:x.length=b):Wl w' base ty b v' (a++[x]):=by
 refine⟨?_,λd f=>?_⟩
 ·grind
 rcases mem_append.1 f with c|c
 exact e.h d c
 grind
def Wl.upto{g r c d}(e:Wl w base ty b (V g r c) a)(f:d<=a.length):Wl w base ty b (V g d c) (a.take d):=by
 have i:∀c∈a.take d,_:=λc m=>e.h c (aL m);refine⟨⟨dh _ i,?_⟩,i⟩;rw[length_take,Nat.min_eq_left f]
 rcases e.row.2 with⟨h,t⟩|⟨k,s,j,h,l,n,u,o,p,q⟩
 ·grind
 injection h with e1 e2 e3;subst e1 e3;refine .inr ⟨k,c,j,rfl,l,n,O,o,p,?_⟩;rw[Xc a d e.h f,<- q,take_take,Nat.min_eq_left (aK _ f)]
end
theorem sn c:∀e b,c.length-b<=e->Dy c [] e b 0=c.drop b
 |0,b,a=>by rw[drop_eq_nil_of_le O];rfl
 | e+1,b,a=>by
  by_cases d:b<c.length
  simp only[Dy];rw[aD ⟨d,λa=>by simp at a⟩,sn c e (b+1) O,aN d];congr 1;simp[seen,Cj,Du,Ae,getD,d];simp only[Dy];rw[aC (λa=>d a.1),aC (λa=>by simp at a),aC (λa=>d a.1),drop_eq_nil_of_le O]
def Zgg a:Bf a []=a:=by grind [Bf,sn]
def ZfW{a b}(c:a.length<=b):Eo a b=a:=by
 unfold Eo
 grind
def Um:Nat->List (List Cm)->List (Nat×List Cm)
  |_,[]=>[]
  |a,b::c=>if b.length=0 then Um (a+1) c else(a,b)::Um (a+1) c
def skT(e:Int):Nat->List Cm->List (Nat×List Cm)->List (Nat×List Cm)
 |a,b,[]=>[(a,b)]
 |a,b,c::d=>if c.1=a then skT e (a+1) (Eo (Bf c.2 b) e) d else(a,b)::c::d
def wj:∀(e:List (List Cm)) (a:Nat),∀c∈Um a e,a<=c.1
  |[],a=>by simp[Um]
  | f::d,a=>λc b=>by
    unfold Um at b;split at b;have:=wj d (a+1) c b;omega
    rcases mem_cons.1 b with rfl|b
    omega;have:=wj d (a+1) c b;omega
theorem Xp{a}(b:0<Ae a):a.length≠0:=λc=>by unfold Ae at b;omega
def sv i:∀e b a,(∀d∈e,0<=Ae d)->0<Ae b->Um a (Au i e b)=skT i a b (Um a e)
 |[],b,a,h,f=>by grind [Au,Um,Xp,skT]
 | l ::c,b,a,h,f=>by
  have j:∀d∈c,_:=λd k=>h d (by simp[k])
  by_cases g:l.length=0
  ·simp only[Au,aD g,Um,aC (Xp f)];have m:=wj c (a+1)
   cases n:Um (a+1) c with
   |nil=>rfl
   | cons o p=>
    grind [skT]
  simp only[Au,aC g,Um,length_nil,if_true,skT];apply sv _ c _ _ j;rw[Gg,Fa]
  grind
def skF(b:Int):List Cm->List (Nat×List Cm)->List Cm
 |a,[]=>a
 |a,c::d=>skF b (Eo (Bf a c.2) b) d
def na{size}(d:2<=size):∀e b a,a.length<=size->Fq size a e=skF size a (Um b e)
 |[],b,a,c=>rfl
 | i::g,b,a,c=>by
  by_cases f:i.length=0
  have h:=eq_nil_of_length_eq_zero f;subst h;simp only[Fq,Um,length_nil,if_true];rw[Zgg,ZfW c];exact na d g _ _ c;simp only[Fq,Um,aC f,skF];exact na d g _ _ (Ja _ d)
def skB(a:Nat):Nat->List (Nat×List Cm)->List Int->List Int->List (Nat×List Cm)
 |0,b,_,_=>b
 |e+1,b,c,d=>if c.length=0 then b else skB a e (skT a 0 (Kh (c.take a) (d.take a)) b) (c.drop a) (d.drop a)
def Yl:∀(a:List (Int×Int)),(∀b∈a,1<=b.2)->0<=Bv a
  |[],_=>by simp[Bv]
  | b::a,c=>by
    have:=Yl a (λe d=>c e (by simp[d]))
    grind [Bv]
def Zkk{a b}(j:a.length≠0)(n:b.length≠0):0<Ae (Kh a b):=by
 have e:=(gf.a (Ta (Ap a b))).e;unfold Kh;rw[e];have c:∀d∈Ap a b,_:=λd c=>(Jg c).1.1;have m:=Kz a b
 cases f:Ap a b with
 |nil=>grind
 | cons d i=>
  rw[f] at c;have k:=c d s_;have l:=Yl i λh g=>c h (by simp[g]);simp only[Bv];omega
def ny j:∀e c,(∀a∈e,0<=Ae a)->0<=Ae c->∀a∈Au j e c,0<=Ae a
 |[],c,d,f=>by simp[Au];exact f
 | i::g,c,d,f=>by
  have h:∀a∈g,_:=λa b=>d a (by simp[b]);have k:=d i s_;intro a b;simp only[Au] at b;split at b
  ·grind
  rcases mem_cons.1 b with rfl|b
  exact Int.le_refl _;exact ny _ g _ h (by rw[Gg,Fa];omega) a b
def mz{size}(i:0<size):∀d b a c,(∀e∈b,0<=Ae e)->a.length=c.length->skB size d (Um 0 b) a c=Um 0 (Dr size d b a c)
 |0,b,a,c,e,g=>rfl
 | d+1,b,a,c,e,g=>by
  unfold skB Dr
  by_cases f:a.length=0
  ·grind
  rw[aC f,aC f];have h:0<Ae (Kh (a.take size) (c.take size)):=Zkk w_ w_;rw[<- sv size b _ 0 e h];exact mz i d _ _ _ (ny _ _ _ e O) w_
def Zg8{a:Nat}(g:2<=a) b c (f:b.length=c.length):skF a [] (skB a b.length [] b c)=Ds a b c:=by have d:=mz (size:=a) O b.length [] _ _ s_ f;have e:=na (size:=(a:Int)) O (Dr a b.length [] b c) 0 [] s_;unfold Ds;rw[e,<- d];rfl
end Go.Proofs.YtfcgnpchbcmdeaaGreat
