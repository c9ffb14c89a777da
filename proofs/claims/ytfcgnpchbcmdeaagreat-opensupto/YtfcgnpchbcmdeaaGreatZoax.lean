import Derived.Test.YtfcgnpchbcmdeaaGreatZoaj
namespace Go.Proofs.YtfcgnpchbcmdeaaGreat
set_option linter.all false
set_option maxRecDepth 100000
set_option maxHeartbeats 4000000
open Go.RowKit List Nat World Go.Proofs.Tryz Value IntKind Lib Region
def Fi(e:World)(c:Nat)(a:ByteArray)(b:Nat)(f:Int)(d:Value):Prop:=e.1[c]? =some (O_ #[Q_ a,I b,I f,d] 283)
def Ea(a:ByteArray)(b:Nat):Int:=if c:b<a.size then(a[b]'c).toNat else -1
theorem Zd{a c} b:Ea a c=(a[c]'b).toNat:=dif_pos b
theorem Ti{a b}(c:¬b<a.size):Ea a b= -1:=dif_neg c
def Fi.below{f g d a c h e}(b:Fi f d a c h e)(i:E_ f g):Fi g d a c h e:=(i.block _ (Qb b).1).T b
def Fi.cells{b a d e g f}(c:Fi b a d e g f):b.cell? (J a 0)=some (Q_ d)/\b.cell? (J a 1)=some (I e)/\b.cell? (J a 2)=some (I g)/\b.cell? (J a 3)=some f:=
 ⟨G_ 0 _ 283 (0,0) c,G_ 1 _ 283 (0,0) c,G_ 2 _ 283 (0,0) c,G_ 3 _ 283 (0,0) c⟩
def Bp(a:ByteArray)(c:Nat)(d b:Int):Bool:=decide (d=0/\Ea a c=b)
def Jb(a:ByteArray)(b:Nat)(c:Int):Bool:=decide (c=0/\48<=Ea a b/\Ea a b<=57)
def Xq(a:ByteArray)(b:Nat)(c:Int):Bool:=decide (c=0/\97<=Ea a b/\Ea a b<=122)
def Fh i a b e c k h (j:Fi h i b a e k)(q:0<=c):C_ 324 #[P_ i,.int .u8 c] h λd g=>d=.returned (.bool (Bp b a e c))/\∃f,g=h.drewN f:=by
 have⟨n,o,p,_⟩:=j.cells
 by_cases g:e=0
 ·subst g
  by_cases f:a<b.size
  ·have l:0<=(a:Int):=O;have m:a<(b.size:Int):=O;have d:K (Bp b a 0 c=decide ((b[a]'f).toNat=c)):=(by show _=_;unfold Bp;rw[Zd f];simp);refine v_ ?_;go_wp2_with fail
   go_quiet (fail);go_wp2;go_ret;exact⟨by rw[d];rfl,_,rfl⟩
  have l:decide ((a:_)<(b.size:Int))=_:=aE O;have d:K (Bp b a 0 c=false):=(by show _=_;unfold Bp;rw[Ti f];simp;omega);refine v_ ?_;go_wp2_with fail
  go_quiet (fail);go_wp2;go_ret;exact⟨by rw[d];rfl,_,rfl⟩
 have d:K (Bp b a e c=false):=(by show _=_;unfold Bp;simp[g]);have f:=aO g;refine v_ ?_;go_wp2_with fail
 go_quiet (fail);go_wp2;go_ret;exact⟨by rw[d];rfl,_,rfl⟩
def Qp j a b e l h (k:Fi h j b a e l):C_ 326 #[P_ j] h λc f=>c=.returned (.bool (Jb b a e))/\∃d,f=h.drewN d:=by
 have⟨o,p,q,_⟩:=k.cells
 by_cases g:e=0
 ·subst g
  by_cases d:a<b.size
  ·have m:0<=(a:Int):=O;have n:a<(b.size:Int):=O;have c:K (Jb b a 0=(decide (48<=((b[a]'d).toNat:Int))&&decide (((b[a]'d).toNat:Int)<=57))):=by show _=_;unfold Jb;rw[Zd d];simp
   by_cases i:48<=((b[a]'d).toNat:Int)
   ·have f:=aF i;refine v_ ?_;go_wp2_with fail
    go_quiet (fail);go_wp2;go_ret;exact⟨by rw[c,f];rfl,_,rfl⟩
   have f:=aE i;refine v_ ?_;go_wp2_with fail
   go_quiet (fail);go_wp2;go_ret;exact⟨by rw[c,f];rfl,_,rfl⟩
  have f:decide ((a:_)<(b.size:Int))=_:=aE O;have c:K (Jb b a 0=false):=(by show _=_;unfold Jb;rw[Ti d];rfl);refine v_ ?_;go_wp2_with fail
  go_quiet (fail);go_wp2;go_ret;exact⟨by rw[c];rfl,_,rfl⟩
 have c:K (Jb b a e=false):=(by show _=_;unfold Jb;simp[g]);have d:=aO g;refine v_ ?_;go_wp2_with fail
 go_quiet (fail);go_wp2;go_ret;exact⟨by rw[c];rfl,_,rfl⟩
def ed j a b e l h (k:Fi h j b a e l):C_ 345 #[P_ j] h λc f=>c=.returned (.bool (Xq b a e))/\∃d,f=h.drewN d:=by
 have⟨o,p,q,_⟩:=k.cells
 by_cases g:e=0
 ·subst g
  by_cases d:a<b.size
  ·have m:0<=(a:Int):=O;have n:a<(b.size:Int):=O;have c:K (Xq b a 0=(decide (97<=((b[a]'d).toNat:Int))&&decide (((b[a]'d).toNat:Int)<=122))):=by show _=_;unfold Xq;rw[Zd d];simp
   by_cases i:97<=((b[a]'d).toNat:Int)
   ·have f:=aF i;refine v_ ?_;go_wp2_with fail
    go_quiet (fail);go_wp2;go_ret;exact⟨by rw[c,f];rfl,_,rfl⟩
   have f:=aE i;refine v_ ?_;go_wp2_with fail
   go_quiet (fail);go_wp2;go_ret;exact⟨by rw[c,f];rfl,_,rfl⟩
  have f:decide ((a:_)<(b.size:Int))=_:=aE O;have c:K (Xq b a 0=false):=(by show _=_;unfold Xq;rw[Ti d];rfl);refine v_ ?_;go_wp2_with fail
  go_quiet (fail);go_wp2;go_ret;exact⟨by rw[c];rfl,_,rfl⟩
 have c:K (Xq b a e=false):=(by show _=_;unfold Xq;simp[g]);have d:=aO g;refine v_ ?_;go_wp2_with fail
 go_quiet (fail);go_wp2;go_ret;exact⟨by rw[c];rfl,_,rfl⟩
def wrg(a:Int):Int:=if a=0 then 2 else a
def Fi.put{b a S k g e}(f:Fi b a S k g e) d:Fi (b.setCell (J a 2) (I d)) a S k d e/\Aa (λc=>c=a) b (b.setCell (J a 2) (I d)):=
 ⟨hs_ _ a 2 _ 283 _ f,(Aa.refl (λc=>c=a) _).setCell (p:=(J a 2)) (λ_=>rfl) _⟩
def Fi.go{b a e i g f}(h:Fi b a e i g f) d:Fi (b.setCell (J a 1) (I (d:Nat))) a e d g f/\Aa (λc=>c=a) b (b.setCell (J a 1) (I d)):=
 ⟨hs_ _ a 1 _ 283 _ h,(Aa.refl (λc=>c=a) _).setCell (p:=(J a 1)) (λ_=>rfl) _⟩
def Nb c h g a i f (b:Fi f c g h a i):C_ 325 #[P_ c] f λe d=>e=.returned (.tuple #[])/\Fi d c g h (wrg a) i/\Aa (λj=>j=c) f d:=by
 have⟨k,l,m,_⟩:=b.cells;have n:=R_ 2 _ _ b
 by_cases e:a=0
 ·subst e;have d:=b.put 2;have j:=Y d;refine v_ ?_;go_wp2;go_end0;exact⟨rfl,j⟩
 have o:=aO e;have d:K (wrg a=a):=aC e;have j:=Y b;refine v_ ?_;go_wp2;go_end0;exact⟨rfl,by rw[d];exact j,Aa.refl _ _⟩
def Fi.drew{e c a b f d}(g:Fi e c a b f d) h:Fi (e.drewN h) c a b f d:=by unfold Fi;rw[heap_drewN];exact g
def Oh(b:ByteArray)(a:Nat)(d c:Int):Nat:=if Bp b a d c=true then a+1 else a
def Oz(b:ByteArray)(d:Nat)(a c:Int):Int:=if Bp b d a c=true then a else wrg a
def Hg{a c d b}(f:0<=b)(e:Bp a c d b=true):c<a.size:=by grind [Bp,Ti]
def ve{a b d}(e:Jb a b d=true):∃c:b<a.size,d=0/\48<=((a[b]'c).toNat:Int)/\((a[b]'c).toNat:Int)<=57/\Ea a b=(a[b]'c).toNat:=by grind [Jb,Zd,Ti]
def Aa.drewN{K b c}(a:Aa K b c) d:Aa K b (c.drewN d):=⟨a.os,a.tape,a.output,a.size,a.block⟩
def bt g a b c d l i (k:Fi i g b a c l)(o:0<=d)(x:b.size<=1000000000000000):C_ 286 #[P_ g,.int .u8 d] i λj e=>j=.returned (.tuple #[])/\Fi e g b (Oh b a c d) (Oz b a c d) l/\Aa (λf=>f=g) i e:=by
 have m:=Fh _ a b c d _ i k o;refine v_ ?_;go_wp2_with fail
 apply m.m;rintro j s ⟨rfl,q,p⟩;have e:K (Fi s g b a c l/\Aa (λf=>f=g) i s):=p ▸ ⟨k.drew q,(Aa.refl _ _).drewN q⟩;clear k m p
 cases f:Bp b a c d with
 | true=>
  have h:K (Oh b a c d=_/\Oz b a c d=c):=⟨aD f,aD f⟩;have w:=Hg o f;have⟨t,u,_⟩:=e.1.cells;have v:=R_ 1 _ _ e.1;clear f;go_wp2;go_end0;rw[h.1,h.2,show(a:Int)+1=((a+1:Nat):Int) by omega];have⟨n,r⟩:=e.1.go (a+1);exact⟨rfl,n,e.2.T r⟩
 | false=>
  have h:K (Oh b a c d=a/\Oz b a c d=_):=⟨aC (by rw[f];decide),aC (by rw[f];decide)⟩;clear f;go_wp2_with fail
  apply (Nb _ a b c _ _ e.1).m;rintro j u ⟨rfl,n,r⟩;have t:=T_ n (e.2.T r);clear n r e;go_wp2;apply bodyPost_ret (results_none rfl _ _ _) rfl;rw[h.1,h.2];exact⟨rfl,t⟩
def Pf(d:ByteArray)(e:Int)(f:Bool):Nat->Nat->Int->Nat->Int×Nat×Nat
 |0,b,c,a=>(c,b,a)
 |g+1,b,c,a=>if Jb d a e=true/\¬(f=true/\b=1) then Pf d e f g (b+1) (10*c+(Ea d a-48)) (a+1) else(c,b,a)
def Nv(d:ByteArray)(b:Nat)(a:Int)(e:Nat)(f:Bool):Int×Nat×Nat×Int:=
 if Bp d b a 48=true/\f=false then(0,0,b,wrg a)
 else let c:=Pf d a (Bp d b a 48) e 0 0 b;(c.1,c.2.1,c.2.2,if c.2.1=0 then wrg a else a)
def ef (h d c:Nat) b a k t n (m:Fi n h b d a t) (b2:c<=5) (b0:b.size<=1000000000000000):C_ 285 #[P_ h,I c,.bool k] n λi e=>i=.returned (.tuple #[.int .i64 (Nv b d a c k).1,.int .i64 (Nv b d a c k).2.1])/\Fi e h b (Nv b d a c k).2.2.1 (Nv b d a c k).2.2.2 t/\Aa (λl=>l=h) n e:=by
  have Q:=Fh _ d b a 48 _ n m C;have⟨x,E⟩:=ez_ (Nv b d a c k);rw[E];refine v_ ?_;go_wp2_with fail
  apply Q.m;rintro i U ⟨rfl,f,T⟩;have w:K (Fi U h b d a t/\Aa (λl=>l=h) n U):=T ▸ ⟨m.drew f,(Aa.refl _ _).drewN f⟩;clear m Q T;generalize z:Bp b d a 48=o
  by_cases M:o=true/\k=false
  · obtain⟨rfl,rfl⟩:=M;have v:K (x=(0,0,d,wrg a)):=(by show _=_;rw[<- E];exact aD ⟨z,rfl⟩);clear z;go_wp2_with fail
    apply (Nb _ d b a _ _ w.1).m;rintro i G ⟨rfl,l,B⟩;have H:=T_ l (w.2.T B);clear l B w;go_wp2;go_ret2
    rw[v];exact⟨rfl,H⟩
  have v:K (x=((Pf b a o c 0 0 d).1,(Pf b a o c 0 0 d).2.1,(Pf b a o c 0 0 d).2.2,if(Pf b a o c 0 0 d).2.1=0 then wrg a else a)):=(by show _=_;rw[<- E,<- z];exact aC (z ▸ M));have Z:(o&&!k)=false:=w_;clear z M E;have⟨u,N⟩:=Y_ o;rw[N] at v;have R:=Y N;clear N
  cases o<;>cases k<;>first|grind|skip
  all_goals
    clear Z;go_wp2_with fail
    go_loopw [10,9] (λp q g=>∃(j e:Nat) (f:Int),p=I j/\q=I f/\j<=c/\0<=f/\f<10^j/\e<=d+j/\K (Pf b a u c 0 0 d=Pf b a u (c-j) j f e)/\K (Fi g h b e a t/\Aa (λl=>l=h) n g)) (m4_ c)
    exact⟨0,d,0,rfl,rfl,r_,O,C,O,rfl,w⟩;clear w;obtain⟨j,e,f,rfl,rfl,a9,b3,b4,b1,D,g⟩:=hrel
    by_cases L:j<c/\Jb b e a=true/\¬(u=true/\j=1)
    · obtain⟨F,r,s⟩:=L;have⟨W,b7,a7,a8,H⟩:=ve r;have B:K (Pf b a u c 0 0 d=Pf b a u (c-(j+1)) (j+1) (10*f+(Ea b e-48)) (e+1)):=(by show _=_;rw[D,show c-j=(c-(j+1))+1 by omega,Pf,aD ⟨r,s⟩]);have q:=Qp _ _ b a _ _ g.1;rw[r] at q;have S:j<(c:Int):=O;have a3:=F_ e b.size;have a0:(10:Int)^(j+1)=_:=Int.pow_succ _ _
      have b5:(10:Int)^j<=100000:=by
        have:j=0∨j=1∨j=2∨j=3∨j=4∨j=5:=O
        grind
      rw[H] at B;have P:K (_->((j:Int)==1)=_):=λi=>aO (λm=>s ⟨i,O⟩);clear D r s H;go_wp2_with fail
      apply q.m;rintro i G ⟨rfl,y,A⟩;have p:K (Fi G h b e a t/\Aa (λl=>l=h) n G):=A ▸ ⟨g.1.drew y,g.2.drewN y⟩;clear g q A;try have X:=P.out R.s
      clear P;have⟨a4,a5,_⟩:=p.1.cells;have a6:=R_ 1 _ _ p.1;generalize b6:((b[e]'W).toNat:Int)=l at *;have b8:IntKind.u8.wrap (l-48)=l-48:=(by simp[wrap,IntKind.bits,signed];omega);have b9:_=l-48:=As O O;have c0:_=10*f:=As O O;have c1:_=10*f+(l-48):=As O O;go_upto_region 10 with fail;go_quiet (fail);go_wp2;go_roundw
      case rel=>
        have⟨a1,a2⟩:=(p.1.drew nq).go (e+1);exact⟨j+1,e+1,10*f+(l-48),g_,rfl,O,O,p_ a0,O,B,a1,(p.2.drewN _).T a2⟩
      exact z_
    have P:K (Pf b a u c 0 0 d=(f,j,e)):=by
      show _=_;rw[D]
      by_cases F:j<c
      rw[show c-j=(c-(j+1))+1 by omega,Pf,aC (λm=>L ⟨F,m⟩)];rw[show c-j=0 by omega,Pf]
    have a0:K (x=(f,j,e,if j=0 then wrg a else a)):=(by show _=_;rw[v,P]);clear D P v
    by_cases F:j<c
    have S:j<(c:Int):=O;have q:=Qp _ _ b a _ _ g.1;go_wp2_with fail
    apply q.m;rintro i wr ⟨rfl,y,A⟩;have p:K (Fi wr h b e a t/\Aa (λl=>l=h) n wr):=A ▸ ⟨g.1.drew y,g.2.drewN y⟩;clear g q A;have g:=p;clear p
    cases r:Jb b e a
    rotate_left
    have s:=Decidable.byContradiction λm=>L ⟨F,r,m⟩;have X:((j:Int)==1)=_:=beq_iff_eq.2 O;have W:=Y s.1;clear s
    rotate_left
    have S:¬j<(c:Int):=O
    all_goals
      first|exact absurd (R.T W) C|skip
      go_wp2_with fail
      all_goals first
        | have i:=beq_iff_eq.1 ‹((j:Int)==0)=true›
          have G:K (x=(f,j,e,wrg a)):=w_;clear i;apply (Nb _ _ b a _ _ g.1).m;rintro i a1 ⟨rfl,l,B⟩;have H:=T_ l (g.2.T B);clear l B g;go_wp2;go_ret2
          rw[G];exact⟨rfl,H⟩
        | have i:=beq_eq_false_iff_ne.1 ‹((j:Int)==0)=false›
          have G:K (x=(f,j,e,a)):=w_;go_ret2
          rw[G];exact⟨rfl,g⟩
end Go.Proofs.YtfcgnpchbcmdeaaGreat
