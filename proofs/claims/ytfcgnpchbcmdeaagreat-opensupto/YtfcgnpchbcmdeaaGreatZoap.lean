import Derived.Test.YtfcgnpchbcmdeaaGreatZoah
namespace Go.Proofs.YtfcgnpchbcmdeaaGreat
set_option linter.all false
set_option maxRecDepth 100000
set_option maxHeartbeats 4000000
open Go.RowKit List Nat World Go.Proofs.Tryz Value IntKind Lib Region
def Zan(x:Cm) a c b e (g:0<=x.y/\0<=x.g/\x.y<=1000000000000/\x.g<=1000000000000)(f:0<=a/\a<=2097152)(i:0<=c/\c<=1000000000000)(h:2<=b/\b<=2097152):C_ 177 #[.agg #[I x.v,I x.y,I x.g,I x.h],I a,I c,I b] e λd j=>d=.returned (.int .i64 (if(x.y+x.g)*(b-1)-2*a*c<0 then -((x.y+x.g)*(b-1)-2*a*c) else(x.y+x.g)*(b-1)-2*a*c))/\j=e.alloc (O_ #[I x.v,I x.y,I x.g,I x.h] 98):=by
 obtain⟨j,k,l,m⟩:=g;obtain⟨n,o⟩:=f;obtain⟨v,w⟩:=i;obtain⟨t,u⟩:=h;have p:0<=(x.y+x.g)*(b-1):=Int.mul_nonneg O O;have q:(x.y+x.g)*(b-1)<=2000000000000*2097152:=Int.mul_le_mul O O O O;have r:0<=2*a*c:=Int.mul_nonneg O O;have s:2*a*c<=4194304*_:=Int.mul_le_mul O O O O
 by_cases d:(x.y+x.g)*(b-1)-2*a*c<0
 all_goals
  first|rw[aD d]|rw[aC d]
  refine dl_ ?_;go_enter func177,ntmps177;go_wp2;go_ret;exact⟨rfl,rfl⟩
def Zou:(prog.info? 4).map (λa=>(a.zero,a.size,a.bytes))=some (some (.bool false),1,1):=k_
def Am.c{d f c e a j g}(h:Am d f c e)(i:d.rowIs a 4 j g):c.ownBlock≠some a:=by
 intro b;obtain⟨k,o,_⟩:=i
 rcases h.2 with⟨rfl,_⟩|⟨n,l,m,rfl,_,p,_⟩
 simp[ownBlock] at b;simp[ownBlock] at b
 grind
def mf P a a4 u h (a6:Ee h P a)(a5:Be a)(a9:P=none->a4=0)(d7:a.length<=2097152):C_ 121 #[V P a.length a4,I u] h λf g=>∃c,f=.returned c/\Am g h.1.size c (Eo a u)/\E_ h g:=by
 have⟨o,p⟩:=Z_ a6 a5;obtain⟨b,c0⟩:∃b:Nat,max u 2=b:=⟨(max u 2).toNat,O⟩;have c1:2<=b:=O
 have w:K (Eo a u=if a.length<=b then a else Fb a b (b-2)++[a.getD (a.length-1) e0]):=show _=_ by grind [Eo]
 refine dl_ ?_;go_enter func121,ntmps121;go_upto_if 12 with fail
 go_cut [1] (λc d=>c=.int .i64 b/\d=h)
 case first=>
  by_cases c:u<2<;>(go_wp2;go_meet;grind)
 obtain⟨rfl,c3⟩:=hcut;obtain rfl:=c3.s;clear c0 a6 a5
 by_cases a8:a.length<=b
 ·rw[aD a8] at w;go_wp2_with (at_builtin;apply Zog o a9)
  intro d e c;refine wr_ ?_;exact⟨_,rfl,by rw[w];exact c.1,c.2⟩
 rw[aC a8] at w;have a7:3<=a.length:=O;obtain⟨c8,e2,rfl,Q,R,S,T,d4⟩:=o.at (i:=0) O;simp only[Nat.zero_mul,Nat.add_zero] at Q R S T;have b8:=run_make_row' (P:=prog) 101 4 _ 1 underlying101 Zou rfl .i64 .i64 a.length O O;have b2:K (Fb a b 0=[_]):=rfl;generalize a.getD 0 e0=n at *;have c9:0<a.length:=O;go_wp2_with (at_builtin;refine ap_ [I n.v,I n.y,I n.g,I n.h] (ownsRow_nil _ h.1.size 98 4) ?_)
 intro c6 m D;have q:=q_.grown D.2.1 s_ (λg t=>by simp[ownBlock] at t);have a1:K (Am m h.1.size c6 [n]):=Am.E (L:=[]) D.1;clear D Q R S T a9;go_wp2_with fail
 apply (yl _ a _ _ (o.below (q.alloc q.size _))).m;rintro f e5 ⟨rfl,rfl⟩;have e3:=(Ec p).1;have e4:=(Ec p).2;have b5:=q.size;have a2:K ((m.alloc _).rowIs _ 4 _ (λi=>.bool (Ki a b 0 i))):=rowIs_made _ (.bool _) a.length 4;generalize L:Ae a=b0 at *;replace L:=Y L;clear b8;go_wp2_with fail
 go_loopw [5,8] (λg d e=>∃c:Nat,c<=b-2/\d=.int .i64 ((c:Int)+1)/\K (Am e h.1.size g (Fb a b c)/\e.rowIs m.1.size 4 a.length (λi=>.bool (Ki a b c i)))/\E_ h e) (λ_ d _=>b-(intOf d).toNat)
 case atStart=>exact⟨0,r_,rfl,⟨b2 ▸ (a1.alloc _),a2⟩,q.alloc q.size _⟩
 clear a1 a2 q;obtain⟨c,d9,rfl,x,B⟩:=hrel
 rename World=>wo
 have c2:=B.size;have d6:=kp (L:=a) b c
 by_cases b9:c<b-2
 case neg=>
  have d:¬c+1<=(b:Int)-2:=O;obtain⟨g,t⟩:∃g,a.length=g+1:=⟨a.length-1,O⟩;rw[show b-2=c by omega,show a.length-1=g by omega] at w;obtain⟨_,_,⟨⟩,U,W,X,Z,_⟩:=(o.below B).at (i:=g) O;generalize a.getD g e0=j,Fb a b c=c5 at *;clear b9;go_wp2_with (at_builtin;refine ap_ [I j.v,I j.y,I j.g,I j.h] (x.1.alloc _) ?_)
  intro c7 b1 k;have a0:=(B.alloc c2 _).grown k.2.1 t_ (λg t=>(x.1.lt g t).1);have G:=Y (Am.E k.1);clear k U W X Z;refine wr_ ?_;exact⟨_,rfl,w ▸ G,a0⟩
 have d8:c+1<=(b:Int)-2:=O;have v:=Y (Gb a b (c+1) a7);go_wp2_with fail
 go_loopw [9,10] (λg e j=>∃i d:Nat,2<=i/\i+1<=a.length/\e=.int .i64 i/\g=.int .i64 d/\K (d=min (i-1) (Cw a b (c+1)))/\1<=d/\d+2<=a.length/\E_ wo j) (λ_ e _=>a.length-(intOf e).toNat)
 case atStart=>exact⟨2,1,x_,O,rfl,rfl,by have:=v.g;show _=_;omega,O,O,y_⟩
 obtain⟨i,d,b6,d5,rfl,rfl,F,d2,d3,s⟩:=hrel;have y:=bt_ B s;have e1:=y.size;have d0:=F_ d a.length;obtain⟨_,_,⟨⟩,U,W,X,Z,_⟩:=(o.below y).at (i:=d) O
 by_cases b7:i+1<a.length
 ·have E:=p.at (show i<a.length by omega);have G:=p.at (show d<a.length by omega);obtain⟨_,_,⟨⟩,Q,R,S,T,b1⟩:=(o.below y).at (i:=i) O
  have j:K (∀e,0<=(a.getD e e0).y/\0<=(a.getD e e0).g/\(a.getD e e0).y<=1000000000000/\(a.getD e e0).g<=1000000000000->∀k:World,C_ 177 #[.agg #[I (a.getD e e0).v,I (a.getD e e0).y,I (a.getD e e0).g,I (a.getD e e0).h],I (c+1),I b0,I b] k λf g=>f=.returned (.int .i64 (Ut a b (c+1) e))/\_):=λe H k=>by have:=Zan (a.getD e e0) (c+1) b0 b k H O O O;unfold Ut;rw[L];exact this
  have⟨r,t⟩:=Z_ (j i O) (j d O)
  have l:K ((if _<Ut a b _ d then i else d)=min i _):=show _=_ by rw[F];exact Zcv p c1 b6 b7
  have b4:=v.le;have c4:=v.g;clear E G j v F;generalize Ut a b (c+1) i=z,Ut a b (c+1) d=A,a.getD i e0=M,a.getD d e0=N,Cw a b (c+1)=a3 at *;have a0:=F_ i a.length;have b3:i<(a.length:Int)-1:=O;go_wp2_with fail
  go_region_with (first|(go_at_call_of 177 (M.v);apply (r _).m;rintro f g ⟨rfl,rfl⟩)|(go_at_call_of 177 (N.v);apply (t _).m;rintro f g ⟨rfl,rfl⟩))
  all_goals by_cases g:z<A
  all_goals go_wp2
  all_goals
   go_roundw;case rel=>exact⟨i+1,_,O,O,g_,rfl,by first|exact(aD g).s.T l|exact(aC g).s.T l,O,O,((s.alloc s.size _).alloc (by have:=s.size;simp;omega) _).drew⟩
   case measure=>exact z_
 have E:K (d=Cw a b (c+1)):=(by have:=F.out;have:=v.le;show _=_;omega);have l:=T_ (x.1.below s) (x.2.of_block (s.block _ x.2.lt));have A:=l.2.cell (show d<a.length by omega);have d1:=l.2.frozen d;have M:K (Ki a b c d=decide (d=Jt a b c)):=(by show _=_;rw[E];exact Zhm p b c a7);rw[M] at A;have b3:¬i<(a.length:Int)-1:=O
 have a3:K (∀e,Ki a b _ e=_):=λe=>by rw[Zd9,<- E]
 have z:K (Fb a b (c+1)=if d=Jt a b c then Fb a b c else Fb a b c++[a.getD d e0]):=by show _=_;rw[E];rfl
 by_cases r:d=Jt a b c
 ·rw[aD r] at z;rw[aF r] at A M
  have g:K (∀e,Ki a b (c+1) e=Ki a b c e):=λe=>by
   rw[a3]
   by_cases f:d=e
   rw[<- f,M,Bool.true_or];simp[f]
  clear r;refine J_ ?_;exact⟨c+1,O,g_,⟨z ▸ l.1,l.2.congr (λe _=>by rw[g])⟩,y⟩
 rw[aC r] at z;rw[aE r] at A;clear r;generalize a.getD d e0=j,Fb a b c=c5 at *;have H:K (Am (wr.setCell _ (.bool true)) _ _ _):=l.1.kept (Bd (Az _ _) d _) (l.1.c l.2)
 have N:K ((wr.setCell (J m.1.size d) (.bool true)).rowIs m.1.size 4 a.length (λe=>.bool (Ki a b (c+1) e))):=(l.2.set _ _).congr (λe _=>by
  rw[a3]
  by_cases f:e=d
  rw[aD f,f];simp
  rw[aC f,aO (λn=>f n.s),Bool.or_false])
 have b4:Below _ h (wr.setCell (J m.1.size d) (.bool true)):=y.setCell b5 _;go_wp2_with (at_builtin;refine ap_ [I j.v,I j.y,I j.g,I j.h] (H.alloc _) ?_)
 intro c7 b1 k;have a0:=(b4.alloc t_ _).grown k.2.1 t_ (λg t=>(H.lt g t).1);have G:=Y (Am.E k.1);have g:K (b1.rowIs m.1.size 4 a.length (λe=>.bool (Ki a b (c+1) e))):=(by have c4:=H.c N;have t:=N.lt;refine(N.alloc _).of_block (k.2.1.block _ ?_ (λf=>c4 f.s));simp at t ⊢;omega);clear k U W X Z A;refine J_ ?_;exact⟨c+1,O,g_,⟨z ▸ G,g⟩,a0⟩
end Go.Proofs.YtfcgnpchbcmdeaaGreat
