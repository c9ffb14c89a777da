import Derived.Test.YtfcgnpchbcmdeaaGreatZoaf
namespace Go.Proofs.YtfcgnpchbcmdeaaGreat
set_option linter.all false
set_option maxRecDepth 100000
set_option maxHeartbeats 4000000
open Go.RowKit List Nat World Go.Proofs.Tryz Value IntKind Lib Region
def Ly c a j b x f (l:Ee f c a)(d:Be a)(e:b<=a.length)(p:0<=x.y/\0<=x.g/\x.y<=1000000000000/\x.g<=1000000000000):C_ 85 #[V c a.length j,I b,.agg #[I x.v,I x.y,I x.g,I x.h]] f (U_ (.agg #[.int .i64 (seen a b x).v,.int .i64 (seen a b x).y,.int .i64 (seen a b x).g,.int .i64 (seen a b x).h]) f):=by
 obtain⟨D,E,F,G⟩:=p;have m:=ia d e;have u:=Ec d;have g:=Y l;have h:=Y d;obtain⟨r,s,t⟩:=m;have n:0<=Cj a b/\Cj a b<=1000000000000:=O;have o:0<=Du a b/\Du a b<=1000000000000:=O;obtain⟨v,w⟩:=n;obtain⟨A,B⟩:=o
 have i:K (seen a b x=⟨_,_,_,_⟩):=show _=_ from rfl
 refine dl_ ?_;go_enter func85,ntmps85;go_wp2_with fail
 go_region_with (go_at_call 152;refine(fo c a _ b _ ?_ h e).m ?_;exact g.below (by repeat(first|with_reducible exact y_|with_reducible apply Below.drew|with_reducible refine below_drewN ?_ _|with_reducible refine Below.setCell ?_ s_ _|with_reducible refine Below.alloc ?_ u_ _));rintro k q ⟨rfl,y,rfl⟩)
 all_goals go_wp2_with fail
 all_goals go_region_with (go_at_call 153;refine(ak c a _ b _ ?_ h e).m ?_;exact g.below (by repeat(first|with_reducible exact y_|with_reducible apply Below.drew|with_reducible refine below_drewN ?_ _|with_reducible refine Below.setCell ?_ s_ _|with_reducible refine Below.alloc ?_ u_ _));rintro k q ⟨rfl,z,rfl⟩)
 all_goals go_wp2
 all_goals exact bodyPost_ret (v:=.agg #[I x.v,I (x.y+Cj a b),I (x.g+Du a b),I x.h]) (by simp[results,results85,go_sem]) rfl ⟨by rw[i],(by repeat(first|with_reducible exact y_|with_reducible apply Below.drew|with_reducible refine below_drewN ?_ _|with_reducible refine Below.setCell ?_ s_ _|with_reducible refine Below.alloc ?_ u_ _))⟩
def Ri{o w c a e K A z}(N:c.guard=none) r x k (S:c.op=Op.call {callee:=Callee.builtin Builtin.append,args:=#[r,x],argTypes:=#[k,k]}) q f (g:TypeInfo) s d t (Z:o.underlying k=some (.slice f))(P:o.info? f=some g)(a2:g.zero=some s)(W:g.size=d)(L:g.bytes=t)(a3:s.cells.size=d)(X:0<d) m h y (U:a.eval r=m)(T:e.ownsRow q f d m h y) p b u (j:List Value)(a1:a.eval x=.slice (some p) b u)(Q:j.length=b*d)(R:∀v l,j[v]? =some l->e.cell? (p.add v)=some l)(D:∀l∈j,l.oneCell'=true)(G:h+b<=maxLen)(M:(h+b)*t<=140737488355328)(H:q<=e.1.size)(B:∀n i,i.ownsRow q f d n (h+b) (y++j)->e.grownBy i m.ownBlock->K (a.put c.dst n) i):if wanted c (yielded w a.tmps)=true then Oper.wp o c a e K A else z:=by
 have a0:wanted c (yielded w a.tmps)=true:=(by simp[wanted,N]);rw[aD a0];exact wp_append_own e r x k S _ f g s _ _ Z P a2 W L a3 X m h _ U T p b u _ a1 Q R D G M H λn i E F _=>B n i E F
def Ee.at{d g c i}(j:Ee d g c)(f:i<c.length):∃a b,g=some ⟨a,b,none⟩/\d.cell? (J a (b+i*4))=some (I (c.getD i e0).v)/\d.cell? (J a (b+i*4+1))=some (I (c.getD i e0).y)/\d.cell? (J a (b+i*4+2))=some (I (c.getD i e0).g)/\d.cell? (J a (b+i*4+3))=some (I (c.getD i e0).h)/\a<d.1.size:=by rcases j with⟨_,k|⟨a,b,h,e⟩⟩;omega;exact⟨a,b,h,e.v i f,e.y i f,e.g i f,e.h i f,e.lt O⟩
def Ww{a e c:World}{g h b l}{x:Cm}{m:Prop}(d:E_ a e)(i:Am e a.1.size g b)(f:c.ownsRow a.1.size 98 4 h (b.length+1) (flat b++[I x.v,I x.y,I x.g,I x.h])/\(e.alloc l).grownBy c g.ownBlock/\m):K (Am c a.1.size h (b++[x]))/\E_ a c:=
 ⟨Am.E f.1,(d.alloc d.size _).grown f.2.1 (by have:=d.size;simp;omega) (λk j=>(i.lt k j).1)⟩
def ZaF a4 a5 a b X a9 h (Z:Ee h a4 a)(a0:Ee h a5 b)(b0:Be a)(b1:Be b):C_ 46 #[V a4 a.length X,V a5 b.length a9] h λv d=>∃c,v=.returned c/\Am d h.1.size c (Bf a b)/\E_ h d:=by
 have⟨c8,c2,c5,c6,c7⟩:=info_parts kc;have d9:=Z.1;have e1:=a0.1;have⟨E,F,s,t⟩:=y4_ Z a0 b0 b1;clear Z a0 b0 b1;have c3:∀W:World,(Instr.makeSlice 29 (I 0) (I (a.length+b.length))).run prog W=.ok (L_ W.1.size 0 (a.length+b.length)) (W.alloc (O_ (madeCells #[I 0,I 0,I 0,I 0] ((a.length+b.length)*4)) 98)):=λ_=>mk_ 4;have a1:K (Am (h.alloc (O_ (madeCells #[I 0,I 0,I 0,I 0] ((a.length+b.length)*4)) 98)) _ _ []):=ownsRow_made h _ _ x_ m_ (size_madeCells _ _);refine dl_ ?_;go_enter func46,ntmps46;go_wp2_with fail
 go_loopw [5,6,7] (λd f k c=>∃(i j:Nat) (x:List Cm),f=.int .i64 i/\k=.int .i64 j/\K (Rs a b i j x/\Am c h.1.size d x)/\E_ h c) (λ_ f k _=>(a.length-(intOf f).toNat)+(b.length-(intOf k).toNat))
 case atStart=>exact⟨0,0,[],rfl,rfl,⟨⟨⟨r_,r_,λ_ d=>absurd d O,λ_ d=>absurd d O⟩,by simp[mg]⟩,a1⟩,q_⟩
 clear a1 c3;obtain⟨i,j,x,rfl,rfl,c,e⟩:=hrel;have P:=c.1.len;have N:=c.1.g.g;have b4:=c.1.g.e;have D:=e.size
 rcases(by omega:(i<a.length/\j<b.length)∨(i<a.length/\¬j<b.length)∨¬i<a.length) with⟨w,z⟩|b2
 ·obtain⟨b7,c9,rfl,b6,Q,S,a3,d2⟩:=(E.below e).at w;obtain⟨b8,d0,rfl,c1,a6,a7,a8,d3⟩:=(F.below e).at z;have u:=s.at w;have y:=t.at z;have b9:=F_ i a.length;have c0:=F_ j b.length
  rcases Int.lt_trichotomy (a.getD i e0).v (b.getD j e0).v with a2|A|R
  ·have p:=Y (c.1.a s w (λ_=>a2));generalize (b.getD j e0).v=g,a.getD i e0=d at *;clear a6 a7 a8 y;obtain⟨G,H,L,M,_⟩:=u;go_wp2_with fail
   go_region
   go_wp2_with fail
   apply (Ly _ b _ j d _ ((F.below e).below y_.drew) t b4 O).m;rintro v r ⟨rfl,n⟩;have f:E_ wr r:=y_.drew.T n;have l:=Y (c.2.below f);have m:=bt_ e f;have B:=m.size;clear n f c;go_wp2_with (at_builtin;refine ap_ [I (seen b j d).v,I (seen b j d).y,I (seen b j d).g,I (seen b j d).h] (l.alloc _) ?_)
   intro T U k;have⟨o,q⟩:=Ww m l k;clear k;refine J_ ?_;exact⟨i+1,j,_,g_,g_,⟨p,o⟩,q⟩
  ·have p:=Y (c.1.c s t w z A);generalize a.getD i e0=d,b.getD j e0=g at *;obtain⟨G,H,L,M,_⟩:=u;obtain⟨d5,d6,d7,d8,_⟩:=y;have c4:¬d.v<g.v:=O;have d4:¬g.v<d.v:=O;have⟨k,d1⟩:=Z_ c.2 A;clear A c;go_wp2_with fail
   go_region
   go_wp2_with fail
   go_region
   go_wp2_with fail
   go_region_law (first|(apply Ri rfl (.tmp 24) (.tmp 34) 29 rfl h.1.size 98 c8 (.agg #[I 0,I 0,I 0,I 0]) 4 32 underlying29 c2 c5 c6 c7 rfl C u5 x.length (flat x) j_ ((k.below (y_.drew.drew.drew.T n)).alloc _) (J r.1.size 0) 1 1 [I (Oi d g).v,I (Oi d g).y,I (Oi d g).g,I (Oi d g).h] j_ rfl (one_new r _ 98) (by intro l f;simp at f;rcases f with rfl|rfl|rfl|rfl<;>rfl) m_ O (by have:=n.size;simp at this ⊢;omega);intro T U b5 b3)|(go_simp;go_wp2_with (go_at_call 86;apply (ZnN d g _ O O).m;rintro v r ⟨rfl,n⟩)))
   all_goals
    have f:Below wr.1.size _ _:=y_.drew.drew.drew.T n;have B:=aG D f.size;have l:=((f.m D).alloc B _).grown b3 t_ (λo m=>((k.below f).lt o m).1);have q:=e.T l;have o:=Y (Am.E b5);clear b5 b3 n;refine J_ ?_;exact⟨i+1,j+1,_,g_,g_,⟨p,o⟩,q⟩
  have p:=Y (c.1.b t z (λ_=>R));generalize (a.getD i e0).v=g,b.getD j e0=d at *;clear Q S a3 u;obtain⟨G,H,L,M,_⟩:=y;have c4:¬g<d.v:=O;go_wp2_with fail
  go_region
  go_wp2_with fail
  go_region
  go_wp2_with fail
  apply (Ly _ a X i d _ ((E.below e).below y_.drew.drew) s N O).m;rintro v r ⟨rfl,n⟩;have f:E_ wr r:=y_.drew.drew.T n;have l:=Y (c.2.below f);have m:=bt_ e f;have B:=m.size;clear n f c;go_wp2_with (at_builtin;refine ap_ [I (seen a i d).v,I (seen a i d).y,I (seen a i d).g,I (seen a i d).h] (l.alloc _) ?_)
  intro T U k;have⟨o,q⟩:=Ww m l k;clear k;refine J_ ?_;exact⟨i,j+1,_,g_,g_,⟨p,o⟩,q⟩
 have a2:K (i<a.length->¬j<b.length):=λc4 b2=>O
 rcases b2 with⟨w,z⟩|w
 all_goals
  go_wp2_with fail
  go_loopw [5,6] (λd f l=>∃(g:Nat) (R:List Cm),f=.int .i64 g/\K (Rs a b g j R/\Am l h.1.size d R/\(g<a.length->¬j<b.length))/\E_ h l) (m2_ a.length)
  case atStart=>exact⟨i,x,rfl,⟨c.1,c.2,a2⟩,e⟩
  clear e P N D c a2;obtain⟨g,R,rfl,c,e⟩:=hrel;have P:=c.1.len;have N:=c.1.g.g;have D:=e.size
  by_cases A:g<a.length
  ·have y:=c.2.2 A;have u:=s.at A;obtain⟨b7,c9,rfl,b6,Q,S,a3,_⟩:=(E.below e).at A;have p:=Y (c.1.a s A (λd=>absurd d y));generalize a.getD g e0=d at *;obtain⟨G,H,L,M,_⟩:=u;have b9:=F_ g a.length;go_wp2_with fail
   apply (Ly _ b a9 j d _ (F.below e) t b4 O).m;rintro v r ⟨rfl,f⟩;have l:=Y (c.2.1.below f);have m:=bt_ e f;have B:=m.size;clear c f;go_wp2_with (at_builtin;refine ap_ [I (seen b j d).v,I (seen b j d).y,I (seen b j d).g,I (seen b j d).h] (l.alloc _) ?_)
   intro T U k;have⟨o,q⟩:=Ww m l k;clear k;refine J_ ?_;exact⟨g+1,_,g_,⟨p,o,λ_=>y⟩,q⟩
  have a3:=A;go_wp2_with fail
  go_loopw [5,7] (λd k l=>∃(u:Nat) (S:List Cm),k=.int .i64 u/\K (Rs a b g u S/\Am l h.1.size d S)/\E_ h l) (m2_ b.length)
  case atStart=>exact⟨j,R,rfl,⟨c.1,c.2.1⟩,e⟩
  clear e P D c;obtain⟨u,S,rfl,c,e⟩:=hrel;have P:=c.1.len
  by_cases Q:u<b.length
  ·have y:=t.at Q;obtain⟨b8,d0,rfl,c1,a6,a7,a8,_⟩:=(F.below e).at Q;have p:=Y (c.1.b t Q (λd=>absurd d a3));generalize b.getD u e0=d at *;obtain⟨G,H,L,M,_⟩:=y;have c0:=F_ u b.length;go_wp2_with fail
   apply (Ly _ a X g d _ (E.below e) s N O).m;rintro v r ⟨rfl,f⟩;have l:=Y (c.2.below f);have m:=bt_ e f;have B:=m.size;clear c f;go_wp2_with (at_builtin;refine ap_ [I (seen a g d).v,I (seen a g d).y,I (seen a g d).g,I (seen a g d).h] (l.alloc _) ?_)
   intro T U k;have⟨o,q⟩:=Ww m l k;clear k;refine J_ ?_;exact⟨u+1,_,g_,⟨p,o⟩,q⟩
  have d:=Y c.2;rw[show S=Bf a b by have:=c.1.eq;rw[th a3 Q,append_nil] at this;exact this] at d;go_wp2;go_ret;exact⟨_,rfl,d,e⟩
def Pj(e:World)(a:Nat)(d b f c:Int):Prop:=e.1[a]? =some (O_ #[I d,I b,I f,I c] 153)
def Pj.cells{b a e f g h}(c:Pj b a e f g h):b.cell? (J a 0)=some (I e)/\b.cell? (J a 1)=some (I f)/\b.cell? (J a 2)=some (I g)/\b.cell? (J a 3)=some (I h)/\(∀d,b.frozen? (J a d)=false):=by unfold Pj at c;refine⟨?_,?_,?_,?_,λd=>fr_ b a d _ _ c⟩<;>simp[cell?,c]
def Pj.lt{b a d e f g}(c:Pj b a d e f g):a<b.1.size:=(Qb c).1
def Pj.a{b a d e h f}(g:Pj b a d e h f) c:Pj (b.setCell (J a 2) (I c)) a d e c f:=hs_ b a 2 _ 153 (I c) g
def Pj.b{b a d e f h}(g:Pj b a d e f h) c:Pj (b.setCell (J a 3) (I c)) a d e f c:=hs_ b a 3 _ 153 (I c) g
def Zgz{b a:Int}(d:0<a)(c:0<=b):0<=b/a/\b/a<=b/\0<=b%a/\b%a<a/\b/a*a+b%a=b:=
 ⟨Int.ediv_nonneg c O,Int.ediv_le_self _ c,Int.emod_nonneg _ O,Int.emod_lt_of_pos _ d,by grind [Int.mul_ediv_add_emod]⟩
theorem Az(a:World) b:a.grownBy a b:=⟨rfl,rfl,rfl,x_,λ_ _ _=>rfl⟩
theorem Bd{h c:World}{b}(a:h.grownBy c (some b)) e g:h.grownBy (c.setCell (J b e) g) (some b):=
 ⟨a.os,a.tape,a.output,by have:=a.size;simpa [World.setCell] using this,λf j d=>(Below.heap_setCell c (J b e) g f (λi=>d (by rw[i]))).T (a.block f j d)⟩
theorem Pr{c d:World}{b}(a:c.grownBy d b):c.grownBy d.drew b:=⟨a.os,a.tape,a.output,a.size,a.block⟩
def Zjz e a Q c b h (j:Pj h e a Q c b)(l:1<=Q/\Q<=4194304)(n:0<=a/\a<=4000000000000)(o:0<=c/\c<=100000000000000000)(m:0<=b/\b<Q):C_ 88 #[P_ e] h λi g=>i=.returned (.tuple #[])/\∃f d,Pj g e a Q f d/\f*Q+d=c*Q+b+a/\0<=d/\d<Q/\0<=f/\f<=c+a+1/\h.grownBy g (some e):=by
 obtain⟨F,G⟩:=l;obtain⟨q,M⟩:=n;obtain⟨N,P⟩:=o;obtain⟨H,L⟩:=m;have k:=Zgz (by omega:0<Q) q;have y:a.tdiv Q=a/Q:=w_;have z:a.tmod Q=a%Q:=w_;obtain⟨A,B,D,E,p⟩:=k;have⟨s,t,u,v,w⟩:=j.cells;have i:=Y j;have r:=Y p;generalize a/Q=f,a%Q=d at *
 by_cases x:Q<=b+d
 ·have g:K ((c+f+1)*Q+(b+d-Q)=c*Q+b+a):=w_;refine v_ ?_;go_wp2_with fail
  go_region
  go_wp2_with fail
  go_region
  go_wp2_with fail
  go_region
  go_wp2_with fail
  go_region
  go_wp2_with fail
  go_end0;refine⟨rfl,c+f+1,b+d-Q,?_,g,O,O,O,O,?_⟩;exact(((i.a _).b _).a _).b _;exact(by repeat(first|with_reducible exact Az _ _|with_reducible apply Pr|with_reducible refine Bd ?_ _ _))
 have g:K ((c+f)*Q+(b+d)=c*Q+b+a):=w_;refine v_ ?_;go_wp2_with fail
 go_region
 go_wp2_with fail
 go_region
 go_wp2_with fail
 go_region
 go_wp2_with fail
 go_end0;refine⟨rfl,c+f,b+d,?_,g,O,O,O,O,?_⟩;exact(i.a _).b _
 grind [Az,Pr,Bd]
def qw d i h a b c (f:Pj c d i h a b)(g:0<=a/\a<=100000000000000000):C_ 90 #[P_ d] c (V_ (.int .i64 (if 0<b then a+1 else a)) c):=by
 obtain⟨o,p⟩:=g;have⟨j,k,l,m,n⟩:=f.cells
 by_cases e:0<b
 rw[aD e];refine er_ ?_;exact⟨rfl,rfl⟩;rw[aC e];refine v_ ?_;go_wp2;go_ret;exact⟨rfl,rfl⟩
def sy(x:Cm) a (c:0<=x.y/\0<=x.g/\x.y<=1000000000000/\x.g<=1000000000000):C_ 154 #[.agg #[I x.v,I x.y,I x.g,I x.h]] a λb d=>b=.returned (.int .i64 (x.y+x.g))/\d=a.alloc (O_ #[I x.v,I x.y,I x.g,I x.h] 98):=by obtain⟨e,f,g,h⟩:=c;refine er_ ?_;exact⟨rfl,rfl⟩
structure Zej(a:List Cm)(d)(e b:Nat):Prop where
 ge:e<=b
 le:b+2<=a.length
 h:∀c,e<=c->c<b->Jo a c+Jo a (c+1)<d
 i:b+2=a.length∨¬Jo a b+Jo a (b+1)<d
def ZaV t b D k m o (u:Ee o t b)(G:Be b)(L:k+2<=b.length):C_ 89 #[V t b.length D,I k,I m] o λl e=>∃a:Nat,l=.returned (.int .i64 a)/\Zej b m k a/\E_ o e:=by
 have a9:=u.1;have⟨B,r⟩:=Z_ u G;refine v_ ?_;go_wp2_with fail
 go_loopw [1] (λc d=>∃a:Nat,c=I a/\k<=a/\a+2<=b.length/\K (∀h,k<=h->h<a->Jo b h+Jo b (h+1)<m)/\E_ o d) (m1_ b.length)
 exact⟨k,rfl,x_,L,λh v w=>absurd w O,y_⟩;obtain⟨a,rfl,x,y,q,j⟩:=hrel
 by_cases a8:a+2<b.length
 ·rcases B.out with⟨_,a6|⟨c,d,rfl,H⟩⟩;omega;have i:=H.below j;have a7:=i.lt O;have a4:=r.at (show a<b.length by omega);have a5:=r.at (show a+1<b.length by omega);obtain⟨P,Q,R,S⟩:D_ wr c (d+a*4) (I (b.getD a e0).v)/\D_ wr c (d+a*4+1) (I (b.getD a e0).y)/\D_ wr c (d+a*4+2) (I (b.getD a e0).g)/\D_ wr c (d+a*4+3) (I (b.getD a e0).h):=⟨i.v a O,i.y a O,i.g a O,i.h a O⟩;obtain⟨Z,a0,a1,a2⟩:D_ wr c (d+(a+1)*4) (I (b.getD (a+1) e0).v)/\D_ wr c (d+(a+1)*4+1) (I (b.getD (a+1) e0).y)/\D_ wr c (d+(a+1)*4+2) (I (b.getD (a+1) e0).g)/\D_ wr c (d+(a+1)*4+3) (I (b.getD (a+1) e0).h):=⟨i.v (a+1) O,i.y (a+1) O,i.g (a+1) O,i.h (a+1) O⟩
  have z:0<=(b.getD a e0).y/\0<=(b.getD a e0).g/\(b.getD a e0).y<=1000000000000/\(b.getD a e0).g<=1000000000000:=O;have A:0<=(b.getD (a+1) e0).y/\0<=(b.getD (a+1) e0).g/\(b.getD (a+1) e0).y<=1000000000000/\(b.getD (a+1) e0).g<=1000000000000:=O
  have s:K (Jo b a+Jo b (a+1)=_+_+(_+_)):=show _=_ from rfl
  have E:decide ((a:_)+2<(b.length:Int))=_:=aF O;have a3:decide (a+2<_)=_:=aF O;have T:0<=(a:Int):=O;have U:a+1<(b.length:Int):=O;have W:a<(b.length:Int):=O;generalize b.getD a e0=f,b.getD (a+1) e0=g at *;have⟨M,N⟩:=Z_ z A;obtain⟨b3,b4,b5,b6⟩:=z;obtain⟨b7,b8,b9,c0⟩:=A;have b1:i64.wrap (a+2)=a+2:=(by rw[wrap_i64];omega);have b0:i64.wrap (a+1)=a+1:=(by rw[wrap_i64];omega);have b2:i64.wrap (f.y+f.g+(g.y+g.g))=f.y+f.g+(g.y+g.g):=(by rw[wrap_i64];omega);have X:0<=(a:Int)+1:=O
  by_cases n:f.y+f.g+(g.y+g.g)<m
  ·have F:=aF n
   have p:K (∀h,k<=h->h<a+1->Jo b h+Jo b (h+1)<m):=λh v w=>by
    by_cases l:h=a
    subst l;rw[s];exact n;exact q h v O
   go_wp2_with fail
   go_region_held3 (λe=>D_ e c (d+a*4) (I f.v)/\D_ e c (d+a*4+1) (I f.y)/\D_ e c (d+a*4+2) (I f.g)/\D_ e c (d+a*4+3) (I f.h)/\D_ e c (d+(a+1)*4) (I g.v)/\D_ e c (d+(a+1)*4+1) (I g.y)/\D_ e c (d+(a+1)*4+2) (I g.g)/\D_ e c (d+(a+1)*4+3) (I g.h)) (go_keep) (first|(go_at_call 154;apply (sy _ _ O).m;rintro l e ⟨rfl,rfl⟩))
   all_goals go_wp2
   all_goals
    go_roundw;exact⟨a+1,g_,O,O,p,((j.alloc j.size _).alloc (by have:=j.size;simp;omega) _).drew⟩;exact z_
  have F:=aE n;have p:K (Zej b _ _ a):=⟨x,y,q,.inr (s ▸ n)⟩;go_wp2_with fail
  go_region_held3 (λe=>D_ e c (d+a*4) (I f.v)/\D_ e c (d+a*4+1) (I f.y)/\D_ e c (d+a*4+2) (I f.g)/\D_ e c (d+a*4+3) (I f.h)/\D_ e c (d+(a+1)*4) (I g.v)/\D_ e c (d+(a+1)*4+1) (I g.y)/\D_ e c (d+(a+1)*4+2) (I g.g)/\D_ e c (d+(a+1)*4+3) (I g.h)) (go_keep) (first|(go_at_call 154;apply (sy _ _ O).m;rintro l e ⟨rfl,rfl⟩))
  all_goals go_wp2
  all_goals go_ret
  all_goals exact⟨a,rfl,p,((j.alloc j.size _).alloc (by have:=j.size;simp;omega) _).drew⟩
 have E:decide ((a:_)+2<(b.length:Int))=_:=aE O;have p:K (Zej b _ _ a):=⟨x,y,q,.inl O⟩;go_wp2_with fail
 go_big_quiet (fail);go_wp2;go_ret;exact⟨a,rfl,p,below_drewN j _⟩
end Go.Proofs.YtfcgnpchbcmdeaaGreat
