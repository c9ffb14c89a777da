import Derived.Test.YtfcgnpchbcmdeaaGreatZoaq
namespace Go.Proofs.YtfcgnpchbcmdeaaGreat
set_option linter.all false
set_option maxRecDepth 100000
set_option maxHeartbeats 8000000
open Go.RowKit List Nat World Go.Proofs.Tryz Value IntKind Lib Region
def Sb c d b f:∀(e:List Nat) a,a.off<=(e.foldl (Ak c d b f) a).off
 |[],a=>x_
 | g::e,a=>by
  have:=Sb c d b f e (Ak c d b f a g)
  grind [Ak]
def Np d e c a:∀(f:List Nat) b,b.N.length=a->(f.foldl (Ak d e c a) b).N.length=a/\(f.foldl (Ak d e c a) b).q.length<=b.q.length+f.length*a
 |[],b,g=>⟨g,s_⟩
 | h ::f,b,g=>by
  have i:(Ak d e c a b h).N.length=a:=by show(Jh _ _ _ _ a).length=a;rw[lq _ _ _ _ O];exact g
  have j:(Ak d e c a b h).q.length<=b.q.length+a:=by
   show(b.q++Jq _ _ _ _ a).length<=_
   grind [Yb]
  have⟨k,l⟩:=Np d e c a f _ i;simp only[foldl_cons,length_cons]
  grind
def ci.b{j e f d r q i h t m s l k}(b:ci f j d r q i t s k)(y:j.grownBy e q.ownBlock)(n:Ok f e h m l):ci f (e.setCell (J d 1) h) d r h i m l k:=by
 have p:=(Aa.refl _ j).grown y (λa c _=>c)
 have o:=p.g b.r (λg=>by
  have⟨u,w⟩:=Ac b.v.row g;have:=b.r
  grind)
 have z:Ni e 0 i k:=p.row b.j (λa c g=>by
  have⟨u,w⟩:=Ac b.j c;have⟨v,x⟩:=Ac b.v.row g
  grind)
 have u:gc (λa=>a=d) e:=λa w B c A=>w_
 refine⟨ht_ 1 _ _ _ o,n.p ((Aa.refl (λa=>a=d) _).setCell (p:=(J _ 1)) (λ_=>rfl) _) (λa c g=>?_) u,Al z o C⟩;subst g;have⟨v,x⟩:=Ac n.row c
 grind
def ie(i:Nat)(g h:World)(a:Nat)(l c e:Value)(j:List BS)(m:List XS):Prop:=∃d f k,ci i h a l d f k j m/\Aa (DsS a c e) g h/\∀b,DsS a d f b->DsS a c e b∨g.1.size<=b
def ci.p{S i w' g r v u w k j x}(a:ci g i r v u w k j x)(d:Aa S i w')(p:∀c s y,i.1[c]? =some (O_ y s)->s≠3->¬S c)(A:∀f,f<j.length->∀c,(k.getD f Ld).1.ownBlock=some c->¬S c):ci g w' r v u w k j x:=by
 have h:∀{g e G D:Nat} {t B},i.ownsRow g e G t D B->e≠3->∀c,t.ownBlock=some c->¬S c:=λM L c N=>by grind [Ac]
 refine⟨d.g a.r (p _ _ _ a.r C),⟨d.row a.v.row (h a.v.row C),a.v.len,λf o=>⟨d.row (a.v.j f o).1 (A f o),?_⟩⟩,d.row a.j (h a.j C)⟩
 rcases(a.v.j f o).2 with⟨m,q,e,F,H,l,n,b⟩|⟨m,q,e,z,E,l,n,b⟩
 exact .inl ⟨m,q,e,F,H,l,n,d.g b.r (p _ _ _ b.r C),d.row b.row (h b.row C)⟩;exact .inr ⟨m,q,e,z,E,l,n,d.g b.r (p _ _ _ b.r C),d.row b.row (h b.row C)⟩
structure im(i)(d wr:World)(a)(m c f g)(k)(j)(l e)(h)(n):Prop where
 v:ci i wr a m c g k j n
 y:Ad wr d.1.size (L_ l e e) (An h)
 t:Aa (DsS a c f) d wr
 p:∀b,g.ownBlock=some b->DsS a c f b∨d.1.size<=b
def im.below{m wr w2 base f j i k l e d h g c n}(a:im base m wr f j i k l e d h g c n)(b:E_ wr w2):im base m w2 f j i k l e d h g c n:=
 ⟨a.v.below b,a.y.below b,a.t.below b,a.p⟩
def pq v t L r a D B c8 d2 f8 f7 h5 h4 E F f9 j5 j7 y j3 h7 j8 s q g d1 l h f j (e2:v<=j.1.size)(a8:ci v j t (L_ D (r+1) B) E F y s q)(hK:ZfF j (L_ D (r+1) B) j3 g)(d7:g.length=r+1)(a1:j.1[L]? =some (O_ #[f9,V j5 a j7,I (h5:Nat),I (h4:Nat)] 351))(c5:Ad j v f9 (An f))(d6:Zo4 j (L_ c8 (r+1) d2) h7 d1 l)(d5:d1.length=r+1)(d8:Ik j (L_ f8 (r+1) f7) j8 h)(e0:h.length=r+1)(e9:∀h0∈h,h0.length=a)(e8:∀i,i<r+1->(l.getD i []).length=a)(e5:∀d∈f,d<r+1)(f1:a<=200)(i0:f.length<=100)(e3:∀i,i<r+1->∀h1∈l.getD i [],h1<=1000)(f0:∀K∈g,K.a<=100)(f2:(Jm g h l a q f).off<=64)(m0:q.length<=100000)(l3:s.length<=1000):C_ 207 #[P_ t,P_ L,L_ c8 (r+1) d2,L_ f8 (r+1) f7] j λe m=>e=.returned (.tuple #[])/\ie v j m t (L_ D (r+1) B) E F (s++[⟨f,(Jm g h l a q f).N,(Jm g h l a q f).off-1⟩]) (Jm g h l a q f).q:=by
 have G:=x5_ hK d6 d8 c5 a1;have A:=x8_ d7 d5 e0 e9 e8 e5 e3 f0;have⟨P,g2,c9⟩:=y3_ a8.a e2 a8;have⟨z,H,f3⟩:=c5.shape;rw[Aj] at f3;subst f3;have d3:=n_ 0 a1;have l1:=n_ 1 a1;have i1:=(Qb a1).1;have l4:=(Qb a8.r).1;have a3:Hid (Jm g h l a q _=f.foldl _ _/\_):=⟨rfl,f2⟩;have l6:=Gf a O;have⟨w,c4⟩:=M_ f.length;have b5:=Y c4;rw[<- c4] at i0 d3;clear e2 a8 hK d7 a1 c5 d6 d5 d8 e0 e9 e8 e5 e3 f0 f2 c4;refine dl_ ?_;go_enter func207,ntmps207;go_wp2_with fail
 go_loopw [26,9] (λb c m=>∃(k:Nat) (b4:Value),b=.int .i64 k/\k<=w/\c=.int .i64 (((f.take k).foldl (Ak g h l a) ⟨replicate a 0,q,1⟩).off:Nat)/\Hid (im v j m t (.slice (some ⟨D,0,none⟩) (r+1) B) E F b4 y s j.1.size a ((f.take k).foldl (Ak g h l a) ⟨replicate a 0,q,1⟩).N ((f.take k).foldl (Ak g h l a) ⟨replicate a 0,q,1⟩).q)) (λb _ _=>w-(intOf b).toNat)
 case atStart=>
  refine⟨0,F,rfl,r_,rfl,?_⟩;have b:=Ge a j _ O x_;have e:An (replicate a 0)=replicate a 0:=(by simp[An]);exact⟨c9.below q_,w_,(Aa.refl _ _).alloc _,λk hk=>.inl (.inr (.inr hk))⟩
 obtain⟨k,b4,rfl,hk,rfl,N⟩:=hrel;have iZ:=N.t.size
 by_cases e7:k<w
 ·have e6 :k<f.length:=(by rw[<- b5];exact e7);have l9:f.take (k+1)=f.take k++[f.getD k 0]:=(by grind [Qi]);have M:f.getD k 0<r+1:=by have:f.getD k 0=f[k]:=(by simp[getD,e6]);rw[this];exact A.2.2.2.2.2.1 _ (Qf _)
  have d0:Hid ((f.take (k+1)).foldl (Ak g h l a) ⟨replicate a 0,q,1⟩=Ak g h l a ((f.take k).foldl (Ak g h l a) ⟨replicate a 0,q,1⟩) (f.getD k 0)):=by
   show _=_
   grind
  have i3:((f.take (k+1)).foldl (Ak g h l a) ⟨replicate a 0,q,1⟩).off<=64:=(by have u:=Sb g h l a (f.drop (k+1)) ((f.take (k+1)).foldl (Ak g h l a) ⟨replicate a 0,q,1⟩);rw[<- foldl_append,take_append_drop,<- a3.1] at u;exact aG u a3.2);have a2:=Np g h l a (f.take k) ⟨replicate a 0,q,1⟩ s_;have c3:wr.cell? (J (match z with|some p=>p.block|none=>0) k)=some (I (f.getD k 0:Nat))/\∃Q,z=some ⟨Q,0,none⟩:=by have⟨Q,c7,b,_,n,_⟩:=G.2.2.2.1.b (by rw[Aj]) e6;subst c7;rw[Br] at n;refine⟨?_,Q,rfl⟩;show wr.cell? (J Q k)=_;rw[cb_ (a:=(J Q k)) (N.t.block Q b (P.row G.2.2.2.1 C C C Q rfl))];exact n
  obtain⟨c3,Q,c7⟩:=c3;subst c7;simp only at c3;have g4:Hid (∀d,(Ak g h l a ((f.take k).foldl (Ak g h l a) ⟨replicate a 0,q,1⟩) d).off=_+_):=λd=>rfl
  have m2:((f.take k).foldl (Ak g h l a) ⟨replicate a 0,q,1⟩).q.length<=200000:=by
   have R:(f.take k).length*a<=100*_:=Nat.mul_le_mul t_ f1
   grind
  have a4:=Y a2.1;rw[d0,g4] at i3;generalize f.getD k 0=d,(f.take k).foldl (Ak g h l a) ⟨replicate a 0,q,1⟩=b at *;have e1:=G.2.2.1.b N.t P;have c0:=e1.j d (A.2.2.1 ▸ M);have⟨l8,f6⟩:=e1.c (i:=d) (A.2.2.1 ▸ M);have c1:(h.getD d []).length=a:=A.2.2.2.1 _ (by simp[getD,show d<h.length by rw[A.2.2.1];exact M]);have d4:=A.2.2.2.2.1 d M;have⟨k1,k2,f4⟩:=c0.shape;rw[f4] at f6 c0;rw[c1] at f6 c0;have g7:Hid (Ak g h l a b d=⟨_,_,_⟩):=rfl;have b6:Hid (Ej j 0 (V k1 a k2) (h.getD d [])/\(h.getD d []).length=a):=by have u:=G.2.2.1.j d (A.2.2.1 ▸ M);rw[f4,c1] at u;exact⟨u,c1⟩
  have⟨l7,_,_,_,h2⟩:=(G.2.1.p N.t P).cells (i:=d) (A.2.1 ▸ M);have b9:=(G.2.1.j d (A.2.1 ▸ M)).2.2;have⟨a7,h3,e4⟩:=b9.shape;rw[Aj,d4] at e4;rw[e4] at h2 b9;have a0:=Y (n3_ b9 d4 (A.2.2.2.2.2.2.1 d M))
  have g6:Hid (∀x:World,Aa (DsS t E F) j x->x.cell? (J c8 (d*4+3))=some (V a7 a h3)):=λx b0=>by
   have u:=(G.2.1.p b0 P).cells (i:=d) (A.2.1 ▸ M)
   grind
  generalize h.getD d []=o,l.getD d []=m at *;obtain⟨g0,j1⟩:∃g0,g0=wr:=⟨wr,rfl⟩;subst j1;go_wp2_with fail
  go_loopw [35] (λn u=>∃(c:Nat) (T:Value),n=.int .i64 c/\c<=a/\Hid (im v j u t (.slice (some ⟨D,0,none⟩) (r+1) B) E F T y s j.1.size a (Jh b.off o m b.N c) (b.q++Jq d o m b.N c))) (λn _=>a-(intOf n).toNat)
  case atStart=>
   refine⟨0,b4,rfl,r_,?_⟩;rw[ZgM];show im _ _ _ _ _ _ _ _ _ _ _ _ _ (b.q++[]);rw[append_nil];exact N
  obtain⟨c,T,rfl,l5,n⟩:=hrel;have iZ:=n.t.size
  by_cases c6:c<a
  ·have⟨b3,i6,i7,_,k0,_⟩:=b6.1.b b6.2 c6;subst i6;obtain⟨b2,i4,i5,_,g1,_⟩:=a0.1.b (by rw[Aj];exact a0.2.1) c6;subst i4;rw[Br] at g1;have m7:wr.cell? (J b3 c)=some (.bool (o.getD c false)):=(by rw[cb_ (a:=(J b3 c)) (n.t.block b3 i7 (P.row b6.1 C C C b3 rfl))];exact k0);have m8:wr.cell? (J b2 c)=some (I (m.getD c 0:Nat)):=(by rw[cb_ (a:=(J b2 c)) (n.t.block b2 i5 (P.row a0.1 C C C b2 rfl))];exact g1);have m9:=g6 _ n.t;have a9:(Jh b.off o m b.N c).length=a:=(by rw[lq _ _ _ _ (by have:=a4.out;omega)];exact a4);obtain⟨j4,m6⟩:=n.y.c (k:=c) (by rw[Aj];exact a9.s) c6;rw[Br,Zfk] at j4
   have l2:m.getD c 0<=1000:=(by have u:c<m.length:=p_ a0.2.1;have:m.getD c 0=m[c]:=(by simp[getD,u]);rw[this];exact a0.2.2 _ (Qf _));have g3:Hid (a=(An (Jh b.off o m b.N c)).length):=(by rw[Aj];exact a9.s);have a5:Hid (mh b.off o m b.N c=if _/\_ then _ else _):=rfl;have a6:Hid (Jq d o m b.N (c+1)=_++(if _/\_ then _ else _)):=rfl;have b7:Hid (_=b.N.getD c 0->_):=ZgL b.off o m _ (p_ a4);have g8:Hid ((b.q++Jq d o m b.N c).length<=300000):=(by have:=Yb d o m b.N c;show _<=_;rw[Qe];omega);generalize o.getD c false=j6,m.getD c 0=R,b.N.getD c 0=f5 at *
   cases j6 with
   | false=>
    have S:Hid (im v j wr t (L_ D (r+1) B) E F T y s j.1.size a (Jh b.off o m b.N (c+1)) (b.q++Jq d o m b.N (c+1))):=(by have u:=a5.out;rw[aC s_] at u;rw[b7 u,a6,aC s_,append_nil];exact n);refine J_ ?_;exact⟨c+1,_,g_,O,S⟩
   | true=>
    by_cases b1:f5=0
    ·subst b1
     have S:Hid (im v j (wr.setCell (J j.1.size c) (I (b.off+R))) t (L_ D (r+1) B) E F T y s j.1.size a (Jh b.off o m b.N (c+1)) (b.q++Jq d o m b.N (c+1))):=by
      have u:=a5.out;rw[aD ⟨rfl,rfl⟩] at u;rw[a6,aC s_,append_nil,<- (Zbg b.off o _ b.N (p_ a4.out)),u];have⟨Z,d9⟩:=n.y.put (k:=c) g3 ((b.off:Int)+(R:Int));have⟨b8,U⟩:=Ac n.y (k:=j.1.size) rfl;refine⟨n.v.p ((Aa.refl (λW=>W=j.1.size) _).setCell (p:=(J j.1.size c)) (λ_=>rfl) _) (λk g9 c2 hk W e=>?_) (λi X k hk e=>p_ (B_ (c9.v.j i X).1 k hk).2),?_,n.t.setCell (p:=(J j.1.size c)) (λX=>absurd X (Nat.lt_irrefl _)) _,n.p⟩;subst e;rw[U] at hk;simp at hk;exact W hk.2.s;show Ad _ _ _ (An ((Jh b.off o m b.N c).set c (b.off+R)));rw[<- Zjx];have:((b.off+R:Nat):Int)=(b.off:Int)+(R:Int):=O;rw[this];exact Z
     refine J_ ?_;exact⟨c+1,_,g_,O,S⟩
    have m4:((f5:Int)==0)=_:=aO O;have g9:Hid (b.q++Jq d o m b.N (c+1)=(b.q++Jq d o m b.N c)++[⟨c,d,R⟩]):=(by show _=_;rw[a6,aD ⟨rfl,b1⟩,append_assoc]);have g5:=Y (b7 (by rw[a5,aC (λX=>b1 X.2)]));have⟨k4,k5,j0⟩:=n.v.j.shape;subst j0;have k9:=n_ 2 n.v.r;have h9:t<wr.1.size:=O;have W:Hid _:=n.v.j;clear b1 a6 a5 b7;generalize m3:b.q++Jq d o m b.N c=b8 at *;generalize j2:b8.length=k3 at *;have m1:=g8.out;go_wp2_with (at_builtin;refine ap_ [I (c:Nat),I (d:Nat),I (R:Nat)] (W.alloc _) ?_)
    rintro Z U ⟨j9,u,h6,_,_⟩;have d9:Ni U 0 Z (b8++[⟨c,d,R⟩]):=(by apply Ni.E;rw[j2];exact j9);have h8:=(n.v.below (y_.alloc x_ _)).E u d9;have c2:U.1[t]? =some (O_ #[L_ D (r+1) B,E,V k4 k3 k5] 168):=(by rw[u.block t t_ (λe=>Ah W e.s n.v.r C rfl)];exact(hc_ h9).T n.v.r);have k7:=n_ 2 c2;have l0:=R_ 2 _ _ c2
    have i2:Ad (U.setCell ⟨_,2,_⟩ Z) _ _ _:=
     Al (World.ownsRow.kept (Ad.alloc n.y _) u (Ao W n.y C)) c2 C
    have i9:=((n.t.alloc _).grown u (λk hk e7=>by
      rcases n.out.p k hk with X|X
      exact X
      omega)).setCell (p:=(J _ 2)) (λ_=>.inl rfl) Z
    have⟨k6,k8,X⟩:=d9.shape
    have S:Hid (im v j (U.setCell (J t 2) Z) t (L_ D (r+1) B) E F Z y s j.1.size a (Jh b.off o m b.N (c+1)) (b.q++Jq d o m b.N (c+1))):=by
     rw[g9,g5];refine⟨h8,i2,i9,λk hk=>?_⟩
     rcases h6 with e|e
     exact n.p k (e ▸ hk);rw[e.1] at hk;injection hk with hk;omega
    rw[X] at S;subst X;generalize (b8++[(⟨c,d,R⟩:XS)]).length=m5 at *;refine J_ ?_;exact⟨c+1,_,g_,O,S⟩
  have b8:¬c<(a:Int):=O;have b2:c=a:=O;have⟨Z,a6,a5,a9,c2,d9,f5,g1,g3,_,_⟩:=(G.1.b n.t P).c (i:=d) (A.1 ▸ M);have b7:=n_ 0 n.v.r;have X:=KS.b (g.getD d Ai)
  have U:Hid (∀x:World,C_ 146 #[.agg #[.bool (g.getD d Ai).e.a,V Z (g.getD d Ai).e.g.length a6,V a5 (g.getD d Ai).e.c.length a9]] x (U_ (.int .i64 (g.getD d Ai).a) x)):=λx=>by rw[<- X];exact Fm _ _ _ _ _ _ _ x O
  have R:Hid ((f.take (k+1)).foldl (Ak g h l a) ⟨replicate a 0,q,1⟩=⟨Jh b.off o m b.N a,b.q++Jq d o m b.N a,b.off+(g.getD d Ai).a⟩):=(by show _=_;rw[d0,g7]);have W:Hid (im v j wr t (L_ D (r+1) B) E F T y s j.1.size a (Jh b.off o m b.N a) (b.q++Jq d o m b.N a)):=(by rw[b2] at n;exact n);generalize g.getD d Ai=u at *;generalize u.e.a=h6,u.e.g.length=g8,u.e.c.length=g9,u.a=g5 at *;go_wp2_with fail
  apply (U _).m;rintro e b3 ⟨rfl,b1⟩;have S:Hid (im v j b3 t (L_ D (r+1) B) E F T y s j.1.size a ((f.take (k+1)).foldl (Ak g h l a) ⟨replicate a 0,q,1⟩).N ((f.take (k+1)).foldl (Ak g h l a) ⟨replicate a 0,q,1⟩).q):=(by rw[R];exact W.below b1);refine J_ ?_;exact⟨k+1,T,g_,O,by rw[R];go_num,S⟩
 have g8:¬k<(w:Int):=O;rw[(aI (p_ b5.out))] at N ⊢;have a2:=Np g h l a f ⟨replicate a 0,q,1⟩ s_;have b2:=Sb g h l a f ⟨replicate a 0,q,1⟩;rw[<- a3.1] at N a2 b2 ⊢;have f6:=a3.2;simp only at b2;have⟨b,b3⟩:=M_ (Jm g h l a q f);have d4:=Y b3;rw[<- b3] at N a2 b2 f6 ⊢;clear b3;have a9:=a2.1;have c:_:=N
 have d0:Hid (∀x:World,E_ wr x->C_ 257 #[L_ j.1.size a a,I (b.off-1:Nat)] x λe m=>∃o,e=.returned o/\Hv m v o b.N (b.off-1)/\E_ x m):=λx b0=>by have u:=c.y.below b0;have R:=Ad.m u r_;exact(rz _ a a _ _ x R a9 f1 O).m (λe m M=>by obtain⟨o,S,n,Q⟩:=M;exact⟨o,S,n.m (aG g2 (aG c.t.size b0.size)),Q⟩)
 have h3:i64.wrap (b.off-1)=(b.off-1:Nat):=by rw[As O O];omega
 obtain⟨a7,b7,g4⟩:∃d9 e1,E=.slice d9 s.length e1:=by
  rcases c.out.v.v.row.2 with⟨rfl,m⟩|⟨Q,p,c2,rfl,_⟩
  ·grind
  grind
 subst g4;have b8:=n_ 1 c.v.r;have c7:=P.at G.out.2.2.2.2 C C C;have b9:wr.drew.cell? (J L 0)=some (V z w H):=by have:wr.1[L]? =j.1[L]?:=c.t.block L i1 c7;exact(cb_ (a:=(J _ 0)) this).T d3
 have f5:L<wr.1.size:=O;have W:=Y c.v.v.row;generalize c3:s.length=a4 at *;go_upto_region 16 with fail;refine Af (λm=>m.cell? (J t 1)=some (V a7 a4 b7)/\m.cell? (J L 0)=some (V z w H)) 18 k_ ⟨b8,b9⟩ (λhHeld=>?_);refine K_ ?_;refine on_ 12 λKK hK=>?_;go_simp;apply (d0 _ (y_.drew)).m;rintro e U ⟨Z,rfl,c1,S⟩;have⟨c0,a5⟩:=k2_ S b8 b9;have⟨n,m,g1⟩:=c1.iface;subst g1;go_simp;refine hK _ _ ⟨c0,a5⟩ (λhHeld=>?_);refine K_ ?_;refine on_ 14 λKK hK=>?_;go_simp;have g7:=Qh f5 S.size;refine hK _ _ ⟨X_ c0,X_ a5⟩ (λhHeld=>?_);try simp only[Act.put,sA,sB,sC]
 refine on_ 15 λKK hK=>?_;have R:=(br_ wr.1.size _).drew.T S;refine aq_ [V z w H,.iface n (P_ m)] (ra_ ((Aa.a (S:=λ_=>False) R).row W (λ_ _=>id)) _) ?_;rintro a0 b6 ⟨g6,b1,e6,_,h6,h2,g3⟩;have M:=(c.v.below R).below (y_.alloc x_ (O_ #[V z w H,.iface n (P_ m)] 163));have Q:Aa _ (U.alloc (O_ _ _)) _:=(Aa.refl _ _).grown b1 (λk hk _=>hk);have T:gc _ _:=λk c2 g9 hk g0=>M.a k _ _ hk (.inr (.inl g0));have c6:Ad (U.alloc (O_ #[V z w H,.iface n (P_ m)] 163)) v (V z w H) (An f):=by have u:=c.t.row G.2.2.2.1 (P.row G.2.2.2.1 C C C);rw[<- b5] at u;exact((Aa.a (S:=λ_=>False) R).row u (λ_ _=>id)).alloc _
 have f4:Ok v b6 a0 (y++[(V z w H,.iface n (P_ m))]) (s++[⟨f,b.N,b.off-1⟩]):=by
  have g5:y.length=a4:=p_ c.v.v.len;refine⟨by rw[Qe,Uv,c3];exact g6,by simp[g5,c3],λi X=>?_⟩;rw[Qe] at X;simp at X
  by_cases u:i<s.length
  have a6:(y++[((V z w H:Value),(.iface n (P_ m):Value))]).getD i Ld=y.getD i Ld:=(by simp[getD,getElem?_append_left (show i<y.length by omega)]);have o:(s++[(⟨f,b.N,b.off-1⟩:BS)]).getD i Db=s.getD i Db:=(by simp[getD,getElem?_append_left u]);rw[a6,o];exact⟨Q.row (M.v.j i u).1 (T.row (M.v.j i u).1 C C C),(M.v.j i u).2.p Q T⟩;have e4:i=s.length:=O;subst e4;have a6:(y++[((V z w H:Value),(.iface n (P_ m):Value))]).getD s.length Ld=((V z w H:Value),(.iface n (P_ m):Value)):=(by simp[getD,c.out.v.v.len.s]);have o:(s++[(⟨f,b.N,b.off-1⟩:BS)]).getD s.length Db=⟨f,b.N,b.off-1⟩:=(by simp[getD]);rw[a6,o];exact⟨Q.row c6 (T.row c6 C C C),(c1.below q_).p Q T⟩
 have u:=Q.g M.r (λe=>Ah (ra_ ((Aa.a (S:=λ_=>False) R).row W (λ_ _=>id)) _) e M.r C rfl);have a6:=n_ 1 u;have g5:=R_ 1 _ _ u;have e4:b6.cell? (J L 0)=some (V z w H):=by rw[cb_ (a:=(J L 0)) (Q.block _ t_ (λe=>c7 (.inr (.inl e))))];exact X_ a5
 have X:Hid (ie v j (b6.setCell (J t 1) a0) t (L_ D (r+1) B) (V a7 a4 b7) F (s++[⟨f,b.N,b.off-1⟩]) b.q):=by
  refine⟨a0,b4,_,(M.b b1 f4),((((c.t.below R).alloc _).grown b1 (λk hk _=>.inr (.inl hk))).setCell (p:=(J t 1)) (λ_=>.inl rfl) a0),λk hk=>?_⟩
  rcases hk with e|e|e
  exact .inl (.inl e)
  ·rcases e6 with o|o
   exact .inl (.inr (.inl (o ▸ e)));rw[o.1] at e;injection e with e;have:=S.size;simp at this;exact .inr (by simp at e;omega)
  exact c.p k e
 subst g3;refine hK _ _ ⟨a6,e4⟩ (λhHeld=>?_);refine K_ ?_;refine le_ ?_;go_wp2;go_end0;rw[<- d4];exact⟨rfl,X⟩
end Go.Proofs.YtfcgnpchbcmdeaaGreat
