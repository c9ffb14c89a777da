import Derived.Test.YtfcgnpchbcmdeaaGreatZobt
namespace Go.Proofs.YtfcgnpchbcmdeaaGreat
set_option linter.all false
set_option maxRecDepth 100000
set_option maxHeartbeats 16000000
open Go.RowKit List Nat World Go.Proofs.Tryz Value IntKind Lib Region
def Zot{b:List Int}(f:b.length=2)(d:∀a∈b,0<=a/\a<256):(strOfNums b).toList=[71,82]↔b=[71,82]:=by
 match b,f with
 | [c,a],_=>
  have g:=d c s_;have h:=d a s_;have e:(strOfNums [c,a]).toList=[UInt8.ofNat c.toNat,UInt8.ofNat a.toNat]:=(by rw[toList_data];rfl);rw[e];simp only[List.cons.injEq,and_true];rw[<- UInt8.toNat_inj,<- UInt8.toNat_inj,UInt8.toNat_ofNat',UInt8.toNat_ofNat'];simp;omega
def ZgR(r:ByteArray) Q (c4:r.size<=2000000):C_ 128 #[Q_ r] Q λd a=>Yu Q a (opD (Ab r)) d:=by
 have h6:(Ab r).length=r.size:=(by simp[Ab]);have v:Hid (∀F,opD (Ab r)=some F->_):=λF=>ZlY (D:=F) (λa5 b1=>p_ (Po r a5 b1));have⟨M,a7⟩:=ez_ (opD (Ab r));rw[a7] at v ⊢
 by_cases f9:r.size<4
 ·have A:Hid (M=none):=by
   show _=_
   cases g:M with
   |none=>rfl
   |some F=>have:=(v F g).1;omega
  have j6:i64.wrap ((r.size:Int)-4)=(r.size:Int)-4:=As O O;have a1:decide ((r.size:Int)-4<0)=true:=aF O;clear v a7;refine dl_ ?_;go_enter func128,ntmps128;go_upto_region 2 with fail;go_quiet (fail);go_wp2;go_ret2
  exact Yu.i A (below_drewN y_ _)
 obtain⟨H,l2⟩:∃H,r.size=H+4:=⟨r.size-4,O⟩;have⟨i,k5⟩:=Y_ (r.extract 0 H);have h1:Ab i=(Ab r).take H:=(by rw[<- k5,Fc,drop_zero]);have i7:i.size=H:=(by rw[<- Cf i,h1,length_take,h6];omega);rw[h6,l2,Nat.add_sub_cancel,<- h1] at v;have⟨b8,iZ⟩:=Y_ (r.extract H (H+4));have h2:Ab b8=(Ab r).drop H:=(by rw[<- iZ,Fc,aI O]);have k6:b8.size=4:=(by rw[<- Cf b8,h2,length_drop,h6];omega);rw[<- h2] at v;have l:Hid (∀d,C_ 180 #[Q_ i] (Q.drewN d) λb a=>b=.returned (.int .i64 (Gp (Ab i)))/\a=Q.drewN d):=λd=>Zbl i _ O;have g6:Hid (∀d,C_ 181 #[Q_ b8] (Q.drewN d) λb a=>b=.returned (.int .i64 (Ys (Ab b8):Nat))/\a=Q.drewN d):=λd=>Tw b8 _ O
 have U:=Po i;have j6:i64.wrap ((r.size:Int)-4)=H:=(by rw[As O O];omega);have a1:decide ((H:Int)<0)=false:=aE O;have⟨b,h7⟩:=Y_ (Ab i);rw[h7] at l U v;have W:=T_ h7 i7;generalize Ys (Ab b8)=i1 at *;generalize Gp b=g8 at *;clear h1 h2 k6 i7 h7
 by_cases e5:g8=i1
 ·have j0:(g8 !=(i1:Int))=false:=(by simp[bne,e5]);clear e5;go_enter func128,ntmps128;go_upto_region 2 with fail;go_quiet (first|(go_at_call 180;exact(l.out _).m (λ_ _ g=>⟨g.1,_,g.2⟩))|(go_at_call 181;exact(g6.out _).m (λ_ _ g=>⟨g.1,_,g.2⟩)));clear l g6 j0 iZ j6 a1;have⟨n,i0⟩:=Y_ (Q.drewN nq);have e0:Hid (E_ Q n/\n.1.size=Q.1.size):=(by rw[<- i0];exact⟨below_drewN y_ _,s_⟩);have c8:i.size<=4000000:=p_ W.2;have h0:=Io n.1.size 2 i ⟨0,false⟩ (n.alloc (O_ #[Q_ i,I 0,.bool false] 288)) hn_ C c8 r_;have e6:b.length=i.size:=(by rw[<- W.1,Cf]);rw[W.1] at h0;have d2:Hid (opM b=La b 2 ⟨0,false⟩):=rfl;have h8:(La b 2 ⟨0,false⟩).1.k<=b.length:=Td r_
  have c6:=Zot (Ib b 2 ⟨0,false⟩) (Nc U 2 ⟨0,false⟩);generalize La b 2 ⟨0,false⟩=a4 at *;go_upto_region 4 with fail;rw[i0];clear i0;go_wp2_with fail
  apply h0.m;rintro d k1 ⟨rfl,q,g4⟩;clear h0;have⟨t,j1⟩:=Y_ n.1.size;have⟨w,j2⟩:=Y_ k1.1.size;have f3:Hid (yr n (k1.alloc (O_ #[I 0,Dd,Dd,Dd,Dd] 142)) t w 0 Dd [] [] i a4.1):=(by have d7:=g4.size;simp at d7;rw[j1] at q g4;exact⟨q.below q_,e6 ▸ h8,by rw[<- j2];exact hn_,fx.nil _ _,λe d6=>by simp at d6,((q_ (o:=O_ #[Q_ i,I 0,.bool false] 288)).T (g4.b s_ (λT hq=>O))).alloc O _,O,O⟩);rw[j1];clear q g4;go_wp2_with fail
  apply (Cg t 200 i a4.1 _ f3.w c8 f3.D).m;rintro d l5 ⟨rfl,x,j8⟩;rw[W.1] at x ⊢;have f4:=Y (f3.call x (e6 ▸ Ht h8) j8);have hq:=(Je U 200 a4.1).2 C;have j5:(Cv b 200 a4.1).1.k<=b.length:=Ht h8;have d3:Hid (xf b=Cv b 200 a4.1):=(by show _=_;unfold xf;rw[d2]);clear x j8 f3;generalize Cv b 200 a4.1=T at *;obtain⟨T,o⟩:=T;simp only at hq j5 ⊢;have k3:=R_ 0 _ _ f4.v;have k2:=n_ 0 f4.v;have f5:=Y (f4.u o);clear f4;go_wp2_with fail
  clear k3 k2 j2;generalize l5.setCell _ _=l6 at *;apply (Cg t 4 i T _ f5.w c8 f5.D).m;rintro d l7 ⟨rfl,f9,j9⟩;rw[W.1] at f9 ⊢;have g7:=Y (f5.call f9 (e6 ▸ Ht j5) j9);have l0:=(Je U 4 T).2 C;have a0:Hid (opK b=Cv b 4 T):=(by show _=_;unfold opK;rw[d3]);clear f9 j9 f5;generalize Cv b 4 T=g2 at *;obtain⟨g2,k⟩:=g2;simp only at l0 g7 ⊢;have⟨g3,h9⟩:=Y_ ((g2,[]):Cu×List KS);have f1:Hid (Rl b=Hh (fsC b) g3 k):=(by show _=_;unfold Rl;rw[a0,<- h9]);have i3:=Y h9;clear h9;go_wp2_with fail
  go_loopw [9] (λa c=>∃(h:Nat) (s:Cu) (f:List KS) (P:Value) (D:List (Value×Value)),a=.int .i64 h/\h<=k/\f.length=h/\Hid ((s,f)=Hh (fsC b) g3 h)/\Hid (yr n c t w o P D f i s)) (λa _=>k-(intOf a).toNat)
  case atStart=>exact⟨0,g2,[],Dd,[],rfl,r_,rfl,i3.out,g7⟩
  clear g7 i3;obtain⟨h,s,f,P,D,rfl,h5,e4,l,L⟩:=hrel;have⟨z,a1,f8⟩:=L.cells
  by_cases c5:h<k/\s.z=false
  ·obtain⟨i4,g⟩:=c5;have c1:h<(k:Int):=O;have N:=Kv (f:=fsC b) (s:=g3) (k:=h) (by rw[<- l];exact g);rw[<- l] at N;rw[g] at z;clear l g;go_wp2_with fail
   apply (xq t i s wr L.w c8 L.D).m;rintro d e9 ⟨j3,j4,rfl,b9,c0,b2,b7,f6⟩;rw[W.1] at b9 c0 b2 b7 ⊢;have G:=Y (L.call b2 b7 f6);have e1:=(Zlp U s).1;have b6:n.1.size<=wr.1.size:=L.B.size;have A:=x3_ (b9.m b6) (c0.c b6) e1;have d6:Hid (Hh (fsC b) g3 (h+1)=((gu b s).1,f++[(gu b s).2])):=N;clear N b9 c0 b2 b7 f6 L z a1 f8 b6 e1;generalize gu b s=g9 at *;obtain⟨d7,e,c⟩:=g9;simp only at A d6 G ⊢;obtain⟨j,p,rfl⟩:=A.1.shape;obtain⟨m,y,rfl⟩:=A.2.1.b;have⟨c9,e7⟩:=Y_ (e9.alloc (O_ #[.bool e.a,V j e.g.length p,V m e.c.length y,I c] 227));have⟨b0,e2⟩:=Y_ e9.1.size;have a2:fy c9 b0 e.a (V j e.g.length p) (V m e.c.length y) c/\E_ e9 c9:=(by rw[<- e7,<- e2];exact⟨hn_,q_⟩);go_upto_region 13 with fail;clear e7;have⟨Z,a3,e3⟩:=G.z.row.shape
   rw[G.z.a,e4] at e3;subst e3;have d5:Hid (∀a5,(slice Z h a3).ownBlock=some a5->a5≠b0):=λa5 b1 d=>p_ (B_ G.z.row.row a5 b1).2;clear e2;have⟨S,a9⟩:=Z_ (G.below a2.2) a2.1;have X:=x3_ (A.1.below a2.2) (A.2.1.below a2.2) A.2.2;clear a2 G A;have⟨_,a1,f8⟩:=S.cells;have⟨⟨a8,f0,d0,c3⟩,_,_⟩:=a9.cells;generalize e.g.length=B at *;generalize e.c.length=E at *;have⟨a6,b5⟩:=Y_ e.a;have c7:=Y b5;rw[b5] at a8;clear b5;have R:Hid (yr n (c9.alloc (O_ #[.bool a6,V j B p,V m E y,I c] 227)).drew t w o (V Z h a3) D f i d7):=S.below q_.drew;have d4:Hid ((c9.alloc (O_ #[.bool a6,V j B p,V m E y,I c] 227)).drew.ownsRow n.1.size 227 4 (V Z h a3) h (zipWith Bs f D).flatten):=by have:=R.z.row.row;rw[R.z.a,e4] at this;exact this
   have i5:n.1.size<=c9.1.size:=S.B.size;clear S;refine Af (λa=>a.cell? _=some _/\a.cell? _=some _/\a.cell? _=some _/\a.cell? _=some _/\a.cell? _=some _) 10 k_ ⟨a1,a8,f0,d0,c3⟩ λhHeld=>?_;refine K_ ?_;refine on_ 6 λKK hK=>?_;go_simp;refine hK _ _ ⟨Ag q_ a1,Ag q_ a8,Ag q_ f0,Ag q_ d0,Ag q_ c3⟩ λhHeld=>?_;clear hK KK;try simp only[Act.put,sA,sB,sC]
   refine on_ 7 λKK hK=>?_;refine aq_ [.bool a6,V j B p,V m E y,I c] d4 ?_;rintro i2 d8 ⟨f2,a,_,_,i9,i6,h3⟩
   have⟨d9,b4⟩:=R.A (v':=i2) (K:=⟨e,c⟩) (u:=(V j B p,V m E y)) (X.1.below q_.drew) (X.2.1.below q_.drew) X.2.2 a (by
    have d:Bs ⟨e,c⟩ (V j B p,V m E y)=[.bool a6,V j B p,V m E y,I c]:=(by unfold Bs;rw[c7]);rw[e4,d]
    exact f2)
   have g5:=Y d9;have d1:fy d8 b0 e.a (V j B p) (V m E y) c:=((Aa.refl _ _).grown a (λa5 b1 _=>b1)).g (S:=λT=>(slice Z h a3).ownBlock=some T) ((Aa.a (S:=λ_=>False) q_.drew).g a9 id) (λd=>d5 _ d rfl);have⟨⟨c2,f7,g0,g1⟩,_,_⟩:=d1.cells;rw[c7] at c2;have b3:=n_ 1 b4;have h4:=R_ 1 _ 142 b4;subst h3;clear f2 a d9 b4 d1 a1 f8 a8 f0 d0 c3 R d4 a9 X d5;refine hK _ _ ⟨b3,c2,f7,g0,g1⟩ λhHeld=>?_;clear hK KK;refine K_ ?_;refine le_ ?_;clear b3 h4 c2 f7 g0 g1 hHeld;generalize d8.setCell _ _=e8 at *;refine J_ ?_;exact⟨h+1,d7,f++[(⟨e,c⟩:KS)],_,_,g_,O,by simp[e4],d6.s,g5⟩
  have m:Hid (s.z=true∨h=k):=by
   cases g:s.z
   exact .inr (by by_cases d:h<k;exact absurd ⟨d,g⟩ c5;omega);exact .inl rfl
  go_upto_region 10 with fail;go_cut [56] (λe g=>e=.bool false/\wr=g)
  case first=>
   rcases m.out with g|g
   ·rw[g] at z;clear l L f1 m
    by_cases c1:h<(k:Int)<;>(go_wp2;go_meet;exact⟨rfl,rfl⟩)
   have c1:¬h<(k:Int):=O;clear l L f1 m g h5;go_wp2;go_meet
   exact⟨rfl,rfl⟩
  obtain⟨rfl,rfl⟩:=hcut;clear c5;have A:Hid (Rl b=(s,f)):=(by rw[f1];exact Ts l h5 m);clear m l f1 z a1 f8 e4 h5;go_upto_region 14 with fail;have l1:=Qk k O;have G:=Y (L.below (q_ (o:=O_ (madeCells #[.bool false] k) 4)));have g1:=Pz k wr n.1.size O L.B.size;have⟨b0,j3⟩:=Y_ wr.1.size;rw[j3] at g1;have k9:n.1.size<=b0:=p_ L.B.size;clear L;go_wp2_with fail
  clear j3 l1;generalize wr.alloc _=e9 at *;apply (Cg t 255 i s e9 G.w c8 G.D).m;rintro d c9 ⟨rfl,a2,i2⟩;rw[W.1] at a2 ⊢;have S:=Y (G.call a2 (e6 ▸ Ht (e6 ▸ G.D)) i2)
  have c:Hid (OpJ n c9 t w b0 o k P D f i ((Cv b 255 s).1,replicate k false,[],[])):=⟨S.w,S.D,i2.row g1 (λh h4=>Ah g1 h4 G.w C),s_,λd=>⟨by
   have:=(gz U (A ▸ (Uy d).1)).2.1;rw[A,a0] at this
   exact this.s,_,_,_,_,S.F⟩,S.B⟩
  have f6:=Y S.y;have k4:=(Je U 255 s).1;have i5:Hid ((Cv b 255 s).1.z=false->s.z=false):=λd=>(Uy d).1;have g5:Hid (opB b=Cv b 255 s):=(by show _=_;unfold opB;rw[A]);clear a2 i2 G S g1;generalize Cv b 255 s=p at *;obtain⟨p,a6⟩:=p;simp only at k4 c ⊢;have i6:Hid (p.z=false->(Rl b).1.z=false):=A ▸ i5;have⟨b3,d7⟩:=Y_ ((p,replicate k false,[],[]):Cu×List Bool×List (List Nat)×List (List Nat));rw[d7] at c
  have d1:Hid (∀h,Hh (ep b (xf b).2 (Rl b).2) ((opB b).1,replicate (opK b).2 false,[],[]) h=Hh (ep b o f) b3 h):=λh=>by rw[d3,A,g5,a0,<- d7]
  have i4:Hid (∀h,(Hh (ep b o f) b3 h).1.z=false->(Rl b).1.z=false):=λh h4=>i6 (by have:=(Pt (f:=ep b o f) (λ_ _=>True) (λ_=>trivial) h (λ_ _ _ _ _ _=>trivial) h4).2;rw[<- d7] at this;exact this);clear d7 i5 i6;go_wp2_with fail
  go_loopw [13] (λe g=>∃(p:Nat) (a:Cu×List Bool×List (List Nat)×List (List Nat)),e=.int .i64 p/\p<=a6/\Hid (a=Hh (ep b o f) b3 p)/\Hid (OpJ n g t w b0 o k P D f i a)) (λe _=>a6-(intOf e).toNat)
  case atStart=>exact⟨0,b3,rfl,r_,rfl,c⟩
  clear c;obtain⟨p,a,rfl,h3,l,c⟩:=hrel;have z:=n_ 2 c.w
  by_cases c5:p<a6/\a.1.z=false
  ·obtain⟨c2,g⟩:=c5;have c1:p<(a6:Int):=O;have N:=Kv (f:=ep b o f) (s:=b3) (k:=p) (by rw[<- l];exact g);rw[<- l] at N;have a5:=i4 p (by rw[<- l];exact g);have⟨E,j,c0,d4,_⟩:=ZjD U (m:=p) a5 (by rw[d1,<- l];exact g);have⟨c7,b4,b5,a8,a9,c3⟩:=c.F g;rw[d1,<- l] at c0;rw[A,d3] at d4;have X:=ZeH d4 O;have d5:a.2.2.1=E.map (·.fs):=(by rw[c0]);have e:a.2.2.2=E.map (·.N):=(by rw[c0]);rw[<- d5,<- e] at X;have Z:a.2.2.1.length<=256:=(by rw[d5,length_map];omega);have B:=Zbj n.1.size t w b0 o P b4 b5 Dd D a8 a9 f a.2.2.1 a.2.2.2 i a.1 a.2.1 [] wr ⟨c3,⟨_,c.w⟩,Ac c.A (k:=b0) rfl⟩ c.w (by rw[<- c7];exact c.A) (by rw[<- c7];exact c.q) c8 c.D O O (λy=>XsV.E (Wl.nil _ 0 _ _)) f6.1 k9 c.B.size X Z;rw[<- c7,W.1] at B
   rw[g] at z;have y:=Y c7;clear j c0 d4 d5 e Z X a5 c3 g l c7;go_wp2_with fail
   apply B.m;rintro d b9 ⟨rfl,b1⟩;have R:Hid (OpJ n b9 t w b0 o k P D f i (ep b o f a)):=(by obtain⟨b4,b5,a8,a9,e2,f7,b2,a3,b6,b7⟩:=b1;exact⟨e2,f7,y ▸ b2,a3.T y.s,λ_=>⟨y,b4,b5,a8,a9,b6⟩,c.B.T b7⟩);clear b1 B z c y;refine J_ ?_;exact⟨p+1,_,g_,O,N.s,R⟩
  have m:Hid (a.1.z=true∨p=a6):=by
   cases g:a.1.z
   exact .inr (by by_cases d:p<a6;exact absurd ⟨d,g⟩ c5;omega);exact .inl rfl
  go_upto_region 17 with fail;go_cut [84] (λe g=>e=.bool false/\wr=g)
  case first=>
   rcases m.out with g|g
   ·rw[g] at z;clear l c d1 m
    by_cases c1:p<(a6:Int)<;>(go_wp2;go_meet;exact⟨rfl,rfl⟩)
   have c1:¬p<(a6:Int):=O;clear l c d1 m g h3;go_wp2;go_meet
   exact⟨rfl,rfl⟩
  obtain⟨rfl,rfl⟩:=hcut;clear c5;have Z:Hid (opG b=a):=(by unfold opG;rw[d1,g5];exact Ts l h3 m);clear m l d1 g5 i4 z h3;go_wp2_with fail
  go_loopw [14] (λg j=>∃e:Nat,g=.int .i64 e/\e<=k/\Hid (OpJ n j t w b0 o k P D f i (if(a.2.1.take e).all id=true then a.1 else⟨a.1.k,true⟩,a.2))) (λg _=>k-(intOf g).toNat)
  case atStart=>exact⟨0,rfl,r_,take_zero ▸ c⟩
  clear c;obtain⟨e,rfl,k8,c⟩:=hrel;have z:=n_ 2 c.w
  by_cases j4:e<k
  ·have c1:=F_ e k;have B:e<a.2.1.length:=(by have:=c.q;simp only at this;omega);have⟨T,hq,_,_,y⟩:=c.A.b c.q j4;simp only at y;injection hq with hq;injection hq with hq;subst hq;have j:(a.2.1.take (e+1)).all id=((a.2.1.take e).all id&&a.2.1.getD e false):=by rw[Qi B,all_append];simp[getD,B]
   cases g:a.2.1.getD e false
   ·rw[g] at y j;have E:=R_ 2 _ _ c.w;have R:Hid (OpJ n (wr.setCell (J t 2) (.bool true)) t w b0 o k P D f i (if(a.2.1.take (e+1)).all id=true then a.1 else⟨a.1.k,true⟩,a.2)):=(by have q:=c.w.g;have x:(if(a.2.1.take e).all id=true then a.1 else⟨a.1.k,true⟩).k=a.1.k:=(by split<;>rfl);rw[j,Bool.and_false,aC C,<- x];exact c.call q.1 c.D (λd=>by cases d) q.2 f6.1);clear c g j;generalize (if(a.2.1.take e).all id=true then a.1 else⟨a.1.k,true⟩)=b9 at *;refine J_ ?_;exact⟨e+1,g_,O,R⟩
   rw[g] at y j;rw[Bool.and_true] at j;rw[<- j] at c;clear g j z;refine J_ ?_;exact⟨e+1,g_,O,c⟩
  obtain rfl:e=k:=O;have j:a.2.1.take e=a.2.1:=aI (by have:=c.q;simp only at this;omega);rw[j] at c z;have b6:Hid (opC b=if a.2.1.all id=true then a.1 else⟨a.1.k,true⟩):=(by show _=_;unfold opC;rw[Z]);have c1:¬(e:Int)<e:=O;clear j k8 j4;generalize (if a.2.1.all id=true then a.1 else(⟨a.1.k,true⟩:Cu))=b9 at *;go_upto_region 25 with fail
  by_cases N:a4.2=[71,82]/\e≠0/\b9.z=false
  ·obtain⟨q,x,c2⟩:=N;have e2:=c6.2 q;have f7:((e:Int)==0)=false:=(by simp[x]);rw[c2] at z;have g9:(opK b).2≠0:=a0 ▸ x;have⟨E,j,c0,_⟩:=ZmI U g9 (b6 ▸ c2);have y:=c0 [] Pairwise.nil s_;rw[Z] at j;rw[A,d3] at y;have⟨c7,b4,b5,a8,a9,c3⟩:=c.F c2;have d4:a.2.2.1=E.map (·.fs):=(by rw[j]);have d5:a.2.2.2=E.map (·.N):=(by rw[j]);simp only at c3;have hK:∀e,e<f.length->KRt (f.getD e Ai):=λe d6=>y.h _ (Hk Ai d6);have B:=fg n.1.size t w o P b4 b5 D a8 a9 f a.2.2.1 a.2.2.2 i b9 wr c3 c.w c8 c.D O O (by rw[d4,d5];exact ZeH y.g (aG y.l C)) (λe d6=>oj_ (hK e d6).sum (hK e d6).ok.g);rw[W.1] at B;have d9:Hid (cj wr n.1.size w o P b4 b5 Dd D a8 a9 f a.2.2.1 a.2.2.2/\∃g,wr.1[t]? =some (O_ g 288)):=⟨c3,_,c.w⟩
   have b7:Hid (opX b=xcC b o f a.2.2.1 a.2.2.2 b9):=(by show _=_;unfold opX;rw[d3,A,Z,b6]);have f2:=Y g9;clear c6 j c0 d4 d5 y c7 c3 hK g9 q c2;go_wp2_with fail
   apply B.m;rintro d d8 ⟨rfl,k0,i9⟩;have m:=Y i9;generalize xcC b o f a.2.2.1 a.2.2.2 b9=X at *;obtain⟨e3,X⟩:=X;simp only at m;have d0:=n_ 2 m.w;have f0:=n_ 1 m.w;have R:Hid (E_ Q d8):=e0.1.T (e0.2 ▸ (c.B.T (m.u.b c.B.size (λT hq=>oj_ f6.1 f6.2))));clear B i9 e2 f7 z
   by_cases N:e3.z=false/\e3.k=H
   ·obtain⟨q,x⟩:=N;rw[q] at d0;rw[x] at f0;have⟨E,j,y⟩:=ZnC U f2 (b7 ▸ q);rw[Z] at j;rw[A,d3,b7] at y;have a3:=m.F d9.1 d9.2;rw[show a.2.2.1=E.map BS.fs by rw[j],show a.2.2.2=E.map BS.N by rw[j]] at a3;have g0:RfX d8 n.1.size w o P b4 b5 k0 D a8 a9 f (E.map BS.fs) (E.map BS.N) X:=⟨a3.v,a3.z,a3.r,a3.co,⟨ZbE m.q.row c.B.size,m.q.h⟩,a3.x,a3.y⟩;have B:=St (y.a rfl) (λg a5=>(y.h g a5).ok.q) (λg b2 a5 b1=>p_ ((y.h g b2).num a5 b1)) (List.Perm.refl X) w _ _ _ _ _ _ _ _ d8 g0;have e1:=T_ g0 y;have⟨l4,e7⟩:=Y_ (strOfNums (Cb ⟨f,E,X⟩ X));rw[e7] at B
    by_cases c4:l4=r
    ·have a5:Hid (M=some ⟨f,E,X⟩):=a7.s.T (ZnA (D:=⟨f,E,X⟩) y e7 c4);rw[c4] at B;clear v a7 d2 a0 b6 Z c m b7 d9 f2 a3 g0 y j q x e7 c4;go_wp2_with fail
     apply B.m;rintro d e8 ⟨rfl,b1⟩;have b2:Hid (Yu Q e8 M (.returned (.tuple #[P_ w,.int .i64 0]))):=(by rw[a5];refine⟨w,o,rfl,⟨P,b4,b5,k0,D,a8,a9,X,?_,List.Perm.refl X,e1.2.q.imp λg=>O⟩,e1.2,R.T (b1.m R.size)⟩;rw[<- e0.2];exact e1.1.u (.a b1));clear B e1 a5 R b1;go_wp2;go_ret2
     exact b2
    have a5:Hid (M=none):=by
     show _=_
     cases g:M with
     |none=>rfl
     | some F=>
      have⟨_,_,_,_,_,_,_,b1,b2,e8,j7,l3⟩:=v F g;rw[A] at b1;rw[Z,j] at b2;rw[b7] at e8;have d:=Zm9 (λp k7=>(y.g p k7).sum) b1 b2 e8 l3;rw[<- d] at j7;exact absurd ((ZbR (Pp _ _)).2 j7) (λd=>c4 (e7.s.T d))
    have b2:=ZmK c4;clear v a7 d2 a0 b6 Z c m b7 d9 f2 a3 g0 y j q x e7 c4 e1;go_wp2_with fail
    apply B.m;rintro d e8 ⟨rfl,b1⟩;have g:=Y (R.T (b1.m R.size));clear B b1;go_wp2;go_ret2
    exact Yu.i a5 g
   have a5:Hid (M=none):=by
    show _=_
    cases g:M with
    |none=>rfl
    | some F=>
     have⟨_,_,_,_,_,b1,b2,_⟩:=v F g;rw[b7] at b1 b2;exact absurd ⟨b1,b2⟩ N
   clear v a7 d2 a0 b6 Z c m b7 d9 f2
   cases g:e3.z
   ·have b2:¬e3.k=H:=λd=>N ⟨g,d⟩;have a3:((e3.k:Int)==H)=false:=t_;rw[g] at d0;clear N g;go_wp2;go_ret2
    exact Yu.i a5 R
   rw[g] at d0;clear N g;go_wp2;go_ret2
   exact Yu.i a5 R
  have a5:Hid (M=none):=by
   show _=_
   cases g:M with
   |none=>rfl
   | some F=>
    have⟨_,_,b1,b2,e8,_⟩:=v F g;rw[d2] at b1;rw[a0] at b2;rw[b6] at e8;exact absurd ⟨b1,b2,e8⟩ N
  have R:Hid (E_ Q wr):=e0.1.T (e0.2 ▸ c.B);clear v a7 d2 a0 b6 Z c
  by_cases q:a4.2=[71,82]
  ·have e2:=c6.2 q
   by_cases x:e=0
   ·clear q N c6;go_wp2;go_ret2
    exact Yu.i a5 R
   have f7:((e:Int)==0)=false:=by simp[x]
   have c2:b9.z=true:=by
    cases g:b9.z
    exact absurd ⟨q,x,g⟩ N;rfl
   rw[c2] at z;clear q N c2 c6;go_wp2;go_ret2
   exact Yu.i a5 R
  have e2:¬(strOfNums a4.2).toList=[71,82]:=λd=>q (c6.1 d);clear q N c6;go_wp2;go_ret2
  exact Yu.i a5 R
 have A:Hid (M=none):=by
  show _=_
  cases g:M with
  |none=>rfl
  |some F=>exact absurd (v F g).2.1.s e5
 have j0:(g8 !=(i1:Int))=true:=bne_iff_ne.2 e5;clear v a7 e5 W;go_enter func128,ntmps128;go_upto_region 2 with fail;go_quiet (first|(go_at_call 180;exact(l.out _).m (λ_ _ g=>⟨g.1,_,g.2⟩))|(go_at_call 181;exact(g6.out _).m (λ_ _ g=>⟨g.1,_,g.2⟩)));go_wp2;go_ret2
 exact Yu.i A (below_drewN y_ _)
def ZjN{g:Nat}{b:Ga}{c:List XS}(a:DRt g b b.q)(e:c.Perm b.q)(f:Eh c):Oo g b c:=by have d:=a.a rfl;obtain rfl:c=b.q:=Vz d.u e f (List.Perm.refl _) (a.q.imp λa=>O);exact⟨d,λK hK=>(a.h K hK).ok.q,λK hK j i=>p_ ((a.h K hK).num j i),e,f,λl k _ h=>Zgo a h⟩
section
variable {d:Nat->Prop} {w a w2 w3:World} {o:Nat->Nat} {g N L:Nat} {c:Array Value} {v1 v2:Value} {e:List RP} {b:List Nat}
def Dx.i(i:Dx d w o g c N L v1 v2 e b){y n t B z p l}(S:za w.1.size a t B n)(A:E_ w a)(R:ij a w2 z y n)(s:E_ a w2)(Z:DRt y n n.q)(k:Ur w2 w3 g 2 137 96 c v2 (b.map ptD) (P_ t) (P_ z) p l):Dx d w3 (Fe w w3 o l 15 17) g (c.setIfInBounds 2 l) N L v1 l e (b++[p])/\De d w w3/\Aa (λf=>f=g∨v2.ownBlock=some f) w w3:=by
 have a3:=A.size;have b4:=s.size;have b5:=k.u.size;have m:Aa (λf=>f=g∨v2.ownBlock=some f) w w3:=(Aa.a (A.T (s.m a3))).T k.u
 have r:∀f,f<w.1.size->(f=g∨v2.ownBlock=some f)->o f=0∨o f=15:=λf j h=>by
  rcases h with h|h
  subst h;exact .inl i.p.b;exact .inr (i.w f h)
 have q:Em w o (Fe w w3 o l 15 17):=ka _ _ _ _ _ _
 have a1:∀f,f<w.1.size->Fe w w3 o l 15 17 f=o f:=λf j=>by unfold Fe;rw[aD j]
 have a0:∀f,w.1.size<=f->f<w2.1.size->Fe w w3 o l 15 17 f=17:=λf u Q=>Ow u O (λh=>by
  rcases k.q f h with v|v
  have:=(B_ i.u f v).2;omega
  omega)
 have W:=(Qb k.o).1
 have X:Fe w w3 o l 15 17 p=17:=Ow (p_ k.y) W (λh=>by
  have⟨x,v⟩:=Ac k.row h;rw[k.o] at v
  simp at v)
 have⟨a6,a7⟩:=Ji i.B i.E m (λf j h=>p_ (r f j h)) q C;refine⟨⟨i.p.put m (λf j h=>?_) k.v q (λE b3=>aH O) (by simp[i.p.r]),λf j=>?_,(aH O).T i.z,a6,a7,Array.getElem?_setIfInBounds_self_of_lt (by rw[i.p.r];decide),?_,λf j=>?_,λE a8 x=>(i.v E a8 x).u m (λf j h=>p_ (r f j h)) q O,i.r,λP U=>?_,i.k q m.size⟩,i.A m (λf j h=>p_ (r f j h)),m⟩
 ·rcases h with h|h
  exact .inl h;exact .inr (p_ (i.w f h))
 unfold Fe;rw[aC O,aC (λh=>p_ (B_ k.row f h).2),aC O];have h:(b++[p]).map ptD=b.map ptD++[P_ p]:=(by simp[ptD]);rw[h,Qe];exact k.row
 ·by_cases D:f<w.1.size
  ·rw[a1 f D]
   rcases k.q f j with h|h
   exact i.w f h;omega
  unfold Fe
  grind
 rcases mem_append.1 U with h|h
 exact(i.x P h).u m (λf j h=>p_ (r f j h)) q;rw[mem_singleton] at h;subst h;obtain⟨b1,a9,b0,b2,a5,H,M,G,T,a2,a4⟩:=R;refine⟨t,B,z,a.1.size,y,n,b1,a9,b0,b2,a5,H,M,G,λb6 v=>⟨v.g k.o (λh=>h X),?_,?_⟩,ZjN Z a2 a4⟩
 ·have x:=S.a (λf u Q=>a0 f u O);have F:Aa (λf=>f=g∨v2.ownBlock=some f) a w3:=(Aa.a s).T k.u;refine x.step F (λf j h=>?_) (Em.refl _ _) C _ v
  have D:f<w.1.size:=by
   rcases h with h|h
   rw[h];exact i.p.v.lt;exact(B_ i.u f h).2
  grind
 have D:=(k.u.m (S':=λf=>f<a.1.size) (λf _ h=>by
  rcases h with h|h
  have:=i.p.v.lt;omega
  have:=(B_ i.u f h).2;omega)).c v (λf h=>by
  grind)
 exact T.u D
end
def lh{h S v T i A q} a t s k (g:ByteArray) e (M:Dx h e S a v t s T i A q)(Q:A.length<=k)(R:q.length<=k)(a2:k<=10000000)(Z:g.size<=2000000):C_ 72 #[P_ a,Q_ g] e λc j=>c=.returned (.bool true)/\Bq h j a t s (k+1)/\De h e j/\Aa (λf=>f=a∨i.ownBlock=some f) e j:=by
 have N:=Zgc g e O;have r:K (∀u,C_ 128 #[Q_ g] u λc j=>Yu u j (opD (Ab g)) c):=λu=>ZgR g u Z;have b:=x3_ M Q R;clear M Q R;generalize opD (Ab g)=X at *;refine dl_ ?_;go_enter func72,ntmps72;go_wp2_with fail
 apply N.m;intro c U G;clear N
 cases X with
 | none=>
  obtain⟨rfl,p⟩:=G;have n:=Y p;clear p;go_wp2_with fail
  apply (r U).m;rintro c m ⟨rfl,l⟩;have y:K (Bq h m a t s (k+1)/\De h e m/\Aa (λf=>f=a∨i.ownBlock=some f) e m):=(by have d:=n.T (l.m n.size);exact⟨⟨S,v,T,i,A,q,b.1.below d,p_ b.2.1,p_ b.2.2⟩,De.a d,.a d⟩);clear n l r b;go_wp2_with fail
  apply (ir a _).m;rintro c d ⟨rfl,f⟩;obtain rfl:=f.s;go_wp2_with (go_at_call 68;apply (Jf _ _).m;rintro c j ⟨rfl,f⟩;obtain rfl:=f.s)
  go_ret;exact⟨s_,y⟩
 | some a0=>
  obtain⟨F,a1,rfl,L,p⟩:=G;have o:=T_ L p;clear L p;go_wp2_with fail
  apply (r U).m;rintro c m ⟨W,a3,rfl,H,P,l⟩;have d:=o.2.T (l.m o.2.size);have x:=b.1.below d
  have D:=hdc<|iu a F W v i (q.map ptD) m x.p.v x.q x.u (by have:=b.2.2;simp;omega)
  have E:K (∀n z B,Ur m n a 2 137 96 v i (q.map ptD) (P_ F) (P_ W) z B->_):=λn z B w=>b.1.i o.1 o.2 H l P w;clear H P l d x r;go_wp2_with fail
  apply D.m;rintro c n ⟨rfl,z,B,w⟩;have y:K (Bq h n a t s (k+1)/\De h e n/\Aa (λf=>f=a∨i.ownBlock=some f) e n):=(by have d:=E _ _ _ w;exact⟨⟨_,_,_,_,_,_,d.1,p_ b.2.1,by have:=b.2.2;simp;omega⟩,d.2⟩);clear w E D b o;go_wp2_with (go_at_call 68;apply (Jf _ _).m;rintro c j ⟨rfl,f⟩;obtain rfl:=f.s)
  go_ret;exact⟨s_,y⟩
structure Yw(b:World)(a:Nat)(c:List Int):Prop where
 lt:a<b.1.size
 g:∀j,j<c.length->b.cell? (J a j)=some (.int .u8 (c.getD j 0))/\b.frozen? ⟨a,j,none⟩=false
def Yw.put{e:World}{a k:Nat}{b:List Int}(c:Yw e a b)(f:Int):Yw (e.setCell ⟨a,k,none⟩ (.int .u8 f)) a (b.set k f):=by
 refine⟨by have:=c.lt;simpa [World.setCell] using this,λg d=>?_⟩;rw[length_set] at d;have⟨h,i⟩:=c.g g d
 grind [frozen?_setCell,cell?_setCell_same,cell?_setCell_other]
def Yw.drew{d:World}{c:Nat}{a:List Int}(b:Yw d c a):Yw d.drew c a:=⟨b.lt,b.g⟩
def Yw.new(c:World)(a:ByteArray)(b:Nat):Yw (c.alloc (O_ (bytesRow a b) 5 ((bytesRow a b).size,(bytesRow a b).size+1))) c.1.size (Ab a):=by have f:a.size<=(bytesRow a b).size:=(by unfold bytesRow;rw[Array.size_append,Array.size_map];exact le_add_right _ _);refine⟨by show c.1.size<(c.1.push _).size;simp,λe d=>?_⟩;rw[Cf] at d;constructor;rw[cell?_alloc_mark c (bytesRow a b) 5 _ e,bytesRow_at a b e d,Qc];unfold Ab;rw[getElem?_map,Qd (by simpa using d)];simp;rw[frozen?_alloc_mark c (bytesRow a b) 5 _ _ e,aE O];rfl
def Yw.a{b:World}{c:Nat}{a:List Int}(e:Yw b c a)(d:Nat):(convert 66 9 (L_ c a.length d)).run prog b=.ok (Q_ (strOfNums a)) b:=by refine run_convert_bytes_arg b 66 5 underlying66 underlying5 c 0 a.length d a rfl (λg f=>?_) 9 underlying9;rw[Nat.zero_add];exact(e.g g f).1
def Zec(e:ByteArray)(f Q:Int) d (S:4<=e.size)(T:e.size<=1000000):C_ 75 #[Q_ e,I f,I Q] d λh g=>∃a,h=.returned (.string a)/\a.size<=2000000/\E_ d g:=by
 obtain⟨b,U⟩:∃b,e.size=b+4:=⟨e.size-4,O⟩;have⟨c,E⟩:=Y_ (e.extract 0 b);have F:Ab c=(Ab e).take b:=(by rw[<- E,Fc,drop_zero]);have s:c.size=b:=(by rw[<- Cf c,F,length_take,Cf];omega);have P:i64.wrap ((e.size:Int)-4)=b:=(by rw[As O O];omega);have M:b<=(e.size:Int):=O;have A:=λ(j:World)=>run_bytes_of_string (P:=prog) j 9 66 5 c underlying9 underlying66 underlying5;rw[s] at A
 have v:K (∀(a:List Int) (j:World),(∀g∈a,0<=g/\g<256)->a.length=b->C_ 134 #[Q_ (strOfNums a)] j λh g=>h=.returned (.string (strOfNums (a++Ay (Gp a) 4)))/\E_ j g/\(strOfNums (a++Ay (Gp a) 4)).size<=2000000):=λa j p r=>(du a j p O).m (λ_ _ g=>⟨g.1,g.2,by rw[Bk,Qe,Dv];omega⟩);have o:=T_ s (Po c);clear F s;refine dl_ ?_;go_enter func75,ntmps75;go_upto_region 2 with fail;generalize grownCap d b 0 5=k;have⟨u,t⟩:=Y_ (d.alloc (O_ (bytesRow c k) 5 ((bytesRow c k).size,(bytesRow c k).size+1))).drew;have i:K (Yw u d.1.size (Ab c)/\E_ d u):=(by rw[<- t];exact⟨(Yw.new d c k).drew,q_.drew⟩);rw[t];clear t A;have r:(Ab c).length=b:=(by rw[Cf];exact o.1);have⟨n,l⟩:=Z_ o.2 r;generalize Ab c=a at *
 clear r E o P M;go_cut [21] (λm h=>m=.bool (decide (0<=f/\f<b))/\K (h=u))
 case first=>
  by_cases h:0<=f
  ·by_cases g:f<b
   all_goals
    go_wp2;go_meet
    exact⟨by simp[h,g],rfl⟩
  go_wp2;go_meet
  exact⟨t_,rfl⟩
 obtain⟨rfl,G⟩:=hcut;have N:=G.out.s;subst N;clear G;go_upto_if 21 with fail
 go_cut [21] (λm h=>K (∃a,Yw h d.1.size a/\E_ d h/\(∀g∈a,0<=g/\g<256)/\a.length=b))
 case first=>
  by_cases q:0<=f/\f<b
  ·rw[aF q];obtain⟨m,rfl⟩:∃m:Nat,f=m:=⟨f.toNat,O⟩;have⟨w,x⟩:=i.1.g m (p_ l.out);have y:=F_ m b;clear q;go_wp2;go_meet
   refine⟨_,i.1.put _,i.2.setCell x_ _,λg p=>?_,by rw[length_set];exact l⟩
   rcases mem_or_eq_of_mem_set p with h|h
   exact n g h;omega
  rw[aE q];go_wp2;go_meet
  exact⟨a,i.1,i.2,n,l⟩
 have⟨L,g,w,x,m⟩:=hcut.out;have D:=g.a k;rw[m] at D;have y:=v L wc x m;have q:=Y w;clear g w x m hcut i n l v;go_wp2_with fail
 apply y.m;rintro h R ⟨rfl,z,B⟩;have H:K (_/\E_ d R):=⟨B,q.T (z.m q.size)⟩;clear y z B D;go_wp2;go_ret;exact⟨_,rfl,H⟩
def Zhe b d g f c y l m z n x H p A E r q D B F G h a (M:Bq b a d g f c)(N:c<=10000000)(P:h.size<=2000000):C_ 41 #[P_ d,.agg #[I 13,I y,I l,V p r q,I m,I z,I n,V A D B,V E F G,Q_ h,I x,I H]] a λo e=>o=.returned (.bool true)/\Bq b e d g f (c+1)/\De b a e:=by
 obtain⟨S,Q,U,W,T,R,u,v,w⟩:=M;have i:Below _ a (a.alloc (O_ #[I 13,I y,I l,V p r q,I m,I z,I n,V A D B,V E F G,Q_ h,I x,I H] 93)):=q_
 have j:=hdc<|lh d g f c h _ (u.below i) v w N P
 have k:K (De b a _):=De.a i;clear u i v w;refine v_ ?_;go_wp2_with fail
 apply j.m;rintro o e ⟨rfl,s,t,_⟩;have L:K (Bq b e d g f (c+1)/\De b a e):=⟨s,k.T t⟩;clear s t j k;go_wp2;go_ret;exact⟨rfl,L⟩
def Zhg k h q p l m F G a3 H x t M a5 b0 P N a7 a6 b1 b2 a4 a (e3:Bq k a h q p l)(e4:l<=10000000):C_ 41 #[P_ h,.agg #[I 14,I m,I F,V M P N,I G,I a3,I H,V a5 a7 a6,V b0 b1 b2,Q_ a4,I x,I t]] a λb c=>b=.returned (.bool true)/\Bq k c h q p (l+1)/\De k a c:=by
 obtain⟨f2,d8,g5,g6,f3,e,z,W,X⟩:=e3;obtain⟨d5,d0,rfl,c8⟩:=My z.u;rw[length_map] at *;refine v_ ?_;go_upto_region 12 with fail;generalize Z:a.alloc (O_ #[I 14,I m,I F,V M P N,I G,I a3,I H,V a5 a7 a6,V b0 b1 b2,Q_ a4,I x,I t] 93)=f;have A:E_ a f:=(by rw[<- Z];exact q_);have y:f.1[a.1.size]? =some (O_ #[I 14,I m,I F,V M P N,I G,I a3,I H,V a5 a7 a6,V b0 b1 b2,Q_ a4,I x,I t] 93):=(by rw[<- Z];exact ha_ a _);have d2:=n_ 0 y;have d3:=n_ 1 y;clear Z;have i:=z.below A;have c1:f.cell? (J h 2)=some (V d5 e.length d0):=(by rw[i.p.v.cell];exact i.q);have b6:K (De k a _):=De.a A
 by_cases e1:e.length=0
 ·have E:K (Bq k _ h q p (l+1)):=Bq.E ⟨f2,d8,_,_,f3,e,i,W,X⟩ x_ x_ O;rw[e1] at c1;clear i z c8 d3 A;go_wp2;go_ret;exact⟨rfl,E,b6⟩
 obtain⟨d1,rfl,_⟩:=c8 O;have⟨s,e8,r⟩:=lp m (n:=e.length) O;obtain⟨g,R⟩:∃g,e[s]? =some g:=⟨e[s],Qd e8⟩;have e0:f.cell? _=some (.pointer _):=Pd (x:=ptD g) (by have:=i.u;rw[length_map] at this;exact this) (by rw[getElem?_map,R];rfl)
 have b8:K (∀d,C_ 74 #[I m,I e.length] d (V_ (.int .i64 s) d)):=λd=>by rw[<- r];exact al _ _ d
 have⟨g1,g0,b3,d6,g4,u,f8,f6,f7,f9,f1,d7,d9,w,c3,j⟩:=i.x g (mem_of_getElem? R);have a0:=c3.b;have d4:K (∀d,E_ f d->C_ 76 #[P_ b3] d (U_ (.string (strOfNums (Cb u w))) d)):=λd e5=>St j.ok j.q j.h j.g b3 d6 f8 f6 f7 f9 f1 d7 d9 d (a0.below e5).y;have b9:K (4<=(strOfNums (Cb u w)).size/\(strOfNums (Cb u w)).size<=1000000):=by have:=Za6 j.ok j.q j.g;show _/\_;rw[Bk];unfold Cb;rw[Qe,Dv];omega
 have b5:K (f.1[g]? =_):=a0.dp;have b7:K (f.1[a.1.size]? =_):=y;have v:=x3_ i W X;have g3:=F_ s e.length;have e9:((e.length:Int)==0)=_:=aO O;clear i z r R A W X y c3 a0 j;generalize strOfNums (Cb u w)=f4 at *;go_upto_region 14 with fail;go_cut [6] (λb c=>b=.pointer (some ⟨g,0,none⟩)/\K (E_ f c))
 case first=>
  go_region_held3 (λc=>c.cell? (J h 2)=some (L_ d1 e.length d0)/\c.cell? (J a.1.size 1)=some (I m)/\c.cell? (J d1 s)=some (P_ g)) (go_keep) (first|(go_at_call 74;apply (b8 _).m;rintro b c ⟨rfl,n⟩;obtain rfl:=n.s))
  all_goals go_wp2
  all_goals go_meet
  all_goals exact⟨rfl,y_.drew⟩
 obtain⟨rfl,n⟩:=hcut;clear c1 d2 d3 e0 b8 e9;have T:=(Aa.a (S:=λ_=>False) n.out).g b7 id;have e7:=(Aa.a (S:=λ_=>False) n.out).g b5 id;have d2:=n_ 0 T;have a1:=n_ 10 T;have a2:=n_ 11 T;have L:=n_ 1 e7;go_upto_region 16 with fail;refine Af (λc=>c.cell? (J g 1)=some (P_ b3)/\c.cell? (J a.1.size 10)=some (I x)/\c.cell? (J a.1.size 11)=some (I t)) 12 k_ ⟨L,a1,a2⟩ (λhHeld=>?_);refine K_ ?_;refine on_ 5 λKK hK=>?_;go_simp;apply (d4 _ n.out.drew).m;rintro b a8 ⟨rfl,e6⟩;have c:E_ wc a8:=y_.drew.T e6;have b4:K (E_ f a8):=n.out.T (c.m n.out.size);go_simp;refine hK _ _ ⟨Ag c L,Ag c a1,Ag c a2⟩ (λhHeld=>?_);clear hK KK;try simp only[Act.put,sA,sB,sC]
 refine on_ 10 λKK hK=>?_;go_simp;apply (Zec f4 x t a8 b9.1 b9.2).m;rintro b D ⟨f5,rfl,f0,c4⟩;have Q:E_ wc D:=c.T (c4.m c.size);have o:K (E_ f D):=b4.T (c4.m b4.size);go_simp;refine hK _ _ ⟨Ag Q L,Ag Q a1,Ag Q a2⟩ (λhHeld=>?_);clear hK KK;try simp only[Act.put,sA,sB,sC]
 refine on_ 11 λKK hK=>?_;go_simp;apply (lh h q p l f5 D (v.1.below o) v.2.1 v.2.2 e4 f0).m;rintro b a9 ⟨rfl,r,c7,c9⟩
 have S:∀{c0 B:Nat} {c2:Array Value},D.1[c0]? =some (O_ c2 B)->B≠90->B≠96->a9.1[c0]? =some (O_ c2 B):=λc6 g2 e2=>c9.g c6 (λb=>by
  have E:=v.1.below o
  rcases b with b|b
  ·have:=E.p.v;unfold WB at this
   grind
  exact Ah E.u b c6 (λb=>e2 b.s) rfl)
 have U:=S ((Aa.a (S:=λ_=>False) o.out).g b7 id) C C;have c5:=S ((Aa.a (S:=λ_=>False) o.out).g b5 id) C C;have E:K (Bq k a9 h q p (l+1)/\De k a a9):=⟨r,(b6.T (De.a o)).T c7⟩;go_simp;refine hK _ _ ⟨n_ 1 c5,n_ 10 U,n_ 11 U⟩ (λhHeld=>?_);clear hK KK S U c5 r c7 c9;try simp only[Act.put,sA,sB,sC]
 refine le_ ?_;go_wp2;go_ret;exact⟨rfl,E⟩
def ZdZ:ZhX 14:=λZ g N L R d w hP hR hN hL hO hl hs h5 h14=>by
 by_cases h12:d.a<=12
 exact Zkh Z g N L R d w hP hR hN hL hO hl h5 h12
 by_cases h13:d.a=13
 rw[h13];exact(Zhe Z g N L R _ _ _ _ _ _ _ _ _ _ _ _ _ _ _ _ _ w hP hR hs).m (λ_ _ q=>⟨q.1,q.2.1.E O O x_,q.2.2⟩);rw[show d.a=14 by omega];exact(Zhg Z g N L R _ _ _ _ _ _ _ _ _ _ _ _ _ _ _ _ _ w hP hR).m (λ_ _ q=>⟨q.1,q.2.1.E O O x_,q.2.2⟩)
def Zdv a b d D w (g:gd w a b D)(f:uf b D):C_ 9 #[V a b d] w (U_ (.bool true) w):=by
 refine dl_ ?_;go_enter func9,ntmps9;go_wp2_with fail
 refine(Zbf 14 a _ _ D _ ZdZ C C g f).m ?_;rintro e h ⟨rfl,c⟩;go_wp2;go_ret;exact⟨rfl,c⟩
end Go.Proofs.YtfcgnpchbcmdeaaGreat
