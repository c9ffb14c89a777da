import Derived.Test.YtfcgnpchbcmdeaaGreatZoae
namespace Go.Proofs.YtfcgnpchbcmdeaaGreat
set_option linter.all false
set_option maxRecDepth 100000
set_option maxHeartbeats 4000000
open Go.RowKit List Nat World Go.Proofs.Tryz Value IntKind Lib Region
def Am.E{c a b L}{x:Cm}(d:c.ownsRow a 98 4 b (L.length+1) (flat L++[I x.v,I x.y,I x.g,I x.h])):Am c a b (L++[x]):=by unfold Am;rw[Cq,ZiT,Qe];exact d
def Ee.h{e g f d i}(b:Ee e f d)(h:E_ e g)(j:i<d.length):∃a c,f=some ⟨a,c,none⟩/\g.cell? (J a (c+i*4))=some (I (d.getD i e0).v)/\a<e.1.size:=by rcases b with⟨_,k|⟨a,c,rfl,b⟩⟩;omega;exact⟨a,c,rfl,W_ h (b.v i j),b.lt O⟩
def NxJ(a b:List Cm)(e f:Nat)(i:List Cm)(d:Int)(g h:Nat):Prop:=Rs a b g h (i++[Xv a b e f d])/\(∀c,c<e->(a.getD c e0).v<d)/\(e<a.length->d<=(a.getD e e0).v)/\(∀c,c<f->(b.getD c e0).v<d)/\(f<b.length->d<=(b.getD f e0).v)
def ZoH{d c b a n}(j:Be d)(k:Be c)(h:Rs d c b a n)(g:b<d.length∨a<c.length):∃i p m,NxJ d c b a n i p m/\((b<d.length/\i=(d.getD b e0).v/\p=b+1/\(a<c.length/\i<(c.getD a e0).v/\a=m∨a<c.length/\i=(c.getD a e0).v/\m=a+1∨¬a<c.length/\a=m))∨a<c.length/\i=(c.getD a e0).v/\m=a+1/\b=p/\(b<d.length/\i<(d.getD b e0).v∨¬b<d.length)):=by
 have s:=h.g.g;have q:=h.g.e;have t:∀e g,NxJ d c b a n (d.getD b e0).v (b+1) a:=λe g=>⟨ZlQ e g ▸ h.a j e g,λr l=>(j.lt l e).1,λ_=>Int.le_refl _,Yy k q (h.g.i e),λf=>Int.le_of_lt (g f)⟩;have u:∀f g,NxJ d c b a n (c.getD a e0).v b (a+1):=λf g=>⟨ZlR f g ▸ h.b k f g,Yy j s (h.g.l f),λe=>Int.le_of_lt (g e),λr l=>(k.lt l f).1,λ_=>Int.le_refl _⟩
 by_cases e:b<d.length
 ·by_cases f:a<c.length
  ·rcases Int.lt_trichotomy (d.getD b e0).v (c.getD a e0).v with w|o|v
   ·grind
   exact⟨_,_,_,⟨Zjy e f o ▸ h.c j k e f o,λr l=>(j.lt l e).1,λ_=>Int.le_refl _,Yy k q (h.g.i e),λ_=>O⟩,.inl ⟨e,rfl,rfl,.inr (.inl ⟨f,o,rfl⟩)⟩⟩
   grind
  grind
 grind
def bkJ{p:Prop}(h:p:=by
 obtain⟨p1,p2,p3,p4,p5,p6⟩:=P1;obtain⟨q1,q2,q3,q4,q5,q6⟩:=P2;go_wp2_with fail
 go_big_quiet (fail);go_wp2_with fail
 apply (HPA _ (HEA.below (below_drewN y_ _))).m;rintro e w1 ⟨rfl,hb1⟩;have hbw1:Below wr.1.size _ _:=(below_drewN y_ _).T hb1;have HEB1:=Y (HEB.below hbw1);go_wp2_with fail
 apply (HPB _ (HEB1.below q_)).m;rintro e w2 ⟨rfl,hb2⟩;have hX:Jv w2 w1.1.size pa.v pa.y pa.g pa.h:=(by unfold Jv;rw[hb2.block _ s_];exact hn_);have⟨_,x1,x2,x3,_⟩:=hX.cells;have hzz:w1.1.size<w2.1.size:=(by have:=hb2.size;simp at this;omega);have hbw2:=hbw1.T ((q_.T (hb2.m s_)).m hbw1.size);have HO2:=Y (HO.below hbw2);have hs2:=aG hsz hbw2.size;go_wp2_with (at_builtin;refine wpList_append_own _ rfl (.tmp 60) (.tmp 78) 29 rfl w.1.size 98 i0 _ 4 32 underlying29 hinf hz0 hz1 hz2 rfl C _ out.length (flat out) rfl ((HO2.alloc _).alloc _) _ 1 1 [I vp,I (pa.y+pb.y),I (pa.g+pb.g),I (pa.h+pb.h)] rfl rfl ?_ ?_ ?_ ?_ ?_ ?_)
 have:=one_new (w2.alloc (O_ #[I pb.v,I pb.y,I pb.g,I pb.h] 98)) #[I vp,I (pa.y+pb.y),I (pa.g+pb.g),I (pa.h+pb.h)] 98;rw[show(w2.alloc (O_ #[I pb.v,I pb.y,I pb.g,I pb.h] 98)).1.size=w2.1.size+1 by simp] at this;exact this
 ·intro u hu;simp at hu;rcases hu with rfl|rfl|rfl|rfl<;>rfl
 unfold maxLen;omega;omega;simp;omega;intro v3 w3 hown3 hgrow _;have hb3:=(((hbw2.m hsz).alloc hs2 _).alloc t_ _).grown hgrow t_ (λk hk=>(HO2.lt k hk).1);have hb4:=hbel.T hb3;try have ca3:=(hb3.cell (p:=(J b1 (o1+i*4))) hbb1).T ca0
 try have cb3:=(hb3.cell (p:=(J b2 (o2+j*4))) hbb2).T cb0
 have HF:K (Am w3 w.1.size v3 (out++[X])):=HNX ▸ (Am.E hown3);try clear ca0
 try clear cb0
 go_wp2;go_roundw
 case rel=>first|exact⟨i+1,j,_,g_,g_,⟨HX,HF⟩,hb4⟩|exact⟨i+1,j+1,_,g_,g_,⟨HX,HF⟩,hb4⟩|exact⟨i,j+1,_,g_,g_,⟨HX,HF⟩,hb4⟩
 case measure=>simp[intOf];omega):p:=h
def dv s t b a G H w (x:Ee w s b)(y:Ee w t a)(L:Be b)(M:Be a):C_ 120 #[V s b.length G,V t a.length H] w λe c=>∃v,e=.returned v/\Am c w.1.size v (Bf b a)/\E_ w c:=by
 have⟨i0,hinf,hz0,hz1,hz2⟩:=info_parts kc;have a4:=x.1;have a5:=y.1;have⟨D,E,p,q⟩:=y4_ x y L M;clear x y L M;refine dl_ ?_;go_enter func120,ntmps120;go_wp2_with fail
 go_loopw [5,6,7] (λg c d f=>∃(i j:Nat) (out:List Cm),c=I i/\d=I j/\K (Rs b a i j out/\Am f w.1.size g out)/\E_ w f) (λ_ c d _=>(b.length-(intOf c).toNat)+(a.length-(intOf d).toNat))
 case atStart=>exact⟨0,0,[],rfl,rfl,⟨⟨⟨r_,r_,λ_ h=>absurd h O,λ_ h=>absurd h O⟩,by simp[mg]⟩,Am.nil _ _⟩,y_⟩
 obtain⟨i,j,out,rfl,rfl,T,hbel⟩:=hrel;obtain⟨l,Q⟩:=T;have a1:=l.len;have hi:=l.g.g;have P:=l.g.e;have hsz:=hbel.size;have A:=D.below hbel;have B:=E.below hbel;have⟨HEA,HEB,HO,r⟩:=y4_ A B Q l;clear l Q A B
 by_cases N:i<b.length∨j<a.length
 ·obtain⟨vp,a2,a3,⟨hX,R,n,S,o⟩,m⟩:=ZoH p q r N;have P1:=Zbc p hi vp;have P2:=Zbc q P vp;have HPA:K (∀g,Ee g s b->_):=λg z=>Zbd _ b G i _ g z p hi R n;have HPB:K (∀g,Ee g t a->_):=λg z=>Zbd _ a H j _ g z q P S o;have HNX:K (Xv b a i j vp=⟨vp,(Dn b i vp).y+(Dn a j vp).y,(Dn b i vp).g+(Dn a j vp).g,(Dn b i vp).h+(Dn a j vp).h⟩):=rfl;have HX:=Y hX;have f:=λh=>D.h hbel (i:=i) h;have c:=λh=>E.h hbel (i:=j) h;clear hX R n S o r N;generalize Xv b a i j vp=X,Dn b i vp=pa,Dn a j vp=pb,(b.getD i e0).v=n,(a.getD j e0).v=o at *
  rcases m with⟨k,rfl,rfl,m⟩|⟨d,rfl,rfl,rfl,m⟩
  ·obtain⟨b1,o1,rfl,ca0,hbb1⟩:=f k;have U:=F_ i b.length
   rcases m with⟨d,a0,rfl⟩|⟨d,rfl,rfl⟩|⟨d,rfl⟩
   obtain⟨b2,o2,rfl,cb0,hbb2⟩:=c d;have F:=F_ j a.length;have W:decide (vp<=o)=_:=aF O;have Z:(o==vp)=_:=aO O;have u:decide (a.length<=j)=_:=aE O;clear f c;exact bkJ;obtain⟨b2,o2,rfl,cb0,hbb2⟩:=c d;have F:=F_ j a.length;have u:decide (a.length<=j)=_:=aE O;clear f c;exact bkJ;have F:decide ((a.length:_)<=(j:Int))=_:=aF O;have u:decide (a.length<=j)=_:=aF O;clear f c;exact bkJ
  obtain⟨b2,o2,rfl,cb0,hbb2⟩:=c d;have F:=F_ j a.length;have u:decide (a.length<=j)=_:=aE O
  rcases m with⟨k,a0⟩|k
  obtain⟨b1,o1,rfl,ca0,hbb1⟩:=f k;have U:=F_ i b.length;have W:decide (n<=vp)=_:=aE O;have Z:(n==vp)=_:=aO O;clear f c;exact bkJ;have U:decide ((i:_)<(b.length:Int))=_:=aE O;clear f c;exact bkJ
 have k:¬i<b.length:=O;have d:¬j<a.length:=O;have c:out=Bf b a:=(by have:=r.eq;rw[th k d,append_nil] at this;exact this);have f:=Y (c ▸ HO);clear c;go_wp2;go_ret;exact⟨_,rfl,f,hbel⟩
def Zjb:(prog.info? 3).map (λa=>(a.zero,a.size,a.bytes))=some (some (I 0),1,8):=k_
def Ad(d:World)(b:Nat)(c:Value)(a:List Int):Prop:=d.ownsRow b 3 1 c a.length (a.map (int .i64))
def Ad.nil b a:Ad b a (N_) []:=ownsRow_nil b a 3 1
def Ad.below{e f base d g}(b:Ad e base d g)(k:E_ e f):Ad f base d g:=by
 refine⟨b.1,?_⟩
 rcases b.2 with m|⟨a,h,i,j,l,c,n⟩
 exact .inl m;exact .inr ⟨a,h,i,j,l,(k.block a (Qb c).1).T c,n⟩
def Ad.kept{d e b a f c}(g:Ad d b a f)(h:d.grownBy e c)(i:a.ownBlock=none∨a.ownBlock≠c):Ad e b a f:=World.ownsRow.kept g h i
def Ad.E{d b c a}{x:Int}(e:d.ownsRow b 3 1 c (a.length+1) (a.map (int .i64)++[I x])):Ad d b c (a++[x]):=by grind [Ad]
def ZfO(x:Int):Int:=if 1000000000<x then 1000000000 else x
def ZcG x:Gj x=if ZfO x< -1000000000 then -1000000000 else ZfO x:=by grind [Gj,ZfO]
def ZfJ(a:Int):Bool:=decide (a<1∨1000<a)
def ZcH a:Jx a=if ZfJ a=true then 1 else a:=by grind [Jx,ZfJ]
def Ew(a:List (Int×Int))(x:Int):Bool:=match a.getLast? with
 |none=>true
 |some b=>decide (b.1<x)
def Zf9 x:Ew [] x=true:=rfl
def Vq b a x:Ew (b++[a]) x=decide (a.1<x):=by simp[Ew]
def ZiX{b}(g:b.Pairwise λa e=>a.1<e.1){x}(f:Ew b x=true):∀a∈b,a.1<x:=by
 rcases eq_nil_or_concat b with c|⟨h,a,c⟩
 subst c;simp;rw[concat_eq_append] at c;subst c;rw[Vq] at f;simp at f;intro e d
 rcases mem_append.1 d with d|d
 have:=(pairwise_append.1 g).2.2 e d a s_;omega
 grind
structure Jw(d c:List (Int×Int)):Prop where
 e:c.Pairwise λa b=>a.1<b.1
 sub:∀a∈c,∃b∈d,b.1=a.1
 h:∀a∈c,a.2=Ph d a.1
 A:∀b∈d,Ew c b.1=false->∃a∈c,a.1=b.1
def Jw.nil b:Jw b []:=⟨s_,s_,s_,λc _ a=>by rw[Zf9] at a;cases a⟩
structure Kp(b e:List (Int×Int))(c)(f)(d g:Int):Prop where
 i:f=false->d=0/\g=0/\∀a∈b.take c,Ew e a.1=false
 h:f=true->(∃a∈b.take c,Ew e a.1=true/\a.1=d)/\(∀a∈b.take c,Ew e a.1=true->d<=a.1)/\g=Ph (b.take c) d
def Kp.start b a:Kp b a 0 false 0 0:=⟨(λ_=>⟨rfl,rfl,s_⟩),(λc=>by cases c)⟩
def Kp.new{b g c h k n}(d:Kp b g c h k n) m (j:Ew g b[c].1=true)(o:h=false∨b[c].1<k):Kp b g (c+1) true b[c].1 b[c].2:=by
 refine⟨(λd=>by cases d),λ_=>?_⟩;simp only[Qi m];refine⟨⟨b[c],mem_append.2 (.inr s_),j,rfl⟩,λe a i=>?_,?_⟩
 ·rcases mem_append.1 a with a|a
  ·cases f:h with
   |false=>have:=(d.i f).2.2 e a;grind
   | true=>
    have:=(d.h f).2.1 e a i
    grind
  grind
 rw[Nf,ot (λe a l=>?_)];simp[Ph];have i:Ew g e.1=true:=l ▸ j
 cases f:h with
 |false=>have:=(d.i f).2.2 e a;grind
 | true=>
  have:=(d.h f).2.1 e a i
  grind
def Kp.b{a e b d f}(c:Kp a e b true d f) k (i:a[b].1=d):Kp a e (b+1) true d (f+a[b].2):=by
 have⟨⟨m,l,j,g⟩,n,h⟩:=c.h rfl;refine⟨(λc=>by cases c),λ_=>?_⟩;simp only[Qi k];refine⟨⟨m,mem_append.2 (.inl l),j,g⟩,λq p o=>?_,?_⟩
 ·grind
 rw[Nf,h];simp[Ph,i]
def Kp.c{a c b d f i}(g:Kp a c b d f i) m (r:d=false->Ew c a[b].1=false)(o:d=true->a[b].1≠f/\(Ew c a[b].1=true->f<=a[b].1)):Kp a c (b+1) d f i:=by
 refine⟨λe=>?_,λe=>?_⟩
 ·have⟨j,k,h⟩:=g.i e
  grind [Qi]
 have⟨⟨p,n,l,j⟩,k,h⟩:=g.h e;simp only[Qi m];refine⟨⟨p,mem_append.2 (.inl n),l,j⟩,λt s q=>?_,?_⟩
 ·grind
 rw[Nf,h];simp[Ph,(o e).1]
def Jw.i{a c h i}(b:Jw a c)(g:Kp a c a.length false h i):Ef a c:=by have⟨_,_,d⟩:=g.i rfl;rw[aI x_] at d;exact⟨b.e,b.sub,λf e=>b.A f e (d f e),b.h⟩
def Jw.E{e d f h}(c:Jw e d)(r:Kp e d e.length true f h):Jw e (d++[(f,h)]):=by
 have⟨⟨s,q,o,m⟩,i,n⟩:=r.h rfl;rw[aI x_] at q i n;refine⟨?_,?_,?_,?_⟩;rw[pairwise_append];refine⟨c.e,s_,λg j b a=>?_⟩;simp at a;rw[a];have:=ZiX c.e o g j;simp;omega
 ·intro p a
  rcases mem_append.1 a with a|a
  exact c.sub p a
  grind
 ·intro p a
  rcases mem_append.1 a with a|a
  exact c.h p a
  grind
 intro g l k;rw[Vq] at k;simp at k
 cases j:Ew d g.1 with
 |false=>obtain⟨p,a,m⟩:=c.A g l j;grind
 |true=>have:=i g l j;exact⟨(f,h),s_,t_⟩
def Jw.len{d a}(f:Jw d a):a.length<=d.length:=by
 have h:∀(a:List (Int×Int)) (U:List Int),(a.Pairwise λb g=>b.1<g.1)->(∀b∈a,b.1∈U)->a.length<=U.length:=by
  intro a
  induction a with
  |nil=>simp
  | cons e a k=>
   intro U c g;rw[pairwise_cons] at c;have l:=g e s_
   have m:=k _ c.2 (λb i=>by
    have j:b.1≠e.1:=w_
    exact(mem_erase_of_ne j).2 (g b (by simp[i])))
   grind
 have:=h a (d.map (·.1)) f.e (λb c=>by obtain⟨g,i,e⟩:=f.sub b c;grind)
 simpa using this
def Bl(b a:Value):Prop:=b.ownBlock=none∨a.ownBlock=none∨b.ownBlock≠a.ownBlock
def Bl.s{c b}(a:Bl c b):Bl b c:=by
 rcases a with a|a|a
 exact .inr (.inl a);exact .inl a;exact .inr (.inr (Ne.s a))
def Bl.a{c b}(a:Bl c b):b.ownBlock=none∨b.ownBlock≠c.ownBlock:=by
 rcases a with a|a|a
 ·grind
 exact .inl a
 grind
def Bl.b{f g e c b k}(h:Bl e b)(i:Ad f g b k)(a:c.ownBlock=e.ownBlock∨c.ownBlock=some f.1.size):Bl c b:=by
 rcases a with a|a
 unfold Bl;rw[a];exact h
 cases d:b.ownBlock with
 |none=>exact .inr (.inl d)
 | some j=>
  have:=(B_ i j d).2;refine .inr (.inr ?_)
  grind
structure Aa(c:Nat->Prop)(a w':World):Prop where
 os:w'.os=a.os
 tape:w'.tape=a.tape
 output:w'.output=a.output
 size:a.1.size<=w'.1.size
 block:∀b,b<a.1.size->¬c b->w'.1[b]? =a.1[b]?
theorem Aa.refl b a:Aa b a a:=⟨rfl,rfl,rfl,x_,λ_ _ _=>rfl⟩
def Aa.T{c d e f}(a:Aa c d e)(b:Aa c e f):Aa c d f:=
 ⟨b.os.T a.os,b.tape.T a.tape,b.output.T a.output,aG a.size b.size,λi g h=>(b.block i (Qh g a.size) h).T (a.block i g h)⟩
def Aa.m{d S' c e}(b:Aa d c e)(i:∀a,a<c.1.size->d a->S' a):Aa S' c e:=
 ⟨b.os,b.tape,b.output,b.size,λa f h=>b.block a f (λg=>h (i a f g))⟩
def Aa.b{d c e b}(a:Aa d c e)(i:b<=c.1.size)(k:∀f,d f->b<=f):Below b c e:=
 ⟨a.os,a.tape,a.output,a.size,λg j=>a.block g O (λh=>w_)⟩
def Aa.a{S b c}(a:E_ b c):Aa S b c:=⟨a.os,a.tape,a.output,a.size,λe d _=>a.block e d⟩
def Aa.below{a b c d}(e:Aa a b c)(f:E_ c d):Aa a b d:=e.T (.a f)
def Aa.alloc{a b c}(d:Aa a b c) e:Aa a b (c.alloc e):=d.below q_
def Aa.drew{a b c}(d:Aa a b c):Aa a b c.drew:=d.below y_.drew
def Aa.setCell{S b c}(a:Aa S b c){p}(i:p.block<b.1.size->S p.block) h:Aa S b (c.setCell p h):=
 ⟨a.os,a.tape,a.output,by have:=a.size;simpa [World.setCell] using this,λg e f=>(Below.heap_setCell c p h g (λd=>f (d ▸ i (d ▸ e)))).T (a.block g e f)⟩
def Aa.e c a d e f g:Aa (λb=>b=a) c ((((c.setCell (J a 0) d).setCell (J a 1) e).setCell (J a 2) f).setCell (J a 3) g):=
 ((((Aa.refl (λb=>b=a) c).setCell (p:=(J a 0)) (λ_=>rfl) _).setCell (p:=(J a 1)) (λ_=>rfl) _).setCell (p:=(J a 2)) (λ_=>rfl) _).setCell (p:=(J a 3)) (λ_=>rfl) _
def Aa.grown{d e g h j}(b:Aa d e g)(c:g.grownBy h j)(l:∀a,j=some a->a<e.1.size->d a):Aa d e h:=
 ⟨c.os.T b.os,c.tape.T b.tape,c.output.T b.output,aG b.size c.size,λa f i=>(c.block a (Qh f b.size) (λk=>i (l a k.s f))).T (b.block a f i)⟩
def Aa.row{c d e}(p:Aa c d e){f g l b k m}(i:d.ownsRow f g l b k m)(s:∀j,b.ownBlock=some j->¬c j):e.ownsRow f g l b k m:=by
 refine⟨i.1,?_⟩
 rcases i.2 with r|⟨a,n,o,rfl,q,h,t⟩
 exact .inl r;exact .inr ⟨a,n,o,rfl,q,(p.block a (Qb h).1 (s a rfl)).T h,t⟩
def Aa.g{S b c}(f:Aa S b c){a e}(d:b.1[a]? =some e)(g:¬S a):c.1[a]? =some e:=(f.block a (Qb d).1 g).T d
def Gq(h:World)(i:Int)(g:Value):Prop:=∃d c f,g=.slice d c f/\c<=maxLen/\(c=0∨∃e a,d=some ⟨e,0,none⟩/\h.1[e]? =some (O_ a 98)/\∀b,b<c->a[b*4]? =some (I i)/\a[b*4+1]? =some (I 0)/\a[b*4+2]? =some (I 0)/\a[b*4+3]? =some (I 0))
def Lp(a:Int):Cm:=⟨a,0,0,0⟩
def Xb d:∀c b,b<c->∀a,a<4->(flat (replicate c (Lp d)))[b*4+a]? =(En (Lp d))[a]?
 |0,b,f=>O
 |c+1,0,_=>λa e=>by grind [flat,En]
 |c+1,b+1,f=>λa e=>by simp only[replicate_succ,flat];rw[getElem?_append_right (by simp[En];omega),show(b+1)*4+a-(En (Lp d)).length=b*4+a by simp[En];omega];exact Xb d c b O a e
def qc a c b:flat (replicate c (Lp a))++flat (replicate b (Lp a))=flat (replicate (c+b) (Lp a)):=by rw[<- Cq,replicate_append_replicate]
theorem Gq.of_row{l m f g n b h i d}(r:Am l m (L_ f b n) (replicate b (Lp d)))(w:b<=maxLen)(x:g<=b)(o:h=some ⟨f,0,none⟩):Gq l d (V h g i):=by
 subst o
 rcases r.2 with⟨e,_⟩|⟨u,t,j,e,_,p,_,_,_,s⟩
 ·cases e
 injection e with e1 e2 e3;injection e1 with e1;injection e1 with e1;subst e1;refine⟨_,g,i,rfl,O,.inr ⟨f,j,rfl,p,λk v=>?_⟩⟩
 have c:∀a,a<4->j[k*4+a]? =(En (Lp d))[a]?:=λa q=>by rw[<- Xb d b k O a q,<- s,getElem?_take,aD t_];simp
 exact⟨c 0 O,c 1 O,c 2 O,c 3 O⟩
def Gq.nil c d a b:Gq c d (V a 0 b):=⟨a,0,b,rfl,by simp[maxLen],.inl rfl⟩
def Gq.q{d f c b e}(a:Am d f c (replicate b (Lp e)))(l:b<=maxLen):Gq d e c:=by
 have m:=a
 rcases a.2 with⟨rfl,_⟩|⟨j,g,h,i,_,k,_,_,_,n⟩
 exact .nil _ _ _ _
 grind [of_row]
def Gq.p{S d w' j c}(l:Gq d j c)(p:Aa S d w')(o:∀b a,c.ownBlock=some b->d.1[b]? =some (O_ a 98)->¬S b):Gq w' j c:=by obtain⟨k,i,e,rfl,h,n|⟨f,a,rfl,g,m⟩⟩:=l;exact⟨k,i,e,rfl,h,.inl n⟩;exact⟨_,i,e,rfl,h,.inr ⟨f,a,rfl,p.g g (o f _ rfl g),m⟩⟩
def Gq.below{b c d a}(e:Gq b d a)(f:E_ b c):Gq c d a:=e.p (S:=λ_=>False) (.a f) (λ_ _ _ _=>id)
def Zdg:Value->Nat
 |.slice _ a _=>a
 |_=>0
def Gq.append{d e i}{h q c:Value}{s b f}(m:Gq d i h)(z:d.grownBy e q.ownBlock)(g:c.ownBlock=q.ownBlock∨c.ownBlock=some f/\Below f d e)(v:d.1.size=f)(E:Am e s c (replicate b (Lp i)))(B:b<=maxLen)(y:∃a k,c=L_ a b k)(A:Zdg h<=b):Gq e i h:=by
 subst v
 rcases g with g|⟨_,w⟩
 ·obtain⟨r,p,j,rfl,o,D|⟨a,t,rfl,n,x⟩⟩:=m;exact⟨r,p,j,rfl,o,.inl D⟩;obtain⟨u,k,rfl⟩:=y
  by_cases l:a=u
  subst l;exact .of_row E B (by simpa [Zdg] using A) rfl;refine⟨_,p,j,rfl,o,.inr ⟨a,t,rfl,?_,x⟩⟩;rw[z.block a (Qb n).1 (by rw[<- g];simpa [ownBlock] using l)];exact n
 exact m.below w
def Rg{P} c o i r e f s h B (y:P.underlying i=some (.slice e))(u:P.info? e=some f)(E:f.zero=some s)(N:f.size=h)(G:f.bytes=B)(a3:s.cells.size=h)(a2:0<h) n d A (w:c.ownsRow o e h n d A) l b p m (q:m.length=b*h)(v:∀Q z,m[Q]? =some z->c.cell? (l.add Q)=some z)(F:∀z∈m,z.oneCell'=true)(L:0<b)(D:d+b<=maxLen)(H:(d+b)*B<=140737488355328)(X:o<=c.1.size):∃j k,(Builtin.append_ #[i,i] r #[n,.slice (some l) b p]).run P c=.ok j k/\k.ownsRow o e h j (d+b) (A++m)/\c.grownBy k n.ownBlock/\(j.ownBlock=n.ownBlock∨j.ownBlock=some c.1.size/\Below c.1.size c k)/\k.ownsRow o e h n d A/\∃g t,j=L_ g (d+b) t:=by
 have⟨j,k,x,S,T,a4,U,W⟩:=fi (P:=P) c o i r e f s h B y u E N G a3 a2 n d A w l b p m q v F L D H X;refine⟨j,k,x,S,T,?_,U,W⟩;subst N G
 rcases w.2 with⟨rfl,rfl⟩|⟨g,t,R,rfl,a5,a1,a7,a6,Z,a8⟩
 have a:=run_append_nil (P:=P) c i r e f s y u E l b p _ q v L (by simp only[maxLen] at D;omega) w_;rw[x] at a;simp only[Result.ok.injEq] at a;right;refine⟨by rw[a.1];rfl,?_⟩;rw[a.2];exact(y_.drew).alloc s_ _
 by_cases M:d+b<=t
 have a0:d*f.size+m.length<=R.size:=(by rw[q,Z,<- Nat.add_mul];exact aK _ M);have a:=run_append_room (P:=P) c i r e f y u g d _ _ a1 l b p _ q v F M a0;rw[x] at a;simp only[Result.ok.injEq] at a;left;rw[a.1];rfl;have a0:=w.cells (g:=g) rfl;have a:=run_append_grow (P:=P) c i r e f s y u E _ d t _ w.1 a0 l b p _ q v O (by simp only[maxLen] at D;omega) (growslice_fits O H);rw[x] at a;simp only[Result.ok.injEq] at a;right;refine⟨by rw[a.1];rfl,?_⟩;rw[a.2];exact(y_.drew).alloc s_ _
def Dh{i a y z m n u}(P:m.guard=none) A x o (U:m.op=.call {callee:=.builtin .append,args:=#[A,x],argTypes:=#[o,o]}) j e (k:TypeInfo) t c s (a2:i.underlying o=some (.slice e))(Q:i.info? e=some k)(a4:k.zero=some t)(a0:k.size=c)(M:k.bytes=s)(a5:t.cells.size=c)(a1:0<c) f d q (Z:n.eval A=f)(W:a.ownsRow j e c f d q) r b v (l:List Value)(a3:n.eval x=.slice (some r) b v)(R:l.length=b*c)(T:∀w p,l[w]? =some p->a.cell? (r.add w)=some p)(F:∀p∈l,p.oneCell'=true)(S:0<b)(H:d+b<=maxLen)(N:(d+b)*s<=140737488355328)(L:j<=a.1.size)(E:∀g h,K (h.ownsRow j e c g (d+b) (q++l)/\a.grownBy h f.ownBlock/\(g.ownBlock=f.ownBlock∨g.ownBlock=some a.1.size/\Below a.1.size a h)/\h.ownsRow j e c f d q/\∃D B,g=L_ D (d+b) B)->wpList i y u z (n.put m.dst g) h):wpList i y u (m::z) n a:=by
 refine wpList_plain P λK hK=>?_;have⟨g,h,X,G⟩:=Rg (P:=i) a j o m.type e k t c s a2 Q a4 a0 M a5 a1 f d q W r b v l R T F S H N L;unfold Oper.wp;simp only[execOp,U,resolve,invoke,builtin,Sem.run_bind,Sem.run_pure,Result.andThen_ok,map_toArray,map_cons,map_nil,Z,a3,X];exact hK _ _ (E _ _ G)
def Ao{e:World}{f g b c m n k l:Nat}{d a o p}(j:e.ownsRow f b m d k o)(i:e.ownsRow g c n a l p)(y:b≠c):a.ownBlock=none∨a.ownBlock≠d.ownBlock:=by
 rcases i.2 with⟨rfl,_⟩|⟨u,q,s,rfl,_,w,_⟩
 exact .inl rfl
 rcases j.2 with⟨rfl,_⟩|⟨v,r,t,rfl,_,x,_⟩
 exact .inr (by simp[ownBlock]);refine .inr λh=>?_;simp[ownBlock] at h
 grind
theorem Ac{d:World}{e a i h:Nat}{c j}(g:d.ownsRow e a i c h j){k}(b:c.ownBlock=some k):∃f,d.1[k]? =some (O_ f a):=by
 rcases g.2 with⟨rfl,_⟩|⟨n,l,m,rfl,_,o,_⟩
 ·cases b
 simp[ownBlock] at b;grind
def WB(c:World)(b:Nat)(a:Array Value):Prop:=c.1[b]? =some (O_ a 90)
def WB.lt{b a c}(d:WB b a c):a<b.1.size:=(Qb d).1
def WB.cell{w b a}(d:WB w b a) c:w.cell? (J b c)=a[c]?:=cell_of_row w b c a 90 (0,0) d
def WB.frozen{b a c}(e:WB b a c) d:b.frozen? (J a d)=false:=fr_ b a d c 90 e
def WB.set{e a b}(f:WB e a b) c d:WB (e.setCell (J a c) d) a (b.setIfInBounds c d):=by have:=hs_ e a c b 90 d f;unfold WB;rw[this]
def WB.below{b d e a c}(f:WB d a c)(g:Below b d e)(h:a<b):WB e a c:=(g.block a h).T f
def WB.grown{w e a b d}(c:WB w a b)(f:w.grownBy e d)(g:some a≠d):WB e a b:=(f.block a c.lt g).T c
def WB.alloc{w a b}(c:WB w a b) d:WB (w.alloc d) a b:=(hb_ w d a c.lt).T c
def WB.h{b a c}(e:WB b a c){p}(f:a≠p.block) d:WB (b.setCell p d) a c:=(Below.heap_setCell b p d a f).T e
def mk_(i:Nat){g d e a k:Nat}{l:Array Value}{j f:Int}{c:World}(w:f<=100000000000:=by omega)(m:j=e:=by omega)(n:f=a:=by omega)(x:e<=a:=by omega)(r:k=a*i:=by omega)
  (s:prog.underlying g=some (.slice d):=by kernel_rfl) (p:(prog.info? d).map (λb=>(b.zero.map Value.cells,b.size,decide (b.bytes<=1000)))=some (some l,i,true):=by kernel_rfl):
  (Instr.makeSlice g (.int .i64 j) (.int .i64 f)).run prog c=.ok (L_ c.1.size e a) (c.alloc (.cells (madeCells l k) d)):=by
 have⟨b,q,h⟩:=Option.map_eq_some_iff.1 p;simp only[Prod.mk.injEq,decide_eq_true_eq,Option.map_eq_some_iff] at h;obtain⟨⟨u,t,rfl⟩,rfl,v⟩:=h;subst m n r;have o:(b.bytes:Int)*a<=1000*a:=Int.mul_le_mul_of_nonneg_right O O;have:=run_make (P:=prog) c g d b u s q t .i64 .i64 (e:Int) (a:Int) O O (Int.le_trans o O) O;rw[this];rfl
def Ad.alloc{w a c d}(e:Ad w a c d) b:Ad (w.alloc b) a c d:=ra_ e b
def Bx{a p q f e l}(w:f.guard=none) i x (z:f.op=.call {callee:=.builtin .append,args:=#[i,x],argTypes:=#[25,25]}) g b k j (B:e.eval i=b)(A:Ad a g b k) n m (D:e.eval x=L_ n 1 m)(v:D_ a n 0 (I j))(L:k.length<=1000000000)(u:g<=a.1.size)(r:∀c d,K (Ad d g c (k++[j])/\a.grownBy d b.ownBlock/\(c.ownBlock=b.ownBlock∨c.ownBlock=some a.1.size/\E_ a d))->wpList prog p l q (e.put f.dst c) d):wpList prog p l (f::q) e a:=by
 obtain⟨H,y,E,F,G⟩:=info_parts Zjb;refine Dh w i x 25 z _ 3 H _ 1 8 underlying25 y E F G rfl C b _ _ B A _ 1 m [I j] D rfl ?_ ?_ C m_ O u ?_
 ·intro o s h
  cases o with
  |zero=>simp at h;subst h;simpa [Addr.add] using v
  |succ o=>simp at h
 intro s h;simp at h;subst h;rfl;intro c d h;obtain⟨o,s,t,_,_⟩:=h;exact r _ _ ⟨Ad.E o,s,t⟩
def By(a c b:Int):Int:=a*b/c
def Fo(b a:Int):Int->List Cm->List Int
 |_,[]=>[]
 |e,c::d=>if e<=By a b c.g then c.v::Fo b a (By a b c.g+1) d else Fo b a e d
def Bm(a:List Cm)(b:Int):List Int:=
 if a.length=0 then[] else if a.length<=b then(a.take (a.length-1)).map (λc=>c.v) else Fo (Ae a) b 1 (a.take (a.length-1))
def ZfY{a:List Cm}{b c}(d:b<c)(e:c<=a.length):(a.take c).drop b=a.getD b e0::(a.take c).drop (b+1):=by grind [drop_eq_getElem_cons]
def tn{b a c}(g:0<=b)(h:b<=16)(d:0<=c)(i:c<=a)(j:1<=a):0<=By b a c/\By b a c<=16:=by
 unfold By;have e:=Int.mul_nonneg g d;have f:=Int.mul_le_mul h i d O;constructor;exact Int.ediv_nonneg e O;have:=Int.ediv_le_ediv (show 0<a by omega) f
 rwa [Int.mul_ediv_cancel _ O] at this
def Yg b a c i (g:0<=c)(h:c<=16)(d:0<=b)(k:b<=a)(l:1<=a)(q:a<=1000000000000):C_ 317 #[I b,I a,I c] i (V_ (.int .i64 (By c a b)) i):=by
 have j:=Int.mul_nonneg g d;have n:_*b<=_*1000000000000:=Int.mul_le_mul h O d O;have f:=tn g h d k l;have m:a≠0:=O;have r:=aO m
 have e:K (By _ a _=(_*b).tdiv _):=show _=_ by unfold By;rw[Int.tdiv_eq_ediv_of_nonneg j]
 unfold Hid at e;rw[e] at f ⊢;obtain⟨o,p⟩:=f;refine dl_ ?_;go_enter func317,ntmps317;go_wp2;go_ret;exact⟨rfl,rfl⟩
def ZcB g h b o i e (w:Le e g h b)(z:b.length<=o)(x:b.length≠0)(A:b.length<=4194304)(p:(b.length:Int)<=i):C_ 273 #[V (some (J g h)) b.length o,I i] e λc d=>∃a,c=.returned a/\Ad d e.1.size a (Bm b i)/\E_ e d:=by
 have s:K (Bm b _=_):=show _=_ by unfold Bm;rw[aC x,aD p]
 have t:=Y w;obtain⟨d,r⟩:∃d,b.length=d+1:=⟨b.length-1,O⟩;have n:=Y r;rw[r] at z A p ⊢;have S:(((d:Int)+1)==0)=_:=aO O;have Q:d+1<=i:=O;refine v_ ?_;go_wp2_with fail
 go_loopw [28,6] (λk j f=>∃a:Nat,k=I a/\a<=d/\K (Ad f e.1.size j ((b.take a).map (λc=>c.v)))/\E_ e f) (m4_ d)
 exact⟨0,rfl,r_,Ad.nil _ _,y_⟩;obtain⟨a,rfl,q,l,f⟩:=hrel
 by_cases R:a<d
 ·have k:=t.out;have j:a<b.length:=p_ n
  obtain⟨H,L,M,N⟩:D_ wr g (h+a*4) (I (b.getD a e0).v)/\D_ wr g (h+a*4+1) (I (b.getD a e0).y)/\D_ wr g (h+a*4+2) (I (b.getD a e0).g)/\D_ wr g (h+a*4+3) (I (b.getD a e0).h):=
   ⟨W_ f (k.v a j),W_ f (k.y a j),W_ f (k.g a j),W_ f (k.h a j)⟩
  have v:K ((b.take _).map (λc=>c.v)=(b.take a).map (λc=>c.v)++[(b.getD a e0).v]):=show _=_ by rw[Qr b j];simp
  have u:K (((b.take a).map (λc=>c.v)).length=a):=w_;generalize (b.take a).map (λc=>c.v)=E,b.getD a e0=G at *;have P:=F_ a d;have D:=f.size;have B:E.length<=1000000000:=(by rw[u];omega);go_wp2_with (at_builtin;refine Bx rfl (.tmp 32) _ rfl _ _ _ G.v rfl ((l.alloc _).alloc _) _ 1 rfl ?_ B ?_ ?_)
  ·simp[go_sem]
  simp;omega;intro W F m;have y:E_ e F:=(by obtain⟨T,c,U⟩:=m.out;exact f.T (((y_.alloc D _).alloc t_ _).grown c t_ (λa q=>(l.lt a q).1)));have c:=Y m.1;refine J_ ?_;exact⟨a+1,g_,O,v ▸ c,y⟩
 have j:¬a<(d:Int):=O
 have c:K (Ad wr e.1.size u6 (Bm b i)):=show Ad _ _ _ _ by rw[s,n];have:a=d:=O;subst this;exact l
 go_wp2;go_ret;exact⟨_,rfl,c,f⟩
def zs n o b F d h (w:Le h n o b)(q:Be b)(Z:b.length<=F)(a1:b.length<=4194304)(b2:2<=d)(G:d<=16)(M:d<(b.length:Int)):C_ 273 #[V (some (J n o)) b.length F,I d] h λv c=>∃a,v=.returned a/\Ad c h.1.size a (Bm b d)/\E_ h c:=by
 have x:b.length≠0:=O;have T:=Y w;have U:=Y q;obtain⟨c,s⟩:∃c,b.length=c+1:=⟨b.length-1,O⟩;have B:=Y s
 have S:K (Bm b d=Fo _ _ 1 (b.take c)):=show _=_ by unfold Bm;rw[aC x,aC O,s];rfl
 have y:Ae b=(b.getD c e0).g:=(by unfold Ae;rw[aC x,s];rfl);have E:=w.g c O;rw[<- y] at E;have Q:1<=Ae b:=(by have:=q.at (show c<b.length by omega);rw[y];omega);have a4:=(Ec q).2;have W:K (∀a,a<_->_):=λa t=>Nd q t;rw[s] at Z a1 M ⊢;have b4:(((c:Int)+1)==0)=_:=aO O;have b3:¬c+1<=d:=O;clear w q x s M y;generalize Ae b=R at *;refine v_ ?_;go_wp2_with fail
 go_loopw [48,6,10] (λe g i f=>∃(a:Nat) (k:Int) (j:List Int),e=I a/\i=I k/\1<=k/\k<=17/\a<=c/\j.length<=a/\K (Ad f h.1.size g j)/\K (j++Fo R d k ((b.take c).drop a)=Bm b d)/\E_ h f) (λe _ _ _=>c-(intOf e).toNat)
 exact⟨0,1,[],rfl,rfl,C,C,r_,x_,Ad.nil _ _,by show _=_;rw[S];rfl,y_⟩;clear E;obtain⟨a,k,j,rfl,rfl,b6,b7,t,b5,p,e,f⟩:=hrel
 by_cases a0:a<c
 ·have r:=T.out;have i:a<b.length:=by rw[B];omega
  obtain⟨a7,a8,a9,b0⟩:D_ wr n (o+a*4) (I (b.getD a e0).v)/\D_ wr n (o+a*4+1) (I (b.getD a e0).y)/\D_ wr n (o+a*4+2) (I (b.getD a e0).g)/\D_ wr n (o+a*4+3) (I (b.getD a e0).h):=
   ⟨W_ f (r.v a i),W_ f (r.y a i),W_ f (r.g a i),W_ f (r.h a i)⟩
  have z:0<=(b.getD a e0).g:=p_ (U.at i);have A:=W a i;have L:=ZfY a0 (by rw[B];omega);have g:=e.out;rw[L] at g;clear L e;generalize b.getD a e0=l at *;have a3:=tn (show 0<=d by omega) G z A Q;obtain⟨c0,c1⟩:=a3;have b1:=F_ a c;have N:=f.size;have a2:j.length<=1000000000:=O;simp only[Fo] at g;have D:=Y (λm=>Yg _ _ _ m O G z A Q a4);generalize By d R l.g=P at *;clear r i z A
  by_cases H:k<=P
  ·rw[aD H] at g;have e:=Y g;clear g;go_wp2_with fail
   apply (D _).m;rintro v a5 ⟨rfl,rfl⟩;go_wp2_with (at_builtin;refine Bx rfl (.tmp 60) _ rfl _ _ _ l.v rfl ((p.alloc _).alloc _) _ 1 rfl ?_ a2 ?_ ?_)
   ·simp[go_sem]
   simp;omega;intro c2 a6 u;have X:E_ h a6:=(by obtain⟨b8,m,b9⟩:=u.out;exact f.T (((y_.alloc N _).alloc t_ _).grown m t_ (λa t=>(p.lt a t).1)));have m:=Y u.1;clear u;go_wp2;go_roundw;exact⟨a+1,P+1,j++[l.v],g_,g_,O,O,O,t_,m,by show _=_;rw[append_assoc];exact e,X⟩;exact z_
  rw[aC H] at g;have e:=Y g;clear g;go_wp2_with fail
  apply (D _).m;rintro v a5 ⟨rfl,rfl⟩;have m:=p.alloc (O_ #[I l.v,I l.y,I l.g,I l.h] 98);have u:=Y m;clear m;go_wp2;go_roundw;exact⟨a+1,k,j,g_,rfl,O,O,O,O,u,e,f.T (y_.alloc N _)⟩;exact z_
 have g:¬a<(c:Int):=O
 have m:K (Ad wr h.1.size u6 (Bm b d)):=show Ad _ _ _ _ by have:=e.out;rw[drop_eq_nil_of_le t_] at this;simp only[Fo,append_nil] at this;rw[<- this];exact p
 clear p e;go_wp2;go_ret;exact⟨_,rfl,m,f⟩
def ZcA f a h b d (m:Ee d f a)(l:Be a)(j:a.length<=h)(n:2<=b)(o:b<=16):C_ 273 #[V f a.length h,I b] d λg e=>∃c,g=.returned c/\Ad e d.1.size c (Bm a b)/\E_ d e:=by
 obtain⟨k,c|⟨g,p,rfl,i⟩⟩:=m;have e:Bm a b=[]:=(by unfold Bm;rw[aD c]);rw[e,c];refine er_ ?_;exact⟨_,rfl,Ad.nil _ _,y_⟩
 by_cases c:a.length=0
 have e:Bm a b=[]:=(by unfold Bm;rw[aD c]);rw[e,c];refine er_ ?_;exact⟨_,rfl,Ad.nil _ _,y_⟩
 by_cases e:(a.length:Int)<=b
 exact ZcB g _ a _ _ d i j c k e;exact zs g _ a _ _ d i l j k n o O
end Go.Proofs.YtfcgnpchbcmdeaaGreat
namespace Go.Proofs.YtfcgnpchbcmdeaaGreat
open List Nat World Go.Proofs.Tryz Value IntKind Lib Region
set_option linter.all false
set_option maxRecDepth 100000
set_option maxHeartbeats 4000000
def Zgp:List (Int×Int)->Int->Int
  |[],_=>0
  |a::c,b=>(if a.1<b then a.2 else 0)+Zgp c b
structure gf(b)(c:List Cm):Prop where
 j:∀a∈c,a.y<=Zgp b a.v/\Zgp b a.v+Ph b a.v<=a.g/\a.h<=Ph b a.v
 g:∀d∈b,∃a∈c,a.v<=d.1
 h:∀d∈b,∃a∈c,d.1<=a.v
 e:Ae c=Bv b
theorem Tt d e:∀i b c,d.length-b+(e.length-c)<=i->(∀a,b<=a->a<d.length->∃f∈Dy d e i b c,f.v=(d.getD a e0).v)/\(∀a,c<=a->a<e.length->∃f∈Dy d e i b c,f.v=(e.getD a e0).v)
 |0,b,c,j=>⟨λa g h=>O,λa g h=>O⟩
 | i + 1,b,c,j=>by
  simp only[Dy];split
  ·rename_i m;have⟨k,l⟩:=Tt d e i (b+1) c O;refine⟨λa g h=>?_,λa g h=>?_⟩
   ·by_cases f:a=b
    subst f;exact⟨_,mem_cons_self,rfl⟩
    grind
   grind
  rename_i m;split
  ·rename_i n;have⟨k,l⟩:=Tt d e i b (c+1) O;refine⟨λa g h=>?_,λa g h=>?_⟩
   ·grind
   by_cases f:a=c
   subst f;exact⟨_,mem_cons_self,rfl⟩
   grind
  rename_i n;split
  ·rename_i p
   have o:(d.getD b e0).v=(e.getD c e0).v:=by
    rcases Int.lt_trichotomy (d.getD b e0).v (e.getD c e0).v with j|j|j
    omega;exact j;omega
   have⟨k,l⟩:=Tt d e i (b+1) (c+1) O;refine⟨λa g h=>?_,λa g h=>?_⟩
   ·by_cases f:a=b
    subst f;exact⟨_,mem_cons_self,rfl⟩
    grind
   by_cases f:a=c
   subst f;exact⟨_,mem_cons_self,o⟩
   grind
  grind
theorem oq c b a:Ae (c::b::a)=Ae (b::a):=by unfold Ae;simp[getD]
theorem tu a:Ae [a]=a.g:=by simp[Ae]
theorem dj a b:∀c f g,f<=a.length->g<=b.length->a.length-f+(b.length-g)<=c->(f<a.length∨g<b.length)->Ae (Dy a b c f g)=Ae a+Ae b
 |0,f,g,_,_,k,l=>O
 | c + 1,f,g,s,t,k,l=>by
  have v:∀h d e,d<=a.length->e<=b.length->a.length-d+(b.length-e)<=c->(d=a.length->e=b.length->h.g=Ae a+Ae b)->Ae (h::Dy a b c d e)=Ae a+Ae b:=λh d e n o p u=>by
   by_cases j:d<a.length∨e<b.length
   ·have i:=dj a b c _ _ n o p j
    cases m:Dy a b c d e with
    | nil=>
     grind [Tt]
    | cons r q=>
     rw[m] at i;rw[oq];exact i
   have i:Dy a b c d e=[]:=by
    cases c with
    |zero=>rfl
    | succ c=>
     grind [Dy]
   grind [tu]
  simp only[Dy];split
  ·grind [Ae,seen,Du]
  rename_i i;split
  ·grind [Ae,seen,Du]
  grind [Ae,Oi]
def Zjt{b:List Cm}{c}(d:c∈b):∃a,a<b.length/\b.getD a e0=c:=by obtain⟨a,e,rfl⟩:=aM d;exact⟨a,e,w_⟩
def ZbY{d}(g:d.Pairwise λa b=>a.1<b.1) b h:Rn (b::h) d=Rn h d+(if ∃a∈d,a.1=b.1 then b.2 else 0):=by
 induction d with
 |nil=>simp[Rn]
 | cons a e m=>
  rw[pairwise_cons] at g;have:=m g.2;simp only[Rn,Ph];rw[this]
  by_cases f:b.1=a.1
  ·rw[aD f];have j:∃c∈a::e,_=_:=⟨a,s_,f.s⟩
   grind
  rw[aC f]
  by_cases i:∃c∈e,c.1=b.1
  ·have j:∃c∈a::e,c.1=b.1:=by obtain⟨c,l,k⟩:=i;exact⟨c,by simp[l],k⟩
   grind
  grind
def Zfx{c:List (Int×Int)}(f:c.Pairwise λa b=>a.1<b.1) x:∀d:List (Int×Int),(∀b∈d,∃a∈c,a.1=b.1)->Rn d (c.filter λa=>decide (a.1<x))=Zgp d x
 |[],_=>by simp[Zgp,oo]
 | b ::h,e=>by
  rw[ZbY (f.sublist filter_sublist),Zfx f x h (λi g=>e i (by simp[g]))];simp only[Zgp]
  by_cases g:b.1<x
  ·rw[aD g,aD ?_];omega;have⟨a,j,i⟩:=e b s_
   grind
  grind
def Zfw{b:List (Int×Int)}(f:b.Pairwise λc a=>c.1<a.1):∀d:List (Int×Int),(∀a∈d,∃c∈b,c.1=a.1)->Rn d b=Bv d
 |[],_=>by simp[Bv,oo]
 |a::h,e=>by rw[ZbY f,Zfw f h (λi g=>e i (by simp[g])),aD (e a s_)];simp only[Bv];omega
def Zbw{x:Int}:∀g i,g.Pairwise (λd b=>d.1<b.1)->∀a∈Bo i g,a.y=i+Bv (g.filter λd=>decide (d.1<a.v))
 |[],_,_=>by simp[Bo]
 | d ::j,i,h=>by
  rw[pairwise_cons] at h;intro a c;simp only[Bo] at c
  rcases mem_cons.1 c with rfl|c
  ·have:(d::j).filter (λb=>decide (b.1<d.1))=[]:=by
    rw[filter_eq_nil_iff];intro b f
    rcases mem_cons.1 f with rfl|f
    simp
    grind
   grind [Bv]
  have m:=Zbw (x:=x) j _ h.2 a c
  have n:d.1<a.v:=by
   have:∀(e:List (Int×Int)) (k:Int) (a:Cm),a∈Bo k e->∃b∈e,b.1=a.v:=by
    intro e
    induction e with
    |nil=>intro k a c;simp[Bo] at c
    | cons b e f=>
     grind [Bo]
   have⟨b,f,l⟩:=this j _ a c;have:=h.1 b f;omega
  grind [Bv]
def Tx:∀(b:List (Int×Int)) (c:Int),(∀a∈Bo c b,∃d∈b,d.1=a.v/\d.2=a.h/\a.g=a.y+a.h)/\(∀d∈b,∃a∈Bo c b,a.v=d.1)/\(b≠[]->Ae (Bo c b)=c+Bv b)
  |[],c=>by simp[Bo]
  | d ::e,c=>by
    have⟨g,h,i⟩:=Tx e (c+d.2);refine⟨λa j=>?_,λf k=>?_,λ_=>?_⟩
    · grind [Bo]
    · simp only[Bo]
      grind [mem_cons_self]
    cases e with
    |nil=>simp[Bo,tu,Bv]
    | cons f e=>
      grind [Bo,oq,Bv]
def gf.a{f e}(a:Ef f e):gf f (Bo 0 e):=by
 have⟨n,s,o⟩:=Tx e 0;have k:∀i:_,(∀c∈i,_)->_:=λi m=>Ym (λc b=>a.h c (m c b));refine⟨λd j=>?_,λg h=>?_,λg h=>?_,?_⟩
 ·have⟨c,b,q,r,p⟩:=n d j;have l:=Zbw (x:=0) e 0 a.e d j;rw[k _ (λc b=>(mem_filter.1 b).1),Zfx a.e d.v f a.all] at l;have:=a.h c b
  grind
 ·have⟨c,b,d⟩:=a.all g h
  grind
 ·have⟨c,b,d⟩:=a.all g h
  grind
 by_cases d:e=[]
 ·subst d
  have:f=[]:=by
   cases f with
   |nil=>rfl
   |cons g l=>obtain⟨c,b,_⟩:=a.all g s_;cases b
  subst this;rfl
 rw[o d,k e (λ_ b=>b),Zfw a.e f a.all];omega
def ke(a:Int×Int):List (Int×Int)->List (Int×Int)
 |[]=>[a]
 |b::c=>if a.1<b.1 then a::b::c else if a.1=b.1 then(b.1,b.2+a.2)::c else b::ke a c
def ec:List (Int×Int)->List (Int×Int)
  |[]=>[]
  |a::b=>ke a (ec b)
def Zs c:∀d a,(∃b∈ke c d,b.1=a)↔(c.1=a∨∃b∈d,b.1=a)
 |[],a=>by simp[ke]
 | b::f,a=>by
  simp only[ke];split;simp;split;rename_i e;simp[e];have e:=Zs c f a
  grind
def sk a:∀d,d.Pairwise (λa b=>a.1<b.1)->(ke a d).Pairwise λa b=>a.1<b.1
 |[],_=>by simp[ke]
 | b::e,c=>by
  rw[pairwise_cons] at c;simp only[ke];split
  ·grind [pairwise_cons]
  split;rw[pairwise_cons];exact c;rename_i i j;rw[pairwise_cons];refine⟨λf h=>?_,sk a e c.2⟩
  rcases(Zs a e f.1).1 ⟨f,h,rfl⟩ with g|⟨l,k,g⟩
  omega
  grind
def ZeZ b:∀d,d.Pairwise (λb a=>b.1<a.1)->∀a∈ke b d,(a.1≠b.1->a∈d)/\(a.1=b.1->(∃c,(a.1,c)∈d/\a.2=c+b.2)∨(a.2=b.2/\∀c∈d,c.1≠a.1))
 |[],_,a,c=>by grind [ke]
 | k::f,e,a,c=>by
  rw[pairwise_cons] at e;simp only[ke] at c;split at c
  ·grind
  split at c
  ·grind
  rename_i g h
  rcases mem_cons.1 c with rfl|c
  ·grind
  obtain⟨i,j⟩:=ZeZ b f e.2 a c
  grind
def Ta:∀n:List (Int×Int),Ef n (ec n)
  |[]=>Ef.nil
  | i ::j=>by
    have d:=Ta j;have l:=Zs i (ec j);refine⟨sk i _ d.e,λa c=>?_,λa c=>?_,λa c=>?_⟩
    · rcases(l a.1).1 ⟨a,c,rfl⟩ with b|⟨f,e,b⟩
      · grind
      obtain⟨q,m,g⟩:=d.sub f e
      grind
    · rcases mem_cons.1 c with rfl|c
      obtain⟨k,h,b⟩:=(l a.1).2 (.inl rfl);exact⟨k,h,b⟩;obtain⟨f,e,b⟩:=d.all a c;obtain⟨k,h,g⟩:=(l a.1).2 (.inr ⟨f,e,b⟩);exact⟨k,h,g⟩
    obtain⟨o,p⟩:=ZeZ i (ec j) d.e a c;simp only[Ph]
    by_cases b:a.1=i.1
    · rw[aD b.s]
      rcases p b with⟨q,m,g⟩|⟨g,t⟩
      · have:=d.h _ m
        grind
      have:Ph j a.1=0:=ot (λf e s=>by
        obtain⟨k,h,r⟩:=d.all f e
        grind)
      omega
    rw[aC (λe=>b e.s),d.h a (o b)];omega
def ZbS{a b}(c:Ef a b):ec a=b:=(Ta a).a c
def Kh(a b:List Int):List Cm:=Bo 0 (ec (Ap a b))
def Fa a b:Ae (Bf a b)=Ae a+Ae b:=by grind [dj,Bf,Me,Ae]
def Gg{a} b:Ae (Eo a b)=Ae a:=by grind [Eo,Ae]
theorem sp{L} b:∀a,(Fb L b a).length<=a+1
 |0=>by simp[Fb]
 | a+1=>by
  have:=sp (L:=L) b a
  grind [Fb]
def Ja a {size}(b:2<=size):(Eo a size).length<=size:=by grind [Eo,sp]
def Au(d:Int):List (List Cm)->List Cm->List (List Cm)
 |[],a=>[a]
 |b::c,a=>if b.length=0 then a::c else[]::Au d c (Eo (Bf b a) d)
def Av:List (List Cm)->Int
  |[]=>0
  |a::b=>Ae a+Av b
structure Gk(b:List (List Cm)):Prop where
 j:∀a∈b,Be a
 len:∀a∈b,a.length<=32
def Fv:∀{Ls:List (List Cm)},(∀a∈Ls,Be a)->0<=Av Ls
  |[],_=>by simp[Av]
  |a::d,b=>by have:=(Ec (b a s_)).1;have:=Fv (Ls:=d) (λa c=>b a (by simp[c]));simp only[Av];omega
def Gk.nil:Gk []:=⟨s_,s_⟩
def Uc{size}(k:2<=size)(p:size<=32):∀{d b},Gk d->Be b->b.length<=32->Av d+Ae b<=1000000000000->Gk (Au size d b)/\Av (Au size d b)=Av d+Ae b
 |[],b,f,e,i,l=>by refine⟨⟨?_,?_⟩,?_⟩;simp[Au,e];simp[Au,i];simp[Au,Av]
 | h ::q,b,f,e,i,l=>by
  have o:=f.j h s_;have g:Gk q:=⟨λc a=>f.j c (by simp[a]),λc a=>f.len c (by simp[a])⟩;have t:=Fv g.j;have u:=(Ec e).1;simp only[Av] at l;simp only[Au];split
  ·rename_i j;refine⟨⟨λc a=>?_,λc a=>?_⟩,?_⟩
   ·rcases mem_cons.1 a with rfl|a
    exact e;exact g.j c a
   ·rcases mem_cons.1 a with rfl|a
    exact i;exact g.len c a
   grind [Ae,Av]
  have j:=Hb o e O;have n:=j.sub (Hz j size);have v:Ae (Eo (Bf h b) size)=Ae h+Ae b:=(by rw[Gg,Fa]);have s:=Ja (Bf h b) k;obtain⟨m,r⟩:=Uc k p g n O O;refine⟨⟨λc a=>?_,λc a=>?_⟩,?_⟩
  ·rcases mem_cons.1 a with rfl|a
   exact Be.nil;exact m.j c a
  ·rcases mem_cons.1 a with rfl|a
   simp;exact m.len c a
  grind [Ae,Av]
def nv b:∀c a,(Au b c a).length<=c.length+1
 |[],a=>by simp[Au]
 | d::e,a=>by
  have:=nv b e (Eo (Bf d a) b)
  grind [Au]
def Dr(a:Nat):Nat->List (List Cm)->List Int->List Int->List (List Cm)
 |0,b,_,_=>b
 |e+1,b,c,d=>if c.length=0 then b else Dr a e (Au a b (Kh (c.take a) (d.take a))) (c.drop a) (d.drop a)
def Fq(b:Int):List Cm->List (List Cm)->List Cm
 |a,[]=>a
 |a,c::d=>Fq b (Eo (Bf a c) b) d
def Ds(a:Nat)(b c:List Int):List Cm:=Fq a [] (Dr a b.length [] b c)
end Go.Proofs.YtfcgnpchbcmdeaaGreat
