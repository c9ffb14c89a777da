import Derived.Test.YtfcgnpchbcmdeaaGreatZobd
namespace Go.Proofs.YtfcgnpchbcmdeaaGreat
set_option linter.all false
set_option maxRecDepth 100000
set_option maxHeartbeats 32000000
open Go.RowKit List Nat World Go.Proofs.Tryz Value IntKind Lib Region
def Gd(a:List GS):List (List Nat):=a.map GS.fs
def ry(a:List GS):List Nat:=a.map GS.g
def Zn9(d:World)(b g:Nat)(j i k:Value)(e:List GS)(a:World):Prop:=∃c f,Nh a b g j c i k/\Mb a d.1.size c f ((Gd e).map An)/\Aa (λh=>h=b) d a
def Ro(f:Nat)(b:List (List Bool))(e d:Nat)(g:Int):Prop:=(g= -1/\∀a,a<d->a∈(Dl f b).take e)∨∃c:Nat,g=c/\c<d/\c ∉ (Dl f b).take e/\∀a,a<d->a ∉ (Dl f b).take e->Ic b a<=Ic b c/\(a<c->Ic b a<Ic b c)
def Ro.step{d Os c a g}(h:Ro d Os c a g):(decide (a∈(Dl d Os).take c)=true/\K (Ro d Os c (a+1) g))∨decide (a∈(Dl d Os).take c)=false/\((g= -1/\K (Ro d Os c (a+1) a))∨∃b:Nat,g=b/\b<a/\((decide (Ic Os b<Ic Os a)=true/\K (Ro d Os c (a+1) a))∨(decide (Ic Os b<Ic Os a)=false/\K (Ro d Os c (a+1) b)))):=by
 by_cases i:a∈(Dl d Os).take c
 ·refine .inl ⟨aF i,?_⟩
  rcases h with⟨e,h⟩|⟨b,e,m,k,n⟩
  ·refine .inl ⟨e,λf j=>?_⟩
   grind
  refine .inr ⟨b,e,O,k,λf j l=>?_⟩
  grind
 refine .inr ⟨aE i,?_⟩
 rcases h with⟨e,h⟩|⟨b,e,m,k,n⟩
 ·refine .inl ⟨e,.inr ⟨a,rfl,O,i,λf j l=>?_⟩⟩
  by_cases o:f=a<;>grind
 refine .inr ⟨b,e,m,?_⟩
 by_cases p:Ic Os b<Ic Os a
 ·refine .inl ⟨aF O,.inr ⟨a,rfl,O,i,λf j l=>?_⟩⟩
  by_cases o:f=a<;>grind
 refine .inr ⟨aE O,.inr ⟨b,rfl,O,k,λf j l=>?_⟩⟩
 grind
def Ro.a{a b c d}(f:c<a+1)(e:Ro a b c (a+1) d):d=((Dl a b).getD c 0:Nat)/\(Dl a b).getD c 0<a+1:=by
 have l:c<(Dl a b).length:=(by rw[Ky];exact f);have k:(Dl a b).getD c 0=(Dl a b)[c]:=w_;have m:(Dl a b).getD c 0<a+1:=k ▸ (hh a b _ (Qf l));refine⟨?_,m⟩
 rcases e with⟨_,e⟩|⟨n,g,h,i,j⟩
 ·grind [getElem_of_mem,getElem_inj,af]
 rw[g,<- ZnK f h i j]
def Ze6{Ks Os d budget h}(i:∀b,b<h+1->(Os.getD b []).length=d)(n:∀b,b<h+1->(Ks.getD b Ai).a<=40)(l:d<=200)(j:budget<=20):∀(a:List Nat) c e,(∀f∈a,f<h+1)->uc d c e->uc d (c+a.length) (a.foldl (Bc Ks Os d budget) e)
 |[],c,e,_,g=>g
 | f::a,c,e,k,g=>by
  have m:=k f s_;have:=Ze6 i n l j a (c+1) _ (λp o=>k p (by simp[o])) (g.step (Ks:=Ks) (Os:=Os) (budget:=budget) (f:=f) (i f m) l j w_)
  grind
def Zix{a b}(c:b.length=a):Fx (Jp a).out b=0:=by
 unfold Fx Dp;rw[cy (n:=a) (by simp[Jp]) c,count_eq_zero]
 grind [Jp]
def Zjf{a f c e d k}(m:∀h,h<a+1->(c.getD h []).length=e)(n:∀h,h<a+1->(f.getD h Ai).a<=40)(u:e<=200)(s:d<=20)(t:k<=a+1):(∀b∈Xn a f c e d k,pl a e (a+1) f b/\GUn c e b/\b.g<=400)/\(Xn a f c e d k).length<=k:=by have g:∀i∈(Dl a c).take k,i<a+1:=λi g=>hh a c i (aL g);have j:=wh (budget:=d) m n ((Dl a c).take k) 0 [] g s_;rw[length_take,Ky,Nat.min_eq_left t] at j;refine⟨λb l=>⟨?_,Zjg (Ks:=f) (budget:=d) m _ [] g s_ b l,((Ze6 (budget:=d) m n u s _ 0 [] g ⟨s_,s_⟩).j b l).2.1⟩,by have:=j.2;unfold Xn;simpa using this⟩;have⟨o,p,q,r,v⟩:=j.1 b l;exact⟨o,p,q,r,O⟩
section
variable {Gs:List GS} {b f n budget a:Nat} {Ks:List KS} {Os:List (List Bool)} {o:List Bool}
def ZeS(a:b<Gs.length):(Gd Gs).getD b []=(Gs.getD b Fj).fs/\(ry Gs).getD b 0=(Gs.getD b Fj).g:=by simp[Gd,ry,getD,a]
def Lv(Gs):(Gd Gs).length=Gs.length/\(ry Gs).length=Gs.length:=by simp[Gd,ry]
def Znp(d:b<Gs.length)(h:Ek (Os.getD f []) (Ks.getD f Ai).a budget (Gs.getD b Fj)=true)(g:∀a,a<b->Ek (Os.getD f []) (Ks.getD f Ai).a budget (Gs.getD a Fj)=false):Gd (Bc Ks Os n budget Gs f)=(Gd Gs).set b ((Gs.getD b Fj).fs++[f])/\ry (Bc Ks Os n budget Gs f)=(ry Gs).set b ((Gs.getD b Fj).g+Fx (Gs.getD b Fj).out (Os.getD f [])):=by
 have e:∀a c,Gs.getD a Fj=Gs[a]:=λa c=>by simp[getD,c]
 have i:Gs.findIdx (Ek (Os.getD f []) (Ks.getD f Ai).a budget)=b:=(by rw[findIdx_eq d];exact⟨by rw[<- e b d];exact h,λa c=>by rw[<- e a O];exact g a c⟩);unfold Bc Gd ry;rw[i,aD d,map_set,map_set];exact⟨rfl,rfl⟩
def ZlB(c:∀a,a<Gs.length->Ek (Os.getD f []) (Ks.getD f Ai).a budget (Gs.getD a Fj)=false)(d:(Os.getD f []).length=n):Gd (Bc Ks Os n budget Gs f)=Gd Gs++[[f]]/\ry (Bc Ks Os n budget Gs f)=ry Gs++[0]:=by
 have e:Gs.findIdx (Ek (Os.getD f []) (Ks.getD f Ai).a budget)=Gs.length:=by
  rw[findIdx_eq_length];intro h g;obtain⟨a,b,rfl⟩:=aM g
  simpa [getD,b] using c a b
 unfold Bc Gd ry;rw[e,aC (Nat.lt_irrefl _),map_append,map_append];exact⟨rfl,by rw[<- Zix d];simp[Ug,Jp]⟩
end
section
variable {w wr d:World} {base l db n h c g e a k z f:Nat} {b:Nat} {vF vB s vC vX m j vb r u:Value} {kvs:List (Value×Value)} {o bvs xs:List Value} {Ks:List KS} {Bb:List (List Nat)} {q:List Nat} {Gs:List GS} {i:List Bool} {p:Option Addr}
def Wg.x(a:Wg w wr db n vF vB vC vX m j bvs (Gd Gs) (ry Gs) i)(d:b<Gs.length):∃h c p k g e,vB=L_ h Gs.length c/\m=L_ g Gs.length e/\wr.cell? (J h b)=some (V p (Gs.getD b Fj).fs.length k)/\wr.cell? (J g b)=some (I (Gs.getD b Fj).g)/\bvs.getD b Dd=.slice p (Gs.getD b Fj).fs.length k/\Ad wr w.1.size (V p (Gs.getD b Fj).fs.length k) (An (Gs.getD b Fj).fs):=by
 have s:b<((Gd Gs).map An).length:=(by simp[Gd,d]);have⟨h,c,p,k,r,o,_,f,_⟩:=a.r.at s;have l:=a.r.j b s;have v:((Gd Gs).map An).getD b []=An (Gs.getD b Fj).fs:=(by simp[Gd,getD,d]);have⟨x,e,t⟩:=a.cf.shape;rw[Aj,(Lv Gs).2] at t;subst t;have⟨g,u,_,_,q,_⟩:=a.cf.b (by rw[Aj,(Lv Gs).2]) d;subst u;rw[Br,(ZeS d).2] at q;rw[f] at l;rw[v,Aj] at o l f;rw[length_map,(Lv Gs).1] at r;exact⟨h,c,p,k,g,e,r,rfl,o,q,f,l⟩
def Wg.put(a:Wg w wr db n vF (L_ h Gs.length c) vC vX (L_ g Gs.length e) j bvs (Gd Gs) (ry Gs) i)(Q:MkX w base l db n vF Dd vC vX vb r kvs o Ks Bb q)(F:b<Gs.length){B}(S:(Gs.getD b Fj).g=B){v}(N:bvs.getD b Dd=v){m}(y:Ad wr w.1.size v (An m))(z){x:Prop}(L:d.ownsRow w.1.size 3 1 u ((An m).length+1) ((An m).map (int .i64)++[I f])/\wr.grownBy d v.ownBlock/\(u.ownBlock=v.ownBlock∨u.ownBlock=some wr.1.size/\E_ wr d)/\x):d.cell? (J l 0)=some (P_ db)/\d.cell? (J db 2)=some (L_ h Gs.length c)/\d.cell? (J h b)=some v/\d.frozen? (J h b)=false/\(d.setCell (J h b) u).cell? (J g b)=some (I B)/\(d.setCell (J h b) u).frozen? (J g b)=false/\K (Wg w ((d.setCell (J h b) u).setCell (J g b) (I (z:Nat))) db n vF (L_ h Gs.length c) vC vX (L_ g Gs.length e) j (bvs.set b u) ((Gd Gs).set b (m++[f])) ((ry Gs).set b z) i):=by
 obtain⟨T,t,M,_⟩:=L;subst N;have p:=(Lv Gs).1;have E:=a;rw[<- p] at E;have s:=E.grow (b:=b) O t (by rw[show An (m++[f])=An m++[(f:Int)] by simp[An]];exact Ad.E T) (M.imp_right And.left);rw[p] at s;have A:=World.ownsRow.kept a.r.row t (Ao y a.r.row C);rw[length_map,p] at A;have R:b<bvs.length:=(by have:=a.r.len;rw[length_map,p] at this;omega);have H:=(Aa.refl _ _).grown t (λx D _=>D);have G:=Q.h a.u a.v;have⟨_,U,_,_,D,P⟩:=s.cf.b (k:=b) (by rw[Aj,(Lv Gs).2]) F;injection U with U;injection U with U;subst U;rw[Br,(ZeS F).2,S] at D;refine⟨n_ 0 (H.g G.r (λe=>Ah y e G.r C rfl)),n_ 2 (H.g a.v (λe=>Ah y e a.v C rfl)),?_,World.ownsRow.frozenAt A b,D,P,s.g (Lv Gs).2⟩
 rw[World.ownsRow.cellAt A b O];simp[getD,R]
def Wg.add(g:Wg w wr db n vF vB vC vX m j bvs (Gd Gs) (ry Gs) i)(B:MkX w base l db n vF Dd vC vX vb r kvs o Ks Bb q){b}(t:b=((wr.alloc (O_ #[I f] 3)).alloc (O_ #[L_ wr.1.size 1 1] 25)).drew):b.ownsRow w.1.size 25 1 vB Gs.length bvs/\K (∀{u d a},d.ownsRow w.1.size 25 1 u (Gs.length+1) (bvs++[L_ wr.1.size 1 1])/\b.grownBy d vB.ownBlock/\a->d.cell? (J l 0)=some (P_ db)/\d.cell? (J db 2)=some vB/\d.frozen? (J db 2)=false/\K (Wg w (d.setCell (J db 2) u) db n vF u vC vX m j (bvs++[L_ wr.1.size 1 1]) (Gd Gs++[[f]]) (ry Gs) i)):=by
 have D:E_ wr (wr.alloc (O_ #[I f] 3)):=q_;have E:E_ wr b:=t ▸ (D.alloc s_ _).drew;have G:=g.u.size;have y:=(Lv Gs).1;have h:=g.below E;have k:=h.r.row;rw[length_map,y] at k;have p:Ad b w.1.size (L_ wr.1.size 1 1) (An [f]):=by have a:Ad _ w.1.size (L_ wr.1.size 1 1) (An [f]):=ownsRow_lit (base:=w.1.size) (size:=1) (e:=3) wr #[I (f:Nat)] 1 G m_ s_;rw[t];exact a.below q_.drew
 have x:∀u:Value,(∀a,u.ownBlock=some a->a<wr.1.size)->Bl u (L_ wr.1.size 1 1):=λu p=>by
  cases c:u.ownBlock with
  |none=>exact .inl c
  |some a=>exact .inr (.inr (by rw[c];have:=p a c;simp[ownBlock];omega))
 refine⟨k,λ{u d a} ⟨M,s,_⟩=>?_⟩;obtain⟨A,v⟩:=h.b (L:=[f]) p (λH F=>x _ (λa c=>(B_ (g.r.j H (by rw[length_map];exact F)) a c).2)) (x _ (λa c=>(B_ g.cf a c).2)) s (by rw[y];exact M);have N:=(Aa.refl _ _).grown s (λa c _=>c);have z:=B.h h.u h.v;exact⟨n_ 0 (N.g z.r (λe=>Ah k e z.r C rfl)),n_ 2 v,R_ 2 _ 142 v,A⟩
end
def ZjS(g2 d1 u k i j:Nat) N M P i5 i6 i3 g3 d b1 e l (v:MkX l g2 d1 u k N Dd M P i5 i6 i3 g3 d b1 ((range (i+1)).map (Ic e)))(hK:d.length=i+1)(i1:k<=200)(l6:i+1<=4)(h7:j<=20)(a9:∀h,h<i+1->(d.getD h Ai).a<=40)(c5:∀h,h<i+1->(e.getD h []).length=k)(d9:∀d2,d2<k->∀E,E<d.length->(e.getD E []).getD d2 false=sO d b1 E d2):C_ 241 #[P_ d1,I j] l λr A=>r=.returned (.tuple #[])/\Zn9 l u k N M P (Hs i d e k j) A:=by
 have q:=x4_ v c5 d9 a9;have f6:K (∀f,f<=i+1->_):=λf e8=>Zjf (k:=f) c5 a9 i1 h7 e8;have⟨g0,j5,f1⟩:=v.y.shape;have⟨g,a4⟩:=M_ (i+1);rw[show(An ((range (i+1)).map (Ic e))).length=g by simp[An,a4]] at f1;subst f1;have i0:=λx=>Qk g O x;have k5:g<=i+1:=O;have k6:i+1<=g:=O;have k3:g<=d.length:=O;have k4:d.length<=g:=O
 have b4:K (∀f,(dnL i e f).length=g):=λf=>by rw[Zlh,a4]
 have a:K (Wg l (l.alloc (O_ (madeCells #[.bool false] g) 4)) u k N Dd M P Dd (L_ l.1.size g g) [] (Gd (Xn i d e k j 0)) (ry (Xn i d e k j 0)) (dnL i e 0)):=(by have c6:E_ l (l.alloc (O_ (madeCells #[.bool false] g) 4)):=q_;refine⟨Aa.a c6,(c6.block _ v.v.lt).T v.v,Mb.nil _ _,Ad.nil _ _,λh a8=>by simp[Xn,Gd] at a8,?_,v.v.lt⟩;rw[ZiC,<- a4];exact Pz g l l.1.size O x_);have m2:=n_ 2 v.r;clear v hK c5 d9 a9 a4;refine dl_ ?_;go_enter func241,ntmps241;go_wp2_with fail
 go_loopw [5,6] (λm c n=>∃(f:Nat) (d3:Value) (a2:List Value),c=.int .i64 f/\f<=g/\K (Wg l n u k N d3 M P m (.slice (some ⟨l.1.size,0,none⟩) g g) a2 (Gd (Xn i d e k j f)) (ry (Xn i d e k j f)) (dnL i e f))) (λ_ c _=>g-(intOf c).toNat)
 case atStart=>exact⟨0,_,_,rfl,r_,a⟩
 clear a i0;obtain⟨f,d3,a2,rfl,e8,a⟩:=hrel;have c4:=Y (q.1.h a.u a.v);have i9:=n_ 2 c4.r;have l2:l.1.size<=wr.1.size:=a.u.size
 by_cases l5:f<g
 case neg=>
  have d8:¬f<(g:Int):=O;have c:K (Zn9 l u k N M P (Hs i d e k j) wr):=(by refine⟨d3,a2,a.v,?_,a.u⟩;rw[<- Zje,show i+1=f by omega];exact a.r);go_wp2;go_end0;exact⟨rfl,c⟩
 have j7:=F_ f g
 have b5:K (∀h,h<g->(∃m,g0=some ⟨m,0,none⟩/\wr.cell? (J m h)=some (I (Ic e h:Nat)))/\wr.cell? (J l.1.size h)=some (.bool (decide (h∈(Dl i e).take f)))):=λh a8=>by have⟨m,r,n⟩:=(Ad.e (n:=g) c4.y t_) h t_;have⟨s,e2,_,_,c,_⟩:=a.p.b (b4 f) a8;injection e2 with e2;injection e2 with e2;subst e2;rw[Zlg O] at c;exact⟨⟨m,r,by rw[n];simp[getD,show h<i+1 by omega]⟩,c⟩
 have⟨iZ,i2⟩:=M_ wr;subst i2;go_wp2_with fail
 go_loopw [7,8] (λm c p=>∃(h c2:Nat) (b:Int),c=.int .i64 h/\m=.int .i64 b/\h<=g/\K (Ro i e f h b)/\p=iZ.drewN c2) (λ_ c _=>g-(intOf c).toNat)
 case atStart=>exact⟨0,0,-1,rfl,rfl,r_,.inl ⟨rfl,λm c8=>O⟩,rfl⟩
 obtain⟨h,c2,b,rfl,rfl,a8,Q,rfl⟩:=hrel
 by_cases h9:h<g
 ·have d8:=F_ h g;obtain⟨⟨m,rfl,r⟩,c0⟩:=b5 h h9
  rcases Ro.step Q with⟨o,c⟩|⟨o,⟨rfl,c⟩|⟨n,rfl,y,a3⟩⟩
  all_goals
   rw[o] at c0;clear o Q
  ·go_upto_region 9 with fail;go_quiet (fail);refine J_ ?_;exact⟨h+1,_,b,g_,rfl,O,c,by first|rfl|simp⟩
  ·have e1:decide ((-1:Int)<0)=true:=C;go_upto_region 9 with fail;go_quiet (fail);refine J_ ?_;exact⟨h+1,_,_,g_,rfl,O,c,by first|rfl|simp⟩
  have⟨s,e2,t⟩:=(b5 n O).1;injection e2 with e2;injection e2 with e2;subst e2;have e1:decide ((n:Int)<0)=false:=aE O;have w:=F_ n g;generalize Ic e n=z at *;generalize Ic e h=p at *
  rcases a3 with⟨e3,c⟩|⟨e3,c⟩
  ·go_upto_region 9 with fail;go_quiet (fail);refine J_ ?_;exact⟨h+1,_,_,g_,rfl,O,c,by first|rfl|simp⟩
  go_upto_region 9 with fail;go_quiet (fail);refine J_ ?_;exact⟨h+1,_,_,g_,rfl,O,c,by first|rfl|simp⟩
 have d8:¬h<(g:Int):=O;rw[show h=i+1 by omega] at Q;obtain⟨rfl,T⟩:=Ro.a O Q;have b7:=T_ (Zgj (Ks:=d) (Os:=e) (n:=k) (budget:=j) (show f<i+1 by omega)) (Zli (Os:=e) (show f<i+1 by omega));have a0:=f6 f O;generalize (Dl i e).getD f 0=c at *;clear Q;generalize Xn i d e k j f=n at *;have⟨f7,g4,e9⟩:=a.r.shape;have⟨f9,g6,f0⟩:=a.cf.shape;rw[length_map,(Lv n).1] at e9;rw[Aj,(Lv n).2] at f0;subst e9 f0;have⟨m6,e0,_,_,c0,h3⟩:=a.p.b (b4 f) (show c<g by omega);injection e0 with e0;injection e0 with e0;subst e0;have b9:=Y ((a.below (below_drewN y_ c2)).i (i:=c) (b:=true) (b4 f));rw[b7.2] at b9;have l4:n.length<=4:=p_ a0.2;replace a0:=Y a0.1;have j9:=F_ c g;generalize (dnL i e f).getD c false=m5 at *;clear a b5 c4
 go_wp2_with fail
 go_loopw [9,10] (λr o p=>∃(b:Nat) (W:Bool) (G:List Value) (Gx:List GS),o=.int .i64 b/\r=.bool W/\b<=n.length/\K (Wg l p u k N (.slice f7 n.length g4) M P (.slice f9 n.length g6) (.slice (some ⟨l.1.size,0,none⟩) g g) G (Gd Gx) (ry Gx) (dnL i e (f+1)))/\K ((W=false->Gx=n/\∀m,m<b->Ek (e.getD c []) (d.getD c Ai).a j (n.getD m Fj)=false)/\(W=true->Gx=Bc d e k j n c))) (λ_ o _=>n.length-(intOf o).toNat)
 case atStart=>exact⟨0,false,a2,n,rfl,rfl,r_,b9,⟨λ_=>⟨rfl,λm c8=>O⟩,λr=>by cases r⟩⟩
 clear b9 c0 h3 i9;obtain⟨b,W,G,Gx,rfl,rfl,c6,a,a1⟩:=hrel;have B:=Y (q.1.h a.u a.v);have t:=n_ 0 B.r;have p:=n_ 2 a.v
 cases W
 case true=>
  obtain rfl:=a1.2 rfl;rw[<- b7.1] at a;clear B a1
  rcases Nat.lt_or_ge b n.length with c3|c3
  ·have m:=F_ b n.length;refine J_ ?_;exact⟨f+1,_,G,g_,O,a⟩
  have m:¬b<(n.length:Int):=O;refine J_ ?_;exact⟨f+1,_,G,g_,O,a⟩
 obtain⟨rfl,R⟩:=a1.1 rfl;replace R:=Y R;clear a1
 by_cases a5:b<Gx.length
 case neg=>
  have c3:¬b<(Gx.length:Int):=O;have w:=Y (ZlB (λm c8=>R m O) (q.2.1 c T));have⟨y,o⟩:=M_ (((wr.alloc (O_ #[I c] 3)).alloc (O_ #[L_ wr.1.size 1 1] 25)).drew);have⟨z,s⟩:=a.add q.1 o;have U:l.1.size<=y.1.size:=by have:=a.u.size;rw[o];simp;omega
  have D:K (∀m r,[L_ wr.1.size 1 1][m]? =some r->y.cell? (((J (wr.1.size+1) 0):Addr).add m)=some r):=by rw[o];exact one_at s_
  have r:=T_ o z;clear o z a;go_upto_region 23 with fail;refine Af (λA=>A.cell? _=some _/\A.cell? _=some _) 17 k_ ⟨t,p⟩ λhHeld=>?_;refine K_ ?_;refine on_ 12 λKK hK=>?_;go_simp;refine hK _ _ ⟨X_ t,X_ p⟩ λhHeld=>?_;clear hK KK;refine K_ ?_;refine on_ 13 λKK hK=>?_;go_simp;refine hK _ _ ⟨X_ t,X_ p⟩ λhHeld=>?_;clear hK KK;refine K_ ?_;refine on_ 14 λKK hK=>?_;rw[<- r.1];refine aq_ [L_ wr.1.size 1 1] r.2 ?_ (hnews:=D);intro i4 f5 A;have⟨X,Z,H,a⟩:=s A;obtain⟨f4,f3,rfl⟩:=A.2.2.2.2;clear A s r D t p;refine hK _ _ ⟨X,Z⟩ λhHeld=>?_;clear hK KK;refine K_ ?_;refine le_ ?_;clear X Z H hHeld;have S:=a.u.size;generalize F:f5.setCell (J u 2) (L_ f4 (Gx.length+1) f3)=a6 at *;clear F;have L:(An (ry Gx)).length<=4:=by simp[An,ry];omega
  go_wp2_with (at_builtin;refine ap_ [I (0:Nat)] ((a.below q_).cf) ?_)
  intro a3 a7 m;replace a:=Y ((a.below q_).h m.2.1 (Ad.E m.1) (m.2.2.1.imp_right λv=>by simpa using v.1));rw[<- w.1,<- w.2,<- b7.1] at a;clear m;refine J_ ?_;exact⟨f+1,_,_,g_,O,a⟩
 have⟨m7,j2,d4,f2,k2,j3,e1,e2,H,c1,d6,s⟩:=a.x a5;injection e1 with e1 _ e3;injection e2 with e2 _ e4;subst e1 e2 e3 e4;have⟨F,d0,k8⟩:=a0 _ (by simp[getD,a5]:Gx.getD b Fj∈Gx);have a6:c<d.length:=O;have c9:=s.e rfl;have a7:∀E∈(Gx.getD b Fj).fs,E<d.length:=λE h8=>p_ (F.fs E h8);have b3:=ZdK d1 u k f2 c d4 _ d b1 wr B.view c9 a6 a7 O (p_ F.len);rw[<- ZcM d0 (q.2.1 c T) q.2.2.1 a6 a7] at b3;have b8:K (∀x,E_ wr x->_):=λx e5=>aq u k f2 d4 _ d x (B.view.i.below e5) (c9.below e5) a7 (p_ F.len);rw[<- F.sum] at b8;have⟨m8,j4,f8,g5,g1,g7,g8,d7,g9,h0,h1⟩:=B.view.i.A a6;have b0:=B.x _ a6;have b2:K (∀x:World,_):=λx=>Ke f8 g1 _ _ g5 g7 (d.getD c Ai).e.a (d.getD c Ai).d x b0.1 b0.2.1;rw[b0.a] at b2;have a9:=q.2.2.2 c T
 have k7:=F.k;have l1:=F.len;have k9:Fx (Gx.getD b Fj).out (e.getD c [])<=200:=(by have:=Zag (a:=(Gx.getD b Fj).out) (b:=e.getD c []) (by rw[d0.1,q.2.1 c T]);rw[q.2.1 c T] at this;omega);have b6:K (Ek (e.getD c []) (d.getD c Ai).a j (Gx.getD b Fj)=(decide ((Gx.getD b Fj).g+Fx (Gx.getD b Fj).out (e.getD c [])<=j)&&decide ((Gx.getD b Fj).k+(d.getD c Ai).a<=40))):=rfl;have w:K (Ek (e.getD c []) (d.getD c Ai).a j (Gx.getD b Fj)=true->_):=λL=>Znp (n:=k) a5 L R;have D:K (Ek (e.getD c []) (d.getD c Ai).a j (Gx.getD b Fj)=false->∀m,m<b+1->Ek (e.getD c []) (d.getD c Ai).a j (Gx.getD m Fj)=false):=λL m c8=>if r:m=b then r ▸ L else R m O;replace s:=T_ d6 s;clear b0 d0 F c9 a7 d6
 generalize Ek (e.getD c []) (d.getD c Ai).a j (Gx.getD b Fj)=m9 at *;generalize Fx (Gx.getD b Fj).out (e.getD c [])=z at *;generalize (Gx.getD b Fj).fs=h2 at *;generalize (Gx.getD b Fj).k=S at *;generalize c7:(Gx.getD b Fj).g=y at *;replace c7:=Y c7;generalize (d.getD c Ai).a=U at *;generalize (d.getD c Ai).e.a=n2 at *;generalize (d.getD c Ai).e.g.length=m3 at *;generalize (d.getD c Ai).e.c.length=m4 at *;generalize (d.getD c Ai).d=j6 at *;have c3:=F_ b Gx.length;have k0:=F_ c d.length;have h4:i64.wrap (S+U)=S+U:=As O O;have k1:i64.wrap (z+y)=z+y:=As O O;have j8:i64.wrap (y+z)=y+z:=As O O;go_wp2_with fail
 apply b3.m;rintro r n0 ⟨rfl,m1,rfl⟩;go_upto_region 17 with fail;have l7:=lt_ t;have l8:=lt_ p;have l9:=lt_ H;have m0:=lt_ d7;refine rg_ wr 27 (λo=>?_) (hS:=(below_drewN y_ _).drew);refine K_ ?_;refine oc_ 14 (b8 _ o) ?_;rintro r n1 ⟨rfl,e6⟩;refine⟨_,rfl,bt_ o e6,λo=>K_ ?_⟩;refine oc_ 25 (b2 _) ?_;rintro r i7 ⟨rfl,e7⟩;refine⟨_,rfl,bt_ o e7,λo=>K_ ?_⟩;refine le_ ?_;replace a:=Y (a.below o);replace t:=Ag o t;replace p:=Ag o p;replace H:=Ag o H;replace c1:=Ag o c1;replace s:=T_ s.1 (s.2.below o);clear o e6 e7 g8 d7 g9 h0 h1 b3 b8 b2 B h4
 by_cases L:y+z<=j
 case neg=>
  have h5:¬z+y<=(j:Int):=O;replace D:=Y (D (by rw[b6];simp[L]));refine J_ ?_;exact⟨b+1,false,G,Gx,g_,rfl,O,a,λ_=>⟨rfl,D⟩,nofun⟩
 have h5:z+y<=(j:Int):=O
 by_cases a3:S+U<=40
 case neg=>
  have h6:¬S+(U:Int)<=40:=O;replace D:=Y (D (by rw[b6];simp[a3]));refine J_ ?_;exact⟨b+1,false,G,Gx,g_,rfl,O,a,λ_=>⟨rfl,D⟩,nofun⟩
 have h6:S+(U:Int)<=40:=O;replace w:=Y (w (by rw[b6];simp[L,a3]));have l0:(An h2).length<=4:=(by rw[Aj];omega);have l3:l.1.size<=i7.1.size:=a.u.size;go_upto_region 19 with fail;refine Af (λA=>A.cell? _=some _/\A.cell? _=some _/\A.cell? _=some _) 22 k_ ⟨t,p,H⟩ λhHeld=>?_;refine K_ ?_;refine on_ 19 λKK hK=>?_;go_simp;refine hK _ _ ⟨X_ t,X_ p,X_ H⟩ λhHeld=>?_;clear hK KK;refine K_ ?_;refine on_ 20 λKK hK=>?_;refine aq_ [I (c:Nat)] (s.2.below q_.drew) ?_;intro i4 f5 A;have⟨X,Z,d5,j0,j1,n3,a⟩:=(a.below q_.drew).put q.1 a5 c7 s.1 (s.2.below q_.drew) (y+z) A;obtain⟨f4,f3,rfl⟩:=A.2.2.2.2;rw[<- w.1,<- w.2] at a;clear A s t p H c1 w D;refine hK _ _ ⟨X,Z,d5⟩ λhHeld=>?_;clear hK KK;refine K_ ?_;refine le_ ?_;clear X Z d5 j0 hHeld;refine J_ ?_
 exact⟨b+1,true,_,_,g_,rfl,O,a,nofun,λ_=>rfl⟩
end Go.Proofs.YtfcgnpchbcmdeaaGreat
