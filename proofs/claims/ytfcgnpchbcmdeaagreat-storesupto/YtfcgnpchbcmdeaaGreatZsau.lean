import Derived.Test.YtfcgnpchbcmdeaaGreatZsat
import Derived.Test.YtfcgnpchbcmdeaaGreatZsav
open _root_ renaming Nat->H,List->U,Int->E,Bool->ZG,rfl->X,Option->Y0
open Array renaming size->B
open Go renaming Value->ZY,World->ZT,maxLen->Y2,madeCells->YV
open List renaming take->ZU,length->F,getD->Z,replicate->Y6
open Bool renaming true->Z0,false->ZZ
open Or renaming inl->ZM,inr->ZJ
open Decidable renaming decide->ZE
open Option renaming some->T,none->ZP
open Go.World renaming cell?->ZV,setCell->ZO,ownsRow->ZD,grownBy->Y3,frozen?->YT,alloc->ZN,drew->YY,drewN->Y1
open Go.Value renaming slice->ZH,int->ZX,ownBlock->ZW,bool->ZR,tuple->Y5
open Go.IntKind renaming i64->ZQ
open Int renaming toNat->ZL
open Go.Ending renaming returned->ZI
open Go.Proofs renaming intOf->ZA
namespace Go.Proofs.YtfcgnpchbcmdeaaGreat
set_option linter.all false
set_option maxRecDepth 100000
set_option maxHeartbeats 32000000
open Go.RowKit List Nat Go.World Go.Proofs.Tryz Go.Value Go.IntKind Go.Lib Go.Region
def Gk(a:U GS):U (U H):=a.map GS.fs
def ud(a:U GS):U H:=a.map GS.g
def ZpK(d:ZT)(b g:H)(j i k:ZY)(e:U GS)(a:ZT):Prop:=∃c f,Nt a b g j c i k/\Mk a (B d.1) c f ((Gk e).map An)/\Aa (λh=>h=b) d a
def Sl(f:H)(b:U (U ZG))(e d:H)(g:E):Prop:=(g= -1/\∀a,a<d->a∈ZU e (Dp f b))∨∃c:H,g=c/\c<d/\c ∉ ZU e (Dp f b)/\∀a,a<d->a ∉ ZU e (Dp f b)->Ik b a<=Ik b c/\(a<c->Ik b a<Ik b c)
def Sl.i{d Os c a g}(h:Sl d Os c a g):(ZE (a∈ZU c (Dp d Os))=Z0/\K (Sl d Os c (a+1) g))∨ZE (a∈ZU c (Dp d Os))=ZZ/\((g= -1/\K (Sl d Os c (a+1) a))∨∃b:H,g=b/\b<a/\((ZE (Ik Os b<Ik Os a)=Z0/\K (Sl d Os c (a+1) a))∨(ZE (Ik Os b<Ik Os a)=ZZ/\K (Sl d Os c (a+1) b)))):=by
 by_cases i:a∈ZU c (Dp d Os)
 ·refine ZM ⟨aF i,?_⟩
  rcases h with⟨e,h⟩|⟨b,e,m,k,n⟩
  ·refine ZM ⟨e,λf j=>?_⟩
   grind
  refine ZJ ⟨b,e,O,k,λf j l=>?_⟩
  grind
 refine ZJ ⟨aE i,?_⟩
 rcases h with⟨e,h⟩|⟨b,e,m,k,n⟩
 ·refine ZM ⟨e,ZJ ⟨a,X,O,i,λf j l=>?_⟩⟩
  by_cases o:f=a<;>grind
 refine ZJ ⟨b,e,m,?_⟩
 by_cases p:Ik Os b<Ik Os a
 ·refine ZM ⟨aF O,ZJ ⟨a,X,O,i,λf j l=>?_⟩⟩
  by_cases o:f=a<;>grind
 refine ZJ ⟨aE O,ZJ ⟨b,X,O,k,λf j l=>?_⟩⟩
 grind
def Sl.a{a b c d}(f:c<a+1)(e:Sl a b c (a+1) d):d=(Z (Dp a b) c 0:H)/\Z (Dp a b) c 0<a+1:=by
 have l:c<F (Dp a b):=(by rw[Lg];exact f);have k:Z (Dp a b) c 0=(Dp a b)[c]:=w_;have m:Z (Dp a b) c 0<a+1:=k ▸ (jv a b _ (Qf l));refine⟨?_,m⟩
 rcases e with⟨_,e⟩|⟨n,g,h,i,j⟩
 ·grind [getElem_of_mem,getElem_inj,cs]
 rw[g,<- Zpf f h i j]
def Zgb{Ks Os d budget h}(i:∀b,b<h+1->F (Z Os b [])=d)(n:∀b,b<h+1->(Z Ks b Aj).g<=40)(l:d<=200)(j:budget<=20):∀(a:U H) c e,(∀f∈a,f<h+1)->xi d c e->xi d (c+F a) (a.foldl (Be Ks Os d budget) e)
 |[],c,e,_,g=>g
 | f::a,c,e,k,g=>by
  have m:=k f s_;have:=Zgb i n l j a (c+1) _ (λp o=>k p (by simp[o])) (g.i (Ks:=Ks) (Os:=Os) (budget:=budget) (f:=f) (i f m) l j w_)
  grind
def ZjQ{a b}(c:F b=a):Gd (Ju a).out b=0:=by
 unfold Gd Dt;rw[ew (n:=a) (by simp[Ju]) c,count_eq_zero]
 grind [Ju]
def ZkA{a f c e d k}(m:∀h,h<a+1->F (Z c h [])=e)(n:∀h,h<a+1->(Z f h Aj).g<=40)(u:e<=200)(s:d<=20)(t:k<=a+1):(∀b∈Yu a f c e d k,rg a e (a+1) f b/\GUn c e b/\b.g<=400)/\F (Yu a f c e d k)<=k:=by have g:∀i∈ZU k (Dp a c),i<a+1:=λi g=>jv a c i (aL g);have j:=zj (budget:=d) m n (ZU k (Dp a c)) 0 [] g s_;rw[length_take,Lg,Nat.min_eq_left t] at j;refine⟨λb l=>⟨?_,ZkB (Ks:=f) (budget:=d) m _ [] g s_ b l,((Zgb (budget:=d) m n u s _ 0 [] g ⟨s_,s_⟩).j b l).2.1⟩,by have:=j.2;unfold Yu;simpa using this⟩;have⟨o,p,q,r,v⟩:=j.1 b l;exact⟨o,p,q,r,O⟩
section
variable {Gs:U GS} {b f n budget a:H} {Ks:U KS} {Os:U (U ZG)} {o:U ZG}
def ZfX(a:b<F Gs):Z (Gk Gs) b []=(Z Gs b Fm).fs/\Z (ud Gs) b 0=(Z Gs b Fm).g:=by simp[Gk,ud,Z,a]
def Me(Gs):F (Gk Gs)=F Gs/\F (ud Gs)=F Gs:=by simp[Gk,ud]
def ZoR(d:b<F Gs)(h:Er (Z Os f []) (Z Ks f Aj).g budget (Z Gs b Fm)=Z0)(g:∀a,a<b->Er (Z Os f []) (Z Ks f Aj).g budget (Z Gs a Fm)=ZZ):Gk (Be Ks Os n budget Gs f)=(Gk Gs).set b ((Z Gs b Fm).fs++[f])/\ud (Be Ks Os n budget Gs f)=(ud Gs).set b ((Z Gs b Fm).g+Gd (Z Gs b Fm).out (Z Os f [])):=by
 have e:∀a c,Z Gs a Fm=Gs[a]:=λa c=>by simp[Z,c]
 have i:Gs.findIdx (Er (Z Os f []) (Z Ks f Aj).g budget)=b:=(by rw[findIdx_eq d];exact⟨by rw[<- e b d];exact h,λa c=>by rw[<- e a O];exact g a c⟩);unfold Be Gk ud;rw[i,aD d,map_set,map_set];exact⟨X,X⟩
def Zm0(c:∀a,a<F Gs->Er (Z Os f []) (Z Ks f Aj).g budget (Z Gs a Fm)=ZZ)(d:F (Z Os f [])=n):Gk (Be Ks Os n budget Gs f)=Gk Gs++[[f]]/\ud (Be Ks Os n budget Gs f)=ud Gs++[0]:=by
 have e:Gs.findIdx (Er (Z Os f []) (Z Ks f Aj).g budget)=F Gs:=by
  rw[findIdx_eq_length];intro h g;obtain⟨a,b,rfl⟩:=aM g
  simpa [Z,b] using c a b
 unfold Be Gk ud;rw[e,aC (Nat.lt_irrefl _),map_append,map_append];exact⟨X,by rw[<- ZjQ d];simp[Ve,Ju]⟩
end
section
variable {w wr d:ZT} {base l db n h c g e a k z f:H} {b:H} {vF vB s vC vX m j vb r u:ZY} {kvs:U (ZY×ZY)} {o bvs xs:U ZY} {Ks:U KS} {Bb:U (U H)} {q:U H} {Gs:U GS} {i:U ZG} {p:Y0 Addr}
def Xm.t(a:Xm w wr db n vF vB vC vX m j bvs (Gk Gs) (ud Gs) i)(d:b<F Gs):∃h c p k g e,vB=L_ h (F Gs) c/\m=L_ g (F Gs) e/\ZV wr (J h b)=T (V p (F (Z Gs b Fm).fs) k)/\ZV wr (J g b)=T (I (Z Gs b Fm).g)/\Z bvs b Dg=ZH p (F (Z Gs b Fm).fs) k/\Ad wr (B w.1) (V p (F (Z Gs b Fm).fs) k) (An (Z Gs b Fm).fs):=by
 have s:b<F ((Gk Gs).map An):=(by simp[Gk,d]);have⟨h,c,p,k,r,o,_,f,_⟩:=a.w.at s;have l:=a.w.j b s;have v:Z ((Gk Gs).map An) b []=An (Z Gs b Fm).fs:=(by simp[Gk,Z,d]);have⟨x,e,t⟩:=a.cf.d;rw[Ak,(Me Gs).2] at t;subst t;have⟨g,u,_,_,q,_⟩:=a.cf.b (by rw[Ak,(Me Gs).2]) d;subst u;rw[Bq,(ZfX d).2] at q;rw[f] at l;rw[v,Ak] at o l f;rw[length_map,(Me Gs).1] at r;exact⟨h,c,p,k,g,e,r,X,o,q,f,l⟩
def Xm.put(a:Xm w wr db n vF (L_ h (F Gs) c) vC vX (L_ g (F Gs) e) j bvs (Gk Gs) (ud Gs) i)(a0:MkX w base l db n vF Dg vC vX vb r kvs o Ks Bb q)(M:b<F Gs){D}(a2:(Z Gs b Fm).g=D){v}(S:Z bvs b Dg=v){m}(y:Ad wr (B w.1) v (An m))(z){x:Prop}(Q:ZD d (B w.1) 3 1 u (F (An m)+1) ((An m).map (ZX ZQ)++[I f])/\Y3 wr d (ZW v)/\(ZW u=ZW v∨ZW u=T (B wr.1)/\E_ wr d)/\x):ZV d (J l 0)=T (P_ db)/\ZV d (J db 2)=T (L_ h (F Gs) c)/\ZV d (J h b)=T v/\YT d (J h b)=ZZ/\ZV (ZO d (J h b) u) (J g b)=T (I D)/\YT (ZO d (J h b) u) (J g b)=ZZ/\K (Xm w (ZO (ZO d (J h b) u) (J g b) (I (z:H))) db n vF (L_ h (F Gs) c) vC vX (L_ g (F Gs) e) j (bvs.set b u) ((Gk Gs).set b (m++[f])) ((ud Gs).set b z) i):=by
 obtain⟨a3,t,R,_⟩:=Q;subst S;have p:=(Me Gs).1;have L:=a;rw[<- p] at L;have s:=L.grow (b:=b) O t (by rw[show An (m++[f])=An m++[(f:E)] by simp[An]];exact Ad.P a3) (R.imp_right And.left);rw[p] at s;have A:=World.ownsRow.kept a.w.M t (Ap y a.w.M C);rw[length_map,p] at A;have a1:b<F bvs:=(by have:=a.w.y;rw[length_map,p] at this;omega);have P:=(Aa.refl _ _).grown t (λx G _=>G);have N:=a0.i a.u a.v;have⟨_,e7,_,_,G,W⟩:=s.cf.b (k:=b) (by rw[Ak,(Me Gs).2]) M;injection e7 with e7;injection e7 with e7;subst e7;rw[Bq,(ZfX M).2,a2] at G;refine⟨n_ 0 (P.g N.r (λe=>Ag y e N.r C X)),n_ 2 (P.g a.v (λe=>Ag y e a.v C X)),?_,World.ownsRow.frozenAt A b,G,W,s.g (Me Gs).2⟩
 rw[World.ownsRow.cellAt A b O];simp[Z,a1]
def Xm.add(g:Xm w wr db n vF vB vC vX m j bvs (Gk Gs) (ud Gs) i)(D:MkX w base l db n vF Dg vC vX vb r kvs o Ks Bb q){b}(t:b=YY (ZN (ZN wr (O_ #[I f] 3)) (O_ #[L_ (B wr.1) 1 1] 25))):ZD b (B w.1) 25 1 vB (F Gs) bvs/\K (∀{u d a},ZD d (B w.1) 25 1 u (F Gs+1) (bvs++[L_ (B wr.1) 1 1])/\Y3 b d (ZW vB)/\a->ZV d (J l 0)=T (P_ db)/\ZV d (J db 2)=T vB/\YT d (J db 2)=ZZ/\K (Xm w (ZO d (J db 2) u) db n vF u vC vX m j (bvs++[L_ (B wr.1) 1 1]) (Gk Gs++[[f]]) (ud Gs) i)):=by
 have G:E_ wr (ZN wr (O_ #[I f] 3)):=r_;have M:E_ wr b:=t ▸ (G.alloc s_ _).drew;have P:=g.u.size;have y:=(Me Gs).1;have h:=g.q M;have k:=h.w.M;rw[length_map,y] at k;have p:Ad b (B w.1) (L_ (B wr.1) 1 1) (An [f]):=by have a:Ad _ (B w.1) (L_ (B wr.1) 1 1) (An [f]):=ownsRow_lit (base:=B w.1) (size:=1) (e:=3) wr #[I (f:H)] 1 P (by unfold Y2;omega) s_;rw[t];exact a.q r_.drew
 have x:∀u:ZY,(∀a,ZW u=T a->a<B wr.1)->Bl u (L_ (B wr.1) 1 1):=λu p=>by
  cases c:ZW u with
  |none=>exact ZM c
  |some a=>exact ZJ (ZJ (by rw[c];have:=p a c;simp[ZW];omega))
 refine⟨k,λ{u d a} ⟨R,s,_⟩=>?_⟩;obtain⟨A,v⟩:=h.b (L:=[f]) p (λQ N=>x _ (λa c=>(B_ (g.w.j Q (by rw[length_map];exact N)) a c).2)) (x _ (λa c=>(B_ g.cf a c).2)) s (by rw[y];exact R);have S:=(Aa.refl _ _).grown s (λa c _=>c);have z:=D.i h.u h.v;exact⟨n_ 0 (S.g z.r (λe=>Ag k e z.r C X)),n_ 2 v,R_ 2 _ 142 v,A⟩
end
def Zlf{h0 d9 u:H}(k i j:H){S} R W {j4 j5} j2 h1 {d b9 e} l (v:MkX l h0 d9 u k S Dg R W j4 j5 j2 h1 d b9 ((range (i+1)).map (Ik e)))(hK:F d=i+1)(j0:k<=200)(m5:i+1<=4)(i5:j<=20)(b7:∀h,h<i+1->(Z d h Aj).g<=40)(d3:∀h,h<i+1->F (Z e h [])=k)(f2:∀e5,e5<k->∀L,L<F d->Z (Z e L []) e5 ZZ=sO d b9 L e5):C_ 241 #[P_ d9,I j] l λr A=>r=ZI (Y5 #[])/\ZpK l u k S R W (Ib i d e k j) A:=by
 have q:=x4_ v d3 f2 b7;have g4:K (∀f,f<=i+1->_):=λf f6=>ZkA (k:=f) d3 b7 j0 i5 f6;have⟨g8,k4,f9⟩:=v.w.d;have⟨g,b2⟩:=W_ (i+1);rw[show F (An ((range (i+1)).map (Ik e)))=g by simp[An,b2]] at f9;subst f9;have i9:=λx=>Re g O x;have l4:g<=i+1:=O;have l5:i+1<=g:=O;have l2:g<=F d:=O;have l3:F d<=g:=O
 have c2:K (∀f,F (dnL i e f)=g):=λf=>by rw[ZmF,b2]
 have a:K (Xm l (ZN l (O_ (YV #[ZR ZZ] g) 4)) u k S Dg R W Dg (L_ (B l.1) g g) [] (Gk (Yu i d e k j 0)) (ud (Yu i d e k j 0)) (dnL i e 0)):=(by have d4:E_ l (ZN l (O_ (YV #[ZR ZZ] g) 4)):=r_;refine⟨Aa.a d4,(d4.block _ v.v.lt).T v.v,Mk.nil,Ad.nil,λh b6=>by simp[Yu,Gk] at b6,?_,v.v.lt⟩;rw[ZjV,<- b2];exact Rc g l (B l.1) O x_);have n1:=n_ 2 v.r;clear v hK d3 f2 b7 b2;refine dl_ ?_;go_enter func241,ntmps241;go_wp2_with fail
 go_loopw [5,6] (λm c n=>∃(f:H) (e6:ZY) (b0:U ZY),c=ZX ZQ f/\f<=g/\K (Xm l n u k S e6 R W m (ZH (T ⟨B l.1,0,ZP⟩) g g) b0 (Gk (Yu i d e k j f)) (ud (Yu i d e k j f)) (dnL i e f))) (λ_ c _=>g-ZL (ZA c))
 case atStart=>exact⟨0,_,_,X,v_,a⟩
 clear a i9;obtain⟨f,e6,b0,rfl,f6,a⟩:=hrel;have d2:=Y (q.1.i a.u a.v);have j8:=n_ 2 d2.r;have m1:B l.1<=B wr.1:=a.u.size
 by_cases m4:f<g
 case neg=>
  have f1:¬f<(g:E):=O;have c:K (ZpK l u k S R W (Ib i d e k j) wr):=(by refine⟨e6,b0,a.v,?_,a.u⟩;rw[<- Zkz,show i+1=f by omega];exact a.w);go_wp2;go_end0;exact⟨X,c⟩
 have k6:=F_ f g
 have c3:K (∀h,h<g->(∃m,g8=T ⟨m,0,ZP⟩/\ZV wr (J m h)=T (I (Ik e h:H)))/\ZV wr (J (B l.1) h)=T (ZR (ZE (h∈ZU f (Dp i e))))):=λh b6=>by have⟨m,r,n⟩:=(Ad.f (n:=g) d2.w t_) h t_;have⟨s,e2,_,_,c,_⟩:=a.p.b (c2 f) b6;injection e2 with e2;injection e2 with e2;subst e2;rw[ZmE O] at c;exact⟨⟨m,r,by rw[n];simp[Z,show h<i+1 by omega]⟩,c⟩
 have⟨j7,j1⟩:=W_ wr;subst j1;go_wp2_with fail
 go_loopw [7,8] (λm c p=>∃(h d0:H) (b:E),c=ZX ZQ h/\m=ZX ZQ b/\h<=g/\K (Sl i e f h b)/\p=Y1 j7 d0) (λ_ c _=>g-ZL (ZA c))
 case atStart=>exact⟨0,0,-1,X,X,v_,ZM ⟨X,λm d6=>O⟩,X⟩
 obtain⟨h,d0,b,rfl,rfl,b6,a0,rfl⟩:=hrel
 by_cases i7:h<g
 ·have f1:=F_ h g;obtain⟨⟨m,rfl,r⟩,c8⟩:=c3 h i7
  rcases Sl.i a0 with⟨o,c⟩|⟨o,⟨rfl,c⟩|⟨n,rfl,y,b1⟩⟩
  all_goals
   rw[o] at c8;clear o a0
  ·go_upto_region 9 with fail;go_quiet (fail);refine J_ ?_;exact⟨h+1,_,b,g_,X,O,c,by first|rfl|simp⟩
  ·have e1:ZE ((-1:E)<0)=Z0:=C;go_upto_region 9 with fail;go_quiet (fail);refine J_ ?_;exact⟨h+1,_,_,g_,X,O,c,by first|rfl|simp⟩
  have⟨s,e2,t⟩:=(c3 n O).1;injection e2 with e2;injection e2 with e2;subst e2;have e1:ZE ((n:E)<0)=ZZ:=aE O;have w:=F_ n g;generalize Ik e n=z at *;generalize Ik e h=p at *
  rcases b1 with⟨e3,c⟩|⟨e3,c⟩
  ·go_upto_region 9 with fail;go_quiet (fail);refine J_ ?_;exact⟨h+1,_,_,g_,X,O,c,by first|rfl|simp⟩
  go_upto_region 9 with fail;go_quiet (fail);refine J_ ?_;exact⟨h+1,_,_,g_,X,O,c,by first|rfl|simp⟩
 have f1:¬h<(g:E):=O;rw[show h=i+1 by omega] at a0;obtain⟨rfl,a3⟩:=Sl.a O a0;have c5:=K_ (Zhz (Ks:=d) (Os:=e) (n:=k) (budget:=j) (show f<i+1 by omega)) (ZmG (Os:=e) (show f<i+1 by omega));have a8:=g4 f O;generalize (Z (Dp i e)) f 0=c at *;clear a0;generalize Yu i d e k j f=n at *;have⟨g5,h2,f7⟩:=a.w.d;have⟨g7,h4,f8⟩:=a.cf.d;rw[length_map,(Me n).1] at f7;rw[Ak,(Me n).2] at f8;subst f7 f8;have⟨n5,e0,_,_,c8,i1⟩:=a.p.b (c2 f) (show c<g by omega);injection e0 with e0;injection e0 with e0;subst e0;have c7:=Y ((a.q (below_drewN y_ d0)).h (i:=c) (b:=Z0) (c2 f));rw[c5.2] at c7;have m3:F n<=4:=p_ a8.2;replace a8:=Y a8.1;have k8:=F_ c g;generalize (Z (dnL i e f)) c ZZ=n4 at *;clear a c3 d2
 go_wp2_with fail
 go_loopw [9,10] (λr o p=>∃(b:H) (a5:ZG) (N:U ZY) (Gx:U GS),o=ZX ZQ b/\r=ZR a5/\b<=F n/\K (Xm l p u k S (ZH g5 (F n) h2) R W (ZH g7 (F n) h4) (ZH (T ⟨B l.1,0,ZP⟩) g g) N (Gk Gx) (ud Gx) (dnL i e (f+1)))/\K ((a5=ZZ->Gx=n/\∀m,m<b->Er (Z e c []) (Z d c Aj).g j (Z n m Fm)=ZZ)/\(a5=Z0->Gx=Be d e k j n c))) (λ_ o _=>F n-ZL (ZA o))
 case atStart=>exact⟨0,ZZ,b0,n,X,X,v_,c7,⟨λ_=>⟨X,λm d6=>O⟩,λr=>by cases r⟩⟩
 clear c7 c8 i1 j8;obtain⟨b,a5,N,Gx,rfl,rfl,d4,a,a9⟩:=hrel;have D:=Y (q.1.i a.u a.v);have t:=n_ 0 D.r;have p:=n_ 2 a.v
 cases a5
 case true=>
  obtain rfl:=a9.2 X;rw[<- c5.1] at a;clear D a9
  rcases Nat.lt_or_ge b (F n) with d1|d1
  ·have m:=F_ b (F n);refine J_ ?_;exact⟨f+1,_,N,g_,O,a⟩
  have m:¬b<(F n:E):=O;refine J_ ?_;exact⟨f+1,_,N,g_,O,a⟩
 obtain⟨rfl,a1⟩:=a9.1 X;replace a1:=Y a1;clear a9
 by_cases b3:b<F Gx
 case neg=>
  have d1:¬b<(F Gx:E):=O;have w:=Y (Zm0 (λm d6=>a1 m O) (q.2.1 c a3));have⟨y,o⟩:=W_ (YY (ZN (ZN wr (O_ #[I c] 3)) (O_ #[L_ (B wr.1) 1 1] 25)));have⟨z,s⟩:=a.add q.1 o;have a4:B l.1<=B y.1:=by have:=a.u.size;rw[o];simp;omega
  have G:K (∀m r,[L_ (B wr.1) 1 1][m]? =T r->ZV y (((J (B wr.1+1) 0):Addr).add m)=T r):=by rw[o];exact one_at s_
  have r:=K_ o z;clear o z a;go_upto_region 23 with fail;refine Af (λA=>ZV A _=T _/\ZV A _=T _) 17 k_ ⟨t,p⟩ λhHeld=>?_;refine G_ ?_;refine on_ 12 λKK hK=>?_;go_simp;refine hK _ _ ⟨X_ t,X_ p⟩ λhHeld=>?_;clear hK KK;refine G_ ?_;refine on_ 13 λKK hK=>?_;go_simp;refine hK _ _ ⟨X_ t,X_ p⟩ λhHeld=>?_;clear hK KK;refine G_ ?_;refine on_ 14 λKK hK=>?_;rw[<- r.1];refine aq_ [L_ (B wr.1) 1 1] r.2 ?_ (hnews:=G);intro j3 g3 A;have⟨a6,a7,P,a⟩:=s A;obtain⟨g2,g1,rfl⟩:=A.2.2.2.2;clear A s r G t p;refine hK _ _ ⟨a6,a7⟩ λhHeld=>?_;clear hK KK;refine G_ ?_;refine le_ ?_;clear a6 a7 P hHeld;have a2:=a.u.size;generalize M:ZO g3 (J u 2) (L_ g2 (F Gx+1) g1)=b4 at *;clear M;have Q:F (An (ud Gx))<=4:=by simp[An,ud];omega
  go_wp2_with (at_builtin;refine ap_ [I (0:H)] ((a.q r_).cf) ?_)
  intro b1 b5 m;replace a:=Y ((a.q r_).i m.2.1 (Ad.P m.1) (m.2.2.1.imp_right λv=>by simpa using v.1));rw[<- w.1,<- w.2,<- c5.1] at a;clear m;refine J_ ?_;exact⟨f+1,_,_,g_,O,a⟩
 have⟨n6,k1,e7,g0,l1,k2,e1,e2,P,c9,e9,s⟩:=a.t b3;injection e1 with e1 _ e3;injection e2 with e2 _ e4;subst e1 e2 e3 e4;have⟨M,d8,l7⟩:=a8 _ (by simp[Z,b3]:Gx.getD b Fm∈Gx);have b4:c<F d:=O;have d7:=s.f X;have b5:∀L∈(Z Gx b Fm).fs,L<F d:=λL i6=>p_ (M.fs L i6);have c1:=ZeK d9 u k g0 c e7 d b9 wr D.h d7 b4 b5 O (p_ M.y);rw[<- ZdI d8 (q.2.1 c a3) q.2.2.1 b4 b5] at c1;have c6:K (∀x,E_ wr x->_):=λx f3=>dg u k g0 e7 _ d x (D.h.j.q f3) (d7.q f3) b5 (p_ M.y);rw[<- M.sum] at c6;have⟨n7,k3,g6,h3,g9,h5,h6,f0,h7,h8,h9⟩:=D.h.j.z b4;have b8:=D.x _ b4;have c0:K (∀x:ZT,_):=λx=>Km g6 g9 _ _ h3 h5 (Z d c Aj).e.a (Z d c Aj).d x b8.1 b8.2.1;rw[b8.g] at c0;have b7:=q.2.2.2 c a3;have l6:=M.k
 have m0:=M.y;have l8:Gd (Z Gx b Fm).out (Z e c [])<=200:=(by have:=Za9 (a:=(Z Gx b Fm).out) (b:=Z e c []) (by rw[d8.1,q.2.1 c a3]);rw[q.2.1 c a3] at this;omega);have c4:K (Er (Z e c []) (Z d c Aj).g j (Z Gx b Fm)=(ZE ((Z Gx b Fm).g+Gd (Z Gx b Fm).out (Z e c [])<=j)&&ZE ((Z Gx b Fm).k+(Z d c Aj).g<=40))):=rfl;have w:K (Er (Z e c []) (Z d c Aj).g j (Z Gx b Fm)=Z0->_):=λQ=>ZoR (n:=k) b3 Q a1;have G:K (Er (Z e c []) (Z d c Aj).g j (Z Gx b Fm)=ZZ->∀m,m<b+1->Er (Z e c []) (Z d c Aj).g j (Z Gx m Fm)=ZZ):=λQ m d6=>if r:m=b then r ▸ Q else a1 m O;replace s:=K_ e9 s;clear b8 d8 M d7 b5 e9;generalize Er (Z e c []) (Z d c Aj).g j (Z Gx b Fm)=n8 at *
 generalize Gd (Z Gx b Fm).out (Z e c [])=z at *;generalize (Z Gx b Fm).fs=i0 at *;generalize (Z Gx b Fm).k=a2 at *;generalize d5:(Z Gx b Fm).g=y at *;replace d5:=Y d5;generalize (Z d c Aj).g=a4 at *;generalize (Z d c Aj).e.a=o1 at *;generalize (F (Z d c Aj).e.f)=n2 at *;generalize (F (Z d c Aj).e.c)=n3 at *;generalize (Z d c Aj).d=k5 at *;have d1:=F_ b (F Gx);have k9:=F_ c (F d);have i2:i64.wrap (a2+a4)=a2+a4:=Au O O;have l0:i64.wrap (z+y)=z+y:=Au O O;have k7:i64.wrap (y+z)=y+z:=Au O O;go_wp2_with fail
 apply c1.m;rintro r n9 ⟨rfl,n0,rfl⟩;go_upto_region 17 with fail;have m6:=lt_ t;have m7:=lt_ p;have m8:=lt_ P;have m9:=lt_ f0;refine rg_ wr 27 (λo=>?_) (hS:=(below_drewN y_ _).drew);refine G_ ?_;refine oc_ 14 (c6 _ o) ?_;rintro r o0 ⟨rfl,f4⟩;refine⟨_,X,bt_ o f4,λo=>G_ ?_⟩;refine oc_ 25 (c0 _) ?_;rintro r j6 ⟨rfl,f5⟩;refine⟨_,X,bt_ o f5,λo=>G_ ?_⟩;refine le_ ?_;replace a:=Y (a.q o);replace t:=Ah o t;replace p:=Ah o p;replace P:=Ah o P;replace c9:=Ah o c9;replace s:=K_ s.1 (s.2.q o);clear o f4 f5 h6 f0 h7 h8 h9 c1 c6 c0 D i2
 by_cases Q:y+z<=j
 case neg=>
  have i3:¬z+y<=(j:E):=O;replace G:=Y (G (by rw[c4];simp[Q]));refine J_ ?_;exact⟨b+1,ZZ,N,Gx,g_,X,O,a,λ_=>⟨X,G⟩,nofun⟩
 have i3:z+y<=(j:E):=O
 by_cases b1:a2+a4<=40
 case neg=>
  have i4:¬a2+(a4:E)<=40:=O;replace G:=Y (G (by rw[c4];simp[b1]));refine J_ ?_;exact⟨b+1,ZZ,N,Gx,g_,X,O,a,λ_=>⟨X,G⟩,nofun⟩
 have i4:a2+(a4:E)<=40:=O;replace w:=Y (w (by rw[c4];simp[Q,b1]));have l9:F (An i0)<=4:=(by rw[Ak];omega);have m2:B l.1<=B j6.1:=a.u.size;go_upto_region 19 with fail;refine Af (λA=>ZV A _=T _/\ZV A _=T _/\ZV A _=T _) 22 k_ ⟨t,p,P⟩ λhHeld=>?_;refine G_ ?_;refine on_ 19 λKK hK=>?_;go_simp;refine hK _ _ ⟨X_ t,X_ p,X_ P⟩ λhHeld=>?_;clear hK KK;refine G_ ?_;refine on_ 20 λKK hK=>?_;refine aq_ [I (c:H)] (s.2.q r_.drew) ?_;intro j3 g3 A;have⟨a6,a7,e8,j9,k0,o2,a⟩:=(a.q r_.drew).put q.1 b3 d5 s.1 (s.2.q r_.drew) (y+z) A;obtain⟨g2,g1,rfl⟩:=A.2.2.2.2;rw[<- w.1,<- w.2] at a;clear A s t p P c9 w G;refine hK _ _ ⟨a6,a7,e8⟩ λhHeld=>?_;clear hK KK;refine G_ ?_;refine le_ ?_;clear a6 a7 e8 j9 hHeld;refine J_ ?_
 exact⟨b+1,Z0,_,_,g_,X,O,a,nofun,λ_=>X⟩
theorem ZgB{e d}:∀b c,Zu e b c=T d->d.1∈b
 |[],c,a=>by simp[Zu] at a
 | f::b,c,a=>by
  unfold Zu at a;split at a
  ·grind
  exact mem_cons_of_mem _ (ZgB _ _ a)
theorem Zkr{b c a}(e:c ∉ a){d}:Lu c (Zu b a d)=ZP:=by
 cases f:Zu b a d with
 |none=>rfl
 | some g=>
  grind [ZgB,Lu]
theorem Zf2{b c f}(i:c ∉ f):∀a d,c ∉ a->Lu c (Zu b (a++c::f) d)=if Bk b a<=d/\d<Bk b a+(Z b c Aj).g then T (d-Bk b a) else ZP
 | [],d,_=>by
  simp only[nil_append,Zu,Bk,map_nil,sum_nil,Qg,true_and,Nat.zero_add,Nat.sub_zero]
  grind [Lu,Zkr]
 | e::a,d,l=>by
  have j:¬e=c:=w_;have h:c ∉ a:=w_;have k:Bk b (e::a)=(Z b e Aj).g+Bk b a:=(by simp[Bk]);simp only[cons_append,Zu];rw[k]
  by_cases g:d<(Z b e Aj).g
  rw[aD g,aC O];simp[Lu,j];rw[aC g,Zf2 i a _ h]
  grind
theorem Zkt{b d a e}(g:d ∉ a)(h:d ∉ e) c:Lu d (Nv b (a++d::e) c)=if 1+Bk b a<=c/\c<1+Bk b a+(Z b d Aj).g then T (c-(1+Bk b a)) else ZP:=by
 unfold Nv
 by_cases f:c=0
 rw[aD f,aC O];rfl
 grind [Zf2]
theorem Zks{c a b}(e:a ∉ b) d:Lu a (Nv c b d)=ZP:=by unfold Nv;split;rfl;exact Zkr e
def ZiG{c d e f a b A C}(j:b<F d)(k:Z d b []=A++a::C)(h:a ∉ A)(i:a ∉ C)(l:∀g,g<F d->g≠b->a ∉ Z d g []):Iz c d e f a=if 1+Bk c A<=Z (Z e b []) f 0/\Z (Z e b []) f 0<1+Bk c A+(Z c a Aj).g then Z (Z e b []) f 0-(1+Bk c A) else(Z c a Aj).d:=by grind [Gw,Zks,Zkt,ZcP,wn]
section
variable {Ks:U KS} {Os:U (U ZG)} {Bb:U (U H)} {n:H}
def ZlN{b e c a}(h:a<n)(j:∀f∈b++c::e,∀a,Z (Z Bb f []) a 0<(Z Ks f Aj).g)(p:Z (Z Os c []) a ZZ=Z0↔(Z (Z Bb c [])) a 0≠(Z Ks c Aj).d):((if 1+Bk Ks b<=Z (Ke Ks Os Bb n (b++c::e)) a 0/\Z (Ke Ks Os Bb n (b++c::e)) a 0<1+Bk Ks b+(Z Ks c Aj).g then Z (Ke Ks Os Bb n (b++c::e)) a 0-(1+Bk Ks b) else(Z Ks c Aj).d)≠Z (Z Bb c []) a 0)↔(Z (Z Os c []) a ZZ=Z0/\Z (Ke Ks Os Bb n b) a 0≠0):=by
 have o:ZgG n ⟨Y6 n 0,[],1⟩:=⟨s_,Nat.one_pos,λv t=>w_⟩;have i:=Wo (Os:=Os) b _ (λf g=>j f (by simp[g])) o;have s:(b.foldl (Al _ _ _ n) ⟨Y6 n 0,[],1⟩).off=1+_:=Sy Ks Os Bb n b _;have l:Z (Ke _ _ Bb n b) a 0=Z (b.foldl (Al Ks Os _ n) _).N a 0:=rfl;have k:Z (Ke Ks Os Bb n (b++c::e)) a 0=Z (e.foldl (Al Ks Os Bb n) (Al Ks Os Bb n (b.foldl (Al Ks Os Bb n) ⟨Y6 n 0,[],1⟩) c)).N a 0:=(by unfold Ke Jr;grind);rw[l,k];generalize b.foldl (Al Ks Os Bb n) ⟨Y6 n 0,[],1⟩=d at *;have g:Z (Al Ks Os Bb n d c).N a 0=_:=Zh h;unfold pi at g;have r:(Al Ks Os Bb n d c).off=_+_:=rfl;have q:Z d.N a 0<d.off:=by have m:a<F d.N:=i.y ▸ h;have:Z d.N a 0∈d.N:=(by simp[Z,m]);exact i.lt _ this
 have⟨m,u⟩:=av (Ks:=Ks) (Os:=Os) (Bb:=Bb) e (Al Ks Os Bb n d c) O a h
 grind
end
def exC(d:H->H->ZG)(c:H->H->H)(b a:H):U XS:=if d b a=Z0 then[⟨b,a,c b a⟩] else[]
def ys(c:H->H->ZG)(a:H->H->H)(d:H):H->U XS
 |0=>[]
 |b+1=>ys c a d b++exC c a d b
def jm(c:H->H->ZG)(b:H->H->H)(a:H):H->U XS
 |0=>[]
 |d+1=>jm c b a d++ys c b d a
theorem Yz{d c b x}:∀a,x∈ys d c b a↔x.M=b/\x.f<a/\d b x.f=Z0/\x.i=c b x.f
 |0=>by simp[ys]
 | a+1=>by
  simp only[ys,mem_append,Yz a,exC];obtain⟨g,f,e⟩:=x
  grind
theorem jt{d c b x}:∀a,x∈jm d c b a↔x.M<a/\x.f<b/\d x.M x.f=Z0/\x.i=c x.M x.f
 |0=>by simp[jm]
 | a+1=>by
  simp only[jm,mem_append,jt a,Yz]
  grind
abbrev upX(x a:XS):Prop:=x.M<a.M∨x.M=a.M/\x.f<a.f
def Zbh{c b d}:∀a,(ys c b d a).Pairwise upX
 |0=>Pairwise.nil
 | a+1=>by
  simp only[ys];refine pairwise_append.2 ⟨Zbh a,?_,λg e h f=>?_⟩;unfold exC;split<;>simp
  grind [Yz,exC]
def ly{d c b}:∀a,(jm d c b a).Pairwise upX
 |0=>Pairwise.nil
 | a+1=>by
  simp only[jm];refine pairwise_append.2 ⟨ly a,Zbh b,λg e h f=>?_⟩
  grind [jt,Yz]
def Zj1{p b d a c}(g:Nx c)(h:∀x,x∈c↔x.M<a/\x.f<d/\p x.M x.f=Z0/\x.i=b x.M x.f):(jm p b d a).Perm c/\Em (jm p b d a):=by refine⟨(perm_ext_iff_of_nodup ?_ ?_).2 (λx=>by rw[h,jt]),(ly a).imp (λe=>O)⟩;exact(ly a).imp (λe f=>w_);exact g.imp (λe f=>w_)
def pt{b}:∀a,b∈He a->(He a).Nodup->∃g e f,g<F a/\(Z a g Fm).fs=e++b::f/\b ∉ e/\b ∉ f/\∀d,d<F a->d≠g->b ∉ (Z a d Fm).fs
 |[],c,_=>by simp[He] at c
 | k ::a,c,n=>by
  have p:He (k::a)=k.fs++He a:=(by simp[He]);rw[p] at c n;have⟨o,u,w⟩:=nodup_append.1 n
  rcases mem_append.1 c with c|c
  ·have⟨e,f,h⟩:=append_of_mem c;rw[h] at o;have⟨v,s,t⟩:=nodup_append.1 o;refine⟨0,e,f,s_,by simpa using h,λj=>t b j b s_ X,(nodup_cons.1 s).1,λd m r l=>?_⟩;obtain⟨i,rfl⟩:∃i,d=i+1:=⟨d-1,O⟩
   have q:i<F a:=by simpa using m
   have:b∈He a:=by unfold He;rw[mem_flatMap];exact⟨Z a i _,by simp[Z,q],by simpa using l⟩
   grind
  have⟨g,e,f,q,h,j,i,s⟩:=pt a c u;refine⟨g+1,e,f,by simpa using q,by simpa using h,j,i,λd m r l=>?_⟩
  grind
section
variable {m n:H} {Ks:U KS} {Os:U (U ZG)} {Bb:U (U H)} {Gs:U GS}
def jg Os Bb n (Ks:U KS):∀Gs a,(Gs.foldl (Lq Os Bb n) a).f.map BS.fs=a.f.map BS.fs++Gk Gs
 |[],a=>by simp[Gk]
 |b::Gs,a=>by simp only[foldl_cons];rw[jg Os Bb n Ks Gs];simp[Lq,Gk]
def ZaJ(p:∀g∈Gs,∀a∈g.fs,a<F Ks)(m:∀f,f<F Ks->∀b,Z (Z Bb f []) b 0<(Z Ks f Aj).g)(l:∀b,b<n->∀d,d<F Ks->Z (Z Os d []) b ZZ=sO Ks Bb d b):(Fp Os Bb n Ks Gs).f.map BS.N=(Gk Gs).map (λc=>Hs Ks Bb c n):=by
 have k:=Zdg (Ks:=Ks) (Os:=Os) (Bb:=Bb) (n:=n) Gs ⟨Ks,[],[]⟩ X s_;have e:=jg Os Bb n Ks Gs ⟨Ks,[],[]⟩;simp only[map_nil,nil_append] at e;unfold Fp;rw[<- e,map_map];refine map_congr_left λc h=>?_
 have j:∀a∈c.fs,a<F Ks:=λa i=>by
  have:c.fs∈Gk Gs:=(by rw[<- e];exact mem_map.2 ⟨c,h,X⟩);have⟨g,q,o⟩:=mem_map.1 this
  grind
 rw[k c h];refine(ZjN l j ?_).s;exact(jj (xs:=[]) (λa i=>m a (j a i))).y
def ZaK(M:F Ks=m+1)(w:(He Gs).Perm (range (m+1)))(D:(He Gs).Nodup)(y:∀s,s<m+1->∀c,Z (Z Bb s []) c 0<(Z Ks s Aj).g)(v:∀c,c<n->∀e,e<F Ks->Z (Z Os e []) c ZZ=sO Ks Bb e c) x:x∈(Fp Os Bb n Ks Gs).r↔x.M<n/\x.f<m+1/\ZE (Iz Ks (Gk Gs) ((Gk Gs).map (λh=>Hs Ks Bb h n)) x.M x.f≠Z (Z Bb x.f []) x.M 0)=Z0/\x.i=Z (Z Bb x.f []) x.M 0:=by
 have A:=λl o a i=>by
  have:a∈He Gs:=by unfold He;rw[mem_flatMap];exact⟨l,o,i⟩
  simpa using w.mem_iff.1 this
 have a7:∀{a c b g d},c<n->a<m+1->d<F Gs->(Z Gs d Fm).fs=b++a::g->a ∉ b->a ∉ g->(∀f,f<F Gs->f≠d->a ∉ (Z Gs f Fm).fs)->(Iz Ks (Gk Gs) ((Gk Gs).map (λh=>Hs Ks Bb h n)) c a≠Z (Z Bb a []) c 0↔(Z (Z Os a []) c ZZ=Z0/\Z (Ke Ks Os Bb n b) c 0≠0)):=by
  intro a c b g d p i q k t u G;have Q:F (Gk Gs)=F Gs:=by simp[Gk]
  have R:∀f,f<F Gs->Z (Gk Gs) f []=(Z Gs f Fm).fs:=λf r=>by simp[Gk,Z,r]
  have N:Z Gs d Fm∈Gs:=w_;have z:=λe j=>A _ N e (k ▸ j);have P:Z ((Gk Gs).map (λh=>Hs Ks Bb h n)) d []=Ke Ks Os Bb n (b++a::g):=(by have L:Z ((Gk Gs).map (λh=>Hs Ks Bb h n)) d []=Hs Ks Bb (b++a::g) n:=w_;rw[L];exact ZjN v (λe j=>w_) (jj (xs:=[]) (λe j=>y e (z e j))).y);rw[ZiG (b:=d) (A:=b) (C:=g) (Q ▸ q) w_ t u (λf r h=>w_),P];apply ZlN p (λe j=>y e (z e j));rw[v c p a (M ▸ i)];unfold sO
  grind
 rw[show(Fp Os Bb n Ks Gs).r=(Gs.foldl (Lq Os Bb n) ⟨Ks,[],[]⟩).r from X,nv (Ks:=Ks) Gs ⟨Ks,[],[]⟩ x X];simp only[not_mem_nil,false_or,decide_eq_true_eq];constructor
 ·rintro⟨l,o,b,g,k,p,z,L,a1⟩;have i:=A l o x.f (by rw[k];simp);have P:x.f∈He Gs:=w_;have⟨d,h,t,q,Q,a2,a4,G⟩:=pt Gs P D;have⟨f,r,W⟩:=aM o;have a5:f=d:=w_;have u:Z Gs d Fm=l:=w_
  have a3:b=h:=by
   rw[u,k] at Q
   have a6:x.f ∉ b:=λa0=>by grind [He]
   have R:(b++x.f::g).takeWhile (λj=>j !=x.f)=b:=(by rw[takeWhile_append_of_pos (λj N=>w_)];simp);have S:(h++x.f::t).takeWhile (λj=>j !=x.f)=h:=by rw[takeWhile_append_of_pos (λj N=>w_)];simp
   grind
  grind
 rintro⟨p,i,z,L⟩;obtain⟨d,b,g,q,k,t,u,G⟩:=pt Gs (w.mem_iff.2 (by simpa using i)) D
 grind
end
end Go.Proofs.YtfcgnpchbcmdeaaGreat
