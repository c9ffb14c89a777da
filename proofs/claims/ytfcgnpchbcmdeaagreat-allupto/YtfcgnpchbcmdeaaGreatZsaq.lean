import Derived.Test.YtfcgnpchbcmdeaaGreatZsal
import Derived.Test.YtfcgnpchbcmdeaaGreatZsao
import Derived.Test.YtfcgnpchbcmdeaaGreatZsan
import Derived.Test.YtfcgnpchbcmdeaaGreatZsak
open _root_ renaming List->U,Option->Y0,Nat->H,rfl->X,Int->E,ByteArray->ZC,Bool->ZG
open Go renaming Value->ZY,World->ZT,strOfNums->ZB
open Go.Value renaming pointer->Y7,agg->Y9,int->ZX,bool->ZR,tuple->Y5,func->YX,string->YW,slice->ZH,ownBlock->ZW
open List renaming length->F,getD->Z,take->ZU,drop->ZF,replicate->Y6
open Array renaming size->B,setIfInBounds->YS
open Option renaming some->T,none->ZP,some->Z2
open Go.World renaming cell?->ZV,alloc->ZN,ownsRow->ZD,setCell->ZO,frozen?->YT,drewN->Y1,grownBy->Y3
open Go.Ending renaming returned->ZI
open Go.IntKind renaming i64->ZQ
open ByteArray renaming size->ZK
open Bool renaming true->Z0,false->ZZ
open Or renaming inl->ZM,inr->ZJ
open Go.Proofs.Tryz renaming prog->Y8
open Decidable renaming decide->ZE
open Int renaming toNat->ZL
namespace Go.Proofs.YtfcgnpchbcmdeaaGreat
set_option linter.all false
set_option maxRecDepth 100000
set_option maxHeartbeats 8000000
open Go.RowKit List Nat Go.World Go.Proofs.Tryz Go.Value Go.IntKind Go.Lib Go.Region
def fiL(a:U (Y0 Addr)):U ZY:=(a.filter Option.isSome).map Y7
def uh b c {e}:C_ 171 #[Y9 #[Y7 b,Y7 c]] e λs p=>∃h,s=ZI h/\ZD p (B e.1+2) 187 1 h (F (fiL [b,c])) (fiL [b,c])/\E_ e p:=by
 refine q_ ?_;go_wp2_with fail
 generalize o:ZN (ZN e (O_ #[Y7 b,Y7 c] 189)) (O_ #[Y7 b,Y7 c] 187)=g
 have f:K (B g.1=B e.1+2/\E_ e g/\∀a,a<2->ZV g (J (B e.1+1) a)=T (Y7 (Z [b,c] a ZP))):=by
  subst o;refine⟨s_,r_.alloc s_ _,λa k=>?_⟩
  rcases(show a=0∨a=1 by omega) with rfl|rfl<;>simp[go_sem]
 clear o;go_loopw [12,3] (λj i d=>∃a:H,j=I a/\a<=2/\K (ZD d (B e.1+2) 187 1 i (F (fiL (ZU a ([b,c])))) (fiL (ZU a ([b,c])))/\E_ g d)) (m4_ 2)
 exact⟨0,X,O,rn_,y_⟩;obtain⟨a,rfl,k,d⟩:=hrel
 by_cases t:a<2
 ·have r:=T_ d.2 (f.2.2 a t)
  have n:fiL (ZU (a+1) ([b,c]))=fiL (ZU a ([b,c]))++fiL [Z [b,c] a ZP]:=by
   rcases(show a=0∨a=1 by omega) with rfl|rfl
   rfl
   cases b<;>cases c<;>rfl
  have m:=Y n;clear n;have w:F (fiL (ZU a ([b,c])))<=2:=(by unfold fiL;rw[length_map];exact aG (length_filter_le _ _) t_);have v:=F_ a 2;have u:=f.1 ▸ d.2.size;generalize (Z [b,c]) a ZP=l at *
  cases l with
  | none=>
   go_wp2;go_roundw;exact⟨a+1,g_,O,by rw[m.out];simpa [fiL] using d.1,d.2⟩;exact z_
  | some l=>
   go_wp2_with (at_builtin;refine ap_ [Y7 (T l)] (d.1.alloc _) ?_)
   intro h q i;have j:K (ZD q (B e.1+2) 187 1 h (F (fiL (ZU (a+1) ([b,c])))) (fiL (ZU (a+1) ([b,c])))/\E_ g q):=(by rw[m.out,Qe];exact⟨i.1,d.2.T (f.1 ▸ ((y_.alloc u _).grown i.2.1 t_ λa k=>(B_ d.1 a k).1))⟩);clear d i r;refine J_ ?_;exact⟨a+1,g_,O,j⟩
 obtain rfl:a=2:=O;have j:=K_ d.1 (bt_ f.2.1 d.2);clear f d;refine wr_ ?_;exact⟨_,X,j⟩
def ZcB{k l}(b:U (H×ZC)) i (s:fiL [k,l]=b.map λx=>P_ x.1)(u:∀x∈b,D_ i x.1 0 (Q_ x.2)/\ZK x.2<=1000000)(S:F b<=2):C_ 170 #[Y9 #[Y7 k,Y7 l]] i (U_ (ZX ZQ ((b.map λx=>ZK x.2).sum:H)) i):=by
 have⟨f,o⟩:=Y_ s u;clear s u;refine q_ ?_;go_wp2_with fail
 apply (uh k l).m;rintro M j ⟨W,rfl,h,t⟩;rw[f.out,length_map] at h;have n:K (E_ i j):=r_.T (t.m s_);obtain⟨D,L,rfl,w⟩:=Gg h
 have q:K (∀a,a<F b->∃d,∃x:H×ZC,D=T (J d 0)/\D_ j d a (P_ x.1)/\D_ j x.1 0 (Q_ x.2)/\ZK x.2<=1000000/\((ZU (a+1) b).map λx=>ZK x.2).sum=((ZU a b).map λx=>ZK x.2).sum+ZK x.2):=λa g=>by obtain⟨d,rfl,_⟩:=w O;have c:=o _ (Qf g);exact⟨d,b[a],X,Hn h (by rw[getElem?_map,Qd g];rfl),T_ n c.1,c.2,by rw[Qi g,map_append,sum_append];simp⟩
 clear h t w o f;generalize v:F b=e at *;have p:=Y v;clear v;go_wp2_with fail
 go_loopw [9,3] (λm d r=>∃a c:H,m=I a/\a<=e/\d=I c/\c<=a*1000000/\K (((ZU a b).map λx=>ZK x.2).sum=c)/\j=r) (m4_ e)
 exact⟨0,0,X,O,X,O,X,X⟩;obtain⟨a,c,rfl,g,rfl,Q,m,rfl⟩:=hrel
 by_cases A:a<e
 ·obtain⟨d,x,rfl,N,P,z,r⟩:=q a A;have y:=Y r;have R:=F_ a e;clear r;obtain⟨a0,G⟩:=x;simp only at z;refine J_ ?_;exact⟨a+1,c+ZK G,g_,O,g_,O,show _=_ by rw[y.out,m.out],True.intro⟩
 have f:K (_=_):=show(b.map λx=>ZK x.2).sum=c by rw[<- m.out,aI (by have:=p.out;omega)]
 have d:¬(a:E)<e:=O;clear q p m;go_wp2;go_ret;exact⟨by rw[f.out];rfl,n⟩
def fm{f a b d e} c (g:H_ f a b d):H_ (ZO f (J a c) e) a (YS b c e) d:=ht_ _ _ _ _ g
def Aa.put{b c k}(e:Aa (λa=>a=k) b c) f d:Aa (λa=>a=k) b (ZO c (J k f) d):=e.setCell (λ_=>X) d
def ab_{c d a b e}(f:E_ c d)(x:H_ c a b e):H_ d a b e:=(f.block _ (Qb x).1).T x
def tp_ a b c d:Aa (λe=>e=b) a (ZO a (J b c) d):=(Aa.refl _ a).put c d
structure SS where
 i:H
 p:ZG
 h:ZG
 t:ZC
 a:ZG
 n:ZC
 l:E
def ez(a:SS):SS:={a with p:=Z0,h:=a.a,t:=a.n,l:= -1}
def On(a:SS):SS:=if 0<a.l then {a with l:=a.l-1} else a
def Ze(b:ZC)(c:H)(a:SS):E×SS:=if c=1/\a.i<ZK a.t+ZK b then(7,a) else(0,if c=3 then {a with h:=Z0,t:=b} else if c=4 then {a with a:=Z0,n:=b} else a)
def stS(b:ZC)(c:H)(a:SS):E×SS:=if a.l=0 then(6,ez a) else Ze b c (On a)
def Sh(b:ZC):H->SS->E×SS
 |0,a=>(0,a)
 |c+1,a=>if(stS b (4-c) a).1=0 then Sh b c (stS b (4-c) a).2 else stS b (4-c) a
def xp(f:ZT)(e:H->Prop)(d:Y0 Addr)(c:ZG)(b:ZC):Prop:=(c=ZZ/\d=ZP/\b=⟨#[]⟩)∨(c=Z0/\∃a,d=T (J a 0)/\e a/\H_ f a #[Q_ b,I (ZK b)] 196)
def Zi2(f:ZT)(e:H->Prop)(d:Y0 Addr)(b:E):Prop:=(b= -1/\d=ZP)∨(0<=b/\∃a c,d=T (J a 0)/\e a/\0<=c/\H_ f a #[I b,I c] 199)
structure Qk(e)(c:H->Prop)(i)(b:SS)(l h k j):Prop where
 d:H_ e i #[I b.i,ZR b.p,Y7 l,Y7 h,Y7 ZP,Y7 k,Y7 j] 192
 g:c i
 a:xp e c h b.h b.t
 y:xp e c k b.a b.n
 f:Zi2 e c j b.l
 z:ZK b.t<=1000000/\ZK b.n<=1000000/\b.l<=9223372036854775807
section
variable {w w':ZT} {G G' S:H->Prop} {v fr a sc fl:Y0 Addr} {h:ZG} {t b:ZC} {l:E} {db:H} {s:SS}
def xp.c(x:xp w G v h t)(i:∀b c,G b->v=T (J b 0)->H_ w b c 196->H_ w' b c 196)(g:∀a,a<B w.1->G a->G' a):xp w' G' v h t:=by
 rcases x with x|⟨f,b,d,e,x⟩
 exact ZM x;exact ZJ ⟨f,b,d,g _ (Qb x).1 e,i b _ e d x⟩
def Zi2.c(x:Zi2 w G v l)(i:∀b c,G b->v=T (J b 0)->H_ w b c 199->H_ w' b c 199)(h:∀a,a<B w.1->G a->G' a):Zi2 w' G' v l:=by
 rcases x with x|⟨f,b,a,d,e,g,x⟩
 exact ZM x;exact ZJ ⟨f,b,a,d,h _ (Qb x).1 e,g,i b _ e d x⟩
def Qk.c(x:Qk w G db s fr a sc fl)(h:∀b c j,G b->H_ w b c j->(j=196->a=T (J b 0)∨sc=T (J b 0))->H_ w' b c j)(g:∀i,i<B w.1->G i->G' i):Qk w' G' db s fr a sc fl:=
 ⟨h _ _ _ x.g x.d s_,g _ (Qb x.d).1 x.g,x.a.c (λb c d f e=>h b c _ d e λ_=>ZM f) g,x.y.c (λb c d f e=>h b c _ d e λ_=>ZJ f) g,x.f.c (λb c d f e=>h b c _ d e s_) g,x.z⟩
def Qk.q(x:Qk w G db s fr a sc fl)(b:E_ w w'):Qk w' G db s fr a sc fl:=x.c (λ_ _ _ _ h _=>ab_ b h) λ_ _ h=>h
def Qk.put{s' fr' f j g}(x:Qk w G db s fr a sc fl)(e:Aa (λk=>k=db) w w')(n:H_ w' db #[I s'.i,ZR s'.p,Y7 fr',Y7 f,Y7 ZP,Y7 j,Y7 g] 192)(m:xp w G f s'.h s'.t)(d:xp w G j s'.a s'.n)(p:Zi2 w G g s'.l)(q:ZK s'.t<=1000000/\ZK s'.n<=1000000/\s'.l<=9223372036854775807):Qk w' G db s' fr' f j g:=by
 have i:∀{b d l},H_ w b d l->l≠192->b≠db:=λc r o=>by
  subst o;have:=x.d
  grind
 exact⟨n,x.g,m.c (λb d _ _ c=>e.g c (i c C)) λ_ _ h=>h,d.c (λb d _ _ c=>e.g c (i c C)) λ_ _ h=>h,p.c (λb d _ _ c=>e.g c (i c C)) λ_ _ h=>h,q⟩
def Qk.cells(x:Qk w G db s fr a sc fl):D_ w db 0 (I s.i)/\D_ w db 1 (ZR s.p)/\D_ w db 2 (Y7 fr)/\D_ w db 3 (Y7 a)/\D_ w db 4 (Y7 ZP)/\D_ w db 5 (Y7 sc)/\D_ w db 6 (Y7 fl)/\∀b,YT w (J db b)=ZZ:=
 ⟨n_ 0 x.d,n_ 1 x.d,n_ 2 x.d,n_ 3 x.d,n_ 4 x.d,n_ 5 x.d,n_ 6 x.d,λb=>R_ b _ _ x.d⟩
def Oq(w:ZT)(G:H->Prop)(db:H)(b:ZC)(s:SS)(c:H):Prop:=∃fr a sc fl,Qk w G db s fr a sc fl/\(1<=c->c<=3->∃d,fr=T (J d 0)/\G d/\a≠fr/\sc≠fr/\H_ w d #[Q_ (if c=1 then⟨#[]⟩ else b),I ((if c=3 then ZK b else 0:H):H)] 196)/\(c=4->fr=ZP/\s.h=Z0/\s.t=b)
def tq(G:H->Prop)(db:H)(b:ZC)(d:H)(a:E×SS)(w:ZT)(c:Ending)(w':ZT):Prop:=c=ZI (I a.1)/\Oq w' G db b a.2 (if a.1=0 then d+1 else 0)/\Aa G w w'
def tq.ok{a c d}(f:c=(0,d))(x:Oq w' G db b d (a+1))(e:Aa G w w'):tq G db b a c w (ZI (ZX ZQ 0)) w':=f ▸ ⟨X,x,e⟩
def xp.lt(x:xp w G v h t):v≠T (J (B w.1) 0):=λa=>by
 subst a
 rcases x with x|⟨_,b,a,_,x⟩
 ·cases x.2.1
 have:=(Qb x).1
 grind
def ZdK(h:Oq w G db b s 0)(i:G (B w.1)):C_ 106 #[P_ db] w (tq G db b 0 (Ze b 0 s) w):=by
 obtain⟨x,a,u,v,d,-⟩:=h;have⟨f,k,l,m,n,o,p,q⟩:=d.cells;have r:=lt_ f;have c:=Y d;clear d;refine q_ ?_;go_wp2;go_ret;have e:=(tp_ w db 2 (P_ (B w.1)));have j:=c.put (s':=s) (fr':=T (J (B w.1) 0)) e (fm 2 c.d) c.a c.y c.f c.z;refine .ok X ⟨_,a,u,v,j.q r_,λ_ _=>⟨B w.1,X,i,c.a.lt,c.y.lt,?_⟩,O⟩ ?_
 ·have:=ha_ (ZO w (J db 2) (P_ (B w.1))) (O_ #[Q_ ⟨#[]⟩,I 0] 196)
  simpa [ZO] using this
 exact(e.alloc _).m λt _ g=>g ▸ c.g
def ZeR(h:Oq w G db b s 3)(l:ZK b<=1000000):C_ 108 #[P_ db] w (tq G db b 3 (Ze b 3 s) w):=by obtain⟨D,a,x,A,d,i,_⟩:=h;obtain⟨g,rfl,k,_,_,e⟩:=i C C;have⟨m,n,o,p,q,r,t,u⟩:=d.cells;have c:=K_ d e;clear d e i;refine q_ ?_;go_wp2;go_ret;have f:=(tp_ w db 2 (Y7 ZP)).put 3 (P_ g);exact .ok X ⟨ZP,_,x,A,c.1.put f (fm 3 (fm 2 c.1.d)) (ZJ ⟨X,g,X,k,c.2⟩) c.1.y c.1.f ⟨l,c.1.z.2⟩,O,λ_=>⟨X,X,X⟩⟩ (f.m λv _ j=>j ▸ c.1.g)
def ti(h:Oq w G db b s 4):C_ 109 #[P_ db] w (tq G db b 4 (Ze b 4 s) w):=by obtain⟨A,a,y,x,d,_,k⟩:=h;obtain⟨rfl,i,j⟩:=k X;have⟨m,n,o,p,q,r,t,u⟩:=d.cells;have c:=x3_ d i j;clear d i j k;refine q_ ?_;go_wp2;go_ret;have f:=(tp_ w db 4 (Y7 ZP)).put 5 (Y7 a);have g:=c.1.a;have e:=c.1.z;rw[c.2.1,c.2.2] at g;rw[c.2.2] at e;exact .ok X ⟨ZP,a,a,x,c.1.put f (fm 5 (fm 4 c.1.d)) c.1.a g c.1.f ⟨c.1.z.1,e.1,e.2.2⟩,O,O⟩ (f.m λv _ l=>l ▸ c.1.g)
end
section
variable {w w':ZT} {G G' S:H->Prop} {v fr a sc fl:Y0 Addr} {h:ZG} {t b:ZC} {l:E} {db f:H} {s:SS}
def Qk.e{x d}(i:Qk w G db s (T (J f 0)) a sc fl)(e:H_ w f #[x,d] 196)(g:Aa (λk=>k=f) w w')(n:a≠T (J f 0))(o:sc≠T (J f 0)):Qk w' G db s (T (J f 0)) a sc fl:=
 i.c (λb l d _ c m=>g.g c λj=>by subst j;have p:=e.s.T c;grind) λ_ _ h=>h
def ZlI(h:Oq w G db b s 2):C_ 107 #[P_ db] w (tq G db b 2 (Ze b 2 s) w):=by obtain⟨R,a,P,Q,e,m,-⟩:=h;obtain⟨f,rfl,j,k,l,d⟩:=m C C;have⟨i,n,x,o,p,q,r,y⟩:=e.cells;have u:D_ w f 0 (Q_ b):=n_ 0 d;have z:=n_ 1 d;have A:=λv=>R_ v _ _ d;have L:=lt_ i;have M:=lt_ u;have c:=x4_ e d k l;clear e d m i n o p q r k l;refine q_ ?_;go_upto_region 1 with fail;refine rg_ w 16 λD=>?_;refine G_ ?_;refine le_ ?_;go_wp2;go_ret;have g:=(tp_ w f 1 (I (ZK b))).drew;exact .ok X ⟨_,a,P,Q,c.1.e c.2.1 g c.2.2.1 c.2.2.2,λ_ _=>⟨f,X,j,c.2.2.1,c.2.2.2,fm 1 c.2.1⟩,O⟩ (g.m λN _ t=>t ▸ j)
def ZiN(h:Oq w G db b s 1)(a2:ZK b<=1000000):C_ 105 #[P_ db,Q_ b] w (tq G db b 1 (Ze b 1 s) w):=by
 obtain⟨fr,a,sc,fl,i,A,-⟩:=h;obtain⟨f,rfl,x,y,z,c⟩:=A C C;have⟨u,M,v,N,P,Q,R,S⟩:=i.cells;have l:D_ w f 0 (Q_ ⟨#[]⟩):=n_ 0 c
 have r:K (∀j,E_ w j->C_ 170 #[Y9 #[Y7 (T (J f 0)),Y7 a]] j λg w'=>g=ZI (ZX ZQ (ZK s.t))/\E_ w w'):=λj m=>by
  rcases i.a with⟨_,rfl,g⟩|⟨_,d,rfl,_,e⟩
  exact(ZcB [(f,⟨#[]⟩)] j X (by simpa using ⟨T_ m l,v_⟩) s_).m λ_ _ h=>⟨by rw[h.1,g];rfl,bt_ m h.2⟩;exact(ZcB [(f,⟨#[]⟩),(d,s.t)] j X (by simpa using ⟨⟨T_ m l,v_⟩,T_ m (n_ 0 e),i.z.1⟩) s_).m λ_ _ h=>⟨by rw[h.1];show ZI (ZX ZQ ((0+(ZK s.t+0):H):E))=_;simp,bt_ m h.2⟩
 have a3:=lt_ u;have a4:=lt_ l;have a5:=i.z.1;have d:=x4_ i c y z;clear i c A M P Q R y z;refine q_ ?_;go_upto_region 1 with fail;refine rg_ w 12 λp=>?_;refine G_ ?_;refine oc_ 4 (r _ p) ?_;rintro g q ⟨rfl,e⟩;refine⟨_,X,e,λp=>G_ ?_⟩;refine le_ ?_;rw[Au O O];have n:=Y e;have L:=d.1.q e;have l:=T_ e l;have v:=T_ e v;have c:=ab_ e d.2.1;have a1:=λW=>R_ W _ _ c;have k:=K_ L c;clear e p r L c u N S
 by_cases D:s.i<ZK s.t+ZK b
 ·have o:K (Ze b 1 s=_):=aD ⟨X,D⟩;have a0:(s.i:E)<ZK s.t+ZK b:=O;have t:K (Oq q G db b s 0/\Aa G w q):=⟨⟨_,a,sc,fl,k.1,O,O⟩,.a n⟩;clear k d n;go_wp2;go_ret;rw[o.out];exact⟨X,t⟩
 have o:K (Ze b 1 s=_):=aC λh=>D h.2;have a0:¬(s.i:E)<ZK s.t+ZK b:=O;have a7:(⟨#[]⟩:ZC)++b=b:=ByteArray.empty_append;have a8:ZK (⟨#[]⟩:ZC)+ZK b<=9223372036854775807:=(by show 0+_<=_;omega);go_wp2;go_ret;have t:=tp_ q f 0 (Q_ b);exact .ok o ⟨_,a,sc,fl,k.1.e k.2 t d.2.2.1 d.2.2.2,λ_ _=>⟨f,X,x,d.2.2.1,d.2.2.2,fm 0 k.2⟩,O⟩ ((Aa.a n).T (t.m λa6 _ g=>g ▸ x))
end
section
variable {w w':ZT} {G:H->Prop} {fr a sc fl:Y0 Addr} {t b:ZC} {k:E} {db f:H} {s:SS}
def ZkH(a:H_ w f #[Q_ t,I (ZK t)] 196)(q:ZK t<=1000000)(o:0<=k):C_ 172 #[P_ f,I k] w λc w'=>c=ZI (Y5 #[])/\H_ w' f #[Q_ t,I (ZK t)] 196/\Aa (λk=>k=f) w w':=by have d:=n_ 0 a;have m:=n_ 1 a;have n:=λg=>R_ g _ _ a;have p:=lt_ d;have b:=Y a;have h:(if 0<k then(0:E) else k)=0:=(by split<;>omega);have j:=Au (z:=ZK t) O O;have l:(0:E)<=ZK t:=O;have i:t.extract 0 (ZK t)=t:=ByteArray.extract_zero_size;clear a;refine q_ ?_;go_upto_region 0 with fail;refine rg_ w 10 λe=>?_;refine G_ ?_;refine le_ ?_;rw[show i64.wrap 0=0 from X];go_upto_region 1 with fail;refine rg_ w 16 λe=>?_;refine G_ ?_;refine le_ ?_;go_wp2;go_end0;exact⟨X,fm 0 b,(tp_ w f 0 _).drew.drew⟩
def vo(x:Qk w G db s fr a sc fl)(A:0<=k):C_ 111 #[P_ db,I k] w λc w'=>c=ZI (Y5 #[])/\Qk w' G db (ez s) ZP sc sc ZP/\Aa G w w':=by
 have⟨m,p,q,r,t,u,v,y⟩:=x.cells;have a9:=lt_ m;have g:=Y x;clear x;refine q_ ?_;go_upto_region 1 with fail;have e:=(tp_ w db 2 (Y7 ZP)).put 3 (Y7 sc);have x:=g.put (s':={s with h:=s.a,t:=s.n}) e (fm 3 (fm 2 g.d)) g.y g.y g.f ⟨g.z.2.1,g.z.2⟩;have o:=K_ x (e.m (S':=G) λk _ c=>c ▸ g.g);clear m p q r t u v y e g;generalize (ZO (ZO w (J db 2) (Y7 ZP))) (J db 3) (Y7 sc)=b2 at *;have⟨m,p,q,r,t,u,v,y⟩:=x.cells;clear x;go_wp2_with fail
 apply (uh ZP sc).m;rintro c N ⟨b1,rfl,D,l⟩;obtain⟨a4,a0,rfl,S⟩:=Gg D;have j:=K_ (o.1.q l) (o.2.q l)
 have Q:K (∀k,k<F (fiL [ZP,sc])->∃i f,a4=T ⟨i,0,ZP⟩/\D_ N i k (P_ f)/\sc=T ⟨f,0,ZP⟩/\H_ N f #[Q_ s.n,I (ZK s.n)] 196/\G f/\i≠f/\i≠db):=λk A=>by
  obtain⟨i,rfl,_⟩:=S O;have L:=(B_ D i X).1;have d:=lt_ m
  rcases o.1.y with⟨_,rfl,_⟩|⟨_,f,rfl,z,h⟩
  ·cases A
  have n:=lt_ (n_ 0 h)
  obtain rfl:k=0:=by simpa [fiL] using A
  exact⟨i,f,X,Hn D X,X,ab_ l h,z,O,O⟩
 have b0:F (fiL [ZP,sc])<=1:=(by cases sc<;>simp[fiL]);generalize (F (fiL [ZP,sc]))=n at *;clear D l S m p q r t u v y o;go_wp2_with fail
 go_loopw [19] (λh d=>∃k:H,h=I k/\k<=n/\K (Qk d G db {s with h:=s.a,t:=s.n} ZP sc sc fl/\Aa G w d/\(k=0->d=N))) (m1_ n)
 exact⟨0,X,O,j.1,j.2,λ_=>X⟩;obtain⟨M,rfl,a8,d⟩:=hrel
 by_cases a3:M<n
 ·obtain rfl:M=0:=O;obtain⟨i,f,rfl,a1,rfl,h,z,a5,a6⟩:=Q 0 a3;obtain rfl:=d.2.2 X;have a7:=F_ 0 n;have R:=ZkH h j.1.z.2.1 A;have L:=K_ h z;clear h z;go_wp2_with fail
  apply R.m;rintro c W ⟨rfl,h,e⟩
  have P:K (Qk W G db {s with h:=s.a,t:=s.n} ZP (T (J f 0)) (T (J f 0)) fl/\Aa G w W):=⟨j.1.c (λb a0 b3 _ l _=>by
   by_cases c:b=f
   subst c;exact h.T (L.1.s.T l)
   exact e.g l c) λ_ _ a2=>a2,j.2.T (e.m λk _ c=>c ▸ L.2)⟩
  clear h e R a1 d j L;refine J_ ?_;exact⟨1,g_,O,P.1,P.2,O⟩
 have h:¬(M:E)<n:=O;have⟨m,p,q,r,t,u,v,y⟩:=d.1.cells;clear Q j;go_wp2;go_end0;have e:=(tp_ wr db 6 (Y7 ZP)).put 1 (ZR Z0);exact⟨X,d.1.put e (fm 1 (fm 6 d.1.d)) d.1.y d.1.y (ZM ⟨X,X⟩) ⟨d.1.z.1,d.1.z.1,by show(-1:E)<=_;decide⟩,d.2.1.T (e.m λk _ c=>c ▸ d.1.g)⟩
end
section
variable {w w' W:ZT} {G:H->Prop} {t b:ZC} {db i:H} {s:SS}
def tq.P{d c}(e:Aa G w W)(a:tq G db b i d W c w'):tq G db b i d w c w':=⟨a.1,a.2.1,e.T a.2.2⟩
def Aa.d{c a b e}(f:Aa c w W)(d:D_ w a b e)(g:¬c a):D_ W a b e:=(cb_ (w:=w) (a:=J a b) (f.block _ (lt_ d) g)).T d
def Oq.zero{a}(f:Oq w G db b s i):Oq w G db a s 0:=by obtain⟨e,c,g,d,h,-⟩:=f;exact⟨e,c,g,d,h,O,O⟩
def Oq.e{G':H->Prop}(d:Oq w G db b s 0)(k:∀b a c,G b->H_ w b a c->H_ W b a c)(j:∀e,e<B w.1->G e->G' e):Oq W G' db b s 0:=by obtain⟨h,f,l,g,m,-⟩:=d;exact⟨h,f,l,g,m.c (λb a c i d _=>k b a c i d) j,O,O⟩
def Oq.a(g:Oq w G db b s i)(L:0<s.l):∃c,s.l<=9223372036854775807/\D_ w db 6 (P_ c)/\D_ w c 0 (I s.l)/\(∀k,YT w (J c k)=ZZ)/\c≠db/\Oq (ZO w (J c 0) (I (s.l-1))) G db b (On s) i/\Aa G w (ZO w (J c 0) (I (s.l-1))):=by
 obtain⟨y,q,N,P,a,z,A⟩:=g
 rcases a.f with⟨d,_⟩|⟨_,c,o,rfl,n,D,h⟩
 omega;have m:=tp_ w c 0 (I (s.l-1))
 have j:∀{b e l},H_ w b e l->l≠199->H_ _ b e l:=λf Q=>m.g f λd=>by subst d;have:=h.s.T f;grind
 have d:On s={s with l:=s.l-1}:=aD L;refine⟨c,a.z.2.2,n_ 6 a.d,n_ 0 h,λk=>R_ k _ _ h,λd=>?_,d ▸ ⟨y,q,N,_,⟨j a.d C,a.g,a.a.c (λb e _ _ f=>j f C) λ_ _ g=>g,a.y.c (λb e _ _ f=>j f C) λ_ _ g=>g,ZJ ⟨?_,c,o,X,n,D,fm 0 h⟩,a.z.1,a.z.2.1,?_⟩,λp e=>?_,A⟩,m.m λo _ d=>d ▸ n⟩;subst d;have:=h.s.T a.d;grind;show 0<=s.l-1;omega;have:=a.z.2.2;show s.l-1<=_;omega;obtain⟨M,r,t,u,v,x⟩:=z p e;exact⟨M,r,t,u,v,j x C⟩
def Po{o m n}(g:Oq w G db b s i)(z:∀W,Sem.run Y8 (callFunc o (m++n)) W=.ok (.enter o (m++n)) W)(j:∀W,Oq W G db b (On s) i->Aa G w W->C_ o (m++n) W (tq G db b i (Ze b i (On s)) W)):C_ 110 #[P_ db,YX (.func o) m n] w (tq G db b i (stS b i s) w):=by
 by_cases h:s.l=0
 ·rw[show stS b i s=_ from aD h];obtain⟨y,t,A,x,a,-⟩:=g
  rcases a.f with⟨f,_⟩|⟨_,u,L,rfl,D,p,d⟩
  omega;rw[h] at d;have r:=n_ 6 a.d;have v:=n_ 0 d;have q:=n_ 1 d;have c:=Y (vo a p);clear a d j z h;refine q_ ?_;go_wp2_with fail
  apply c.m;rintro f l ⟨rfl,a,e⟩;have k:K (tq G db b i (6,ez s) w _ l):=⟨X,⟨_,_,_,_,a,s_,s_⟩,e⟩;clear a e c;go_wp2;go_ret;exact k
 rw[show stS b i s=_ from aC h]
 by_cases p:0<s.l
 ·obtain⟨u,D,r,v,y,A,a,e⟩:=g.a p;have c:=Y (j _ a e);have t:=Y e;have x:(s.l==0)=ZZ:=aO h;clear g j a e;generalize Ze b i (On s)=q at *;generalize s.l=L at *;refine q_ ?_;go_wp2_with fail
  apply c.m;rintro f l ⟨rfl,d⟩;have k:K (tq G db b i q w _ l):=tq.P t ⟨X,d⟩;clear c d;go_wp2;go_ret;exact k
 obtain⟨y,t,A,x,a,d⟩:=id g
 rcases a.f with⟨f,rfl⟩|⟨f,_⟩
 ·have r:=n_ 6 a.d;have e:On s=s:=aC p;rw[e] at j ⊢;have c:=Y (j w g (.refl _ _));clear a g d j h p f e;generalize Ze b i s=q at *;refine q_ ?_;go_wp2_with fail
  apply c.m;rintro f l ⟨rfl,d⟩;have k:K (tq G db b i q w _ l):=⟨X,d⟩;clear c d;go_wp2;go_ret;exact k
 omega
def Zim{d e a}(l:D_ w d 0 (P_ db))(m:D_ w e 0 (Q_ b))(g:C_ 105 #[P_ db,Q_ b] w (tq G db b i a w)):C_ 104 #[P_ d,P_ e] w (tq G db b i a w):=by
 have c:=Y g;clear g;refine q_ ?_;go_wp2_with fail
 apply c.m;rintro k j ⟨rfl,f⟩;have h:K (tq G db b i a w _ j):=⟨X,f⟩;clear c f;go_wp2;go_ret;exact h
def fnV(db a b:H):H->ZY
 |0=>YX (.func 106) #[P_ db] #[]
 |1=>YX (.func 104) #[] #[P_ a,P_ b]
 |2=>YX (.func 107) #[P_ db] #[]
 |3=>YX (.func 108) #[P_ db] #[]
 |_=>YX (.func 109) #[P_ db] #[]
def Zin{e f}(o:i<5)(d:Oq w G db b s i)(l:¬G e)(m:¬G f)(j:D_ w e 0 (P_ db))(k:D_ w f 0 (Q_ b))(n:∀h,B w.1<=h->G h)(g:ZK b<=1000000):C_ 110 #[P_ db,fnV db e f i] w (tq G db b i (stS b i s) w):=by
 rcases(show i=0∨i=1∨i=2∨i=3∨i=4 by omega) with rfl|rfl|rfl|rfl|rfl
 exact Po d (λW=>k_) λW a c=>ZdK a (n _ c.size);exact Po d (λW=>k_) λW a c=>Zim (c.d j l) (c.d k m) (ZiN a g);exact Po d (λW=>k_) λW a c=>ZlI a;exact Po d (λW=>k_) λW a c=>ZeR a g;exact Po d (λW=>k_) λW a c=>ti a
def svS(b:ZC)(s:SS):E×SS:=if s.p=Z0 then(5,s) else Sh b 5 s
def Zx(G:H->Prop)(db:H)(a:E×SS)(w:ZT)(b:Ending)(w':ZT):Prop:=b=ZI (I a.1)/\Oq w' G db ⟨#[]⟩ a.2 0/\Aa G w w'
def Yf(a:i<5):Sh b (5-i) s=if(stS b i s).1=0 then Sh b (4-i) (stS b i s).2 else stS b i s:=by rw[show 5-i=4-i+1 by omega,Sh,show 4-(4-i)=i by omega]
def Zg9(d:Oq w G db b s 0)(M:∀a,B w.1<=a->G a)(a2:ZK b<=1000000):C_ 63 #[P_ db,Q_ b] w (Zx G db (svS b s) w):=by
 have⟨a7,a5,b1,a6,S,_⟩:=id d;have v:=n_ 1 S.d;have a9:=lt_ v;have o:=K_ d M;have⟨l,h⟩:=ez_ (svS b s);rw[h.out];clear d S M
 cases u:s.p with
 | true=>
  rw[u] at v;have n:K (Zx G db l w (ZI (I 5)) (ZN (ZN w (O_ #[P_ db] 124)) (O_ #[Q_ b] 9))):=(by have c:E_ w (ZN (ZN w (O_ #[P_ db] 124)) (O_ #[Q_ b] 9)):=r_.alloc s_ _;rw[show l=(5,s) from h.out.s.T (aD u)];exact⟨X,(o.1.e (λ_ _ _ _=>ab_ c) λ_ _ d=>d).zero,.a c⟩);clear h o;refine q_ ?_;go_wp2;go_ret;exact n
 | false=>
  rw[u] at v;have h:K (Sh b 5 s=l):=(aC (by simp[u])).s.T h.out;refine q_ ?_;go_wp2_with fail
  generalize P:ZN (ZN (ZN w (O_ #[P_ db] 124)) (O_ #[Q_ b] 9)) (O_ #[YX (.func 106) #[P_ db] #[],YX (.func 104) #[] #[P_ (B w.1),P_ (B w.1+1)],YX (.func 107) #[P_ db] #[],YX (.func 108) #[P_ db] #[],YX (.func 109) #[P_ db] #[]] 77)=g
  have k:K (B g.1=B w.1+3/\E_ w g/\D_ g (B w.1) 0 (P_ db)/\D_ g (B w.1+1) 0 (Q_ b)/\∀i,i<5->D_ g (B w.1+1+1) i (fnV db (B w.1) (B w.1+1) i)):=by
   subst P;refine⟨s_,(r_.alloc s_ _).alloc t_ _,by simp[go_sem],by simp[go_sem],λi a3=>?_⟩
   rcases(show i=0∨i=1∨i=2∨i=3∨i=4 by omega) with rfl|rfl|rfl|rfl|rfl<;>simp[go_sem,fnV]
  clear P;have L:K (Oq g (λa=>G a/\a<B w.1∨B w.1+3<=a) db b s 0):=o.1.e (λ_ _ _ _=>ab_ k.2.1) λa a0 a1=>ZM ⟨a1,a0⟩;go_loopw [25] (λe c=>∃i:H,e=I i/\i<=5/\K (∃f,Oq c (λa=>G a/\a<B w.1∨B w.1+3<=a) db b f i/\Sh b (5-i) f=l/\Aa (λa=>G a/\a<B w.1∨B w.1+3<=a) g c)) (m1_ 5)
  exact⟨0,X,O,s,L,h,.refl _ _⟩;obtain⟨i,rfl,a3,A⟩:=hrel;have D:K (∀r,Aa (λa=>G a/\a<B w.1∨B w.1+3<=a) g r->Aa G w r):=λr c=>(Aa.a k.2.1).c c λa m=>m.elim (λd=>ZM d.1) λd=>ZJ O
  by_cases x:i<5
  ·obtain⟨f,e,y,c⟩:=A;have Q:=c.d k.2.2.1 O;have W:=c.d (k.2.2.2.2 i x) O;have a4:=c.size;have z:=Y (Zin x e O O Q (c.d k.2.2.2.1 O) (λa j=>ZJ (by have:=k.1;omega)) a2);have N:=Y c;rw[Yf x] at y;have j:=Y y;have a8:=F_ i 5;clear e y c a4 L;generalize fnV db (B w.1) (B w.1+1) i=r at *;generalize stS b i f=q at *;go_wp2_with fail
   apply z.m;rintro m R ⟨rfl,e,c⟩;have t:=Y (N.T c);clear z c N W Q
   by_cases p:q.1=0
   ·have n:K (∃f,Oq R (λa=>G a/\a<B w.1∨B w.1+3<=a) db b f (i+1)/\Sh b (5-(i+1)) f=l/\_):=⟨q.2,by rw[aD p] at e;exact e,by rw[aD p] at j;rw[show 5-(i+1)=4-i by omega];exact j,t⟩;clear e j t;rw[p];refine J_ ?_;exact⟨i+1,g_,O,n⟩
   have n:K (Zx G db l w (ZI (I q.1)) R):=(by rw[aC p] at j;rw[<- j.out];exact⟨X,Oq.e (G':=G) e.zero (λ_ _ _ _ d=>d) λa _ m=>m.elim (·.1) λd=>o.2 _ O,D _ t⟩);have b0:(q.1==0)=ZZ:=aO p;clear e j t;generalize q.1=b2 at *;go_wp2;go_ret;exact n
  obtain rfl:i=5:=O;obtain⟨f,e,rfl,c⟩:=A;have n:K (Zx G db (0,f) w _ wr):=⟨X,Oq.e (G':=G) e.zero (λ_ _ _ _ d=>d) λa _ m=>m.elim (·.1) λd=>o.2 _ O,D _ c⟩;clear e c;go_wp2;go_ret;exact n
end
def ZdT(x b:E)(a:SS):E×SS:=if x<0∨b<0 then(1,a) else if a.p=Z0 then(5,a) else if x=0 then(0,ez a) else(0,{a with l:=x})
def Ze0(a:SS):E×SS:=if a.p=Z0 then(0,{a with p:=ZZ}) else(1,a)
def cg(a:SS):ZC×E:=if a.p=Z0 then(⟨#[]⟩,5) else if a.h=Z0 then(a.t,0) else(⟨#[]⟩,4)
section
variable {w w' W:ZT} {G:H->Prop} {t b:ZC} {db i:H} {s:SS} {x y:E}
def Zx.c{z}(a:Oq w G db b s i):Zx G db (z,s) w (ZI (ZX ZQ z)) w:=⟨X,a.zero,.refl _ _⟩
def Zg7(f:Oq w G db b s 0)(q:G (B w.1))(t:x<=9223372036854775807):C_ 65 #[P_ db,I x,I y] w (Zx G db (ZdT x y s) w):=by
 unfold ZdT;have⟨o,m,v,A,a,_⟩:=id f;have h:=n_ 1 a.d;have l:=n_ 6 a.d;have n:=λu=>R_ u _ _ a.d;have r:=lt_ h;have d:=K_ f a;clear f a
 by_cases f:x<0∨y<0
 ·rw[aD f];have c:=Y (Zx.c (z:=1) d.1);clear d h
  by_cases p:x<0
  all_goals
   refine q_ ?_;go_wp2;go_ret;exact c
 rw[aC f];have p:¬x<0:=O;have D:¬y<0:=O
 by_cases g:s.p=Z0
 ·rw[aD g];rw[g] at h;have c:=Y (Zx.c (z:=5) d.1);clear d g;refine q_ ?_;go_wp2;go_ret;exact c
 rw[aC g];rw[eq_false_of_ne_true g] at h;clear g
 by_cases i:x=0
 ·rw[aD i];subst x;have j:=Y (vo (k:=y) d.2 O);clear d l n;refine q_ ?_;go_wp2_with fail
  apply j.m;rintro k z ⟨rfl,a,e⟩;have c:K (Zx G db (0,ez s) w _ z):=⟨X,⟨_,_,_,_,a,O,O⟩,e⟩;clear j a e;go_wp2;go_ret;exact c
 rw[aC i];have i:(x==0)=ZZ:=aO i;have a:=d.2.q (w':=ZN w (O_ #[I x,I y] 199)) r_;have e:=((Aa.refl (λj=>j=db) (ZN w (O_ #[I x,I y] 199))).put 6 (P_ (B w.1)))
 have c:K (Zx G db (0,{s with l:=x}) w (ZI (ZX ZQ 0)) (ZO (ZN w (O_ #[I x,I y] 199)) (J db 6) (P_ (B w.1)))):=
  ⟨X,⟨o,m,v,_,a.put (s':={s with l:=x}) e (fm 6 a.d) a.a a.y (ZJ ⟨by show 0<=x;omega,_,y,X,q,O,hn_⟩) ⟨a.z.1,a.z.2.1,t⟩,O,O⟩,(Aa.a r_).T (e.m λj _ k=>k ▸ a.g)⟩
 rw[setCell_alloc_past _ _ _ _ r] at c;clear d a e;refine q_ ?_;go_wp2;go_ret;exact c
def ZdN(g:Oq w G db b s 0):C_ 66 #[P_ db] w (Zx G db (Ze0 s) w):=by
 unfold Ze0;have⟨k,i,m,o,d,_⟩:=id g;have h:=n_ 1 d.d;have n:=λl=>R_ l _ _ d.d;have a:=K_ g d;clear g d
 by_cases c:s.p=Z0
 ·rw[aD c];rw[c] at h;have f:=(tp_ w db 1 (ZR ZZ));have e:K (Zx G db (0,{s with p:=ZZ}) w (ZI (ZX ZQ 0)) _):=⟨X,⟨k,i,m,_,a.2.put f (fm 1 a.2.d) a.2.a a.2.y a.2.f a.2.z,O,O⟩,f.m λp _ j=>j ▸ a.2.g⟩;clear a f c;refine q_ ?_;go_wp2;go_ret;exact e
 rw[aC c];rw[eq_false_of_ne_true c] at h;have e:=Y (Zx.c (z:=1) a.1);clear a c;refine q_ ?_;go_wp2;go_ret;exact e
def Zg8(f:Oq w G db b s 0):C_ 64 #[P_ db] w (V_ (Y5 #[YW (cg s).1,ZX ZQ (cg s).2]) w):=by
 unfold cg;have⟨n,j,o,m,d,_⟩:=f;have e:=n_ 1 d.d;have i:=n_ 3 d.d;have h:=d.a;clear f d
 by_cases a:s.p=Z0
 ·rw[aD a];rw[a] at e;clear a h;refine q_ ?_;go_wp2;go_ret2
  exact⟨X,X⟩
 rw[aC a];rw[eq_false_of_ne_true a] at e;clear a
 rcases h with⟨c,rfl,_⟩|⟨c,k,rfl,_,g⟩
 ·rw[aC (by simp[c])];clear c;refine q_ ?_;go_wp2;go_ret2
  exact⟨X,X⟩
 rw[aD c];have l:=n_ 0 g;clear c g;refine q_ ?_;go_wp2;go_ret2
 exact⟨X,X⟩
end
structure er(b)(c)(a:SS):Prop where
 d:H_ b c #[I a.i,ZR a.p,ZR a.h,Q_ a.t,ZR a.a,Q_ a.n,I a.l,I 0] 293
 z:ZK a.t<=1000000/\ZK a.n<=1000000/\a.l<=9223372036854775807
def RsQ(c:H)(a:E×SS)(f:ZT)(d:Ending)(b:ZT):Prop:=d=ZI (I a.1)/\er b c a.2/\Aa (λe=>e=c) f b
section
variable {w w' W:ZT} {b:ZC} {yb i:H} {s:SS} {x y:E}
def er.cells(a:er w yb s):D_ w yb 0 (I s.i)/\D_ w yb 1 (ZR s.p)/\D_ w yb 2 (ZR s.h)/\D_ w yb 3 (Q_ s.t)/\D_ w yb 4 (ZR s.a)/\D_ w yb 5 (Q_ s.n)/\D_ w yb 6 (I s.l)/\∀b,YT w (J yb b)=ZZ:=
 ⟨n_ 0 a.d,n_ 1 a.d,n_ 2 a.d,n_ 3 a.d,n_ 4 a.d,n_ 5 a.d,n_ 6 a.d,λb=>R_ b _ _ a.d⟩
def ug(b:er w yb s):C_ 188 #[P_ yb] w λc w'=>c=ZI (Y5 #[])/\er w' yb (ez s)/\Aa (λa=>a=yb) w w':=by have⟨d,e,f,g,h,i,j,k⟩:=b.cells;have a:=Y b;clear b;refine q_ ?_;go_wp2;go_end0;exact⟨X,⟨fm 3 (fm 2 (fm 6 (fm 1 a.d))),a.z.2.1,a.z.2.1,by show(-1:E)<=_;decide⟩,(((tp_ w yb 1 _).put 6 _).put 2 _).put 3 _⟩
def nxS(s:SS):SS:=if s.l=0 then ez s else On s
def Zh8(a:er w yb s):C_ 187 #[P_ yb] w λf w'=>f=ZI (ZR (ZE (s.l≠0)))/\er w' yb (nxS s)/\Aa (λb=>b=yb) w w':=by
 unfold nxS;have⟨j,k,l,m,n,o,h,p⟩:=a.cells;have c:=Y a;have q:=a.z.2.2
 by_cases b:s.l=0
 ·rw[aD b];rw[b] at h;have e:=Y (ug a);clear a;refine q_ ?_;go_wp2_with fail
  apply e.m;rintro f g ⟨rfl,a⟩;have d:=Y a;clear e a;go_wp2;go_ret;exact⟨by simp[b],d⟩
 rw[aC b];unfold On;have i:(s.l==0)=ZZ:=aO b;clear a
 by_cases e:0<s.l
 ·rw[aD e];have g:=tp_ w yb 6 (I (s.l-1));have d:K (er (ZO w (J yb 6) (I (s.l-1))) yb {s with l:=s.l-1}):=⟨fm 6 c.d,c.z.1,c.z.2.1,by show s.l-1<=_;omega⟩;clear c;refine q_ ?_;go_wp2;go_ret;exact⟨by rw[aF b];rfl,d,g⟩
 rw[aC e];refine q_ ?_;go_wp2;go_ret;exact⟨X,c,.refl _ _⟩
def Zj8{a d}(e:i<5)(c:Sh b (5-i) s=a)(f:s.l≠0)(g:Ze b i (On s)=(0,d)):Sh b (5-(i+1)) d=a:=by rw[Yf e,show stS b i s=_ from aC f,g] at c;rw[show 5-(i+1)=4-i by omega];exact c
def Zh7{a5}(p:er w yb s)(a3:ZK b<=1000000)(a1:∀W,E_ w W->C_ 76 #[P_ a5] W (U_ (Q_ b) W)):C_ 130 #[P_ yb,P_ a5] w (RsQ yb (svS b s) w):=by
 have⟨y,t,z,A,D,G,L,M⟩:=p.cells;have u:=K_ p a1;have⟨h,q⟩:=ez_ (svS b s);rw[q.out];clear p a1
 by_cases v:s.p=Z0
 ·rw[v] at t;rw[show h=(5,s) from q.out.s.T (aD v)];refine q_ ?_;go_wp2;go_ret;exact⟨X,u.1,.refl _ _⟩
 have q:K (Sh b 5 s=h):=(aC v).s.T q.out;rw[eq_false_of_ne_true v] at t;clear v;refine q_ ?_;go_wp2_with fail
 apply (u.2 _ y_).m;rintro P a6 ⟨rfl,R⟩;have N:K (er a6 yb s/\Aa (λx=>x=yb) w a6):=⟨⟨ab_ R u.1.d,u.1.z⟩,.a R⟩;clear u R y t z A D G L M;go_wp2_with fail
 go_loopw [6] (λc d=>∃i:H,c=I (i+1:H)/\i<=5/\K (∃a,er d yb a/\Sh b (5-i) a=h/\Aa (λx=>x=yb) w d)) (λc _=>6-ZL (intOf c))
 exact⟨0,X,O,s,N.1,q,N.2⟩;obtain⟨i,rfl,a8,a0⟩:=hrel;clear N q
 by_cases Q:i<5
 ·obtain⟨a,f,a2,l⟩:=a0;have S:=Y (Zh8 f);have r:=K_ a2 l;have a7:((i+1:H):E)<=5:=O;clear f a2 l;go_wp2_with fail
  apply S.m;rintro P k ⟨rfl,f,l⟩;have g:=Y (r.2.T l);clear S l
  by_cases m:a.l=0
  ·have e:K (RsQ yb h w (ZI (ZX ZQ 6)) k):=(by have:=r.1;rw[Yf Q,show stS b i a=_ from aD m] at this;rw[<- this];exact⟨X,(show nxS a=_ from aD m) ▸ f,g⟩);have P:ZE (a.l≠0)=ZZ:=(by simp[m]);rw[P];clear f r;go_wp2;go_ret;exact e
  have f:er k yb (On a):=(show nxS a=_ from aC m) ▸ f;rw[aF m];have⟨y,t,z,A,D,G,L,M⟩:=f.cells;have a9:=f.z.1;have d:=Y f;have j:K (∀{c},Ze b i (On a)=(0,c)->Sh b (5-(i+1)) c=h):=Zj8 Q r.1 m
  have o:K (∀{c},Ze b i (On a)=(7,c)->(7,c)=h):=λ{c} p=>by have:=r.1;rw[Yf Q,show stS b i a=_ from aC m,p] at this;exact this
  clear f r m;generalize On a=c at *
  rcases(show i=0∨i=1∨i=2∨i=3∨i=4 by omega) with rfl|rfl|rfl|rfl|rfl
  ·have e:K (∃a,er k yb a/\Sh b (5-1) a=h/\_):=⟨c,d,j X,g⟩;clear d j o g y t z A D G L M;go_wp2;go_roundw;exact⟨1,g_,O,e⟩;exact z_
  ·by_cases a4:c.i<ZK c.t+ZK b
   ·have e:K (∀n,RsQ yb h w (ZI (ZX ZQ 7)) (Y1 k n)):=λn=>o (aD ⟨X,a4⟩) ▸ ⟨X,⟨d.d,d.z⟩,g.q (below_drewN y_ n)⟩;have x:(c.i:E)<ZK c.t+ZK b:=O;clear d j o g;go_upto_region 12 with fail;go_quiet (fail);go_wp2;go_ret;exact e _
   have e:K (∀n,∃a,er (Y1 k n) yb a/\Sh b (5-2) a=h/\Aa (λx=>x=yb) w (Y1 k n)):=λn=>⟨c,⟨d.d,d.z⟩,j (aC λp=>a4 p.2),g.q (below_drewN y_ n)⟩;have x:¬(c.i:E)<ZK c.t+ZK b:=O;clear d j o g;go_upto_region 12 with fail;go_quiet (fail);go_wp2;go_roundw;exact⟨2,g_,O,e _⟩;exact z_
  ·have e:K (∃a,er k yb a/\Sh b (5-3) a=h/\_):=⟨c,d,j X,g⟩;clear d j o g y t z A D G L M;go_wp2;go_roundw;exact⟨3,g_,O,e⟩;exact z_
  ·have e:K (∃a,er (ZO (ZO k (J yb 2) (ZR Z0)) (J yb 3) (Q_ b)) yb a/\Sh b (5-4) a=h/\_):=⟨{c with h:=Z0,t:=b},⟨fm 3 (fm 2 d.d),a3,d.z.2⟩,j X,g.T ((tp_ k yb 2 (ZR Z0)).put 3 (Q_ b))⟩;clear d j o g;go_wp2;go_roundw;exact⟨4,g_,O,e⟩;exact z_
  have e:K (∃a,er (ZO (ZO k (J yb 4) (ZR Z0)) (J yb 5) (Q_ b)) yb a/\Sh b (5-5) a=h/\_):=⟨{c with a:=Z0,n:=b},⟨fm 5 (fm 4 d.d),d.z.1,a3,d.z.2.2⟩,j X,g.T ((tp_ k yb 4 (ZR Z0)).put 5 (Q_ b))⟩;clear d j o g;go_wp2;go_roundw;exact⟨5,g_,O,e⟩;exact z_
 obtain rfl:i=5:=O;obtain⟨a,f,rfl,l⟩:=a0;have e:K (RsQ yb (0,a) w _ wr):=⟨X,f,l⟩;clear f l;go_wp2;go_ret;exact e
def Zh2(b:er w yb s)(p:x<=9223372036854775807):C_ 132 #[P_ yb,I x,I y] w (RsQ yb (ZdT x y s) w):=by
 unfold ZdT;have⟨j,h,k,l,m,n,r,t⟩:=b.cells;have a:=Y b;clear b j k l m n
 by_cases b:x<0∨y<0
 ·rw[aD b]
  by_cases o:x<0
  all_goals
   refine q_ ?_;go_wp2;go_ret;exact⟨X,a,.refl _ _⟩
 rw[aC b];have o:¬x<0:=O;have v:¬y<0:=O
 by_cases c:s.p=Z0
 ·rw[aD c];rw[c] at h;clear c;refine q_ ?_;go_wp2;go_ret;exact⟨X,a,.refl _ _⟩
 rw[aC c];rw[eq_false_of_ne_true c] at h;clear c;have d:K (er (ZO w (J yb 6) (I x)) yb {s with l:=x}/\Aa (λe=>e=yb) w (ZO w (J yb 6) (I x))):=⟨⟨fm 6 a.d,a.z.1,a.z.2.1,p⟩,tp_ w yb 6 (I x)⟩;clear a
 by_cases e:x=0
 ·rw[aD e];subst x;have f:=Y (ug d.1);refine q_ ?_;go_wp2_with fail
  apply f.m;rintro u q ⟨rfl,i,g⟩;have d:K (RsQ yb (0,ez s) w _ q):=⟨X,i,d.2.T g⟩;clear f i g;go_wp2;go_ret;exact d
 rw[aC e];have e:(x==0)=ZZ:=aO e;refine q_ ?_;go_wp2;go_ret;exact⟨X,d⟩
def ZeN(c:er w yb s):C_ 133 #[P_ yb] w (RsQ yb (Ze0 s) w):=by
 unfold Ze0;have⟨e,d,f,g,h,i,j,k⟩:=c.cells;have b:=Y c;clear c e f g h i j
 by_cases a:s.p=Z0
 ·rw[aD a];rw[a] at d;clear a;refine q_ ?_;go_wp2;go_ret;exact⟨X,⟨fm 1 b.d,b.z⟩,tp_ w yb 1 _⟩
 rw[aC a];rw[eq_false_of_ne_true a] at d;clear a;refine q_ ?_;go_wp2;go_ret;exact⟨X,b,.refl _ _⟩
end
def ZmU:(prog.info? 29).map (λa=>(a.zero,a.size,a.bytes))=T (T (N_),1,24):=k_
theorem Ai.e{c n m b}(j:Ai c n m b)(l:F b<=4194304):∃g h,m=ZH g (F b) h/\Cj c g b/\(g=ZP->h=0)/\F b<=h:=by
 have i:=j
 rcases j.2 with⟨rfl,k⟩|⟨d,o,s,rfl,_,p,q,_⟩
 exact⟨ZP,0,by rw[k],⟨l,ZM k⟩,λ_=>X,O⟩;refine⟨_,o,X,⟨l,ZJ ⟨d,0,X,?_⟩⟩,(λe=>by cases e),q⟩
 have t:∀a,a<F b->D_ c d (a*4) (I (Z b a e0).v)/\D_ c d (a*4+1) (I (Z b a e0).t)/\D_ c d (a*4+2) (I (Z b a e0).h)/\D_ c d (a*4+3) (I (Z b a e0).g)/\∀r,YT c (J d r)=ZZ:=λa f=>by have e:b=ZU a b++Z b a e0::ZF (a+1) b:=(by grind [drop_eq_getElem_cons,take_append_drop]);rw[e] at i;exact Ai.at (n:=F b) (by rw[<- e] at i ⊢;exact i) (by rw[<- e]) t_
 refine⟨λ_=>(Qb p).1,λa f=>?_,λa f=>?_,λa f=>?_,λa f=>?_⟩
 ·grind
 ·grind
 ·grind
 grind
def Ai.m{e b b' d a}(c:Ai e b' d a)(j:b<=b'):Ai e b d a:=by
 refine⟨c.1,?_⟩
 rcases c.2 with l|⟨i,f,g,h,k,m⟩
 exact ZM l;exact ZJ ⟨i,f,g,h,aG j k,m⟩
structure kj(e:ZT)(c)(f)(d)(a:U (U Cd)):Prop where
 M:ZD e c 29 1 f (F a) d
 j:∀b,b<F a->Ai e c (Z d b (N_)) (Z a b [])
def Zdb(e:ZT)(b:H)(c:ZY)(a:U (U Cd)):Prop:=∃d,kj e b c d a
def Ai.grown{w g}{b h c m l:H}{f e a n}(d:Ai w b f a)(i:ZD w h c m e l n)(k:c≠98)(j:Y3 w g (ZW e)):Ai g b f a:=
 World.ownsRow.kept d j (Ap i d k)
def kj.q{f w' base d e a}(b:kj f base d e a)(c:E_ f w'):kj w' base d e a:=
 ⟨(Aa.a (S:=λ_=>False) c).M b.M (λ_ _=>id),λh g=>(b.j h g).q c⟩
def kj.put{h k e o j i d c b g}(f:kj h k (L_ e j o) d c)(s:j=F c)(t:Ai h k b g)(u:i<j):kj (ZO h (J e i) b) k (L_ e j o) (d.set i b) (c.set i g)/\Y3 h (ZO h (J e i) b) (T e):=by
 subst s;obtain⟨r,n⟩:=World.ownsRow.stored f.M i b;have v:F d=F c:=p_ f.M.1;refine⟨⟨by simpa using r,λa p=>?_⟩,n⟩;simp only[length_set] at p
 by_cases q:a=i
 subst q;have l:Z (d.set a b) a (N_)=b:=w_;have m:Z (c.set a g) a []=g:=w_;rw[l,m];exact t.grown f.M C n;have l:Z (d.set i b) a (N_)=Z d a (N_):=w_;have m:Z (c.set i g) a []=Z c a []:=w_;rw[l,m];exact(f.j a p).grown f.M C n
def kj.h{e h i g c}(d:kj e h i g c)(m:0<F c):∃b f,i=L_ b (F c) f/\h<=b/\b<B e.1/\(∀a,a<F c->ZV e (J b a)=T (Z g a (N_)))/\∀a,YT e (J b a)=ZZ:=by
 have p:F g=F c:=p_ d.M.1
 rcases d.M.2 with⟨_,n⟩|⟨b,f,l,rfl,j,k,_⟩
 omega;refine⟨b,f,X,j,(Qb k).1,λa o=>?_,λa=>World.ownsRow.frozenAt d.M a⟩;rw[World.ownsRow.cellAt d.M a O]
 grind
def Qy(b:U (U Cd))(a:H):U (U Cd):=Y6 a []++ZF a b
def nl{a b}(c:b<=F a):F (Qy a b)=F a:=by simp[Qy];omega
def Zm2{b a}:Z (Qy b a) a []=Z b a []:=by simp[Qy,Z,getElem?_append_right]
def ZbD{b a}(d:a<F b) c:(Qy b a).set a c=Y6 a []++c::ZF (a+1) b:=by unfold Qy;rw[aN d,set_append_right _ _ s_,length_replicate,Nat.sub_self,set_cons_zero]
def ZhC{b a}(c:a<F b):(Qy b a).set a []=Qy b (a+1):=by rw[ZbD c,Qy,replicate_succ',append_assoc];rfl
def Ze7{size}{a:U (U Cd)}{l b}(c:b<F a)(d:F (Z a b [])=0):Av size (ZF b a) l=l::ZF (b+1) a:=by
 rw[aN c]
 grind [Av]
def ZcN{size}{a:U (U Cd)}{l b}(c:b<F a)(d:F (Z a b [])≠0):Av size (ZF b a) l=[]::Av size (ZF (b+1) a) (Ep (Bf (Z a b []) l) size):=by
 rw[aN c]
 grind [Av]
def gj{a:U (U Cd)}{b}(c:b<F a):Aw (ZF b a)=Ae (Z a b [])+Aw (ZF (b+1) a):=by rw[aN c];have:Z a b []=a[b]:=(by simp[Z,c]);rw[this];rfl
def Um{a:U (U Cd)}{b}(c:b<F a):Z a b []∈a:=w_
def Ze6{e} b3 c9 b {g d} p (d8:Zdb p e b3 b)(l:Ai p e c9 g)(c7:Gt b)(s:Bc g)(b0:F g<=32)(e4:2<=d)(g6:d<=32)(y:Aw b+Ae g<=1000000000000)(e1:F b<=1000)(g4:e<=B p.1):C_ 318 #[b3,c9,I d] p λa1 c=>∃a,a1=ZI a/\Zdb c e a (Av d b g)/\Below e p c:=by
 obtain⟨f8,a3⟩:=d8;obtain⟨g8,_⟩:=info_parts ZmU
 have e7:∃d4 d6,b3=ZH d4 (F b) d6:=by
  rcases a3.M.2 with⟨rfl,c⟩|⟨k,d7,a,rfl,_⟩
  ·grind
  grind
 obtain⟨d0,W,rfl⟩:=e7;have b6:=Y a3;have w:=x4_ l s b0 y;have a0:=Y c7;obtain⟨f,b1⟩:=W_ (F b);have q:=Y b1;rw[<- b1] at e1 ⊢;clear a3 l c7 s b0 y b1;refine q_ ?_;go_wp2_with fail
 go_loopw [11,1] (λj k h=>∃(a:H) (c:U Cd) (o:U ZY),j=I a/\a<=f/\K (kj h e (V d0 f W) o (Qy b a)/\Ai h e k c/\Bc c/\F c<=32/\Aw (ZF a b)+Ae c<=1000000000000/\Av d b g=Y6 a []++Av d (ZF a b) c)/\Below e p h) (m4_ f)
 exact⟨0,g,f8,X,v_,⟨by have:=b6.out;rw[<- q] at this;exact this,w.1,w.2.1,w.2.2.1,w.2.2.2,X⟩,y_⟩;clear b6 w;obtain⟨a,c,o,rfl,c3,d3,P⟩:=hrel;obtain⟨n,l,s,b0,y,u⟩:=d3
 skip
 have g7:=P.size
 by_cases a8:a<f
 ·have h:a<F b:=(by rw[<- q];exact a8);have a9:=nl (show a<=F b by omega);obtain⟨k,d7,e6,c2,g5,a6,a7⟩:=n.h O;injection e6 with hv1 hv2 hv3;subst hv1 hv3;clear hv2;have Q:=a6 a O;have M:=n.j a O;rw[Zm2] at M;have D:=a0.j _ (Um h);have e8:=a0.y _ (Um h);have f5:=gj h;obtain⟨d5,b7,b2,a2,e2,_⟩:=M.e O;rw[b2] at Q;have e0:=a7 a;have g1:=F_ a f;have A:=Y n;obtain⟨m,j,R,x,t,_⟩:=l.e O;subst R
  by_cases L:F (Z b a [])=0
  ·have r:=Ze7 (size:=d) (l:=c) h L;have v:K (Zdb (ZO wr (J k a) (V m (F c) j)) e (L_ k f W) (Av d b g)/\Below e p (ZO wr (J k a) (V m (F c) j))):=(by obtain⟨S,c8⟩:=n.put (i:=a) (a9 ▸ q) l a8;refine⟨⟨o.set a (V m (F c) j),?_⟩,P.setCell c2 _⟩;rw[u,r,<- ZbD h];exact S);rw[L] at Q;clear n l a6 M a2 x b2 u a7 r a9 t;go_wp2;go_ret;exact⟨_,X,v.1,v.2⟩
  have r:=ZcN (size:=d) (l:=c) h L;have g3:((F (Z b a []):E)==0)=_:=aO O;have f2:=(Dk D).1;have f3:=(Dk s).1;have f4:=Gb (Ls:=ZF (a+1) b) (λz v=>a0.j z (mem_of_mem_drop v));have G:=Fy D s O;have b8:=G.e (Ge G d);have e9:=Jh (Bf (Z b a []) c) e4;have f0:=Mq (Z b a []) c;have f6:Ae (Ep (Bf (Z b a []) c) d)=Ae (Z b a [])+Ae c:=(by rw[Gn,Fc]);have b5:=Y (mz b7 j a2 x D s)
  have z:K (Bc (Bf (Z b a []) c)/\F (Bf (Z b a []) c)<=64/\Bc (Ep (Bf (Z b a []) c) d)/\F (Ep (Bf (Z b a []) c) d)<=32/\Aw (ZF (a+1) b)+Ae (Ep (Bf (Z b a []) c) d)<=1000000000000/\Av d b g=Y6 (a+1) []++Av d (ZF (a+1) b) (Ep (Bf (Z b a []) c) d)):=(by refine⟨G,O,b8,O,O,?_⟩;rw[u,r,replicate_succ',append_assoc];rfl);have d2:=Y h;clear n l a6 M a2 x b2 u a7 r a9 G b8 e9 f0 f6 f2 f3 f4 D e8 f5 y s e2 t L h;generalize (F (Z b a []))=f1 at *;go_wp2_with fail
  apply b5.m;rintro a1 f9 ⟨h0,rfl,c6,a5⟩;have e5:=a5.size;obtain⟨g0,g2,rfl,c0,c4,_⟩:=c6.e (p_ z.2.1);have b4:=Y (ym d c0 z.1 c4);clear c6 c0 c4 b5;generalize (F (Bf (Z b a []) c))=g9 at *;go_wp2_with fail
  apply b4.m;rintro a1 v ⟨f7,rfl,c5,c1⟩;have N:=a5.T (c1.m e5)
  have d9:∃d1,K (kj (ZO v (J k a) (N_)) e (L_ k f W) d1 (Qy b (a+1))/\Ai (ZO v (J k a) (N_)) e f7 (Ep (Bf (Z b a []) c) d)/\Bc (Ep (Bf (Z b a []) c) d)/\F (Ep (Bf (Z b a []) c) d)<=32/\Aw (ZF (a+1) b)+Ae (Ep (Bf (Z b a []) c) d)<=1000000000000/\Av d b g=Y6 (a+1) []++Av d (ZF (a+1) b) (Ep (Bf (Z b a []) c) d))/\Below e p (ZO v (J k a) (N_))/\D_ v k a (V d5 f1 b7)/\YT v (J k a)=ZZ:=by
   have a4:=A.q N;have h:=d2.out;have t:f=F (Qy b a):=(nl (Nat.le_of_lt h)) ▸ q;obtain⟨S,c8⟩:=a4.put (i:=a) t (Ai.nil v e) a8;rw[ZhC h] at S;have e3:=(c5.m (show e<=B f9.1 by omega)).grown a4.M C c8;refine⟨_,⟨S,e3,z.2.2⟩,?_,?_,?_⟩;exact(P.T (N.m O)).setCell c2 _;exact T_ N Q;have b9:=a4.M;rw[<- t] at b9;exact World.ownsRow.frozenAt b9 a
  obtain⟨d1,S,a4,b9,c8⟩:=d9;clear c5 c1 N a5 A b4 z Q e0;go_wp2;go_roundw
  grind
  exact z_
 have a6:a=f:=O;have r:Av d b g=Y6 a []++[c]:=(by rw[u,drop_eq_nil_of_le (p_ q.out)];rfl);have t:F (Qy b a)=f:=(by rw[nl (by have:=q.out;omega)];exact q.s);have L:Qy b a=Y6 a []:=(by unfold Qy;rw[drop_eq_nil_of_le (p_ q.out),append_nil]);have a7:¬a<(f:E):=O;obtain⟨m,j,R,x,a2,_⟩:=l.e O;subst R;have A:=Y n;have h:K (ZD wr e 29 1 (V d0 f W) f o):=gh_ n.M;have S:=Y l;have Q:K (Av d b g=Qy b a++[c]):=L ▸ r;clear n l r L u s y x a2;go_wp2_with (at_builtin;refine ap_ [V m (F c) j] (h.alloc _) ?_)
 intro a4 M N
 have v:K (Zdb M e a4 (Av d b g)/\Below e p M):=by
  obtain⟨a9,D,b2,_⟩:=N;have R:F o=f:=p_ h.1;refine⟨⟨o++[V m (F c) j],?_⟩,?_⟩
  ·rw[Q];refine⟨w_,λi G=>?_⟩;rw[Qe,t] at G;simp at G
   by_cases a5:i<f
   have k:Z (o++[ZH m (F c) j]) i (N_)=Z o i (N_):=w_;have z:Z (Qy b a++[c]) i []=Z (Qy b a) i []:=w_;rw[k,z];exact((A.j i O).alloc _).grown (h.alloc _) C D;have a1:i=f:=O;subst a1;have k:Z (o++[ZH m (F c) j]) i (N_)=ZH m (F c) j:=w_;have z:Z (Qy b a++[c]) i []=c:=w_;rw[k,z];exact(S.alloc _).grown (h.alloc _) C D
  exact P.T ((y_.alloc O _).grown D t_ (λa c3=>(h.lt a c3).1))
 skip
 go_wp2;go_ret;exact⟨_,X,v.1,v.2⟩
def Zjb:Prop:=∀f i b l c wc g j a,Ck a f b g->Ck a i c j->b<=2097152->c<=2097152->
  C_ 45 #[V f b l,V i c wc] a λk h=>∃e d,k=ZI e/\Ej (Ao g j) d/\Ai h (B a.1) e (Bo 0 d)/\E_ a h
def kc{vs ws}(f:F vs<=2097152):Bc (Ko vs ws)/\F (Ko vs ws)<=F vs/\Ae (Ko vs ws)<=1000*F vs:=by
 have c:=Tw (Ao vs ws);have d:Bc (Ko _ _):=c.j f;have j:=Lh vs ws;refine⟨d,?_,?_⟩
 ·have:=d.y (U:=(Ao vs ws).map λa=>a.1) (λe h=>by
   obtain⟨a,b,g,_⟩:=(Uv (gf (Ao vs ws)) 0).1 e h;obtain⟨l,k,i⟩:=c.e a b
   grind)
  grind
 have g:=(jf.a c).e;have e:=Uz (ps:=Ao vs ws) (λa b=>(Jm b).1.2)
 grind [Ko]
def Ck.i{d a c b fr m e}(f:Ck d (T (J a c)) b e)(l:fr+m<=b):Ck d (T (J a (c+fr))) m (ZU m (ZF fr e)):=by
 obtain⟨j,g,k⟩:=f;refine⟨t_,λi h=>g i (mem_of_mem_drop (aL h)),?_⟩
 grind
def Uo{i j a b h d k}(l:Ck i (T (J a b)) h k)(f:Below d i j)(r:a<d):Ck j (T (J a b)) h k:=by
 obtain⟨m,n,c⟩:=l;refine⟨m,n,?_⟩
 rcases c with c|⟨t,u,e,s,o⟩
 exact ZM c;injection e with e;injection e with e1 e2;subst e1 e2;exact ZJ ⟨a,b,X,Qh s f.size,λg q=>(f.cell (p:=(J a (b+g))) r).T (o g q)⟩
def zi(b1:Zjb){c4 c6}{d t u a:H}{e f h}(s:Ck h c4 d e)(Q:Ck h c6 d f)(g4:d<=1000)(f7:d<=t)(f8:d<=u)(g6:2<=a)(g7:a<=32):C_ 274 #[V c4 d t,V c6 d u,I a] h λi k=>∃j,i=ZI j/\Ai k (B h.1) j (Dw a e f)/\E_ h k:=by
 have a3:=Y s;have a4:=Y Q;have a2:=Y b1;have v:=K_ s.1 Q.1;clear s Q b1;refine q_ ?_;go_wp2_with fail
 go_loopw [7,8] (λi g c=>∃(fr p:H) (b:U (U Cd)),g=I fr/\fr<=d+a/\K (Zdb c (B h.1) i b/\Gt b/\Aw b<=1000*(fr:E)/\F b<=fr/\d-fr<=p/\Dv a p b (ZF fr e) (ZF fr f)=Dv a d [] e f)/\E_ h c) (m2_ (d+a))
 exact⟨0,d,[],X,v_,⟨⟨[],rn_,λg8 d4=>by simp at d4⟩,Gt.nil,by simp[Aw],s_,O,X⟩,y_⟩;obtain⟨fr,p,b,rfl,f9,l,y⟩:=hrel;have c2:=y.size
 by_cases g3:fr<d
 ·rcases a3.out with⟨_,_,a9|⟨a7,c0,rfl,b2,_⟩⟩;omega;rcases a4.out with⟨_,_,a9|⟨a8,c1,rfl,b4,_⟩⟩;omega;obtain⟨g,a1⟩:=W_ (min (fr+a) d);have c3:fr<(d:E):=O;have S:fr<=(g:E):=O;have W:g<=(t:E):=O;have a0:g<=(u:E):=O;have c8:¬t=fr:=O;have c9:¬u=fr:=O;have n:=Y a1;clear a1;have c7:g-fr<=a:=p_ n.out;go_upto_region 5 with fail;go_cut [9] (λj c=>j=I g/\c=wr)
  case first=>
   by_cases j:(fr:E)+(a:E)<=(d:E)
   ·have c:g=fr+(a:E):=p_ n.out;have i:=Y c;clear c S W a0;go_wp2;go_meet
    exact⟨by rw[i.out],X⟩
   have c:g=(d:E):=p_ n.out;have i:=Y c;clear c S W a0;go_wp2;go_meet
   exact⟨by rw[i.out],X⟩
  obtain⟨rfl,a5⟩:=hcut;obtain rfl:=a5.s;clear a5
  have L:K (∀c:ZT,E_ h c->C_ 45 #[V (T (J a7 (c0+fr))) (g-fr) (t-fr),V (T (J a8 (c1+fr))) (g-fr) (u-fr)] c λi k=>∃j,i=ZI j/\Ai k (B c.1) j (Ko (ZU a (ZF fr e)) (ZU a (ZF fr f)))/\E_ c k):=by
   intro c q;have M:=(Uo a3 q b2);have N:=(Uo a4 q b4);have w:=M.i (fr:=fr) (m:=g-fr) (p_ n.out);have z:=N.i (fr:=fr) (m:=g-fr) (p_ n.out)
   have r:∀o:U E,F o=d->ZU (g-fr) (ZF fr o)=ZU a (ZF fr o):=λo R=>by
    by_cases j:fr+a<=d
    rw[show g-fr=a by have:=n.out;omega];rw[aI (by simp;have:=n.out;omega),aI t_]
   rw[r _ v.1] at w;rw[r _ v.2] at z;apply (a2 _ _ _ _ _ _ _ _ c w z O O).m;rintro i k ⟨j,P,rfl,A,G,D⟩;refine⟨j,X,?_,D⟩;unfold Ko;rw[ZcK A];exact G
  obtain⟨N,z,b8,b7,b6,j⟩:=l.out;have A:=kc (vs:=ZU a (ZF fr e)) (ws:=ZU a (ZF fr f)) w_;have b5:F (ZU a (ZF fr e))<=a:=t_;have D:=Va (size:=(a:E)) O O z A.1 O O;obtain⟨o,R⟩:∃o,p=o+1:=⟨p-1,O⟩;have P:Dv a o (Av a b (Ko (ZU a (ZF fr e)) (ZU a (ZF fr f)))) (ZF (fr+a) e) (ZF (fr+a) f)=Dv a d [] e f:=by rw[<- j,R];simp only[Dv];rw[aC w_,drop_drop,drop_drop]
  have a6:K (Gt (Av a b (Ko (ZU a (ZF fr e)) (ZU a (ZF fr f))))/\Aw (Av a b (Ko (ZU a (ZF fr e)) (ZU a (ZF fr f))))<=1000*(fr+a:H)/\F (Av a b (Ko (ZU a (ZF fr e)) (ZU a (ZF fr f))))<=fr+a/\d-(fr+a)<=o/\Dv a o (Av a b (Ko (ZU a (ZF fr e)) (ZU a (ZF fr f)))) (ZF (fr+a) e) (ZF (fr+a) f)=Dv a d [] e f):=by refine⟨D.1,?_,?_,O,P⟩;rw[D.2];omega;have:=qh (a:E) b (Ko (ZU a (ZF fr e)) (ZU a (ZF fr f)));omega
  have G:K (∀c w,E_ wr c->Ai c (B h.1) w (Ko (ZU a (ZF fr e)) (ZU a (ZF fr f)))->C_ 318 #[u7,w,I a] c λi k=>∃q,i=ZI q/\Zdb k (B h.1) q (Av a b (Ko (ZU a (ZF fr e)) (ZU a (ZF fr f))))/\Below (B h.1) c k):=(by intro c w q i;obtain⟨c5,r⟩:=N;exact Ze6 u7 w b c ⟨c5,r.q q⟩ i z A.1 O O O O O (p_ q.size));clear N z b8 b7 b6 j A b5 D P l;generalize Ko (ZU a (ZF fr e)) (ZU a (ZF fr f))=c at *;go_wp2_with fail
  go_region_held3 (λ_=>True) (trivial) (first|(go_at_call 45;apply (L.out _ y.drew).m;rintro i f0 ⟨k,rfl,b9,x⟩)|(go_at_call 318;apply (G _ _ (y_.drew.T x) (b9.m (by have:=x.size;simp at this ⊢;omega))).m;rintro i f1 ⟨k,rfl,b0,b3⟩))
  have k:=Y b0;have M:=(y.drew.T (x.m c2)).T b3;clear b0 b3 x b9 L G R;refine J_ ?_;exact⟨fr+a,o,_,g_,O,⟨k,a6⟩,M⟩
 have g5:¬fr<(d:E):=O
 have n:K (Zdb wr (B h.1) u7 b/\Gt b/\Aw b<=2000000/\F b<=2000/\Dw a e f=Fw a [] b):=by
  obtain⟨i,c,o,q,j,g⟩:=l;refine⟨i,c,O,O,?_⟩;unfold Dw;rw[v.1,<- g]
  cases p with
  |zero=>rfl
  | succ k=>
   simp only[Dv];rw[aD (by simp;have:=v.out;omega)]
 obtain⟨c5,r⟩:=n.1
 have e2:∃c8 c9,u7=ZH c8 (F b) c9:=by
  rcases r.M.2 with⟨rfl,i⟩|⟨d3,d1,c,rfl,_⟩
  ·grind
  grind
 obtain⟨g9,h1,rfl⟩:=e2;have c7:=Y r;have q:=x3_ n.2.1 n.2.2.1 n.2.2.2.2;have d6:=n.2.2.2.1;obtain⟨m,P⟩:=W_ (F b);have a1:=Y P;rw[<- P] at d6 ⊢;clear r P n a2;obtain⟨S,e3⟩:∃S,S=wr:=⟨wr,X⟩;subst e3;go_wp2_with fail
 go_loopw [40,10] (λj R i=>∃(c:H) (g:U Cd),j=I c/\c<=m/\K (Ai i (B h.1) R g/\Bc g/\F g<=32/\Ae g+Aw (ZF c b)<=2000000/\Fw a g (ZF c b)=Fw a [] b)/\E_ S i) (m4_ m)
 exact⟨0,[],X,v_,⟨Ai.nil _ _,Bc.nil,s_,by have:=q.2.1;simpa [Ae] using this,X⟩,y_⟩;obtain⟨c,g,rfl,g2,l,z⟩:=hrel;have e0:=z.size
 by_cases d5:c<m
 ·have o:c<F b:=(by rw[<- a1];exact d5);obtain⟨b2,G,h0,R,j⟩:=l.out;have L:=c7.q z;obtain⟨d3,d1,s,g0,g1,b5,_⟩:=L.h O;injection s with hv1 hv2 hv3;subst hv1 hv3;clear hv2;have b6:=b5 c o;have a6:=L.j c o;have D:=q.1.j _ (Um o);have e4:=q.1.y _ (Um o);have e7:=gj o;have e8:=Gb (Ls:=ZF (c+1) b) (λk i=>q.1.j k (mem_of_mem_drop i));obtain⟨f4,d2,c3,a9,d8,_⟩:=a6.e O;rw[c3] at b6;obtain⟨f2,d0,e1,a7,d7,_⟩:=b2.e O;subst e1;have b7:ZF c b=Z b c []::ZF (c+1) b:=by rw[aN o];grind
  rw[b7] at j;simp only[Fw] at j;have w:=Fy G D O;have a5:=w.e (Ge w a);have e5:=Jh (Bf g (Z b c [])) (size:=(a:E)) O;have e6:=Mq g (Z b c []);have e9:Ae (Ep (Bf g (Z b c [])) a)=Ae g+Ae (Z b c []):=(by rw[Gn,Fc]);have a0:=Y (mz d0 d2 a7 a9 G D);have A:K (Bc (Bf g (Z b c []))/\F (Bf g (Z b c []))<=64/\Bc (Ep (Bf g (Z b c [])) a)/\F (Ep (Bf g (Z b c [])) a)<=32/\Ae (Ep (Bf g (Z b c [])) a)+Aw (ZF (c+1) b)<=2000000/\_):=⟨w,O,a5,O,O,j⟩;have f5:=F_ c m;clear b2 G R j L b5 a6 D e4 e7 e8 c3 a9 d8 a7 d7 b7 w a5 e5 e6 e9 l;generalize (F (Z b c []))=h3 at *;go_wp2_with fail
  apply a0.m;rintro i f0 ⟨h5,rfl,c1,N⟩;have d9:=N.size;obtain⟨f3,f6,rfl,a8,b8,_⟩:=c1.e (p_ A.2.1);have W:=Y (ym a a8 A.1 b8);clear c1 a8 b8 a0;generalize (F (Bf g (Z b c [])))=h2 at *;go_wp2_with fail
  apply W.m;rintro i f1 ⟨h4,rfl,c0,b4⟩;have M:=z.T ((N.T (b4.m d9)).m e0);have k:K (Ai _ (B h.1) _ _):=c0.m O;clear c0 b4 N W b6;refine J_ ?_;exact⟨c+1,_,g_,O,⟨k,A.2.2⟩,M⟩
 have o:¬c<(m:E):=O;have k:K (Ai wr (B h.1) u10 (Dw a e f)/\E_ h wr):=by obtain⟨i,_,_,_,j⟩:=l;rw[drop_eq_nil_of_le (p_ a1.out)] at j;simp only[Fw] at j;rw[q.2.2,<- j];exact⟨i,y.T (z.m c2)⟩
 skip
 go_wp2;go_ret;exact⟨_,X,k.1,k.2⟩
def Qs:Except (E×H) RS->E×E
  |.error (b,a)=>(b,a)
  |.ok _=>(0,0)
def Vo(d:ZT)(b:H)(a:ZG)(e c:E):Prop:=d.1[b]? =T (O_ #[Y7 ZP,ZR a,I e,I c] 119)
section
variable {w:ZT} {K M:H->Prop} {b c rb fb cb n:H} {wd:H->ZG} {sc ct:H->E} {bins size budget:E} {s:RS} {a:H}
def ZgJ.drewN{f o}(j:ZgJ w K M b c rb fb cb n wd sc ct bins size budget a f o){h}:ZgJ w K M b c rb fb cb n wd sc ct bins size budget a f (Y1 o h):=by
 obtain⟨g,d⟩:=j;refine⟨?_,⟨d.os,d.tape,d.output,d.size,d.block⟩⟩
 cases f with
 |error l=>exact g
 | ok m=>
  obtain⟨i,e,k⟩:=g;exact⟨i,⟨e.q,e.r,e.w.p (w':=Y1 o h) (S:=λ_=>False) ⟨X,X,X,x_,λ_ _ _=>X⟩ (λ_ _=>id),e.t,e.u⟩,k⟩
def Zj4{d}(f:InX w K M b c rb fb cb n wd sc ct bins size budget s a)(m:Ja n s)(r:1<=n)(q:n<=4)(t:∀g,g<n->wd g=false->0<=sc g/\sc g<=3)(p:a+d.size<=4000000000000000000):C_ 32 #[P_ b,Q_ d] w λh e=>h=.returned (.tuple #[.int .i64 (Qs (Bt n wd sc s (Ab d) a)).1,.int .i64 (Qs (Bt n wd sc s (Ab d) a)).2])/\ZgJ w K M b c rb fb cb n wd sc ct bins size budget (a+d.size) (Bt n wd sc s (Ab d) a) e:=by
 have k:=Y (Zeb f m r q t p);have v:=n_ 1 f.q;have x:=n_ 2 f.q;refine dl_ ?_;go_enter func32,ntmps32;go_wp2_with fail
 apply k.m;rintro h j ⟨rfl,e⟩;have l:=Y e
 have o:D_ j b 2 (I (Qs (Bt n wd sc s (Ab d) a)).1)/\D_ j b 3 (I (Qs (Bt n wd sc s (Ab d) a)).2):=by
  cases i:Bt n wd sc s (Ab d) a with
  | error y=>
   rw[i] at e;exact⟨M_ 2 _ _ _ e.1,M_ 3 _ _ _ e.1⟩
  | ok z=>
   rw[i] at e;obtain⟨⟨u,f,_⟩,_⟩:=e;exact⟨M_ 2 _ _ _ f.q,M_ 3 _ _ _ f.q⟩
 obtain⟨i,u⟩:=o;go_wp2_with fail
 go_big_quiet (fail);go_wp2;go_ret2
 exact⟨rfl,l.drewN⟩
end
def ZdV{f d} a e {c}(b:Vo c d ZZ a e)(h:a=2∨a=3):C_ 32 #[P_ d,Q_ f] c λg j=>g=ZI (Y5 #[ZX ZQ a,ZX ZQ e])/\∃i,j=Y1 c i:=by
 have g:=n_ 1 b;have i:=n_ 2 b;have j:=n_ 3 b
 rcases h with rfl|rfl
 all_goals go_enter func32,ntmps32
 all_goals go_wp2_with fail
 all_goals go_big_quiet (fail)
 all_goals go_wp2
 all_goals go_ret2
 all_goals exact⟨X,_,X⟩
def Zbj{c b f e a}(d:Vo a b Z0 f e):C_ 32 #[P_ b,Q_ c] a (V_ (Y5 #[ZX ZQ 1,ZX ZQ 0]) a):=by
 have g:=n_ 1 d;refine dl_ ?_;go_enter func32,ntmps32;go_wp2;go_ret2
 exact⟨X,X⟩
def jn(a:ZC)(b:H)(e:ZG)(d:H)(c:E):VS×H×E:=
 if Bp a b 0 c=Z0 then(⟨Z0,0,⟨#[]⟩⟩,b+1,0)
 else if e=Z0 then(⟨ZZ,0,ZB (iy a b).1⟩,Pa a (iy a b).2.1 (iy a b).2.2 c,Pt a (iy a b).2.1 (iy a b).2.2 c)
 else(⟨ZZ,(jk a b 0 d).1,⟨#[]⟩⟩,Pa a (jk a b 0 d).2.1 (jk a b 0 d).2.2 c,Pt a (jk a b 0 d).2.1 (jk a b 0 d).2.2 c)
def Fl.p{d w' K a S b e c}(f:Fl d a S b e c)(h:Aa K d w')(g:¬K a):Fl w' a S b e c:=h.g f g
def Fl.lt{b a c k f e}(d:Fl b a c k f e):a<B b.1:=(Qb d).1
structure xh(b a:ZT)(d h c:H)(f)(k)(j)(g)(i)(e:VS):Prop where
 r:Fl a d f c k i
 u:a.1[B b.1]? =T (O_ #[ZR j,I h,I g] 51)
 o:a.1[B b.1+1]? =T (O_ #[ZR ZZ,I 0,Q_ ⟨#[]⟩] 335)
 vl:a.1[B b.1+1+1]? =T (O_ #[ZR e.a,I e.num,Q_ e.f] 335)
 t:Aa (λc=>c=d) b a
 n:d<B b.1
section
variable {w W d:ZT} {b sc a q':H} {S:ZC} {y e:E} {wd:ZG} {ct:E} {c:ZY} {v:VS}
def xh.p(f:xh w W b sc a S y wd ct c v)(i:Fl d b S q' e c)(g:Aa (λa=>a=b) W d):xh w d b sc q' S e wd ct c v:=
 have h:=f.n
 ⟨i,g.g f.u O,g.g f.o O,g.g f.vl O,f.t.T g,h⟩
def xh.f(d:xh w W b sc a S y wd ct c v) f:xh w (ZO W (J (B w.1+1+1) 2) (Q_ f)) b sc a S y wd ct c ⟨v.a,v.num,f⟩:=by have h:=d.n;have e:Aa _ W (ZO W _ (Q_ f)):=(Aa.refl (λg=>g=B w.1+1+1) _).setCell (p:=(J (B w.1+1+1) 2)) (λ_=>X) _;exact⟨d.r.p e O,e.g d.u O,e.g d.o O,ht_ 2 _ _ _ d.vl,d.t.setCell (p:=(J (B w.1+1+1) 2)) (λg=>absurd g w_) _,h⟩
def xh.num(d:xh w W b sc a S y wd ct c v) f:xh w (ZO W (J (B w.1+1+1) 1) (I f)) b sc a S y wd ct c ⟨v.a,f,v.f⟩:=by have h:=d.n;have e:Aa _ W (ZO W _ (I f)):=(Aa.refl (λg=>g=B w.1+1+1) _).setCell (p:=(J (B w.1+1+1) 1)) (λ_=>X) _;exact⟨d.r.p e O,e.g d.u O,e.g d.o O,ht_ 1 _ _ _ d.vl,d.t.setCell (p:=(J (B w.1+1+1) 1)) (λg=>absurd g w_) _,h⟩
def xh.cells(d:xh w W b sc a S y wd ct c v):(ZV W (J (B w.1) 0)=T (ZR wd)/\ZV W (J (B w.1) 1)=T (I sc))/\(ZV W (J (B w.1+1+1) 0)=T (ZR v.a)/\ZV W (J (B w.1+1+1) 1)=T (I v.num)/\ZV W (J (B w.1+1+1) 2)=T (Q_ v.f)/\YT W (J (B w.1+1+1) 1)=ZZ/\YT W (J (B w.1+1+1) 2)=ZZ)/\ZV W (J (B w.1+1) 0)=T (ZR ZZ)/\ZV W (J (B w.1+1) 1)=T (I 0)/\ZV W (J (B w.1+1) 2)=T (Q_ ⟨#[]⟩)/\YT W (J (B w.1+1) 0)=ZZ/\YT W (J (B w.1+1) 1)=ZZ/\YT W (J (B w.1+1) 2)=ZZ:=
 ⟨⟨M_ 0 _ 51 (0,0) d.u,M_ 1 _ 51 (0,0) d.u⟩,⟨M_ 0 _ 335 (0,0) d.vl,M_ 1 _ 335 (0,0) d.vl,M_ 2 _ 335 (0,0) d.vl,R_ 1 _ 335 d.vl,R_ 2 _ 335 d.vl⟩,M_ 0 _ 335 (0,0) d.o,M_ 1 _ 335 (0,0) d.o,M_ 2 _ 335 (0,0) d.o,R_ 0 _ 335 d.o,R_ 1 _ 335 d.o,R_ 2 _ 335 d.o⟩
def xh.h(f:xh w W b sc a S y wd ct c v):∃d,d=ZO (ZO (ZO W (J (B w.1+1) 0) (ZR v.a)) (J (B w.1+1) 1) (I v.num)) (J (B w.1+1) 2) (Q_ v.f)/\(ZV d (J (B w.1+1) 0)=T (ZR v.a)/\ZV d (J (B w.1+1) 1)=T (I v.num)/\ZV d (J (B w.1+1) 2)=T (Q_ v.f))/\Fl d b S a y c/\Aa (λa=>a=b) w d:=by
 have h:=f.n;have g:=ht_ 2 _ _ (Q_ v.f) (ht_ 1 _ _ (I v.num) (ht_ 0 _ _ (ZR v.a) f.o));refine⟨_,X,⟨M_ 0 _ _ _ g,M_ 1 _ _ _ g,M_ 2 _ 335 _ g⟩,f.r.p ((((Aa.refl (λe=>e=B w.1+1) W).setCell (p:=(J (B w.1+1) 0)) (λ_=>X) (ZR v.a)).setCell (p:=(J (B w.1+1) 1)) (λ_=>X) (I v.num)).setCell (p:=(J (B w.1+1) 2)) (λ_=>X) (Q_ v.f)) O,?_⟩;exact((f.t.setCell (p:=(J (B w.1+1) 0)) (λe=>absurd e w_) _).setCell (p:=(J (B w.1+1) 1)) (λe=>absurd e w_) _).setCell (p:=(J (B w.1+1) 2)) (λe=>absurd e w_) _
def xh.g(e:Fl w b S a 0 c) f g:xh w (ZN (Y1 (ZN (ZN w (O_ #[ZR wd,I sc,I ct] 51)) (O_ #[ZR ZZ,I 0,Q_ ⟨#[]⟩] 335)) f) (O_ #[ZR g,I 0,Q_ ⟨#[]⟩] 335)) b sc a S 0 wd ct c ⟨g,0,⟨#[]⟩⟩:=by
 have p:Aa (λ_=>False) w (ZN w (O_ #[ZR wd,I sc,I ct] 51)):=(Aa.refl _ w).alloc _;have o:=ha_ w (O_ #[ZR wd,I sc,I ct] 51);have n:B (ZN w (O_ #[ZR wd,I sc,I ct] 51)).1=B w.1+1:=s_;generalize (ZN w) (O_ #[ZR wd,I sc,I ct] 51)=d at *;have l:Aa (λ_=>False) d (ZN d (O_ #[ZR ZZ,I 0,Q_ ⟨#[]⟩] 335)):=(Aa.refl _ _).alloc _;have j:=ha_ d (O_ #[ZR ZZ,I 0,Q_ ⟨#[]⟩] 335);have q:B (ZN d (O_ #[ZR ZZ,I 0,Q_ ⟨#[]⟩] 335)).1=B d.1+1:=s_;generalize (ZN d) (O_ #[ZR ZZ,I 0,Q_ ⟨#[]⟩] 335)=h at *;have i:Aa (λ_=>False) h (ZN (Y1 h f) (O_ #[ZR g,I 0,Q_ ⟨#[]⟩] 335)):=((Aa.refl _ _).drewN f).alloc _;have k:=ha_ (Y1 h f) (O_ #[ZR g,I 0,Q_ ⟨#[]⟩] 335);rw[heap_drewN,q,n] at k;rw[n] at j
 have m:=p.T (l.T i);exact⟨e.p m id,i.g (l.g o id) id,i.g j id,k,m.m (λ_ _ e=>e.elim),e.lt⟩
end
def Ze5{j b:H}(d:H) a {g} k {e m i}(G:Fl i j a b 0 m)(a1:b<=ZK a)(a2:g=ZZ->d<=3)(L:0<=e)(z:ZK a<=1000000000000000):C_ 287 #[P_ j,Y9 #[ZR g,I d,I k],ZX .u8 e] i λq f=>q=ZI (Y9 #[ZR (jn a b g d e).1.a,ZX ZQ (jn a b g d e).1.num,YW (jn a b g d e).1.f])/\Fl f j a (jn a b g d e).2.1 (jn a b g d e).2.2 m/\Aa (λc=>c=j) i f:=by
 have⟨w,t⟩:=ez_ (jn a b g d e);rw[t];refine dl_ ?_;go_enter func287,ntmps287;go_wp2_with fail
 apply (Fk b a 0 _ (ZN (ZN i (O_ #[ZR g,I d,I k] 51)) (O_ #[ZR ZZ,I 0,Q_ ⟨#[]⟩] 335)) (G.q (r_.alloc s_ _)) L).m;rintro q b3 ⟨rfl,u,rfl⟩;generalize a9:Bp a b 0 e=y at *;have l:=Y ((λu c=>xh.g (wd:=g) (sc:=d) (ct:=k) G u c) u y);go_upto_region 3 with fail;generalize (ZN (Y1 (ZN (ZN i (O_ #[ZR g,I d,I k] 51)) (O_ #[ZR ZZ,I 0,Q_ ⟨#[]⟩] 335)) u) (O_ #[ZR y,I 0,Q_ ⟨#[]⟩] 335))=x at *;have⟨A,D⟩:=l.cells.1
 cases y
 rotate_left
 focus
  have v:K (∃c f h,xh i x j d c a f g k m h/\w=(h,Pa a c f e,Pt a c f e)):=by
   refine⟨b,0,_,l,?_⟩;rw[<- t];unfold jn Pa Pt
   grind
  go_upto_region 7 with fail
 rotate_left
 cases g
 focus
  have Q:=Zao b a 0 l.r (a2 X) z;go_wp2_with fail
  apply Q.m;rintro q n ⟨rfl,r,s⟩;have o:=Y (l.p r s);have⟨⟨A,D⟩,⟨M,N,P,R,S⟩,_⟩:=o.cells;have p:=o.num (jk a b 0 d).1
  have v:K (∃c f h,xh i (ZO n (J (B i.1+1+1) 1) (I (jk a b 0 d).1)) j d c a f ZZ k m h/\w=(h,Pa a c f e,Pt a c f e)):=by
   refine⟨_,_,_,p,?_⟩;rw[<- t];unfold jn
   grind
  have c:=p.cells.1.1;go_upto_region 5 with fail;generalize (ZO n) (J (B i.1+1+1) 1) (I (jk a b 0 d).1)=x at *;go_upto_region 7 with fail
 rotate_left
 focus
  go_wp2_with fail
  apply (ZiA b a l.r a1 z).m;rintro q n ⟨rfl,r,s⟩;have o:=Y (l.p r s);have⟨⟨A,D⟩,⟨M,N,P,R,S⟩,_⟩:=o.cells;have p:=o.f (ZB (iy a b).1)
  have v:K (∃c f h,xh i (ZO n (J (B i.1+1+1) 2) (Q_ (ZB (iy a b).1))) j d c a f Z0 k m h/\w=(h,Pa a c f e,Pt a c f e)):=by
   refine⟨_,_,_,p,?_⟩;rw[<- t];unfold jn
   grind
  have c:=p.cells.1.1;go_upto_region 5 with fail;generalize (ZO n) (J (B i.1+1+1) 2) (Q_ (ZB (iy a b).1))=x at *;go_upto_region 7 with fail
 all_goals
  obtain⟨c,f,h,p,W⟩:=v;go_wp2_with fail
  apply ((Y (λn c f o=>ed j c a f _ m n o L z)) _ c f p.r).m;rintro q n ⟨rfl,r,s⟩;have o:=(Y p).p r s;have⟨_,⟨M,N,P,_,_⟩,b0,b1,b2,a6,a7,a8⟩:=o.cells;have⟨a5,a0,⟨Q,R,S⟩,a4,a3⟩:=o.h;go_wp2;rw[<- (Y a0)]
  (try simp only[Exit.inBlock,Exit.then])
  apply bodyPost_ret (v:=Y9 #[ZR h.a,I h.num,Q_ h.f]) (by simp[results,results287,go_sem,Q,R,S]) X;rw[(Y W)];exact⟨X,(K_ a4 a3)⟩
def Vv(e:ZC)(f:H)(h:H->ZG)(g:H->E):H->H->U VS->H->U VS×H×E
 |0,_,b,d=>(b,d,0)
 | i+1,c,b,d=>
  let a:=jn e d (h c) (ZL (g c)) (El c f)
  if a.2.2=0 then Vv e f h g i (c+1) (b++[a.1]) a.2.1 else(b++[a.1],a.2.1,a.2.2)
def iq(b:ZC)(e:H)(i:H->ZG)(h:H->E)(g:H):E×U VS×H×E:=
 let a:=Oh b g 0 2 ZZ
 let d:=Pa b a.2.2.1 a.2.2.2 44
 let f:=Pt b a.2.2.1 a.2.2.2 44
 if f=0 then let c:=Vv b e i h e 0 [] d;(a.1,c.1,c.2.1,c.2.2) else(a.1,[],d,f)
def Kr(d:ZC)(e:H)(g:H->ZG)(f:H->E):H->U (E×U VS)->H->U (E×U VS)×H×E
 |0,a,b=>(a,b,0)
 | h + 1,a,b=>
  if b<ZK d then
   if F a=200 then(a,b,3)
   else
    let c:=iq d e g f b
    if c.2.2.2=0 then Kr d e g f h (a++[(c.1,c.2.1)]) c.2.2.1 else(a,c.2.2.1,c.2.2.2)
  else(a,b,0)
section
variable {S:ZC}
theorem Zgh{a z b}(c:0<=b)(e:a<=ZK S):a<=Pa S a z b/\Pa S a z b<=ZK S:=by unfold Pa;split;rename_i d;have:=Hq c d;omega;omega
def ZfN{a c}(b:Ji S a c=Z0):a<ZK S:=(yn b).1
theorem Zn6 e f:∀d b c a,a<=ZK S->a<=(Py S e f d b c a).2.2/\(Py S e f d b c a).2.2<=ZK S
 |0,b,c,a,g=>by simp only[Py];omega
 | d+1,b,c,a,g=>by
  unfold Py;split;rename_i i;have h:=ZfN i.1;have:=Zn6 e f d (b+1) (10*c+(Eh S a-48)) (a+1) h;omega
  grind
def ZkX{a} d c b (e:a<=ZK S):a<=(Oh S a d c b).2.2.1/\(Oh S a d c b).2.2.1<=ZK S:=by grind [Oh,Zn6]
theorem ZnX d:∀c b a,a<=ZK S->a<=(Ym S d c b a).2.2/\(Ym S d c b a).2.2<=ZK S
 |0,b,a,e=>by simp only[Ym];omega
 | c+1,b,a,e=>by
  unfold Ym;split;rename_i g;have f:=ZfN g;have:=ZnX d c (10*b+(Eh S a-48)) (a+1) f;omega
  grind
theorem Zp0{a} b c (d:a<=ZK S):a<=(jk S a b c).2.1/\(jk S a b c).2.1<=ZK S:=by
 unfold jk;simp only;have e:a<=(if _=_ then _ else a)/\(if _=_ then _ else a)<=_:=Zgh (z:=b) (b:=45) C d;generalize (if Bp S a b 45=Z0 then a+1 else a)=g at *;have i:=ZkX b 5 Z0 e.2;generalize Oh S g b 5 Z0=h at *;unfold ptF;split
 ·rename_i f;have j:=Hq C f.1
  grind [ZnX]
 grind
def Zld:∀(c:H)(b:U E)(a:H),a<=ZK S->a<=(ij S c b a).2.1/\(ij S c b a).2.1<=ZK S
 |0,b,a,f=>by simp only[ij];omega
 | c +1,b,a,f=>by
  unfold ij;split
  ·rename_i h;have e:=Hq C h;split;rename_i d;have g:=Hq C d.1;have:=Zld c (b++[34]) (a+2) g;omega
   grind
  split;rename_i d;have e:=jr d.1;have:=Zld c (b++[Eh S a]) (a+1) e;omega
  grind
def ZkK:∀(c:H)(b:U E)(a:H),a<=ZK S->a<=(Nj S c b a).2/\(Nj S c b a).2<=ZK S
 |0,b,a,d=>by simp only[Nj];omega
 |c+1,b,a,d=>by unfold Nj;split;rename_i f;have e:=jr (by unfold pu;rw[f];rfl);have:=ZkK c (b++[Eh S a]) (a+1) e;omega;omega
theorem Zqo{a}(b:a<=ZK S):a<=(iy S a).2.1/\(iy S a).2.1<=ZK S:=by unfold iy;split;rename_i d;have c:=Hq C d;have:=Zld 9 [] (a+1) c;omega;exact ZkK 8 _ a b
def ZnW{a} d c {b}(e:0<=b)(g:a<=ZK S):a<=(jn S a d c b).2.1/\(jn S a d c b).2.1<=ZK S:=by
 unfold jn;split;rename_i f;have:=Hq e f;simp only;omega
 grind [Zqo,Zgh,Zp0]
def dv a b:0<=El a b:=by unfold El;split<;>decide
theorem ZnY d f e:∀g a c b,b<=ZK S->b<=(Vv S d f e g a c b).2.1/\(Vv S d f e g a c b).2.1<=ZK S
 |0,a,c,b,h=>by simp only[Vv];omega
 |g+1,a,c,b,h=>by have i:=ZnW (f a) (ZL (e a)) (dv a d) h;unfold Vv;simp only;split;have:=ZnY d f e g (a+1) (c++[(jn S b (f a) (ZL (e a)) (El a d)).1]) _ i.2;omega;exact i
def Zoa b d c {a}(e:a<=ZK S):(a<=(iq S b d c a).2.2.1/\(iq S b d c a).2.2.1<=ZK S)/\((iq S b d c a).2.2.2=0->a<(iq S b d c a).2.2.1):=by
 have f:=ZkX 0 2 ZZ e
 grind [iq,Zgh,ZnY,Pa,Pt,wrg]
end
theorem Nc a b:Ji a b 0=Cc (Eh a b):=by unfold Ji Cc;simp
theorem Zel a b:Yx a b 0=Fz (Eh a b):=by unfold Yx Fz;simp
theorem Hp a c b:Bp a c 0 b=ZE (Eh a c=b):=by unfold Bp;simp
def Zlv{a b}(c:Eh a b≠34):pu a b=Gh (Eh a b):=by grind [pu,Gh,Zel,Hp]
def te(c:ZC)(g:ZG)(f:E):H->Cm->U E->H->Y0 (Cm×U E)
 |0,b,a,_=>T (b,a)
 | h+1,b,a,d=>match As g f b a (Eh c d) with
  |some e=>te c g f h e.1 e.2 (d+1)
  |none=>ZP
def Gc(c:ZC)(j:ZG)(i:E)(g:Cm)(d:U E)(a:H)(h:Cm)(e:U E)(f:H):Prop:=∃b,f=a+b/\te c j i b g d a=T (h,e)
section
variable {S:ZC} {wd:ZG} {u:E} {p b f:Cm} {bs a c:U E} {k d e:H}
def Gc.refl:Gc S wd u p bs k p bs k:=⟨0,X,X⟩
def Zcu:∀(a b:H) (p:Cm) (bs:U E) (k:H),te S wd u (a+b) p bs k=(te S wd u a p bs k).bind (λc=>te S wd u b c.1 c.2 (k+a))
 |0,b,p,bs,k=>by simp[te]
 | a +1,b,p,bs,k=>by
  rw[show a+1+b=(a+b)+1 by omega];simp only[te]
  cases As wd u p bs (Eh S k) with
  |none=>rfl
  | some c=>
   simp only;rw[Zcu a b c.1 c.2 (k+1),show k+1+a=k+(a+1) by omega]
def Gc.T(h:Gc S wd u p bs k b a d)(g:Gc S wd u b a d f c e):Gc S wd u p bs k f c e:=by obtain⟨i,rfl,h⟩:=h;obtain⟨j,rfl,g⟩:=g;exact⟨i+j,O,by rw[Zcu,h];exact g⟩
def Gc.x(c:As wd u p bs (Eh S k)=Z2 (b,a)):Gc S wd u p bs k b a (k+1):=⟨1,X,by simp[te,c]⟩
end
def pD(c e:ZG)(a d:E)(b:H):Cm:=⟨if e=Z0 then 2 else 3,c,b,a,d*a,N_⟩
def Zgk d g j c:∀f a e b,1<=a->f+a=5->(c=Z0->a=1)->Gc d ZZ g (pD j c g e a) [] b (pD j c g (Py d 0 c f a e b).1 (Py d 0 c f a e b).2.1) [] (Py d 0 c f a e b).2.2/\1<=(Py d 0 c f a e b).2.1/\(c=Z0->(Py d 0 c f a e b).2.1=1)/\(c=Z0∨(Py d 0 c f a e b).2.1=5∨Cc (Eh d (Py d 0 c f a e b).2.2)=ZZ)
 |0,a,e,b,h,m,i=>by simp only[Py];exact⟨.refl,h,i,ZJ (ZM O)⟩
 | f +1,a,e,b,h,m,i=>by
  unfold Py;split
  ·rename_i k;have n:c=ZZ:=w_;subst n;have l:=Zgk d g j ZZ f (a+1) (10*e+(Eh d b-48)) (b+1) O O s_;refine⟨Gc.T (Gc.x ?_) l.1,l.2⟩;have o:Cc (Eh d b)=Z0:=(by rw[<- Nc];exact k.1);unfold As Do pD Lt
   grind
  rename_i k;simp only;refine⟨.refl,h,i,?_⟩
  grind [Nc]
def p1(a:ZG):Cm:=if a=Z0 then {part0 with n:=1,neg:=Z0} else part0
def Zhh{a d c b}(e:Cc (Eh a b)=Z0):As ZZ d (p1 c) [] (Eh a b)=T (pD c (ZE (Eh a b=48)) d (Eh a b-48) 1,[]):=by
 have f:=Mm e
 grind [As,Do,p1,part0,Rg,Io,pD]
def Znj{b g f a}:(Cc (Eh b a)=Z0/\(Oh b a 0 5 Z0).2.2.2=0/\∃c,Gc b ZZ g (p1 f) [] a (pD f c g (Oh b a 0 5 Z0).1 (Oh b a 0 5 Z0).2.1) [] (Oh b a 0 5 Z0).2.2.1/\(c=Z0∨(Oh b a 0 5 Z0).2.1=5∨Cc (Eh b (Oh b a 0 5 Z0).2.2.1)=ZZ))∨(Cc (Eh b a)=ZZ/\Oh b a 0 5 Z0=(0,0,a,2)):=by
 have c:Oh b a 0 5 Z0=(_,_,_,_):=aC s_
 cases e:Cc (Eh b a) with
 | true=>
  have d:Py b 0 (Bp b a 0 48) 5 0 0 a=Py b 0 (Bp b a 0 48) 4 1 (Eh b a-48) (a+1):=by
   conv=>lhs;unfold Py
   rw[aD ⟨by rw[Nc];exact e,s_⟩];simp
  rw[d] at c;have⟨h,j,k,i⟩:=Zgk b g f (Bp b a 0 48) 4 1 (Eh b a-48) (a+1) O O (λ_=>X);rw[c];refine ZM ⟨X,aC O,Bp b a 0 _,Gc.T (Gc.x ?_) h,i⟩;rw[Hp];exact Zhh e
 | false=>
  have d:Py b 0 (Bp b a 0 48) 5 0 0 a=(0,0,a):=(by unfold Py;rw[aC (λh=>by rw[Nc,e] at h;grind)]);rw[d] at c;exact ZJ ⟨X,c⟩
theorem eh:∀a,Ch a=10^a
 |0=>X
 |a+1=>by rw[Ch,eh a,Int.pow_succ]
def pF(d:ZG)(b:H)(e:E)(a:H)(c:E):Cm:=⟨e,d,b,10^a,c*10^a,N_⟩
def ZeH{a}(c:0<a):(10:E)^a≠1:=by obtain⟨a,rfl⟩:∃b,a=b+1:=⟨a-1,O⟩;omega
def ZfU b j h g:∀d c a e,(e=4∨e=5)->∃f,(f=5∨f=e/\(Ym b 0 d c a).2.2=a)/\Gc b ZZ j (pF h g e d c) [] a (pF h g f (Ym b 0 d c a).2.1 (Ym b 0 d c a).1) [] (Ym b 0 d c a).2.2/\((Ym b 0 d c a).2.1=0∨Cc (Eh b (Ym b 0 d c a).2.2)=ZZ)
 |0,c,a,e,n=>⟨e,ZJ ⟨X,X⟩,.refl,ZM X⟩
 | d +1,c,a,e,n=>by
  unfold Ym;split
  ·rename_i i;have p:Cc (Eh b a)=Z0:=(by rw[<- Nc];exact i);have⟨f,o,k,l⟩:=ZfU b j h g d (10*c+(Eh b a-48)) (a+1) 5 (ZJ X);refine⟨5,ZM X,?_,l⟩;have m:f=5:=O;subst m;refine Gc.T (Gc.x ?_) k;unfold As Do pF Je
   grind
  rename_i i;exact⟨e,ZJ ⟨X,X⟩,.refl,ZJ (by rw[<- Nc];grind)⟩
theorem Zkf c e:∀d b a,a<=(Ym c e d b a).2.2
 |0,b,a=>x_
 | d+1,b,a=>by
  unfold Ym;split;have:=Zkf c e d (10*b+(Eh c a-48)) (a+1);omega
  grind
def Zke d a c b:Ym d 2 a c b=(c,a,b):=by
 cases a with
 |zero=>rfl
 |succ a=>unfold Ym;rw[aC (by unfold Ji;simp)]
def Zpb a {f e c} g d {b}(h:e=Z0∨d=5∨Cc (Eh a b)=ZZ)(i:¬(Eh a b=46/\c≠1)):As ZZ c (pD f e c g d) [] (Eh a b)=ZP:=by grind [As,Do,pD,Lt,Nl]
def Zk6 b {e h a} f c {d}(i:Eh b d=46)(g:0<a):As ZZ (Ch a) (pD e h (Ch a) f c) [] (Eh b d)=T (pF e c 4 a f,[]):=by
 have j:=ZeH g;unfold As Do pD pF
 grind [eh,Lt,Cc,Nl]
def ZmD a b c:∃f,Gc a ZZ (Ch c) part0 [] b f [] (jk a b 0 c).2.1/\As ZZ (Ch c) f [] (Eh a (jk a b 0 c).2.1)=ZP/\(((jk a b 0 c).2.2=0/\Et f.n=Z0/\f.n≠0/\Tm f=(jk a b 0 c).1)∨((jk a b 0 c).2.2=2/\(Et f.n=ZZ∨(jk a b 0 c).2.1=b))):=by
 have m:Gc a ZZ (Ch c) part0 [] b (p1 (Bp a b 0 45)) [] (if Bp a b 0 45=Z0 then b+1 else b):=by
  cases d:Bp a b 0 45 with
  |false=>exact .refl
  | true=>
   rw[Hp] at d;apply Gc.x;rw[(of_decide_eq_true d)];rfl
 have A:Bp a b 0 _=ZZ->(if Bp a b 0 _=Z0 then b+1 else b)=b/\Eh a b≠45:=λd=>⟨by rw[d];rfl,λg=>by rw[Hp,aF g] at d;cases d⟩;unfold jk;simp only;generalize Bp a b 0 45=k at *;generalize (if k=Z0 then b+1 else b)=r at *
 rcases Znj with⟨_,q,t,n,p⟩|⟨j,g⟩
 ·generalize Oh a r 0 5 Z0=u at *;obtain⟨l,o,i,L⟩:=u;simp only at q n p;subst q;unfold ptF;split
  ·rename_i e;rw[Hp,decide_eq_true_eq] at e;have s:=(m.T n).T (Gc.x (Zk6 a l o e.1 e.2))
   cases j:Cc (Eh a (i+1)) with
   | true=>
    have h:Ji a (i+1) 0=Z0:=(by rw[Nc];exact j);simp only[h,if_true];have⟨z,x,y,G⟩:=ZfU a (Ch c) k o c l (i+1) 4 (ZM X)
    have v:z=5:=by
     rcases x with d|⟨_,d⟩
     exact d;exfalso;obtain⟨D,rfl⟩:∃w,c=w+1:=⟨c-1,O⟩
     grind [Ym,Zkf]
    subst v;generalize Ym a 0 c l (i+1)=w at *;refine⟨_,s.T y,?_,ZM ⟨by trivial,X,by simp[pF],?_⟩⟩
    ·grind [As,Do,pF,Je]
    unfold Tm pF
    cases k<;>rfl
   | false=>
    have h:Ji a (i+1) 0=ZZ:=(by rw[Nc,j]);simp only[h,Bool.false_eq_true,if_false];rw[show wrg 0=2 from X,Zke];refine⟨_,s,?_,ZJ ⟨by trivial,ZM X⟩⟩;unfold As Do pF Je;simp[j]
  rename_i e;rw[Hp,decide_eq_true_eq] at e;refine⟨_,m.T n,Zpb a l o p (λd=>e ⟨d.1,Nat.pos_of_ne_zero λg=>d.2 (by rw[g];rfl)⟩),ZM ⟨X,?_,?_,?_⟩⟩
  ·cases t<;>rfl
  ·cases t<;>simp[pD]
  grind [Tm,pD,eh]
 rw[g];simp only;have h:ptF a r 2 c 0=_:=aC (λd=>by unfold Bp at d;simp at d);rw[h];refine⟨_,m,?_,ZJ ⟨X,?_⟩⟩
 ·grind [As,Do,p1,part0,Rg,Io]
 cases k
 ·grind
 exact ZM X
def pW(a:E):Cm:={part0 with n:=a}
def qu{a f st b c o}(e:Cq st b (Eh a c)=o):As Z0 f (pW st) b (Eh a c)=o.map (λd=>(pW d.1,d.2)):=by unfold As;rw[aD X];show(Cq st b (Eh a c)).map _=_;rw[e];rfl
theorem Zm1{a c b}(d:F b=8∨Fz (Eh a c)=ZZ):Mf b (Eh a c)=ZP:=aC λe=>w_
theorem ZhB{a}(b:Fz a=Z0):a≠34:=λc=>by rw[c] at b;exact absurd b C
def ZbF c i:∀e a b d,(d=0∨d=6)->F a+e=8->∃g,(g=6∨g=d/\(Nj c e a b).2=b)/\Gc c Z0 i (pW d) a b (pW g) (Nj c e a b).1 (Nj c e a b).2/\(F (Nj c e a b).1=8∨Fz (Eh c (Nj c e a b).2)=ZZ)
 |0,a,b,d,m,h=>⟨d,ZJ ⟨X,X⟩,.refl,ZM (by simpa [Nj] using h)⟩
 |e+1,a,b,d,m,h=>by unfold Nj;split;rename_i f;rw[Zel] at f;have⟨g,o,j,k⟩:=ZbF c i e (a++[Eh c b]) (b+1) 6 (ZJ X) t_;have l:g=6:=O;subst l;refine⟨6,ZM X,Gc.T (Gc.x ?_) j,k⟩;have p:Mf a _=_:=aD ⟨f,O⟩;have n:Cq d a (Eh c b)=T (6,a++[Eh c b]):=(by grind [Cq,ZhB]);exact qu n;rename_i f;rw[Zel] at f;exact⟨d,ZJ ⟨X,X⟩,.refl,ZJ (Bool.eq_false_iff.2 f)⟩
def zx c h:∀d a b,F a+d=9->F a<=8->∃e,Gc c Z0 h (pW 7) a b (pW e) (ij c d a b).1 (ij c d a b).2.1/\Cq e (ij c d a b).1 (Eh c (ij c d a b).2.1)=ZP/\(((ij c d a b).2.2=0/\e=8)∨((ij c d a b).2.2=2/\e=7))
 |0,a,b,m,l=>O
 | d + 1,a,b,m,l=>by
  unfold ij;split
  ·rename_i f;rw[Hp,decide_eq_true_eq] at f;have n:Gc c _ h (pW 7) _ b (pW 8) a _:=Gc.x (qu (o:=T (8,a)) (by rw[f];rfl));split
   ·rename_i g;rw[Hp,decide_eq_true_eq] at g;have⟨e,i,j,k⟩:=zx c h d (a++[34]) (b+2) t_ t_;refine⟨e,n.T (Gc.T (Gc.x (k:=b+1) (qu (o:=T (7,a++[34])) ?_)) i),j,k⟩
    grind [Cq,Ok]
   grind [Hp,Cq,Ok]
  rename_i f;rw[Hp,decide_eq_true_eq] at f;split
  ·rename_i g;rw[Zlv f] at g;have⟨e,i,j,k⟩:=zx c h d (a++[Eh c b]) (b+1) t_ t_;refine⟨e,Gc.T (Gc.x (qu (o:=T (7,a++[Eh c b])) ?_)) i,j,k⟩
   grind [Cq,fz]
  rename_i g;rw[Zlv f] at g;refine⟨7,.refl,?_,ZJ ⟨X,X⟩⟩
  grind [Cq,fz]
def ZnH a b f:∃c,Gc a Z0 f part0 [] b (pW c) (iy a b).1 (iy a b).2.1/\As Z0 f (pW c) (iy a b).1 (Eh a (iy a b).2.1)=ZP/\(((iy a b).2.2=0/\Et c=Z0/\(c≠0∨(iy a b).2.1=b))∨((iy a b).2.2=2/\Et c=ZZ)):=by
 unfold iy;split
 ·rename_i e;rw[Hp,decide_eq_true_eq] at e;have⟨c,g,h,i⟩:=zx a f 9 [] (b+1) X s_;refine⟨c,Gc.T (Gc.x (qu (st:=0) (o:=T _) (by rw[e];rfl))) g,qu (o:=ZP) h,?_⟩
  rcases i with⟨d,rfl⟩|⟨d,rfl⟩
  exact ZM ⟨d,X,ZM C⟩;exact ZJ ⟨d,X⟩
 rename_i e;rw[Hp,decide_eq_true_eq] at e;have⟨c,g,h,i⟩:=ZbF a f 8 [] b 0 (ZM X) X;refine⟨c,h,qu (o:=ZP) ?_,ZM ⟨X,?_,?_⟩⟩
 ·grind [Zm1,Cq]
 ·rcases g with rfl|⟨rfl,d⟩<;>rfl
 grind
def dr(c:ZC)(d:H)(f:H->ZG)(e:H->E):H->RS->H->Except (E×H) RS
 |0,b,_=>.ok b
 | g+1,b,a=>match Cv d f e b (Eh c a) with
  |.error i=>.error (i,a)
  |.ok h=>dr c d f e g h (a+1)
def Jb(c:ZC)(e:H)(i:H->ZG)(h:H->E)(f:RS)(a:H)(g:RS)(d:H):Prop:=∃b,d=a+b/\dr c e i h b f a=.ok g
section
variable {S:ZC} {n:H} {wd:H->ZG} {sc:H->E} {s s' c:RS} {k a b:H}
def Jb.refl:Jb S n wd sc s k s k:=⟨0,X,X⟩
def pj:∀(a b:H) (s:RS) (k:H),dr S n wd sc (a+b) s k=match dr S n wd sc a s k with
  |.error c=>.error c
  |.ok s'=>dr S n wd sc b s' (k+a)
 |0,b,s,k=>by simp[dr]
 | a +1,b,s,k=>by
  rw[show a+1+b=(a+b)+1 by omega];simp only[dr]
  cases Cv n wd sc s (Eh S k) with
  |error c=>rfl
  | ok d=>
   simp only;rw[pj a b d (k+1),show k+1+a=k+(a+1) by omega]
def Jb.T(e:Jb S n wd sc s k s' a)(d:Jb S n wd sc s' a c b):Jb S n wd sc s k c b:=by obtain⟨f,rfl,e⟩:=e;obtain⟨g,rfl,d⟩:=d;exact⟨f+g,O,by rw[pj,e];exact d⟩
def Jb.x(a:Cv n wd sc s (Eh S k)=.ok s'):Jb S n wd sc s k s' (k+1):=⟨1,X,by simp[dr,a]⟩
def Zlr{b c a}(f:F s.k≠200)(e:s.A=Z0)(d:As (wd (F s.M)) (Ch (ZL (sc (F s.M)))) s.p s.f b=T (c,a)):Cv n wd sc s b=.ok {s with p:=c,f:=a}:=by grind [Cv]
def dq{a}(f:F s.k≠200)(d:s.A=Z0)(b:As (wd (F s.M)) (Ch (ZL (sc (F s.M)))) s.p s.f a=ZP)(c:a=El (F s.M) n)(e:Et s.p.n=Z0):Cv n wd sc s a=.ok (Hm n s (s.M++[Hw s.p s.f])):=by grind [Cv]
theorem Ux{a}(e:F s.k≠200)(d:s.A=Z0)(b:As (wd (F s.M)) (Ch (ZL (sc (F s.M)))) s.p s.f a=ZP)(c:a≠El (F s.M) n∨Et s.p.n=ZZ):Cv n wd sc s a=.error 2:=by grind [Cv]
def Gc.d{h d}(g:F s.k≠200)(e:s.A=Z0)(b:Gc S (wd (F s.M)) (Ch (ZL (sc (F s.M)))) s.p s.f k h d a):Jb S n wd sc s k {s with p:=h,f:=d} a:=by
 obtain⟨c,rfl,b⟩:=b
 induction c generalizing s k with
 | zero=>
  simp only[te,Option.some.injEq,Prod.mk.injEq] at b;obtain⟨rfl,rfl⟩:=b;exact .refl
 | succ c m=>
  simp only[te] at b
  cases f:As (wd (F s.M)) (Ch (ZL (sc (F s.M)))) s.p s.f (Eh S k) with
  |none=>grind
  | some i=>
   rw[f] at b;have j:=Jb.x (Zlr (n:=n) g e f);have l:=m (s:={s with p:=i.1,f:=i.2}) (k:=k+1) g e b;rw[show k+(c+1)=k+1+c by omega];exact j.T l
def fy{c b a}:Hm n {s with p:=c,f:=b} a=Hm n s a:=by unfold Hm;split<;>rfl
theorem cq{b}:Pa S k 2 b=k/\Pt S k 2 b=2:=by have a:Bp S k 2 b=ZZ:=(by unfold Bp;simp);unfold Pa Pt;rw[a];exact⟨X,X⟩
def Zes{b}:(Eh S k=b/\Pa S k 0 b=k+1/\Pt S k 0 b=0)∨(Eh S k≠b/\Pa S k 0 b=k/\Pt S k 0 b=2):=by
 unfold Pa Pt;rw[Hp]
 by_cases a:Eh S k=b
 ·grind
 rw[aE a];exact ZJ ⟨a,X,X⟩
def ZmM(l:F s.k≠200)(g:s.A=Z0)(i:s.p=part0)(q:s.f=[]):((jn S k (wd (F s.M)) (ZL (sc (F s.M))) (El (F s.M) n)).2.2=0/\Jb S n wd sc s k (Hm n s (s.M++[(jn S k (wd (F s.M)) (ZL (sc (F s.M))) (El (F s.M) n)).1])) (jn S k (wd (F s.M)) (ZL (sc (F s.M))) (El (F s.M) n)).2.1)∨((jn S k (wd (F s.M)) (ZL (sc (F s.M))) (El (F s.M) n)).2.2=2/\∃s',Jb S n wd sc s k s' (jn S k (wd (F s.M)) (ZL (sc (F s.M))) (El (F s.M) n)).2.1/\s'.g=s.g/\Cv n wd sc s' (Eh S (jn S k (wd (F s.M)) (ZL (sc (F s.M))) (El (F s.M) n)).2.1)=.error 2):=by
 have w:El (F s.M) n=10∨El (F s.M) n=44:=(by unfold El;omega);unfold jn;split
 ·rename_i j;rw[Hp,decide_eq_true_eq] at j;refine ZM ⟨X,Jb.x ?_⟩
  have b:As (wd (F s.M)) (Ch (ZL (sc (F s.M)))) s.p s.f (Eh S k)=ZP:=by
   rw[i,q,j]
   cases wd (F s.M)<;>rcases w with a|a<;>rw[a]<;>rfl
  rw[dq l g b j (by rw[i];rfl),i,q];rfl
 rename_i j;rw[Hp,decide_eq_true_eq] at j;split
 ·rename_i a;have⟨o,r,f,p⟩:=ZnH S k (Ch (ZL (sc (F s.M))));generalize iy S k=b at *;have u:Jb S n wd _ s k _ _:=Gc.d l g (by rw[i,q,a];exact r);rw[<- a] at f
  rcases p with⟨m,h,p⟩|⟨m,h⟩
  ·rw[m]
   rcases Zes (S:=S) (k:=b.2.1) (b:=El (F s.M) n) with⟨c,d,e⟩|⟨c,d,e⟩
   ·rw[d,e];have t:o≠0:=w_
    refine ZM ⟨X,u.T (Jb.x ?_)⟩;rw[dq (s:={s with p:=pW o,f:=b.1}) l g f c h,fy];have v:Hw (pW o) b.1=⟨ZZ,0,ZB b.1⟩:=by unfold Hw;rw[show(pW o).n=o from X,aE t];rfl
    grind
   grind [Ux]
  grind [cq,Ux,pW]
 rename_i a;have a:=Bool.eq_false_iff.2 a;have⟨o,r,f,p⟩:=ZmD S k (ZL (sc (F s.M)));generalize jk S k 0 (ZL (sc (F s.M)))=b at *;have u:Jb S n wd _ s k _ _:=Gc.d l g (by rw[i,q,a];exact r);rw[<- a] at f
 rcases p with⟨m,h,t,v⟩|⟨m,h⟩
 ·rw[m]
  rcases Zes (S:=S) (k:=b.2.1) (b:=El (F s.M) n) with⟨c,d,e⟩|⟨c,d,e⟩
  rw[d,e];refine ZM ⟨X,u.T (Jb.x ?_)⟩;rw[dq (s:={s with p:=o,f:=[]}) l g f c h,fy];simp only[Hw,aE t,v];rfl
  grind [Ux]
 grind [cq,Ux]
def ZmI(n:H)(s:RS)(b:U VS):RS:=⟨s.k++[s.g],λa=>if a<n then s.a a++[Z b a Ax] else s.a a,0,ZZ,[],part0,[]⟩
def ZfW:∀(a:H)(s:RS)(k:H),F s.k≠200->s.A=Z0->s.p=part0->s.f=[]->F s.M+(a+1)=n->((Vv S n wd sc (a+1) (F s.M) s.M k).2.2=0/\Jb S n wd sc s k (ZmI n s (Vv S n wd sc (a+1) (F s.M) s.M k).1) (Vv S n wd sc (a+1) (F s.M) s.M k).2.1)∨((Vv S n wd sc (a+1) (F s.M) s.M k).2.2=2/\∃s',Jb S n wd sc s k s' (Vv S n wd sc (a+1) (F s.M) s.M k).2.1/\s'.g=s.g/\Cv n wd sc s' (Eh S (Vv S n wd sc (a+1) (F s.M) s.M k).2.1)=.error 2)
 | a,s,k,h,g,r,p,q=>by
  have o:=ZmM (S:=S) (n:=n) (wd:=wd) (sc:=sc) (k:=k) h g r p;unfold Vv;simp only;generalize jn S k (wd (F s.M)) (ZL (sc (F s.M))) (El (F s.M) n)=c at *
  rcases o with⟨i,b⟩|⟨i,s',b,t,u⟩
  ·rw[aD i]
   cases a with
   | zero=>
    refine ZM ⟨X,?_⟩;have d:Hm n s _=ZmI n s (_++[c.1]):=aD (by rw[Qe];simpa using q);rw[d] at b;exact b
   | succ a=>
    have d:Hm n s (s.M++[c.1])=_:=aC w_;rw[d] at b;have j:=ZfW a {s with M:=s.M++[c.1],p:=part0,f:=[]} c.2.1 h g X X t_;simp only[Qe,length_singleton] at j
    rcases j with⟨e,f⟩|⟨e,s',f,l,m⟩
    exact ZM ⟨e,b.T f⟩;exact ZJ ⟨e,s',b.T f,l,m⟩
  grind
theorem Ts{a}(d:F s.k≠200)(c:s.A=ZZ):Cv n wd sc s a=match Ar s.g a with
  |none=>.error 2
  |some ZP=>.ok {s with A:=Z0}
  |some (T b)=>.ok {s with g:=b}:=by
 grind [Cv]
def Znh S k s (o:F s.k≠200)(m:s.A=ZZ)(i:s.g=0):((Oh S k 0 2 ZZ).2.2.2=0/\1<=(Oh S k 0 2 ZZ).1/\Jb S n wd sc s k {s with g:=(Oh S k 0 2 ZZ).1} (Oh S k 0 2 ZZ).2.2.1/\(Eh S (Oh S k 0 2 ZZ).2.2.1≠44->Cv n wd sc {s with g:=(Oh S k 0 2 ZZ).1} (Eh S (Oh S k 0 2 ZZ).2.2.1)=.error 2))∨
  (Oh S k 0 2 ZZ=(0,0,k,2)/\Cv n wd sc s (Eh S k)=.error 2):=by
 by_cases a:Cc (Eh S k)=Z0/\Eh S k≠48
 ·have c:=Mm a.1;have e:Bp S k 0 48=ZZ:=(by rw[Hp,aE a.2]);have f:Ji S k 0=Z0:=by rw[Nc];exact a.1
  have h:Jb S n wd sc s k {s with g:=Eh S k-48} (k+1):=Jb.x (by grind [Ts,Ar])
  cases b:Cc (Eh S (k+1)) with
  | true=>
   have l:=Mm b;have g:Ji S (k+1) 0=Z0:=by rw[Nc];exact b
   have d:Oh S k 0 2 ZZ=(10*(Eh S k-48)+(Eh S (k+1)-48),2,k+2,0):=(by unfold Oh;rw[e,aC s_];simp[Py,f,g]);rw[d];refine ZM ⟨X,by simp only;omega,h.T (Jb.x ?_),λj=>?_⟩
   ·grind [Ts,Ar]
   grind [Ts,Ar]
  | false=>
   grind [Ji,Oh,Py,Cv,Cc,Ar]
 refine ZJ ⟨?_,?_⟩
 ·unfold Oh;rw[Hp]
  by_cases b:Eh S k=48
  rw[aD ⟨aF b,X⟩];rfl
  have c:Ji S k 0=ZZ:=by
   rw[Nc,Bool.eq_false_iff]
   grind
  rw[aC (by simp[b])];simp[Py,c];rfl
 grind [Ts,Ar,Cc]
end
structure Bnd(a:RS):Prop where
 A:a.A=ZZ
 g:a.g=0
 M:a.M=[]
 p:a.p=part0
 f:a.f=[]
section
variable {S:ZC} {n:H} {wd:H->ZG} {sc:H->E}
def ZnA(P:1<=n) b a (m:F b.k≠200)(D:Bnd b):((iq S n wd sc a).2.2.2=0/\Jb S n wd sc b a (ZmI n {b with g:=(iq S n wd sc a).1} (iq S n wd sc a).2.1) (iq S n wd sc a).2.2.1)∨
  ((iq S n wd sc a).2.2.2=2/\∃c,Jb S n wd sc b a c (iq S n wd sc a).2.2.1/\Cv n wd sc c (Eh S (iq S n wd sc a).2.2.1)=.error 2/\((iq S n wd sc a).2.2.1=a∨c.g≠0)):=by
 obtain⟨i,d,a0,L,W,R,G⟩:=b;obtain⟨p,q,r,s,t⟩:=D;simp only at p q r s t m;subst p q r s t;unfold iq;simp only
 rcases Znh (n:=n) (wd:=wd) (sc:=sc) S a ⟨i,d,0,ZZ,[],part0,[]⟩ m X X with⟨l,u,v,N⟩|⟨l,u⟩
 ·generalize Oh S a 0 2 ZZ=y at *;obtain⟨o,Q,g,a1⟩:=y;simp only at *;subst l
  rcases Zes (S:=S) (k:=g) (b:=44) with⟨z,e,f⟩|⟨z,e,f⟩
  ·rw[e,f,aD X];have x:Jb S n wd sc ⟨i,d,o,ZZ,[],part0,[]⟩ g ⟨i,d,o,Z0,[],part0,[]⟩ (g+1):=Jb.x (by grind [Ts,Ar]);obtain⟨h,rfl⟩:∃h,n=h+1:=⟨n-1,O⟩;have w:=ZfW (S:=S) (n:=h+1) (wd:=wd) (sc:=sc) h ⟨i,d,o,Z0,[],part0,[]⟩ (g+1) m X X X s_;simp only[length_nil] at w
   rcases w with⟨j,k⟩|⟨j,c,k,M,A⟩
   exact ZM ⟨j,(v.T x).T k⟩;exact ZJ ⟨j,c,(v.T x).T k,A,ZJ O⟩
  grind
 rw[l];have⟨e,f⟩:=cq (S:=S) (k:=a) (b:=44);simp only[e,f];rw[aC C];exact ZJ ⟨X,_,.refl,u,ZM X⟩
def Zfr(n:H)(c:RS)(b:U (E×U VS)):Prop:=c.k=b.map Prod.fst/\∀a,a<n->c.a a=b.map (λd=>Z d.2 a Ax)
def Zgr(s:1<=n):∀e b a d,Bnd d->Zfr n d b->F b<=200->a<=ZK S->ZK S+1<=e+a->((Kr S n wd sc e b a).2.2=0/\(Kr S n wd sc e b a).2.1=ZK S/\∃c,Jb S n wd sc d a c (ZK S)/\Bnd c/\Zfr n c (Kr S n wd sc e b a).1)∨((Kr S n wd sc e b a).2.2=2/\(Kr S n wd sc e b a).2.1=ZK S/\∃c,Jb S n wd sc d a c (ZK S)/\c.g≠0)∨((Kr S n wd sc e b a).2.2≠0/\(Kr S n wd sc e b a).2.1<ZK S/\∃c,Jb S n wd sc d a c (Kr S n wd sc e b a).2.1/\Cv n wd sc c (Eh S (Kr S n wd sc e b a).2.1)=.error (Kr S n wd sc e b a).2.2)
 |0,b,a,d,o,l,w,q,x=>O
 | e + 1,b,a,d,o,l,w,q,x=>by
  have D:F d.k=F b:=(by rw[l.1,length_map]);unfold Kr;split
  ·rename_i r;split
   ·rename_i v;refine ZJ (ZJ ⟨s_,r,d,.refl,?_⟩)
    grind [Cv]
   rename_i v;have g:=ZnA (S:=S) (wd:=wd) (sc:=sc) s d a O o;have u:=Zoa (S:=S) n wd sc q;simp only;generalize iq S n wd sc a=f at *
   rcases g with⟨t,g⟩|⟨t,c,g,z,A⟩
   ·rw[aD t];have y:=Zgr s e (b++[(f.1,f.2.1)]) f.2.2.1 (ZmI n {d with g:=f.1} f.2.1) ⟨X,X,X,X,X⟩ ⟨?_,λm p=>?_⟩ t_ u.1.2 O
    ·rcases y with⟨h,i,c,j,k⟩|⟨h,i,c,j,k⟩|⟨h,i,c,j,k⟩
     exact ZM ⟨h,i,c,g.T j,k⟩;exact ZJ (ZM ⟨h,i,c,g.T j,k⟩);exact ZJ (ZJ ⟨h,i,c,g.T j,k⟩)
    show d.k++[f.1]=_;rw[l.1,map_append];rfl;show(if m<n then d.a m++[Z f.2.1 m Ax] else d.a m)=_;rw[aD p,l.2 m p,map_append];rfl
   grind
  rename_i r;have c:a=ZK S:=O;exact ZM ⟨X,c,d,by rw[<- c];exact .refl,o,l⟩
def Za1{a}(b:a<ZK S):ZF a (Ab S)=Eh S a::ZF (a+1) (Ab S):=by have c:a<F (Ab S):=(by unfold Ab;rw[length_map];exact b);rw[aN c,aq b];congr 1;simp only[Ab,getElem_map];rfl
def wm:∀(c:H)(b:RS)(a:H),a+c=ZK S->Bt n wd sc b (ZF a (Ab S)) a=dr S n wd sc c b a
 |0,b,a,d=>by have:ZF a (Ab S)=[]:=drop_eq_nil_of_le (by unfold Ab;rw[length_map];show ZK S<=a;omega);rw[this];rfl
 | c+1,b,a,d=>by
  rw[Za1 O];simp only[Bt,dr]
  cases Cv n wd sc b (Eh S a) with
  |error f=>rfl
  |ok e=>exact wm c _ _ O
def Zco(m:1<=n):(∃a,Bt n wd sc RS.h (Ab S) 0=.ok a/\a.g=0/\(Kr S n wd sc (ZK S+1) [] 0).2.2=0/\(Kr S n wd sc (ZK S+1) [] 0).2.1=ZK S/\Zfr n a (Kr S n wd sc (ZK S+1) [] 0).1)∨(∃a,Bt n wd sc RS.h (Ab S) 0=.ok a/\a.g≠0/\(Kr S n wd sc (ZK S+1) [] 0).2.2=2/\(Kr S n wd sc (ZK S+1) [] 0).2.1=ZK S)∨(Bt n wd sc RS.h (Ab S) 0=.error ((Kr S n wd sc (ZK S+1) [] 0).2.2,(Kr S n wd sc (ZK S+1) [] 0).2.1)/\(Kr S n wd sc (ZK S+1) [] 0).2.2≠0/\(Kr S n wd sc (ZK S+1) [] 0).2.1<ZK S):=by
 have g:=wm (S:=S) (n:=n) (wd:=wd) (sc:=sc) (ZK S) RS.h 0 O;rw[drop_zero] at g
 rcases Zgr (S:=S) (wd:=wd) (sc:=sc) m (ZK S+1) [] 0 RS.h ⟨X,X,X,X,X⟩ ⟨X,λ_ _=>X⟩ s_ v_ O with⟨b,c,i,⟨a,f,d⟩,e,k⟩|⟨b,c,i,⟨a,f,d⟩,e⟩|⟨b,c,i,⟨a,f,d⟩,e⟩
 have:a=ZK S:=O;subst this;exact ZM ⟨i,by rw[g,d],e.g,b,c,k⟩
 ·grind
 refine ZJ (ZJ ⟨?_,b,c⟩);obtain⟨h,l⟩:∃h,ZK S=a+(h+1):=⟨ZK S-a-1,O⟩;have j:dr S n wd sc (ZK S) RS.h 0=dr S n wd sc (a+(h+1)) RS.h 0:=(by rw[<- l]);rw[g,j,pj,d];simp only[dr];rw[<- f,e]
end
theorem ut{d}:∀e b,F d-b<=e->Ef d [] e b 0=ZF b d
 |0,b,a=>by rw[drop_eq_nil_of_le O];rfl
 | e+1,b,a=>by
  by_cases c:b<F d
  simp only[Ef];rw[aD ⟨c,λa=>by simp at a⟩,ut e (b+1) O,aN c];congr 1;simp[seen,Co,Dz,Ae,Z,c];simp only[Ef];rw[aC (λa=>c a.1),aC (λa=>by simp at a),aC (λa=>c a.1),drop_eq_nil_of_le O]
def Zhw a:Bf a []=a:=by grind [Bf,ut]
def Zg6{a b}(c:a.length<=b):Ep a b=a:=by
 unfold Ep
 grind
def Vk:H->U (U Cd)->U (H×U Cd)
  |_,[]=>[]
  |a,b::c=>if F b=0 then Vk (a+1) c else(a,b)::Vk (a+1) c
def skT(e:E):H->U Cd->U (H×U Cd)->U (H×U Cd)
 |a,b,[]=>[(a,b)]
 |a,b,c::d=>if c.1=a then skT e (a+1) (Ep (Bf c.2 b) e) d else(a,b)::c::d
def zl:∀(e:U (U Cd)) (a:H),∀c∈Vk a e,a<=c.1
  |[],a=>by simp[Vk]
  | f::d,a=>λc b=>by
    unfold Vk at b;split at b;have:=zl d (a+1) c b;omega
    rcases mem_cons.1 b with rfl|b
    omega;have:=zl d (a+1) c b;omega
theorem Yw{a}(b:0<Ae a):F a≠0:=λc=>by unfold Ae at b;omega
def uz{i}:∀e b a,(∀d∈e,0<=Ae d)->0<Ae b->Vk a (Av i e b)=skT i a b (Vk a e)
 |[],b,a,h,f=>by grind [Av,Vk,Yw,skT]
 | l ::c,b,a,h,f=>by
  have j:∀d∈c,_:=λd k=>h d (by simp[k])
  by_cases g:F l=0
  ·simp only[Av,aD g,Vk,aC (Yw f)];have m:=zl c (a+1)
   cases n:Vk (a+1) c with
   |nil=>rfl
   | cons o p=>
    grind [skT]
  simp only[Av,aC g,Vk,length_nil,if_true,skT];apply uz c _ _ j;rw[Gn,Fc]
  grind
def skF(b:E):U Cd->U (H×U Cd)->U Cd
 |a,[]=>a
 |a,c::d=>skF b (Ep (Bf a c.2) b) d
def pz{size}(d:2<=size):∀e b a,a.length<=size->Fw size a e=skF size a (Vk b e)
 |[],b,a,c=>rfl
 | i::g,b,a,c=>by
  by_cases f:i.length=0
  have h:=eq_nil_of_length_eq_zero f;subst h;simp only[Fw,Vk,length_nil,if_true];rw[Zhw,Zg6 c];exact pz d g _ _ c;simp only[Fw,Vk,aC f,skF];exact pz d g _ _ (Jh _ d)
def skB(a:H):H->U (H×U Cd)->U E->U E->U (H×U Cd)
 |0,b,_,_=>b
 |e+1,b,c,d=>if F c=0 then b else skB a e (skT a 0 (Ko (ZU a c) (ZU a d)) b) (ZF a c) (ZF a d)
def Zs:∀(a:U (E×E)),(∀b∈a,1<=b.2)->0<=Bv a
  |[],_=>by simp[Bv]
  | b::a,c=>by
    have:=Zs a (λe d=>c e (by simp[d]))
    grind [Bv]
def ZlE{a b}(j:F a≠0)(n:F b≠0):0<Ae (Ko a b):=by
 have e:=(jf.a (Tw (Ao a b))).e;unfold Ko;rw[e];have c:∀d∈Ao a b,_:=λd c=>(Jm c).1.1;have m:=Lh a b
 cases f:Ao a b with
 |nil=>grind
 | cons d i=>
  rw[f] at c;have k:=c d s_;have l:=Zs i λh g=>c h (by simp[g]);simp only[Bv];omega
def qi{j}:∀e c,(∀a∈e,0<=Ae a)->0<=Ae c->∀a∈Av j e c,0<=Ae a
 |[],c,d,f=>by simp[Av];exact f
 | i::g,c,d,f=>by
  have h:∀a∈g,_:=λa b=>d a (by simp[b]);have k:=d i s_;intro a b;simp only[Av] at b;split at b
  ·grind
  rcases mem_cons.1 b with rfl|b
  exact Int.le_refl _;exact qi g _ h (by rw[Gn,Fc];omega) a b
def py{size}(i:0<size):∀d b a c,(∀e∈b,0<=Ae e)->F a=F c->skB size d (Vk 0 b) a c=Vk 0 (Dv size d b a c)
 |0,b,a,c,e,g=>X
 | d+1,b,a,c,e,g=>by
  unfold skB Dv
  by_cases f:F a=0
  ·grind
  rw[aC f,aC f];have h:0<Ae (Ko (ZU size a) (ZU size c)):=ZlE w_ w_;rw[<- uz b _ 0 e h];exact py i d _ _ _ (qi _ _ e O) w_
def Zir{a:H}(g:2<=a) b c (f:F b=F c):skF a [] (skB a (F b) [] b c)=Dw a b c:=by have d:=py (size:=a) O (F b) [] _ _ s_ f;have e:=pz (size:=(a:E)) O (Dv a (F b) [] b c) 0 [] s_;unfold Dw;rw[e,<- d];rfl
def Ai.d{g d b a}(f:Ai g d b a):∃c e,b=ZH c (F a) e:=by
 rcases f.2 with⟨rfl,k⟩|⟨j,h,i,rfl,_⟩
 ·grind
 grind
structure Hy where
 n:H
 L:U Cd
 v:ZY
def Hy.o(a:Hy):H×U Cd:=(a.n,a.L)
def Uh(a:Hy):U ZY:=[I a.n,a.v]
structure jc(d)(b)(e)(a:U Hy):Prop where
 M:Xr d b 399 2 e (a.map Uh)
 j:∀c∈a,Ai d b c.v c.L
def jc.nil{b a}:jc b a (N_) []:=⟨Xr.nil _,s_⟩
def jc.q{e w' base d a}(b:jc e base d a)(c:E_ e w'):jc w' base d a:=⟨b.M.q c,λg f=>(b.j g f).q c⟩
def jc.a{d b c a}(e:jc d b c a):ZD d b 399 2 c (F a) (a.map Uh).flatten:=by
 have:=e.M.M
 grind
def jc.d{g e d a}(f:jc g e d a):∃b c,d=ZH b (F a) c:=by
 have⟨b,c,h⟩:=f.M.d
 grind
def jc.upto{g d c i e b a}(f:jc g d (V c i e) a)(k:b<=F a):jc g d (V c b e) (ZU b a):=
 ⟨map_take ▸ (f.M.upto w_),λj h=>f.j j (aL h)⟩
def Vi:Hy:=⟨0,[],N_⟩
def jc.at{e g f a}(h:jc e g f a){i}(l:i<F a):∃b c,f=L_ b (F a) c/\F a<=c/\ZV e (J b (i*2))=T (I (Z a i Vi).n)/\ZV e (J b (i*2+1))=T (Z a i Vi).v/\Z a i Vi∈a:=by have⟨b,c,k,m,_,_,_,d⟩:=h.M.at (i:=i) w_;have j:Z (a.map Uh) i []=Uh (Z a i Vi):=w_;rw[j] at d;exact⟨b,c,w_,w_,d 0 O _ X,d 1 O _ X,w_⟩
def jc.P{c f a h v' b p}(d:jc c a h b)(l:Ai c a p.v p.L)(i:Y3 c f (ZW h))(m:ZD f a 399 2 v' (F b+1) ((b.map Uh).flatten++Uh p)):jc f a v' (b++[p]):=by
 refine⟨?_,λe j=>?_⟩;rw[map_append];exact d.M.P w_ X
 have k:Ai c a e.v e.L:=by
  rcases mem_append.1 j with g|g
  exact d.j e g
  grind
 exact Ai.grown k d.M.M C i
def LvB(d:ZT)(b a:H)(c:ZY):Prop:=d.1[b]? =T (O_ #[I a,c] 399)
def LvB.cells{b a d e}(c:LvB b a d e):ZV b (J a 0)=T (I d)/\ZV b (J a 1)=T e/\YT b (J a 0)=ZZ/\YT b (J a 1)=ZZ/\a<B b.1:=
 ⟨M_ 0 _ 399 (0,0) c,M_ 1 _ 399 (0,0) c,R_ 0 _ 399 c,R_ 1 _ 399 c,(Qb c).1⟩
def LvB.c{c a d M g b}(e:LvB c a d g):LvB (ZO (ZO c (J a 0) (I (M:H))) (J a 1) b) a M b:=by have f:=hs_ c _ 0 _ _ (I (M:H)) e;exact ht_ 1 _ _ b f
def LvB.a{c a d e}:Aa (λb=>b=a) c (ZO (ZO c (J a 0) d) (J a 1) e):=((Aa.refl (λb=>b=a) _).setCell (p:=(J a 0)) (λ_=>X) _).setCell (p:=(J a 1)) (λ_=>X) _
def LvB.D{a h c f i g n b}(k:LvB a f i n)(d:Ai a c g b)(m:Aa (λe=>e=f) a h):Ai h c g b:=m.M d (λe l j=>Ag d l k C j)
def jc.b{c i e a j b p d}(f:jc c e b d)(k:LvB c a j p)(h:Aa (λn=>n=a) c i)(m:∀g,ZW b=T g->g≠a):jc i e b d:=⟨f.M.p h m,λo l=>k.D (f.j o l) h⟩
def Ku:∀(b a:U (U Cd)),Aw (b++a)=Aw b+Aw a
 |[],a=>by simp[Aw]
 |c::b,a=>by simp only[cons_append,Aw,Ku b a];omega
structure Xn(c)(a:U Hy):Prop where
 e:a.Pairwise λb d=>d.n<b.n
 ok:Gt (a.map Hy.L)
 l:∀b∈a,b.n<=c
def Xn.nil{a}:Xn a []:=⟨Pairwise.nil,Gt.nil,s_⟩
def Xn.take{d c}(a:Xn d c) g:Xn d (ZU g c):=
 ⟨a.e.sublist (take_sublist _ _),⟨λb e=>a.ok.j b w_,λb e=>a.ok.y b w_⟩,λh f=>a.l h (aL f)⟩
def Xn.P{i f e}{p:Hy}(d:Xn i e)(o:Bc p.L)(q:F p.L<=32)(r:∀h∈e,p.n<h.n)(n:i<=f)(s:p.n<=f):Xn f (e++[p]):=by
 refine⟨pairwise_append.2 ⟨d.e,pairwise_singleton _ _,λk l b m=>?_⟩,⟨λg c=>?_,λg c=>?_⟩,λh j=>?_⟩
 ·grind
 ·rw[map_append] at c
  rcases mem_append.1 c with a|a
  exact d.ok.j g a
  grind
 ·rw[map_append] at c
  rcases mem_append.1 c with a|a
  exact d.ok.y g a
  grind
 rcases mem_append.1 j with a|a
 have:=d.l h a;omega
 grind
def Xn.at{e b}(c:Xn e b){a}(d:a∈b):Bc a.L/\F a.L<=32:=⟨c.ok.j _ (mem_map.2 ⟨a,d,X⟩),c.ok.y _ (mem_map.2 ⟨a,d,X⟩)⟩
def eg{a:U Hy}{b}(c:b<F a):ZU (b+1) a=ZU b a++[Z a b Vi]:=by rw[Qi c];grind
structure SkI(h:H)(f)(e)(i)(a)(g b)(c):Prop where
 ok:Xn f a
 p:∀d∈a,b<=d.n
 j:Bc c
 y:F c<=32
 q:Aw (a.map Hy.L)+Ae c=i
 k:g<=F a
 o:(g=F a/\e=skT h b c (a.map Hy.o).reverse)∨((∀d∈a,b<d.n)/\e=(b,c)::(a.map Hy.o).reverse)
 l:b<=f+1
def SkI.c{i f e j b c d h}(a:SkI i f e j b (c+1) d h)(p:(Z b c Vi).n≠d):SkI i f e j b c d h:=by
 refine⟨a.ok,a.p,a.j,a.y,a.q,p_ a.k,ZJ ?_,a.l⟩
 rcases a.o with⟨k,g⟩|g
 ·have l:Z b c Vi∈b:=w_;have o:=a.p _ l;have m:b=ZU c b++[Z b c Vi]:=(by rw[<- eg O,k,take_length]);refine⟨λr q=>?_,?_⟩
  ·have n:=a.ok.e
   grind
  grind [skT,Hy.o]
 exact g
def SkI.b{d j i h b a f e}(c:SkI d j i h b (a+1) f e)(r:(Z b a Vi).n=f)(u:2<=d)(v:d<=32)(w:h<=1000000000000):SkI d j i h (ZU a b) a (f+1) (Ep (Bf (Z b a Vi).L e) d)/\Bc (Bf (Z b a Vi).L e):=by
 have s:=c.k;have k:Z b a Vi∈b:=w_;have⟨n,x⟩:=c.ok.at k
 rcases c.o with⟨m,p⟩|p
 ·have o:b=ZU a b++[Z b a Vi]:=(by rw[<- eg O,m,take_length]);have l:=c.q;rw[o,map_append,Ku] at l;simp only[map_cons,map_nil,Aw] at l;have A:=Gb (Ls:=(ZU a b).map _) (λq g=>(c.ok.take a).ok.j q g);have g:=Fy n c.j O;have y:=Jh (Bf (Z b a Vi).L e) (size:=(d:E)) O;refine⟨⟨c.ok.take a,λz t=>?_,g.e (Ge g _),O,?_,w_,ZM ⟨w_,?_⟩,?_⟩,g⟩
  ·have q:=c.ok.e
   grind
  rw[Gn,Fc];omega
  ·grind [skT,Hy.o]
  have:=c.ok.l _ k;omega
 grind
def SkI.a{i g d j a b e}(h:SkI i g d j a 0 b e):(∀c∈a,b<c.n)/\d=(b,e)::(a.map Hy.o).reverse:=by
 rcases h.o with⟨f,c⟩|c
 have:a=[]:=eq_nil_of_length_eq_zero f.s;subst this;exact⟨s_,c⟩;exact c
def aa:U E->H
 |[]=>0
 |b::a=>ZL b+256*aa a
def bp:∀b:U E,(∀a∈b,0<=a/\a<256)->aa b<256^F b
 |[],_=>by simp[aa]
 |f::e,c=>by have:=bp e (λa d=>c a (by simp[d]));have:=c f s_;simp only[aa,length_cons,Nat.pow_succ];omega
def Qq c:∀a∈Ab c,0<=a/\a<256:=λa b=>by simp only[Ab,mem_map] at b;obtain⟨d,_,rfl⟩:=b;have:=d.toNat_lt;omega
def ua{a:ZC}{b}(c:b<ZK a):ZF b (Ab a)=((a[b]'c).toNat:E)::ZF (b+1) (Ab a):=by
 have d:b<F (Ab a):=by simpa [Ab] using c
 rw[aN d];simp[Ab];rfl
def Uu a i (r:a.size<=7):C_ 181 #[Q_ a] i (V_ (.int .i64 (aa (Ab a):Nat)) i):=by
 refine dl_ ?_;go_enter func181,ntmps181;go_wp2_with fail
 go_loopw [3,4] (λe b f=>∃(c d:Nat),e=I c/\b=I ((d:Int)-1)/\d<=a.size/\K (c=aa ((Ab a).drop d))/\K (i=f)) (λ_ b _=>(intOf b+1).toNat)
 case atStart=>exact⟨0,a.size,rfl,g_,x_,by show _=_;rw[drop_of_length_le (by simp[Ab])];rfl,rfl⟩
 obtain⟨c,d,rfl,rfl,q,e,k⟩:=hrel;have m:=k.out;subst m;clear k
 cases d with
 | zero=>
  have b:¬((0:Nat):Int)-1≥0:=O;go_wp2;go_ret;exact⟨by rw[e];rfl,rfl⟩
 | succ b=>
  have h:b<a.size:=O;have s:c<256^6:=(by have:=bp ((Ab a).drop (b+1)) (λf g=>Qq a f (mem_of_mem_drop g));rw[e];refine Qh this (Nat.pow_le_pow_right C ?_);rw[length_drop];simp[Ab];omega);have j:K (aa ((Ab a).drop b)=(a[b]'h).toNat+256*c):=(by show _=_;rw[ua h,e];simp[aa]);have⟨f,g⟩:=Z_ ((a[b]'h).toNat);rw[g] at j;have p:f<256:=(by rw[<- g];exact UInt8.toNat_lt _);have l:((b+1:Nat):Int)-1=b:=O;rw[l];have n:(b:Int)≥0:=O;have o:=F_ b _;clear e;go_upto_region 5 with fail;refine J_ ?_;exact⟨f+256*c,b,g_,g_,O,j.s,True.intro⟩
def En(a:ZC):ZG:=(Ab a).all Gh&&ZE (ZK a<=8)
def Zh9(b:ZC){h}(u:ZK b<=1000000):C_ 243 #[Q_ b] h (V_ (ZR (En b)) h):=by
 refine dl_ ?_;go_enter func243,ntmps243;go_wp2_with fail
 go_loopw [3] (λa d=>∃c:H,a=I c/\c<=ZK b/\K (En b=((ZF c (Ab b)).all Gh&&ZE (ZK b<=8)))/\K (h=d)) (m1_ (ZK b))
 case atStart=>exact⟨0,X,v_,X,X⟩
 obtain⟨c,rfl,t,g,n⟩:=hrel;have p:=n.out;subst p;clear n
 by_cases l:c<ZK b
 ·have q:=F_ c _;have j:=ua l;obtain⟨a,k⟩:=Z_ ((b[c]'l).toNat);have f:K (En b=(Gh a&&((ZF (c+1) (Ab b)).all Gh&&ZE (ZK b<=8)))):=(by show _=_;rw[g,j,k,all_cons,Bool.and_assoc]);clear j g;go_upto_region 5 with fail;clear k
  cases e:Gh a
  ·obtain⟨m,y,z,A,D⟩:¬(97<=a/\a<=122)/\¬a=32/\¬a=44/\¬a=10/\¬a=34:=(by simp[Gh,Fz] at e;omega);have d:K (En b=ZZ):=(by rw[f,e];rfl);have s:((a:E) !=32)=Z0:=t_;have v:((a:E) !=44)=Z0:=t_;have w:((a:E) !=10)=Z0:=t_;have x:((a:E) !=34)=Z0:=t_;clear e f
   by_cases r:a<97
   ·have i:(a:E)<97:=O;go_wp2;go_ret;exact⟨by rw[d];rfl,X⟩
   have i:¬(a:E)<97:=O;have o:(a:E)>122:=O;go_wp2;go_ret;exact⟨by rw[d];rfl,X⟩
  have d:K (En b=((ZF (c+1) (Ab b)).all Gh&&ZE (ZK b<=8))):=(by rw[f,e];rfl);have m:(97<=a/\a<=122)∨a=32∨a=44∨a=10∨a=34:=(by simp[Gh,Fz] at e;omega);clear e f
  rcases m with⟨r,s⟩|rfl|rfl|rfl|rfl
  ·have i:¬(a:E)<97:=O;have o:¬(a:E)>122:=O;refine J_ ?_;exact⟨c+1,g_,O,d,True.intro⟩
  all_goals
   refine J_ ?_;exact⟨c+1,g_,O,d,True.intro⟩
 have a:¬c<(ZK b:E):=O;have d:K (En b=ZE ((ZK b:E)<=8)):=(by show _=_;rw[g,drop_of_length_le (by simp[Ab];omega)];simp;omega);clear g;go_wp2;go_ret;exact⟨by rw[d];rfl,X⟩
end Go.Proofs.YtfcgnpchbcmdeaaGreat
