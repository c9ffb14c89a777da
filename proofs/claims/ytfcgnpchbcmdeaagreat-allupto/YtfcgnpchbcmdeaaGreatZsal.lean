import Derived.Test.YtfcgnpchbcmdeaaGreatZsaj
open _root_ renaming Nat->H,Array->YZ,Bool->ZG,List->U,rfl->X,Int->E,Option->Y0,ByteArray->ZC
open Go renaming World->ZT,Value->ZY,strOfNums->ZB,madeCells->YV,maxLen->Y2
open Option renaming some->T,none->ZP
open Bool renaming true->Z0,false->ZZ
open Array renaming toList->Y4,setIfInBounds->YS,size->B,size->Z3
open Go.World renaming drew->YY,cell?->ZV,alloc->ZN,setCell->ZO,grownBy->Y3,ownsRow->ZD,drewN->Y1,frozen?->YT
open Go.Obj renaming cells->YU
open Go.Ending renaming returned->ZI
open Go.Proofs.Tryz renaming prog->Y8
open Go.Value renaming bool->ZR,pointer->Y7,int->ZX,slice->ZH,ownBlock->ZW,agg->Y9,string->YW,func->YX,tuple->Y5
open Decidable renaming decide->ZE
open List renaming length->F,getD->Z
open Or renaming inl->ZM,inr->ZJ
open Go.IntKind renaming i64->ZQ
open Int renaming toNat->ZL
namespace Go.Proofs.YtfcgnpchbcmdeaaGreat
open List Nat Go.World Go.Proofs.Tryz Go.Value Go.IntKind Go.Lib Go.Region
set_option linter.all false
set_option maxRecDepth 100000
set_option maxHeartbeats 4000000
section
variable {P:Program} {a:YZ Oper} {Q:Exit->Act->ZT->Prop} {c:Region.Mode} {S:ZT->Prop} {b:H}
def okS(c:Region.Mode)(a:YZ Oper)(e:YZ ZG)(d b:H):ZG:=
 noSelect a&&free c a e d&&(ready c a e).contains d&&(Zf9 c a e d).contains b&&nh c a e d (Zf9 c a e d)
def tkS{e:Oper}{i:ZY}{l:H}{g:YZ ZG}{d j:Act}{w:ZT}(f:H)(h:Db P c a Q S b l (YS g f Z0) j w)(s:(Y4 a)[f]? =T e:=by rfl)
  (m:okS c a g f b=Z0:=by decide+kernel) (p:S w:=by assumption)
  (x:YieldsIf P a S e i d:=by first|(refine .inl ⟨by rfl,?_⟩;intro w y;(first|have y:=kb_ y|obtain⟨_,_,_,_,_,_,_,_⟩:=y|obtain⟨_,_,_,_,_,_⟩:=y|obtain⟨_,_,_,_,_⟩:=y|obtain⟨_,_,_,_⟩:=y|obtain⟨_,_,_⟩:=y|obtain⟨_,_⟩:=y|skip);go_simp;(try with_reducible rfl);done)|exact .inr ⟨by rfl,rfl⟩)
  (q:d.put e.dst i=j:=by(try simp only[Act.put,setIfInBounds_toArray,set_cons_succ,set_cons_zero]);exact rfl)
  (o:∀k d w,Q (.panic k) (d.put e.dst i) w->Q (.panic k) d w:=by exact λ_ _ _ h=>h):Db P c a Q S b (l+1) g d w:=by
 simp only[okS,Bool.and_eq_true] at m;obtain⟨⟨⟨⟨u,r⟩,t⟩,v⟩,n⟩:=m;exact Mj _ s u r t v n o x p (q ▸ h)
def rg_{h e c}(d:ZT)(b:H)(f:E_ d (YY c)->Db P .any a Q (E_ d) b (B a) (Array.replicate (B a) ZZ) e (YY c))(hS:E_ d (YY c):=by first|exact y_.drew|(refine Below.drew ?_;assumption))(g:P.follows .mixedOrders=Z0:=by kernel_rfl):(Code.region h a Z0).wp P Q e c:=Af _ _ g hS f
def on_{f j i e d}(h:H)(k:∀g:Act->ZT->Prop,Shut (∀e d,S d->(S d->Db P c a Q S b j (YS i h Z0) e d)->g e d)->if wanted f (yielded a e.tmps)=Z0 then Oper.wp P f e d g Q else g (e.put f.dst undef) d)(l:(Y4 a)[h]? =T f:=by rfl)(m:ready c a i=[h]:=by kernel_rfl):Db P c a Q S b (j+1) i e d:=gq m l k
def la1_{g i f d e}(j:∀h:Act->ZT->Prop,Shut (∀d e,Db P c a Q S b i (YS f b Z0) d e->h d e)->if wanted g (yielded a d.tmps)=Z0 then Oper.wp P g d e h Q else h (d.put g.dst undef) e)(k:(Y4 a)[b]? =T g:=by rfl)(l:ready c a f=[b]:=by kernel_rfl)(m:(YS f b Z0).getD b ZZ=Z0:=by kernel_rfl):Db P c a Q S b (i+1) f d e:=Ew l k m j
end
def tA_{d:Type _}(c:U d)(b:H)(a:d):YS c.toArray b a=(c.set b a).toArray:=setIfInBounds_toArray c b a
def tB_{a:Type _}{x:a}{d:U a}{c:H}{b:a}:(x::d).set (c+1) b=x::d.set c b:=rfl
def tC_{a:Type _}{x:a}{c:U a}{b:a}:(x::c).set 0 b=b::c:=rfl
def G_{a b:Prop}(x:b)(c:(True->b)->a:=by intro x;(try simp only[Act.put,tA_,tB_,tC_]);(try refine tkS 0 ?_);(try refine tkS 1 ?_);(try refine tkS 2 ?_);(try refine tkS 3 ?_);(try refine tkS 4 ?_);(try refine tkS 5 ?_);(try refine tkS 6 ?_);(try refine tkS 7 ?_);(try refine tkS 8 ?_);(try refine tkS 9 ?_);(try refine tkS 10 ?_);(try refine tkS 11 ?_);(try refine tkS 12 ?_);(try refine tkS 13 ?_);(try refine tkS 14 ?_);(try refine tkS 15 ?_);(try refine tkS 16 ?_);(try refine tkS 17 ?_);(try refine tkS 18 ?_);(try refine tkS 19 ?_);(try refine tkS 20 ?_);(try refine tkS 21 ?_);(try refine tkS 22 ?_);(try refine tkS 23 ?_);(try refine tkS 24 ?_);(try refine tkS 25 ?_);(try refine tkS 26 ?_);(try refine tkS 27 ?_);(try refine tkS 28 ?_);(try refine tkS 29 ?_);(try refine tkS 30 ?_);(try refine tkS 31 ?_);(try refine tkS 32 ?_);(try refine tkS 33 ?_);(try refine tkS 34 ?_);(try refine tkS 35 ?_);(try refine tkS 36 ?_);(try refine tkS 37 ?_);(try refine tkS 38 ?_);(try refine tkS 39 ?_);(try refine tkS 40 ?_);exact x trivial):a:=c λ_=>x
def le_{a b:Prop}(x:b)(c:(True->b)->a:=by intro x;refine la1_ (λKK hK=>?_);go_simp;refine hK _ _ ?_;clear hK KK;(try simp only[Act.put,tA_,tB_,tC_]);refine Fr k_ ?_ _;exact x trivial):a:=c λ_=>x
end Go.Proofs.YtfcgnpchbcmdeaaGreat
namespace Go.Proofs.YtfcgnpchbcmdeaaGreat
set_option linter.all false
set_option maxRecDepth 100000
set_option maxHeartbeats 4000000
open Go.RowKit List Nat Go.World Go.Proofs.Tryz Go.Value Go.IntKind Go.Lib Go.Region
def lt_{a:ZT}{b d e}(c:ZV a (J b d)=T e):b<B a.1:=aJ a _ c
def na_(a:ZT)(c:YZ ZY)(d:H):∃b,b=ZN a (YU c d)/\E_ a b/\H_ b (B a.1) c d:=⟨_,X,r_,hn_⟩
def oc_{d:YZ Oper}{g:Exit->Act->ZT->Prop}{l:Region.Mode}{f:ZT->Prop}{q:H}{c p k b w o n}{m:Ending->ZT->Prop}(j:H)(r:C_ o n w m)(h:∀e a,m e a->∃v,e=ZI v/\f a/\(f a->Db Y8 l d g f q p (YS k j Z0) (b.put c.dst v) a))(t:(Y4 d)[j]? =T c:=by rfl)(u:ready l d k=[j]:=by kernel_rfl)(x:∀y:Act->ZT->Prop,C_ o n w (λe a=>∃v,e=ZI v/\y (b.put c.dst v) a)->if wanted c (yielded d b.tmps)=Z0 then Oper.wp Y8 c b w y g else y (b.put c.dst undef) w:=by intro y h;go_simp;refine Calls.m h ?_;rintro e w ⟨v,rfl,z⟩;first|exact z|(revert z;go_simp;done)|(revert z;go_simp;exact id)):
  Db Y8 l d g f q (p+1) k b w:=
 gq u t λ_ hK=>x _ (r.m λe a s=>(h e a s).imp λ_ i=>⟨i.1,hK _ _ i.2.1 i.2.2⟩)
section
variable {w:ZT} {b:H} {a c vC:ZY} {wt:E} {fl:ZG} {d:ZY} {p:Cm}
def RB.h(f:RB w b a c vC wt fl d p) e:RB (ZO w (J b 3) (I e)) b a c vC e fl d p:=hs_ w b 3 _ 256 _ f
def RB.j(f:RB w b a c vC wt fl d p) e:RB (ZO w (J b 4) (ZR e)) b a c vC wt e d p:=hs_ w b 4 _ 256 _ f
def RB.g(f:RB w b a c vC wt fl d p) e:RB (ZO w (J b 5) e) b a c vC wt fl e p:=hs_ w b 5 _ 256 _ f
def RB.k(f:RB w b a c vC wt fl d p){e}:RB (ZO w (J b 1) e) b a e vC wt fl d p:=hs_ w b 1 _ 256 _ f
end
def Et(a:E):ZG:=!(ZE (a=1)||ZE (a=4)||ZE (a=7))
def Zeo{h m l k o i n} a g (j:RB g h m l k o i n a):C_ 220 #[Y7 (T (J h 6))] g (V_ (ZR (Et a.n)) g):=by
 obtain⟨f,_,_,_,_,_,_⟩:=j.i
 by_cases c:a.n=1
 have b:K (Et a.n=ZZ):=(by show Et a.n=ZZ;rw[c];rfl);rw[c] at f;refine er_ ?_;rw[b];exact⟨X,X⟩
 by_cases d:a.n=4
 have b:K (Et a.n=ZZ):=(by show Et a.n=ZZ;rw[d];rfl);rw[d] at f;refine er_ ?_;rw[b];exact⟨X,X⟩
 by_cases e:a.n=7
 have b:K (Et a.n=ZZ):=(by show Et a.n=ZZ;rw[e];rfl);rw[e] at f;refine er_ ?_;rw[b];exact⟨X,X⟩;have b:K (Et a.n=Z0):=(by show Et a.n=Z0;unfold Et;simp[c,d,e]);have p:=aO c;have q:=aO d;have r:=aO e;refine er_ ?_;rw[b];exact⟨X,X⟩
def wx{d k j i c f l h b}(g:RB b d k j i c f l h):C_ 91 #[P_ d] b (V_ (ZR (ZE (c=0))) b):=by
 obtain⟨_,_,_,m,_,_⟩:=g.e
 by_cases a:c=0
 subst a;refine er_ ?_;exact⟨X,X⟩;have n:=aO a;have e:=Y (aE a);refine er_ ?_
 first|exact⟨X,X⟩|(rw[e];exact⟨X,X⟩)
abbrev Zjh:=Y0 (Y0 E)
def Ar(b a:E):Zjh:=
 if a=44/\0<b then T ZP
 else if 48<=a/\a<=57/\1<=b*10+(a-48)/\b*10+(a-48)<=99 then T (T (b*10+(a-48)))
 else ZP
def ZnP(a:H)(g f e:ZY)(j:E)(i:ZG)(h:ZY)(d:Cm)(k:Zjh)(l:ZT)(c:Ending)(b:ZT):Prop:=
 Y3 l b (T a)/\match k with
  |none=>c=ZI (ZR ZZ)/\RB b a g f e j i h d
  |some ZP=>c=ZI (ZR Z0)/\RB b a g f e j Z0 h d
  |some (T m)=>c=ZI (ZR Z0)/\RB b a g f e m i h d
def ef{f o n m b j p l a i}(g:RB i f o n m b j p l)(w:0<=b)(x:b<=99)(y:0<=a)(z:a<=255):C_ 162 #[P_ f,ZX .u8 a] i λc d=>ZnP f o n m b j p l (Ar b a) i c d:=by
 obtain⟨_,_,_,r,s,_⟩:=g.e;have t:=g.i.2.2.2.2.2.2;have d:=Y g
 by_cases k:a=44/\0<b
 have c:K (Ar _ a=_):=aD k;obtain⟨rfl,e⟩:=k;refine er_ ?_;rw[c];exact⟨Aq (Ay) _,X,d.j _⟩
 by_cases q:48<=a/\a<=57
 ·obtain⟨u,v⟩:=q;have M:¬a=44:=O;have A:IntKind.u8.wrap (a-48)=a-48:=(by simp[wrap,IntKind.bits,signed];omega);have D:_=a-48:=Au O O;have G:_=b*10:=Au O O;have L:_=b*10+(a-48):=Au O O
  by_cases h:1<=b*10+(a-48)/\b*10+(a-48)<=99
  ·have c:K (Ar b a=T (T (b*10+(a-48)))):=(by show Ar b a=_;grind [Ar]);obtain⟨e,N⟩:=h;refine q_ ?_;go_wp2;go_ret;rw[c];exact⟨Aq (Ay) _,X,d.h _⟩
  have c:K (Ar b a=ZP):=(by show Ar b a=_;grind [Ar]);have e:b*10+(a-48)<1∨99<b*10+(a-48):=O
  rcases e with e|e
  all_goals
   refine q_ ?_;go_wp2;go_ret;rw[c];exact⟨Ay,X,d⟩
 have c:K (Ar b a=ZP):=(by show Ar b a=_;grind [Ar]);have e:a<48∨57<a:=O;have h:(a=44/\b=0)∨¬a=44:=O
 rcases h with⟨rfl,rfl⟩|h
 ·clear e;refine q_ ?_;go_wp2;go_ret;rw[c];exact⟨Ay,X,d⟩
 have u:=aO h
 rcases e with e|e
 all_goals
  refine q_ ?_;go_wp2;go_ret;rw[c];exact⟨Ay,X,d⟩
def Zf3:(prog.info? 5).map (λa=>(a.zero,a.size,a.bytes))=T (T (ZX .u8 0),1,1):=k_
def Az(d:ZT)(b:H)(c:ZY)(a:U E):Prop:=ZD d b 5 1 c (F a) (a.map (ZX .u8))
def Az.a{g d b a}(f:Az g d b a):∃c e,b=ZH c (F a) e:=by
 rcases f.2 with⟨rfl,i⟩|⟨k,j,h,rfl,_⟩
 ·grind
 grind
def RW(b:ZT)(c d:H)(i h g:ZY)(k:E)(f:ZG)(j:ZY)(a:Cm)(e:U E):Prop:=RB b c i h g k f j a/\Az b d a.f e
def Fo(e i:H)(n m l:ZY)(p:E)(k:ZG)(o:ZY)(b:Cm)(f:U E)(c:Y0 (E×U E))(g:ZT)(j:Ending)(h:ZT):Prop:=
 j=ZI (ZR c.isSome)/\(∃d,RW h e i n m l p k o {b with n:=(c.getD (b.n,f)).1,f:=d} (c.getD (b.n,f)).2/\(ZW d=ZW b.f∨∃a,ZW d=T a/\B g.1<=a))/\Aa (λa=>a=e∨T a=ZW b.f) g h
def Fo.none{c d i h g k f j a e b}(l:RW b c d i h g k f j a e):Fo c d i h g k f j a e ZP b (ZI (ZR ZZ)) b:=
 ⟨X,⟨a.f,l,ZM X⟩,Aa.refl _ _⟩
section
variable (b base:H) (d a vC:ZY) (wt:E) (fl:ZG) (e:ZY) (p:Cm) (bs:U E) (c:E) (w:ZT)
def mo(g:RW w b base d a vC wt fl e p bs):C_ 311 #[Y7 (T (J b 6))] w (V_ (ZR (ZE (F bs=8))) w):=by
 obtain⟨_,_,_,_,_,f,j⟩:=g.1.i;obtain⟨i,k,h⟩:=g.2.a;rw[h] at f
 by_cases c:F bs=8
 rw[c] at f;refine er_ ?_;exact⟨by simp[c],X⟩;have l:((F bs:E)==8)=_:=aO O;refine er_ ?_;exact⟨by simp[c],X⟩
def ix(f:RW w b base d a vC wt fl e p bs):C_ 259 #[Y7 (T (J b 6)),ZX .u8 c] w λh k=>Fo b base d a vC wt fl e p bs (if c=34 then T (7,bs) else ZP) w h k:=by
 obtain⟨l,_,_,_,_,_,m⟩:=f.1.i;have H:=Y f
 have i:K (∀g,Az (ZO w (J b 6) g) base p.f bs):=λg=>((Aa.refl _ w).setCell (p:=(J b 6)) (λ_=>X) g).M f.2 (λo j h=>by
  obtain⟨n,q⟩:=Ac f.2 j;subst h;have:=f.1;unfold RB at this
  grind)
 by_cases q:c=34
 ·subst q;refine q_ ?_;go_wp2;go_ret;exact⟨X,⟨p.f,⟨H.1.n 7,i _⟩,ZM X⟩,(λg=>(Aa.refl _ w).setCell (p:=(J b 6)) (λ_=>ZM X) g) _⟩
 have j:=aO q;refine q_ ?_;go_wp2;go_ret
 first|exact Fo.none H|(rw[(aC q)];exact Fo.none H)
def tl(f:RW w b base d a vC wt fl e p bs):C_ 261 #[Y7 (T (J b 6)),ZX .u8 c] w λh k=>Fo b base d a vC wt fl e p bs (if c=34 then T (8,bs) else ZP) w h k:=by
 obtain⟨l,_,_,_,_,_,m⟩:=f.1.i;have H:=Y f
 have i:K (∀g,Az (ZO w (J b 6) g) base p.f bs):=λg=>((Aa.refl _ w).setCell (p:=(J b 6)) (λ_=>X) g).M f.2 (λo j h=>by
  obtain⟨n,q⟩:=Ac f.2 j;subst h;have:=f.1;unfold RB at this
  grind)
 by_cases q:c=34
 ·subst q;refine q_ ?_;go_wp2;go_ret;exact⟨X,⟨p.f,⟨H.1.n 8,i _⟩,ZM X⟩,(λg=>(Aa.refl _ w).setCell (p:=(J b 6)) (λ_=>ZM X) g) _⟩
 have j:=aO q;refine q_ ?_;go_wp2;go_ret
 first|exact Fo.none H|(rw[(aC q)];exact Fo.none H)
end
def Mf(a:U E)(b:E):Y0 (E×U E):=if Fz b=Z0/\F a≠8 then T (6,a++[b]) else ZP
def Gh(a:E):ZG:=Fz a||ZE (a=32)||ZE (a=44)||ZE (a=10)||ZE (a=34)
def fz(c:E)(a:U E)(b:E):Y0 (E×U E):=if Gh b=Z0/\F a≠8 then T (c,a++[b]) else ZP
def Ok(a:U E)(b:E):Y0 (E×U E):=if b=34/\F a≠8 then T (7,a++[b]) else ZP
def bj{a l p o n s m q d b f r e i w h g j}(t:RW r a l p o n s m q d b)(u:RB e a p o n s m q {d with n:=w})(x:Aa (λk=>k=a) r e)(z:ZD i l 5 1 (L_ h (F b+1) g) (F b+1) (b.map (ZX .u8)++[ZX .u8 f]))(v:Y3 (ZN e (O_ #[ZX .u8 f] 5)) i (ZW d.f))(D:ZW (L_ h (F b+1) g)=ZW d.f∨ZW (L_ h (F b+1) g)=T j/\Below j (ZN e (O_ #[ZX .u8 f] 5)) i)(L:B e.1<=j):Fo a l p o n s m q d b (T (w,b++[f])) r (ZI (ZR Z0)) (ZO i (J a 11) (L_ h (F b+1) g)):=by
 have A:T a≠ZW d.f:=λc=>by
  obtain⟨y,G⟩:=Ac t.2 c.s;have:=t.1;unfold RB at this
  grind
 have y:RB (ZN e (O_ #[ZX .u8 f] 5)) a _ _ _ _ _ _ _:=(hb_ _ _ a u.lt).T u;refine⟨X,⟨V _ _ _,⟨(y.grown v A).f _,?_⟩,?_⟩,?_⟩
 ·have G:Aa _ _ (ZO i _ (L_ h (F b+1) g)):=(Aa.refl _ _).setCell (p:=(J a 11)) (λ_=>X) _;have M:=G.M z (λk N c=>by grind [RB])
  grind [Az]
 ·rcases D with c|⟨c,_⟩
  exact ZM c;exact ZJ ⟨j,c,p_ x.size⟩
 exact(((x.m (λk _ c=>ZM c)).alloc _).grown v (λk c _=>ZJ c.s)).setCell (p:=(J a 11)) (λ_=>ZM X) _
section
variable (b base:H) (d a vC:ZY) (wt:E) (fl:ZG) (e:ZY) (p:Cm) (bs:U E) (c:E) (w:ZT)
def Ty(f:RW w b base d a vC wt fl e p bs)(z:base<=B w.1)(W:F bs<=1000):C_ 260 #[Y7 (T (J b 6)),ZX .u8 c] w λg h=>Fo b base d a vC wt fl e p bs (Mf bs c) w g h:=by
 obtain⟨M,_,_,_,_,L,N⟩:=f.1.i;have i:=Y f;have j:=Y (λk=>Qv c k);have l:=Y (mo b _ _ _ _ _ _ _ p _ w f)
 have t:K (Az (ZO w (J b 6) (I 6)) base p.f bs):=((Aa.refl (λk=>k=b) w).setCell (p:=(J b 6)) (λ_=>X) _).M f.2 (λk m g=>by
  obtain⟨r,x⟩:=Ac f.2 m;subst g;have:=f.1;unfold RB at this
  grind)
 have o:=Y (f.1.n 6);have v:K (Aa _ w (ZO w _ (I 6))):=(Aa.refl (λk=>k=b) w).setCell (p:=(J b 6)) (λ_=>X) _
 have u:K (_<=B (ZO w (J b 6) (I 6)).1):=show base<=_ by simp[ZO];exact z
 have Q:_=T p.f:=(f.1.n 6).i.2.2.2.2.2.1
 by_cases n:Fz c=Z0
 ·rw[n] at j
  by_cases m:F bs=8
  ·have k:K (Mf _ c=_):=aC (λf=>f.2 m);have q:=aF m;rw[q] at l;refine q_ ?_;go_wp2_with (first|(go_at_call 310;apply (j _).m;rintro g h ⟨rfl,rfl⟩)|(go_at_call 311;apply (l).m;rintro g h ⟨rfl,rfl⟩))
   go_ret;rw[k];exact Fo.none i
  have k:K (Mf _ c=_):=aD ⟨n,m⟩;rw[(aE m)] at l;refine q_ ?_;go_upto_region 4 with(first|(go_at_call 310;apply (j _).m;rintro g h ⟨rfl,q⟩;obtain rfl:=q.s)|(go_at_call 311;apply (l).m;rintro g h ⟨rfl,q⟩;obtain rfl:=q.s))
  have s:K (T b≠ZW p.f):=λg=>by
   obtain⟨r,x⟩:=Ac i.2 g.s;have:=i.1;unfold RB at this
   grind
  generalize (ZO w) (J b 6) (I 6)=G at *;have a0:=u.out;go_wp2_with (at_builtin;refine ap_ [ZX .u8 c] (ra_ t _) ?_)
  intro a3 a2 y;obtain⟨D,r,A,_,a1,P,rfl⟩:=y;have x:RB (ZN G (O_ #[ZX .u8 c] 5)) b _ _ _ _ _ _ _:=(hb_ _ _ b o.lt).T o;obtain⟨_,_,_,_,_,R,S⟩:=(x.grown r s).i;go_wp2;go_ret;rw[k];exact(Y (bj i o v D r A O))
 have k:K (Mf bs c=_):=aC (λf=>n f.1)
 have m:Fz c=ZZ:=by simpa using n
 rw[m] at j;refine q_ ?_;go_wp2_with (go_at_call 310;apply (j _).m;rintro g h ⟨rfl,rfl⟩)
 go_ret;rw[k];exact Fo.none i
end
def El(b a:H):E:=if b+1=a then 10 else 44
def tf{e g} a i {q p r l h b j o d}(m:RB d e (V g a i) q p r l (V h b j) o)(u:a<=1000)(v:b<=1000):C_ 219 #[P_ e] d λc k=>c=ZI (ZX .u8 (El b a))/\∃f,k=Y1 d f:=by
 have⟨s,_,_,_,_,t⟩:=m.e
 by_cases f:b+1=a
 ·have c:K (El _ _=_):=aD f;have n:_=(a:E)-1:=Au O O;have k:(b==(a:E)-1)=Z0:=t_;refine q_ ?_;go_wp2_with fail
  go_big_quiet (fail);go_wp2;go_ret;rw[c];exact⟨X,_,X⟩
 have c:K (El _ _=_):=aC f;have n:_=(a:E)-1:=Au O O;have k:((b:E)==(a:_)-1)=_:=aO O;refine q_ ?_;go_wp2_with fail
 go_big_quiet (fail);go_wp2;go_ret;rw[c];exact⟨X,_,X⟩
def Pn a g {f d}(e:Az a g f d):(convert 66 9 f).run Y8 a=.ok (Q_ (ZB d)) a:=by
 rcases e.2 with⟨rfl,h⟩|⟨c,i,j,rfl,_,l,_⟩
 have b:=eq_nil_of_length_eq_zero h;subst b;rw[run_convert_bytes_nil a 66 5 underlying66 underlying5 0 0 9 underlying9];rfl
 refine run_convert_bytes_arg a _ 5 underlying66 underlying5 c 0 _ _ _ X (λb m=>?_) 9 underlying9;have:=World.ownsRow.cells e (g:=c) X b (ZX .u8 (Z d b 0)) w_;have k:((J c 0):Addr).add b=(J c b):=by unfold Addr.add;split<;>simp_all
 grind
def Tm(a:Cm):E:=if a.neg=Z0 then -a.num else a.num
def ZiJ{f} R {a4 a3 a2 a6 a0 a5} p {b a}(g:RW a f R a4 a3 a2 a6 a0 a5 p b)(a9: -1000000000000<=p.num)(b0:p.num<=1000000000000):C_ 221 #[Y7 (T ⟨f,6,ZP⟩)] a λd c=>d=ZI (Y9 #[ZR (ZE (p.n=0)),ZX ZQ (Tm p),YW (ZB b)])/\E_ a c:=by
 have⟨x,y,_,_,v,w,_⟩:=g.1.i;have a8:=g.1.lt;have⟨r,s,N⟩:=g.2.a;have n:=λe a1=>Pn e _ ((Aa.a (S:=λ_=>False) a1).M g.2 (λ_ _=>id));have h:Below _ a (ZN a (YU #[ZR ZZ,I 0,YW ⟨#[]⟩] 308)):=r_;have D:=n _ h.drew;have G:(convert 66 9 p.f).run _ (YY (ZN (ZN a _) (YU #[ZR ZZ,I 0,YW ⟨#[]⟩] 308)))=_:=n _ (h.alloc s_ _).drew;have⟨W,A,S,z⟩:=k4_ h x y v w;have Q:K (∀e,E_ a e->(convert 66 9 (ZH r (F b) s)).run Y8 e=.ok (YW (ZB b)) e):=(by rw[<- N];exact n);have m:=Y h;have b1:B (ZN a (YU #[ZR ZZ,I 0,YW ⟨#[]⟩] 308)).1=B a.1+1:=s_;have b6:ZV (ZN a (YU #[ZR ZZ,I 0,YW ⟨#[]⟩] 308)) (J (B a.1) 0)=T (ZR ZZ):=s_;have b7:ZV (ZN a (YU #[ZR ZZ,I 0,YW ⟨#[]⟩] 308)) (J (B a.1) 1)=T (I 0):=s_
 have b8:ZV (ZN a (YU #[ZR ZZ,I 0,YW ⟨#[]⟩] 308)) (J (B a.1) 2)=T (YW ⟨#[]⟩):=s_;have t:K ((ZN a (YU #[ZR ZZ,I 0,YW ⟨#[]⟩] 308)).1[_]? =_):=ha_ a _;have b9:∀P,YT (ZN a (YU #[ZR ZZ,I 0,YW ⟨#[]⟩] 308)) _=_:=λP=>R_ P _ _ (ha_ a _);clear g n h x y v w;rw[N] at z D G;refine q_ ?_;go_wp2_with fail
 generalize (ZN a) (YU #[ZR ZZ,I 0,YW ⟨#[]⟩] 308)=l at *;have b3:=new_ne _ _ W;have b4:=new_ne _ _ S;have b5:=new_ne _ _ z;clear D G;go_region_held3 (λc=>(ZV c ⟨f,6,ZP⟩=T (I p.n)/\ZV c ⟨f,10,ZP⟩=T (I p.num)/\ZV c ⟨f,11,ZP⟩=T (ZH r (F b) s))/\(convert 66 9 (ZH r (F b) s)).run Y8 c=.ok (YW (ZB b)) c) (exact⟨by go_keep,Q.out _ (by repeat(first|with_reducible exact m.out|with_reducible apply Below.drew|(refine Below.alloc ?_ O _)|(refine Below.setCell ?_ (by first|omega|(simp;omega)) _)))⟩) (fail)
 have a7:K (Below _ a (YY (ZN l (YU #[ZR (p.n==0),I p.num,YW (ZB b)] 308)))):=(m.alloc O _).drew;have M:(p.n==0)=ZE (p.n=0):=w_;have u:=Y M;clear M;have b2:_= -p.num:=Au O O
 by_cases d:p.neg=Z0
 ·have q:K (Tm p=_):=aD d;rw[d] at A;clear d;have c:(YY (ZN (ZO (ZO (ZO l (J (B a.1) 0) (ZR (p.n==0))) (J (B a.1) 1) (I (-p.num))) (J (B a.1) 2) (YW (ZB b))) (YU #[ZR (p.n==0),I (-p.num),YW (ZB b)] 308))).1[B a.1]? =T (YU #[ZR (p.n==0),I (-p.num),YW (ZB b)] 308 (0,0)):=by have j:=ht_ 0 _ _ (ZR (p.n==0)) t;have k:=ht_ 1 _ _ (I (-p.num)) j;have i:=ht_ 2 _ _ (YW (ZB b)) k;exact(hc_ (Qb i).1).T i
  have i:=n_ 0 c;have j:=n_ 1 c;have k:=n_ 2 c;have o:K (E_ a (YY (ZN (ZO (ZO (ZO l (J (B a.1) 0) (ZR (p.n==0))) (J (B a.1) 1) (I (-p.num))) (J (B a.1) 2) (YW (ZB b))) (YU #[ZR (p.n==0),I (-p.num),YW (ZB b)] 308)))):=((((m.setCell (p:=(J (B a.1) 0)) x_ _).setCell (p:=(J (B a.1) 1)) x_ _).setCell (p:=(J (B a.1) 2)) x_ _).alloc (by simp[ZO];omega) _).drew;clear c;go_wp2;exact bodyPost_ret (v:=Y9 #[ZR (p.n==0),I (-p.num),YW (ZB b)]) (by simp at i j k;simp[results,results221,go_sem,i,j,k]) X ⟨by rw[q,u],o⟩
 have L:p.neg=ZZ:=by simpa using d
 have q:K (Tm p=_):=aC d;rw[L] at A;clear d L;have c:(YY (ZN (ZO (ZO (ZO l (J (B a.1) 0) (ZR (p.n==0))) (J (B a.1) 1) (I (p.num))) (J (B a.1) 2) (YW (ZB b))) (YU #[ZR (p.n==0),I (p.num),YW (ZB b)] 308))).1[B a.1]? =T (YU #[ZR (p.n==0),I (p.num),YW (ZB b)] 308 (0,0)):=by have j:=ht_ 0 _ _ (ZR (p.n==0)) t;have k:=ht_ 1 _ _ (I (p.num)) j;have i:=ht_ 2 _ _ (YW (ZB b)) k;exact(hc_ (Qb i).1).T i
 have i:=n_ 0 c;have j:=n_ 1 c;have k:=n_ 2 c;have o:K (E_ a (YY (ZN (ZO (ZO (ZO l (J (B a.1) 0) (ZR (p.n==0))) (J (B a.1) 1) (I (p.num))) (J (B a.1) 2) (YW (ZB b))) (YU #[ZR (p.n==0),I (p.num),YW (ZB b)] 308)))):=((((m.setCell (p:=(J (B a.1) 0)) x_ _).setCell (p:=(J (B a.1) 1)) x_ _).setCell (p:=(J (B a.1) 2)) x_ _).alloc (by simp[ZO];omega) _).drew;clear c;go_wp2;exact bodyPost_ret (v:=Y9 #[ZR (p.n==0),I (p.num),YW (ZB b)]) (by simp at i j k;simp[results,results221,go_sem,i,j,k]) X ⟨by rw[q,u],o⟩
def mx a f:C_ 312 #[ZX .u8 a] f (V_ (ZR (Gh a)) f):=by
 have b:=Y (λc=>Qv a c)
 by_cases e:Fz a=Z0
 ·have c:K (Gh a=Z0):=(by show Gh a=Z0;unfold Gh;rw[e];rfl);rw[e] at b;refine q_ ?_;go_wp2_with (go_at_call 310;apply (b _).m;rintro g n ⟨rfl,d⟩;obtain rfl:=d.s)
  go_ret;rw[c];exact⟨X,X⟩
 have i:Fz a=ZZ:=by simpa using e
 have c:K (Gh a=(ZE (a=32)||ZE (a=44)||ZE (a=10)||ZE (a=34))):=(by show Gh a=_;unfold Gh;grind);rw[i] at b;have h:a=32∨a=44∨a=10∨a=34∨(¬a=32/\¬a=44/\¬a=10/\¬a=34):=O
 rcases h with rfl|rfl|rfl|rfl|⟨j,k,l,m⟩
 all_goals try
  have d:=aO j;have g:=aO k;have n:=aO l;have o:=aO m
 all_goals go_enter func312,ntmps312
 all_goals go_wp2_with (go_at_call 310;apply (b _).m;rintro g n ⟨rfl,d⟩;obtain rfl:=d.s)
 all_goals go_ret
 all_goals refine⟨?_,X⟩
 all_goals rw[c]
 all_goals first|rfl|simp_all
section
variable (b base:H) (d a vC:ZY) (wt:E) (fl:ZG) (f:ZY) (p:Cm) (bs:U E) (c:E) (w:ZT)
def ql(e:RW w b base d a vC wt fl f p bs)(D:base<=B w.1)(a3:F bs<=1000):C_ 263 #[Y7 (T (J b 6)),ZX .u8 c] w λg q=>Fo b base d a vC wt fl f p bs (Ok bs c) w g q:=by
 obtain⟨Q,_,_,_,_,P,R⟩:=e.1.i;have l:=Y e;have N:=Y (λh=>Qv c h);have i:=Y (mo b _ _ _ _ _ _ _ p _ w e)
 have s:K (T b≠ZW p.f):=λg=>by
  obtain⟨j,k⟩:=Ac e.2 g.s;have:=e.1;unfold RB at this
  grind
 have u:K (Az (ZO w (J b 6) (I 7)) base p.f bs):=((Aa.refl (λh=>h=b) w).setCell (p:=(J b 6)) (λ_=>X) _).M e.2 (λh m g=>by
  obtain⟨j,k⟩:=Ac e.2 m;subst g;have:=e.1;unfold RB at this
  grind)
 have m:=Y (e.1.n 7);have x:K (Aa _ w (ZO w _ (I 7))):=(Aa.refl (λh=>h=b) w).setCell (p:=(J b 6)) (λ_=>X) _
 have v:K (_<=B (ZO w (J b 6) (I 7)).1):=show base<=_ by simp[ZO];exact D
 have W:_=T p.f:=(e.1.n 7).i.2.2.2.2.2.1;have a0:=(e.1.n 7).i.2.2.2.2.2.2
 by_cases k:c=34
 ·subst k
  by_cases j:F bs=8
  ·have h:K (Ok _ 34=_):=aC (λe=>e.2 j);have n:=aF j;rw[n] at i;refine q_ ?_;go_wp2_with ((go_at_call 311;apply (i).m;rintro g q ⟨rfl,o⟩;obtain rfl:=o.s))
   go_ret;rw[h];exact Fo.none l
  have h:K (Ok _ _=_):=aD ⟨X,j⟩;have n:=aE j;rw[n] at i;refine q_ ?_;go_upto_region 4 with((go_at_call 311;apply (i).m;rintro g q ⟨rfl,o⟩;obtain rfl:=o.s))
  generalize (ZO w) (J b 6) (I 7)=M at *;have a4:=v.out;go_wp2_with (at_builtin;refine ap_ [ZX .u8 34] (ra_ u _) ?_)
  intro a7 a6 A;obtain⟨L,r,G,_,a5,S,rfl⟩:=A;have y:RB (ZN M (O_ #[ZX .u8 34] 5)) b _ _ _ _ _ _ _:=(hb_ _ _ b m.lt).T m;have z:=y.grown r s;obtain⟨_,_,_,_,_,a1,a2⟩:=z.i;have t:=Y (bj l m x L r G O);go_wp2;go_ret;rw[h];exact t
 have h:K (Ok bs c=_):=aC (λe=>k e.1);refine er_ ?_;rw[h];exact Fo.none l
def Zjw{p:Prop}(h:p:=by
 refine q_ ?_;go_wp2_with (first|(go_at_call 312;apply (h _).m;rintro e w' ⟨rfl,hw'⟩;obtain rfl:=hw'.s)|(go_at_call 311;apply (HF).m;rintro e w' ⟨rfl,hw'⟩;obtain rfl:=hw'.s))
 go_ret;rw[i]
 exact Fo.none l):p:=h
def Zap(g:RW w b base d a vC wt fl f p bs)(y:base<=B w.1)(W:F bs<=1000):C_ 262 #[Y7 (T (J b 6)),ZX .u8 c] w λe w'=>Fo b base d a vC wt fl f p bs (fz p.n bs c) w e w':=by
 obtain⟨L,_,_,_,_,G,M⟩:=g.1.i;have l:=Y g;have h:=Y (λi=>mx c i);have HF:=Y (mo b _ _ _ _ _ _ _ p _ w g)
 have q:K (T b≠ZW p.f):=λe=>by
  obtain⟨i,j⟩:=Ac g.2 e.s;have:=g.1;unfold RB at this
  grind
 have s:=Y g.2;have m:=Y g.1;have t:K (Aa (λi=>i=b) w w):=Aa.refl _ _;have D:=Y y;have P:=g.1.i.2.2.2.2.2.1;have Q:=g.1.i.2.2.2.2.2.2
 by_cases k:Gh c=Z0
 ·rw[k] at h
  by_cases j:F bs=8
  have i:K (fz p.n _ c=_):=aC (λg=>g.2 j);have n:=aF j;rw[n] at HF;exact Zjw;have i:K (fz p.n _ c=_):=aD ⟨k,j⟩;have n:=aE j;rw[n] at HF;refine q_ ?_;go_upto_region 3 with(first|(go_at_call 312;apply (h _).m;rintro e w' ⟨rfl,hw'⟩;obtain rfl:=hw'.s)|(go_at_call 311;apply (HF).m;rintro e w' ⟨rfl,hw'⟩;obtain rfl:=hw'.s))
  go_wp2_with (at_builtin;refine ap_ [ZX .u8 c] (ra_ s _) ?_)
  intro a2 a1 x;obtain⟨A,o,z,_,a0,N,rfl⟩:=x;have u:RB (ZN w (O_ #[ZX .u8 c] 5)) b _ _ _ _ _ _ _:=(hb_ w _ b m.lt).T m;have v:=u.grown o q;obtain⟨_,_,_,_,_,R,S⟩:=v.i;have r:=Y (bj l m t A o z O);go_wp2;go_ret;rw[i];exact r
 have j:Gh c=ZZ:=by simpa using k
 have i:K (fz p.n bs c=_):=aC (λg=>k g.1);rw[j] at h;exact Zjw
end
def Zkp{g h i:ZT}{c}(a:Y3 g h c)(b:Y3 h i c):Y3 g i c:=
 ⟨b.os.T a.os,b.tape.T a.tape,b.output.T a.output,aG a.size b.size,λf d e=>(b.block f (Qh d a.size) e).T (a.block f d e)⟩
def Do(c:E)(a:Cm)(b:E):Y0 Cm:=
 if a.n=0 then(Rg a b).orElse (λ_=>Io c a b)
 else if a.n=1 then Io c a b
 else if a.n=3 then(Lt a b).orElse (λ_=>Nl a b)
 else if a.n=2 then Nl a b
 else Je a b
def Cq(c:E)(a:U E)(b:E):Y0 (E×U E):=
 if c=0 then(if b=34 then T (7,a) else ZP).orElse (λ_=>Mf a b)
 else if c=6 then Mf a b
 else if c=7 then(if b=34 then T (8,a) else ZP).orElse (λ_=>fz c a b)
 else Ok a b
section
variable {g f i:H} {c d h:YZ ZY} {w:ZT} {Q a:Ending->ZT->Prop} {b:ZG}
def ts_(X:C_ f c w Q)(j:∀e h,Q e h->e=ZI (ZR b)/\a e h)(i:C_ f c w (λe h=>e=ZI (ZR b)/\K (a e h))->C_ g d w a:=by intro X;refine q_ ?_;go_wp2_with fail;apply X.m;rintro e w2 ⟨rfl,HT⟩;go_wp2;go_ret;exact HT):=i (X.m j)
def tt_(X:C_ f c w Q)(l:∀e j,Q e j->(e=ZI (ZR Z0)/\a e j)∨(e=ZI (ZR ZZ)/\C_ i h j λe w2=>e=ZI (ZR b)/\a e w2))(k:C_ f c w (λe j=>(e=ZI (ZR Z0)/\K (a e j))∨(e=ZI (ZR ZZ)/\K (C_ i h j λe w2=>e=ZI (ZR b)/\K (a e w2))))->C_ g d w a:=by intro X;refine q_ ?_;go_wp2_with fail;apply X.m;rintro e w1 (⟨rfl,HT⟩|⟨rfl,Y⟩);(focus (go_wp2;go_ret;exact HT));go_wp2_with fail;apply Y.m;rintro e w2 ⟨rfl,HT⟩;go_wp2;go_ret;exact HT):=k (X.m l)
end
def Gv.a{a i h g m c j f k l b e}(d:Gv a i h g m c j f e k b l):=d.1
def Gv.or{c i h g k d j e p b a m n o r q}(w:Gv c i h g k d j e m p a b)(x:(m.orElse λ_=>n)=o)(v:∀b,RB b c i h g k d j e->C_ r q b (Gv c i h g k d j e n b)):(a=ZI (ZR Z0)/\Gv c i h g k d j e o p a b)∨(a=ZI (ZR ZZ)/\C_ r q b λa u=>a=ZI (ZR n.isSome)/\Gv c i h g k d j e o p a u):=by
 subst x;obtain⟨l,s,t⟩:=w
 cases m with
 |none=>exact ZJ ⟨l,(v _ s).m λa u f=>⟨f.1,f.1,f.2.1,Zkp t f.2.2⟩⟩
 |some f=>exact ZM ⟨l,l,s,t⟩
def qj{d z y x D q A a e h f}(g:RB f d z y x D q A a)(v:0<=h)(w:h<=1000000)(t:0<=a.unit)(u:a.unit<=1000000)(r:0<=a.num)(s:a.num<=1000000000000)(G:0<=a.dig)(L:a.dig<=1000):C_ 215 #[Y7 (T (J d 6)),ZX .u8 e,I h] f λi p=>Gv d z y x D q A a (Do h a e) f i p:=by
 obtain⟨l,_,_,_,_,_,_⟩:=g.i;have j:=Y g;clear g;obtain⟨R,b⟩:=ez_ (Do h a e);rw[b];unfold Do at b
 by_cases m:a.n=0
 rw[m] at l;rw[aD m] at b;exact tt_ (tk d _ _ _ _ _ _ a e f j) λi k c=>c.or b λk g=>Wc d _ _ _ _ _ _ a e k g h v w;rw[aC m] at b
 by_cases n:a.n=1
 rw[n] at l;rw[aD n] at b;exact ts_ (Wc d _ _ _ _ _ _ a e f j h v w) λi p c=>⟨c.1,b.out ▸ c⟩;rw[aC n] at b
 by_cases o:a.n=3
 rw[o] at l;rw[aD o] at b;exact tt_ (tj d _ _ _ _ _ _ a e f j t u r s G L) λi k c=>c.or b λk g=>Wd d _ _ _ _ _ _ a e k g;rw[aC o] at b
 by_cases k:a.n=2
 rw[k] at l;rw[aD k] at b;exact ts_ (Wd d _ _ _ _ _ _ a e f j) λi p c=>⟨c.1,b.out ▸ c⟩;rw[aC k] at b;have M:=aO m;have N:=aO n;have P:=aO k;have Q:=aO o;exact ts_ (qg d _ _ _ _ _ _ a e f j t u r s) λi p c=>⟨c.1,b.out ▸ c⟩
section
variable {b base:H} {c a vC:ZY} {wt:E} {fl:ZG} {d:ZY} {p:Cm} {bs:U E}
def Fo.e{l n o i m k}(v:ZW k=ZW p.f∨∃e,ZW k=T e/\B l.1<=e)(f:Aa (λe=>e=b∨T e=ZW p.f) l n)(q:Fo b base c a vC wt fl d {p with f:=k} bs m n i o):Fo b base c a vC wt fl d p bs m l i o:=by
 obtain⟨r,⟨u,s,h⟩,g⟩:=q;refine⟨r,⟨u,s,?_⟩,⟨g.os.T f.os,g.tape.T f.tape,g.output.T f.output,aG f.size g.size,λe j t=>(g.block e (Qh j f.size) (λi=>?_)).T (f.block e j t)⟩⟩
 ·rcases h with h|⟨e,h,j⟩
  ·grind
  exact ZJ ⟨e,h,p_ f.size⟩
 grind
def Fo.or{h e f j k l o n}(i:Fo b base c a vC wt fl d p bs j h f e)(w:(j.orElse λ_=>k)=l)(s:∀g e,RW e b base c a vC wt fl d {p with f:=g} bs->B h.1<=B e.1->C_ o n e (Fo b base c a vC wt fl d {p with f:=g} bs k e)):(f=ZI (ZR Z0)/\Fo b base c a vC wt fl d p bs l h f e)∨(f=ZI (ZR ZZ)/\C_ o n e λf r=>f=ZI (ZR k.isSome)/\Fo b base c a vC wt fl d p bs l h f r):=by
 subst w
 cases j with
 | none=>
  obtain⟨t,⟨g,u,v⟩,q⟩:=i;exact ZJ ⟨t,(s g e u q.size).m λf r m=>⟨m.1,m.e v q⟩⟩
 |some m=>exact ZM ⟨i.1,i⟩
end
def Zaq{c p v u t x r w b h d f}(g:RW f c p v u t x r w b h)(s:p<=B f.1)(m:F h<=1000):C_ 209 #[Y7 (T (J c 6)),ZX .u8 d] f λi k=>Fo c p v u t x r w b h (Cq b.n h d) f i k:=by
 obtain⟨q,_,_,_,_,_,_⟩:=g.1.i;have l:=Y g;clear g;obtain⟨D,a⟩:=ez_ (Cq b.n h d);rw[a];unfold Cq at a
 by_cases n:b.n=0
 rw[n] at q;rw[aD n] at a;exact tt_ (ix c _ _ _ _ _ _ _ b _ d f l) λi k e=>e.or a λz k g y=>Ty c _ _ _ _ _ _ _ _ _ d k g O m;rw[aC n] at a
 by_cases o:b.n=6
 rw[o] at q;rw[aD o] at a;exact ts_ (Ty c _ _ _ _ _ _ _ b _ d f l s m) λi k e=>⟨e.1,a.out ▸ e⟩;rw[aC o] at a
 by_cases j:b.n=7
 rw[j] at q;rw[aD j] at a;clear j;exact tt_ (tl c _ _ _ _ _ _ _ b _ d f l) λi k e=>e.or a λz k g y=>Zap c _ _ _ _ _ _ _ _ _ d k g O m;rw[aC j] at a;have y:=aO n;have z:=aO o;have A:=aO j;exact ts_ (ql c _ _ _ _ _ _ _ b _ d f l s m) λi k e=>⟨e.1,a.out ▸ e⟩
def Zcp d {i l} k {j n g} m {a} e b c (q:RB c d l k j n g m a)(z:D_ c i 0 (I b))(x:0<=b)(y:b<=1000000)(v:0<=a.unit)(w:a.unit<=1000000)(t:0<=a.num)(u:a.num<=1000000000000)(r:0<=a.dig)(s:a.dig<=1000):C_ 214 #[Y7 (T (J d 6)),ZX .u8 e,P_ i] c λf h=>Gv d l k j n g m a (Do b a e) c f h:=by
 have o:=Y q;refine dl_ ?_;go_enter func214,ntmps214;go_wp2_with fail
 apply (qj o x y v w t u r s).m;rintro f A h;have p:=Y h;obtain rfl:=h.a;go_wp2;go_ret;exact p
structure VS where
 a:ZG
 num:E
 f:ZC
def Jg(a:VS):U ZY:=[ZR a.a,I a.num,Q_ a.f]
def Lb:U VS->U ZY
 |[]=>[]
 |b::a=>Jg b++Lb a
theorem Yh a b:Lb (a++b)=Lb a++Lb b:=by
 induction a with
 |nil=>rfl
 |cons e d c=>simp[Lb,c]
def Ky(d:ZT)(b:H)(c:ZY)(a:U VS):Prop:=ZD d b 308 3 c (F a) (Lb a)
def Ky.nil{b a}:Ky b a (N_) []:=ownsRow_nil b a 308 3
def ZiD{b j c e i l f k h d a}(g:RB a b j (V c 200 e) i l f k h):C_ 98 #[P_ b,ZX .u8 d] a (V_ (ZX ZQ 3) a):=by obtain⟨_,m,_,_,_,_⟩:=g.e;refine dl_ ?_;go_enter func98,ntmps98;go_wp2;go_ret;exact⟨X,X⟩
def Zpp:Zjh->E
 |none=>2
 |_=>0
def ZcO{g o j f k n b p m c i}(l:RB i g o (V j f k) n b ZZ p m)(y:f<200)(s:0<=b)(t:b<=99)(u:0<=c)(v:c<=255):C_ 98 #[P_ g,ZX .u8 c] i λd e=>d=ZI (ZX ZQ (Zpp (Ar b c)))/\∃a,ZnP g o (V j f k) n b ZZ p m (Ar b c) i a e:=by
 obtain⟨_,w,_,_,x,_⟩:=l.e;have z:((f:E)==200)=_:=aO O;have q:=Y l;refine dl_ ?_;go_enter func98,ntmps98;go_wp2_with fail
 apply (ef q s t u v).m;rintro d A a;have r:=Y a
 have e:(d=ZI (ZR ZZ)/\Zpp (Ar b c)=2)∨(d=ZI (ZR Z0)/\Zpp (Ar b c)=0):=by
  obtain⟨_,a⟩:=a
  rcases h:Ar b c with _|_|D
  rw[h] at a;exact ZM ⟨a.1,X⟩;rw[h] at a;exact ZJ ⟨a.1,X⟩;rw[h] at a;exact ZJ ⟨a.1,X⟩
 rcases e with⟨rfl,e⟩|⟨rfl,e⟩
 all_goals
  have h:=show K _ from e
  go_wp2;go_ret;rw[h];exact⟨X,_,r⟩
def Vx{b:H}{a}:C_ 212 #[YX (.func b) #[] #[]] a λc d=>c=ZI (YX (.func 266) #[] #[Y7 (T ⟨B a.1,0,ZP⟩)])/\d=ZN a (O_ #[YX (.func b) #[] #[]] 261):=by refine er_ ?_;exact⟨X,X⟩
def Jd(d:ZT)(K:H->Prop)(g h i:ZY)(j:ZG)(m k f l:E):Prop:=
 (j=Z0/\∃a b c:H,g=YX (.func 209) #[] #[]/\h=YX (.func 210) #[] #[P_ a,P_ b]/\i=YX (.func 266) #[] #[P_ c]/\K a/\K b/\K c/\d.1[a]? =T (O_ #[I k] 3)/\d.1[b]? =T (O_ #[I f] 3)/\d.1[c]? =T (O_ #[YX (.func 213) #[] #[]] 261))∨
 (j=ZZ/\∃e a b c:H,g=YX (.func 214) #[] #[P_ e]/\h=YX (.func 216) #[] #[P_ a,P_ b]/\i=YX (.func 266) #[] #[P_ c]/\K e/\K a/\K b/\K c/\d.1[e]? =T (O_ #[I m] 3)/\d.1[a]? =T (O_ #[I f] 3)/\d.1[b]? =T (O_ #[I l] 3)/\d.1[c]? =T (O_ #[YX (.func 218) #[] #[]] 261))
def If{a:ZT}{b c}(d:B a.1=c):(ZN a b).1[c]? =T b:=by subst d;exact ha_ a b
def ZpS(b:ZT)(c d e:Obj):∃a,a=ZN (ZN (ZN b c) d) e/\a.1[B b.1]? =T c/\a.1[B b.1+1]? =T d/\a.1[B b.1+1+1]? =T e/\E_ b a/\B a.1=B b.1+1+1+1:=
 ⟨_,X,(hc_ u_).T ((hc_ s_).T (If X)),(hc_ s_).T (If s_),If s_,(r_.alloc s_ _).alloc u_ _,s_⟩
def Zqj{k c:ZT}{a s t u v}(o:H_ c a #[t,u,v] s)(j:B k.1<=a)(p:E_ k c)(e:Obj)(f g h:ZY):∃d,d=ZO (ZO (ZO (ZN c e) (J a 0) f) (J a 1) g) (J a 2) h/\(D_ d a 0 f/\D_ d a 1 g/\D_ d a 2 h)/\K (E_ k d)/\d.1[B c.1]? =T e/\∀b l,b≠a->c.1[b]? =T l->d.1[b]? =T l:=by
 have q:=(Qb o).1;have r:=ht_ 2 _ _ h (ht_ 1 _ _ g (ht_ 0 _ _ f ((hb_ c e a q).T o)));have m:∀b,b≠a->(ZO (ZO (ZO (ZN c e) (J a 0) f) (J a 1) g) (J a 2) h).1[b]? =(ZN c e).1[b]?:=λb i=>(Below.heap_setCell _ _ _ _ i).T ((Below.heap_setCell _ _ _ _ i).T (Below.heap_setCell _ _ _ _ i));exact⟨_,X,c3_ r,(((p.alloc p.size e).setCell j f).setCell j g).setCell j h,(m _ O).T hn_,λb l i n=>((m b i).T (hc_ (Qb n).1)).T n⟩
def ZbS{c b a}:C_ 160 #[I c,I b] a λk g=>∃o p q,k=ZI (Y9 #[o,p,q])/\(∀f i,Jd g (λd=>B a.1<=d) o p q Z0 f c b i)/\E_ a g:=by
 refine q_ ?_;go_upto_region 1 with fail;obtain⟨h,l,r,s,d,n,x⟩:=ZpS a (O_ #[I c] 3) (O_ #[I b] 3) (O_ #[.nilFunc,.nilFunc,.nilFunc] 263);rw[<- l];obtain⟨w,m,j,u,t,e⟩:=Zqj d O n (O_ #[YX (.func 213) #[] #[]] 261) (YX (.func 209) #[] #[]) (YX (.func 210) #[] #[P_ (B a.1),P_ (B a.1+1)]) (YX (.func 266) #[] #[P_ (B h.1)]);have v:K (∀f i,Jd w _ _ _ _ Z0 f c b i):=λ_ _=>ZM ⟨X,B a.1,B a.1+1,B h.1,X,X,X,x_,O,O,e _ _ O r,e _ _ O s,t⟩;have i:=K_ m j;have f:(ZN h (O_ #[YX (.func 213) #[] #[]] 261)).1[_]? =_:=(hc_ O).T d;obtain⟨L,M,N⟩:=c3_ f;have P:=λy=>R_ y _ _ f;obtain⟨G,_⟩:=c3_ d;clear l r s d n x m j t e f
 go_wp2_with (go_at_call 212;apply (Vx).m;rintro k g ⟨rfl,rfl⟩)
 rw[<- i.1];obtain⟨z,A,D⟩:=i.2;exact bodyPost_ret (v:=Y9 _) (by simp[results,results160,go_sem,z,A,D]) X ⟨_,_,_,X,v,u⟩
def Ch:H->E
 |0=>1
 |a+1=>Ch a*10
def qp:∀a,a<=3->1<=Ch a/\Ch a<=1000
 |0,_=>by simp[Ch]
 |1,_=>by simp[Ch]
 |2,_=>by simp[Ch]
 |3,_=>by simp[Ch]
 |a+4,b=>O
def su(d:H) l p b (a6:d<=3):C_ 161 #[I d,I l,I p] b λe v=>∃G L M,e=ZI (Y9 #[G,L,M])/\(∀s,Jd v (λa=>B b.1<=a) G L M ZZ (Ch d) s l p)/\E_ b v:=by
 refine q_ ?_;go_wp2_with fail
 obtain⟨k,y,P,Q,c,i,n⟩:=ZpS b (O_ #[I l] 3) (O_ #[I p] 3) (O_ #[.nilFunc,.nilFunc,.nilFunc] 263);obtain⟨N,z,h,r⟩:=na_ k #[I 1] 3;rw[n] at r;have g:=x4_ ((h.block _ O).T P) ((h.block _ O).T Q) ((h.block _ O).T c) (bt_ i h);rw[<- y,<- z];clear y z P Q c i n h;go_loopw [9] (λf j=>∃a:H,a<=d/\f=I a/\K (j.1[B b.1+1+1+1]? =T (O_ #[I (Ch a)] 3))/\K (Y3 N j (T (B b.1+1+1+1)))) (λf _=>d-ZL (intOf f))
 exact⟨0,v_,X,r,Ay⟩;clear r;obtain⟨a,a4,rfl,f,q⟩:=hrel;have b3:=n_ 0 f;have b4:=λt=>R_ t _ 3 f
 by_cases a5:a<d
 ·have⟨u,w⟩:=qp a O;have o:K (Ch (a+1)=_*_):=rfl;generalize Ch a=j at *;have s:_=j*10:=Au O O;have m:K ((ZO wr _ _).1[_+1+1]? =T (O_ #[I (j*10)] 3 _)):=ht_ 0 _ 3 _ f;refine J_ ?_;exact⟨a+1,O,g_,o ▸ m,Aq q _⟩
 obtain rfl:a=d:=O;have n:=g.2.2.2.size;have a7:=(Qb f).1;have o:∀j u,j<B b.1+1+1+1->N.1[j]? =T u->wr.1[j]? =T u:=λj u D e=>(q.block _ (Qb e).1 (λe=>w_)).T e;have c:=o _ _ O g.2.2.1;have i:=g.2.2.2.grown q O (λj D=>by simp at D;omega);generalize wr=k at *;obtain⟨a0,A,x,S,R,m⟩:=Zqj c O i (O_ #[YX (.func 218) #[] #[]] 261) (YX (.func 214) #[] #[P_ (B b.1+1+1+1)]) (YX (.func 216) #[] #[P_ (B b.1),P_ (B b.1+1)]) (YX (.func 266) #[] #[P_ (B k.1)])
 have W:K (∀s,Jd a0 _ _ _ _ ZZ (Ch a) s l p):=λ_=>ZJ ⟨X,B b.1+1+1+1,B b.1,B b.1+1,B k.1,X,X,X,O,x_,O,O,m _ _ O f,m _ _ O (o _ _ O g.1),m _ _ O (o _ _ O g.2.1),R⟩;have w:=K_ A x;have s:(ZN k (O_ #[YX (.func 218) #[] #[]] 261)).1[_]? =_:=(hc_ O).T c;obtain⟨a9,b0,b1⟩:=c3_ s;have b2:=λt=>R_ t _ _ s;obtain⟨a8,_⟩:=c3_ c;clear o c i n A x R m s;go_wp2_with (go_at_call 212;apply (Vx).m;rintro e v ⟨rfl,rfl⟩)
 rw[<- w.1];obtain⟨a1,a2,a3⟩:=w.2;exact bodyPost_ret (v:=Y9 _) (by simp[results,results161,go_sem,a1,a2,a3]) X ⟨_,_,_,X,W,S⟩
def Jd.map{K s A D x y z G w u t v}(L:Jd A K x y z G w u t v)(M:∀e g f,K e->A.1[e]? =T (O_ g f)->f=3∨f=261->s e/\D.1[e]? =T (O_ g f)):Jd D s x y z G w u t v:=by
 have d {e g f}:=M e g f
 rcases L with⟨i,m,n,o,j,k,l,p,q,r,a,b,c⟩|⟨i,N,m,n,o,j,k,l,P,p,q,r,h,a,b,c⟩
 have a:=d p a (ZM X);have b:=d q b (ZM X);have c:=d r c (ZJ X);exact ZM ⟨i,m,n,o,j,k,l,a.1,b.1,c.1,a.2,b.2,c.2⟩;have h:=d P h (ZM X);have a:=d p a (ZM X);have b:=d q b (ZM X);have c:=d r c (ZJ X);exact ZJ ⟨i,N,m,n,o,j,k,l,h.1,a.1,b.1,c.1,h.2,a.2,b.2,c.2⟩
def Jd.a{n K a b c o m h d l}(p:Jd n K a b c o m h d l):∃i e j f k g,a=YX i #[] e/\b=YX j #[] f/\c=YX k #[] g:=by grind [Jd]
structure Gp(f)(g j l k:H)(p:H->ZG)(n i:H->E)(h o):Prop where
 r:∃b:YZ ZY,f.1[j]? =T (O_ b 263)/\B b=l*3/\(∀a,a<k->∃c d e,b[a*3]? =T c/\b[a*3+1]? =T d/\b[a*3+2]? =T e/\Jd f (λm=>g<=m) c d e (p a) (Ch (ZL (n a))) (i a) h o)
section
variable {w w':ZT} {base a fb n k:H} {wd:H->ZG} {sc ct:H->E} {bins size:E}
def Gp.map(b:Gp w base fb n k wd sc ct bins size)(d:∀(k:H) e,w.1[k]? =T e->w'.1[k]? =T e)(o:a<=base):Gp w' a fb n k wd sc ct bins size:=by obtain⟨c,j,l,m⟩:=b;refine⟨c,d _ _ j,l,λq p=>?_⟩;have⟨s,t,u,f,g,h,i⟩:=m q p;exact⟨s,t,u,f,g,h,i.map λk c v r b _=>⟨aG o r,d _ _ b⟩⟩
def Gp.q(c:Gp w base fb n k wd sc ct bins size)(b:E_ w w'):=c.map (λ_ _ a=>(b.block _ (Qb a).1).T a) x_
def Gp.cells(l:Gp w base fb n k wd sc ct bins size)(p:k<n):(∃d e f,ZV w (J fb (k*3))=T d/\ZV w (J fb (k*3+1))=T e/\ZV w (J fb (k*3+2))=T f)/\∀a,YT w (J fb a)=ZZ:=by obtain⟨b,g,o,_⟩:=l;have c:∀a,a<B b->∃m,ZV w (J fb a)=T m:=λa q=>⟨b[a],by rw[cell_of_row w fb _ b 263 (0,0) g];grind⟩;obtain⟨d,h⟩:=c (k*3) O;obtain⟨e,i⟩:=c (k*3+1) O;obtain⟨f,j⟩:=c (k*3+2) O;exact⟨⟨d,e,f,h,i,j⟩,λa=>fr_ w fb a b 263 g⟩
def Gp.put(l:Gp w base fb n k wd sc ct bins size)(D:k<n){b c d}(v:Jd w (λa=>base<=a) b c d (wd k) (Ch (ZL (sc k))) (ct k) bins size):Gp (ZO (ZO (ZO w (J fb (k*3)) b) (J fb (k*3+1)) c) (J fb (k*3+2)) d) base fb n (k+1) wd sc ct bins size:=by
 obtain⟨j,s,t,u⟩:=l
 have m:∀a e g,base<=a->w.1[a]? =T (O_ e g)->g=3∨g=261->base<=a/\(ZO (ZO (ZO w (J fb (k*3)) b) (J fb (k*3+1)) c) (J fb (k*3+2)) d).1[a]? =T (O_ e g):=λa e g L l G=>by grind [Below.heap_setCell]
 refine⟨_,(ht_ (k*3+2) _ _ d (ht_ (k*3+1) _ _ c (hs_ w _ (k*3) _ _ b s))),by simp[t],λi A=>?_⟩
 by_cases r:i=k
 subst r;exact⟨b,c,d,w_,w_,w_,v.map m⟩;have⟨x,y,z,o,p,e,q⟩:=u i O;have h:∀f,f≠k*3->f≠k*3+1->f≠k*3+2->(YS (YS (YS j (k*3) b) (k*3+1) c) (k*3+2) d)[f]? =j[f]?:=w_;exact⟨x,y,z,(h _ O O O).T o,(h _ O O O).T p,(h _ O O O).T e,q.map m⟩
end
def mm{o s b v d f t g e l c}(a3:Du c o s b g e l)(c1:1<=b)(c2:b<=4)(a5:∀x,x<b->g x=ZZ->0<=e x/\e x<=3):C_ 96 #[Y9 #[V (T (J o s)) b v,I d,I f,I t]] c λu h=>∃a,u=ZI (ZH (T ⟨a,0,ZP⟩) b b)/\B c.1<=a/\Gp h (B c.1) a b b g e l d f/\E_ c h:=by
 have c5:∀M:ZT,(Instr.makeSlice 155 (I b) (I b)).run Y8 M=.ok (L_ (B M.1) b b) (ZN M (O_ (YV #[.nilFunc,.nilFunc,.nilFunc] (b*3)) 263)):=λ_=>mk_ 3;have D:=Y a3;refine dl_ ?_;go_enter func96,ntmps96;go_wp2_with fail
 have a9:K (Gp (ZN (ZN c (O_ #[V (T (J o s)) b v,I d,I f,I t] 37)) (O_ (YV #[.nilFunc,.nilFunc,.nilFunc] (b*3)) 263)) (B c.1) (B c.1+1) b 0 g e l d f):=⟨_,If s_,by simp[YV],λx c3=>O⟩;have a8:K ((ZN (ZN c (O_ #[V (T (J o s)) b v,I d,I f,I t] 37)) (O_ (YV #[.nilFunc,.nilFunc,.nilFunc] (b*3)) 263)).1[B c.1]? =_):=(hc_ s_).T (ha_ c _);have a7:K (Below _ c (ZN (ZN c (O_ #[V (T (J o s)) b v,I d,I f,I t] 37)) (O_ (YV #[.nilFunc,.nilFunc,.nilFunc] (b*3)) 263))):=r_.alloc s_ _;generalize (ZN (ZN c (O_ #[V (T (J o s)) b v,I d,I f,I t] 37)) (O_ (YV #[.nilFunc,.nilFunc,.nilFunc] (b*3)) 263))=d0 at *
 go_loopw [13] (λi h=>∃a:H,a<=b/\i=I a/\K (Gp h (B c.1) (B c.1+1) b a g e l d f)/\K (h.1[B c.1]? =T (O_ #[V (T (J o s)) b v,I d,I f,I t] 37))/\K (E_ c h)) (m1_ b)
 case atStart=>grind
 obtain⟨a,c4,rfl,N,z,y⟩:=hrel;have a4:=(Qb z).1
 by_cases w:a<b
 ·have⟨S,a1,a2⟩:=k3_ y (D.t a w) (D.D a w) (D.G a w);have W:∀{m i j k} {n:ZT},Jd n (λh=>B (ZN wr m).1<=h) i j k (g a) (Ch (ZL (e a))) (l a) d f->Jd n (λh=>B c.1<=h) i j k (g a) (Ch (ZL (e a))) (l a) d f:=λq=>q.map λa b0 c6 a6 q _=>⟨by have:=y.size;simp at a6;omega,q⟩
  have P:K (∀m,C_ (if g a=Z0 then 160 else 161) (if g a=Z0 then #[I (l a),I d] else #[I (e a),I d,I f]) (ZN wr m) λu n=>∃i j k,u=ZI (Y9 #[i,j,k])/\Jd n (λh=>B c.1<=h) i j k (g a) (Ch (ZL (e a))) (l a) d f/\E_ wr n):=λm=>by
   cases h:g a
   have⟨G,L⟩:=a5 a w h;have:=su (ZL (e a)) d f (ZN wr m) O;rw[show(ZL (e a):E)=e a by omega] at this;exact this.m λu n ⟨i,j,k,q,r,A⟩=>⟨i,j,k,q,h ▸ W (h ▸ r _),bt_ r_ A⟩;exact(ZbS).m λu n ⟨i,j,k,q,r,A⟩=>⟨i,j,k,q,h ▸ W (h ▸ r _ _),bt_ r_ A⟩
  have a0:K (∀m,_/\_):=λm=>k2_ (r_ (o:=m)) (n_ 1 z) (n_ 2 z)
  cases h:g a
  all_goals
   rw[h] at S;simp only[h,if_true,Bool.false_eq_true,if_false] at P;obtain⟨Q,R⟩:=a0 (O_ #[ZR (g a),I (e a),I (l a)] 51);rw[h] at Q R;go_wp2_with fail
   apply (P _).m;rintro u n ⟨i,j,k,rfl,r,A⟩;have G:=Y (N.q A);obtain⟨b4,b1,b5,b2,b6,b3,rfl,rfl,rfl⟩:=r.a;have L:=x3_ (G.put w (h ▸ r)) ((A.block _ a4).T z) (bt_ y A);obtain⟨⟨c7,c8,c9,b7,b8,b9⟩,c0⟩:=G.cells w;clear r A G Q R S a1 a2;refine J_ ?_;exact⟨a+1,O,g_,L.1,(Below.heap_setCell _ _ _ _ s_).T ((Below.heap_setCell _ _ _ _ s_).T ((Below.heap_setCell _ _ _ _ s_).T L.2.1)),((L.2.2.setCell (p:=(J (B c.1+1) (a*3))) s_ _).setCell (p:=(J (B c.1+1) (a*3+1))) s_ _).setCell (p:=(J (B c.1+1) (a*3+2))) s_ _⟩
 obtain rfl:a=b:=O;go_wp2;go_ret;exact⟨_,X,O,N,y⟩
def part0:Cm:=⟨0,ZZ,0,0,0,N_⟩
def sq d a b (f:a<=4):C_ 97 #[L_ d a a] b λc e=>c=ZI (Y7 (T ⟨B b.1+1,0,ZP⟩))/\e=ZN (ZN b (O_ (YV #[N_] a) 251)) (O_ #[L_ d a a,N_,L_ (B b.1) a a,I 0,ZR ZZ,N_,I 0,ZR ZZ,I 0,I 0,I 0,N_] 256):=by have e:∀c:ZT,(Instr.makeSlice 248 (I a) (I a)).run Y8 c=.ok (L_ (B c.1) a a) (ZN c (O_ (YV #[N_] a) 251)):=λ_=>mk_ 1;refine dl_ ?_;go_enter func97,ntmps97;go_wp2;go_ret;exact⟨s_,X⟩
def Gp.base{j base b e g f k h d c i}(a:Gp j b e g f k h d c i)(l:base<=b):Gp j base e g f k h d c i:=a.map (λ_ _ a=>a) l
structure es(d:ZT)(b g c f e a:H)(m)(k j)(h l i):Prop where
 r:d.1[g]? =T (O_ #[L_ c a a,I i,P_ f,I 0] 158)
 w:RB d f (L_ c a a) (N_) (L_ e a a) 0 ZZ (N_) part0
 u:d.1[e]? =T (O_ (YV #[N_] a) 251)
 fs:Gp d b c a a m k j h l
 t:b<=g/\b<=c/\b<=f/\b<=e
def ZbN{e f a k h i c o m r b}(l:Du b e f a o m r)(G:1<=a)(v:a<=4)(Q:∀d,d<a->o d=ZZ->0<=m d/\m d<=3):C_ 57 #[Y9 #[V (T (J e f)) a k,I h,I i,I c]] b λs n=>∃g j t q,s=ZI (Y7 (T ⟨g,0,ZP⟩))/\es n (B b.1) g j t q a o m r h i c/\E_ b n:=by
 have u:K (Below _ b (ZN b (O_ #[V (T (J e f)) a k,I h,I i,I c] 37))):=r_;have L:=l.lt O;have w:K (Du (ZN b (O_ #[V (T (J e f)) a k,I h,I i,I c] 37)) e f a o m r):=(by have j:=λn=>u.cell (p:=(J e n)) L;exact⟨l.k,λ_=>t_,λd g=>(j _).T (l.t d g),λd g=>(j _).T (l.D d g),λd g=>(j _).T (l.G d g)⟩);have y:=Y Q;have A:ZV (ZN b (O_ #[V (T (J e f)) a k,I h,I i,I c] 37)) (J (B b.1) 3)=T (I c):=s_;have P:B (ZN b (O_ #[V (T (J e f)) a k,I h,I i,I c] 37)).1=B b.1+1:=s_;have z:=Y P;refine dl_ ?_;go_enter func57,ntmps57;go_wp2_with fail
 generalize (ZN b) (O_ #[V (T (J e f)) a k,I h,I i,I c] 37)=S at *;apply (mm w G v y).m;rintro s g ⟨j,rfl,M,N,t⟩;have D:=T_ t A;have q:=x3_ N M t;have R:B b.1<B g.1:=oj_ t.size z.out;have x:=Y (λn=>sq j a n v);go_wp2_with fail
 go_region_held3 (λn=>D_ n (B b.1) 3 (I c)) (exact X_ D) (first|(go_at_call 97;apply (x _).m;rintro s n ⟨rfl,rfl⟩))
 all_goals go_wp2
 all_goals go_ret
 have n:E_ g (YY (ZN (ZN (ZN g (O_ (YV #[N_] a) 251)) (O_ #[L_ j a a,N_,L_ (B g.1) a a,I 0,ZR ZZ,N_,I 0,ZR ZZ,I 0,I 0,I 0,N_] 256)) (O_ #[L_ j a a,I c,P_ (B g.1+1),I 0] 158))):=((r_.alloc s_ _).alloc u_ _).drew;refine⟨B g.1+1+1,j,B g.1+1,B g.1,X,⟨If s_,(hc_ s_).T (If s_),(hc_ u_).T ((hc_ s_).T (If X)),(q.1.base O).q n,O,p_ q.2.1,O,O⟩,?_⟩;exact(u.T (q.2.2.m O)).T (n.m O)
structure xm(d:ZT)(a b c i k g j:H)(n)(l h)(e m f):Prop where
 q:d.1[b]? =T (O_ #[P_ c,ZR ZZ,I 0,I 0] 119)
 r:es d a c i k g j n l h e m f
 t:a<=b
def Nb{c a e d h g f}(i:Ih c a e d h g f=Z0):1<=c/\c<=4/\2<=a/\a<=16/\a<=e/\e<=32/\0<=d/\d<=20/\∀b,b<c->Nf (h b) (g b) (f b)=Z0:=by grind [Ih,Wl]
def es.q{m w' base l g i e h n j f c k d}(a:es m base l g i e h n j f c k d)(b:E_ m w'):es w' base l g i e h n j f c k d:=
 ⟨(b.block _ (Qb a.r).1).T a.r,a.w.q b a.w.lt,(b.block _ (Qb a.u).1).T a.u,a.fs.q b,a.t⟩
def es.base{m base b l g i e h n j f c k d}(a:es m b l g i e h n j f c k d)(o:base<=b):es m base l g i e h n j f c k d:=
 ⟨a.r,a.w,a.u,a.fs.base o,p_ a.t⟩
def ZeQ{d e c} n {f k g l j m b}(h:Du b d e c l j m)(N:Ih c f k g l j m=Z0):C_ 31 #[Y9 #[V (T (J d e)) c n,I f,I k,I g]] b λv i=>∃a q w x u,v=ZI (Y5 #[Y7 (T ⟨a,0,ZP⟩),ZX ZQ 0])/\xm i (B b.1) a q w x u c l j m f k g/\E_ b i:=by
 have⟨W,a0,_,_,_,_,_,_,b0⟩:=Nb N
 have R:K (∀a,a<c->l a=ZZ->0<=j a/\j a<=3):=λa i b1=>by grind [Nf]
 have a3:=h.lt O;have A:K (Below _ b (ZN b (O_ #[V (T (J d e)) c n,I f,I k,I g] 37))):=r_;have z:K ((ZN b (O_ #[V (T (J d e)) c n,I f,I k,I g] 37)).1[_]? =_):=ha_ b _
 have D:K (∀t,E_ b t->Du t d e c l j m):=λt G=>by have o:=λq=>G.cell (p:=(J d q)) a3;exact⟨h.k,λ_=>p_ G.size,λa i=>(o _).T (h.t a i),λa i=>(o _).T (h.D a i),λa i=>(o _).T (h.G a i)⟩
 have Q:=Y N;have a5:=h.k;refine dl_ ?_;go_enter func31,ntmps31;go_wp2_with fail
 generalize (ZN b) (O_ #[V (T (J d e)) c n,I f,I k,I g] 37)=b2 at *;apply (Qu a5 (ZJ ⟨d,e,X,D _ A⟩)).m;rintro v b3 ⟨rfl,L⟩;rw[Q];have a4:=(Qb z).1;have o:=(L.block _ a4).T z;have a6:=n_ 0 o;have a7:=n_ 1 o;have a8:=n_ 2 o;have a9:=n_ 3 o;have r:=Y (A.T (L.m O));have P:=r.size;go_wp2_with fail
 apply (ZbN (D _ r) W a0 R).m;rintro v y ⟨q,w,x,u,rfl,a1,a2⟩;have⟨S,s⟩:=Y_ (a1.base P) (r.T (a2.m P));go_wp2;go_ret2
 have M:Below _ y (ZN y (O_ #[P_ q,ZR ZZ,I 0,I 0] 119)):=r_;exact⟨B y.1,q,w,x,u,X,⟨hn_,S.q M,s.size⟩,s.T (M.m s.size)⟩
structure RS where
 k:U E
 a:H->U VS
 g:E
 A:ZG
 M:U VS
 p:Cm
 f:U E
def RS.h:RS:=⟨[],λ_=>[],0,ZZ,[],part0,[]⟩
def Hw(a:Cm)(b:U E):VS:=⟨ZE (a.n=0),Tm a,ZB b⟩
def As(f:ZG)(e:E)(b:Cm)(c:U E)(d:E):Y0 (Cm×U E):=
 if f=Z0 then(Cq b.n c d).map (λa=>({b with n:=a.1},a.2)) else(Do e b d).map (λa=>(a,c))
def Ax:VS:=⟨ZZ,0,⟨#[]⟩⟩
def Hm(d:H)(a:RS)(c:U VS):RS:=
 if F c=d then⟨a.k++[a.g],λb=>if b<d then a.a b++[Z c b Ax] else a.a b,0,ZZ,[],part0,[]⟩
 else {a with M:=c,p:=part0,f:=[]}
def Cv(c:H)(g:H->ZG)(f:H->E)(a:RS)(b:E):Except E RS:=
 if F a.k=200 then .error 3
 else if a.A=ZZ then
  match Ar a.g b with
  |none=>.error 2
  |some ZP=>.ok {a with A:=Z0}
  |some (T h)=>.ok {a with g:=h}
 else
  match As (g (F a.M)) (Ch (ZL (f (F a.M)))) a.p a.f b with
  |some (e,d)=>.ok {a with p:=e,f:=d}
  |none=>if b=El (F a.M) c/\Et a.p.n=Z0 then .ok (Hm c a (a.M++[Hw a.p a.f])) else .error 2
structure Ha(a:Cm):Prop where
 c:0<=a.unit
 e:a.unit<=1000
 b:0<=a.num
 g:0<=a.dig
 h:a.dig<=5
 d:a.num+a.unit<=Ch (ZL a.dig)*1000
def Zfc a (b:a<=5):1<=Ch a/\Ch a<=100000:=by
 have:a=0∨a=1∨a=2∨a=3∨a=4∨a=5:=O
 rcases this with rfl|rfl|rfl|rfl|rfl|rfl<;>decide
def Ha.k{b}(a:Ha b):b.num<=100000000:=by have c:=a.d;have d:=a.c;have e:=(Zfc (ZL b.dig) (oj_ a.g a.h)).2;omega
theorem Ha.part0:Ha part0:=⟨C,C,C,C,C,C⟩
def Mm{a}(b:Cc a=Z0):48<=a/\a<=57:=by simpa [Cc] using b
def Ha.i{e}(x:1<=e)(t:e<=1000){b a c}(r:Ha b)(p:Do e b c=T a):Ha a:=by
 obtain⟨f,g,l,h,i,m⟩:=r
 have w:∀a,Io e b c=T a->Ha a:=λa hq=>by
  unfold Io at hq;split at hq
  ·rename_i d;obtain⟨n,o⟩:=Mm d;injection hq with hq;subst hq;have j:0<=(c-48)*e:=Int.mul_nonneg O O;have q:(c-48)*e<=9*e:=Int.mul_le_mul_of_nonneg_right O O;refine⟨w_,t,j,w_,w_,?_⟩
   grind [Ch]
  cases hq
 have y:∀a,Rg b c=T a->Ha a:=λa hq=>by
  unfold Rg at hq;split at hq;injection hq with hq;subst hq;exact⟨f,g,l,h,i,m⟩
  cases hq
 have z:∀a,Nl b c=T a->Ha a:=λa hq=>by
  unfold Nl at hq;split at hq;injection hq with hq;subst hq;exact⟨f,g,l,h,i,m⟩
  cases hq
 have v:∀a,Lt b c=T a->Ha a:=λa hq=>by
  unfold Lt at hq;split at hq
  ·rename_i d;obtain⟨d,s⟩:=d;obtain⟨n,o⟩:=Mm d;injection hq with hq;subst hq;have j:0<=(c-48)*_:=Int.mul_nonneg O f;have q:(c-48)*_<=9*_:=Int.mul_le_mul_of_nonneg_right O f;refine⟨f,g,?_,?_,?_,?_⟩
   ·grind
   ·grind
   ·grind
   show b.num*10+(c-48)*b.unit+b.unit<=Ch (ZL (b.dig+1))*1000;have k:ZL (b.dig+1)=ZL b.dig+1:=O
   grind [Ch]
  cases hq
 have u:∀a,Je b c=T a->Ha a:=λa hq=>by
  unfold Je at hq;split at hq
  ·rename_i d;obtain⟨d,s⟩:=d;obtain⟨n,o⟩:=Mm d;injection hq with hq;subst hq;have k:0<=b.unit/10:=O;have j:0<=(c-48)*_:=Int.mul_nonneg O k;have q:(c-48)*_<=9*_:=Int.mul_le_mul_of_nonneg_right O k;refine⟨k,?_,?_,h,i,?_⟩
   ·grind
   ·grind
   grind
  cases hq
 unfold Do at p;split at p
 ·grind [Rg]
 grind [Lt]
def Ha.n{b}(a:Ha b){c}:Ha {b with n:=c}:=⟨a.c,a.e,a.b,a.g,a.h,a.d⟩
def Zev c b a d:Do c {b with f:=d} a=(Do c b a).map (λe=>{e with f:=d}):=by grind [Rg,Io,Lt,Nl,Je,Do]
def Zat{d a c b}(e:Cq d a c=T b)(f:F a<=8):F b.2<=8:=by grind [Mf,fz,Ok,Cq]
structure Ja(c)(a:RS):Prop where
 k:F a.k<=200
 j:∀b,b<c->F (a.a b)=F a.k
 d:0<=a.g
 e:a.g<=99
 M:F a.M<c
 num:Ha a.p
 f:F a.f<=8
def Ja.h{a}(b:1<=a):Ja a RS.h:=⟨C,λ_ _=>X,C,C,b,Ha.part0,C⟩
def tm{c b a}(d:Ar c b=T (T a)):1<=a/\a<=99:=by grind [Ar]
structure Wg(h)(K)(c d)(m:H->ZG)(k j:H->E)(i l):Prop where
 r:∃b:YZ ZY,h.1[c]? =T (O_ b 263)/\B b=d*3/\K c/\∀a,a<d->∃e f g,b[a*3]? =T e/\b[a*3+1]? =T f/\b[a*3+2]? =T g/\Jd h K e f g (m a) (Ch (ZL (k a))) (j a) i l
def Wg.p{S K m w' e i n j d c k}(b:Wg m K e i n j d c k)(l:Aa S m w')(g:∀a,K a->¬S a):Wg w' K e i n j d c k:=by obtain⟨r,t,u,f,v⟩:=b;refine⟨r,l.g t (g _ f),u,f,λx w=>?_⟩;obtain⟨y,z,A,o,p,q,s⟩:=v x w;exact⟨y,z,A,o,p,q,s.map λa _ _ h b _=>⟨h,l.g b (g a h)⟩⟩
def Wg.a{g h e f m k j i l K}(d:Gp g h e f f m k j i l)(u:K e)(hK:∀b a c,h<=b->g.1[b]? =T (O_ a c)->(c=3∨c=261)->K b):Wg g K e f m k j i l:=by obtain⟨a,r,s,t⟩:=d;refine⟨a,r,s,u,λx v=>?_⟩;obtain⟨z,A,D,n,o,p,q⟩:=t x v;exact⟨z,A,D,n,o,p,q.map λb a c y d w=>⟨hK b a c y d w,d⟩⟩
structure Rt(d)(K e:H->Prop)(o n i c)(t)(r q)(p s)(g:RS)(l h m)(f:H->ZY):Prop where
 w:RB d o (L_ n c c) l (L_ i c c) g.g g.A h {g.p with f:=m}
 x:Ad d 0 l g.k
 or:Ky d 0 h g.M
 v:Az d 0 m g.f
 u:∃j:YZ ZY,d.1[i]? =T (O_ j 251)/\B j=c/\∀a,a<c->j[a]? =T (f a)
 y:∀a,a<c->Ky d 0 (f a) (g.a a)
 fs:Wg d K n c t r q p s
 G:∀a k,a<c->k<c->a≠k->ZW (f a)=ZP∨ZW (f a)≠ZW (f k)
 D:∀a,a<c->ZW (f a)=ZP∨ZW (f a)≠ZW h
 L:e o
 N:e i
 R:∀b,ZW l=T b->e b
 W:∀b,ZW h=T b->e b
 M:∀b,ZW m=T b->e b
 P:∀a b,a<c->ZW (f a)=T b->e b
 A:∀b,K b->b<B d.1/\¬e b
 S:∀b,e b->b<B d.1
def RdM(n:ZT)(K a:H->Prop)(g e c f:H)(o:H->ZG)(i d:H->E)(b j:E)(h:RS):Prop:=∃k m p l,Rt n K a g e c f o i d b j h k m p l
def Ky.p{S e w' c a b}(f:Ky e c a b)(h:Aa S e w')(g:∀d,ZW a=T d->¬S d):Ky w' c a b:=h.M f g
def Ad.p{S e w' c a b}(f:Ad e c a b)(h:Aa S e w')(g:∀d,ZW a=T d->¬S d):Ad w' c a b:=h.M f g
def Az.p{S e w' c a b}(f:Az e c a b)(h:Aa S e w')(g:∀d,ZW a=T d->¬S d):Az w' c a b:=h.M f g
def RB.p{S h w' a f e d i b g c}(j:RB h a f e d i b g c)(l:Aa S h w')(k:¬S a):RB w' a f e d i b g c:=l.g j k
section
variable {w:ZT} {K M:H->Prop} {rb fb cb n:H} {wd:H->ZG} {sc ct:H->E} {bins size:E} {s:RS} {a c d:ZY} {b:H->ZY}
def Rt.p{S w'}(e:Rt w K M rb fb cb n wd sc ct bins size s a c d b)(h:Aa S w w')(i:∀f,K f∨M f->¬S f):Rt w' K M rb fb cb n wd sc ct bins size s a c d b:=by
 obtain⟨p,l,m,o⟩:=e.u
 exact⟨e.w.p h (i _ (ZJ e.L)),e.x.p h (λf g=>i _ (ZJ (e.R f g))),e.or.p h (λf g=>i _ (ZJ (e.W f g))),e.v.p h (λf g=>i _ (ZJ (e.M f g))),
  ⟨p,h.g l (i _ (ZJ e.N)),m,o⟩,λk j=>(e.y k j).p h (λf g=>i _ (ZJ (e.P k f j g))),e.fs.p h (λf g=>i _ (ZM g)),e.G,e.D,e.L,e.N,e.R,e.W,e.M,e.P,
  λf g=>⟨Qh (e.A f g).1 h.size,(e.A f g).2⟩,λf g=>Qh (e.S f g) h.size⟩
def RdM.p{S w'}(e:RdM w K M rb fb cb n wd sc ct bins size s)(h:Aa S w w')(g:∀f,K f∨M f->¬S f):RdM w' K M rb fb cb n wd sc ct bins size s:=by obtain⟨a,c,d,b,e⟩:=e;exact⟨a,c,d,b,e.p h g⟩
def Rt.j(e:Rt w K M rb fb cb n wd sc ct bins size s a c d b):fb≠rb:=by obtain⟨h,_,_,g,_⟩:=e.fs;intro f;exact(e.A _ g).2 (f ▸ e.L)
def Rt.z(f:Rt w K M rb fb cb n wd sc ct bins size s a c d b){i}(m:i<n):∃e g h,ZV w (J fb (i*3))=T e/\Jd w K e g h (wd i) (Ch (ZL (sc i))) (ct i) bins size:=by
 obtain⟨j,k,_,_,l⟩:=f.fs
 grind [cell_of_row]
end
def ZgO(d:ZT)(K b:H->Prop)(k i g j:H)(o:H->ZG)(m h:H->E)(f n:E)(l:RS)(e:ZT):Prop:=
 (∃c,RdM e K c k i g j o m h f n l/\(∀a,c a->b a∨B d.1<=a))/\Aa b d e
section
variable {w:ZT} {K M:H->Prop} {rb fb cb n:H} {wd:H->ZG} {sc ct:H->E} {bins size:E} {s:RS} {b c a:ZY} {d:H->ZY}
def Rt.e(i:Rt w K M rb fb cb n wd sc ct bins size s b c a d){e f:H}{g}(j:H_ w e g f)(k:f≠256):e≠rb:=λh=>by
 subst h;have:=i.w
 grind [RB]
def Rt.f{q}(g:Rt w K M rb fb cb n wd sc ct bins size s b c a d)(h:Aa (λf=>f=rb∨T f=ZW a) w q){p bs i wt fl}(t:RB q rb (L_ fb n n) b (L_ cb n n) wt fl c {p with f:=i})(y:Az q 0 i bs)(P:ZW i=ZW a∨∃f,ZW i=T f/\B w.1<=f):
  Rt q K (λf=>M f∨ZW i=T f) rb fb cb n wd sc ct bins size {s with p:=p,f:=bs,g:=wt,A:=fl} b c i d:=by
 have r:∀{o:H} {size n u z},ZD w 0 o size u n z->o≠256->o≠5->∀f,ZW u=T f->¬(f=rb∨T f=ZW a):=λ{o size n u z} t j G f l e=>by
  obtain⟨x,m⟩:=Ac t l
  rcases e with e|e
  exact g.e m j e;obtain⟨k,L⟩:=Ac g.v e.s
  grind
 obtain⟨x,v,A,D⟩:=g.u
 have N:¬(cb=rb∨T cb=ZW a):=λe=>by
  rcases e with e|e
  exact g.e v C e;obtain⟨k,L⟩:=Ac g.v e.s
  grind
 have Q:∀f,ZW i=T f->M f∨B w.1<=f:=λf e=>by
  rcases P with j|⟨k,j,G⟩
  exact ZM (g.M f (j ▸ e))
  grind
 refine⟨t,g.x.p h (r g.x C C),g.or.p h (r g.or C C),y,⟨x,h.g v N,A,D⟩,λm k=>(g.y m k).p h (r (g.y m k) C C),g.fs.p h ?_,g.G,g.D,ZM g.L,ZM g.N,λf e=>ZM (g.R f e),λf e=>ZM (g.W f e),λf e=>ZJ e,λm f k e=>ZM (g.P m f k e),λf e=>?_,λf e=>?_⟩
 ·intro f l e
  rcases e with e|e
  exact(g.A f l).2 (e ▸ g.L);exact(g.A f l).2 (g.M f e.s)
 ·have j:=g.A f e;refine⟨Qh j.1 h.size,λL=>?_⟩
  grind
 rcases e with e|e
 exact Qh (g.S f e) h.size;exact(B_ y f e).2
def ZaH(w:ZT)(K M:H->Prop)(rb fb cb n:H)(wd:H->ZG)(sc ct:H->E)(bins size:E)(s:RS)(b c:ZY)(d:H->ZY)(f:Y0 (Cm×U E))(h:Ending)(g:ZT):Prop:=
 h=ZI (ZR f.isSome)/\(∃e i,Rt g K e rb fb cb n wd sc ct bins size {s with p:=(f.getD (s.p,s.f)).1,f:=(f.getD (s.p,s.f)).2} b c i d/\(∀a,M a->e a)/\(∀a,e a->M a∨B w.1<=a))/\Aa M w g
def Zlk(g:Rt w K M rb fb cb n wd sc ct bins size s b c a d) i {h u}(y:H_ w u #[I h] 3)(z:0<=h)(G:h<=1000)(j:Ha s.p):C_ 214 #[Y7 (T (J rb 6)),ZX .u8 i,P_ u] w λe v=>ZaH w K M rb fb cb n wd sc ct bins size s b c d (As ZZ h s.p s.f i) e v:=by
 have D:=j.k;apply (Zcp rb b c i h w g.w (M_ 0 _ 3 _ y) z O j.c (gh_ j.e) j.b w_ j.g (gh_ j.h)).m;rintro e v ⟨k,l,o⟩;rw[Zev] at k l;have m:Aa (λf=>f=_∨T f=ZW a) w _:=(Aa.refl _ w).grown o (λf hk _=>ZM (by injection hk with hk;exact hk.s))
 have q:=g.v.p ((Aa.refl (λf=>f=rb) w).grown o (λf hk _=>w_)) (λf hk e=>by
  obtain⟨t,r⟩:=Ac g.v hk
  exact g.e r C e)
 have t:=m.m (λf _ e=>by
  rcases e with e|e
  exact e ▸ g.L
  exact g.M f e.s)
 have x:As ZZ h _ s.f i=(Do h s.p i).map _:=rfl;unfold ZaH;rw[x]
 cases r:Do h s.p i with
 | none=>
  rw[r] at k l;refine⟨k,⟨_,a,g.f (p:=s.p) (bs:=s.f) m l q (ZM X),λf e=>ZM e,λf e=>?_⟩,t⟩
  rcases e with e|e
  exact ZM e;exact ZM (g.M f e)
 | some A=>
  rw[r] at k l;refine⟨k,⟨_,a,g.f (p:=A) (bs:=s.f) m l q (ZM X),λf e=>ZM e,λf e=>?_⟩,t⟩
  rcases e with e|e
  exact ZM e;exact ZM (g.M f e)
def Zii(h:Rt w K M rb fb cb n wd sc ct bins size s b c a d) g {v}(A:F s.f<=8):C_ 209 #[Y7 (T (J rb 6)),ZX .u8 g] w λe x=>ZaH w K M rb fb cb n wd sc ct bins size s b c d (As Z0 v s.p s.f g) e x:=by
 apply (Zaq ⟨h.w,h.v⟩ O O).m;rintro e x ⟨i,⟨q,⟨j,k⟩,m⟩,o⟩
 have u:=Aa.m o (λf _ e=>by
  rcases e with e|e
  exact e ▸ h.L
  exact h.M f e.s)
 have y:As Z0 v _ s.f g=(Cq _ _ g).map (λl=>({s.p with n:=l.1},_)):=rfl
 have r:∀f,(M f∨ZW q=T f)->M f∨B w.1<=f:=λf e=>by
  rcases e with e|e
  exact ZM e
  rcases m with l|⟨z,l,t⟩
  exact ZM (h.M f (l ▸ e))
  grind
 unfold ZaH;rw[y];have z:Cq ({s.p with f:=a}:_).n s.f g=Cq s.p.n _ g:=rfl;rw[z] at i j k
 cases t:Cq s.p.n s.f g with
 | none=>
  rw[t] at i j k;exact⟨i,⟨_,q,h.f (p:=s.p) (bs:=s.f) o j k m,λf e=>ZM e,r⟩,u⟩
 | some l=>
  rw[t] at i j k;exact⟨i,⟨_,q,h.f (p:={s.p with n:=l.1}) (bs:=l.2) o j k m,λf e=>ZM e,r⟩,u⟩
end
def Ag{e:ZT}{f b l j:H}{d m}(h:ZD e f b l d j m){k a c g}(i:ZW d=T k)(p:H_ e a g c)(r:b≠c):k≠a:=λo=>by
 have⟨n,q⟩:=Ac h i
 grind
def Zaf{f:ZT}{g h a b q r o p:H}{e d s t}(k:ZD f g a q e o s)(j:ZD f h b r d p t)(n:a≠b){c}(m:ZW e=T c):ZW d≠T c:=λi=>by have⟨u,l⟩:=Ac j i;exact Ag k m l n X
section
variable {w:ZT} {K M:H->Prop} {rb fb cb n:H} {wd:H->ZG} {sc ct:H->E} {bins size:E} {s:RS} {b c d:ZY} {a:H->ZY}
def Rt.h(f:Rt w K M rb fb cb n wd sc ct bins size s b c d a):∃e,w.1[rb]? =T (O_ e 256):=⟨_,f.w⟩
def Rt.g(e:Rt w K M rb fb cb n wd sc ct bins size s b c d a):cb≠rb:=by have⟨g,f,_⟩:=e.u;exact e.e f C
def zo{M:H->Prop}{d b:ZY}{c}(g:∀a,ZW d=T a->M a)(f:ZW b=ZW d∨∃a,ZW b=T a/\c<=a):∀a,(M a∨ZW b=T a)->M a∨c<=a:=λa e=>w_
def Rt.k{w' vW' ws' wt fl}(g:Rt w K M rb fb cb n wd sc ct bins size s b c d a)(h:Aa (λf=>f=rb∨ZW b=T f) w w')(k:RB w' rb (L_ fb n n) vW' (L_ cb n n) wt fl c {s.p with f:=d})(r:Ad w' 0 vW' ws')(D:ZW vW'=ZW b∨∃f,ZW vW'=T f/\B w.1<=f):
  Rt w' K (λf=>M f∨ZW vW'=T f) rb fb cb n wd sc ct bins size {s with k:=ws',g:=wt,A:=fl} vW' c d a/\(∀f,(M f∨ZW vW'=T f)->M f∨B w.1<=f)/\Aa M w w':=by
 have⟨L,A⟩:=g.h;have⟨x,q,u,v⟩:=g.u;have z:=zo g.R D
 have m:∀{p size n:H} {t G},ZD w 0 p size t n G->p≠256->p≠3->∀f,ZW t=T f->¬(f=rb∨ZW b=T f):=λk o y f i e=>by
  rcases e with e|e
  exact Ag k i A o e;exact Zaf k g.x y i e
 refine⟨⟨k,r,g.or.p h (m g.or C C),g.v.p h (m g.v C C),⟨x,h.g q ?_,u,v⟩,λl j=>(g.y l j).p h (m (g.y l j) C C),g.fs.p h ?_,g.G,g.D,ZM g.L,ZM g.N,λf e=>ZJ e,λf e=>ZM (g.W f e),λf e=>ZM (g.M f e),λl f j e=>ZM (g.P l f j e),λf e=>?_,λf e=>?_⟩,z,h.m (λf _ e=>?_)⟩
 ·intro e
  rcases e with e|e
  exact g.g e;exact Ag g.x e q C X
 ·intro f i e
  rcases e with e|e
  exact(g.A f i).2 (e ▸ g.L);exact(g.A f i).2 (g.R f e)
 ·have o:=g.A f e;refine⟨Qh o.1 h.size,λN=>?_⟩
  grind
 ·rcases e with e|e
  exact Qh (g.S f e) h.size;exact(B_ r f e).2
 rcases e with e|e
 exact e ▸ g.L;exact g.R f e
def Rt.putRow{w' vr' row' p bs wv' wt fl}(g:Rt w K M rb fb cb n wd sc ct bins size s b c d a)(l:Aa (λf=>f=rb∨ZW c=T f) w w')(m:RB w' rb (L_ fb n n) b (L_ cb n n) wt fl vr' {p with f:=wv'})(v:Ky w' 0 vr' row')(u:ZW vr'=ZW c∨ZW vr'=ZP∨∃f,ZW vr'=T f/\B w.1<=f)(L:Az w' 0 wv' bs)(P:ZW wv'=ZP∨wv'=d):
  Rt w' K (λf=>M f∨ZW vr'=T f) rb fb cb n wd sc ct bins size {s with M:=row',p:=p,f:=bs,g:=wt,A:=fl} b vr' wv' a/\(∀f,(M f∨ZW vr'=T f)->M f∨B w.1<=f)/\Aa M w w':=by
 have⟨R,t⟩:=g.h;have⟨D,q,z,A⟩:=g.u
 have G:∀f,(M f∨ZW vr'=T f)->M f∨B w.1<=f:=by
  rcases u with h|h|h
  exact zo g.W (ZM h)
  ·grind
  grind
 have y:∀{o size n:H} {x Q},ZD w 0 o size x n Q->o≠256->o≠308->∀f,ZW x=T f->¬(f=rb∨ZW c=T f):=λm h r f k e=>by
  rcases e with e|e
  exact Ag m k t h e;exact Zaf m g.or r k e
 refine⟨⟨m,g.x.p l (y g.x C C),v,L,⟨D,l.g q ?_,z,A⟩,λi j=>(g.y i j).p l ?_,g.fs.p l ?_,g.G,λi j=>?_,ZM g.L,ZM g.N,λf e=>ZM (g.R f e),λf e=>ZJ e,λf e=>?_,λi f j e=>ZM (g.P i f j e),λf e=>?_,λf e=>?_⟩,G,l.m (λf _ e=>?_)⟩
 ·intro e
  rcases e with e|e
  exact g.g e;exact Ag g.or e q C X
 ·intro f k e
  rcases e with e|e
  exact Ag (g.y i j) k t C e
  rcases g.D i j with h|h
  ·grind
  grind
 ·intro f k e
  rcases e with e|e
  exact(g.A f k).2 (e ▸ g.L);exact(g.A f k).2 (g.W f e)
 ·rcases u with h|h|⟨S,h,r⟩
  rw[h];exact g.D i j
  ·grind
  cases N:ZW (a i) with
  |none=>exact ZM X
  | some f=>
   refine ZJ λe=>?_;rw[h] at e;injection e with e;have:=(B_ (g.y i j) f N).2;omega
 ·rcases P with h|h
  ·grind
  exact ZM (g.M f (h ▸ e))
 ·have h:=g.A f e;refine⟨Qh h.1 l.size,λN=>?_⟩
  grind
 ·rcases e with e|e
  exact Qh (g.S f e) l.size;exact(B_ v f e).2
 rcases e with e|e
 exact e ▸ g.L;exact g.W f e
def upd{a:Type}(c:H->a)(d:H)(x:a):H->a:=λb=>if b=d then x else c b
def Px{c} b a (x:c):upd b a x a=x:=aD X
def Rn{e b c a}{x:e}(d:a≠c):upd b c x a=b a:=aC d
def Rt.i{w' i v' col'}(g:Rt w K M rb fb cb n wd sc ct bins size s b c d a)(r:i<n)(p:Aa (λf=>f=cb∨ZW (a i)=T f) w w')(Q:∃v:YZ ZY,w'.1[cb]? =T (O_ v 251)/\B v=n/\∀h,h<n->v[h]? =T (upd a i v' h))(a0:Ky w' 0 v' col')(S:ZW v'=ZW (a i)∨∃f,ZW v'=T f/\B w.1<=f):Rt w' K (λf=>M f∨ZW v'=T f) rb fb cb n wd sc ct bins size {s with a:=upd s.a i col'} b c d (upd a i v')/\(∀f,(M f∨ZW v'=T f)->M f∨B w.1<=f)/\Aa M w w':=by
 have⟨a2,R⟩:=g.h;have⟨v,y,_⟩:=g.u;have P:=zo (λf e=>g.P i f r e) S
 have D:∀{A size n:H} {u a1},ZD w 0 A size u n a1->A≠251->A≠308->∀f,ZW u=T f->¬(f=cb∨ZW (a i)=T f):=λG j N f k e=>by
  rcases e with e|e
  exact Ag G k y j e;exact Zaf G (g.y i r) N k e
 have z:∀{q:ZY},(ZW q=ZP∨ZW (a i)=ZP∨ZW q≠ZW (a i))->(∀f,ZW q=T f->f<B w.1)->ZW q=ZP∨ZW q≠ZW v':=w_;have L:∀{q u:ZY},(ZW q=ZP∨ZW q≠ZW u)->ZW u=ZP∨ZW u≠ZW q:=w_;refine⟨⟨g.w.p p ?_,g.x.p p (D g.x C C),g.or.p p ?_,g.v.p p (D g.v C C),Q,λh l=>?_,g.fs.p p ?_,λh t l x W=>?_,λh l=>?_,ZM g.L,ZM g.N,λf e=>ZM (g.R f e),λf e=>ZM (g.W f e),λf e=>ZM (g.M f e),λh f l e=>?_,λf e=>?_,λf e=>?_⟩,P,p.m (λf _ e=>?_)⟩
 ·intro e
  rcases e with e|e
  ·grind
  exact Ag (g.y i r) e R C X
 ·intro f k e
  rcases e with e|e
  exact Ag g.or k y C e
  rcases g.D i r with j|j
  ·grind
  grind
 ·by_cases e:h=i
  ·grind [upd]
  rw[Rn e];show Ky w' 0 (a h) (upd s.a i col' h);rw[Rn e];apply (g.y h l).p p;intro f k m
  rcases m with m|m
  exact Ag (g.y h l) k y C m
  rcases g.G h i l r e with j|j
  ·grind
  grind
 ·intro f k e
  rcases e with e|e
  exact(g.A f k).2 (e ▸ g.N);exact(g.A f k).2 (g.P i f r e)
 ·by_cases o:h=i
  ·subst o;have m:t≠h:=O;rw[Px,Rn m];refine L (z ?_ (λf k=>(B_ (g.y t x) f k).2))
   rcases g.G t h x l m with j|j
   exact ZM j
   grind
  rw[Rn o]
  by_cases m:t=i
  ·subst m;rw[Px];refine z ?_ (λf k=>(B_ (g.y h l) f k).2)
   rcases g.G h t l x o with j|j
   exact ZM j
   grind
  rw[Rn m];exact g.G h t l x W
 ·by_cases o:h=i
  ·subst o;rw[Px];refine L (z ?_ (λf k=>(B_ g.or f k).2))
   rcases g.D h l with j|j
   ·grind
   grind
  rw[Rn o];exact g.D h l
 ·by_cases o:h=i
  subst o;rw[Px] at e;exact ZJ e;rw[Rn o] at e;exact ZM (g.P h f l e)
 ·have j:=g.A f e;refine⟨Qh j.1 p.size,λm=>?_⟩
  grind
 ·rcases e with e|e
  exact Qh (g.S f e) p.size;exact(B_ a0 f e).2
 rcases e with e|e
 exact e ▸ g.N;exact g.P i f r e
end
def Kn{n w e f a K A z}(W:e.guard=ZP) y x o (a4:e.op=.call {callee:=.builtin .append,args:=#[y,x],argTypes:=#[o,o]}) k g (l:TypeInfo) t c s (b0:n.underlying o=T (.slice g))(a0:n.info? g=T l)(b3:l.zero=T t)(a8:l.size=c)(R:l.bytes=s)(b4:B t.cells=c)(a9:0<c) h d q (a7:f.eval y=h)(a5:ZD a k g c h d q) r b u (m:U ZY)(b2:f.eval x=ZH (T r) b u)(a1:F m=b*c)(a3:∀v p,m[v]? =T p->ZV a (r.add v)=T p)(M:∀p∈m,p.oneCell'=Z0)(a2:0<b)(P:d+b<=Y2)(S:(d+b)*s<=140737488355328)(Q:k<=B a.1)(L:∀i j,Hid (ZD j k g c i (d+b) (q++m)/\Y3 a j (ZW h)/\(ZW i=ZW h∨ZW i=T (B a.1)/\Below (B a.1) a j)/\ZD j k g c h d q/\∃G D,i=L_ G (d+b) D)->K (f.put e.dst i) j):if wanted e (yielded w f.tmps)=Z0 then Oper.wp n e f a K A else z:=by
 have b1:wanted e (yielded w f.tmps)=Z0:=(by simp[wanted,W]);rw[aD b1];have⟨i,j,a6,N⟩:=Sc (P:=n) a k o e.type g l t c s b0 a0 b3 a8 R b4 a9 h d q a5 r b u m a1 a3 M a2 P S Q;unfold Oper.wp;simp only[execOp,a4,resolve,invoke,builtin,Sem.run_bind,Sem.run_pure,Result.andThen_ok,map_toArray,map_cons,map_nil,a7,b2,a6];exact L _ _ N
def ZoK:(prog.info? 3).map (λa=>(a.zero,a.size,a.bytes))=T (T (I 0),1,8):=k_
def vr{d h f}{c g:ZY}(i:Y3 (YY (ZN d f)) h (ZW c)){b e}:Aa (λa=>a=b∨ZW c=T a) d (ZO h (J b e) g):=
 ((((Aa.refl (λa=>a=b∨ZW c=T a) d).alloc f).drew).grown i (λ_ a _=>ZJ a)).setCell (p:=(J b e)) (λ_=>ZM X) g
def Zgq{b h:ZT}{d}{f a:ZY}(g:ZW a=ZW f∨ZW a=T (B (YY (ZN b d)).1)/\Below (B (YY (ZN b d)).1) (YY (ZN b d)) h):ZW a=ZW f∨∃e,ZW a=T e/\B b.1<=e:=by
 rcases g with c|⟨c,_⟩
 exact ZM c;exact ZJ ⟨_,c,s_⟩
def Aa.c{c g d h i}(a:Aa c d h)(b:Aa g h i)(n:∀f,g f->c f∨B d.1<=f):Aa c d i:=
 ⟨b.os.T a.os,b.tape.T a.tape,b.output.T a.output,aG a.size b.size,λe k l=>(b.block e (Qh k a.size) (λm=>by rcases n e m with j|j;exact l j;omega)).T (a.block e k l)⟩
def Zf{b:ZT}{d n m a k e:H}{p o q f}(c:ZD b 0 d n p m q)(h:b.1[a]? =T (O_ f e))(j:d≠e):=
 ((Aa.refl (λl=>l=a) b).setCell (p:=(J a k)) (λ_=>X) o).M c (λ_ i g=>Ag c i h j g)
def Ky.a{h d b a}(f:Ky h d b a):∃c e,b=ZH c (F a) e:=by
 rcases f.2 with⟨rfl,g⟩|⟨k,j,i,rfl,_⟩
 exact⟨ZP,0,by rw[g]⟩;exact⟨_,_,X⟩
def be:∀(c:U VS) (b:H),b<F c->∀a,a<3->(Lb c)[b*3+a]? =(Jg (Z c b Ax))[a]?
 |[],b,d=>by simp at d
 |f::c,0,_=>λa e=>by simp only[Lb];rw[show 0*3+a=a by omega,getElem?_append_left (by simpa [Jg] using e)];rfl
 |f::c,b+1,d=>λa e=>by simp only[Lb];rw[getElem?_append_right (by simp[Jg];omega),show(b+1)*3+a-F (Jg f)=b*3+a by simp[Jg];omega];exact be c b (by simpa using d) a e
def Ky.at{c j f q l b}(h:Ky c j (V f q l) b){k}(o:k<F b):∃a,f=T ⟨a,0,ZP⟩/\a<B c.1/\ZV c (J a (k*3))=T (ZR (Z b k Ax).a)/\ZV c (J a (k*3+1))=T (I (Z b k Ax).num)/\ZV c (J a (k*3+2))=T (Q_ (Z b k Ax).f):=by
 have i:=h
 rcases h.2 with⟨g,t⟩|⟨a,u,s,g,_⟩
 omega;injection g with e1 e2 e3;subst e1 e2 e3
 have e:=λd r n p=>by have:=World.ownsRow.cells i (g:=a) X (k*3+d) r ((be b k o d n).T p);have m:((J a 0):Addr).add (k*3+d)=(J a (k*3+d)):=(by unfold Addr.add;split<;>simp_all);rw[m] at this;exact this
 exact⟨a,X,(B_ i a X).2,e 0 _ O X,e 1 _ O X,e 2 _ O X⟩
def Ky.P{c a b L x}(d:ZD c a 308 3 b (F L+1) (Lb L++Jg x)):Ky c a b (L++[x]):=by
 unfold Ky;rw[Yh,Qe]
 simpa [Lb] using d
def Sz(a:RS)(c:H):RS:={a with k:=a.k++[a.g],a:=λb=>if b<c then a.a b++[Z a.M b Ax] else a.a b}
def ZdH a:Sz a 0={a with k:=a.k++[a.g]}:=by unfold Sz;have:(λb=>if b<0 then a.a b++[Z a.M b Ax] else a.a b)=a.a:=(by funext b;rw[aC O]);rw[this]
def ZdG b a:{Sz b a with a:=upd (Sz b a).a a (b.a a++[Z b.M a Ax])}=Sz b (a+1):=by
 unfold Sz
 have:upd (λc=>if c<a then b.a c++[Z b.M c Ax] else b.a c) a (b.a a++[Z b.M a Ax])=λc=>if c<a+1 then b.a c++[Z b.M c Ax] else b.a c:=by
  funext c
  by_cases e:c=a
  subst e;rw[Px,aD O];rw[Rn e]
  by_cases d:c<a
  rw[aD d,aD O];rw[aC d,aC O]
 simp only[this]
def Zov{h:ZT}{e d c i}(m:∃b:YZ ZY,h.1[e]? =T (O_ b 251)/\B b=d/\∀a,a<d->b[a]? =T (i a))(p:c<d){g}:∃b:YZ ZY,(ZO h (J e c) g).1[e]? =T (O_ b 251)/\B b=d/\∀a,a<d->b[a]? =T (upd i c g a):=by
 obtain⟨b,j,k,l⟩:=m;refine⟨_,hs_ h _ c _ _ g j,by simp[k],λa n=>?_⟩
 by_cases f:a=c
 subst f;rw[Array.getElem?_setIfInBounds_self_of_lt O,Px];rw[aH (λo=>f o.s),Rn f];exact l a n
def ZjP b a:(Sz b a).a a=b.a a:=by unfold Sz;simp
section
variable {w:ZT} {K M:H->Prop} {rb fb cb n:H} {wd:H->ZG} {sc ct:H->E} {bins size:E} {s:RS} {c d a:ZY} {b:H->ZY}
def ZdR(L:Rt w K M rb fb cb n wd sc ct bins size s c d a b)(c6:F s.M=n)(e2:n<=4)(e4:F s.k<=200)(c5:∀q,q<n->F (s.a q)<=200):C_ 222 #[P_ rb] w λh w'=>h=ZI (Y5 #[])/\ZgO w K M rb fb cb n wd sc ct bins size {s with k:=s.k++[s.g],a:=λq=>if q<n then s.a q++[Z s.M q Ax] else s.a q,g:=0,A:=ZZ,M:=[]} w':=by
 obtain⟨a5,a6,a9⟩:=L.or.a;rw[c6] at a9;subst a9;obtain⟨_,b7,d4,b8,d5,d6⟩:=L.w.e;have u:=Y L;refine q_ ?_;go_upto_region 0 with fail;refine Af (λw'=>ZV w' _=T _/\ZV w' _=T _) 15 k_ ⟨b7,b8⟩ (λhHeld=>?_);refine G_ ?_;refine on_ 10 λKK hK=>?_;go_simp;refine hK _ _ ⟨by go_keep,by go_keep⟩ (λhHeld=>?_);try simp only[Act.put,sA,sB,sC]
 refine on_ 11 λKK hK=>?_;refine aq_ [I s.g] (ra_ (Y L.x) _) ?_;intro e8 P c1;obtain⟨a0,o,W,_,l,j,rfl⟩:=c1;have x:=RB.grown (w:=ZN (YY w) _) ((hb_ w _ _ u.w.lt).T u.w) o (λh=>Ag u.x h.s u.w C X);have d8:=x.i.2.2.2.2.2.2;have r:=Y (u.k (w':=ZO P _ _) (vW':=V _ _ _) (ws':=s.k++[s.g]) (wt:=s.g) (fl:=s.A) (vr o) (x.k) (Ad.P (Zf a0 x C)) (Zgq W));refine hK _ _ ⟨x.e.2.1,x.e.2.2.2.1⟩ (λhHeld=>?_);refine G_ ?_;refine le_ ?_
 have A:Hid (Rt (ZO P (J rb 1) (L_ l (F s.k+1) j)) K (λk=>M k∨ZW (L_ l (F s.k+1) j)=T k) rb fb cb n wd sc ct bins size (Sz s 0) (L_ l (F s.k+1) j) (V a5 n a6) a b/\(∀k,(M k∨ZW (L_ l (F s.k+1) j)=T k)->M k∨Z3 w.1<=k)/\Aa M w (ZO P (J rb 1) (L_ l (F s.k+1) j))):=(by rw[ZdH];exact r);have d7:=A.1.w.e.2.2.2.2.2;generalize (ZO P) (J rb 1) (L_ l (F s.k+1) j)=f0 at *;have G:∃Q:_,Q=(λk=>M k∨ZW (L_ l (F s.k+1) j)=T k):=⟨_,X⟩;obtain⟨Q,G⟩:=G;rw[<- G] at A;generalize L_ l (F s.k+1) j=d1 at *;go_wp2_with fail
 go_loopw [24] (λf e=>∃(k:H) (g:H->ZY) (R:H->Prop),k<=n/\f=I k/\Hid (Rt e K R rb fb cb n wd sc ct bins size (Sz s k) d1 (V a5 n a6) a g)/\Hid ((∀k,R k->M k∨Z3 w.1<=k)/\Aa M w e)) (m1_ n)
 exact⟨0,b,Q,v_,X,A.1,(G ▸ A.2)⟩;obtain⟨k,a3,R,e1,rfl,g,m⟩:=hrel
 by_cases i:k<n
 ·obtain⟨e6,rfl,e3,c8,c9,d0⟩:=g.or.at (k:=k) (by show k<F s.M;omega);have b5:Hid (Z (Sz s k).M k Ax=Z s.M k _):=rfl;rw[b5] at c8 c9 d0;generalize c7:Z s.M k Ax=e at *;go_upto_region 4 with fail;have a8:Below _ wr (ZN wr (O_ #[ZR e.a,I e.num,Q_ e.f] 308)):=r_;have f:=Y (g.p (Aa.a (S:=λ_=>False) a8) (λ_ _=>id));have a4:=Y (m.2.q a8);have b4:Hid (ZW (a3 k)≠T (Z3 wr.1)):=λh=>p_ (B_ (g.y k i) _ h).2
  have b6:Hid (Z3 wr.1<Z3 (ZN wr (O_ #[ZR e.a,I e.num,Q_ e.f] 308)).1):=show _<_ by simp
  have b1:ZV (ZN wr (O_ #[_,I e.num,Q_ e.f] 308)) _=T (ZR e.a):=M_ 0 _ _ _ hn_;have b2:ZV (ZN wr (O_ #[ZR e.a,_,Q_ e.f] 308)) _=T (I e.num):=M_ 1 _ _ _ hn_;have b3:ZV (ZN wr (O_ #[ZR e.a,I e.num,_] 308)) _=T (Q_ e.f):=M_ 2 _ _ _ hn_;have e0:=c5 k i;generalize (ZN wr) (O_ #[ZR e.a,I e.num,Q_ e.f] 308)=y at *;have d2:=f.w.e.2.2.1;have d3:ZV y (J cb k)=T (a3 k):=by obtain⟨t,v,_,z⟩:=f.u;exact(M_ k _ _ _ v).T (z k i)
  refine Af (λw'=>ZV w' _=T _/\ZV w' _=T _/\ZV w' _=T _/\ZV w' _=T _/\ZV w' _=T _) 18 k_ ⟨d2,d3,b1,b2,b3⟩ (λhHeld=>?_);refine G_ ?_;refine on_ 15 λKK hK=>?_;go_simp;refine hK _ _ ⟨by go_keep,by go_keep,by go_keep,by go_keep,by go_keep⟩ (λhHeld=>?_);try simp only[Act.put,sA,sB,sC]
  refine on_ 16 λKK hK=>?_;refine aq_ (Jg e) (ra_ (by have:=f.y k i;rw[ZjP] at this;exact this) _) ?_ (h1:=by simp[Jg,oneCell']);intro e9 b0 c2;obtain⟨a0,o,W,_,e7,e5,rfl⟩:=c2;have c4:∃t:YZ ZY,b0.1[cb]? =T (O_ t 251)/\Z3 t=n/\∀a2,a2<n->t[a2]? =T (a3 a2):=by obtain⟨t,v,D,z⟩:=f.u;refine⟨t,?_,D,z⟩;rw[o.block cb (by simp;have:=f.S cb f.N;omega) (λh=>Ag (f.y k i) h.s v C X)];exact(hc_ (f.S _ f.N)).T v
  obtain⟨c0,D,b9,a7⟩:=c4;have d9:=λN=>R_ N _ _ D;have c3:=b6.out;have S:=λN=>(cb_ (w:=ZN (YY y) _) (a:=(J (Z3 wr.1) N)) (o.block _ t_ (λh=>b4 h.s))).T (Below.cell (B:=Z3 y.1) (w:=y) (p:=(J (Z3 wr.1) N)) ((y_.drew).alloc s_ _) c3);have r:=Y (f.i (w':=ZO b0 _ _) (v':=V _ _ _) (col':=s.a k++[e]) i (vr o) (Zov ⟨c0,D,b9,a7⟩ i) (Ky.P (Zf a0 D C)) (Zgq W));rw[<- c7,ZdG] at r;refine hK _ _ ⟨((RB.grown (w:=ZN (YY y) _) ((hc_ f.w.lt).T f.w) o (λh=>Ag (f.y k i) h.s f.w C X)).e.2.2.1),((M_ k _ _ _ D).T (a7 k i)),(S _).T b1,(S _).T b2,(S _).T b3⟩ (λhHeld=>?_);refine G_ ?_;refine le_ ?_;refine J_ ?_
  exact⟨k+1,_,_,O,g_,r.1,λz a1=>(by rcases r.out.2.1 z a1 with v|v;exact m.1 z v;exact ZJ (p_ a4.size)),a4.c r.2.2 m.1⟩
 obtain rfl:k=n:=O;have f:=g.w.e;have y:=g.w.i.2.2.2.2.2.2;obtain⟨_,_,_,f,h,t⟩:=f
 have e:=Y (g.putRow (w':=ZO (ZO (ZO wr _ _) _ _) _ _) (vr':=N_) (row':=[]) (p:=s.p) (bs:=s.f) (wv':=a) (wt:=0) (fl:=ZZ)
  ((((Aa.refl _ wr).setCell (p:=(J rb 3)) (λ_=>ZM X) _).setCell (p:=(J rb 4)) (λ_=>ZM X) _).setCell (p:=(J rb 5)) (λ_=>ZM X) _)
  (((g.w.h 0).j ZZ).g _) (Ky.nil) (ZJ (ZM X))
  (Zf (Zf (Zf g.v g.w C) (g.w.h 0) C) ((g.w.h 0).j ZZ) C) (ZJ X))
 go_wp2;go_end0;refine⟨X,⟨_,⟨_,_,_,_,e.1⟩,λz a1=>?_⟩,m.2.c e.2.2 m.1⟩
 rcases e.out.2.1 z a1 with v|v
 exact m.1 z v;exact ZJ (p_ m.2.size)
end
def Az.nil{b a}:Az b a (N_) []:=ownsRow_nil b a 5 1
def ZeI{d f e}{c u:ZY}(g:Y3 (ZN d e) f (ZW c)) b {j}:Aa (λa=>a=b∨ZW c=T a) d (ZO f (J b j) u):=
 (((Aa.refl (λa=>a=b∨ZW c=T a) d).alloc e).grown g (λ_ a _=>ZJ a)).setCell (p:=(J b j)) (λ_=>ZM X) u
def Zlc{b h:ZT}{d}{f a:ZY}(g:ZW a=ZW f∨ZW a=T (B (ZN b d).1)/\Below (B (ZN b d).1) (ZN b d) h):ZW a=ZW f∨∃e,ZW a=T e/\B b.1<=e:=by
 rcases g with c|⟨c,_⟩
 exact ZM c;exact ZJ ⟨_,c,s_⟩
def Eu(c:H)(f:H->ZG)(e:H->E)(a:RS)(b:E):Y0 RS:=
 match As (f (F a.M)) (Ch (ZL (e (F a.M)))) a.p a.f b with
 |some d=>T {a with p:=d.1,f:=d.2}
 |none=>if b=El (F a.M) c/\Et a.p.n=Z0 then T (Hm c a (a.M++[Hw a.p a.f])) else ZP
def Aa.e{b c d}(a:Aa b (YY c) d):Aa b c d:=⟨a.os,a.tape,a.output,a.size,a.block⟩
section
variable {w:ZT} {K M:H->Prop} {rb fb cb n:H} {wd:H->ZG} {sc ct:H->E} {bins size:E} {s:RS} {a c d:ZY} {b:H->ZY}
def iw i (m:Rt w K M rb fb cb n wd sc ct bins size s a c d b)(r:Ja n s)(g3:n<=4)(h8:F s.k<200)(g6:∀h,h<n->wd h=ZZ->0<=sc h/\sc h<=3):C_ 163 #[P_ rb,ZX .u8 i] w λe w'=>e=ZI (ZR (Eu n wd sc s i).isSome)/\ZgO w K M rb fb cb n wd sc ct bins size ((Eu n wd sc s i).getD s) w':=by
 obtain⟨Q,R,rfl⟩:=m.or.a;have⟨e6,_,_,_,_,e7⟩:=m.w.e;have⟨g7,h9,i0,a6,d8⟩:=m.z r.M;have h0:0<=(F s.M:E):=O;have h1:F s.M<(n:E):=p_ r.M;have c4:=m.p (S:=λ_=>False) (Aa.refl _ w).drew (λ_ _=>id)
 have g4:∃(a8:H) (a7:YZ ZY),g7=YX (.func a8) #[] a7/\C_ a8 (#[Y7 (T (J rb 6)),ZX .u8 i]++a7) (YY w) (λe w'=>ZaH (YY w) K M rb fb cb n wd sc ct bins size s a (V Q (F s.M) R) b (As (wd (F s.M)) (Ch (ZL (sc (F s.M)))) s.p s.f i) e w')/\((a8=209/\a7=#[])∨∃y,a8=214/\a7=#[P_ y]):=by
  rcases d8 with⟨e,j,k,l,u,_⟩|⟨e,y,j,k,l,u,_,_,_,_,_,_,f,_⟩
  refine⟨209,#[],u,?_,ZM ⟨X,X⟩⟩;rw[e];exact Zii c4 i r.f;refine⟨214,_,u,?_,ZJ ⟨y,X,X⟩⟩;have:=g6 _ r.M e;have g:=qp (ZL (sc (F s.M))) O;rw[e];exact Zlk c4 i f O g.2 r.num
 obtain⟨a8,a7,rfl,a0,c6⟩:=g4;have⟨g9,b7⟩:=Y_ m r;have h4:=m.j;have d9:=λf e=>(m.A f e).2;have c5:K fb:=(by obtain⟨_,_,_,f8,_⟩:=m.fs;exact f8);have b0:=(m.A _ c5).1;have a5:=Y (d9 _ c5);have h7:=r.M;clear m c4 d8 r d9 c5
 cases a1:As (wd (F s.M)) (Ch (ZL (sc (F s.M)))) s.p s.f i with
 | some a3=>
  have o:Hid (Eu n wd sc s i=T {s with p:=a3.1,f:=a3.2}):=(by show Eu n wd sc s i=_;unfold Eu;rw[a1]);rw[a1] at a0;have G:=Y a0;clear a0 a1
  rcases c6 with⟨rfl,rfl⟩|⟨y,rfl,rfl⟩
  ·refine q_ ?_;go_wp2_with fail
   go_region_held3 (λw'=>ZV w' (J rb 0)=T (L_ fb n n)/\ZV w' (J rb 5)=T (V Q (F s.M) R)/\ZV w' (J fb (F s.M*3))=T (YX (.func 209) #[] #[])) (go_keep) (first|(go_at_call 209;apply (G).m;rintro e w' ⟨rfl,⟨q,z,g,x,l⟩,j⟩;have u:=g.w.e.1;have W:=g.w.e.2.2.2.2.2;have A:ZV w' _=T (YX (.func 209) _ _):=(cb_ (w:=YY w) (a:=(J fb (F s.M*3))) (j.block _ b0 a5)).T a6;have t:Hid (ZgO w K M _ _ _ n _ _ _ _ _ {s with p:=a3.1,f:=a3.2} _):=⟨⟨q,⟨_,_,_,_,g⟩,l⟩,j.e⟩;clear g x l j))
   all_goals go_wp2
   all_goals go_ret
   all_goals rw[o]
   all_goals exact⟨X,t⟩
  refine q_ ?_;go_wp2_with fail
  go_region_held3 (λw'=>ZV w' (J rb 0)=T (L_ fb n n)/\ZV w' (J rb 5)=T (V Q (F s.M) R)/\ZV w' (J fb (F s.M*3))=T (YX (.func 214) #[] #[P_ y])) (go_keep) (first|(go_at_call 214;apply (G).m;rintro e w' ⟨rfl,⟨q,z,g,x,l⟩,j⟩;have u:=g.w.e.1;have W:=g.w.e.2.2.2.2.2;have A:ZV w' _=T (YX (.func 214) _ _):=(cb_ (w:=YY w) (a:=(J fb (F s.M*3))) (j.block _ b0 a5)).T a6;have t:Hid (ZgO w K M _ _ _ n _ _ _ _ _ {s with p:=a3.1,f:=a3.2} _):=⟨⟨q,⟨_,_,_,_,g⟩,l⟩,j.e⟩;clear g x l j))
  all_goals go_wp2
  all_goals go_ret
  all_goals rw[o]
  all_goals exact⟨X,t⟩
 | none=>
  rw[a1] at a0;have G:=Y a0
  have d2:=show Hid _ from a1
  clear a0 a1;refine q_ ?_;go_wp2_with fail
  go_cut [21] (λj g=>j=ZR ZZ/\∃k v,Hid (Rt g K k rb fb cb n wd sc ct bins size s a (V Q (F s.M) R) v b)/\Hid ((∀f,k f->M f∨B w.1<=f)/\Aa M w g))
  case first=>
   rcases c6 with⟨rfl,rfl⟩|⟨y,rfl,rfl⟩
   ·go_region_held3 (λw'=>ZV w' (J rb 0)=T (L_ fb n n)/\ZV w' (J rb 5)=T (V Q (F s.M) R)/\ZV w' (J fb (F s.M*3))=T (YX (.func 209) #[] #[])) (go_keep) (first|(go_at_call 209;apply (G).m;rintro e w' ⟨rfl,⟨q,z,g,x,l⟩,j⟩;have u:=g.w.e.1;have W:=g.w.e.2.2.2.2.2;have A:ZV w' _=T (YX (.func 209) _ _):=(cb_ (w:=YY w) (a:=(J fb (F s.M*3))) (j.block _ b0 a5)).T a6;have t:Hid (∃k v,Hid (Rt w' K k rb fb cb n wd sc ct _ _ s a _ v b)/\Hid ((∀f,k f->M f∨B w.1<=f)/\_)):=⟨q,z,g,l,j.e⟩;clear g x l j))
    all_goals go_wp2
    all_goals go_meet
    all_goals exact⟨X,t⟩
   go_region_held3 (λw'=>ZV w' (J rb 0)=T (L_ fb n n)/\ZV w' (J rb 5)=T (V Q (F s.M) R)/\ZV w' (J fb (F s.M*3))=T (YX (.func 214) #[] #[P_ y])) (go_keep) (first|(go_at_call 214;apply (G).m;rintro e w' ⟨rfl,⟨q,z,g,x,l⟩,j⟩;have u:=g.w.e.1;have W:=g.w.e.2.2.2.2.2;have A:ZV w' _=T (YX (.func 214) _ _):=(cb_ (w:=YY w) (a:=(J fb (F s.M*3))) (j.block _ b0 a5)).T a6;have t:Hid (∃k v,Hid (Rt w' K k rb fb cb n wd sc ct _ _ s a _ v b)/\Hid ((∀f,k f->M f∨B w.1<=f)/\_)):=⟨q,z,g,l,j.e⟩;clear g x l j))
   all_goals go_wp2
   all_goals go_meet
   all_goals exact⟨X,t⟩
  obtain⟨rfl,k,v,b3,j⟩:=hcut;clear e6 e7 a6 b0 a5 G c6;have N:=Y (tf n n b3.w O O);have aA:Hid (∀g,Calls _ _ _ _ λe w'=>e=ZI (ZR (Et s.p.n))/\_):=λg=>Zeo {s.p with f:=v} (Y1 wc g) b3.w;have b5:Hid (∀g,Rt (Y1 wc g) K _ _ _ _ n _ _ _ _ _ s _ _ _ _):=λg=>b3.p (S:=λ_=>False) ⟨X,X,X,x_,λ_ _ _=>X⟩ (λ_ _=>id);have b2:Hid (∀g,Aa M w (Y1 wc g)):=λg=>⟨j.2.os,j.2.tape,j.2.output,j.2.size,j.2.block⟩;have L:Hid (Eu n wd sc s i=if i=El (F s.M) n/\Et s.p.n=Z0 then T (Hm n s (s.M++[Hw s.p s.f])) else ZP):=(by show Eu n wd sc s i=_;unfold Eu;rw[d2]);clear d2
  by_cases D:i=El (F s.M) n
  ·by_cases a2:Et s.p.n=Z0
   ·have o:Hid (Eu n wd sc s i=T (Hm n s (s.M++[Hw s.p s.f]))):=(by show _=_;rw[L,aD ⟨D,a2⟩]);rw[a2] at aA;rw[<- D] at N;clear D a2 L;go_upto_region 5 with(first|(go_at_call 219;apply (N).m;rintro e w' ⟨rfl,g,rfl⟩)|(go_at_call 220;apply (aA _).m;rintro e w' ⟨rfl,aB⟩;obtain rfl:=aB.s))
    have⟨P,d4⟩:=Y_ ((b5 g).p (S:=λ_=>False) (Aa.refl _ _).drew (λ_ _=>id)) ((b2 g).drew);clear b5 b2 N aA b3;generalize (Y1 wc) g=g8 at *;have h6:=b7.num.k;have h5:=b7.num.b;have d5:Hid (C_ 221 _ (YY g8) λe w'=>e=ZI (Y9 #[ZR (ZE (s.p.n=0)),ZX ZQ (Tm s.p),YW (ZB s.f)])/\_):=ZiJ 0 {s.p with f:=v} ⟨P.w,P.v⟩ (by show _<=s.p.num;omega) (by show s.p.num<=_;omega);have d7:=P.w.e.2.2.2.2.2;refine Af (λw'=>ZV w' _=T _) 13 k_ d7 (λhHeld=>?_);refine G_ ?_;refine on_ 8 λKK hK=>?_;go_simp;apply (d5).m;rintro e d0 ⟨rfl,b6⟩;have d6:=T_ b6 P.w.e.2.2.2.2.2;have⟨y,c2⟩:=Y_ (P.p (Aa.a (S:=λ_=>False) b6) (λ_ _=>id)) (d4.q b6);clear b6;go_simp;refine hK _ _ d6 (λhHeld=>?_);clear hK KK
    try simp only[Act.put,sA,sB,sC]
    refine on_ 9 λKK hK=>?_;go_simp;refine hK _ _ (by go_keep) (λhHeld=>?_);clear hK KK;try simp only[Act.put,sA,sB,sC]
    refine on_ 10 λKK hK=>?_;refine aq_ (Jg (Hw s.p s.f)) (ra_ y.or _) ?_ (h1:=by simp[Jg,oneCell']);rintro i1 d1 ⟨e2,c7,e1,_,u,t,rfl⟩;have A:=RB.grown (w:=ZN d0 _) ((hc_ y.w.lt).T y.w) c7 (λe=>Ag y.or e.s y.w C X);have W:=A.e.2.2.2.2.2;have f0:=A.i.2.2.2.2.2.2;have e0:=(((((((A.g (L_ u (F s.M+1) t)).n 0).neg ZZ).dig 0).unit 0).num 0).f (N_));have e4:=((((((ZeI (u:=L_ u (F s.M+1) t) (j:=5) c7 rb).setCell (p:=(J rb 6)) (λ_=>ZM X) (I 0)).setCell (p:=(J rb 7)) (λ_=>ZM X) (ZR ZZ)).setCell (p:=(J rb 8)) (λ_=>ZM X) (I 0)).setCell (p:=(J rb 9)) (λ_=>ZM X) (I 0)).setCell (p:=(J rb 10)) (λ_=>ZM X) (I 0)).setCell (p:=(J rb 11)) (λ_=>ZM X) (N_);have c9:=Ky.P e2
    have e3:=((((((Aa.refl (λf=>f=rb) d1).setCell (p:=(J rb 5)) (λ_=>X) (L_ u (F s.M+1) t)).setCell (p:=(J rb 6)) (λ_=>X) (I 0)).setCell (p:=(J rb 7)) (λ_=>X) (ZR ZZ)).setCell (p:=(J rb 8)) (λ_=>X) (I 0)).setCell (p:=(J rb 9)) (λ_=>X) (I 0)).setCell (p:=(J rb 10)) (λ_=>X) (I 0);have d3:=Y (y.putRow (s:=s) (p:=part0) (bs:=[]) (wt:=s.g) (fl:=s.A) e4 e0 (c9.p (e3.setCell (p:=(J rb 11)) (λ_=>X) _) (λf b1 e=>Ag c9 b1 A C e)) (by rcases Zlc e1 with l|l;exact ZM l;exact ZJ (ZJ l)) (Az.nil) (ZM X));have e8:ZV (ZO d1 _ (L_ u (F s.M+1) t)) _=_:=(A.g _).e.2.2.2.2.2;have e9:=(A.g (L_ u (F s.M+1) t)).i;obtain⟨f3,f4,f5,f6,f1,f2,f7⟩:=e9;clear e2 c7 e1 A e0 e4 c9 e3;refine hK _ _ W (λhHeld=>?_)
    clear hK KK;refine G_ ?_;refine le_ ?_;have c0:=Y d3;clear d3 d5 P d4 hHeld d6 W f0 d7;go_upto_region 7 with fail;clear f3 f4 f5 f6 f1 f2 f7 e8;generalize (ZO (ZO (ZO (ZO (ZO (ZO (ZO d1 (J rb 5) (L_ u (F s.M+1) t)) (J rb 6) (I 0)) (J rb 7) (ZR ZZ)) (J rb 8) (I 0)) (J rb 9) (I 0)) (J rb 10) (I 0)) (J rb 11) (N_))=a4 at *;obtain⟨z,c3⟩:∃z:H->Prop,z=(λf=>k f∨ZW (L_ u (F s.M+1) t)=T f):=⟨_,X⟩;have b8:Hid ((∀f,z f->k f∨B d0.1<=f)/\Aa k d0 a4):=c3 ▸ c0.2;have b4:Hid (Rt a4 K z rb fb cb n wd sc ct bins size {s with M:=s.M++[Hw s.p s.f],p:=part0,f:=[]} a (L_ u (F s.M+1) t) (N_) b):=c3 ▸ c0.1;have x:=Y (c2.c b8.2 j.1)
    have b9:Hid (∀f,z f->M f∨B w.1<=f):=λf b1=>by
     rcases b8.out.1 f b1 with l|l
     exact j.1 f l;exact ZJ (p_ c2.size)
    have h2:=b4.w.e.1;have h3:=b4.w.e.2.2.2.2.2;have g1:∀h,_->F (s.a h)<=200:=λh g2=>p_ (b7.j h g2);clear c3 c0 b8 y c2 j
    by_cases c8:F s.M+1=n
    ·have c1:Hid (Hm n s (s.M++[Hw s.p s.f])={({s with M:=s.M++[Hw s.p s.f],p:=part0,f:=[]}:RS) with k:=s.k++[s.g],a:=λh=>if h<n then s.a h++[Z (s.M++[Hw s.p s.f]) h Ax] else s.a h,g:=0,A:=ZZ,M:=[]}):=by show _=_;unfold Hm;rw[aD (by simp;exact c8)]
     have e5:Hid (∀g,C_ 222 #[P_ rb] (Y1 a4 g) λe w'=>e=ZI (Y5 #[])/\ZgO (Y1 a4 g) K z rb fb cb n wd sc ct bins size {({s with M:=s.M++[Hw s.p s.f],p:=part0,f:=[]}:RS) with k:=s.k++[s.g],a:=λh=>if h<n then s.a h++[Z (s.M++[Hw s.p s.f]) h Ax] else s.a h,g:=0,A:=ZZ,M:=[]} w'):=λg=>ZdR (w:=Y1 a4 g) (b4.p (w':=Y1 a4 g) (S:=λ_=>False) ⟨X,X,X,x_,λ_ _ _=>X⟩ (λ_ _=>id)) (by simp;exact c8) g3 (by show F s.k<=200;omega) g1;go_big_quiet (fail);go_wp2_with (go_at_call 222;apply (e5 _).m;rintro e l ⟨rfl,f9⟩)
     go_ret;rw[o,c1];obtain⟨⟨q,g0,g5⟩,a9⟩:=f9;refine⟨X,⟨q,g0,λf b1=>?_⟩,x.c ⟨a9.os,a9.tape,a9.output,a9.size,a9.block⟩ b9⟩
     rcases g5 f b1 with l|l
     exact b9 f l;exact ZJ (aG x.size l)
    have c1:Hid (Hm n s (s.M++[Hw s.p s.f])={s with M:=s.M++[Hw s.p s.f],p:=part0,f:=[]}):=(by show _=_;unfold Hm;rw[aC (by simp;exact c8)]);have l:(((F s.M:_)+1)==(n:E))=_:=aO O;go_big_quiet (fail);go_wp2;go_ret;rw[o,c1];exact⟨X,⟨z,⟨_,_,_,_,b4.p (S:=λ_=>False) ⟨X,X,X,x_,λ_ _ _=>X⟩ (λ_ _=>id)⟩,b9⟩,⟨x.os,x.tape,x.output,x.size,x.block⟩⟩
   have q:Et s.p.n=ZZ:=by simpa using a2
   have o:Hid (Eu n wd sc s i=ZP):=(by show _=_;rw[L,aC (λl=>a2 l.2)]);rw[q] at aA;rw[<- D] at N;clear D a2 q L;go_wp2_with (first|(go_at_call 219;apply (N).m;rintro e w' ⟨rfl,g,rfl⟩)|(go_at_call 220;apply (aA _).m;rintro e w' ⟨rfl,aB⟩;obtain rfl:=aB.s))
   go_ret;rw[o];exact⟨X,⟨k,⟨_,_,_,_,b5 _⟩,j.1⟩,b2 _⟩
  have o:Hid (Eu n wd sc s i=ZP):=(by show _=_;rw[L,aC (λl=>D l.1)]);have l:=aO D;generalize El (F s.M) n=q at *;clear L;go_wp2_with (first|(go_at_call 219;apply (N).m;rintro e w' ⟨rfl,g,rfl⟩)|(go_at_call 220;apply (aA _).m;rintro e w' ⟨rfl,aB⟩;obtain rfl:=aB.s))
  go_ret;rw[o];exact⟨X,⟨k,⟨_,_,_,_,b5 _⟩,j.1⟩,b2 _⟩
end
def Zhv{g d b a}(f:Ad g d b a):∃c e,b=ZH c (F a) e:=by
 rcases f.2 with⟨rfl,i⟩|⟨k,j,h,rfl,_⟩
 ·grind
 grind
def ZnO(c:ZT)(K a:H->Prop)(k h f i:H)(o:H->ZG)(m g:H->E)(e n:E)(j:Except E RS)(b:Ending)(d:ZT):Prop:=
 match j with
 |.error p=>b=ZI (ZX ZQ p)/\Aa a c d
 |.ok l=>b=ZI (ZX ZQ 0)/\ZgO c K a k h f i o m g e n l d
def Ja.take{n i e b h f}(a:Ja n b)(q:1<=n)(k:∀c,c<n->i c=ZZ->0<=e c/\e c<=3)(r:Cv n i e b f=.ok h):Ja n h:=by
 unfold Cv at r;split at r
 ·cases r
 rename_i p;split at r
 ·split at r
  ·cases r
  injection r with r;subst r;exact⟨a.k,a.j,a.d,a.e,a.M,a.num,a.f⟩;rename_i g d;injection r with r;subst r;have:=tm d;exact⟨a.k,a.j,w_,w_,a.M,a.num,a.f⟩
 split at r
 ·rename_i m j hf;injection r with r;subst r
  have g:Ha m/\F j<=8:=by
   unfold As at hf;split at hf
   ·cases d:Cq b.p.n b.f f with
    |none=>grind
    | some o=>
     rw[d] at hf;injection hf with hf;injection hf with h1 h2;subst h1 h2;exact⟨a.num.n,Zat d a.f⟩
   rename_i l
   cases d:Do (Ch (ZL (e (F b.M)))) b.p f with
   |none=>grind
   | some o=>
    rw[d] at hf;injection hf with hf;injection hf with h1 h2;subst h1 h2;have:=k _ a.M (by simpa using l);have r:=qp (ZL (e (F b.M))) O;exact⟨a.num.i r.1 r.2 d,a.f⟩
  exact⟨a.k,a.j,a.d,a.e,a.M,g.1,g.2⟩
 split at r
 ·injection r with r;subst r;unfold Hm;split;rename_i g;refine⟨?_,λc d=>?_,Int.le_refl 0,w_,by show 0<n;omega,Ha.part0,v_⟩;show F (b.k++[b.g])<=200;have:=a.k;simp;omega;show F (if c<n then b.a c++[Z (b.M++[Hw b.p b.f]) c Ax] else b.a c)=F (b.k++[b.g]);rw[aD d];have:=a.j c d;simp[this];rename_i g;have:=a.M;refine⟨a.k,a.j,a.d,a.e,?_,Ha.part0,v_⟩
  grind
 cases r
section
variable {w:ZT} {K M:H->Prop} {rb fb cb n:H} {wd:H->ZG} {sc ct:H->E} {bins size:E} {s:RS}
def ZlK{c}(D:RdM w K M rb fb cb n wd sc ct bins size s)(g:Ja n s)(N:n<=4)(P:∀h,h<n->wd h=ZZ->0<=sc h/\sc h<=3)(G:0<=c)(L:c<=255):C_ 98 #[P_ rb,ZX .u8 c] w λa m=>ZnO w K M rb fb cb n wd sc ct bins size (Cv n wd sc s c) a m:=by
 obtain⟨W,a1,A,a0,d⟩:=D;have⟨Q,R,k⟩:=Zhv d.x
 by_cases q:F s.k=200
 have f:Hid (Cv n wd sc s c=_):=aD q;rw[q] at k;subst k;apply (ZiD d.w).m;rintro a m ⟨rfl,rfl⟩;rw[f];exact⟨X,Aa.refl _ _⟩;have u:F s.k<200:=p_ g.k;subst k
 cases j:s.A with
 | false=>
  have y:=d.w;rw[j] at y;apply (ZcO y u g.d g.e G L).m;rintro a m ⟨rfl,S,e⟩
  have f:Cv n wd sc s c=match Ar s.g c with|none=>.error 2|some ZP=>.ok {s with A:=Z0}|some (T o)=>.ok {s with g:=o}:=by grind [Cv]
  rw[f];obtain⟨t,e⟩:=e;have i:Aa (λb=>b=_∨T b=ZW A) w _:=(Aa.refl _ w).grown t (λb hk _=>ZM (by injection hk with hk;exact hk.s))
  have l:=i.m (λb _ a=>by
   rcases a with a|a
   exact a ▸ d.L
   exact d.M b a.s)
  have v:=d.v.p ((Aa.refl (λb=>b=rb) w).grown t (λb hk _=>w_)) (λb hk a=>by
   have⟨x,r⟩:=Ac d.v hk
   exact d.e r C a)
  have r:∀b,(M b∨ZW A=T b)->M b∨B w.1<=b:=λb a=>by
   rcases a with a|a
   exact ZM a;exact ZM (d.M b a)
  rcases z:Ar s.g c with _|_|o
  exact⟨X,l⟩
  ·skip
   rw[z] at e;exact⟨X,⟨_,⟨_,_,_,_,d.f (p:=s.p) (bs:=s.f) (wt:=s.g) (fl:=Z0) i e.2 v (ZM X)⟩,r⟩,l⟩
  skip
  rw[z] at e;have x:=e.2;rw[<- j] at x;exact⟨X,⟨_,⟨_,_,_,_,d.f (p:=s.p) (bs:=s.f) (wt:=o) (fl:=s.A) i x v (ZM X)⟩,r⟩,l⟩
 | true=>
  have b:=Y (iw c d g N u P)
  have f:Hid (Cv n wd sc s c=match Eu n wd sc s c with|some m=>.ok m|none=>.error 2):=by
   show Cv n wd sc s c=_
   grind [Cv,Eu]
  have⟨_,t,_,_,o,_⟩:=d.w.e;rw[j] at o;have v:((F s.k:E)==200)=_:=aO O;have x:¬(F s.k:E)=200:=O;rw[f]
  cases l:Eu n wd sc s c with
  | none=>
   rw[l] at b;refine dl_ ?_;go_enter func98,ntmps98;go_wp2_with fail
   apply b.m;rintro a r ⟨rfl,i⟩
   have e:=show Hid _ from i
   simp only[Option.isSome];go_wp2;go_ret;exact⟨X,e.2⟩
  | some m=>
   rw[l] at b;go_enter func98,ntmps98;go_wp2_with fail
   apply b.m;rintro a r ⟨rfl,i⟩
   have e:=show Hid _ from i
   simp only[Option.isSome];go_wp2;go_ret;exact⟨X,e⟩
end
def Ab(a:ZC):U E:=(Y4 a.data).map (λb=>b.toNat)
def Bt(c:H)(e:H->ZG)(d:H->E):RS->U E->H->Except (E×H) RS
 |a,[],_=>.ok a
 | a,f::g,b=>match Cv c e d a f with
  |.error i=>.error (i,b)
  |.ok h=>Bt c e d h g (b+1)
theorem Kt d g f:∀b c e a,Bt d g f e (b++c) a=match Bt d g f e b a with
  |.error i=>.error i
  |.ok h=>Bt d g f h c (a+F b)
 |[],c,e,a=>by simp[Bt]
 | j ::b,c,e,a=>by
  simp only[cons_append,Bt]
  cases Cv d g f e j with
  |error i=>rfl
  | ok h=>
   have:=Kt d g f b c h (a+1)
   grind
def Ja.a{a j f}(k:1<=a)(l:∀c,c<a->j c=ZZ->0<=f c/\f c<=3):∀i {b d h},Ja a b->Bt a j f b i h=.ok d->Ja a d
 |[],b,d,h,g,e=>by injection e with e;subst e;exact g
 | n::i,b,d,h,g,e=>by
  simp only[Bt] at e
  cases m:Cv a j f b n with
  |error p=>grind
  |ok o=>rw[m] at e;exact Ja.a k l i (g.take k l m) e
def wg{c f e d b a}(g:Cv c f e d b=.error a):a=2∨a=3:=by grind [Cv]
structure InX(e:ZT)(K b)(c a g f j d:H)(p)(n k)(h o i)(m)(l:H):Prop where
 q:e.1[c]? =T (O_ #[P_ a,ZR ZZ,I 0,I 0] 119)
 r:e.1[a]? =T (O_ #[L_ f d d,I i,P_ g,I l] 158)
 w:RdM e K b g f j d p n k h o m
 t:¬K c/\¬b c
 u:¬K a/\¬b a
section
variable {w:ZT} {K M:H->Prop} {b c rb fb cb n:H} {wd:H->ZG} {sc ct:H->E} {bins size budget:E} {s:RS} {a:H}
def InX.o(d:InX w K M b c rb fb cb n wd sc ct bins size budget s a):b≠c:=λf=>by have e:=d.q;rw[f,d.r] at e;simp at e
def ZgJ(w:ZT)(K M:H->Prop)(b c rb fb cb n:H)(wd:H->ZG)(sc ct:H->E)(bins size budget:E)(a:H)(g:Except (E×H) RS)(e:ZT):Prop:=
 (match g with
 |.error (j,h)=>e.1[b]? =T (O_ #[Y7 ZP,ZR ZZ,I j,I h] 119)
 |.ok i=>∃f,InX e K f b c rb fb cb n wd sc ct bins size budget i a/\(∀d,f d->M d∨B w.1<=d))/\Aa (λd=>M d∨d=b∨d=c) w e
def Zeb{e}(a9:InX w K M b c rb fb cb n wd sc ct bins size budget s a)(a7:Ja n s)(b5:1<=n)(b4:n<=4)(R:∀A,A<n->wd A=false->0<=sc A/\sc A<=3)(c4:a+e.size<=4000000000000000000):C_ 58 #[P_ b,Q_ e] w λj w'=>j=.returned (.tuple #[])/\ZgJ w K M b c rb fb cb n wd sc ct bins size budget (a+e.size) (Bt n wd sc s (Ab e) a) w':=by
 have a6:=Y a9;refine dl_ ?_;go_enter func58,ntmps58;go_wp2_with fail
 go_loopw [8] (λg f=>∃(d:Nat) (u:RS) (z:Nat->Prop),d<=e.size/\g=I d/\Hid (Bt n wd sc s ((Ab e).take d) a=.ok u)/\Hid (InX f K z b c rb fb cb n wd sc ct bins size budget u (a+d))/\Hid ((∀h,z h->M h∨w.1.size<=h)/\Aa (λh=>M h∨h=b∨h=c) w f)) (m1_ e.size)
 case atStart=>exact⟨0,s,M,v_,rfl,rfl,a6,λ_ j=>.inl j,Aa.refl _ _⟩
 obtain⟨d,u,z,b2,rfl,G,g,k⟩:=hrel;have b8:=n_ 0 g.q;have c1:=n_ 2 g.r
 by_cases b3:d<e.size
 ·have c3:=F_ d e.size;go_upto_region 3 with fail;have a2:Hid (Calls _ 98 #[_,.int .u8 (e[d].toNat:Int)] _ λj w'=>_):=ZlK (w:=wr.drew) (g.w.p (w':=wr.drew) (S:=λ_=>False) (Aa.refl _ _).drew (λ_ _=>id)) (Ja.a b5 R _ a7 G) b4 R O (p_ (UInt8.toNat_lt e[d]));refine Af (λw'=>w'.cell? _=some _/\w'.cell? _=some _) 10 k_ ⟨b8,c1⟩ (λhHeld=>?_);refine G_ ?_;refine Ew (i:=10) k_ rfl k_ (λKK hK=>?_);go_simp;apply (a2).m;intro j x r;have q:=Y r
  have b0:∃h:Int,j=.returned (I h):=by
   unfold ZnO at r
   cases t:Cv n wd sc u (e[d].toNat:Int) with
   |error h=>rw[t] at r;exact⟨h,r.1⟩
   |ok a0=>rw[t] at r;exact⟨0,r.1⟩
  obtain⟨h,rfl⟩:=b0;go_simp;apply hK _ _;try simp only[Act.put,sA,sB,sC]
  refine Ew (i:=11) k_ rfl k_ (λKK hK=>?_);go_simp;apply hK _ _;refine Fr k_ ?_ _;have a3:Hid ((Ab e).take (d+1)=(Ab e).take d++[(e[d].toNat:Int)]):=(by show _=_;rw[Qi (by unfold Ab;rw[length_map];exact b3)];congr 2;simp only[Ab,getElem_map];rfl);have y:Hid (Bt n wd sc s ((Ab e).take (d+1)) a=match Cv n wd sc u e[d].toNat with|.error h=>.error (h,a+d)|.ok a0=>.ok a0):=(by show _=_;rw[a3,Kt,G];have f:((Ab e).take d).length=d:=(by rw[length_take];unfold Ab;rw[length_map];exact Nat.min_eq_left b2);simp only[f,Bt]);have b6:=g.o
  cases P:Cv n wd sc u (e[d].toNat:Int) with
  | error c6=>
   rw[P] at q y;have D:Hid (_/\_):=⟨by have:=q.1;injection this,q.2⟩;obtain⟨hz,t⟩:=D;injection hz with _ hz;subst hz;have m:=t.e;have l:=m.g g.q g.t.2;have v:=m.g g.r g.u.2;have b9:=n_ 0 l;have a1:=n_ 2 l;have a4:=n_ 3 l;have a5:=λQ=>R_ Q _ _ l;have c2:=n_ 3 v;have N:(((x.setCell (J b 2) (I h)).setCell (J b 3) (I (a+d:Nat))).setCell (J b 0) (.pointer none)).1[b]? =some (O_ #[.pointer none,.bool false,I h,I (a+d:Nat)] 119):=ht_ 0 _ _ _ (ht_ 3 _ _ _ (ht_ 2 _ _ _ l))
   have L:Hid (ZgJ w K M b c rb fb cb n wd sc ct bins size budget (a+e.size) (Bt n wd sc s (Ab e) a) (((x.setCell (J b 2) (I h)).setCell (J b 3) (I (a+d:Nat))).setCell (J b 0) (.pointer none))):=(by have j:Bt n wd sc s (Ab e) a=.error (h,a+d):=(by have:Ab e=(Ab e).take (d+1)++(Ab e).drop (d+1):=(take_append_drop _ _).s;rw[this,Kt,y]);rw[j];refine⟨N,?_⟩;have W:=k.2.c m (λi o=>by rcases k.out.1 i o with f|f;exact .inl (.inl f);exact .inr f);exact((W.setCell (p:=(J b 2)) (λ_=>.inr (.inl rfl)) _).setCell (p:=(J b 3)) (λ_=>.inr (.inl rfl)) _).setCell (p:=(J b 0)) (λ_=>.inr (.inl rfl)) _);have f:=Y (wg P)
   rcases f.out with rfl|rfl
   ·go_wp2;exact bodyPost_ret (results_none rfl _ _ _) rfl ⟨rfl,L⟩
   go_wp2;exact bodyPost_ret (results_none rfl _ _ _) rfl ⟨rfl,L⟩
  | ok a1=>
   rw[P] at q y;have D:Hid (_/\_):=⟨by have:=q.1;injection this,q.2⟩;obtain⟨hz,⟨L,a8,N⟩,t⟩:=D;injection hz with _ hz;subst hz;have m:=t.e;have l:=m.g g.q g.t.2;have v:=m.g g.r g.u.2;have b9:=n_ 0 l;have c2:=n_ 3 v;have c5:=λQ=>R_ Q _ _ v;have b1:=(Qb g.q).1;have b7:=(Qb g.r).1
   have c0:¬_:=λj=>by rcases N b j with f|f;exact g.t.2 f;exact absurd b1 (by simpa using f)
   have W:¬_:=λj=>by rcases N c j with f|f;exact g.u.2 f;exact absurd b7 (by simpa using f)
   have a5:Hid (InX (x.setCell (J c 3) (I ((a+d:Nat)+1))) K L b c rb fb cb n wd sc ct bins size budget a1 (a+(d+1))):=by
    refine⟨(Below.heap_setCell _ _ _ _ (λj=>b6 j)).T l,?_,a8.p ((Aa.refl (λi=>i=c) _).setCell (p:=(J c 3)) (λ_=>rfl) _) ?_,⟨g.t.1,c0⟩,⟨g.u.1,W⟩⟩;have:=hs_ x c 3 _ 158 (I (((a+d:Nat):Int)+1)) v;rw[this];have:(((a+d:Nat):Int)+1)=((a+(d+1):Nat):Int):=O;rw[this];rfl;intro i o j;subst j
    rcases o with f|f
    exact g.u.1 f;exact W f
   have a4:Hid ((∀i,L i->M i∨w.1.size<=i)/\Aa (λi=>M i∨i=b∨i=c) w (x.setCell (J c 3) (I ((a+d:Nat)+1)))):=by
    refine⟨λi o=>?_,?_⟩
    ·rcases N i o with f|f
     exact k.1 i f;exact .inr (aG k.2.size f)
    exact(k.2.c m (λi o=>by rcases k.out.1 i o with f|f;exact .inl (.inl f);exact .inr f)).setCell (p:=(J c 3)) (λ_=>.inr (.inr rfl)) _
   have i:_=((a+d:_):Int)+1:=Au O O;generalize ((a+d:Nat):Int)=o at *;go_wp2;go_roundw;case rel=>exact⟨d+1,a1,L,O,g_,y,a5,a4⟩
   case measure=>exact z_
 obtain rfl:d=e.size:=O;have f:Hid ((Ab e).take e.size=_):=aI (by unfold Ab;rw[length_map];exact x_);go_wp2;go_end0;refine⟨rfl,?_,k.2⟩;rw[<- f,G];exact⟨z,g,k.1⟩
end
def Zij{c a h d f e k j i b}(r:a<=Y2)(o:Ed b c a k j i)(q:Ih a d f e k j i=ZZ):C_ 31 #[Y9 #[V c a h,I d,I f,I e]] b (U_ (Y5 #[Y7 ZP,ZX ZQ 1]) b):=by
 have g:K (Below _ b (ZN b (O_ #[V c a h,I d,I f,I e] 37))):=r_;have⟨n,m⟩:=Y_ (o.q g) q;refine dl_ ?_;go_enter func31,ntmps31;go_wp2_with fail
 generalize (ZN b) (O_ #[V c a h,I d,I f,I e] 37)=t at *;apply (Qu r n).m;rintro s u ⟨rfl,p⟩;rw[m];have l:=Y (g.T (p.m g.size));go_wp2;go_ret2
 exact⟨X,l⟩
end Go.Proofs.YtfcgnpchbcmdeaaGreat
