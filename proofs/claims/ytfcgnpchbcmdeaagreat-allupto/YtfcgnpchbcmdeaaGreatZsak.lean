import Derived.Test.YtfcgnpchbcmdeaaGreatZsai
import Derived.Test.YtfcgnpchbcmdeaaGreatZsaj
open List renaming length->F,replicate->Y6,getD->Z,take->ZU,drop->ZF
open _root_ renaming Nat->H,List->U,ByteArray->ZC,Int->E,Bool->ZG,rfl->X,Array->YZ,Option->Y0
open Go renaming Value->ZY,World->ZT,madeCells->YV,maxLen->Y2,strOfNums->ZB
open Go.World renaming ownsRow->ZD,alloc->ZN,setCell->ZO,grownBy->Y3,cell?->ZV,frozen?->YT,drew->YY,drewN->Y1
open Go.Value renaming string->YW,bool->ZR,agg->Y9,slice->ZH,int->ZX,tuple->Y5,func->YX,ownBlock->ZW,pointer->Y7
open Bool renaming true->Z0,false->ZZ
open Decidable renaming decide->ZE
open Go.IntKind renaming i64->ZQ
open Go.Ending renaming returned->ZI
open Array renaming size->B,toList->Y4,setIfInBounds->YS
open Go.Proofs.Tryz renaming prog->Y8
open Option renaming some->T,none->ZP
open Int renaming toNat->ZL
open Go.Proofs renaming intOf->ZA
open Or renaming inl->ZM,inr->ZJ
open Go.Obj renaming cells->YU
open ByteArray renaming size->ZK
namespace Go.Proofs.YtfcgnpchbcmdeaaGreat
set_option linter.all false
set_option maxRecDepth 100000
set_option maxHeartbeats 4000000
open Go.RowKit List Nat Go.World Go.Proofs.Tryz Go.Value Go.IntKind Go.Lib Go.Region
def Bj(d:ZT)(b:H)(c:ZY)(a:U ZC):Prop:=ZD d b 9 1 c (F a) (a.map YW)
def Bj.nil{b a}:Bj b a (N_) []:=ownsRow_nil b a 9 1
structure ES where
 a:ZG
 f:U E
 c:U ZC
def ES.b(a:ES):H:=Kz a.a (F a.f) (F a.c)
def Wf(e:ZT)(b:H)(f:ZY)(a:ES):Prop:=∃c d,f=Y9 #[ZR a.a,c,d]/\Ad e b c a.f/\Bj e b d a.c
def Gq(a:ES)(b:VS):H:=if b.a=Z0 then a.b+1 else if a.a=Z0 then a.c.findIdx (λd=>ZE (d=b.f)) else a.f.countP (λc=>ZE (c<b.num))
def Bj.q{c w' base b a}(d:Bj c base b a)(e:E_ c w'):Bj w' base b a:=(Aa.a (S:=λ_=>False) e).M d (λ_ _=>id)
def Wf.q{d w' base c a}(e:Wf d base c a)(b:E_ d w'):Wf w' base c a:=by obtain⟨i,j,f,g,h⟩:=e;exact⟨i,j,f,g.q b,h.q b⟩
def Ad.d{g d b a}(f:Ad g d b a):∃c e,b=ZH c (F a) e:=by
 rcases f.2 with⟨rfl,i⟩|⟨k,j,h,rfl,_⟩
 ·grind
 grind
def Bj.a{g d b a}(f:Bj g d b a):∃c e,b=ZH c (F a) e:=by
 rcases f.2 with⟨rfl,i⟩|⟨k,j,h,rfl,_⟩
 ·grind
 grind
def Wf.a{g d h a}(i:Wf g d h a):∃b e c f,h=Y9 #[ZR a.a,V b (F a.f) e,V c (F a.c) f]/\Ad g d (V b (F a.f) e) a.f/\Bj g d (V c (F a.c) f) a.c:=by
 obtain⟨m,n,l,j,k⟩:=i;obtain⟨b,e,rfl⟩:=j.d;obtain⟨c,f,rfl⟩:=k.a
 grind
def ZeT{e c h a} x b (f:Ad b h (V e (F a) c) a)(r:a.Pairwise (· <= ·))(p:F a<=1000000):C_ 275 #[V e (F a) c,I x] b λd j=>(∃i,d=ZI (Y5 #[ZX ZQ (a.countP (λg=>ZE (g<x)):H),ZR i]))/\E_ b j:=by
 have i:=f
 rcases f.2 with⟨d,j⟩|⟨g,l,m,d,_,n,q,_⟩
 ·rw[j];apply (Tryz.slices_BinarySearch_int_empty e c x b).m
  grind [Below.refl]
 injection d with e1 e2 e3;subst e1 e3;refine(Tryz.slices_BinarySearch_int g 0 _ c _ x b x_ O (λk o=>?_) w_).m ?_
 ·rw[Nat.zero_add,World.ownsRow.cellAt i k O]
  grind
 grind [below_drewN,Below.refl]
def gx e x {g} a (b:VS) d (h:Wf d g e a)(l:a.f.Pairwise (· <= ·))(k:F a.f<=1000000)(m:x=Y9 #[ZR b.a,I b.num,Q_ b.f]):C_ 218 #[e,x] d (U_ (ZX ZQ (a.f.countP (λc=>ZE (c<b.num)):H)) d):=by
 obtain⟨n,p,o,q,rfl,j,_⟩:=h.a;subst m;have f:=Y (λc i=>ZeT b.num c (j.q i) l k);generalize a.f.countP (λc=>ZE (c<b.num))=u,F a.f=s at *;refine q_ ?_;go_wp2_with fail
 apply (f _ (r_.alloc s_ _)).m;rintro t v ⟨⟨r,rfl⟩,c⟩;have i:=(r_.alloc s_ _).T (c.m t_);go_wp2;go_ret;exact⟨X,i⟩
def Zbv:∀(c:U ZC) (b:ZC) (a:H),(if 0<=idxFromS c b a then idxFromS c b a else((a+F c:H):E))=((a+c.findIdx (λd=>ZE (d=b)):H):E)
 |[],b,a=>by simp[idxFromS]
 | e::c,b,a=>by
  have f:=Zbv c b (a+1)
  by_cases d:e=b
  subst d;simp[idxFromS,findIdx_cons];simp only[idxFromS,findIdx_cons,d,decide_false,cond_false,length_cons,if_false];omega
def Zhu{d c h a} x b (f:Bj b h (V d (F a) c) a)(p:F a<=1000000):C_ 267 #[V d (F a) c,Q_ x] b (V_ (ZX ZQ (idxOfS a x)) b):=by
 have j:=f
 rcases f.2 with⟨e,g⟩|⟨i,l,m,e,_,n,q,_⟩
 rw[g];have:a=[]:=length_eq_zero_iff.1 g;subst this;exact Tryz.slices_Index_string_empty d c x b;injection e with e1 e2 e3;subst e1 e3
 have:=Tryz.slices_Index_string i 0 (F a) c a x b x_ O (λk o=>by
  rw[Nat.zero_add,World.ownsRow.cellAt j k O]
  grind)
 rw[take_length] at this;exact this
def rv i x {j} b (a:VS) e (k:Wf e j i b)(n:F b.c<=1000000)(o:x=Y9 #[ZR a.a,I a.num,Q_ a.f]):C_ 213 #[i,x] e (U_ (ZX ZQ (b.c.findIdx (λc=>ZE (c=a.f)):H)) e):=by
 obtain⟨t,v,u,w,rfl,_,l⟩:=k.a;subst o;have f:=Y (λc d=>Zhu a.f c (l.q d) n);have g:=Zbv b.c a.f 0;simp only[Nat.zero_add] at g;have s:K ((if 0<=idxOfS _ _ then idxOfS _ _ else _)=_):=g;generalize b.c.findIdx (λc=>ZE (c=a.f))=h,idxOfS b.c a.f=c,F b.c=p at *
 by_cases y:0<=c
 ·have m:¬c<0:=O;have d:K (c=h):=w_;refine q_ ?_;go_wp2_with fail
  apply (f _ (r_.alloc s_ _)).m;rintro q r ⟨rfl,rfl⟩;go_wp2;go_ret;exact⟨by rw[d];rfl,(r_.alloc s_ _)⟩
 have m:c<0:=O;have d:K (p=(h:E)):=w_;refine q_ ?_;go_wp2_with fail
 apply (f _ (r_.alloc s_ _)).m;rintro q r ⟨rfl,rfl⟩;go_wp2;go_ret;exact⟨by rw[d];rfl,(r_.alloc s_ _)⟩
structure Rq(a:ES):Prop where
 f:a.f.Pairwise (· <= ·)
 p:F a.f<=1000
 u:F a.c<=1000
def Zms{i x A r} a c j (o:Wf j A i a)(h:Rq a)(q:x=Y9 #[ZR c.a,I c.num,Q_ c.f])(p:D_ j r 0 (YX (.func (if a.a=Z0 then 213 else 218)) #[] #[]))(a0:r<B j.1):C_ 266 #[i,x,P_ r] j (U_ (ZX ZQ (Gq a c:H)) j):=by
 have⟨Q,S,R,W,t,_,_⟩:=o.a
 have l:K (∀b:ZT,C_ 191 #[i] b (U_ (ZX ZQ (a.b+1)) b)):=λb=>by rw[t];exact fu _ _ _ _ b (by have:=h.p;have:=h.u;unfold Kz;split<;>omega)
 have⟨m,n⟩:=Y_ (λb d=>gx i x a c b (o.q d) h.f (p_ h.p) q) (λb d=>rv i x a c b (o.q d) (p_ h.u) q);have k:K (Gq a c=if _=_ then _ else _):=rfl;subst t q;obtain⟨v,w,y⟩:=c;simp only at l m n k ⊢;generalize a.c.findIdx (λd=>ZE (d=y))=N,a.f.countP (λd=>ZE (d<w))=P,Gq a ⟨v,w,y⟩=s,a.b=D at *;obtain⟨M,G,L⟩:=a;simp only at l m n k p ⊢;generalize (F G)=a1,F L=a2 at *
 cases v with
 | true=>
  have d:K (s=D+1):=w_;refine q_ ?_;go_wp2_with fail
  apply (l _).m;rintro u z ⟨rfl,f⟩;have g:=(r_.alloc s_ _).T (f.m t_);go_wp2;go_ret;exact⟨by rw[d];rfl,g⟩
 | false=>
  have e:=k.out;rw[aC C] at e
  cases M with
  | true=>
   have d:K (s=N):=(by rw[aD X] at e;exact e);rw[aD X] at p;refine q_ ?_;go_wp2_with fail
   apply (n _ (r_.alloc s_ _)).m;rintro u z ⟨rfl,f⟩;have g:=(r_.alloc s_ _).T (f.m t_);go_wp2;go_ret;exact⟨by rw[d];rfl,g⟩
  | false=>
   have d:K (s=P):=(by rw[aC C] at e;exact e);rw[aC C] at p;refine q_ ?_;go_wp2_with fail
   apply (m _ (r_.alloc s_ _)).m;rintro u z ⟨rfl,f⟩;have g:=(r_.alloc s_ _).T (f.m t_);go_wp2;go_ret;exact⟨by rw[d];rfl,g⟩
def Tl b a:Y4 (YV #[b] a)=Y6 a b:=by apply ext_getElem;simp[YV];intro e c d;simp[YV,mod_one]
def Gm(a:H)(c:a<=1000000) b:(Instr.makeSlice 25 (I a) (I a)).run Y8 b=.ok (L_ (B b.1) a a) (ZN b (O_ (YV #[I 0] a) 3)):=mk_ 1
def Gl a (b:ZT) c (e:a<=1000000)(d:c<=B b.1):Ad (ZN b (O_ (YV #[I 0] a) 3)) c (L_ (B b.1) a a) (Y6 a 0):=by
 have:=ownsRow_lit (base:=c) (size:=1) (e:=3) b (YV #[I 0] a) a d (by unfold Y2;omega) (by simp[YV]);rw[Tl] at this;unfold Ad
 simpa using this
def Ad.put{b f a g d k e}(h:Ad b f (L_ a d g) e)(l:d=F e) c:Ad (ZO b (J a k) (I c)) f (L_ a d g) (e.set k c)/\Y3 b (ZO b (J a k) (I c)) (T a):=by subst l;have⟨i,j⟩:=World.ownsRow.stored h k (I c);refine⟨?_,j⟩;unfold Ad;rw[length_set,map_set];exact i
theorem Ad.c{c f a g b k d}(e:Ad c f (L_ a b g) d)(h:b=F d)(i:k<b):ZV c (J a k)=T (I (Z d k 0))/\YT c (J a k)=ZZ:=by
 subst h;refine⟨?_,World.ownsRow.frozenAt e k⟩;rw[World.ownsRow.cellAt e k O]
 grind
def Ct(b:H->E)(c a:H):U E:=(range a).map b++Y6 (c-a) 0
def Fg c {a b}(d:b<=a):F (Ct c a b)=a:=by simp[Ct];omega
def In b a:Ct b a 0=Y6 a 0:=by simp[Ct]
def Im b a:Ct b a a=(range a).map b:=by simp[Ct]
def Kg c {b a}(d:a<b):(Ct c b a).set a (c a)=Ct c b (a+1):=by unfold Ct;rw[show b-a=b-(a+1)+1 by omega,replicate_succ,set_append_right _ _ s_,length_map,length_range,Nat.sub_self,set_cons_zero,range_succ,map_append,append_assoc];rfl
def pc{c f:Type}(b:c->f) d (a:U c):(range (F a)).map (λe=>b (Z a e d))=a.map b:=by
 apply ext_getElem;simp
 grind
def Zjp{a0 a1 a3} b9 j a2 {b} A {c e} a (M:Wf a b9 a3 c)(P:Rq c)(d7:Ky a 0 (V a2 b A) e)(N:F e=b)(e9:b<=200)(d0:∃n m,a0=YX n #[] m)(d1:∃n m,a1=YX n #[] m)(c8:D_ a j 0 (YX (.func (if c.a=Z0 then 213 else 218)) #[] #[]))(Q:j<B a.1):C_ 156 #[Y9 #[a0,a1,YX (.func 266) #[] #[P_ j]],a3,V a2 b A] a λt f=>∃d,t=ZI d/\Ad f (B a.1) d (e.map (λg=>(Gq c g:H)))/\E_ a f:=by
 have⟨y,D,z,G,d8,_,_⟩:=M.a;have⟨a8,b5,b3⟩:=y3_ (λf g d=>Zms c g f (M.q d) P X ((d.cell (p:=(J j 0)) Q).T c8) (Qh Q d.size)) d7 N;have e8:=Gm b O;obtain⟨c3,c5,rfl⟩:=d0;obtain⟨c4,c6,rfl⟩:=d1;have b1:K (e.map (λg=>((Gq c g:H):E))=Ct (λf=>(Gq c (Z e f Ax):H)) b b):=(by show _=_;rw[Im,<- N,pc (λg=>((Gq c g:H):E)) Ax e]);subst d8;generalize (F c.f)=S,F c.c=W,c.a=L at *;have⟨l,i⟩:=W_ (ZN (ZN a (O_ #[YX c3 #[] c5,YX c4 #[] c6,YX (.func 266) #[] #[P_ j]] 263)) (O_ #[ZR L,V y S D,V z W G] 170));have u:K (E_ a l):=(by show Below _ _ _;rw[i];exact r_.alloc s_ _);have R:B l.1=B a.1+1+1:=(by rw[i];simp);refine dl_ ?_;go_enter func156,ntmps156;go_wp2_with fail
 go_loopw [15] (λg h=>∃d:H,g=ZX ZQ d/\d<=b/\K (Ad h (B a.1+1+1) (ZH (T ⟨B a.1+1+1,0,ZP⟩) b b) (Ct (λf=>((Gq c (Z e f Ax):H):E)) b d))/\K (Below (B a.1+1+1) l h)) (λg _=>b-ZL (ZA g))
 case atStart=>
  refine⟨0,X,v_,?_,?_⟩;rw[In];have:=Gl b l (B a.1+1+1) O O;rw[R,i] at this;exact this;show Below _ _ _;rw[i];exact y_.alloc s_ _
 obtain⟨d,rfl,P,w,a9⟩:=hrel;have h:=a9.out;have d6:=h.size;rw[R] at d6;have e2:ZV wr _=T (YX (.func 266) #[] #[P_ j]):=(h.cell (p:=(J (B a.1) 2)) w_).T (by rw[i];simp[go_sem]);have e3:ZV wr _=T (ZR L):=(h.cell (p:=(J (B a.1+1) 0)) w_).T (by rw[i];simp[go_sem]);have e4:ZV wr _=T (V y S D):=(h.cell (p:=(J (B a.1+1) 1)) w_).T (by rw[i];simp[go_sem]);have e5:ZV wr _=T (V z W G):=(h.cell (p:=(J (B a.1+1) 2)) w_).T (by rw[i];simp[go_sem])
 by_cases q:d<b
 ·have d3:d<F e:=b3 ▸ q;obtain⟨s,rfl,r,c0,c1,c2⟩:=b5.at d3;have k:=u.T (h.m O);have b6:=(k.cell (p:=(J s (d*3))) r).T c0;have b7:=(k.cell (p:=(J s (d*3+1))) r).T c1;have b8:=(k.cell (p:=(J s (d*3+2))) r).T c2;have d2:=Fg (λf=>((Gq c (Z e f Ax):H):E)) (show d<=b by omega);have d5:=Kg (λf=>((Gq c (Z e f Ax):H):E)) q;have⟨b4,v⟩:=Y_ d5 d2.s;generalize (Z e) d Ax=g at *;obtain⟨a4,a5,a6⟩:=g;simp only at b6 b7 b8;have d9:=F_ d b;have⟨b0,b2⟩:=Y_ k h;have e6:B a.1<B wr.1:=O;have e7:B a.1+1<B wr.1:=O;go_wp2_with fail
  apply (a8 _ ⟨a4,a5,a6⟩ (b0.alloc O _)).m;rintro t f0 ⟨rfl,o⟩;have d4:=o.size;simp at d4;have x:=Y ((w.alloc _).q o);have c9:=x.c v q;obtain⟨e0,e1⟩:=c9;have c7:=b2.T (((y_.alloc O _)).T (o.m t_));have a7:=Y c7;generalize (Ct (λf=>((Gq c (Z e f Ax):H):E)) b d)=f,Gq c ⟨a4,a5,a6⟩=t at *;generalize (Z f) d 0=f1 at *;go_wp2;go_roundw
  case rel=>
   refine⟨d+1,g_,O,?_,?_⟩;rw[<- b4];exact(x.put v _).1;exact a7.setCell x_ _
  case measure=>exact z_
 have k:¬d<(b:E):=O;have f:K (Ad wr (B a.1) (L_ (B a.1+1+1) b b) (e.map (λg=>(Gq c g:H)))/\E_ a wr):=(by rw[b1];have:d=b:=O;subst this;exact⟨w.m O,u.T (h.m O)⟩);go_wp2;go_ret;exact⟨_,X,f.1,f.2⟩
def An(a:U H):U E:=a.map (λb:H=>b)
def ZoZ(x a:H):((x !=(a:E)))=ZE (x≠a):=w_
def Ak a:F (An a)=F a:=by simp[An]
def Bq a b:Z (An a) b 0=(Z a b 0:H):=by
 simp only[An,Z,getElem?_map]
 grind
def Ad.b{b f e c g d}(i:Ad b f (V e c g) d)(r:F d=c){k}(q:k<c):∃a,e=T ⟨a,0,ZP⟩/\a<B b.1/\f<=a/\ZV b (J a k)=T (I (Z d k 0))/\YT b (J a k)=ZZ:=by
 rcases i.2 with⟨h,n⟩|⟨m,j,l,h,o,p,s,_⟩
 omega
 grind [Ad.c]
def Eo(d:ZT)(b:H)(c:ZY)(a:U ZG):Prop:=ZD d b 4 1 c (F a) (a.map ZR)
def Eo.q{c w' base b a}(d:Eo c base b a)(e:E_ c w'):Eo w' base b a:=(Aa.a (S:=λ_=>False) e).M d (λ_ _=>id)
def Eo.alloc{w a c d}(e:Eo w a c d) b:Eo (ZN w b) a c d:=ra_ e b
def Eo.m{e b b' d a}(c:Eo e b' d a)(j:b<=b'):Eo e b d a:=by
 refine⟨c.1,?_⟩
 rcases c.2 with l|⟨i,f,g,h,k,m⟩
 exact ZM l;exact ZJ ⟨i,f,g,h,aG j k,m⟩
def Eo.d{g d b a}(f:Eo g d b a):∃c e,b=ZH c (F a) e:=by
 rcases f.2 with⟨rfl,i⟩|⟨k,j,h,rfl,_⟩
 ·grind
 grind
def Eo.put{b f a g d k e}(h:Eo b f (L_ a d g) e)(l:d=F e) c:Eo (ZO b (J a k) (ZR c)) f (L_ a d g) (e.set k c)/\Y3 b (ZO b (J a k) (ZR c)) (T a):=by subst l;have⟨i,j⟩:=World.ownsRow.stored h k (ZR c);refine⟨?_,j⟩;unfold Eo;rw[length_set,map_set];exact i
def Eo.b{b g f d i e}(c:Eo b g (V f d i) e)(n:F e=d){k}(r:k<d):∃a,f=T ⟨a,0,ZP⟩/\a<B b.1/\g<=a/\ZV b (J a k)=T (ZR (Z e k ZZ))/\YT b (J a k)=ZZ:=by
 rcases c.2 with⟨h,q⟩|⟨j,o,p,h,l,m,s,_⟩
 omega;injection h with e1 e2 e3;subst e1 e3 n;refine⟨j,X,(Qb m).1,l,?_,World.ownsRow.frozenAt c k⟩;rw[World.ownsRow.cellAt c k O]
 grind
def Re(a:H)(c:a<=1000000) b:(Instr.makeSlice 101 (I a) (I a)).run Y8 b=.ok (L_ (B b.1) a a) (ZN b (O_ (YV #[ZR ZZ] a) 4)):=mk_ 1
def Rc a (b:ZT) c (e:a<=1000000)(d:c<=B b.1):Eo (ZN b (O_ (YV #[ZR ZZ] a) 4)) c (L_ (B b.1) a a) (Y6 a ZZ):=by
 have:=ownsRow_lit (base:=c) (size:=1) (e:=4) b (YV #[ZR ZZ] a) a d (by unfold Y2;omega) (by simp[YV]);rw[Tl] at this;unfold Eo
 simpa using this
def Rv(b:H->ZG)(c a:H):U ZG:=(range a).map b++Y6 (c-a) ZZ
def Zhd c {a b}(d:b<=a):F (Rv c a b)=a:=by simp[Rv];omega
def ZdX b a:Rv b a 0=Y6 a ZZ:=by simp[Rv]
def ZdW b a:Rv b a a=(range a).map b:=by simp[Rv]
def Zhe c {b a}(d:a<b):(Rv c b a).set a (c a)=Rv c b (a+1):=by unfold Rv;rw[show b-a=b-(a+1)+1 by omega,replicate_succ,set_append_right _ _ s_,length_map,length_range,Nat.sub_self,set_cons_zero,range_succ,map_append,append_assoc];rfl
def Cz(a:U H)(c:H):U ZG:=a.map (λb=>ZE (b≠c))
def iu m (a i:H){c:H}{b} d (r:Ad d 0 (V m a i) (An b))(j:F b=a)(w:a<=200):C_ 205 #[V m a i,I c] d λg f=>∃e,g=ZI e/\Eo f (B d.1) e (Cz b c)/\E_ d f:=by
 have v:=Re a O;have n:K (Cz b c=Rv (λe=>ZE (Z b e 0≠c)) a a):=(by show _=_;rw[ZdW,<- j,Cz,pc (λe=>ZE (e≠c)) 0 b]);refine q_ ?_;go_wp2_with fail
 go_loopw [13] (λf g=>∃k:H,f=ZX ZQ k/\k<=a/\K (Eo g (B d.1) (ZH (T ⟨B d.1,0,ZP⟩) a a) (Rv (λe=>ZE (Z b e 0≠c)) a k))/\E_ d g) (λf _=>a-ZL (ZA f))
 exact⟨0,X,v_,by rw[ZdX];exact Rc a d _ O x_,r_⟩;obtain⟨k,rfl,u,h,f⟩:=hrel
 by_cases g:k<a
 ·obtain⟨z,rfl,x,_,q,_⟩:=(Y r).b (by rw[Ak];exact(Y j)) g;have p:=T_ f q;rw[Bq] at p;have l:=Zhd (λe=>ZE (Z b e 0≠c)) (show k<=a by omega);have o:=Y (Zhe (λe=>ZE (Z b e 0≠c)) g);have⟨A,L,y,_,s,t⟩:=h.b l g;injection L with L;injection L with L _;subst L;generalize Rv (λe=>ZE (Z b e 0≠c)) a k=e at *;generalize (Z e) k ZZ=G,Z b k 0=D at *;go_wp2;go_roundw
  case rel=>
   refine⟨k+1,g_,O,?_,?_⟩;rw[<- o];rw[ZoZ];exact(h.put (k:=k) (Y l).s _).1;exact f.setCell x_ _
  exact z_
 have l:¬k<(a:E):=O
 have e:K (Eo wr (B d.1) (L_ (B d.1) a a) (Cz b c)):=by
  rw[n]
  grind
 go_wp2;go_ret;exact⟨_,X,e,f⟩
def Ca(a:U H)(c:H):U E:=(range c).map (λb=>(a.count b:H))
def Cr{b a}:F (Ca b a)=a:=by simp[Ca]
def ZdF a:Ca [] a=Y6 a 0:=by apply ext_getElem;simp[Ca];intro d b c;simp[Ca]
def Za6{c a b}(d:a<b):(Ca c b).set a (Z (Ca c b) a 0+1)=Ca (c++[a]) b:=by
 apply ext_getElem;simp[Ca]
 grind [Ca]
def Zg2 a c b:0<=Z (Ca a c) b 0/\Z (Ca a c) b 0<=F a:=by grind [Ca]
def Za(a:U H)(b:H):E:=Lib.idxOf (Ca a b) (maxOf (Ca a b))
def cp{m} d {i a b} c (x:Ad c 0 (V m d i) (An b))(t:F b=d)(N:d<=200)(D:∀r∈b,r<a)(s:0<a)(y:a<=1000):C_ 204 #[V m d i,I a] c (U_ (ZX ZQ (Za b a)) c):=by
 have h:=Y t;have M:=Gm a O;refine q_ ?_;go_wp2_with fail
 go_loopw [12] (λe f=>∃k:H,e=ZX ZQ k/\k<=d/\K (Ad f (B c.1) (ZH (T ⟨B c.1,0,ZP⟩) a a) (Ca (ZU k b) a))/\E_ c f) (λe _=>d-ZL (ZA e))
 exact⟨0,X,v_,by rw[take_zero,ZdF];exact Gl a c _ O x_,r_⟩;obtain⟨k,rfl,G,f,g⟩:=hrel
 by_cases l:k<d
 ·obtain⟨S,rfl,P,_,u,_⟩:=(Y x).b (by rw[Ak];exact h) l;have q:=T_ g u;rw[Bq] at q;have v:k<F b:=h ▸ l;have e:Z b k 0<a:=(by grind [Qf]);have w:ZU (k+1) b=ZU k b++[Z b k 0]:=(by rw[Qi v];grind);have p:K ((Ca (ZU k b) a).set (Z b k 0) (Z (Ca (ZU k b) a) (Z b k 0) 0+1)=Ca (ZU (k+1) b) a):=(by show _=_;rw[w,Za6 e]);have L:(F (ZU k b):E)<=200:=t_;have⟨W,a3,_,_,z,A⟩:=f.b (Cr) e;injection a3 with a3;injection a3 with a3 _;subst a3;have⟨Q,R⟩:=(Zg2 (ZU k b) a (Z b k 0));have o:K (a=F (Ca (ZU k b) a)):=(Cr).s;generalize Ca (ZU k b) a=n,Z b k 0=j at *;generalize (Z n) j 0=a0 at *;go_wp2;go_roundw
  case rel=>
   refine⟨k+1,g_,O,?_,?_⟩;rw[<- p];exact(f.put (k:=j) o _).1;exact g.setCell x_ _
  exact z_
 have q:¬k<(d:E):=O
 have j:Ad wr (B c.1) (L_ (B c.1) a a) (Ca b a):=by
  have:=f.out
  grind
 have o:K (C_ 253 #[L_ (B c.1) a a] wr (V_ (ZX ZQ (maxOf (Ca b a))) wr)):=(by have:=Tryz.slices_Max_int (B c.1) 0 a a (Ca b a) wr s (by rw[Cr];omega) O (λp e=>by rw[Nat.zero_add];exact(j.c (Cr).s (by rw[Cr] at e;exact e)).1);rw[aI (by rw[Cr];omega)] at this;exact this);have n:K (C_ 252 #[L_ (B c.1) a a,I (maxOf (Ca b a))] wr (V_ (ZX ZQ (Za b a)) wr)):=(by have:=Tryz.slices_Index_int (B c.1) 0 a a (Ca b a) (maxOf (Ca b a)) wr (by rw[Cr];omega) O (λp e=>by rw[Nat.zero_add];exact(j.c (Cr).s (by rw[Cr] at e;exact e)).1);rw[aI (by rw[Cr];omega)] at this;exact this);generalize maxOf (Ca b a)=u at *;go_wp2_with fail
 apply o.m;rintro e p ⟨rfl,rfl⟩;go_wp2_with fail
 apply n.m;rintro e p ⟨rfl,rfl⟩;go_wp2;go_ret;exact⟨X,g⟩
def Dt(a:U ZG):H:=a.count Z0
def Pm b a:Dt (b++[a])=Dt b+(if a=Z0 then 1 else 0):=by simp[Dt,count_append];cases a<;>simp
def Rl{a:U ZG}{b}(c:b<F a):ZU (b+1) a=ZU b a++[Z a b ZZ]:=by rw[Qi c];grind
def ZfJ{h} c {g} b e (l:Eo e 0 (V h c g) b)(j:F b=c)(q:c<=200):C_ 296 #[V h c g] e (V_ (ZX ZQ (Dt b:H)) e):=by
 have f:=Y j;refine q_ ?_;go_wp2_with fail
 go_loop [8,3] (λd i=>∃a:H,d=ZX ZQ a/\a<=c/\i=ZX ZQ (Dt (ZU a b):H)/\Dt (ZU a b)<=a) (λd _=>c-ZL (ZA d))
 exact⟨0,X,v_,X,x_⟩;obtain⟨a,rfl,o,rfl,p⟩:=hrel
 by_cases d:a<c
 ·obtain⟨s,rfl,r,_,n,_⟩:=(Y l).b f d;have k:=Pm (ZU a b) (Z b a ZZ);rw[<- Rl (f ▸ d)] at k;generalize Dt (ZU a b)=m,Z b a ZZ=i at *
  cases i with
  | true=>
   refine J_ ?_
   grind
  | false=>
   refine J_ ?_
   grind
 have k:¬a<(c:E):=O;have i:K (Dt (ZU a b)=Dt b):=w_;generalize Dt (ZU a b)=m at *;go_wp2;go_ret;exact⟨by rw[i];rfl,X⟩
structure GS where
 fs:U H
 out:U ZG
 g:H
 k:H
def Ig(a b:U ZG):U ZG:=zipWith (λc d=>c&&d) a b
def Gd(a b:U ZG):H:=Dt (Ig a b)
def Ue{a b}(c:F a=F b):F (Ig a b)=F b:=by simp[Ig,c]
def lf{a b}(c:F a=F b){k}(d:k<F b):Z (Ig a b) k ZZ=(Z a k ZZ&&Z b k ZZ):=by grind [Ig]
theorem Ui a:Dt a<=F a:=count_le_length
def Od{l p n} d k {o} b {c} f (G:D_ f l 1 (V n d o))(w:Eo f 0 (V n d o) c)(x:Eo f 0 (V p d k) b)(v:F c=d)(u:F b=d)(P:d<=200):C_ 297 #[P_ l,V p d k] f (V_ (ZX ZQ (Gd c b:H)) f):=by
 have⟨r,q⟩:=Y_ x w;have g:=K_ u v;have N:=Ue (a:=c) (b:=b) O;have j:K (F (Ig c b)=d):=w_;refine dl_ ?_;go_enter func297,ntmps297;go_wp2_with fail
 go_loop [10,5] (λe h=>∃a:H,e=ZX ZQ a/\a<=d/\h=ZX ZQ (Dt (ZU a (Ig c b)):H)/\Dt (ZU a (Ig c b))<=a) (λe _=>d-ZL (ZA e))
 case atStart=>exact⟨0,X,v_,X,x_⟩
 obtain⟨a,rfl,L,rfl,M⟩:=hrel
 by_cases i:a<d
 ·obtain⟨S,rfl,Q,_,z,_⟩:=r.b g.1 i;obtain⟨W,rfl,R,_,A,_⟩:=q.b g.2 i;have m:=Pm (ZU a (Ig c b)) (Z (Ig c b) a ZZ);rw[<- Rl (j ▸ i),lf (p_ g.out) (p_ g.out)] at m;have y:=Y m;generalize Dt (ZU a (Ig c b))=h,Z b a ZZ=s,Z c a ZZ=t at *;have D:=F_ a d
  cases s with
  | true=>
   cases t with
   | true=>
    have e:K (Dt (ZU (a+1) (Ig c b))=h+1):=w_;refine J_ ?_;exact⟨a+1,g_,O,by rw[e];go_num,by rw[e];omega⟩
   | false=>
    have e:K (Dt (ZU (a+1) (Ig c b))=h):=w_;refine J_ ?_;exact⟨a+1,g_,O,by rw[e],by rw[e];omega⟩
  | false=>
   have e:K (Dt (ZU (a+1) (Ig c b))=h):=w_;refine J_ ?_;exact⟨a+1,g_,O,by rw[e],by rw[e];omega⟩
 have m:¬a<(d:E):=O;have e:K (Dt (ZU a (Ig c b))=Gd c b):=(by show _=_;rw[aI (p_ j.out)];rfl);generalize Dt (ZU a (Ig c b))=h at *;go_wp2;go_ret;exact⟨by rw[e];rfl,X⟩
structure ZgL(c:ZT)(K:H->Prop)(f:H)(d e)(b:GS):Prop where
 r:c.1[f]? =T (O_ #[d,e,I b.g,I b.k] 351)
 fs:Ad c 0 d (An b.fs)
 out:Eo c 0 e b.out
 h:K f
 g:∀a,ZW d=T a->K a
 i:∀a,ZW e=T a->K a
 j:∀a,K a->a<B c.1
def xk(e:ZT)(K:H->Prop)(b:H)(a:GS):Prop:=∃c d,ZgL e K b c d a
def ZgL.p{S j w' K g h i f}(a:ZgL j K g h i f)(d:Aa S j w')(e:∀b,K b->¬S b):ZgL w' K g h i f:=
 ⟨d.g a.r (e _ a.h),d.M a.fs (λb c=>e b (a.g b c)),d.M a.out (λb c=>e b (a.i b c)),a.h,a.g,a.i,λb c=>Qh (a.j b c) d.size⟩
def xk.p{S e w' K c b}(a:xk e K c b)(g:Aa S e w')(f:∀d,K d->¬S d):xk w' K c b:=by obtain⟨h,i,a⟩:=a;exact⟨h,i,a.p g f⟩
def orL(a b:U ZG):U ZG:=zipWith (λc d=>c||d) a b
def Ve(a:GS)(d:H)(b:U ZG)(c:H):GS:=⟨a.fs++[d],orL a.out b,a.g+Gd a.out b,a.k+c⟩
def ZbK a b:An (a++b)=An a++An b:=by simp[An]
def orK(a c:U ZG)(b:H):U ZG:=ZU b (orL a c)++ZF b a
theorem Mg{a b}(c:F a=F b):F (orL a b)=F a:=by simp[orL,c]
def Zgn{a b}(d:F a=F b){c}(e:c<=F a):F (orK a b c)=F a:=by have:=Mg d;simp[orK];omega
def Zo7{a c}(d:F a=F c){b}(e:b<F a):Z (orK a c b) b ZZ=Z a b ZZ:=by grind [Mg,orK]
def Znp{b c}(e:F b=F c){a}(d:a<F b):(orK b c a).set a (Z b a ZZ||Z c a ZZ)=orK b c (a+1):=by have h:=Mg e;have g:a<F c:=O;have f:(orL b c)[a]' O=(Z b a ZZ||Z c a ZZ):=(by simp[orL,Z,d,g]);unfold orK;rw[Qi O,f,append_assoc,aN d,set_append_right _ _ t_];have:a-F (List.take a (orL b c))=0:=t_;rw[this];rfl
def Zfv{K}{f:H}(l u:H) e9 f0 a9 c N b {a} d (r:ZgL d K f e9 f0 a)(a5:Eo d 0 (V a9 c N) b)(S:F a.out=c)(R:F b=c)(e5:c<=200)(f5:a.g<=1000)(f3:a.k<=1000)(f4:u<=1000)(f7:F a.fs<=1000)(c4:∀k,ZW (ZH a9 c N)=T k->¬K k):Calls Y8 256 #[P_ f,I l,V a9 c N,I u] d λe j=>e=ZI (Y5 #[])/\(∃m,xk j m f (Ve a l b u)/\∀k,m k->K k∨B d.1<=k)/\Aa K d j:=by
 have⟨a0,x,c6⟩:=r.out.d;rw[S] at c6;subst c6;have⟨b5,b6,c5⟩:=r.fs.d;rw[Ak] at c5;subst c5;have c0:=n_ 1 r.r;have a4:=n_ 2 r.r;have e0:=Ui (Ig a.out b);rw[Ue O,R] at e0;have f6:Gd a.out b<=200:=(by unfold Gd;omega);have⟨b1,h⟩:=Y_ (Od c N b (YY d) c0 r.out a5 S R e5) r;have g:=x4_ a5 R S c4;have c1:=λe8=>R_ e8 _ _ r.r;have e1:YT (YY d) _=_:=c1 2;clear r a5 R S c4 c0 c1;refine dl_ ?_;go_enter func256,ntmps256;go_upto_region 0 with fail;refine Af (λj=>ZV j _=T _) 10 k_ a4 (λhHeld=>?_);refine G_ ?_;refine on_ 6 λKK hK=>?_;go_simp;apply (b1).m;rintro e j ⟨rfl,rfl⟩;go_simp;refine hK _ _ a4 (λhHeld=>?_);clear hK KK;refine G_ ?_;refine le_ ?_;rw[Au O O]
 have⟨b0,W⟩:=W_ (YY (ZO d (J f 2) (I (a.g+(Gd a.out b:E)))));rw[<- W];have a8:Aa K d b0:=W ▸ ((Aa.refl K d).setCell (p:=(J f 2)) (λ_=>h.h) _).drew;have G:ZgL b0 K f (V b5 (F a.fs) b6) (V a0 c x) {a with g:=a.g+Gd a.out b}:=(by rw[W];refine⟨?_,?_,?_,h.h,h.g,h.i,λk hk=>by simpa using h.out.j k hk⟩;exact hs_ d _ 2 _ _ _ h.r;exact Am h.out.fs h.out.r C;exact Am h.out.out h.out.r C);have⟨i,b4,d3⟩:=y3_ G a8 h.j;have d4:=n_ 0 G.r;have e3:=G.j _ G.h;have g0:=a8.size;clear W a8 G h b1 a4 e1 hHeld;go_wp2_with (at_builtin;refine By X (.tmp 24) _ X 0 _ (An a.fs) l X (i.fs.alloc _) _ 1 X ?_ ?_ ?_ ?_)
 ·simp[go_sem]
 rw[Ak];omega;simp;rintro g1 c9 ⟨a7,L,c7⟩;have v:c9.1[f]? =T (O_ #[V b5 (F a.fs) b6,V a0 c x,I (a.g+Gd a.out b:H),I a.k] 351):=(by rw[L.block f t_ (λe=>Ag i.fs e.s i.r C X)];exact(hc_ e3).T i.out.r);have c3:Eo _ 0 _ a.out:=World.ownsRow.kept (i.out.out.alloc _) L (Ap (i.out.fs.alloc _) (i.out.out.alloc (O_ #[I l] 3)) C);have c8:Aa K d c9:=(by have m:Aa K _ (ZN b0 (O_ #[I l] 3)):=(Aa.refl K _).alloc _;exact b4.T (m.grown L (λk hk _=>i.g k hk)));have⟨A,D,a6⟩:=a7.d;rw[Qe,Ak] at a6;simp only[length_cons,length_nil,Nat.zero_add] at a6;subst a6;have d0:=x4_ v c3 c8 a7
 have d2:Hid (∀k,ZW (ZH A (F a.fs+1) D)=T k->K k∨B d.1<=k):=λk hk=>by
  rcases c7 with e|e
  exact ZM (i.g k (e ▸ hk));rw[e.1] at hk;injection hk with hk;exact ZJ (by rw[<- hk];omega)
 have z:=K_ i.h i.i;have d5:=n_ 0 v;have d8:=R_ 0 _ _ v;have d6:=n_ 3 v;have d9:=R_ 3 _ _ v;clear a7 L c7 v c3 c8 i b4 d4;go_wp2_with fail
 go_loopw [40] (λn m=>∃k:H,n=ZX ZQ k/\k<=c/\Hid (m.1[f]? =T (YU #[ZH A (F a.fs+1) D,ZH a0 c x,ZX ZQ ((a.g+Gd a.out b:H):E),ZX ZQ ((a.k:E)+(u:E))] 351 (0,0))/\Eo m 0 (ZH a0 c x) (orK a.out b k)/\Aa K d m/\Ad m 0 (ZH A (F a.fs+1) D) (An a.fs++[(l:E)]))) (λn _=>c-ZL (ZA n))
 case atStart=>
  obtain⟨q,a1,m,n⟩:=d0;refine⟨0,X,v_,?_,?_,?_,?_⟩;exact ht_ 3 _ _ _ (ht_ 0 _ _ _ q);have e:orK a.out b 0=a.out:=(by simp[orK]);rw[e];exact Am (Am a1 q C) (ht_ 0 _ _ _ q) C;exact(m.setCell (p:=(J f 0)) (λ_=>z.1) _).setCell (p:=(J f 3)) (λ_=>z.1) _;exact Am (Am n q C) (ht_ 0 _ _ _ q) C
 clear d5 d8 d6 d9;obtain⟨k,rfl,hk,a2⟩:=hrel
 by_cases c2:k<c
 ·have⟨m,n,t,s⟩:=a2.out;have w:F a.out=F b:=p_ g.out;obtain⟨o,e6,f8,_,a3,b7⟩:=n.b (k:=k) (by rw[Zgn w (by have:=g.out;omega)];exact g.2.2.1) c2;subst e6;have b9:Eo _ 0 _ b:=t.M g.1 g.2.2.2;have⟨L,e7,f9,_,f2,_⟩:=b9.b g.2.1 c2;subst e7;rw[Zo7 w (p_ g.out)] at a3;have P:=n_ 1 m;have b3:Hid (_=orK _ b (k+1)):=Znp w (p_ g.out);have b2:Hid (c=F (orK a.out b k)):=by rw[Zgn w (by have:=g.out;omega)];exact g.2.2.1.s
  have e4:f≠o:=λe=>by
   rcases n.2 with⟨e2,_⟩|⟨Q,y,M,e2,_,q,_⟩
   ·cases e2
   injection e2 with e2;injection e2 with e2;injection e2 with e2;rw[e,e2,q] at m;simp at m
  have d1:=x4_ m n t s;have Q:ZV (YY wr) _=_:=a3;have b8:YT (YY wr) _=_:=b7;have f1:=F_ k c;have M:Hid (∀y,y=(Z a.out k ZZ||Z b k ZZ)->(YY (ZO wr (J o k) (ZR y))).1[f]? =T (O_ #[V A (F a.fs+1) D,L_ o c x,I (a.g+Gd a.out b:H),I (a.k+u)] 351)/\Eo (YY (ZO wr (J o k) (ZR y))) 0 (L_ o c x) (orK a.out b (k+1))/\Aa K d (YY (ZO wr (J o k) (ZR y)))/\Ad (YY (ZO wr (J o k) (ZR y))) 0 (V A (F a.fs+1) D) (An a.fs++[(l:E)])):=by rintro y rfl;have⟨q,a1⟩:=n.put (k:=k) b2 (Z a.out k ZZ||Z b k ZZ);rw[b3] at q;refine⟨?_,q,(t.setCell (p:=(J o k)) (λ_=>z.2 o X) _).drew,?_⟩;exact(a1.block _ (Qb m).1 (λe=>e4 (by injection e))).T m;exact World.ownsRow.drew (Ad.kept s a1 (Ap n s C))
  clear a2 m n t s b9 a3 b7 b3 b2 d1;generalize (Z b) k ZZ=a1 at *;generalize (Z a.out) k ZZ=d7 at *
  cases d7 with
  | true=>
   go_upto_region 6 with fail;refine Af (λj=>ZV j _=T _/\ZV j _=T _) 16 k_ ⟨P,Q⟩ (λhHeld=>?_);refine G_ ?_;refine le_ ?_;have q:=M Z0 s_;have y:=Y q;clear q M hHeld P Q b8;go_wp2;go_roundw;case rel=>exact⟨k+1,g_,O,y⟩
   case measure=>exact z_
  | false=>
   go_upto_region 6 with fail;refine Af (λj=>ZV j _=T _/\ZV j _=T _) 16 k_ ⟨P,Q⟩ (λhHeld=>?_);refine G_ ?_;refine le_ ?_;have q:=M a1 s_;have y:=Y q;clear q M hHeld P Q b8;go_wp2;go_roundw;case rel=>exact⟨k+1,g_,O,y⟩
   case measure=>exact z_
 have o:¬k<(c:E):=O
 have q:Hid ((∃m,xk wr m f (Ve a l b u)/\∀k,m k->K k∨B d.1<=k)/\Aa K d wr):=by
  obtain⟨m,n,t,s⟩:=a2;have w:F a.out=F b:=p_ g.out;have e:orK a.out b k=orL a.out b:=(by have:=Mg w;unfold orK;rw[aI (p_ g.out),drop_eq_nil_of_le (p_ g.out),append_nil]);rw[e] at n;refine⟨⟨λk=>K k∨ZW (ZH _ _ _)=T k,⟨_,_,⟨m,?_,n,ZM z.1,λk hk=>ZJ hk,λk hk=>ZM (z.2 k hk),λk hk=>?_⟩⟩,λk hk=>?_⟩,t⟩;show Ad wr 0 _ (An (a.fs++[l]));rw[ZbK];exact s
  ·rcases hk with hk|hk
   exact Qh (d3 k hk) t.size;exact(B_ s k hk).2
  rcases hk with hk|hk
  exact ZM hk;exact d2 k hk
 skip
 go_wp2;go_end0;exact⟨X,q.1,q.2⟩
def Fm:GS:=⟨[],[],0,0⟩
def sv(a:H):ZY:=P_ a
structure Xk(g:ZT)(h)(d:U H)(c:H->H->Prop)(b:U GS):Prop where
 M:ZD g 0 313 1 h (F b) (d.map sv)
 y:F d=F b
 j:∀a,a<F b->xk g (c a) (Z d a 0) (Z b a Fm)
 apart:∀a e,a<F b->e<F b->a≠e->∀f,c a f->¬c e f
def Er(b:U ZG)(c d:H)(a:GS):ZG:=ZE (a.g+Gd a.out b<=d)&&ZE (a.k+c<=40)
structure GOk(b)(a:GS):Prop where
 out:F a.out=b
 g:a.g<=1000
 k:a.k<=1000
 fs:F a.fs<=1000
def Xk.at{c f d g a}(e:Xk c f d g a){i}(r:i<F a):∃b h,f=L_ b (F a) h/\b<B c.1/\ZV c (J b i)=T (sv (Z d i 0)):=by
 have n:=e.M
 rcases e.M.2 with⟨_,p⟩|⟨l,j,o,k,q,m,s,_⟩
 omega;subst k;refine⟨l,j,X,(Qb m).1,?_⟩;rw[World.ownsRow.cellAt n i O]
 grind
def Xk.a{h b f c a}(g:Xk h b f c a):∃d e,b=ZH d (F a) e:=by
 rcases g.M.2 with⟨rfl,j⟩|⟨l,k,i,rfl,_⟩
 ·grind
 grind
def Zd4(b:U H)(c:H)(a:H):ZY:=if a<c then sv (Z b a 0) else Y7 ZP
def Yg R a8 (S o x d e:H){t} b1 b c p (W:Xk p (V R (F b) S) t b1 b)(a4:∀h∈b,GOk o h)(a6:Eo p 0 (V a8 o x) c)(a0:F c=o)(b7:o<=200)(c2:d<=1000)(b6:F b<=1000):C_ 255 #[V R (F b) S,V a8 o x,I d,I e] p (U_ (Zd4 t (F b) (b.findIdx (Er c d e))) p):=by
 have⟨N,b0⟩:=Y_ W a4;have s:=K_ a6 a0;have⟨n,M⟩:=W_ (F b);have w:=Y M;rw[<- M] at b6 ⊢;clear W a4 a6 a0 M;refine q_ ?_;go_wp2_with fail
 go_loopw [13] (λf i=>∃a:H,f=ZX ZQ a/\a<=n/\K (∀g,g<a->Er c d e (Z b g Fm)=ZZ)/\∃Q,i=Y1 p Q) (λf _=>n-ZL (ZA f))
 exact⟨0,X,v_,λg G=>O,0,X⟩;obtain⟨a,rfl,c4,l,Q,rfl⟩:=hrel
 by_cases a3:a<n
 ·have L:a<F b:=(by rw[<- w];exact a3);have⟨d0,c1,aA,c7,a1⟩:=N.at L;injection aA with aA _ hgc;subst aA hgc;have⟨d1,d2,hK⟩:=N.j a L;have m:=b0 _ (show Z b a Fm∈b by grind);have k:K (Er c d e (Z b a Fm)=(_&&_)):=rfl
  have q:K (Er c d e (Z b a Fm)=Z0->b.findIdx (Er c d e)=a):=λa5=>by
   have f:Z b a Fm=b[a]:=w_;rw[f] at a5;rw[findIdx_eq L];refine⟨a5,λg G=>?_⟩;have:=l g G
   grind
  have r:K (Er c d e (Z b a Fm)=ZZ->∀g,g<a+1->Er c d e (Z b g Fm)=ZZ):=λb5 g G=>by
   by_cases f:g=a
   rw[f];exact b5;exact l g O
  generalize (Z b) a Fm=h at *;have⟨b4,D⟩:=W_ (Z t a 0);have a9:K (sv b4=sv (Z t a 0)):=(by show _=_;rw[D]);rw[<- D] at hK a1;clear D;have⟨c8,c9,a7⟩:=hK.out.d;rw[m.out] at a7;subst a7;have P:=n_ 1 hK.r;have b9:=n_ 2 hK.r;have c0:=n_ 3 hK.r;have a2:=Ui (Ig h.out c);rw[Ue (oj_ s.2 m.out),s.2] at a2;have c3:Gd h.out c<=200:=(by unfold Gd;omega);have c5:=m.g;have c6:=m.k;have v:=Y (λf=>Od o x c (Y1 p f) P hK.out s.1 m.out s.2 b7);clear hK m a2 P;generalize Gd h.out c=y at *;generalize h.g=A at *;generalize h.k=z at *;unfold sv at a1;have b8:=F_ a n
  by_cases j:A+y<=e
  ·have b2:ZE (A+y<=(e:E))=Z0:=t_
   by_cases u:z+d<=40
   ·have b3:ZE (z+(d:E)<=40)=Z0:=t_;have i:=Y (q (by rw[k];simp[j,u]));clear q k j u;go_upto_region 4 with fail;go_quiet (first|(go_at_call 297;exact(v _).m (λ_ _ f=>⟨f.1,_,f.2⟩)));go_wp2;go_ret;refine⟨?_,below_drewN y_ _⟩;rw[i];unfold Zd4;rw[aD a3,<- a9];rfl
   have b3:ZE (z+(d:E)<=40)=ZZ:=t_;have i:=Y (r (by rw[k];simp[j,u]));clear q k j u l r;go_upto_region 4 with fail;go_quiet (first|(go_at_call 297;exact(v _).m (λ_ _ f=>⟨f.1,_,f.2⟩)));go_wp2;go_roundw;exact⟨a+1,g_,O,i,_,X⟩;exact z_
  have b2:ZE (A+y<=(e:E))=ZZ:=t_;have i:=Y (r (by rw[k];simp[j]));clear q k j l r;go_upto_region 4 with fail;go_quiet (first|(go_at_call 297;exact(v _).m (λ_ _ f=>⟨f.1,_,f.2⟩)));go_wp2;go_roundw;exact⟨a+1,g_,O,i,_,X⟩;exact z_
 have k:¬a<(n:E):=O
 have i:K (¬b.findIdx (Er c d e)<n):=λf=>by
  rw[w] at f;have j:=findIdx_getElem (w:=f);have:=l (b.findIdx (Er c d e)) (p_ w.out)
  grind
 clear l;go_wp2;go_ret;refine⟨?_,below_drewN y_ _⟩;unfold Zd4;rw[aC i];rfl
end Go.Proofs.YtfcgnpchbcmdeaaGreat
namespace Go.Proofs.YtfcgnpchbcmdeaaGreat
set_option linter.all false
set_option maxRecDepth 100000
set_option maxHeartbeats 4000000
open Go.RowKit Go.Lib Go.Sort List Nat Go.World Go.Proofs.Tryz Go.Value Go.IntKind Go.Lib Go.Region
structure It(d:ZT)(e)(c)(a:U (U ZG)):Prop where
 M:ZD d 0 101 1 e (F a) c
 j:∀b,b<F a->Eo d 0 (Z c b (N_)) (Z a b [])
def It.q{f w' d e a}(b:It f d e a)(c:E_ f w'):It w' d e a:=
 ⟨(Aa.a (S:=λ_=>False) c).M b.M (λ_ _=>id),λh g=>(b.j h g).q c⟩
def It.at{c e f a}(d:It c e f a){i}(p:i<F a):∃b g,e=L_ b (F a) g/\b<B c.1/\ZV c (J b i)=T (Z f i (N_)):=by
 have r:=d.M
 rcases d.M.2 with⟨_,m⟩|⟨l,h,j,k,n,o,q,_⟩
 omega
 grind [World.ownsRow.cellAt]
def ZgV{u v w k c d n a f}(i:It f (L_ v (F a) w) n a)(q:∀A∈a,F A=k)(r:k<=200)(a2:D_ f u 0 (L_ v (F a) w))(o:c<F a)(p:d<F a):C_ 295 #[I c,I d,P_ u] f λb e=>b=ZI (ZX ZQ (compareInt (Dt (Z a d []):H) (Dt (Z a c []):H)))/\∃j,e=Y1 f j:=by
 have⟨a3,S,e1,_,L⟩:=i.at o;injection e1 with e1 _ _;injection e1 with e1;injection e1 with e1 _;subst e1;have⟨a4,W,e2,_,M⟩:=i.at p;injection e2 with e2 _ _;injection e2 with e2;injection e2 with e2 _;subst e2;have l:=i.j c o;have m:=i.j d p;have s:=q _ (show Z a c []∈a by grind);have t:=q _ (show Z a d []∈a by grind);generalize (Z a) c []=g,Z a d []=h,Z n c (N_)=a6,Z n d (N_)=a7 at *;obtain⟨D,N,rfl⟩:=l.d;obtain⟨G,Q,rfl⟩:=m.d;rw[s] at l L;rw[t] at m M;have⟨x,y⟩:=Y_ (λb=>ZfJ k g (Y1 f b) l s r) (λb=>ZfJ k h (Y1 f b) m t r);have z:K (∀b,Calls _ _ #[ZX _ (Dt h:H),ZX _ (Dt g:H)] _ λj e=>_):=λb=>Tryz.cmp_Compare_int _ _ (Y1 f b);generalize compareInt (Dt h:H) (Dt g:H)=a5,Dt g=a0,Dt h=a1,F a=j at *;have P:=F_ c j
 have R:=F_ d j;refine dl_ ?_;go_enter func295,ntmps295;go_upto_region 1 with fail;go_quiet (first|(go_at_call_of 296 (G);exact(y _).m (λ_ _ e=>⟨e.1,_,e.2⟩))|(go_at_call_of 296 (D);exact(x _).m (λ_ _ e=>⟨e.1,_,e.2⟩))|(go_at_call 151;exact(z _).m (λ_ _ e=>⟨e.1,_,e.2⟩)));go_wp2;go_ret;exact⟨X,_,X⟩
def Vh{m}(x:Fin m):ZY:=I x.val
def Vg{m}(a:U (U ZG))(x b:Fin m):E:=compareInt (Dt (Z a b.val []):H) (Dt (Z a x.val []):H)
def Zq2{a}:OneCell (Vh (m:=a)):=λ_=>X
def Ze1 a {c j h}{e:YZ (Fin (a+1))}{b}(u:a+1<=4)(o:B e=a+1){f}(t:CmpReads (α:=Fin (a+1)) Y8 295 #[P_ h] Vh (Vg f) c 0 (a+1) b)(n:Holds Vh b c 0 e):
  C_ 294 #[L_ c (a+1) j,YX (.func 295) #[] #[P_ h]] b λd i=>d=ZI (Y5 #[])/\∃g,i=Y1 (putRow Vh b c 0 (Sort.insertionSort (ltOf (Vg f)) e 0 (a+1))) g:=by
 have l:K (C_ 346 #[L_ c (a+1) j,I 0,I (a+1:H),YX (.func 295) #[] #[P_ h]] b λd i=>d=ZI (Y5 #[])/\∃g,i=Y1 (putRow Vh b c 0 (Sort.insertionSort (ltOf (Vg f)) e 0 (a+1))) g):=(by have:=Tryz.insertionSortCmpFunc_one Vh Zq2 (Vg f) 295 #[P_ h] c 0 j 0 (a+1) e b (enters_of func295 k_ X) w_ n v_ O O;rw[o] at this;exact this);generalize putRow Vh b c 0 (Sort.insertionSort (ltOf (Vg f)) e 0 (a+1))=k at *
 have m:K (C_ 329 #[L_ c (a+1) j,I (a+1:H),YX (.func 295) #[] #[P_ h]] b λd i=>d=ZI (Y5 #[])/\∃g,i=Y1 k g):=by
  have r:¬20<=(a:E)+1:=O;have s:¬20<(a:E)+1:=O;refine dl_ ?_;go_enter func329,ntmps329;go_wp2_with fail
  go_loopw [7,8] (λd g i=>d=I 0/\g=I 20/\i=b) (λ_ _ _=>0)
  grind
  obtain⟨rfl,rfl,rfl⟩:=hrel;go_wp2_with fail
  apply (l).m;rintro d p ⟨rfl,i,rfl⟩;go_wp2_with fail
  go_loopw [6] (λg q=>g=I 20/\q=Y1 k i) (λ_ _=>0)
  grind
  obtain⟨rfl,rfl⟩:=hrel;go_wp2;go_end0
  grind
 refine q_ ?_;go_wp2_with fail
 apply (m).m;rintro d p ⟨rfl,i,rfl⟩;go_wp2;go_end0
 grind
def Zfd{d}[Inhabited d] g c a k j (e:YZ d) l:Aa (λb=>b=a) c (sortWorld g c a k j e l):=by refine⟨X,X,X,?_,λb h i=>?_⟩;unfold sortWorld;simp;unfold sortWorld;rw[Go.Sort.heap_grow_old _ _ (by simpa using h)];have:a≠b:=λf=>i f.s;simp[Go.Sort.putRow,Go.Sort.mapBlock,Go.Sort.ahead,Array.getElem?_modify,this]
def ZiI{d}[Inhabited d] g c a i (e:YZ d):Aa (λb=>b=a) c (putRow g c a i e):=by refine⟨X,X,X,?_,λb j h=>?_⟩;simp[Go.Sort.putRow,Go.Sort.mapBlock];have:a≠b:=λf=>h f.s;simp[Go.Sort.putRow,Go.Sort.mapBlock,Array.getElem?_modify,this]
def It.p{S f w' k l g}(a:It f k l g)(j:Aa S f w')(n:∀b c e,f.1[b]? =T (O_ c e)->e=101∨e=4->¬S b):It w' k l g:=
 ⟨j.M a.M (λb d=>by obtain⟨c,m⟩:=Ac a.M d;grind),λi h=>j.M (a.j i h) (λb d=>by obtain⟨c,m⟩:=Ac (a.j i h) d;grind)⟩
def ZeC{g h a d b u j}{D:YZ (Fin (u+1))}(k:Ad g h (L_ a b d) j)(z:F j=b)(n:B D=b):Ad (putRow Vh g a 0 D) h (L_ a b d) ((Y4 D).map (λf=>f.val)):=by
 rcases k.2 with⟨c,_⟩|⟨w,v,i,c,o,r,x,p,q,y⟩
 simp at c;simp only[slice.injEq,Option.some.injEq,Addr.mk.injEq,and_true] at c;obtain⟨rfl,_,rfl⟩:=c;have s:H_ (putRow Vh g a 0 D) a (Go.Sort.putCells Vh 0 D i) 3:=(by simp[Go.Sort.putRow,Go.Sort.mapBlock,Array.getElem?_modify,r,Go.Sort.onCells]);have e:F ((Y4 D).map (λf=>(f.val:Int)))=b:=(by simp[n]);refine⟨w_,ZJ ⟨a,d,_,by rw[e],o,s,p_ e,p,by simp[Go.Sort.putCells,q],?_⟩⟩;rw[e,Nat.mul_one];apply ext_getElem?;intro f
 by_cases t:f<b
 rw[getElem?_take_of_lt t,Array.getElem?_toList];have l:f<B i:=O;have m:f<B D:=O;simp[Go.Sort.putCells,l,m,Vh]
 grind
def Js b:YZ (Fin (b+1)):=Array.ofFn (λa=>a)
def Dp(a:H)(b:U (U ZG)):U H:=(Y4 (Sort.insertionSort (ltOf (Vg (m:=a+1) b)) (Js a) 0 (a+1))).map (λc=>c.val)
def ZjK c {d g} h {i} f {t a b}(v:F a=c+1)(m:It b (L_ h (F a) i) t a)(p:∀k∈a,F k=f)(q:f<=200)(n:H_ b g #[L_ h (F a) i] 309)(o:∃e,H_ b d e 3):CmpReads (α:=Fin (c+1)) Y8 295 #[P_ g] Vh (Vg a) d 0 (c+1) b:=by
 intro r s l _ x y;have j:=Zfd (Vh (m:=c+1)) b d 0 r l s;obtain⟨e,w⟩:=o;refine ZgV (m.p j ?_) p q ?_ O O
 ·grind
 have:=j.g n (λu=>w_);exact M_ 0 _ _ _ this
theorem Zf5{d}[Inhabited d]{c}(e:SWO c){b:YZ d}{a}(g:B b=a):B (Sort.insertionSort c b 0 a)=a:=by have:=(Sort.insertionSort_holds (lt:=c) e b 0 a v_ O).1;obtain⟨f,_⟩:=this;omega
theorem ltF{c} a (x b:Fin c):ltOf (Vg a) x b=ZE (Dt (Z a b.val [])<Dt (Z a x.val [])):=by
 unfold ltOf Vg compareInt
 grind
theorem Zpn{e} b:SWO (ltOf (Vg (m:=e) b)) where
 irrefl a:=by rw[ltF];simp
 trans a f g c d:=by rw[ltF] at *;simp at *;omega
 ntrans a f g c d:=by rw[ltF] at *;simp at *;omega
theorem Un a:B (Js a)=a+1:=by simp[Js]
theorem Lg a b:F (Dp a b)=a+1:=by grind [Dp,Zf5,Zpn,Un]
def jv a b:∀c∈Dp a b,c<a+1:=by grind [Dp]
def Xz a {g l} p {t d} b (M:a+1<=4)(z:F d=a+1)(y:It b (L_ g (a+1) l) t d)(L:∀v∈d,F v=p)(P:p<=200):C_ 254 #[L_ g (a+1) l] b λe h=>∃c,e=ZI c/\Ad h (B b.1) c (An (Dp a d))/\E_ b h:=by
 have i:=x3_ y z L;have N:=Gm (a+1) O;have W:∀w:_,(Instr.makeSlice 25 (ZX _ ((a:E)+1)) (I ((a:E)+1))).run _ w=_:=N;refine dl_ ?_;go_enter func254,ntmps254;go_wp2_with fail
 go_loopw [10] (λf h=>∃c:H,f=ZX ZQ c/\c<=a+1/\K (Ad h (B b.1+1) (ZH (T ⟨B b.1+1,0,ZP⟩) (a+1) (a+1)) (Ct (λe=>(e:E)) (a+1) c))/\K (Below (B b.1+1) (ZN b (YU #[ZH (T ⟨g,0,ZP⟩) (a+1) l] 309)) h)) (λf _=>a+1-ZL (ZA f))
 case atStart=>
  refine⟨0,X,v_,?_,?_⟩
  ·rw[In];have:=Gl (a+1) (ZN b (O_ #[L_ g (a+1) l] 309)) (B b.1+1) O s_;show Ad _ _ _ _
   simpa using this
  exact y_.alloc s_ _
 obtain⟨c,rfl,r,n,m⟩:=hrel;have R:=m.size;simp at R
 by_cases s:c<a+1
 ·have j:=Fg (λe=>(e:E)) (show c<=a+1 by omega);have⟨h,f⟩:=Y_ (Kg (λe=>(e:E)) s) j.s;have⟨q,u⟩:=n.c j.s s;generalize Ct (λe=>(e:E)) (a+1) c=e at *;generalize (Z e) c 0=x at *;have k:0<=(c:E):=O;have o:c<(a:E)+1:=O;go_wp2;go_roundw
  case rel=>
   refine⟨c+1,g_,O,?_,?_⟩;rw[<- h];exact(n.put f _).1;exact m.setCell x_ _
  case measure=>exact z_
 have a0:¬c<(a:E)+1:=O;have D:=(m.block _ O).T hn_;have f:=r_.T (m.m O);have o:Ad wr (B b.1+1) (L_ (B b.1+1) (a+1) (a+1)) (Ct (λe=>e) (a+1) (a+1)):=(by have:c=a+1:=O;subst this;exact n);have j:=Fg (λe=>(e:E)) (Qa (a+1));have x:Holds Vh wr (B b.1+1) 0 (Js a):=(by intro h e;rw[Un] at e;rw[Nat.zero_add];have⟨k,q⟩:=o.c j.s e;refine⟨?_,q⟩;rw[k,Im];have:(Js a)[h]! =⟨h,e⟩:=(by simp[Js,e]);rw[this];simp[Vh,Z,e]);have A:It wr (L_ g (F d) l) t d:=i.2.1 ▸ (i.1.q f)
 have G:=ZjK a g p i.2.1 A i.2.2 P (i.2.1 ▸ D) (by
  have⟨e,h⟩:=Ac o (k:=B b.1+1) X
  exact⟨e,h⟩)
 have u:K (C_ 294 #[L_ (B b.1+1) (a+1) (a+1),YX (.func 295) #[] #[P_ (B b.1)]] wr λe h=>e=ZI (Y5 #[])/\Ad h (B b.1) (L_ (B b.1+1) (a+1) (a+1)) (An (Dp a d))/\E_ b h):=by
  apply (Ze1 a M (Un a) G x).m;rintro e h ⟨rfl,q,rfl⟩;have Q:=ZeC (D:=Sort.insertionSort _ _ 0 _) o j (Zf5 (Zpn d) (Un a));have k:=ZiI (Vh (m:=a+1)) wr (B b.1+1) 0 (Sort.insertionSort (ltOf (Vg (m:=a+1) d)) (Js a) 0 (a+1));refine⟨X,?_,?_⟩;have e:An (Dp a d)=(Y4 (Sort.insertionSort (ltOf (Vg (m:=a+1) d)) (Js a) 0 (a+1))).map (λS=>(S.val:Int)):=(by simp[An,Dp]);rw[e];exact(Ad.q (Ad.m Q O) (below_drewN y_ q));refine below_drewN ?_ q;exact⟨k.os.T f.os,k.tape.T f.tape,k.output.T f.output,aG f.size k.size,λc r=>(k.block c O O).T (f.block c r)⟩
 go_wp2_with fail
 apply u.m;rintro e Q ⟨rfl,q,k⟩;have h:=K_ q k;go_wp2;go_ret;exact⟨_,X,h.1,h.2⟩
end Go.Proofs.YtfcgnpchbcmdeaaGreat
namespace Go.Proofs.YtfcgnpchbcmdeaaGreat
set_option linter.all false
set_option maxRecDepth 100000
set_option maxHeartbeats 4000000
open Go.RowKit List Nat Go.World Go.Proofs.Tryz Go.Value Go.IntKind Go.Lib Go.Region
structure KS where
 e:ES
 d:H
def Aj:KS:=⟨⟨ZZ,[],[]⟩,0⟩
def KS.g(a:KS):H:=a.e.b+2
def Bs(a:KS)(b:ZY×ZY):U ZY:=[ZR a.e.a,b.1,b.2,I a.d]
def Hg:U KS->U (ZY×ZY)->U ZY
 |[],_=>[]
 |_::_,[]=>[]
 |b::a,c::d=>Bs b c++Hg a d
def Lm:ZY×ZY:=(N_,N_)
def mg:∀(c:U KS) (e:U (ZY×ZY)),F e=F c->∀a,a<F c->∀b,b<4->(Hg c e)[a*4+b]? =(Bs (Z c a Aj) (Z e a Lm))[b]?
 |[],_,_,a,d=>by simp at d
 |f::c,[],d,_,_=>by simp at d
 |f::c,h::e,_,0,_=>λb g=>by grind [Hg,Bs]
 |f::c,h::e,d,a+1,i=>λb g=>by simp only[Hg];rw[getElem?_append_right (by simp[Bs];omega),show(a+1)*4+b-F (Bs f h)=a*4+b by simp[Bs];omega];exact mg _ _ (by simpa using d) a (by simpa using i) b g
def Da{h:ZT}{b c a f e:H}{g i}(d:ZD h c a f g e i)(m:b<=c):ZD h b a f g e i:=by
 refine⟨d.1,?_⟩
 rcases d.2 with o|⟨l,j,k,a,n,p⟩
 exact ZM o;exact ZJ ⟨l,j,k,a,aG m n,p⟩
structure Jq(e)(d:ZT)(f)(c)(a):Prop where
 M:ZD d 0 172 4 f (F a) (Hg a c)
 y:F c=F a
 j:∀b,b<F a->Ad d e (Z c b Lm).1 (Z a b Aj).e.f/\Bj d e (Z c b Lm).2 (Z a b Aj).e.c
abbrev ZgN(d:ZT)(b:ZY)(c:U (ZY×ZY))(a:U KS):Prop:=Jq 0 d b c a
def Jq.m{j d c h i b}(a:Jq d j h i b)(e:c<=d):Jq c j h i b:=⟨a.M,a.y,λg f=>⟨Da (a.j g f).1 e,Da (a.j g f).2 e⟩⟩
def Jq.p{S i w' k m n j}(a:Jq k i m n j)(h:Aa S i w')(o:∀c d g,i.1[c]? =T (O_ d g)->g=172∨g=3∨g=9->¬S c):Jq k w' m n j:=
 ⟨h.M a.M (λc b=>by obtain⟨d,l⟩:=Ac a.M b;grind),a.y,λf e=>⟨h.M (a.j f e).1 (λc b=>by obtain⟨d,l⟩:=Ac (a.j f e).1 b;grind),h.M (a.j f e).2 (λc b=>by obtain⟨d,l⟩:=Ac (a.j f e).2 b;grind)⟩⟩
def Jq.q{h w' base f g c}(a:Jq base h f g c)(b:E_ h w'):Jq base w' f g c:=
 ⟨(Aa.a (S:=λ_=>False) b).M a.M (λ_ _=>id),a.y,λe d=>⟨(a.j e d).1.q b,(a.j e d).2.q b⟩⟩
def Jq.at{b l t u a}(j:Jq l b t u a){i}(s:i<F a):∃d c e g f h,t=L_ d (F a) c/\d<B b.1/\ZV b (J d (i*4))=T (ZR (Z a i Aj).e.a)/\ZV b (J d (i*4+1))=T (ZH e (F (Z a i Aj).e.f) g)/\ZV b (J d (i*4+2))=T (ZH f (F (Z a i Aj).e.c) h)/\ZV b (J d (i*4+3))=T (I (Z a i Aj).d)/\Ad b l (ZH e (F (Z a i Aj).e.f) g) (Z a i Aj).e.f/\Bj b l (ZH f (F (Z a i Aj).e.c) h) (Z a i Aj).e.c:=by
 have z:=j.M
 rcases j.M.2 with⟨_,G⟩|⟨p,v,D,w,L,y,M,_⟩
 omega;subst w;have⟨m,n⟩:=j.j i s;have⟨e,g,q⟩:=m.d;have⟨f,h,r⟩:=n.a;rw[q] at m;rw[r] at n
 have k:∀c o,c<4->(Bs (Z a i Aj) (Z u i Lm))[c]? =T o->ZV b (J p (i*4+c))=T o:=λc o x A=>by rw[World.ownsRow.cellAt z (i*4+c) O];exact(mg _ _ j.y i s c x).T A
 refine⟨p,v,e,g,f,h,X,(Qb y).1,k 0 _ O X,?_,?_,k 3 _ O X,m,n⟩;rw[<- q];exact k 1 _ O X;rw[<- r];exact k 2 _ O X
structure Lx(h)(f)(e)(g)(d)(c):Prop where
 x:Xk h e g d c
 j:∀b,b<F c->∀a,ZW e=T a->¬d b a
 i:∀a,ZW e=T a->f<=a
 u:∀b,b<F c->∀a,d b a->f<=a
def Xk.p{S j w' f g e d}(c:Xk j f g e d)(i:Aa S j w')(k:∀b,ZW f=T b->¬S b)(l:∀a,a<F d->∀b,e a b->¬S b):Xk w' f g e d:=
 ⟨i.M c.M k,c.y,λa h=>(c.j a h).p i (l a h),c.apart⟩
def Lx.p{S j w' c i g f e}(b:Lx j c i g f e)(m:Aa S j w')(h:∀a,c<=a->¬S a):Lx w' c i g f e:=
 ⟨b.x.p m (λa d=>h a (b.i a d)) (λl k a d=>h a (b.u l k a d)),b.j,b.i,b.u⟩
def Lx.put{n x r i z s l h K' G'}(b:Lx n r z s l h)(j:i<F h)(y:Aa (l i) n x)(G:xk x K' (Z s i 0) G')(f:∀k,K' k->l i k∨B n.1<=k)(D:r<=B n.1):Lx x r z s (λa=>if a=i then K' else l a) (h.set i G'):=by
 have L:∀a,a<F h->∀k,l a k->k<B n.1:=λa e k f=>by have⟨d,g,c⟩:=b.x.j a e;exact c.j k f
 refine⟨⟨?_,?_,λa e=>?_,λq o u v A k=>?_⟩,λa e k w=>?_,b.i,λa e k=>?_⟩;rw[length_set];exact y.M b.x.M (λk f=>b.j i j k f);rw[length_set];exact b.x.y
 ·rw[length_set] at e
  by_cases c:a=i
  ·grind
  simp only[aC c];have:Z (h.set i G') a Fm=Z h a Fm:=(by simp[Z,Ne.s c]);rw[this];exact(b.x.j a e).p y (λk f=>b.x.apart a i e j c k f)
 ·rw[length_set] at u v
  by_cases p:q=i
  ·have m:o≠i:=O;simp only[aD p,aC m];intro g t
   rcases f k g with d|d
   exact b.x.apart i o j v (λc=>m c.s) k d t
   grind
  by_cases m:o=i
  ·simp only[aC p,aD m];intro g t
   rcases f k t with d|d
   exact b.x.apart q i u j p k g d
   grind
  simp only[aC p,aC m];exact b.x.apart q o u v A k
 ·rw[length_set] at e
  by_cases c:a=i
  ·simp only[aD c];intro g
   rcases f k g with d|d
   exact b.j i j k w d;have:=(B_ b.x.M k w).2;omega
  simp only[aC c];exact b.j a e k w
 rw[length_set] at e
 by_cases c:a=i
 ·simp only[aD c];intro g
  rcases f k g with d|d
  exact b.u i j k d;omega
 simp only[aC c];exact b.u a e k
def Lx.a{h w s k u v l q c i n}(g:Lx h s u l q c)(t:ZD w 0 313 1 v (F c+1) (l.map sv++[sv k]))(P:Y3 h w (ZW u))(D:ZW v=ZW u∨∃r,ZW v=T r/\B h.1<=r)(m:xk h i k n)(e:∀L,L<F c->∀a,q L a->¬i a)(Q:∀a,ZW u=T a->¬i a)(W:∀a,i a->s<=a)(S:s<=B h.1):Lx w s v (l++[k]) (λb=>if b=F c then i else q b) (c++[n]):=by
 have a0:∀b,b<F c->∀a,q b a->a<B h.1:=λb d a e=>by have⟨f,j,m⟩:=g.x.j b d;exact m.j a e
 have a1:∀a,i a->a<B h.1:=λa e=>by obtain⟨f,j,m⟩:=m;exact m.j a e
 have M:=(Aa.refl _ h).grown P (λa e _=>e);have R:=g.x.y;refine⟨⟨?_,?_,λb d=>?_,λx y z A N a=>?_⟩,λb d a p=>?_,λa p=>?_,λb d a=>?_⟩
 ·grind
 simp[R]
 ·rw[Qe] at d;simp at d
  by_cases j:b=F c
  subst j;simp only[if_true];have f:Z (c++[n]) (F c) Fm=n:=(by simp[Z]);have o:Z (l++[k]) (F c) 0=k:=w_;rw[f,o];exact m.p M (λa e t=>Q a t e);have G:b<F c:=O;simp only[aC j];have f:Z (c++[n]) b Fm=Z c b Fm:=w_;have o:Z (l++[k]) b 0=Z l b 0:=w_;rw[f,o];exact(g.x.j b G).p M (λa e t=>g.j b G a t e)
 ·rw[Qe] at z A;simp at z A
  by_cases f:x=F c
  ·grind
  by_cases j:y=F c
  ·grind
  simp only[aC f,aC j];exact g.x.apart x y O O N a
 ·rw[Qe] at d;simp at d
  rcases D with f|⟨r,f,o⟩
  ·rw[f] at p
   by_cases j:b=F c
   ·grind
   simp only[aC j];exact g.j b O a p
  grind
 ·rcases D with f|⟨r,f,o⟩
  rw[f] at p;exact g.i a p
  grind
 rw[Qe] at d;simp at d
 by_cases j:b=F c
 ·grind
 simp only[aC j];exact g.u b O a
def Eb(j:ZT)(g:H)(h i:ZY):Prop:=∃b a f,i=ZH b a f/\a<=Y2/\(a=0∨∃d c,b=T ⟨d,0,ZP⟩/\j.1[d]? =T (O_ c g)/\∀e,e<a->c[e]? =T h)
section
variable {w w' a:ZT} {ty:H} {u v:ZY}
def Eb.nil{w ty u a b}:Eb w ty u (V a 0 b):=⟨a,0,b,X,by simp[Y2],ZM X⟩
theorem Eb.of_row{g c d h a f e}(l:ZD w g ty 1 (L_ c a h) a (Y6 a u))(n:a<=Y2)(s:d<=a)(j:e=T ⟨c,0,ZP⟩):Eb w ty u (V e d f):=by
 subst j
 rcases l.2 with⟨b,_⟩|⟨p,o,i,b,_,k,_,_,_,t⟩
 ·cases b
 injection b with e1 e2 e3;injection e1 with e1;injection e1 with e1;subst e1;refine⟨_,d,f,X,O,ZJ ⟨c,i,X,k,λm r=>?_⟩⟩;have q:(Y6 a u)[m]? =T u:=w_
 grind
def Eb.D{c a}(b:ZD w c ty 1 v a (Y6 a u))(i:a<=Y2):Eb w ty u v:=by
 have j:=b
 rcases b.2 with⟨rfl,_⟩|⟨g,d,e,f,_,h,_,_,_,k⟩
 exact .nil
 grind [of_row]
def Eb.p{S}(i:Eb w ty u v)(m:Aa S w w')(l:∀b a,ZW v=T b->w.1[b]? =T (O_ a ty)->¬S b):Eb w' ty u v:=by obtain⟨h,g,c,rfl,f,k|⟨d,a,rfl,e,j⟩⟩:=i;exact⟨h,g,c,X,f,ZM k⟩;exact⟨_,g,c,X,f,ZJ ⟨d,a,X,m.g e (l d _ X e),j⟩⟩
def Eb.q(a:Eb w ty u v)(b:E_ w w'):Eb w' ty u v:=a.p (S:=λ_=>False) (.a b) (λ_ _ _ _=>id)
def Eb.append{x c m b d}(h:Eb w ty u x)(y:Y3 w w' (ZW v))(e:ZW c=ZW v∨ZW c=T d/\Below d w w')(q:B w.1=d)(G:ZD w' m ty 1 c b (Y6 b u))(D:b<=Y2)(t:∃a g,c=L_ a b g)(A:Zej x<=b):Eb w' ty u x:=by
 subst q
 rcases e with e|⟨_,r⟩
 ·obtain⟨l,k,f,rfl,j,z|⟨a,n,rfl,i,s⟩⟩:=h;exact⟨l,k,f,X,j,ZM z⟩;obtain⟨p,g,rfl⟩:=t
  by_cases o:a=p
  ·grind [of_row,Zej]
  refine⟨_,k,f,X,j,ZJ ⟨a,n,X,?_,s⟩⟩;rw[y.block a (Qb i).1 (by rw[<- e];simpa [ZW] using o)];exact i
 exact h.q r
structure Xo(ty j:H)(c:H->U ZY)(b:ZT->ZY->Prop):Prop where
 add:∀i a,c i++c a=c (i+a)
 D:∀{w f a v},ZD w f ty j v a (c a)->a<=Y2->b w v
 p:∀{S w w' v},b w v->Aa S w w'->(∀g l,ZW v=T g->w.1[g]? =T (O_ l ty)->¬S g)->b w' v
 n:∀{w w':ZT} {h v d:ZY} {f a e},b w h->Y3 w w' (ZW v)->(ZW d=ZW v∨ZW d=T e/\Below e w w')->B w.1=e->ZD w' f ty j d a (c a)->a<=Y2->(∃m k,d=L_ m a k)->Zej h<=a->b w' h
def Eb.b{ty u}:Xo ty 1 (Y6 · u) (λw=>Eb w ty u):=⟨λ_ _=>replicate_append_replicate,Eb.D,Eb.p,Eb.append⟩
def Hx.b{b}:Xo 98 4 (λa=>flat (Y6 a (Lz b))) (λw=>Hx w b):=
 ⟨λa i=>sa,λh=>Hx.D (by unfold Ai;rw[length_replicate];exact h),Hx.p,λc d e f g=>Hx.append c d e f (by unfold Ai;rw[length_replicate];exact g)⟩
structure tn(a w:ZT)(ty h:H)(f:H->U ZY)(e:ZT->ZY->Prop)(v)(c j)(d:U ZY)(g):Prop where
 M:ZD w 0 ty h v c (f c)
 all:∀b∈d,e w b/\Zej b<=c+j/\∀k,ZW b=T k->ZW v=T k∨B a.1<=k
 lt:∀b∈d,∀k,ZW b=T k->k<B w.1
 u:Aa g a w
variable {n j size:H} {b:U ZY} {S:H->Prop} {R:H->U ZY} {A:ZT->ZY->Prop}
def tn.h(f:Xo ty size R A)(c:ZD w 0 ty size v n (R n))(g:n<=Y2)(h:Aa S a w):tn a w ty size R A v n 0 [v] S:=by
 refine⟨c,λi b=>?_,λi b e d=>?_,h⟩
 ·simp only[mem_singleton] at b;subst b;refine⟨f.D c g,?_,λe d=>ZM d⟩
  rcases c.2 with⟨rfl,m⟩|⟨l,j,k,rfl,_⟩
  exact v_;exact x_
 simp only[mem_singleton] at b;subst b;exact(B_ c e d).2
def tn.P{v' m}(f:Xo ty size R A)(g:tn a w ty size R A v n j b S){k}(G:j<=m)(z:ZD w' 0 ty size v' (n+m) (R n++R m)/\Y3 (ZN w k) w' (ZW v)/\(ZW v'=ZW v∨ZW v'=T (B w.1+1)/\Below (B w.1+1) (ZN w k) w')/\ZD w' 0 ty size v n (R n)/\∃o l,v'=L_ o (n+m) l)(y:∀d,ZW v=T d->S d)(q:n+m<=Y2):tn a w' ty size R A v n m (b++[v']) S:=by
 obtain⟨h,i,t,u,p⟩:=z;rw[f.add] at h;have L:=g.u.size;refine⟨u,λx c=>?_,λx c d e=>?_,(g.u.alloc k).grown i (λd e _=>y d e)⟩
 ·rcases mem_append.1 c with c|c
  have⟨r,D,s⟩:=g.all x c;exact⟨f.n (f.p (S:=λ_=>False) r (.a r_) (λ_ _ _ _=>id)) i t s_ h q p O,O,s⟩;simp only[mem_singleton] at c;subst c;refine⟨f.D h q,?_,λd e=>?_⟩;obtain⟨o,l,rfl⟩:=p;exact x_
  grind
 rcases mem_append.1 c with c|c
 have:=g.lt x c d e;have:=i.size;simp at this;omega;simp only[mem_singleton] at c;subst c;exact(B_ h d e).2
end
def Ta(b:U ZY)(c:ZY)(a:H):U ZY:=Y6 a c++ZF a b
def bc a b:Ta a b 0=a:=by simp[Ta]
def Zj5{a c b}(d:b<=F a):F (Ta a c b)=F a:=by simp[Ta];omega
def ba a b:Ta a b (F a)=Y6 (F a) b:=by simp[Ta]
def Zj6{b c a}(d:a<F b):(Ta b c a).set a c=Ta b c (a+1):=by unfold Ta;rw[aN d,set_append_right _ _ s_,length_replicate,Nat.sub_self,set_cons_zero,replicate_succ'];simp
structure ae(f c:ZT)(g i)(p:YZ ZY)(s t:H)(o:ZT->ZY->Prop)(q j m l:ZY)(n h)(r)(e d)(b):Prop where
 v:WB c g (YS (YS (YS p 12 (I r)) i e) (i+1) d)
 x:ZD c 0 s 1 e (F n+4) (n++b)
 w:ZD c 0 t 1 d (F h+4) (h++Y6 4 q)
 y:F b=4
 all:∀a∈b,o c a/\∀k,ZW a=T k->ZW j=T k∨B f.1<=k
 u:Aa (λk=>k=g∨ZW j=T k∨ZW m=T k∨ZW l=T k) f c
 D:∀k,ZW e=T k->ZW m=T k∨B f.1<=k
 z:∀k,ZW d=T k->ZW l=T k∨B f.1<=k
 A:∀a∈b,∀k,ZW a=T k->ZW d≠T k
 G:∀a∈b,∀k,ZW a=T k->ZW e≠T k
 lt:∀a∈b,∀k,ZW a=T k->k<B c.1
def WB.M{b}{d m c a f e:H}{i g n h}(j:WB b d i)(l:ZD b c a f g e h)(k:a≠90):ZD (ZO b (J d m) n) c a f g e h:=Am l j k
def WB.apart{d}{a e b l k:H}{f c m}(h:WB d a f)(j:ZD d e b l c k m)(o:b≠90):T a≠ZW c:=λg=>by
 have⟨n,i⟩:=Ac j g.s;rw[h] at i
 grind
def WB.all{c a e f p j d k g h}(m:WB c a k)(i:Xo f p j d)(n:d c h)(r:f≠90):d (ZO c (J a e) g) h:=
 i.p (S:=λb=>b=a) n ((Aa.refl (λb=>b=a) c).setCell (p:=(J a e)) (λ_=>X) g) (λb q _ o l=>by
  subst l;rw[m] at o
  grind)
structure OwC(k:ZT)(d h:H)(g:YZ ZY)(ty c e:H)(f b a:ZY)(j i:U ZY):Prop where
 r:ZD k 0 c 1 b (F j) j
 z:ZD k 0 e 1 a (F i) i
 n:ZW b=ZP∨ZW b≠ZW f
 o:ZW a=ZP∨ZW a≠ZW f
 u:ZW a=ZP∨ZW a≠ZW b
 l:T d≠ZW f
 p:T d≠ZW b
 q:T d≠ZW a
 t:g[h]? =T b
 D:g[h+1]? =T a
 ty:ty≠90/\c≠90/\e≠90/\ty≠c/\c≠e
structure tp(j b:ZT)(c:H)(f:YZ ZY)(i h:H)(d:ZY)(g:H)(e:H->U ZY)(a:H):Prop where
 M:ZD b 0 i h d g (e a)
 u:Aa (λa=>a=c∨ZW d=T a) j b
 v:WB b c f
structure OwS(l a:ZT)(b:H)(g:YZ ZY)(k j:H)(f:H->U ZY)(e:ZT->ZY->Prop)(d:ZY)(i h:H)(m:U ZY):Prop where
 n:tn l a k j f e d i h m (λc=>c=b∨ZW d=T c)
 v:WB a b g
structure OwN(f b:ZT)(g:H)(n:YZ ZY)(o p:H)(m:ZT->ZY->Prop)(i j d:ZY)(l h:U ZY)(e:ZY)(c:U ZY):Prop where
 v:WB b g n
 x:ZD b 0 o 1 e (F l+4) (l++c)
 w:ZD b 0 p 1 d (F h) h
 all:∀a∈c,m b a/\∀k,ZW a=T k->ZW i=T k∨B f.1<=k
 u:Aa (λk=>k=g∨ZW i=T k∨ZW j=T k∨ZW d=T k) f b
 D:∀k,ZW e=T k->ZW j=T k∨B f.1<=k
 A:∀a∈c,∀k,ZW a=T k->ZW d≠T k
 G:∀a∈c,∀k,ZW a=T k->ZW e≠T k
 lt:∀a∈c,∀k,ZW a=T k->k<B b.1
section
variable {w W w' z:ZT} {g i ty e f n m j k q u size:H} {y:E} {R r:H->U ZY} {A:ZT->ZY->Prop} {c:YZ ZY} {v h b l s x t G:ZY} {vs d L D p:U ZY} {a:Y0 Addr} {o:Obj}
def OwC.N(k:WB w g c)(m:ZD w 0 ty size v n L)(j:ZD w 0 e 1 h (F vs) vs)(l:ZD w 0 f 1 b (F d) d)(q:ZW b=ZP∨ZW b≠ZW v)(o:c[i]? =T h)(p:c[i+1]? =T b)(a:ty≠90/\e≠90/\f≠90/\ty≠e/\e≠f:=by decide):OwC w g i c ty e f v h b vs d:=
 ⟨j,l,Ap m j a.2.2.2.1,q,Ap j l a.2.2.2.2,k.apart m a.1,k.apart j a.2.1,k.apart l a.2.2.1,o,p,a⟩
def ZbY(j:ZY)(r:H->U ZY)(a:WB w g c)(k:ZD w 0 ty size v n (r 0))(u:ZD w 0 e 1 h (F vs) vs)(t:ZD w 0 f 1 b (F d) d)(s:ZW b=ZP∨ZW b≠ZW v)(p:c[i]? =T h)(q:c[i+1]? =T b)(m:c[12]? =T G)(l:ty≠90/\e≠90/\f≠90/\ty≠e/\e≠f:=by decide)(x:i+1<12:=by decide):K (OwC w g i (YS c 12 j) ty e f v h b vs d)/\K (tp w (ZO w (J g 12) j) g (YS c 12 j) ty size v n r 0)/\ZV w (J g 12)=T G/\(∀o,YT w (J g o)=ZZ)/\ZV (ZO w (J g 12) j) (J g 12)=T j:=by
 refine⟨{(OwC.N a k u t s p q l) with t:=?_,D:=?_},⟨?_,(Aa.refl _ w).setCell (p:=(J g 12)) (λ_=>ZM X) _,a.set _ _⟩,by rw[a.cell];exact m,λo=>a.frozen o,?_⟩
 ·grind
 ·grind
 exact a.M k l.1;rw[(a.set 12 j).cell];grind
def tp.ptr(b:tp w W g c ty size (V a n u) n r k)(i:k<n):∃q,a=T ⟨q,0,ZP⟩:=by
 rcases b.M.2 with⟨_,h⟩|⟨q,d,e,f,_⟩
 omega
 grind
def tp.ab(a:tp w W g c ty 1 (L_ q n u) n (Ta L x) k)(f:n=F L)(e:k<n)(d:T g≠ZW (L_ q n u)):(∃b,ZV W (J q k)=T b)/\(∀o,YT W (J q o)=ZZ)/\K (tp w (ZO W (J q k) x) g c ty 1 (L_ q n u) n (Ta L x) (k+1)):=by refine⟨?_,λo=>World.ownsRow.frozenAt a.M o,?_,a.u.setCell (p:=(J q k)) (λ_=>ZJ X) _,a.v.h (p:=(J q k)) (λb=>d (by rw[b];rfl))⟩;rw[World.ownsRow.cellAt a.M k O];exact⟨_,Qd (by rw[Zj5 O];omega)⟩;rw[<- Zj6 O];exact(World.ownsRow.stored a.M k _).1
def tp.N(a:tp w W g c ty size v n r n)(b:Xo ty size R A)(d:r n=R n)(e:n<=Y2):OwS w W g c ty size R A v n 0 [v]:=
 ⟨.h b (d ▸ a.M) e a.u,a.v⟩
def OwS.P(a:OwS w W g c ty size R A v n j D)(d:Xo ty size R A)(f:T g≠ZW v)(b:K (ZD w' 0 ty size l (n+m) (R n++R m)/\Y3 (ZN W o) w' (ZW v)/\(ZW l=ZW v∨ZW l=T (B W.1+1)/\Below (B W.1+1) (ZN W o) w')/\ZD w' 0 ty size v n (R n)/\∃g e,l=L_ g (n+m) e))(h:j<=m:=by decide)(k:n+m<=Y2:=by unfold maxLen;omega):K (OwS w w' g c ty size R A v n m (D++[l])):=
 ⟨a.n.P d h b (λ_ i=>ZJ i) k,(a.v.alloc _).grown b.2.1 f⟩
def OwC.M(a:OwC w g i c ty e f v h b vs d)(j:OwS w W g c ty size R A v n m p):ZD W 0 e 1 h (F vs) vs/\ZD W 0 f 1 b (F d) d:=
 ⟨j.n.u.M a.r (λk o l=>by have:=a.p;have:=a.n;grind),j.n.u.M a.z (λk o l=>by have:=a.q;have:=a.o;grind)⟩
def OwS.M(z:Xo ty size R A)(j:OwC w g i c ty e f v h b vs d)(a:OwS w W g c ty size R A v n m p)(L:K (w'.ownsRow 0 e 1 l (vs.length+4) (vs++p)/\(W.alloc o).grownBy w' h.ownBlock/\(l.ownBlock=h.ownBlock∨l.ownBlock=some (W.1.size+1)/\Below (W.1.size+1) (W.alloc o) w')/\w'.ownsRow 0 e 1 h vs.length vs/\∃g D,l=L_ g (vs.length+4) D)):w'.cell? (J g i)=some h/\(∀o,w'.frozen? (J g o)=false)/\K (OwN w (w'.setCell (J g i) l) g (c.setIfInBounds i l) e f A v h b vs d l p):=by
 obtain⟨G,y,a2,_,_⟩:=L;have⟨M,N⟩:=j.M a;have x:=((Aa.refl _ _).alloc _).grown y (λk q _=>q);have a7:=x.size;have a8:=a.n.u.size;have u:=(a.v.alloc o).grown y j.p;have⟨P,Q,S,a9,b0⟩:=j.ty;have a3:=j.n;have a6:=j.o;refine⟨(u.cell i).T j.t,u.frozen,u.set _ _,u.M G Q,u.M (World.ownsRow.kept (ra_ N _) y j.u) S,λs r=>⟨u.all z (z.p (a.n.all s r).1 x λk a0 _ a5 q=>?_) P,(a.n.all s r).2.2⟩,?_,λk t=>?_,λs r k t q=>?_,λs r k t q=>?_,λs r k t=>?_⟩
 ·have⟨a1,a4⟩:=Ac M q
  grind
 exact((a.n.u.m (λk _ q=>w_)).T (x.m (λk _ q=>.inr (.inr (.inl q))))).setCell (p:=(J g i)) (λ_=>.inl rfl) _
 ·grind
 ·have:=(B_ j.z k q).2;have:=(a.n.all s r).2.2 k t
  grind
 ·have:=a.n.lt s r k t;have:=(a.n.all s r).2.2 k t;have:=B_ j.r k
  grind
 have:=a.n.lt s r k t;simp[World.setCell];omega
def OwN.cell(a:OwC w g i c ty e f v h b vs d)(k:OwN w W g (YS c i l) e f A v h b vs d l p)(m:i+1=j:=by rfl):ZV W (J g j)=T b:=by subst m;rw[k.v.cell,aH O];exact a.D
def OwN.M(G:Xo ty size R A)(D:OwC w g i (YS c 12 (I y)) ty e f v h b vs d)(a:OwN w W g (YS (YS c 12 (I y)) i l) e f A v h b vs d l p)(N:E_ W z)(a3:F p=4){L:H}{P:Prop}(a1:K (ZD w' 0 f 1 s (F d+4) (d++[t,t,t,t])/\Y3 z w' (ZW b)/\(ZW s=ZW b∨ZW s=T L/\P)/\ZD w' 0 f 1 b (F d) d/\∃g Q,s=L_ g (F d+4) Q))(b1:B W.1<=L:=by first|omega|simp)(a2:i+1=j:=by rfl):ZV w' (J g j)=T b/\(∀o,YT w' (J g o)=ZZ)/\K (ae w (ZO w' (J g j) s) g i c e f A t v h b vs d y l s p):=by
 obtain⟨S,M,b0,_,_⟩:=a1;have x:=((Aa.refl _ _).q N).grown M (λk m _=>m);have b2:=x.size;have b3:=a.u.size;subst a2;have u:=(a.v.q N a.v.lt).grown M D.q;have⟨a4,a5,a6,b4,b5⟩:=D.ty;refine⟨(u.cell _).T (by rw[aH O];exact D.D),u.frozen,u.set _ _,u.M (x.M a.x λk r m=>?_) a5,u.M S a6,a3,λq n=>⟨u.all G (G.p (a.all q n).1 x λk a7 a0 _ m=>a.A q n _ a0 m) a4,(a.all q n).2⟩,?_,a.D,λk r=>?_,λq n k r m=>?_,a.G,λq n k r=>?_⟩
 ·have⟨a0,a8⟩:=Ac a.x r;have⟨a7,a9⟩:=Ac a.w m
  grind
 exact(a.u.T (x.m (λk _ m=>ZJ (ZJ (ZJ m))))).setCell (p:=(J g (i+1))) (λ_=>ZM X) _
 ·grind
 ·have:=a.lt q n k r;have:=a.A q n k r
  grind
 have:=a.lt q n k r;simp[ZO];omega
end
def ZkR(a:E):ZC:=({data:=#[109,97,114,107]}:ZC)++ZB [a%256,a/256%256]
def tp.q{m d e:ZT}{g f k j l i c h}(a:tp m d g f k j l i c h)(b:E_ d e):tp m e g f k j l i c h:=
 ⟨(Aa.a (S:=λ_=>False) b).M a.M (λ_ _=>id),a.u.q b,a.v.q b a.v.lt⟩
def zu j i l {D q} h {r v} a g (W:WB g j i)(R:i[8]? =T D)(S:i[9]? =T q)(Q:i[12]? =T (I a))(z:Bj g 0 l h)(a2:ZD g 0 47 1 D (F r) r)(a1:ZD g 0 9 1 q (F v) v)(a0:ZW q=ZP∨ZW q≠ZW l)(c6:F h<=4194304)(c7:F r<=100000000)(c8:F v<=100000000)(b3:0<=a/\a<=100000000):C_ 143 #[Y7 (T (J j 4)),l] g λd b=>d=ZI (Y5 #[])/\∃a4 a3 e,ae g b j 8 i 47 9 (λc=>Eb c 9 (Q_ (ZkR (a+1)))) (Q_ (ZkR (a+1))) l D q r v (a+1) a4 a3 e:=by
 obtain⟨M,N,rfl⟩:=z.a;have L:K (_=F (h.map YW)):=(length_map _).s;obtain⟨f,d,a7,p,u⟩:=ZbY (I (a+1)) (Ta (h.map YW) (Q_ (ZkR (a+1)))) W (by rw[bc];exact z) a2 a1 a0 R S Q;generalize (F h)=k,h.map YW=a5 at *;obtain⟨c9,d0⟩:=b3;have⟨c,t⟩:=ez_ (ZkR (a+1));rw[t] at d ⊢;clear W z a2 a1 a0 R S Q;have b8:_/2^8=(a+1)/256:=rfl;refine q_ ?_;go_upto_region 1 with fail;generalize (ZO g) (J j 12) (I (a+1))=s at *;clear a7 p
 have b1:(convert 66 9 (L_ (B s.1) 2 2)).run Y8 (YY (ZN s (O_ #[ZX .u8 (IntKind.u8.wrap (a+1)),ZX .u8 (IntKind.u8.wrap ((a+1)/256))] 5)))=.ok (Q_ (ZB [(a+1)%256,(a+1)/256%256])) (YY (ZN s (O_ #[ZX .u8 (IntKind.u8.wrap (a+1)),ZX .u8 (IntKind.u8.wrap ((a+1)/256))] 5))):=by
  have e:∀b:_,IntKind.u8.wrap b=b%256:=λb=>by simp only[wrap,IntKind.bits,signed];simp
  apply Pn _ 0;rw[e,e];exact World.ownsRow.drew (ownsRow_lit (base:=0) (size:=1) (e:=5) _ _ 2 v_ (by unfold Y2;omega) X)
 unfold ZkR at t;have b2:¬9223372036854775807<4+ZK (ZB [(a+1)%256,(a+1)/256%256]):=(by simp[ZB,ZK]);generalize ZB [(a+1)%256,(a+1)/256%256]=d3 at *;go_cut [4] (λl b=>l=YW c/\K (E_ s b))
 case first=>
  refine Af (λb=>ZV b _=T _) 14 k_ u (λhHeld=>?_);refine G_ ?_;refine on_ 11 λKK hK=>?_;go_simp;refine hK _ _ (X_ u) (λhHeld=>?_);clear hK KK;refine G_ ?_;refine on_ 12 λKK hK=>?_;go_simp;refine hK _ _ (X_ u) (λhHeld=>?_);clear hK KK;refine G_ ?_;refine le_ ?_;go_wp2;go_meet
  exact⟨by rw[<- t],(by show Below _ _ _;grind [Below.refl,Below.drew,Below.alloc])⟩
 obtain⟨rfl,G⟩:=hcut;replace d:=Y (d.q G);clear b2 b1 u G t b8;go_upto_region 3 with fail;go_loopw [5] (λb n=>∃e:H,e<=k/\b=ZX ZQ e/\K (tp g n j (YS i 12 (I (a+1))) 9 1 (ZH M k N) k (Ta a5 (YW c)) e)) (λb _=>k-ZL (ZA b))
 case atStart=>exact⟨0,v_,X,d⟩
 clear d;obtain⟨e,c5,rfl,d⟩:=hrel
 by_cases A:e<k
 ·obtain⟨w,rfl⟩:=d.ptr A;have⟨⟨x,n⟩,o,b⟩:=d.ab L A f.l;clear d;refine J_ ?_;exact⟨e+1,A,g_,b⟩
 obtain rfl:e=k:=O;have w:=Y (d.N Eb.b (by rw[L,ba]) (by unfold Y2;omega));clear d;go_wp2_with (at_builtin;refine ap_ [Q_ c] (w.n.M.alloc _) ?_)
 intro d8 s b;have x:=w.P Eb.b (m:=1) f.l b;obtain⟨b9,b4,rfl⟩:=b.2.2.2.2;clear b w;go_wp2_with (at_builtin;refine ap_ [Q_ c,Q_ c] (x.n.M.alloc _) ?_)
 intro d9 d4 b;have y:=x.P Eb.b (m:=2) f.l b;obtain⟨c0,b5,rfl⟩:=b.2.2.2.2;clear b x;go_wp2_with (at_builtin;refine ap_ [Q_ c,Q_ c,Q_ c] (y.n.M.alloc _) ?_)
 intro e0 d5 b;have o:=y.P Eb.b (m:=3) f.l b;obtain⟨c1,b6,rfl⟩:=b.2.2.2.2;clear b y;have a8:=(o.v.cell 8).T f.t;have p:=o.v.frozen;go_wp2_with (at_builtin;refine ap_ [V M e N,L_ b9 (e+1) b4,L_ c0 (e+2) b5,L_ c1 (e+3) b6] ((f.M o).1.alloc _) ?_)
 intro a4 c3 b;have⟨b0,P,n⟩:=o.M Eb.b f b;obtain⟨c2,b7,rfl⟩:=b.2.2.2.2;clear b o a8 p;go_upto_region 10 with fail;generalize (ZO c3) (J j 8) (L_ c2 (F r+4) b7)=d6 at *;have a9:=n.cell f;have p:=n.v.frozen;clear b0 P;go_wp2_with (at_builtin;refine ap_ [Q_ c,Q_ c,Q_ c,Q_ c] (n.w.alloc _) ?_)
 intro a3 d7 b;obtain⟨c4,P,a6⟩:=n.M Eb.b f r_ X b;obtain⟨d2,d1,rfl⟩:=b.2.2.2.2;clear b n a9 p;go_wp2;go_end0;exact⟨X,_,_,_,a6⟩
def Hk(c:H->H)(b:H):H->H
 |0=>0
 |a+1=>Hk c b a+c (b+a)*2^a
def Qz{f}(c:∀d,f d<=1) b:∀a,Hk f b a<2^a
 |0=>by simp[Hk]
 |a+1=>by have:=Qz c b a;have e:f (b+a)*2^a<=_:=aK _ (c _);simp only[Hk,Nat.pow_succ];omega
def Hf(c:H->H)(b a:H):H:=Hk c (8*a) (min 8 (b-8*a))
theorem li{c}(d:∀e,c e<=1) b a:Hf c b a<256:=by have f:=Qz d (8*a) (min 8 (b-8*a));have:(2:H)^(min 8 (b-8*a))<=2^8:=Nat.pow_le_pow_right C O;unfold Hf;omega
def lg b a:Hf b (a+1) (a/8)=Hf b a (a/8)+b a*2^(a%8):=by
 unfold Hf;have c:min 8 (a-8*(a/8))=a%8:=O;have d:min 8 (a+1-8*(a/8))=a%8+1:=O
 grind [Hk]
def lh{b}(d:∀e,b e<=1) a:Hf b a (a/8)<2^(a%8):=by unfold Hf;have c:min 8 (a-8*(a/8))=a%8:=O;rw[c];exact Qz d _ _
theorem Zdy c a {b}(d:b≠a/8):Hf c (a+1) b=Hf c a b:=by grind [Hf]
def Bg(b:H->H)(d a:H):U E:=(range d).map (λc=>(Hf b a c:H))
theorem Dj c a b:F (Bg c a b)=a:=by simp[Bg]
theorem Kj c {d a} b (e:a<d):Z (Bg c d b) a 0=(Hf c b a:H):=by simp[Bg,Z,e]
def oq b a:Bg b a 0=Y6 a 0:=by apply ext_getElem;simp[Bg];intro e c d;simp[Bg,Hf,Hk]
theorem cy b c a:(Bg b c a).set (a/8) (Hf b (a+1) (a/8):H)=Bg b c (a+1):=by
 apply ext_getElem;simp[Bg]
 grind [Bg,Zdy]
def Zw a (b:0<=a)(c:a<2^8):IntKind.u8.wrap a=a:=by simp[wrap,IntKind.bits,signed];omega
def Zdt(a b:H)(c:a<256)(d:b<256):=bits_nat .u8 8 C Zw a b O O
def Zey{x b a}(c:x<2^a):x|||(b*2^a)=x+b*2^a:=by grind [two_pow_add_eq_or_of_lt,Nat.mul_comm]
end Go.Proofs.YtfcgnpchbcmdeaaGreat
