import Derived.Test.YtfcgnpchbcmdeaaGreatZsay
import Derived.Test.YtfcgnpchbcmdeaaGreatZsaz
import Derived.Test.YtfcgnpchbcmdeaaGreatZsba
import Derived.Test.YtfcgnpchbcmdeaaGreatZsbb
open List renaming length->F,getD->Z,take->ZU,drop->ZF,replicate->Y6
open _root_ renaming Nat->H,Int->E,List->U,ByteArray->ZC,rfl->X,Bool->ZG,Option->Y0,Array->YZ,Int->Z5
open Go.Value renaming int->ZX,tuple->Y5,string->YW,bool->ZR,agg->Y9,slice->ZH,ownBlock->ZW,pointer->Y7
open Go.IntKind renaming i64->ZQ
open Go renaming strOfNums->ZB,Value->ZY,World->ZT
open Bool renaming false->ZZ,true->Z0
open ByteArray renaming size->ZK
open Decidable renaming decide->ZE
open Int renaming toNat->ZL
open Array renaming toList->Y4,size->B,size->Z3
open Or renaming inl->ZM,inr->ZJ
open Option renaming some->T,none->ZP
open Go.World renaming cell?->ZV,frozen?->YT,ownsRow->ZD,setCell->ZO,alloc->ZN,drewN->Y1,grownBy->Y3,drew->YY
open Go.Ending renaming returned->ZI
open Go.Proofs renaming intOf->ZA
open Go.Obj renaming cells->YU
namespace Go.Proofs.YtfcgnpchbcmdeaaGreat
set_option linter.all false
set_option maxRecDepth 100000
set_option maxHeartbeats 32000000
open Go.RowKit List Nat Go.World Go.Proofs.Tryz Go.Value Go.IntKind Go.Lib Go.Region
def Kw.f{c a}(_:Kw c a){b}(d:b<F a.f):Z a.f b Df∈a.f:=w_
def yq{s b e x a0 W a1 Q z l a r}(h:Ph r s a0 W a1 Q z l a)(c:Kw x a)(L:b<F a.g)(P:e<x):C_ 78 #[P_ s,I e,I b] r (U_ (ZX ZQ (Tk a l b (De a b) (Iy a b) e:H)) r):=by
 have k:=c.a L;have i:=c.f k.h;have j:=c.j _ i;have a3:=c.h _ i;have q:e<F (Z a.f (De a b) Df).N:=j.y ▸ P;have D:Z (Z a.f (De a b) Df).N e 0<=(Z a.f (De a b) Df).g:=(by rw[Qc,Qd q];exact j.k _ (Qf _));have w:F l<=1000000:=by rw[h.n.length_eq];have:=c.u;omega
 have v:Lv a (De a b) (Iy a b)<=100000:=by
  have o:=Zal (ZU (Iy a b) ((Z a.f _ _).fs)) (λd f=>aG (c.q d (c.n _ i d (aL f))) C);have d:=c.r _ i
  grind [Lv]
 have N:=c.w;have u:F a.f<=1000:=p_ c.l;have⟨_,G⟩:=h.v.v.j (De a b) k.h
 rcases G with⟨_,R,m,a5,a6,n,_,d⟩|⟨_,R,m,a2,y,n,_,d⟩
 subst n;refine sj h k u w O v m (λf g=>?_);have p:ku f 0 _ _ _ _ _:=⟨(g.block _ (Qb d.r).1).T d.r,(Aa.a (S:=λ_=>False) g).M d.M (λ_ _=>id)⟩;exact Ri _ _ f p q (p_ j.y);subst n;have t:Lib.bitLen (Z a.f (De a b) Df).g<=6:=Gj O;have A:=Nat.lt_of_le_of_lt D (Ml O);refine zm h k u w O v m (λf g=>?_);have M:e*Lib.bitLen (Z a.f (De a b) Df).g+Lib.bitLen (Z a.f (De a b) Df).g<=F (Z a.f (De a b) Df).N*Lib.bitLen (Z a.f (De a b) Df).g:=by rw[<- succ_mul];exact aK _ q
 have a4:F (Z a.f _ _).N*_<=_:=Nat.mul_le_mul (j.y ▸ N) t;have p:Oo f 0 _ y _ _ _:=⟨(g.block _ (Qb d.r).1).T d.r,(Aa.a (S:=λ_=>False) g).M d.M (λ_ _=>id)⟩;have o:=Oe _ y _ _ _ _ f p (λS=>Jf _ _ S) t M O O;rw[ZgT A] at o;exact o
def zg{h n c g l b e d}(o:Pi e h n b)(a:Kw l b)(j:c<F b.g)(k:g<l)(q:d.Perm b.r)(r:Em d):C_ 44 #[P_ h,I g,I c] e (U_ (Y5 #[ZX ZQ (Tk b d c (De b c) (Iy b c) g:H),ZX ZQ 0]) e):=by have i:=(a.j _ (a.f a.k)).y;refine Zbp c e o a.k (p_ a.i) (i ▸ k) (by rw[i];have:=a.w;omega) j (λs p=>?_);have⟨w,v,x,u,t,m,f⟩:=p.g;obtain rfl:d=m:=Xc a.v q r f.n f.l;exact yq f a j k
def Zd8{d g f c b}(h:Pi b d g c)(a:Kw f c):C_ 26 #[P_ d] b (U_ (ZX ZQ f) b):=by have e:=Zhr h a.k;rw[(a.j _ (a.f a.k)).y] at e;exact e
def sd{d e i b c}(h:Pi c d e b)(a:Kw i b):C_ 55 #[P_ d] c λg j=>Zoe c b g j:=
 zf d e b c h a.k (p_ a.l) (λk f=>⟨a.o _ (a.f f),p_ (a.r _ (a.f f))⟩)
def ze f e b i a g (h:Pi g f e a)(c:Kw i a)(d:b<F a.g):=
 Zbo f e b a g h (p_ c.i) d (c.x b d).1 (c.x b d).2
def Ec(b:U E):Prop:=∀a∈b,0<=a/\a<256
def Ec.nil:Ec []:=by intro b a;simp at a
theorem Ec.append{b c}(e:Ec b)(f:Ec c):Ec (b++c):=λd g=>by
 rcases mem_append.1 g with a|a
 exact e d a;exact f d a
theorem Ec.cons{x a}(d:0<=x/\x<256)(b:Ec a):Ec (x::a):=λf e=>by
 rcases mem_cons.1 e with rfl|c
 exact d;exact b f c
theorem Ec.a{g:Type}{c}{b:U g}(d:∀x∈b,Ec (c x)):Ec (b.flatMap c):=λf a=>by have⟨x,e,a⟩:=mem_flatMap.1 a;exact d x e f a
def cm{x:E}:0<=x%256/\x%256<256:=O
theorem js b:∀a,Ec (Ba b a)
 |0=>Ec.nil
 |a+1=>by unfold Ba;exact(js b a).append (Ec.cons (cm) Ec.nil)
theorem ZgW b:Ec (Ab b):=λd a=>by unfold Ab at a;obtain⟨c,_,rfl⟩:=mem_map.1 a;have:=c.toNat_lt;omega
theorem Zk7{a}(e:∀d,a d<=1) c b:Ec (Bg a c b):=λg f=>by grind [Bg,li]
theorem Zlz{b}:∀a,Ec (Sd b a)
 |0=>by unfold Sd;exact Ec.nil
 |a+1=>by unfold Sd;exact(Zlz a).append (Ec.cons (cm) (Ec.cons (cm) Ec.nil))
theorem ZmA a b:Ec (Ia a b):=by
 unfold Ia;split
 ·grind [Sj,Ec.cons,Zlz]
 grind [Ec.cons,Zk7,Jf]
theorem Zoq a:Ec (Sr a):=λc b=>by grind [Sr]
theorem Zmu a:Ec (Dq a):=by grind [Dq,Ec.append,Ec.cons,Zoq,ZmA]
theorem ZoP a:Ec (Ll a):=by
 unfold Ll;split
 ·unfold ng Lw
  grind [Ec.cons,Ec.a,ZgW]
 unfold knB Lr
 grind [Ec.cons,Ec.a,js]
theorem Zqp x:Ec (xB x):=Ec.cons (cm) (Ec.cons (cm) (Ec.cons (cm) Ec.nil))
def jx a b:Ec (Hv a b):=by
 unfold Hv
 grind [Ec.append,Ec.a,ZoP,Zmu,js,Zqp,Ec.cons]
def Kw.t{m e}(b:Kw m e):∀a∈e.f,ZaF a:=λa c=>by
 have d:=b.j a c;have o:=b.h a c;have p:=b.r a c;have i:=b.w;have q:=b.i;have j:Lib.bitLen a.g<=6:=Gj O;have s:F a.N*_<=_:=Nat.mul_le_mul (d.y ▸ i) j;have u:=Mi a.N (F a.N);have t:=Dj (Cf a.N (Lib.bitLen a.g)) ((F a.N*Lib.bitLen a.g+7)/8) (F a.N*Lib.bitLen a.g);have r:=d.y;refine⟨O,λh k=>p_ (b.n a c h k),⟨O,λn l=>?_⟩,O,?_⟩
 ·have⟨f,g,_⟩:=(Rf _ _ n).1 l;refine⟨O,?_⟩;rw[g,Qc,Qd f];have:=d.k _ (Qf f)
  grind
 grind [Dq,Sr,Ia,Sj,Om]
def fj f j m a e (g:Pi e f j a)(b:Kw m a)(k:∀K∈a.g,Xl K) c (h:c.Perm a.r)(l:Em c):C_ 34 #[P_ f] e (U_ (YW (ZB (Br a c))) e):=by have⟨q,p,r,o,n,i,d⟩:=g.g;obtain rfl:c=i:=Xc b.v h l d.n d.l;exact Zd6 g.f d b.k k b.i b.t b.l (by rw[h.length_eq];have:=b.u;omega) (jx a c)
def gi{S:E->Prop}{e}(l:2<=e)(r:e<=32):∀{f a},Gt f->Bc a->F a<=32->Aw f+Ae a<=1000000000000->(∀c∈f,∀b∈c,S b.v)->(∀b∈a,S b.v)->∀c∈Av e f a,∀b∈c,S b.v
 |[],a,_,_,_,_,_,m=>by simpa [Av] using m
 | g::t,a,h,n,v,s,q,m=>by
  have p:=h.j g s_;have k:Gt t:=⟨λi d=>h.j i (by simp[d]),λi d=>h.y i (by simp[d])⟩;have y:=Gb k.j;simp only[Aw] at s;simp only[Av];split
  ·grind
  have j:=Fy p n O;have o:=j.e (Ge j e);have z:Ae (Ep (Bf g a) e)=Ae g+Ae a:=(by rw[Gn,Fc]);have x:=Jh (Bf g a) l;have w:=gi (S:=S) l r k o O O (λc d=>q c (by simp[d])) (λb u=>by grind [Wt,Ge])
  grind
def Ziz{e:E->Prop}{a d}(n:∀c∈a,e c/\ -1000000000<=c/\c<=1000000000):∀b∈Ko a d,e b.v:=λb h=>by
 have j:=Tw (Ao a d);have⟨l,i,o,_⟩:=(Uv (gf (Ao a d)) 0).1 b h;have⟨q,f,m⟩:=j.e l i;unfold Ao at f;obtain⟨g,k,rfl⟩:=mem_map.1 f;have p:=(of_mem_zip (a:=g.1) (b:=g.2) k).1
 grind [Ey]
def Xv{h:E->Prop}{b}(o:2<=b)(p:b<=32):∀j d a f,Gt d->Aw d+1000*F a<=1000000000000->F a<=2097152->(∀g∈d,∀i∈g,h i.v)->(∀c∈a,h c/\ -1000000000<=c/\c<=1000000000)->∀g∈Dv b j d a f,∀i∈g,h i.v
 |0,d,a,f,_,_,_,e,_=>by simp only[Dv];exact e
 |j+1,d,a,f,l,u,r,e,n=>by simp only[Dv];split;exact e;have m:=kc (vs:=ZU b a) (ws:=ZU b f) t_;have s:F (ZU b a)+F (ZF b a)=F a:=t_;have t:F (ZU b a)<=b:=t_;have⟨q,v⟩:=Va (size:=(b:E)) O O l m.1 O O;refine Xv o p j _ _ _ q O O ?_ (λc k=>n c (mem_of_mem_drop k));exact gi O O l m.1 O O e (Ziz (λc k=>n c (aL k)))
def Yl{h:E->Prop}{f}(m:2<=f)(s:f<=32):∀d a,Gt d->Bc a->F a<=32->Ae a+Aw d<=1000000000000->(∀g∈d,∀b∈g,h b.v)->(∀b∈a,h b.v)->∀b∈Fw f a d,h b.v
 |[],a,_,_,_,_,_,n=>n
 |e::o,a,i,p,u,t,r,n=>by have q:=i.j e s_;have l:Gt o:=⟨λj c=>i.j j (by simp[c]),λj c=>i.y j (by simp[c])⟩;have w:=Gb l.j;simp only[Aw] at t;have k:=Fy p q O;have v:=Jh (Bf a e) m;have x:Ae (Ep (Bf a e) f)=Ae a+Ae e:=(by rw[Gn,Fc]);simp only[Fw];exact Yl m s o _ l (k.e (Ge k _)) O O (λg c=>r g (by simp[c])) (λb g=>by grind [Wt,Ge])
def sf{S:E->Prop}{b}(e:2<=b)(f:b<=32){a g}(d:F a<=2097152)(k:∀c∈a,S c/\ -1000000000<=c/\c<=1000000000):∀h∈Dw b a g,S h.v:=by have⟨i,j⟩:=Wn e f (F a) [] a g Gt.nil (by simp[Aw];omega) d;exact Yl O O _ _ i Bc.nil s_ (by simp[Ae,Aw] at j ⊢;omega) (Xv e f _ _ _ _ Gt.nil (by simp[Aw];omega) d s_ k) s_
theorem cj:∀(c:U VS) (d:U E) (b:E×E),b∈Bd c d->∃e∈c,e.a=ZZ/\e.num=b.1
 |[],_,b,a=>by simp[Bd] at a
 |_::_,[],b,a=>by simp[Bd] at a
 | e ::c,j::d,b,a=>by
  simp only[Bd] at a;split at a
  ·have⟨h,g,f⟩:=cj c d b a
   grind
  rename_i i
  rcases mem_cons.1 a with rfl|a
  ·grind
  have⟨h,g,f⟩:=cj c d b a
  grind
theorem fp{b d g c}(o:F b<=200)(l:2<=c)(m:c<=32)(p:∀a∈b,-1000000000<=a.num/\a.num<=1000000000):∀f∈Fb b d g c,∃a∈b,a.a=ZZ/\a.num=f:=λf e=>by
 have k:F ((Bd b d).map Prod.fst)<=2097152:=(by have:=Ki b d;simp;omega);unfold Fb at e;have i:=(ey).subset e;obtain⟨h,j,rfl⟩:=mem_map.1 i;refine sf (S:=λn=>∃a∈b,a.a=ZZ/\a.num=n) l m k (λa n=>?_) h (aL j)
 grind [cj]
theorem ZkM{d m i h}:∀g∈(Ra d m i h).c,∃f∈d,f.a=ZZ/\f.f=g:=λg c=>by
 unfold Ra at c;simp only at c;obtain⟨n,l,rfl⟩:=mem_map.1 c;have j:=(mem_mergeSort).1 (aL l);have e:=((Ww).1 j).1;unfold Vm at e;have⟨a,k,b⟩:=any_eq_true.1 e;unfold Tf at b;simp only[Bool.and_eq_true,Bool.not_eq_true',decide_eq_true_eq] at b;refine⟨a.1,(of_mem_zip (a:=a.1) (b:=a.2) k).1,b.1,?_⟩
 cases q:a.1.f with
 | mk o=>
  cases r:n.a with
  | mk p=>
   grind [Array.toList_inj]
def ZkC{e f b c g a h}(i:F a<=200)(m:2<=c)(n:c<=32)(j:2<=b)(k:b<=16)(l:∀d∈a,(-1000000000<=d.num/\d.num<=1000000000)/\ZK d.f<=8):Xl ⟨Cp Ra e f b c a h,g⟩:=by
 cases e
 ·left
  grind [Cp,uw,fp]
 right
 grind [Cp,Ra,ZkM]
def Wp(a:U VS)(c:U E)(b:E):U WS:=(Nh (a.zip c) b).mergeSort λd e=>ZE (leW d e)
def Zq1 a d c b:(Ra a d c b).c=(ZU (ZL b) (Wp a d c)).map WS.a:=rfl
def Zbf b d c:(Wp b d c).Pairwise leW:=by have a:=pairwise_mergeSort (le:=λe f=>ZE (leW e f)) (λe f i g h=>aF (uv (of_decide_eq_true g) (of_decide_eq_true h))) (λe f=>w_) (Nh (b.zip d) c);exact a.imp (λa=>of_decide_eq_true a)
def ZkO{a b c x}:x∈Wp a b c↔Vm (a.zip b) (Y4 x.a.data)=Z0/\x.g=Lk (a.zip b) (Y4 x.a.data)/\c<=x.g:=by unfold Wp;rw[mem_mergeSort];exact Ww
def ZdO a c b:(Wp a c b).Nodup:=((mergeSort_perm _ _).nodup_iff).2 (Yq)
theorem pn{b c:ZC}:Y4 b.data=Y4 c.data↔b=c:=by
 constructor
 ·intro a
  cases b;cases c
  simp at a;rw[a]
 intro a;rw[a]
theorem Zku a b:Tf a (Y4 b.data)=(!a.a&&ZE (a.f=b)):=by grind [Tf,pn]
def ZlU:∀(a:U (E×U VS)) (b:H) (c:ZC),Ua a b c=Lk ((Bn a b).zip (Jp a)) (Y4 c.data)
  |[],_,_=>X
  | e::a,b,c=>by
    have d:=ZlU a b c
    grind [Lk,Bn,Jp,Zku,Ua]
abbrev lj(b:U ZC)(c:ZC->E)(d:E)(a:VS):Prop:=a.a=ZZ/\containsS b a.f=ZZ/\d<=c a.f
abbrev Zfy(c:ZC->E)(a:ZC×E)(b:VS):Prop:=a.2<c b.f∨c b.f=a.2/\Jx b.f a.1
def pkS(d:U ZC)(b:ZC->E)(e:E)(c:ZC×E)(a:VS):ZC×E:=if lj d b e a/\Zfy b c a then(a.f,b a.f) else c
def pkF(a:U ZC)(b:ZC->E)(c:E)(d:U VS):ZC×E:=d.foldl (pkS a b c) (⟨#[]⟩,0)
def Zb3 a b c e d:pkF a b c (e++[d])=pkS a b c (pkF a b c e) d:=by
 unfold pkF
 grind
def Zla d b {e}(i:1<=e):∀g c,F c=g->(pkF d b e c=(⟨#[]⟩,0)/\∀a∈c,¬lj d b e a)∨((∃a∈c,lj d b e a/\pkF d b e c=(a.f,b a.f))/\∀a∈c,lj d b e a->¬Zfy b (pkF d b e c) a)
 |0,c,f=>by obtain rfl:=eq_nil_of_length_eq_zero f;exact ZM ⟨X,s_⟩
 | g+1,c,f=>by
  obtain⟨h,a,rfl⟩:∃h a,c=h++[a]:=⟨c.dropLast,c.getLast w_,(dropLast_concat_getLast _).s⟩;have k:=Zla d b i g _ (by simpa using f);rw[Zb3]
  by_cases j:lj d b e a/\Zfy b (pkF d b e h) a
  ·grind [pkS]
  grind [pkS]
section
variable {L:U (E×U VS)} {i:H} {ct:E}
def Zgg{x}:x∈Wp (Bn L i) (Jp L) ct↔(∃a∈Bn L i,a.a=ZZ/\a.f=x.a)/\x.g=Ua L i x.a/\ct<=x.g:=by
 rw[ZkO,ZlU];refine and_congr_left λ_=>?_;unfold Vm;rw[any_eq_true];constructor;rintro⟨c,b,a⟩;simp only[Tf,Bool.and_eq_true,Bool.not_eq_true',decide_eq_true_eq,pn] at a;exact⟨c.1,(of_mem_zip b).1,a⟩;rintro⟨a,d,e,f⟩;obtain⟨b,c,rfl⟩:=aM d;refine⟨((Bn L i)[b],(Jp L)[b]'(by simpa [Bn,Jp] using c)),?_,?_⟩
 ·grind [Bn,Jp]
 grind [Tf]
def ZhY(p:1<=ct){a}(w:a<=F (Wp (Bn L i) (Jp L) ct)):pkF ((ZU a (Wp (Bn L i) (Jp L) ct)).map WS.a) (Ua L i) ct (Bn L i)=if d:a<F (Wp (Bn L i) (Jp L) ct) then((Wp (Bn L i) (Jp L) ct)[a].a,(Wp (Bn L i) (Jp L) ct)[a].g) else(⟨#[]⟩,0):=by
 have y:=Zbf (Bn L i) (Jp L) ct;have t:=ZdO (Bn L i) (Jp L) ct;have j:∀o,o∈Wp (Bn L i) _ ct↔_:=λo=>Zgg;generalize Wp (Bn L i) (Jp L) ct=b at *
 have q:∀d,b[a].a ∉ (ZU a b).map WS.a:=λd r=>by
  have⟨m,l,g⟩:=mem_map.1 r;obtain⟨f,n,rfl⟩:=aM l;rw[length_take] at n;rw[getElem_take] at g;have c:=((j b[f]).1 (Qf _)).2.1;have e:=((j b[a]).1 (Qf _)).2.1
  have:b[f]=b[a]:=by
   cases k:b[f];cases h:b[a]
   rw[k,h] at g;rw[k] at c;rw[h] at e;simp only at g c e;rw[c,e,g]
  have:=(getElem_inj t).1 this;omega
 have v:∀d,∃c∈Bn L i,lj ((ZU a b).map WS.a) (Ua L i) ct c/\c.f=b[a].a:=λd=>by have⟨⟨c,l,e,h⟩,m,f⟩:=(j b[a]).1 (Qf _);exact⟨c,l,⟨e,by rw[h,<- Bool.not_eq_true,containsS_iff];exact q d,w_⟩,h⟩
 rcases Zla ((ZU a b).map WS.a) (Ua L i) p _ (Bn L i) X with⟨e,h⟩|⟨⟨c,l,e,m⟩,h⟩
 ·grind
 have k:⟨c.f,Ua L i c.f⟩∈b:=(j _).2 ⟨⟨c,l,e.1,X⟩,X,e.2.2⟩;have⟨f,n,u⟩:=aM k
 have x:a<=f:=by
  apply Nat.le_of_not_lt;intro d;have g:=e.2.1;rw[<- Bool.not_eq_true,containsS_iff] at g
  grind [mem_iff_getElem]
 have s:a<F b:=O;rw[dif_pos s,m]
 by_cases g:a=f
 ·grind
 grind [pairwise_iff_getElem,Yv]
end
def jb(e:ZT)(a:H)(f:ZG)(c d:ZY)(b:E):Prop:=e.1[a]? =T (O_ #[ZR f,c,d,I b] 227)
def jb.cells{b a h f g e}(c:jb b a h f g e):(ZV b (J a 0)=T (ZR h)/\ZV b (J a 1)=T f/\ZV b (J a 2)=T g/\ZV b (J a 3)=T (I e))/\(∀d,YT b (J a d)=ZZ)/\a<B b.1:=
 ⟨⟨M_ 0 _ 227 (0,0) c,M_ 1 _ 227 (0,0) c,M_ 2 _ 227 (0,0) c,M_ 3 _ 227 (0,0) c⟩,λd=>R_ d _ 227 c,(Qb c).1⟩
def Bj.add{d b c a}{x:ZC}(e:ZD d b 9 1 c (F a+1) (a.map YW++[Q_ x])):Bj d b c (a++[x]):=by
 unfold Bj
 simpa using e
def lq(b:ZT)(a:H):H:=(ZV b (J a 2)).elim 0 Zej
structure WdI(i g a:ZT)(d b)(e)(f)(c):Prop where
 r:jb a d Z0 (N_) (V e b f) 0
 D:Bj a (B g.1) (V e b f) c
 y:F c=b
 u:Aa (λh=>h=d) g a
def WdI.q{j k d e f i h g c}(a:WdI j k d f i g h c)(b:E_ d e):WdI j k e f i g h c:=⟨(b.block _ a.r.cells.2.2).T a.r,a.D.q b,a.y,a.u.q b⟩
def Zjz{p:Prop}(h:p:=by
 have⟨⟨W,N,Q,b7⟩,_,_⟩:=j.r.cells;have g:jb _ _ _ _ _ 0:=j.u.g t.2.2 O;have⟨⟨a7,a8,b0,b2⟩,n,_⟩:=g.cells;have b5:=n 0;have c4:=n 1;have a4:=n 2;have c5:=n 3;have z:=t.1.T (j.u.b t.1.size (λb1 a0=>O));have l:K (jb wr (B d.1+1) ZZ (N_) (N_) 0/\Bj wr (B d.1) (V q c r) s/\E_ d wr):=(by refine⟨g,?_,z⟩;rw[<- y];exact j.D.c t.1.size);have D:c=F s:=(by rw[<- y];exact j.y.s);clear j g n z o;subst D;go_wp2;apply bodyPost_ret (v:=Y9 #[ZR Z0,N_,V q (F s) r,I 0]) (by simp[results,results238,go_sem, *]) X;have A:=Aa.h wr (B d.1+1) (ZR Z0) (N_) (V q (F s) r) (I 0)
 exact⟨q,r,X,A.M l.2.1 (λc u i=>Ag l.2.1 u l.1 C i),l.2.2.T (A.b l.2.2.size (λc u=>O))⟩):p:=h
def ZeO d3 w v d7 b m a2 a3 f M R a d (h:Xq d d3 w v a)(e5:b<v)(e6:kt a)(i1:w<=200)(h7:2<=m)(h8:m<=16)(e2:D_ d M (b*3+2) (I f))(g1:1<=f):C_ 238 #[Y9 #[L_ M v R,I m,I a2,I a3],V d3 w d7,I b] d λi g=>∃c e,i=ZI (Y9 #[ZR Z0,ZH ZP 0 0,ZH c (F (Ra (Bn a b) (Jp a) f m).c) e,ZX ZQ 0])/\Bj g (B d.1) (V c (F (Ra (Bn a b) (Jp a) f m).c) e) (Ra (Bn a b) (Jp a) f m).c/\E_ d g:=by
 have d0:=Y h;have f0:∀e∈a,0<=e.1/\e.1<=99:=λe g4=>p_ (e6 e g4).1;have⟨f5,b4⟩:=Y_ f0 h.1;have⟨s,b8⟩:=ez_ ((Ra (Bn a b) (Jp a) f m).c);rw[b8.out];have b3:K (s=(ZU _ (Wp _ _ _)).map _):=b8.out.s;have c8:K (∀c,c<=_->_):=λc u=>ZhY (L:=a) (i:=b) g1 u;have⟨p,b9⟩:=Z_ (Wp (Bn a b) (Jp a) f);rw[b9] at b3 c8
 have f4:K (∀L∈p,_):=λL a9=>by rw[<- b9] at a9;exact((Zgg.1 a9).2.2)
 have⟨x,a1⟩:=W_ (ZN (ZN (ZN d (O_ #[L_ M v R,I m,I a2,I a3] 37)) (O_ #[ZR ZZ,N_,N_,I 0] 227)) (O_ #[ZR Z0,N_,N_,I 0] 227));have d8:E_ d x:=a1 ▸ ((r_.alloc s_ _).alloc t_ _);have g5:B x.1=B d.1+1+1+1:=by rw[a1];simp
 have a6:H_ x (B d.1) #[L_ M v R,I m,I a2,I a3] 37/\jb x (B d.1+1) ZZ (N_) (N_) 0/\jb x (B d.1+1+1) Z0 (N_) (N_) 0:=by
  rw[a1];refine⟨?_,?_,?_⟩;exact((hc_ t_).T (hc_ s_)).T hn_;exact(hc_ s_).T (by have i:=ha_ (ZN d (O_ #[L_ M v R,I m,I a2,I a3] 37)) (O_ #[ZR ZZ,N_,N_,I 0] 227);simpa using i);have i:=ha_ (ZN (ZN d (O_ #[L_ M v R,I m,I a2,I a3] 37)) (O_ #[ZR ZZ,N_,N_,I 0] 227)) (O_ #[ZR Z0,N_,N_,I 0] 227)
  simpa [jb] using i
 have t:=x3_ d8 a6.1 a6.2.1;have c6:K (WdI d _ _ _ 0 _ 0 _):=⟨a6.2.2,Bj.nil,X,Aa.refl _ _⟩;have d1:=Y a1;have e4:=aJ _ _ e2;simp only at e4;clear h e6 f0 b8 a1 d8 g5 a6 e4 b9;refine q_ ?_;go_upto_region 2 with fail;rw[<- d1];clear d1;go_loopw [8] (λ_ g=>∃(c:H) (q:Y0 Addr) (r:H),c<=F p/\(c:E)<=m/\K (WdI d x g (B d.1+1+1) c q r ((ZU c p).map WS.a))) (λ_ g=>ZL m-lq g (B d.1+1+1))
 exact⟨0,ZP,0,v_,O,c6⟩;clear c6;obtain⟨c,q,r,g3,i0,o⟩:=hrel;have⟨⟨f7,f8,b6,f9⟩,_,h9⟩:=o.r.cells;have c0:=o.u.g t.2.1 O;have g9:=n_ 0 c0;have i5:=n_ 1 c0;have e1:=t.1.T (o.u.b t.1.size (λb1 a0=>O));clear c0
 by_cases g2:(c:E)<m
 ·have ⟨f2, g6⟩:=W_ wr;subst g6;have⟨k,a5⟩:=Z_ ((ZU c p).map WS.a);have c7:K (pkF k (Ua a b) f (Bn a b)=if h:c<F p then(p[c].a,p[c].g) else(⟨#[]⟩,0)):=(by rw[<- a5];exact c8 c g3);have c9:=Y a5;rw[a5] at o;clear a5;go_wp2_with fail
  go_loopw [8,9,10] (λi j g l=>∃e:H,g=ZX ZQ e/\e<=w/\i=YW (pkF k (Ua a b) f (ZU e (Bn a b))).1/\j=ZX ZQ (pkF k (Ua a b) f (ZU e (Bn a b))).2/\E_ f2 l) (λ_ _ g _=>w-ZL (ZA g))
  exact⟨0,X,v_,X,X,y_⟩;obtain⟨e,rfl,i2,rfl,rfl,P⟩:=hrel;have S:=e1.T (P.m e1.size)
  by_cases c1:e<w
  ·rcases(d0.q S).2 with h6|⟨b1,rfl,a0⟩
   omega;have⟨_,h5,h2,f6,_,d9⟩:=a0 e c1;have⟨d4,d5,d6⟩:=d9 b e5;have e3:e<F (Bn a b):=by unfold Bn;rw[length_map,b4];exact c1
   have e7:pkF k (Ua a b) f (ZU (e+1) (Bn a b))=pkS k (Ua a b) f (pkF k (Ua a b) f (ZU e (Bn a b))) (Z (Z a e oy).2 b Ax):=by have g:e<F a:=b4 ▸ c1;rw[qn e3,Zb3];congr 1;simp[Bn,Z,g]
   have a4:=Y e7;clear a0 d9 e7 e3;generalize (Z (Z a e oy).2) b Ax=L at *;generalize pkF k (Ua a b) f (ZU e (Bn a b))=g8 at *;obtain⟨Q,f3,g⟩:=L;obtain⟨n,l⟩:=g8;simp only at d4 d5 d6 ⊢;have h0:=F_ e w;have h1:=F_ b v;have c4:=Ah P b6;have⟨c5,b0⟩:=W_ (ZN wr (O_ #[ZR Q,I f3,Q_ g] 335));have a8:E_ wr c5:=b0 ▸ r_;have c3:H_ c5 (B wr.1) #[ZR Q,I f3,Q_ g] 335:=b0 ▸ hn_;have i6:=n_ 0 c3;have i7:=n_ 2 c3;have i9:=Ah a8 c4;have d2:=Y b0;have a7:=P.T (a8.m P.size);clear b0 c3;go_upto_region 9 with fail;rw[<- d2];clear d2 f6 d4 d5 d6;go_wp2_with fail
   apply (Zcb (B x.1) c r q k g ((o.q a7).D) o.y O).m;rintro i i3 ⟨rfl,e8⟩;obtain rfl:=e8.s;clear e8;have⟨b2,c2⟩:=Z_ (containsS k g);rw[c2];have b5:=Y c2;clear c2
   by_cases W:Q=Z0∨b2=Z0
   ·have y:K (pkF k (Ua a b) f (ZU (e+1) (Bn a b))=(n,l)):=by
     show _=_;rw[a4];refine aC (λh=>?_);have A:=h.1.1;have D:=h.1.2.1;simp only[b5.out] at A D
     rcases W with i|i
     rw[i] at A;cases A;rw[i] at D;cases D
    clear a4
    cases Q<;>cases b2
    ·rcases W with i|i<;>cases i
    all_goals
     go_wp2;go_roundw;exact⟨e+1,g_,O,by rw[y],by rw[y],a7⟩;exact z_
   obtain⟨rfl,rfl⟩:Q=ZZ/\b2=ZZ:=⟨by cases Q;rfl;exact absurd (ZM X) W,by cases b2;rfl;exact absurd (ZJ X) W⟩;clear W;go_wp2_with fail
   apply (Zcj (T (J b1 0)) w v d7 b a g (d0.q (S.T (a8.m S.size))) e5 f5 O).m;rintro i i4 ⟨rfl,f1,e9⟩;obtain rfl:=e9.s;clear e9;have y:K (pkF k (Ua a b) f (ZU (e+1) (Bn a b))=if f<=Ua a b g/\(l<Ua a b g∨Ua a b g=l/\Jx g n) then(g,Ua a b g) else(n,l)):=(by show _=_;rw[a4];unfold pkS lj Zfy;simp only[b5.out,true_and]);have g7:=S.T (a8.m S.size);have h3:=Ah a7 g9;have h4:=Ah g7 e2;have e0:=below_drewN a7 f1;clear a4 b5;generalize Ua a b g=j at *;go_upto_region 12 with fail;go_cut [73] (λz A=>z=ZR (ZE (f<=j/\(l<j∨j=l/\Jx g n)))/\A=Y1 c5 f1)
   case first=>
    by_cases A:f<=j
    ·by_cases D:l<j
     ·go_wp2;go_meet
      exact⟨by rw[aF (p:=_/\_) ⟨A,ZM D⟩],X⟩
     by_cases G:j=l
     ·have b7:=beq_iff_eq.2 G
      by_cases N:Jx g n
      ·have g0:Op.bytesLess g.toList n.toList=Z0:=(by rw[zk];exact aF N);have z:K (_/\(l<j∨_/\_)):=⟨A,ZJ ⟨G,N⟩⟩;clear G N;go_wp2;go_meet
       exact⟨by rw[aF z.out],X⟩
      have g0:Op.bytesLess g.toList n.toList=ZZ:=by rw[zk];exact aE N
      have z:K (¬(f<=j/\(l<j∨j=l/\Jx g n))):=λh=>by rcases h.2 with h|h;exact D h;exact N h.2
      clear G N;go_wp2;go_meet
      exact⟨by rw[aE z],X⟩
     have b7:=aO G
     have z:K (¬(f<=j/\(l<j∨j=l/\Jx g n))):=λh=>by rcases h.2 with h|h;exact D h;exact G h.1
     clear G;go_wp2;go_meet
     exact⟨by rw[aE z],X⟩
    have z:K (¬(_/\(l<j∨j=l/\Jx g n))):=λh=>A h.1;go_wp2;go_meet
    exact⟨by rw[aE z],X⟩
   obtain⟨rfl,D⟩:=hcut;obtain rfl:=D.s;clear D
   by_cases z:f<=j/\(l<j∨j=l/\Jx g n)
   ·rw[aF z];have A:K (pkF k (Ua a b) f (ZU (e+1) (Bn a b))=(g,j)):=(by show _=_;rw[y,aD z]);clear z y;go_wp2;go_roundw;exact⟨e+1,g_,O,by rw[A],by rw[A],e0⟩;exact z_
   rw[aE z];have A:K (pkF k (Ua a b) f (ZU (e+1) (Bn a b))=(n,l)):=(by show _=_;rw[y,aC z]);clear z y;go_wp2;go_roundw;exact⟨e+1,g_,O,by rw[A],by rw[A],e0⟩;exact z_
  have c2:¬e<(w:E):=O;have c3:ZU e (Bn a b)=_:=aI (by unfold Bn;rw[length_map,b4];omega);rw[c3,c7]
  by_cases G:c<F p
  ·rw[dif_pos G];have b7:=f4 _ (Qf G);have b5:K ((ZU (c+1) p).map WS.a=k++[p[c].a]):=(by show _=_;rw[Qi G,map_append,c9];rfl);generalize p[c]=L at *;obtain⟨g,d4⟩:=L;simp only at b7 ⊢;have W:(d4==0)=_:=aO O;have j:=o.q P;have⟨⟨_,_,c4,_⟩,_,d5⟩:=j.r.cells;have z:K (∀y,WdI d _ (ZN wr y) _ c _ _ k):=λy=>j.q r_;have d6:=j.u.size;have Q:=o.y
   have A:K (∀y,ZD (ZN wr y) (B x.1) 9 1 (V q c r) c (k.map YW)):=λy=>by have:=(z y).D;unfold Bj at this;rw[Q] at this;exact this
   clear j o c7;go_wp2_with (at_builtin;refine ap_ [Q_ g] (A _) ?_)
   rintro b0 b1 ⟨a7,N,_,_,d2,c5,a0⟩;have a8:=(Aa.refl _ _).grown N (λc u _=>u);have D:jb _ _ _ _ _ 0:=a8.g (z _).r (λi=>Ag (A (O_ #[] 9)) i (z _).r C X);have l:K (WdI d x (ZO b1 (J (B d.1+1+1) 2) b0) (B d.1+1+1) (c+1) (T (J d2 0)) c5 (k++[g])):=by subst a0;refine⟨ht_ 2 _ _ _ D,?_,by rw[Qe,Q];rfl,?_⟩;have i:=Bj.add (by rw[Q];exact a7);exact Am i D C;exact((z _).u.grown N (λL a9 i=>p_ (B_ (A (O_ #[] 9)) L a9).1)).setCell (p:=(J (B d.1+1+1) 2)) (λ_=>X) _
   have⟨⟨_,_,d9,_⟩,n,_⟩:=D.cells;have a4:=n 2;have i:K (lq f2 (B d.1+1+1)=c):=by show _=_;unfold lq;rw[b6];rfl
   have b2:K (lq (ZO b1 (J (B d.1+1+1) 2) b0) (B d.1+1+1)=c+1):=(by show _=_;unfold lq;rw[l.r.cells.1.2.2.1];rfl);subst a0;clear a7 N a8 D n z A c4 f7 f8 b6 f9;go_wp2;go_roundw;exact⟨c+1,_,_,O,O,b5 ▸ l⟩;rw[i,b2];omega
  rw[dif_neg G];have y:K (k=s):=(by show _=_;rw[b3,<- c9,aI O,aI O]);have j:=o.q P;exact Zjz
 have c2:=g2;have y:K ((ZU c p).map WS.a=s):=(by show _=_;rw[b3,show ZL m=c by omega]);have j:=o.out;exact Zjz
theorem ZgB{e d}:∀b c,Zu e b c=T d->d.1∈b
 |[],c,a=>by simp[Zu] at a
 | f::b,c,a=>by
  unfold Zu at a;split at a
  ·grind
  exact mem_cons_of_mem _ (ZgB _ _ a)
theorem Zkr{b c a}(e:c ∉ a){d}:Lu c (Zu b a d)=ZP:=by
 cases f:Zu b a d with
 |none=>rfl
 | some g=>
  grind [ZgB,Lu]
theorem Zf2{b c f}(i:c ∉ f):∀a d,c ∉ a->Lu c (Zu b (a++c::f) d)=if Bk b a<=d/\d<Bk b a+(Z b c Aj).g then T (d-Bk b a) else ZP
 | [],d,_=>by
  simp only[nil_append,Zu,Bk,map_nil,sum_nil,Qg,true_and,Nat.zero_add,Nat.sub_zero]
  grind [Lu,Zkr]
 | e::a,d,l=>by
  have j:¬e=c:=w_;have h:c ∉ a:=w_;have k:Bk b (e::a)=(Z b e Aj).g+Bk b a:=(by simp[Bk]);simp only[cons_append,Zu];rw[k]
  by_cases g:d<(Z b e Aj).g
  rw[aD g,aC O];simp[Lu,j];rw[aC g,Zf2 i a _ h]
  grind
theorem Zkt{b d a e}(g:d ∉ a)(h:d ∉ e) c:Lu d (Nv b (a++d::e) c)=if 1+Bk b a<=c/\c<1+Bk b a+(Z b d Aj).g then T (c-(1+Bk b a)) else ZP:=by
 unfold Nv
 by_cases f:c=0
 rw[aD f,aC O];rfl
 grind [Zf2]
theorem Zks{c a b}(e:a ∉ b) d:Lu a (Nv c b d)=ZP:=by unfold Nv;split;rfl;exact Zkr e
def ZiG{c d e f a b A C}(j:b<F d)(k:Z d b []=A++a::C)(h:a ∉ A)(i:a ∉ C)(l:∀g,g<F d->g≠b->a ∉ Z d g []):Iz c d e f a=if 1+Bk c A<=Z (Z e b []) f 0/\Z (Z e b []) f 0<1+Bk c A+(Z c a Aj).g then Z (Z e b []) f 0-(1+Bk c A) else(Z c a Aj).d:=by grind [Gw,Zks,Zkt,ZcP,wn]
section
variable {Ks:U KS} {Os:U (U ZG)} {Bb:U (U H)} {n:H}
def ZlN{b e c a}(h:a<n)(j:∀f∈b++c::e,∀a,Z (Z Bb f []) a 0<(Z Ks f Aj).g)(p:Z (Z Os c []) a ZZ=Z0↔(Z (Z Bb c [])) a 0≠(Z Ks c Aj).d):((if 1+Bk Ks b<=Z (Ke Ks Os Bb n (b++c::e)) a 0/\Z (Ke Ks Os Bb n (b++c::e)) a 0<1+Bk Ks b+(Z Ks c Aj).g then Z (Ke Ks Os Bb n (b++c::e)) a 0-(1+Bk Ks b) else(Z Ks c Aj).d)≠Z (Z Bb c []) a 0)↔(Z (Z Os c []) a ZZ=Z0/\Z (Ke Ks Os Bb n b) a 0≠0):=by
 have o:ZgG n ⟨Y6 n 0,[],1⟩:=⟨s_,Nat.one_pos,λv t=>w_⟩;have i:=Wo (Os:=Os) b _ (λf g=>j f (by simp[g])) o;have s:(b.foldl (Al _ _ _ n) ⟨Y6 n 0,[],1⟩).off=1+_:=Sy Ks Os Bb n b _;have l:Z (Ke _ _ Bb n b) a 0=Z (b.foldl (Al Ks Os _ n) _).N a 0:=rfl;have k:Z (Ke Ks Os Bb n (b++c::e)) a 0=Z (e.foldl (Al Ks Os Bb n) (Al Ks Os Bb n (b.foldl (Al Ks Os Bb n) ⟨Y6 n 0,[],1⟩) c)).N a 0:=(by unfold Ke Jr;grind);rw[l,k];generalize b.foldl (Al Ks Os Bb n) ⟨Y6 n 0,[],1⟩=d at *;have g:Z (Al Ks Os Bb n d c).N a 0=_:=Zh h;unfold pi at g;have r:(Al Ks Os Bb n d c).off=_+_:=rfl;have q:Z d.N a 0<d.off:=by have m:a<F d.N:=i.y ▸ h;have:Z d.N a 0∈d.N:=(by simp[Z,m]);exact i.lt _ this
 have⟨m,u⟩:=av (Ks:=Ks) (Os:=Os) (Bb:=Bb) e (Al Ks Os Bb n d c) O a h
 grind
end
def exC(d:H->H->ZG)(c:H->H->H)(b a:H):U XS:=if d b a=Z0 then[⟨b,a,c b a⟩] else[]
def ys(c:H->H->ZG)(a:H->H->H)(d:H):H->U XS
 |0=>[]
 |b+1=>ys c a d b++exC c a d b
def jm(c:H->H->ZG)(b:H->H->H)(a:H):H->U XS
 |0=>[]
 |d+1=>jm c b a d++ys c b d a
theorem Yz{d c b x}:∀a,x∈ys d c b a↔x.M=b/\x.f<a/\d b x.f=Z0/\x.i=c b x.f
 |0=>by simp[ys]
 | a+1=>by
  simp only[ys,mem_append,Yz a,exC];obtain⟨g,f,e⟩:=x
  grind
theorem jt{d c b x}:∀a,x∈jm d c b a↔x.M<a/\x.f<b/\d x.M x.f=Z0/\x.i=c x.M x.f
 |0=>by simp[jm]
 | a+1=>by
  simp only[jm,mem_append,jt a,Yz]
  grind
abbrev upX(x a:XS):Prop:=x.M<a.M∨x.M=a.M/\x.f<a.f
def Zbh{c b d}:∀a,(ys c b d a).Pairwise upX
 |0=>Pairwise.nil
 | a+1=>by
  simp only[ys];refine pairwise_append.2 ⟨Zbh a,?_,λg e h f=>?_⟩;unfold exC;split<;>simp
  grind [Yz,exC]
def ly{d c b}:∀a,(jm d c b a).Pairwise upX
 |0=>Pairwise.nil
 | a+1=>by
  simp only[jm];refine pairwise_append.2 ⟨ly a,Zbh b,λg e h f=>?_⟩
  grind [jt,Yz]
def Zj1{p b d a c}(g:Nx c)(h:∀x,x∈c↔x.M<a/\x.f<d/\p x.M x.f=Z0/\x.i=b x.M x.f):(jm p b d a).Perm c/\Em (jm p b d a):=by refine⟨(perm_ext_iff_of_nodup ?_ ?_).2 (λx=>by rw[h,jt]),(ly a).imp (λe=>O)⟩;exact(ly a).imp (λe f=>w_);exact g.imp (λe f=>w_)
def pt{b}:∀a,b∈He a->(He a).Nodup->∃g e f,g<F a/\(Z a g Fm).fs=e++b::f/\b ∉ e/\b ∉ f/\∀d,d<F a->d≠g->b ∉ (Z a d Fm).fs
 |[],c,_=>by simp[He] at c
 | k ::a,c,n=>by
  have p:He (k::a)=k.fs++He a:=(by simp[He]);rw[p] at c n;have⟨o,u,w⟩:=nodup_append.1 n
  rcases mem_append.1 c with c|c
  ·have⟨e,f,h⟩:=append_of_mem c;rw[h] at o;have⟨v,s,t⟩:=nodup_append.1 o;refine⟨0,e,f,s_,by simpa using h,λj=>t b j b s_ X,(nodup_cons.1 s).1,λd m r l=>?_⟩;obtain⟨i,rfl⟩:∃i,d=i+1:=⟨d-1,O⟩
   have q:i<F a:=by simpa using m
   have:b∈He a:=by unfold He;rw[mem_flatMap];exact⟨Z a i _,by simp[Z,q],by simpa using l⟩
   grind
  have⟨g,e,f,q,h,j,i,s⟩:=pt a c u;refine⟨g+1,e,f,by simpa using q,by simpa using h,j,i,λd m r l=>?_⟩
  grind
section
variable {m n:H} {Ks:U KS} {Os:U (U ZG)} {Bb:U (U H)} {Gs:U GS}
def jg Os Bb n (Ks:U KS):∀Gs a,(Gs.foldl (Lq Os Bb n) a).f.map BS.fs=a.f.map BS.fs++Gk Gs
 |[],a=>by simp[Gk]
 |b::Gs,a=>by simp only[foldl_cons];rw[jg Os Bb n Ks Gs];simp[Lq,Gk]
def ZaJ(p:∀g∈Gs,∀a∈g.fs,a<F Ks)(m:∀f,f<F Ks->∀b,Z (Z Bb f []) b 0<(Z Ks f Aj).g)(l:∀b,b<n->∀d,d<F Ks->Z (Z Os d []) b ZZ=sO Ks Bb d b):(Fp Os Bb n Ks Gs).f.map BS.N=(Gk Gs).map (λc=>Hs Ks Bb c n):=by
 have k:=Zdg (Ks:=Ks) (Os:=Os) (Bb:=Bb) (n:=n) Gs ⟨Ks,[],[]⟩ X s_;have e:=jg Os Bb n Ks Gs ⟨Ks,[],[]⟩;simp only[map_nil,nil_append] at e;unfold Fp;rw[<- e,map_map];refine map_congr_left λc h=>?_
 have j:∀a∈c.fs,a<F Ks:=λa i=>by
  have:c.fs∈Gk Gs:=(by rw[<- e];exact mem_map.2 ⟨c,h,X⟩);have⟨g,q,o⟩:=mem_map.1 this
  grind
 rw[k c h];refine(ZjN l j ?_).s;exact(jj (xs:=[]) (λa i=>m a (j a i))).y
def ZaK(M:F Ks=m+1)(w:(He Gs).Perm (range (m+1)))(D:(He Gs).Nodup)(y:∀s,s<m+1->∀c,Z (Z Bb s []) c 0<(Z Ks s Aj).g)(v:∀c,c<n->∀e,e<F Ks->Z (Z Os e []) c ZZ=sO Ks Bb e c) x:x∈(Fp Os Bb n Ks Gs).r↔x.M<n/\x.f<m+1/\ZE (Iz Ks (Gk Gs) ((Gk Gs).map (λh=>Hs Ks Bb h n)) x.M x.f≠Z (Z Bb x.f []) x.M 0)=Z0/\x.i=Z (Z Bb x.f []) x.M 0:=by
 have A:=λl o a i=>by
  have:a∈He Gs:=by unfold He;rw[mem_flatMap];exact⟨l,o,i⟩
  simpa using w.mem_iff.1 this
 have a7:∀{a c b g d},c<n->a<m+1->d<F Gs->(Z Gs d Fm).fs=b++a::g->a ∉ b->a ∉ g->(∀f,f<F Gs->f≠d->a ∉ (Z Gs f Fm).fs)->(Iz Ks (Gk Gs) ((Gk Gs).map (λh=>Hs Ks Bb h n)) c a≠Z (Z Bb a []) c 0↔(Z (Z Os a []) c ZZ=Z0/\Z (Ke Ks Os Bb n b) c 0≠0)):=by
  intro a c b g d p i q k t u G;have Q:F (Gk Gs)=F Gs:=by simp[Gk]
  have R:∀f,f<F Gs->Z (Gk Gs) f []=(Z Gs f Fm).fs:=λf r=>by simp[Gk,Z,r]
  have N:Z Gs d Fm∈Gs:=w_;have z:=λe j=>A _ N e (k ▸ j);have P:Z ((Gk Gs).map (λh=>Hs Ks Bb h n)) d []=Ke Ks Os Bb n (b++a::g):=(by have L:Z ((Gk Gs).map (λh=>Hs Ks Bb h n)) d []=Hs Ks Bb (b++a::g) n:=w_;rw[L];exact ZjN v (λe j=>w_) (jj (xs:=[]) (λe j=>y e (z e j))).y);rw[ZiG (b:=d) (A:=b) (C:=g) (Q ▸ q) w_ t u (λf r h=>w_),P];apply ZlN p (λe j=>y e (z e j));rw[v c p a (M ▸ i)];unfold sO
  grind
 rw[show(Fp Os Bb n Ks Gs).r=(Gs.foldl (Lq Os Bb n) ⟨Ks,[],[]⟩).r from X,nv (Ks:=Ks) Gs ⟨Ks,[],[]⟩ x X];simp only[not_mem_nil,false_or,decide_eq_true_eq];constructor
 ·rintro⟨l,o,b,g,k,p,z,L,a1⟩;have i:=A l o x.f (by rw[k];simp);have P:x.f∈He Gs:=w_;have⟨d,h,t,q,Q,a2,a4,G⟩:=pt Gs P D;have⟨f,r,W⟩:=aM o;have a5:f=d:=w_;have u:Z Gs d Fm=l:=w_
  have a3:b=h:=by
   rw[u,k] at Q
   have a6:x.f ∉ b:=λa0=>by grind [He]
   have R:(b++x.f::g).takeWhile (λj=>j !=x.f)=b:=(by rw[takeWhile_append_of_pos (λj N=>w_)];simp);have S:(h++x.f::t).takeWhile (λj=>j !=x.f)=h:=by rw[takeWhile_append_of_pos (λj N=>w_)];simp
   grind
  grind
 rintro⟨p,i,z,L⟩;obtain⟨d,b,g,q,k,t,u,G⟩:=pt Gs (w.mem_iff.2 (by simpa using i)) D
 grind
end
def btR(c:U (E×U VS))(b:H->ES)(a:H):U H:=(Bn c a).map (Gq (b a))
def esR(b:H)(a:H->ES):U ES:=(range (b+1)).map a
def Ud(c:H)(b:U (E×U VS))(a:H->ES):U (U H):=(range (c+1)).map (btR b a)
def jl{c b a}(d:a<c+1):Z (esR c b) a Sf=b a:=by simp[esR,Z,d]
def Qn{d c b a}(e:a<d+1):Z (Ud d c b) a []=btR c b a:=by simp[Ud,Z,e]
def Xx{a b c}:F (btR a b c)=F a:=by simp[btR,Bn]
def ZjA{a E i b}(c:b<F a):Z (btR a E i) b 0=Gq (E i) (Z (Z a b oy).2 i Ax):=by simp[btR,Bn,Z,c]
def yt c b d:∀a,F (ys c b d a)<=a
 |0=>by simp[ys]
 |a+1=>by have:=yt c b d a;simp only[ys,Qe,exC];split<;>simp<;>omega
def ZfP d c b:∀a,F (jm d c b a)<=a*b
 |0=>by simp[jm]
 |a+1=>by have:=ZfP d c b a;have:=yt d c a b;simp only[jm,Qe,Nat.add_mul];omega
def ep(k l:ZT)(m f:H)(a:Ft):Prop:=∃i g h j e c d b,RfX l (B k.1) m f i g h j e c d a.g (a.f.map BS.fs) (a.f.map BS.N) b/\b.Perm a.r/\Em b
structure jd(a wr:ZT)(cf:YZ ZY)(p d e f:H)(h l i m j n o k c b g):Prop where
 u:MkY wr (B a.1) (B a.1+1+1) (B a.1+1) p (ZH h d l) Dg Dg Dg (ZH i e m) (ZH j f n) o k c b g
 cf:wr.1[B a.1]? =T (YU cf 37 (0,0))
 t:E_ a wr
 y:F c=d/\F b=e/\F g=f
section
variable {w wr w':ZT} {a:YZ ZY} {n i j l f p:H} {g h c:Y0 Addr} {m cb d:H} {kvs:U (ZY×ZY)} {e:U ZY} {Ks:U KS} {Bb:U (U H)} {o:U H}
def jd.r{w c:ZT}{a n}(d:c=ZN (ZN (ZN w (YU a 37)) (YU #[I (n:H),Dg,Dg,Dg,Dg] 142)) (YU #[P_ (B w.1+1),Dg,Dg] 331)):jd w c a n 0 0 0 ZP 0 ZP 0 ZP 0 [] [] [] [] []:=by
 subst d;refine⟨⟨?_,?_,ja.nil,Mk.nil,Ad.nil,λi b=>by simp at b,λi b=>by simp at b⟩,?_,(r_.alloc s_ _).alloc t_ _,X,X,X⟩
 ·simpa [MaB] using ha_ (ZN (ZN w (YU a 37)) (YU #[I (n:H),Dg,Dg,Dg,Dg] 142)) (YU #[P_ (B w.1+1),Dg,Dg] 331)
 exact(hc_ s_).T (by simpa [Nt] using ha_ (ZN w (YU a 37)) (YU #[I (n:H),Dg,Dg,Dg,Dg] 142));exact((hc_ t_).T (hc_ s_)).T hn_
def jd.q(b:jd w wr a n i j l g m h cb c d kvs e Ks Bb o)(f:E_ wr w'):jd w w' a n i j l g m h cb c d kvs e Ks Bb o:=
 ⟨b.u.q f,(f.block _ (Qb b.cf).1).T b.cf,bt_ b.t f,b.y⟩
def jd.x{b f z y t A}(k:jd w wr a n i j l g m h cb c d kvs e Ks Bb o)(r:ZD wr (B w.1) f z t y A)(v:f≠37)(u:Y3 wr w' (ZW t))(D:B w.1<b) q x:(ZO w' (J b q) x).1[B w.1]? =T (YU a 37 (0,0))/\E_ w (ZO w' (J b q) x):=by have s:=(Aa.refl _ _).grown u (λx p _=>p);exact⟨((Aa.refl (λx=>x=b) w').setCell (p:=(J b q)) (λ_=>X) _).g (s.g k.cf (λf=>Ag r f k.cf v X)) O,(k.t.T (s.b k.t.size λx p=>(B_ r x p).1)).setCell (by show _<=b;omega) _⟩
def jd.b(b:jd w wr a n i j l g m h cb c d kvs e Ks Bb o):ZD wr (B w.1) 227 4 (ZH g i m) i ((zipWith Bs Ks kvs).flatten):=by
 have:=b.u.A.M.M
 rwa [b.u.A.a,b.y.1] at this
def jd.A(b:jd w wr a n i j l g m h cb c d kvs e Ks Bb o):ZD wr (B w.1) 25 1 (ZH h j cb) j e:=by
 have:=b.u.t.M
 rwa [length_map,b.y.2.1] at this
def jd.v(b:jd w wr a n i j l g m h cb c d kvs e Ks Bb o):ZD wr (B w.1) 3 1 (ZH c l d) l ((An o).map (ZX ZQ)):=by
 have:=b.u.w;unfold Ad at this
 rwa [Ak,b.y.2.2] at this
def jd.z{u r k}(q:jd w wr a n i j l g m h cb c d kvs e Ks Bb o)(A:Ad wr (B w.1) u k.e.f)(D:Bj wr (B w.1) r k.e.c)(G:Bl (ZH c l d) u)(s:Y3 wr w' (ZW (ZH g i m)))(L:ZD w' (B w.1) 227 4 (L_ f (i+1) p) (i+1) ((zipWith Bs Ks kvs).flatten++[ZR k.e.a,u,r,I k.d])):ZV w' (J (B w.1+1+1) 0)=T (P_ (B w.1+1))/\ZV w' (J (B w.1+1) 1)=T (ZH g i m)/\YT w' (J (B w.1+1) 1)=ZZ/\K (jd w (ZO w' (J (B w.1+1) 1) (L_ f (i+1) p)) a n (i+1) j l (T ⟨f,0,ZP⟩) p h cb c d (kvs++[(u,r)]) e (Ks++[k]) Bb o)/\∀{b r n t},ZD wr b 3 1 r n t->ZD (ZO w' (J (B w.1+1) 1) (L_ f (i+1) p)) b 3 1 r n t:=by
 obtain⟨v,b,x⟩:=q.u.z (u:=(u,r)) A D G s (by rw[q.y.1];exact L);have⟨y,z⟩:=q.x q.b C s (b:=B w.1+1) O 1 (L_ f (i+1) p);exact⟨n_ 0 x,n_ 1 b,R_ 1 _ 142 b,⟨v,y,z,by simp[q.y.1],q.y.2⟩,λt=>Am (World.ownsRow.kept t s (Ap q.b t C)) b C⟩
def jd.k{q B}(k:jd w wr a n i j l g m h cb c d kvs e Ks Bb o)(x:Ad wr (Z3 w.1) q (An B))(y:∀i,i<F Bb->Bl (Z e i Dg) q)(z:Bl (ZH c l d) q)(s:Y3 wr w' (ZW (ZH h j cb)))(A:ZD w' (Z3 w.1) 25 1 (L_ f (j+1) p) (j+1) (e++[q])):ZV w' (J (Z3 w.1+1+1) 1)=T (ZH h j cb)/\YT w' (J (Z3 w.1+1+1) 1)=ZZ/\K (jd w (ZO w' (J (Z3 w.1+1+1) 1) (L_ f (j+1) p)) a n i (j+1) l g m (T ⟨f,0,ZP⟩) p c d kvs (e++[q]) Ks (Bb++[B]) o):=by obtain⟨t,r⟩:=k.u.k x y z s (by rw[k.y.2.1];exact A);have⟨u,v⟩:=k.x k.A C s (b:=Z3 w.1+1+1) O 1 (L_ f (j+1) p);exact⟨n_ 1 r,R_ 1 _ 331 r,t,u,v,k.y.1,by simp[k.y.2.1],k.y.2.2⟩
def jd.D{z:H}(k:jd w wr a n i j l g m h cb c d kvs e Ks Bb o)(r:Y3 wr w' (ZW (ZH c l d)))(x:ZD w' (B w.1) 3 1 (L_ f (l+1) p) (l+1) ((An o).map (ZX ZQ)++[I z]))(v:ZW (L_ f (l+1) p)=ZW (ZH c l d)∨ZW (L_ f (l+1) p)=T (B wr.1)/\Below (B wr.1) wr w'):ZV w' (J (B w.1+1+1) 2)=T (ZH c l d)/\YT w' (J (B w.1+1+1) 2)=ZZ/\K (jd w (ZO w' (J (B w.1+1+1) 2) (L_ f (l+1) p)) a n i j (l+1) g m h cb (T ⟨f,0,ZP⟩) p kvs e Ks Bb (o++[z])):=by have⟨s,q⟩:=k.u.D (z:=z) r (Ad.P (by rw[Ak,k.y.2.2];exact x)) (v.imp_right And.left);have⟨t,u⟩:=k.x k.v C r (b:=B w.1+1+1) O 2 (L_ f (l+1) p);exact⟨n_ 2 q,R_ 2 _ 331 q,s,t,u,k.y.1,k.y.2.1,by simp[k.y.2.2]⟩
end
structure FeS(a b:ZT)(d:H)(e f)(c:ES)(g:E):Prop where
 o:jb b d c.a e f g
 v:Ad b (B a.1) e c.f
 os:Bj b (B a.1) f c.c
 t:E_ a b
 k:B a.1<=d
section
variable {a b w':ZT} {fb:H} {vb vw:ZY} {e:ES} {d:E}
def FeS.r{b c d e}(g:Ad c (B a.1) (ZH d (F b) e) b)(f:E_ a c):FeS a (ZN c (YU #[ZR ZZ,ZH d (F b) e,Dg,I 0] 227)) (B c.1) (ZH d (F b) e) Dg ⟨ZZ,b,[]⟩ 0:=⟨hn_,g.q r_,Bj.nil,bt_ f r_,f.size⟩
def FeS.lt(c:FeS a b fb vb vw e d):fb<B b.1:=c.o.cells.2.2
def FeS.q(c:FeS a b fb vb vw e d)(f:E_ b w'):FeS a w' fb vb vw e d:=⟨(f.block _ c.lt).T c.o,c.v.q f,c.os.q f,bt_ c.t f,c.k⟩
def FeS.put(c:FeS a b fb vb vw e d) f:FeS a (ZO b (J fb 3) (I f)) fb vb vw e f:=⟨hs_ _ fb 3 _ 227 _ c.o,Am c.v c.o C,Am c.os c.o C,c.t.setCell c.k _,c.k⟩
def FeS.c{c g}(f:FeS a b fb vb vw e d)(i:Bj b (B a.1) g c.c)(k:c.f=[]):FeS a (ZO (ZO (ZO (ZO b (J fb 0) (ZR c.a)) (J fb 1) Dg) (J fb 2) g) (J fb 3) (I 0)) fb Dg g c 0:=by have j:=Aa.h b fb (ZR c.a) Dg g (I 0);exact⟨hs_ _ fb 3 _ 227 _ (hs_ _ fb 2 _ 227 g (hs_ _ fb 1 _ 227 Dg (hs_ b fb 0 _ 227 (ZR c.a) f.o))),k ▸ Ad.nil,j.M i λl h e=>Ag i h f.o C e,f.t.T (j.b f.t.size λl h=>p_ f.k),f.k⟩
end
def ZoW b d c:∃(g:H->U KS) (f:H->U (U H)) (h:H->U H),(g 0=[]/\f 0=[]/\h 0=[])/\(∀a,a<b+1->g (a+1)=g a++[⟨c a,Yc (c a) (btR d c a)⟩]/\f (a+1)=f a++[btR d c a]/\h (a+1)=h a++[Dt (Cz (btR d c a) (Yc (c a) (btR d c a)))])/\g (b+1)=Ex (esR b c) (Ud b d c) (b+1)/\f (b+1)=Ud b d c/\h (b+1)=(range (b+1)).map (Ik (Iv (esR b c) (Ud b d c) (b+1))):=by
 refine⟨Ex (esR b c) (Ud b d c),λa=>ZU a (Ud b d c),λa=>(range a).map (Ik (Iv (esR b c) (Ud b d c) (b+1))),⟨X,X,X⟩,λa e=>⟨?_,?_,?_⟩,X,aI (by simp[Ud]),X⟩;rw[Zbx,kF,jl e,Qn e];show List.take _ _=_;rw[Qi (by simp[Ud];omega)];simp[Ud];simp only[range_succ,map_append,map_cons,map_nil,Ik];rw[Nk _ _ e,oF,jl e,Qn e]
def Zn7{e h f m g n a d}(c:Rq a)(l:a.a=e)(k:a=Cp Ra e h f m g n):Vc ⟨a,d⟩:=by have i:=c.p;have j:=c.u;refine⟨i,j,λb=>?_,λb=>?_⟩<;>(simp only at b;rw[l] at b;show _=[];rw[k,Cp,b];rfl)
def Zo0{a b}(d:Vc ⟨a,0⟩):(Xi b (F a.f+F a.c+2)).1=Yc a b:=by have c:=d.g;simp only[KS.g] at c;rw[c,Yc,Znk O];simp
def Zj7{a:U H}{b}(c:F a=b):Ct (λd=>((Z a d 0:H):E)) b b=An a:=by
 rw[Im,<- c];apply ext_getElem<;>simp[An,Z]
 grind
def Uc{c m:ZT}{d e k b i n f l a j o}(h:ZD c d e k b i n)(g:ZD m (B c.1) f l a j o):Bl b a:=by
 have p:=B_ h;have q:=B_ g;unfold Bl
 cases s:ZW b<;>cases r:ZW a<;>grind
def ZjL{b dd c a}(f:F b=c)(d:a<c):Dt (ZU (a+1) (Cz b dd))=Dt (ZU a (Cz b dd))+(if Z b a 0=dd then 0 else 1)/\Dt (ZU a (Cz b dd))<=a:=by
 have e:a<F (Cz b dd):=(by simp[Cz];omega);rw[Rl e,Pm];have:=Ui (ZU a (Cz b dd));rw[length_take] at this;have:Z (Cz b dd) a ZZ=ZE (Z b a 0≠dd):=by simp[Cz,Z,f ▸ d]
 grind
structure MkO(b g:H)(c:U KS)(h:U (U ZG))(e:U (U H)):Prop where
 j:F c=b+1
 o:F e=b+1
 l:∀a,a<b+1->F (Z e a [])=g
 x:∀a,a<b+1->Vc (Z c a Aj)
 q:∀a,a<b+1->(Z c a Aj).g<=18
 i:∀a,a<b+1->∀d,Z (Z e a []) d 0<(Z c a Aj).g
 k:∀a,a<b+1->F (Z h a [])=g
 os:∀d,d<g->∀f,f<F c->Z (Z h f []) d ZZ=sO c e f d
def Zqa{d n e b p s}{o:H->ZG}{q:H->E}(h:F e=n)(r:∀a,b a=Cp Ra (o a) (q a) p s (Bn e a) (Jp e))(i:∀a,a<d+1->Rq (b a)/\(b a).a=o a/\(b a).b<=16):MkO d n (Ex (esR d b) (Ud d e b) (d+1)) (Iv (esR d b) (Ud d e b) (d+1)) (Ud d e b):=by
 have hK:∀a,a<d+1->Z (Ex (esR d b) (Ud d e b) (d+1)) a Aj=⟨b a,Yc (b a) (btR e b a)⟩:=λa c=>by rw[Gf _ _ c,kF,jl c,Qn c]
 have l:∀a,a<d+1->Z (Iv (esR d b) (Ud d e b) (d+1)) a []=Cz (btR e b a) (Yc (b a) (btR e b a)):=λa c=>by rw[Nk _ _ c,oF,jl c,Qn c]
 have m:=Ev (esR d b) (Ud d e b) (d+1);refine⟨m,by simp[Ud],λa c=>by rw[Qn c,Xx,h],λa c=>hK a c ▸ Zn7 (i a c).1 (i a c).2.1 (r a),λa c=>by rw[hK a c];have:=(i a c).2.2;show(b a).b+2<=18;omega,λa c k=>?_,λa c=>by rw[l a c];simp[Cz,Xx,h],λk j g f=>?_⟩
 ·rw[hK a c,Qn c]
  by_cases j:k<F e
  rw[ZjA j];exact xz;rw[Qc,getElem?_eq_none (by rw[Xx];omega)];show 0<(b a).b+2;omega
 rw[m] at f;rw[sO,l g f,Qn f,hK g f];simp[Cz,Z,show k<F (btR e b g) by rw[Xx,h];exact j]
section
variable {m n:H} {Ks:U KS} {Os:U (U ZG)} {Bb:U (U H)} {Gs:U GS}
def MkO.G(g:MkO m n Ks Os Bb)(t:m+1<=4)(l:(∀k∈Gs,rg m n (m+1) Ks k)/\F Gs<=m+1):rf n Ks (Gk Gs) ((Gk Gs).map λb=>Hs Ks Bb b n):=by
 have p:F (Gk Gs)=F Gs:=(by simp[Gk]);have o:∀a,a<F Gs->Z (Gk Gs) a []=(Z Gs a Fm).fs/\Z ((Gk Gs).map λb=>Hs Ks Bb b n) a []=Hs Ks Bb (Z Gs a Fm).fs n/\rg m n (m+1) Ks (Z Gs a Fm):=λa b=>⟨by simp[Gk,Z,b],by simp[Gk,Z,b],l.1 _ (by simp[Z,b])⟩;refine⟨s_,O,λa b=>?_,λa b f=>?_,λa b=>?_,λa b c e=>?_⟩<;>(simp only[length_map,p] at b;obtain⟨h,i,d⟩:=o a b);rw[i];simp[Hs]
 ·rw[i]
  by_cases q:f<n
  have j:=(ZdL (Ks:=Ks) (Bb:=Bb) (r:=f) (λc e=>by have j:=g.i c (d.fs c e) f;have r:=g.q c (d.fs c e);omega) _ (Qa (F (Z Gs a Fm).fs))).1;rw[take_length] at j;have s:=d.y;have r:Z (Hs Ks Bb (Z Gs a Fm).fs n) f 0=(rc Ks Bb f (Z Gs a Fm).fs).1:=(by simp[Hs,Z,q]);omega;rw[Qc,getElem?_eq_none (by simp[Hs];omega)];simp
 rw[h];have:=d.y;omega;rw[h] at e;rw[g.j];exact d.fs c e
def MkO.c{c e}(d:MkO m n Ks Os Bb)(t:Ex e Bb (m+1)=Ks)(u:Iv e Bb (m+1)=Os)(s:Ib m Ks Os n c=Gs):∃(j:H->H->ZG) (h:H->H->H),(∀b a,exC j h b a=if Iz Ks (Gk Gs) ((Gk Gs).map λf=>Hs Ks Bb f n) b a≠Z (Z Bb a []) b 0 then[⟨b,a,Z (Z Bb a []) b 0⟩] else[])/\(jm j h (m+1) n).Perm (Bx m n c e Bb).r/\Em (jm j h (m+1) n)/\(Bx m n c e Bb).g=Ks/\(Bx m n c e Bb).f.map BS.fs=Gk Gs/\(Bx m n c e Bb).f.map BS.N=(Gk Gs).map λf=>Hs Ks Bb f n:=by
 have o:=Yt (budget:=c) d.k (Ks:=Ks) (λa i=>p_ (d.q a i));have g:=np m n c e Bb;have k:=Pr m Ks Os n c;have l:=Wv m Ks Os n c;unfold Bx at g ⊢;rw[t,u] at g ⊢;rw[s] at o g k l ⊢;have p:=Zj1 (p:=λb a=>ZE (Iz Ks (Gk Gs) ((Gk Gs).map λf=>Hs Ks Bb f n) b a≠Z (Z Bb a []) b 0)) (b:=λb a=>Z (Z Bb a []) b 0) g (ZaK d.j k l d.i d.os);exact⟨_,_,λb a=>by simp[exC],p.1,p.2,xu Os Bb n Gs ⟨Ks,[],[]⟩,by simpa [Fp] using jg Os Bb n Ks Gs ⟨Ks,[],[]⟩,ZaJ (λi r q v=>d.j ▸ ((o.1 i r).fs q v)) (λa i=>d.i a (d.j ▸ i)) d.os⟩
def Zg3{a}(c:a<F Gs):ZU (a+1) ((Gk Gs).map λb=>Hs Ks Bb b n)=ZU a ((Gk Gs).map λb=>Hs Ks Bb b n)++[Hs Ks Bb (Z Gs a Fm).fs n]/\F (ZU a ((Gk Gs).map λb=>Hs Ks Bb b n))=a:=by refine⟨?_,by rw[length_take];simp[Gk];omega⟩;rw[Qi (by simp[Gk];exact c)];simp[Gk,Z,c]
def Zoo{f l g n m a}(i:Mk f l (ZH g (F Gs) n) m ((Gk Gs).map An))(j:a<F Gs):∃c b e,g=T ⟨c,0,ZP⟩/\ZV f (J c a)=T (ZH b (F (Z Gs a Fm).fs) e)/\NuV f b (Z Gs a Fm).fs:=by
 have k:a<F ((Gk Gs).map An):=by simpa [Gk] using j
 have⟨c,q,b,e,o,h,_,p,_⟩:=i.at k;have d:=i.j a k;rw[p] at d;rw[show Z ((Gk Gs).map An) a []=An (Z Gs a Fm).fs by simp[Gk,Z,j],Ak] at h d;injection o with e1;exact⟨c,b,e,e1,h,d.f X⟩
def Zcs{g:ZT}{b c a e f n h}(d:ZD g c a e f n h)(l:b<=c):ZD g b a e f n h:=⟨d.1,d.2.imp_right λ⟨k,i,j,a,m,o⟩=>⟨k,i,j,a,aG l m,o⟩⟩
def ZmK{pp bb c a b d}(j:a<=200)(h:c<=4)(m:b<=c):xbF (jm pp bb c a++ys pp bb a b) b a d=d/\F (jm pp bb c a++ys pp bb a b)<=1000000:=by
 refine⟨ui λk g f=>?_,?_⟩
 ·have i:Z (jm pp bb c a++ys pp bb a b) k Dm∈jm pp bb c a++ys pp bb a b:=by rw[Qc,Qd g];exact Qf g
  rcases mem_append.1 i with e|e
  have:=(jt a).1 e;have:=f.1;omega;have:=(Yz b).1 e;have:=f.2;omega
 rw[Qe];have e:=ZfP pp bb c a;have i:=yt pp bb a b;have l:=Nat.mul_le_mul j h;omega
def MkX.bits{wr:ZT}{x q c n W R S a0 a1 a2 P y Ks Bb Q i r}(b:MkX wr x q c n W R S a0 a1 a2 P y Ks Bb Q)(e:i<F Bb)(N:r<n):∃l p d o,∀a,Aa (λm=>m=c) wr a->ZV a (J q 0)=T (P_ c)/\ZV a (J q 1)=T (L_ l (F Bb) p)/\ZV a (J l i)=T (L_ d n o)/\ZV a (J d r)=T (I (Z (Z Bb i []) r 0:H)):=by
 have h:=b.v;have⟨l,p,a3,o,w,t,_,z,⟨a4,M⟩,_⟩:=b.t.at (i:=i) (by simpa using e);have G:Z (Bb.map An) i []=An (Z Bb i []):=(by simp[Z,e]);have f:=b.t.j i (by simpa using e);rw[z] at f;rw[G,Ak,b.u i e] at t f;rw[length_map] at w;obtain⟨d,rfl,_,_,u,_⟩:=f.b (by rw[Ak];exact b.u i e) N;rw[Bq] at u;have⟨a5,D⟩:=Ac f (k:=d) X;have g:=b.r;subst w;have j:∀a k s,Aa (λm=>m=c) wr a->ZV wr k=T s->k.block≠c->ZV a k=T s:=λa k s A v L=>(cb_ (A.block _ (aJ _ _ v) L)).T v;exact⟨l,p,d,o,λa m=>⟨j a _ _ m (n_ 0 g) (h.o g C),j a _ _ m (n_ 1 g) (h.o g C),j a _ _ m t (h.o M C),j a _ _ m u (h.o D C)⟩⟩
end
def Zh6{S:H}(c9 b f9 f:H){P y:H} d9 {N R l5 c6 k} g o (h7:Du o S 0 (f+1) R l5 c6)(g3:Xq o d9 b (f+1) k)(i3:kt k)(b5:b<=200)(g6:f+1<=4)(k5:y<=20)(k7:2<=P)(g8:P<=32)(h8:2<=N)(h9:N<=16)(i0:∀i,i<f+1->R i=Z0->1<=c6 i)(d0:∀i,g i=Cp Ra (R i) (c6 i) N P (Bn k i) (Jp k))(i1:∀i,i<f+1->Rq (g i)/\(g i).a=R i/\(g i).b<=16):C_ 179 #[Y9 #[ZH (T ⟨S,0,ZP⟩) (f+1) c9,ZX ZQ N,ZX ZQ P,ZX ZQ y],ZH d9 b f9] o λj p=>∃a,j=ZI (Y7 (T ⟨a,0,ZP⟩))/\ep o p a b (Bx f b y (esR f g) (Ud f k g))/\Below (Z3 o.1) o p:=by
 have⟨j9,j7,k0,a3,x⟩:=ZoW f k g;generalize b3:f+1=n at *;have⟨n4,g2⟩:=ez_ (ZN (ZN (ZN o (YU #[L_ S n c9,I N,I P,I y] 37)) (YU #[I b,Dg,Dg,Dg,Dg] 142)) (YU #[P_ (Z3 o.1+1),Dg,Dg] 331));have⟨e,d6,d7,d5,f3⟩:=y5_ (jd.r g2.s) g3.1 g3 h7 i3;have a4:=x3_ d0 i1 i0;replace x:=Y x;replace b3:=Y b3;clear g3 h7 i3 d0 i1 i0;go_enter func179,ntmps179;go_upto_region 3 with fail;rw[g2];clear g2;go_loopw [6] (λm a=>∃(d:H) (f5:Y0 Addr) (g0:H) (f6:Y0 Addr) (c4:H) (f7:Y0 Addr) (g1:H) (e2:U (ZY×ZY)) (f8:U ZY),m=ZX ZQ d/\d<=n/\Hid (jd o a #[L_ S n c9,I N,I P,I y] b d d d f5 g0 f6 c4 f7 g1 e2 f8 (j9 d) (j7 d) (k0 d))) (λm _=>n-ZL (ZA m))
 case atStart=>exact⟨0,_,_,_,_,_,_,_,_,X,v_,by rw[a3.1,a3.2.1,a3.2.2];exact e⟩
 clear e a3;obtain⟨d,f5,g0,f6,c4,f7,g1,e2,f8,rfl,b4,e⟩:=hrel;have b9:=n_ 0 e.cf;have j4:=n_ 1 e.cf;have j5:=n_ 2 e.cf;have j6:=n_ 3 e.cf;have d1:=(Qb e.cf).1
 by_cases W:d<n
 case neg=>
  obtain rfl:n=d:=O;rw[x.2.1,x.2.2.1,x.2.2.2] at e;obtain rfl:=b3.out;clear b3;have⟨w,b4⟩:=Z_ (Ex (esR f g) (Ud f k g) (f+1));have⟨i5,g7⟩:=Z_ (Iv (esR f g) (Ud f k g) (f+1));have⟨h,g5⟩:=Z_ (Ib f w i5 b y);have K:=Zqa d6 a4.1 a4.2.1;rw[b4,g7] at K e;have⟨u,r,e9,f0⟩:=K.c b4 g7 g5;have a5:=Yt (budget:=y) K.k (Ks:=w) (λi t=>p_ (K.q i t));have M:=e.u.h (by rw[K.j,K.o]) (λi t=>K.l i (K.o ▸ t)) (λi t=>K.x i (K.j ▸ t));have f1:=Zlf b f y Dg Dg e2 f8 wr M K.j b5 g6 k5 (λi t=>p_ (K.q i t)) K.k K.os;rw[g5] at a5 f1;have i4:=Y (K.G g6 a5);have h3:=K_ e.cf e.t;have d1:=e.t.size;have l4:F h<=4:=p_ a5.2;replace M:=Y M;replace K:=Y K;replace a5:=Y a5;replace e9:=Y e9;replace f0:=Y f0;clear b4 g7 g5 e x a4 d5 f3 d7 d6
  generalize ZH f5 (f+1) g0=b7,ZH f6 (f+1) c4=g9,ZH f7 (f+1) g1=m0 at *;generalize b3:f+1=n at *;obtain⟨h1,rfl⟩:=W_ wr;go_wp2_with fail
  apply f1.m;rintro _ Q ⟨rfl,l9,i7,c7,D,b6⟩;have⟨b1,b2,d2⟩:=D.d;rw[show F ((Gk h).map An)=F h by simp[Gk]] at d2;subst d2;replace M:=Y (M.i b6 c7);have a3:Hid (CoI Q Q (Z3 o.1+1) b b7 (ZH b1 (F h) b2) (ZH ZP 0 0) Dg [] []):=⟨Aa.refl _ _,c7,Mk.nil,c7.lt⟩;replace D:=x3_ c7 D b6;have j3:=b6.size;clear c7 b6 f1;go_wp2_with fail
  go_loopw [12] (λm c=>∃(l:H) (a6:Y0 Addr) (a7:H) (e0:U ZY),m=ZX ZQ l/\l<=F h/\Hid (CoI Q c (Z3 o.1+1) b b7 (ZH b1 (F h) b2) (ZH a6 l a7) Dg e0 (ZU l ((Gk h).map λa=>Hs w (Ud f k g) a b)))) (λm _=>F h-ZL (ZA m))
  case atStart=>exact⟨0,_,_,_,X,v_,a3⟩
  clear a3;obtain⟨l,a6,a7,e0,rfl,l6,j⟩:=hrel;have A:=M.i j.u j.v;have a0:=D.2.1.i D.1 j.u;have v:=n_ 0 A.r;have e7:=n_ 2 j.v
  by_cases g4:l<F h
  case neg=>
   obtain rfl:l=F h:=O;rw[aI (by simp[Gk])] at j;generalize ((Gk h).map λa=>Hs w (Ud f k g) a b)=e8 at *;replace D:=D.2.2.T j.u;have h2:Hid (∀z,Aa (λs=>s=Z3 o.1+1) wr z->_):=λz m=>n_ 0 ((D.T m).g h3.1 O);have c:Hid (ExI wr wr (Z3 o.1+1) b b7 (ZH b1 (F h) b2) (ZH a6 (F h) a7) Dg (jm u r n 0)):=⟨Aa.refl _ _,j.v,Xr.nil _,j.v.lt⟩;obtain⟨h0,rfl⟩:=W_ wr;replace A:=Y A;replace a0:=K_ a0 D;clear M a5 D;go_wp2_with fail
   go_loopw [14] (λm p=>∃(a:H) (b8:ZY),m=ZX ZQ a/\a<=b/\Hid (ExI h0 p (Z3 o.1+1) b b7 (ZH b1 (F h) b2) (ZH a6 (F h) a7) b8 (jm u r n a))) (λm _=>b-ZL (ZA m))
   case atStart=>exact⟨0,_,X,v_,c⟩
   clear c v e7;obtain⟨a,b8,rfl,i2,c⟩:=hrel
   by_cases e1:a<b
   case neg=>
    obtain rfl:b=a:=O;have v:=n_ 0 (A.i c.u c.v).r;have d0:Hid (ep o wr (Z3 o.1+1) b (Bx f b y (esR f g) (Ud f k g))/\E_ o wr):=(by obtain⟨q,c2,t,G,L⟩:=f0;refine⟨⟨b7,ZH b1 (F h) b2,ZH a6 (F h) a7,b8,e2,i7,e0,_,?_,q,c2⟩,h3.2.T ((a0.2.T c.u).b d1 λs p=>O)⟩;rw[t,G,L];exact⟨c.v,(A.i c.u c.v).A,(a0.1.i j.v c.u).m d1,(j.y.i j.v c.u).m (aG d1 j3),⟨Zcs c.r.M (aG d1 a0.2.size),c.r.h⟩,(A.i c.u c.v).x,le_succ _⟩);go_wp2;go_ret;exact⟨_,X,d0.1,d0.2⟩
   have b9:=h2 wr c.u;rw[<- append_nil (jm u r n a)] at c;have⟨l1,l2⟩:=F_ a b;go_wp2_with fail
   rename_i m1;go_loopw [15] (λm p=>∃(i:H) (b8:ZY),m=ZX ZQ i/\i<=n/\Hid (ExI h0 p (Z3 o.1+1) b b7 (ZH b1 (F h) b2) (ZH a6 (F h) a7) b8 (jm u r n a++ys u r a i))) (λm _=>n-ZL (ZA m))
   case atStart=>exact⟨0,_,X,v_,c⟩
   clear c b9;obtain⟨i,b8,rfl,t,c⟩:=hrel;have b9:=h2 wr c.u
   by_cases l7:i<n
   case neg=>
    obtain rfl:n=i:=O;go_wp2;go_roundw;case rel=>exact⟨a+1,_,g_,O,c⟩
    case measure=>exact z_
   have⟨h6,j0⟩:=ZmK (pp:=u) (bb:=r) (d:=Iz w (Gk h) e8 a i) (aG i2 b5) (b3 ▸ g6) t;have f2:=oz b a i w (Gk h) e8 wr ⟨(A.i c.u c.v).h.j,⟨_,n_ 2 c.v,(a0.1.i j.v c.u).h⟩,⟨_,n_ 3 c.v,(j.y.i j.v c.u).h⟩,⟨_,n_ 4 c.v,XsV.N c.r⟩⟩ i4 e1 (p_ K.j) j0;rw[h6] at f2;have⟨l8,k9,l3,k8,c5⟩:=A.bits (i:=i) (p_ K.o) e1;have⟨v,c8,h4,h5⟩:=c5 wr c.u;have a2:jm u r n a++ys u r a (i+1)=jm u r n a++ys u r a i++exC u r a i:=(by simp[ys]);rw[e9 a i] at a2;replace a2:=Y a2;replace c5:=Y c5;have⟨j2,k1⟩:=F_ i n;have l0:=(F_ i (F (Ud f k g)) (p_ K.o)).2;clear h6;generalize jm u r n a++ys u r a i=f4 at *;generalize Iz w (Gk h) e8 a i=k4,Z (Z (Ud f k g) i []) a 0=c3 at *;go_wp2_with fail
   apply f2.m;rintro _ d4 ⟨rfl,q⟩;have G:=X_ v;have c0:=X_ c8;have c1:=X_ h4;have L:=X_ h5;replace c:=Y (c.q q);clear q f2 v c8 h4 h5 b9
   cases s:k4==(c3:Z5)
   case true=>
    rw[aC (p_ (beq_iff_eq.1 s)),append_nil] at a2;go_wp2;go_roundw;case rel=>exact⟨i+1,_,g_,O,a2 ▸ c⟩
    case measure=>exact z_
   rw[aD (p_ (beq_eq_false_iff_ne.1 s))] at a2;have⟨i6,i9,d2⟩:=c.r.d;rw[length_map] at d2;subst d2;have a1:=n_ 4 c.v;have g8:=c.u.size
   have c2:Hid (∀a9,ZD (YY (ZN d4 a9)) (Z3 h0.1) 231 3 (ZH i6 (F f4) i9) (F f4) ((f4.map Cw).flatten)):=λa9=>by
    have:=(c.q (r_ (o:=a9)).drew).r.M
    rwa [length_map] at this
   go_upto_region 37 with fail;refine Af (λp=>ZV p _=T _/\ZV p _=T _/\ZV p _=T _/\ZV p _=T _/\ZV p _=T _) 28 k_ ⟨G,a1,c0,c1,L⟩ λhHeld=>?_;refine G_ ?_;refine on_ 24 λKK hK=>?_;go_simp;refine hK _ _ ⟨X_ G,X_ a1,X_ c0,X_ c1,X_ L⟩ λhHeld=>?_;clear hK KK G a1 c0 c1 L;try simp only[Act.put,tA_,tB_,tC_]
   refine on_ 25 λKK hK=>?_;refine aq_ [I a,I i,I c3] (c2 _) ?_;rintro k6 b0 ⟨d3,a8,_,_,k2,j8,rfl⟩;have⟨d8,p⟩:=(c.q r_.drew).P (x:=⟨a,i,c3⟩) a8 d3;rw[<- a2] at d8;replace d8:=Y d8;have⟨e3,e4,e5,e6⟩:=c5 b0 ((c.q r_.drew).u.grown a8 λd b4 j1=>p_ (B_ c.r.M d b4).1);have k3:=n_ 4 p;have j1:=R_ 4 _ 142 p;clear d3 a8 p c c2 c5;refine hK _ _ ⟨e3,k3,e4,e5,e6⟩ λhHeld=>?_;clear hK KK;refine G_ ?_;refine le_ ?_;go_wp2;go_roundw;case rel=>exact⟨i+1,_,g_,O,d8⟩
   case measure=>exact z_
  obtain⟨f2,b8,e3,rfl,c4,c0⟩:=Zoo a0 g4;have m:=a5.1 (Z h l Fm) (by simp[Z,g4]);have⟨s,a1⟩:=Zg3 (Ks:=w) (Bb:=Ud f k g) (n:=b) g4;have z:=Zb8 b e3 b8 w (Ud f k g) wr A.h c0 (λc p=>K.j ▸ m.fs c p) b5 (p_ m.y) (λc p a=>oj_ (K.q c (m.fs c p)) (K.i c (m.fs c p) a));have e1:F (Hs w (Ud f k g) (Z h l Fm).fs b)=b:=(by simp[Hs]);replace s:=Y s;clear a0 A m c0;generalize ((Gk h).map λa=>Hs w (Ud f k g) a b).take l=c1 at *;generalize Hs w (Ud f k g) (Z h l Fm).fs b=c5 at *;generalize (F (Z h l Fm).fs)=e4 at *;have⟨e5,e6⟩:=F_ l (F h);go_wp2_with fail
  apply z.m;rintro _ d4 ⟨f4,rfl,a,q⟩;obtain⟨d8,e8,rfl⟩:=a.d;rw[Ak,e1] at a ⊢;have a2:=Y (λi (t:i<F c1)=>Uc (j.y.j i (by rw[length_map];exact t)) a);replace a:=Y (a.m j.u.size);replace j:=Y (j.q q);have G:=n_ 0 (M.i j.u j.v).r;have L:=n_ 3 j.v;have g8:=j.u.size
  have c2:Hid (∀a9,ZD (YY (ZN d4 a9)) (Z3 Q.1) 25 1 (ZH a6 l a7) l e0):=λa9=>by
   have:=(j.q (r_ (o:=a9)).drew).y.M
   rwa [length_map,a1] at this
  clear v e7 z q c4;go_upto_region 28 with fail;refine Af (λp=>ZV p _=T _/\ZV p _=T _) 16 k_ ⟨G,L⟩ λhHeld=>?_;refine G_ ?_;refine on_ 12 λKK hK=>?_;go_simp;refine hK _ _ ⟨X_ G,X_ L⟩ λhHeld=>?_;clear hK KK G L;try simp only[Act.put,tA_,tB_,tC_]
  refine on_ 13 λKK hK=>?_;refine aq_ [ZH d8 b e8] (c2 _) ?_;rintro k6 b0 ⟨d3,a8,_,_,k2,j8,rfl⟩;obtain⟨c,p⟩:=(j.q r_.drew).P (N:=c5) (a.q r_.drew) a2 a8 (by rw[a1];exact d3);rw[<- s] at c;replace c:=Y c;have c3:=n_ 0 (M.i ((j.q r_.drew).u.grown a8 λt c8 j1=>by have:=(B_ j.y.M t c8).1;omega) p).r;have t:=n_ 3 p;have j1:=R_ 3 _ 142 p;clear d3 a8 p j a c2;refine hK _ _ ⟨c3,t⟩ λhHeld=>?_;clear hK KK;refine G_ ?_;refine le_ ?_;go_wp2;go_roundw;case rel=>exact⟨l+1,_,_,_,g_,O,c⟩
  case measure=>exact z_
 have h6:=d5.lt O;have a9:ZV wr (J S (d*3))=T (ZR (R d)):=kd_ e.t (by simpa using d5.t d W) h6;have c2:ZV wr (J S (d*3+2))=T (I (c6 d)):=kd_ e.t (by simpa using d5.G d W) h6;have u:=a4.1 d;unfold Cp at u;have⟨a7,j8⟩:=Y_ (a4.2.1 d W) (a4.2.2 d W);have c5:=Zac d9 b n f9 d P N y (T ⟨S,0,ZP⟩) n c9 k wr (d7.q e.t) W f3 b5 k7 g8 h8 h9;obtain⟨h1,rfl⟩:=W_ wr;go_wp2_with fail
 apply c5.m;rintro j Q ⟨d8,e8,rfl,i5,g5⟩;clear c5;generalize Fb (Bn k d) (Jp k) N P=l0 at *;have c:=Y (FeS.r i5 g5);go_upto_region 6 with fail;generalize (ZN Q) (YU #[ZR ZZ,ZH d8 (F l0) e8,Dg,I 0] 227)=j3 at *;have G:=X_ b9 c.t;have c0:=X_ j4 c.t;have c1:=X_ j5 c.t;have L:=X_ j6 c.t;have a1:=X_ a9 c.t;clear i5;go_upto_if 40 with fail
 go_cut [7] (λm a=>m=Y7 (T ⟨Z3 Q.1,0,ZP⟩)/\∃g9 j1,Hid (FeS h1 a (Z3 Q.1) g9 j1 (g d) 0))
 case first=>
  cases r:R d with
  | false=>
   rw[r] at a1;rw[r,aC C] at u;rw[<- u] at c;clear u a9;go_wp2;go_meet
   exact⟨X,_,_,c⟩
  | true=>
   rw[r] at a1;have h:=ZeO d9 b n f9 d N P y (c6 d) S c9 k j3 (d7.q (bt_ e.t c.t)) W f3 b5 h8 h9 (X_ c2 c.t) (j8 r);rw[r,aD X] at u;have M:(g d).f=[]:=u ▸ X;rw[<- u] at h;clear a9;go_wp2_with fail
   apply h.m;rintro j A ⟨m,p,rfl,a,l⟩;replace a:=Y (a.c c.t.size);replace c:=c.q l;have⟨⟨t,v,w,z⟩,i6,_⟩:=c.o.cells;replace c:=Y (c.c a M);clear h a l G c0 c1 L a1 u;have c:Hid (∀R,R=(g d).a->_):=λR s=>s ▸ c;generalize (F (g d).c)=q at *;go_wp2;go_meet
   exact⟨X,_,_,c _ (by rw[a7.2.1,r])⟩
 clear G c0 c1 L a1 b9 j4 j5 j6 a9 c2 u c j3 g5;obtain⟨rfl,g9,j1,c⟩:=hcut;obtain⟨b8,d2,rfl⟩:=c.v.d;obtain⟨c7,d3,rfl⟩:=c.os.a;have⟨A,b7⟩:=Y_ (Zn7 (d:=0) a7.1 a7.2.1 (a4.1 d)) (λa (s:a<b)=>ZjA (E:=g) (i:=d) (d6.s ▸ s));have D:F (btR k g d)=b:=Xx.T d6;replace x:=Y (x.1 d W);have⟨⟨e3,e4,e5,e6⟩,_,m4⟩:=c.o.cells;have m5:=c.k;have k8:=c.t.size;generalize (Z3 Q.1)=h2 at *;generalize btR k g d=B at *;generalize g d=j at *;have k6:=Gm b O;have a6:=Gl b wc (Z3 wc.1) O x_;rw[<- In (λa=>((Z B a 0:H):Z5))] at a6;replace a6:=Y a6;go_wp2_with fail
 go_loopw [9] (λm h=>∃a:H,m=ZX ZQ a/\a<=b/\Hid (Ad h (Z3 wc.1) (L_ (Z3 wc.1) b b) (Ct (λa=>((Z B a 0:H):Z5)) b a))/\Hid (E_ wc h)) (λm _=>b-ZL (ZA m))
 case atStart=>exact⟨0,X,v_,a6,r_⟩
 clear k6 a6;obtain⟨a,rfl,e1,h,l⟩:=hrel;have l:=l.out
 by_cases w:a<b
 case neg=>
  obtain rfl:b=a:=O;rw[Zj7 D] at h;have f2:Hid (∀z,E_ wr z->_):=λz b1=>Zce (T ⟨Z3 wc.1,0,ZP⟩) b b (F j.f+F j.c+2) B z ((h.q b1).m v_) D b5 (by have:=A.g;have:=a7.2.2;simp only[KS.g] at *;omega);rw[Zo0 A] at f2;have h0:=Km b8 c7 (F j.f) (F j.c) d2 d3 j.a 0 wr A.1 A.2.1;replace c:=c.q l;have⟨⟨e3,e4,e5,e6⟩,_⟩:=c.o.cells;replace c:=Y c;generalize Yc j B=m at *;obtain⟨n6,rfl⟩:=W_ wr;clear b7;go_wp2_with fail
  apply h0.m;rintro _ d4 ⟨rfl,q⟩;go_wp2_with fail
  apply (f2 _ q).m;rintro _ m0 ⟨rfl,rfl⟩;replace c:=c.q q;have⟨⟨l6,b6,l7,l8⟩,i6,_⟩:=c.o.cells;replace h:=Y (Am (j:=3) (u:=I m) ((h.q q).m k8) c.o C);replace c:=Y (c.put m);clear h0 f2 e3 e4 e5 e6 q l;go_upto_region 16 with fail;generalize (ZO m0) (J h2 3) (I m)=b0 at *;clear l6 b6 l7 l8 i6;go_loopw [10,11] (λr p s=>∃(a a8:H),p=ZX ZQ a/\a<=b/\r=ZX ZQ (Dt (ZU a (Cz B m)):H)/\s=Y1 b0 a8) (λ_ p _=>b-ZL (ZA p))
  case atStart=>exact⟨0,0,X,v_,X,X⟩
  obtain⟨a,a8,rfl,i2,rfl,rfl⟩:=hrel
  by_cases w:a<b
  case pos=>
   have r:=(Ad.c h (by rw[Ak,D]) w).1;rw[Bq] at r;have⟨p,a0⟩:=ZjL (dd:=m) D w;replace p:=Y p;generalize (Z B) a 0=t at *;generalize Dt (ZU a (Cz B m))=M at *;have v:=F_ a b;have a2:=c.o.cells.1.2.2.2
   cases s:t==(m:Z5)
   case' false=>rw[aC (p_ (beq_eq_false_iff_ne.1 s))] at p
   case' true=>rw[aD (p_ (beq_iff_eq.1 s))] at p
   all_goals
    go_upto_region 18 with fail;go_quiet (fail);go_wp2;go_roundw;case rel=>exact⟨a+1,_,g_,O,by rw[p];go_num,by first|rfl|simp⟩
    case measure=>exact z_
  obtain rfl:b=a:=O;rw[aI (by simp[Cz,D])];have k9:=Ui (Cz B m);rw[show F (Cz B m)=b by simp[Cz,D]] at k9;generalize Dt (Cz B m)=m1 at *;have g7:E_ b0 (Y1 b0 a8):=below_drewN y_ _;generalize (Y1 b0) a8=n5 at *;have a2:=x4_ (Uc e.v c.v) (Uc e.v h) (λi t=>Uc (e.u.t.j i (by rw[length_map];exact t)) h) (λt c8=>(B_ e.b t c8).2);have r:=e.t.size;replace c:=Y (c.q g7);replace h:=Y ((Ad.q h g7).m r);replace e:=Y (e.q c.t);have⟨⟨t,M,a0,a5⟩,_⟩:=c.o.cells;have v:=n_ 0 e.u.r;have b2:=n_ 1 e.u.v;have i4:=e.t.size;generalize h5:j.a=f0,F j.f=e0,F j.c=e9 at *;go_upto_region 20 with fail
  refine Af (λp=>ZV p _=T _/\ZV p _=T _/\ZV p _=T _/\ZV p _=T _/\ZV p _=T _/\ZV p _=T _) 16 k_ ⟨v,b2,t,M,a0,a5⟩ λhHeld=>?_;refine G_ ?_;refine on_ 12 λKK hK=>?_;go_simp;refine hK _ _ ⟨X_ v,X_ b2,X_ t,X_ M,X_ a0,X_ a5⟩ λhHeld=>?_;clear hK KK v b2 t M a0 a5;try simp only[Act.put,tA_,tB_,tC_]
  refine on_ 13 λKK hK=>?_;refine aq_ [ZR f0,ZH b8 e0 d2,ZH c7 e9 d3,I m] (e.q r_.drew).b ?_;rintro n0 j2 ⟨j0,f1,_,_,l4,l2,rfl⟩;have⟨c3,c8,k3,p,g4⟩:=(e.q r_.drew).z (k:=⟨j,m⟩) ((c.q r_.drew).v.m r) ((c.q r_.drew).os.c r) a2.1 f1 (h5 ▸ j0);have f4:jb j2 h2 f0 (ZH b8 e0 d2) (ZH c7 e9 d3) m:=((Aa.refl _ _).grown f1 λ_ s _=>s).g (h5 ▸ (c.q r_.drew).o) λs=>p_ (a2.2.2.2 _ s);have⟨⟨t,M,a0,a5⟩,_⟩:=f4.cells;replace h:=Y (g4 (Ad.q h r_.drew));clear j0 f1 f4 g4 e c;refine hK _ _ ⟨c3,c8,t,M,a0,a5⟩ λhHeld=>?_;clear hK KK;refine G_ ?_;refine le_ ?_;clear c3 c8 k3 t M a0 a5 hHeld;generalize (ZO j2) (J (Z3 o.1+1) 1) (L_ l4 (d+1) l2)=n1 at *;have v:=n_ 1 p.u.r;have i4:=p.t.size;go_wp2_with (at_builtin;refine ap_ [L_ (Z3 wc.1) b b] (p.q r_).A ?_)
  rintro m8 l9 ⟨i7,h3,_,_,l3,l1,rfl⟩;have⟨k1,k4,e⟩:=(p.q r_).k (B:=B) (Ad.q h r_) a2.2.2.1 a2.2.1 h3 i7;clear i7 h3 p h a2 v;go_upto_region 22 with fail;generalize (ZO l9) (J (Z3 o.1+1+1) 1) (L_ l3 (d+1) l1)=n2 at *;have e7:=n_ 2 e.u.r;have i4:=e.t.size;clear k1 k4;go_wp2_with (at_builtin;refine ap_ [I m1] (e.q r_).v ?_)
  rintro m9 n3 ⟨i9,h4,k2,_,m7,m6,rfl⟩;have⟨m2,m3,e⟩:=(e.q r_).D h4 i9 (by simpa using k2);rw[<- x.1,<- x.2.1,<- x.2.2] at e;clear i9 h4 e7;go_wp2;go_roundw;case rel=>exact⟨d+1,_,_,_,_,_,_,_,_,g_,O,e⟩
  case measure=>exact z_
 rcases(d7.q (bt_ e.t c.t)).2 with M|⟨s,rfl,p⟩
 omega;have⟨_,e7,c8,a5,_,a0⟩:=p a w;have⟨a8,b0,b6⟩:=a0 d W;have j2:=aJ _ _ a5;have k1:=aJ _ _ a8;have m:Hid (∀z,E_ wc z->_):=λz b1=>Zle (Z3 h1.1) 0 j (Z (Z k a oy).2 d Ax) z (c.q b1).v (c.q b1).os a7.1 A.2.2.1 A.2.2.2;rw[<- b7 a w] at m;have a2:=Y (Kg (λa=>((Z B a 0:H):Z5)) w);have r:=Y (Fg (λa=>((Z B a 0:H):Z5)) e1).s;clear p a0;generalize (Z (Z k a oy).2) d Ax=t at *;obtain⟨f2,f4,g4⟩:=t;generalize Ct (λa=>((Z B a 0:H):Z5)) b a=f1 at *;generalize (Z B) a 0=c3 at *;generalize j.a=f0,F j.f=e0,F j.c=e9 at *;go_upto_region 12 with fail;refine rg_ wc 13 λhHeld=>?_;refine G_ ?_;refine oc_ 11 (m _ l.drew) ?_;rintro _ d4 ⟨rfl,q⟩;replace h:=h.q (bt_ y_.drew q)
 have⟨v,b2⟩:=Ad.c h r w;replace h:=Y (Ad.put (k:=a) h r c3).1;rw[a2] at h;replace l:=bt_ l.drew q;clear m b7;refine⟨_,X,l,λhHeld=>G_ ?_⟩;refine le_ ?_;go_wp2;go_roundw;case rel=>exact⟨a+1,g_,O,h,l.setCell x_ _⟩
 case measure=>exact z_
section
variable {w:ZT} {base db n:H} {vF vB vC vX:ZY} {kvs:U (ZY×ZY)} {bvs cvs:U ZY} {Ks:U KS} {Fs Cs:U (U H)} {a:U XS}
def RfX.m{e}(b:RfX w base db n vF vB vC vX kvs bvs cvs Ks Fs Cs a)(c:e<=base):RfX w e db n vF vB vC vX kvs bvs cvs Ks Fs Cs a:=by
 have d:∀{k j i:H} {l m},ZD w base k j l i m->ZD w e k j l i m:=λg=>⟨g.1,by
  rcases g.2 with f|⟨p,h,o,f,q,r⟩
  exact ZM f
  exact ZJ ⟨p,h,o,f,aG c q,r⟩⟩
 exact⟨b.v,⟨⟨d b.A.M.M,b.A.M.h⟩,b.A.y,λh f=>⟨d (b.A.j h f).1,d (b.A.j h f).2⟩⟩,b.w.m c,b.y.m c,⟨d b.r.M,b.r.h⟩,b.x,aG c b.t⟩
def ZdM i (b:RfX w base db n vF vB vC vX kvs bvs cvs Ks Fs Cs a)(c:i<F Ks):C_ 139 #[P_ db,I i] w λd f=>d=ZI (Y5 #[(Z kvs i Lm).1,(Z kvs i Lm).2,ZX ZQ 0])/\∃e,f=Y1 w e:=by
 have⟨z,t,d,_,_,_,_,e⟩:=b.A.M.at (i:=i) (b.A.a ▸ c);rw[b.A.a] at d;subst d;have u:=n_ 1 b.v;have h:Z (zipWith Bs Ks kvs) i []=Bs (Z Ks i Aj) (Z kvs i Lm):=by simp[Z,getElem?_zipWith,c,show i<F kvs by rw[b.A.y];exact c]
 rw[h] at e;have o:=e 1 O _ X;have p:=e 2 O _ X;have⟨j,l,f⟩:=(b.A.j i c).1.d;have⟨k,m,g⟩:=(b.A.j i c).2.a;generalize (Z kvs) i Lm=s at *;obtain⟨A,D⟩:=s;simp only at f g o p ⊢;subst f g;have v:¬(i:E)<0:=O;have x:¬F Ks<=(i:E):=O;have y:=F_ i _;generalize (F (Z Ks i Aj).e.f)=q at *;generalize (F (Z Ks i Aj).e.c)=r at *;clear b e h;refine dl_ ?_;go_enter func139,ntmps139;go_upto_region 3 with fail;go_quiet (fail);go_wp2;apply bodyPost_ret (v:=Y5 #[V j q l,V k r m,I 0]) (by simp[results,results139,go_sem]) X
 grind
def Zbc a (b:DkV w db n Ks)(i:¬(0<=a/\a<(F Ks:E))):C_ 139 #[P_ db,I a] w (V_ (Y5 #[Dg,Dg,ZX ZQ 1]) w):=by
 have⟨j,f,c⟩:=b.h;obtain⟨d,e,rfl⟩:=c.1;clear b c;refine dl_ ?_;go_enter func139,ntmps139
 by_cases g:a<0
 ·go_wp2;apply bodyPost_ret (v:=Y5 #[Dg,Dg,I 1]) (by simp[results,results139,go_sem]) X
  grind
 have h:F Ks<=a:=O;go_wp2;apply bodyPost_ret (v:=Y5 #[Dg,Dg,I 1]) (by simp[results,results139,go_sem]) X
 grind
end
def sw{c f g e i j k l h d a}(b:ra a c f g e i j k d l h Z0):C_ 126 #[P_ c] a (V_ (Y5 #[Y7 ZP,ZX ZQ 1,ZX ZQ 0]) a):=by
 have m:=b.cells.2.2.2;clear b;refine q_ ?_;go_wp2;go_ret3
 exact⟨X,X⟩
def zz{d i l h n o p} b e {f} a (c:ra a d i l h n o p f b e ZZ)(j:b≠0):C_ 126 #[P_ d] a λg m=>g=ZI (Y5 #[Y7 ZP,ZX ZQ b,ZX ZQ e])/\∃k,m=Y1 a k:=by
 have⟨_,g,k,m⟩:=c.cells;have q:=bne_iff_ne.2 j;clear c;refine q_ ?_;go_upto_region 4 with fail;go_quiet (fail);go_wp2;go_ret3
 exact⟨X,_,X⟩
def RcP(h:ZT)(g m b l:H)(k:E)(o e:H)(j:ZC)(d:H->ES)(a:U (E×U VS)×H×E)(f:Ending)(c:ZT):Prop:=
 ra c g m (b+1) l k o e j 0 0 Z0/\Aa (λn=>n=g) h c/\
 ((a.2.2≠0/\f=ZI (Y5 #[Y7 ZP,I a.2.2,I a.2.1]))∨(a.2.2=0/\∃i,f=ZI (Y5 #[P_ i,I 0,I 0])/\ep h c i (F a.1) (Bx b (F a.1) e (esR b d) (Ud b a.1 d))))
def ZeL(b i f p m:H){o:H} l d n s R q k (G:ra k b i (f+1) p l m o d 0 0 ZZ)(v:Du k i 0 (f+1) n s R)(a4:i≠b)(M:i<B k.1)(a3:f+1<=4)(c6:∀a,a<f+1->0<=s a/\(n a=ZZ->s a<=3))(c2:ZK d<=1000000000000000)(b6:o<=20)(c4:2<=m)(c5:m<=32)(b4:2<=l)(y:l<=16)(c0:∀a,a<f+1->n a=Z0->1<=R a)(c3:∀c,c=Kr d (f+1) n s (ZK d+1) [] 0->c.2.2=0->kt c.1/\(∀c8∈c.1,F c8.2=f+1)/\(∀a,q a=Cp Ra (n a) (R a) l m (Bn c.1 a) (Jp c.1))/\∀a,a<f+1->Rq (q a)/\(q a).a=n a/\(q a).b<=16):C_ 126 #[P_ b] k λS g=>RcP k b i f p l m o d q (Kr d (f+1) n s (ZK d+1) [] 0) S g:=by
 have⟨⟨_,_,_,_,_⟩,d5,_,d6⟩:=G.cells;have d9:=R_ 7 _ _ G;have⟨A,N⟩:=W_ (ZO k (J b 7) (ZR Z0));have t:Aa (λe=>e=b) k A:=N ▸ ((Aa.refl (λe=>e=b) k).setCell (p:=(J b 7)) (λ_=>X) _);have b2:ra A b i (f+1) p l m o d 0 0 Z0:=N ▸ (ht_ 7 _ _ _ G);have a0:Du A _ 0 _ n s _:=⟨v.k,λe3=>Qh (v.lt e3) t.size,λa z=>by rw[<- v.t a z];simp[ZV,t.block i M a4],λa z=>by rw[<- v.D a z];simp[ZV,t.block i M a4],λa z=>by rw[<- v.G a z];simp[ZV,t.block i M a4]⟩;have c1:=Qh M t.size;have a9:=Y (λh g=>wk _ p d l m o h (a0.q g) (Qh c1 g.size) a3 c6 c2);have x:=c3 _ X;generalize Kr d (f+1) n s (ZK d+1) [] 0=c at *
 have⟨P,a8,b0⟩:=y3_ (λh j r D g e u w=>Zh6 p D r f j q h (a0.q g) w (x e).1 u a3 b6 c4 c5 b4 y c0 (x e).2.2.1 (x e).2.2.2) (λe=>(x e).2.1) N;have u:=K_ b2 t;have⟨D,a2⟩:=W_ (f+1);have Q:=Y a2;rw[<- a2] at a9 P a8 u;clear G v a0 N b2 t c2 c3 x c0 c6 a2 a3 b6 c4 c5 b4 y c1;refine q_ ?_;go_upto_region 6 with fail;rw[<- b0];clear b0 d5 d6 d9;have b7:=u.1.cells.1;refine Af (λg=>ZV g _=T _/\ZV g _=T _/\ZV g _=T _/\ZV g _=T _/\ZV g _=T _) 9 k_ b7 (λhHeld=>?_);refine G_ ?_;refine on_ 8 λKK hK=>?_;go_simp;apply (a9 _ y_.drew).m;rintro S j ⟨d0,f2,w,rfl,f1,c7,a1,L,b3,y⟩;have r:Below (B A.1) _ _:=y_.drew.T y;have W:ra _ _ _ D _ _ _ _ d 0 0 _:=(r.block _ (Qb u.1).1).T u.1;have a7:=u.2.q r
 obtain⟨a6,c9,rfl⟩:=a1.d
 have h:K (Fl j d0 d c.2.1 c.2.2 (V a6 (F w) c9)/\ra j b i D p l m o d 0 0 Z0/\Aa (λe=>e=b) k j/\B k.1<=B j.1/\E_ A j/\F w=F c.1/\F w<=200/\(c.2.2=0->Xq j a6 (F w) D c.1)):=⟨c7,W,a7,a7.size,r,by rw[<- L];simp,b3,λe=>by
  rw[<- L]
  refine a1.h X (λc8 g=>a8 e _ (by rw[<- L];exact mem_map_of_mem g)) (by rw[Q];omega)⟩
 have b8:=W.cells.1;clear c7 W a7 y r u b7 a1 L b3;go_simp;refine hK _ _ b8 (λhHeld=>?_);clear hK KK;try simp only[Act.put,setIfInBounds_toArray,set_cons_succ,set_cons_zero]
 refine le_ ?_;have⟨_,d8,b1,_⟩:=h.1.cells
 by_cases e:c.2.2=0
 ·have e4:(c.2.2 !=0)=ZZ:=(by rw[e];rfl);rw[e] at b1;go_upto_region 9 with fail;have b9:D_ j b 0 (L_ i D p)/\D_ j b 1 (I l)/\D_ j b 2 (I m)/\D_ j b 3 (I o)/\D_ j d0 3 (V a6 (F w) c9):=w_;clear d8 b1 b8;refine Af (λg=>ZV g _=T _/\ZV g _=T _/\ZV g _=T _/\ZV g _=T _/\ZV g _=T _) 8 k_ b9 (λhHeld=>?_);refine G_ ?_;refine la1_ λKK hK=>?_;go_simp;apply (P _ _ _ _ (h.2.2.2.2.1.T (y_.drew)) e h.2.2.2.2.2.2.1 ((h.2.2.2.2.2.2.2 e).q y_.drew)).m;rintro S f0 ⟨d1,rfl,g,r⟩
  have d2:K (RcP k b i f p l m o d q c (ZI (Y5 #[P_ d1,I 0,I 0])) f0):=(by have b5:Below (B j.1) _ _:=y_.drew.T r;have a5:=h.2.1;rw[Q] at a5;rw[h.2.2.2.2.2.1] at g;obtain⟨e8,e6,e7,e9,e5,d4,d7,d3,e0,e1,e2⟩:=g;exact⟨(b5.block _ (Qb a5).1).T a5,h.2.2.1.q b5,ZJ ⟨e,d1,X,e8,e6,e7,e9,e5,d4,d7,d3,e0.m h.2.2.2.1,e1,e2⟩⟩);clear g r b9 h P;go_simp;apply hK _ _;clear hK KK;try simp only[Act.put,setIfInBounds_toArray,set_cons_succ,set_cons_zero]
  refine Ew (i:=9) k_ X k_ (λKK hK=>?_);go_simp;apply hK _ _;clear hK KK;try simp only[Act.put,setIfInBounds_toArray,set_cons_succ,set_cons_zero]
  refine Ew (i:=10) k_ X k_ (λKK hK=>?_);go_simp;apply hK _ _;clear hK KK;try simp only[Act.put,setIfInBounds_toArray,set_cons_succ,set_cons_zero]
  refine Ew (i:=11) k_ X k_ (λKK hK=>?_);go_simp;apply hK _ _;clear hK KK;try simp only[Act.put,setIfInBounds_toArray,set_cons_succ,set_cons_zero]
  refine Fr k_ ?_ _;go_wp2;go_ret3
  exact d2
 have e4:=bne_iff_ne.2 e;go_upto_region 8 with fail;go_quiet (fail);go_wp2;go_ret3
 rw[Q] at h;exact⟨h.2.1,h.2.2.1.drewN _,ZM ⟨e,X⟩⟩
def ZkJ b:∀a,a<=4->Ba (b+4294967296) a=Ba b a:=λa c=>by
 rcases(show a=0∨a=1∨a=2∨a=3∨a=4 by omega) with rfl|rfl|rfl|rfl|rfl
 rfl
 all_goals
  simp only[Ba,Tu,nil_append,cons_append]
  grind [Ba,Tu]
def Zcd a b d (f:b<=4)(g: -4294967296<=a)(h:a<=1000000000000):C_ 135 #[I a,I (b:H)] d (U_ (YW (ZB (Ba a b))) d):=by
 by_cases e:0<=a
 have c:ZL a=a:=O;have:=To a (ZL a) b d O O (ZM ⟨e,c.s⟩);rw[c] at this;exact this;have c:ZL (a+4294967296)=a+4294967296:=O;have:=To a (ZL (a+4294967296)) b d O O (ZJ ⟨O,O⟩);rw[c,ZkJ a b f] at this;exact this
def ZdB{a}(b:Ec a):Ab (ZB a)=a:=by
 unfold Ab ZB;simp only[map_map]
 conv=>rhs;rw[<- map_id a]
 refine map_congr_left λd c=>?_;have:=b d c
 grind [UInt8.toNat_ofNat']
def Zn3:∀(a:U E) {z:H},z<4294967296->Ec a->nF z a<4294967296
 |[],z,b,_=>by simpa [nF,nJ,ZcT] using b
 |d::a,z,b,c=>by have e:=c d s_;rw[zp z e];exact Zn3 a (ZbJ (xor_lt_two_pow (n:=32) b O) 8) (λg f=>c g (by simp[f]))
def Zoy{a}(b:Ec a):0<=Gy a/\Gy a<4294967296:=by
 have d:Zg5 a=_:=lp a (z:=4294967295) C b;have c:=Zn3 a (z:=4294967295) C b;unfold Gy;rw[d];have e:=Xu 4294967295 _ C c;have f:4294967295^^^_<_:=xor_lt_two_pow (n:=32) C c
 grind
def fx a c (f:Ec a)(o:F a<=1000000):C_ 134 #[Q_ (ZB a)] c (U_ (YW (ZB (a++Ba (Gy a) 4))) c):=by
 have d:=Zb9 (ZB a) c (by rw[Bi];omega);rw[ZdB f] at d;have n:=Zoy f;have j:K (∀b,Calls _ _ #[_,ZX _ 4] b λe _=>_):=λb=>Zcd (Gy a) 4 b O O O;have i:K (ZB (a++Ba (Gy a) 4)=_):=(Nn _ _).s;have s:¬9223372036854775807<ZK (ZB a)+ZK (ZB (Ba (Gy a) 4)):=(by rw[Bi,Bi,Dr];omega);generalize ZB a=l at *;generalize ZB (Ba (Gy a) 4)=p at *;generalize Gy a=m at *;refine dl_ ?_;go_enter func134,ntmps134;go_wp2_with fail
 apply d.m;rintro e q ⟨rfl,k⟩;obtain rfl:=k.s;go_wp2_with fail
 apply (j _).m;rintro e r ⟨rfl,g⟩;have h:=Y g;clear g;go_wp2;go_ret;exact⟨by rw[i];rfl,h⟩
def Zd7{i p k:H}{f a b l}(j:Pi l i p b)(s:¬(0<=f/\f<(k:E)/\0<=a/\a<(F b.g:E)))(z:F b.g<=1000)(x:0<F b.f)(q:F (Z b.f 0 Df).N=k)(N:k<=1000):C_ 44 #[P_ i,I f,I a] l (U_ (Y5 #[ZX ZQ 0,ZX ZQ 1]) l):=by
 have M:=n_ 0 j.f;have v:=Y j;have⟨R,Q,S,P,L,w,r⟩:=j.g;have c:=Nd _ w l r.v x;rw[q] at c
 have m:K (¬(0<=a/\a<F b.g)->∀d:ZT,Pi d i p b->C_ 52 #[P_ i,I a] d (V_ (ZR ZZ) d)):=λn d y=>by have e:=Jk _ _ b a d y z;have g:ZE (0<=a/\a<=F b.g-1)=ZZ:=w_;rw[g] at e;exact e
 clear j r q
 by_cases t:0<=f/\f<=(k:E)-1
 ·have n:¬(0<=a/\a<F b.g):=O;have u:=Y (m n);clear s n m;refine dl_ ?_;go_enter func44,ntmps44;go_wp2_with fail
  apply c.m;rintro h D ⟨rfl,e⟩;have g:=Y e;clear e c;go_wp2_with fail
  apply (Xf t).m;rintro h G ⟨rfl,o⟩;obtain rfl:=o.s;go_wp2_with fail
  apply (u _ (v.q g)).m;rintro h W ⟨rfl,A⟩;obtain rfl:=A.s;go_wp2;go_ret2
  exact⟨X,g⟩
 clear s m;go_enter func44,ntmps44;go_wp2_with fail
 apply c.m;rintro h D ⟨rfl,e⟩;have g:=Y e;clear e c;go_wp2_with fail
 apply (xd t).m;rintro h G ⟨rfl,o⟩;obtain rfl:=o.s;go_wp2;go_ret2
 exact⟨X,g⟩
def Zd5{d h} a {c} b (e:Pi b d h c)(j:¬(0<=a/\a<(F c.g:E)))(k:F c.g<=1000):C_ 27 #[P_ d,I a] b (V_ (Y5 #[ZH ZP 0 0,ZH ZP 0 0,ZX ZQ 1]) b):=by
 have g:C_ 52 #[P_ d,I a] b (V_ (ZR ZZ) b):=(by have f:=Jk _ _ c a b e k;have i:ZE (0<=a/\a<=F c.g-1)=ZZ:=w_;rw[i] at f;exact f);clear e j;refine dl_ ?_;go_enter func27,ntmps27;go_wp2_with fail
 apply g.m;rintro i l ⟨rfl,f⟩;obtain rfl:=f.s;go_wp2;go_ret3
 exact⟨X,X⟩
def esD(e:H)(g:H->ZG)(d:H->E)(c:E)(f:H)(b:RS):U ES:=(range (e+1)).map (λa=>Cp Ra (g a) (d a) c f (b.a a) b.k)
def bbD(e:H)(g:H->ZG)(d:H->E)(c:E)(f:H)(b:RS):U (U H):=(range (e+1)).map (λa=>(b.a a).map (Gq (Cp Ra (g a) (d a) c f (b.a a) b.k)))
def ZpZ(a:H)(f:H->ZG)(d:H->E)(c:E)(e g:H)(b:RS):Ft:=Bx a (F b.k) g (esD a f d c e b) (bbD a f d c e b)
section
variable {m:H} {wd:H->ZG} {sc ct:H->E} {bins:E} {size budget:H} {l:U E} {s:RS}
theorem Ye{a}(b:a<m+1):Z (esD m wd ct bins size s) a Sf=Cp Ra (wd a) (ct a) bins size (s.a a) s.k:=by simp[esD,Qc,b]
theorem Zfw{a}(b:a<m+1):Z (bbD m wd ct bins size s) a []=(s.a a).map (Gq (Cp Ra (wd a) (ct a) bins size (s.a a) s.k)):=by simp[bbD,Qc,b]
structure Zjg(m)(s):Prop where
 a:Ja (m+1) s
 val:Vd (m+1) s
def Zq7(c:∀a,a<m+1->wd a=ZZ->0<=sc a/\sc a<=3)(b:Bt (m+1) wd sc RS.h l 0=.ok s):Zjg m s:=
 ⟨Ja.a O c l (Ja.h (show 1<=m+1 by omega)) b,Vd.a O c l (Vd.h) (Ja.h (show 1<=m+1 by omega)) b⟩
def Zjg.b(d:Zjg m s)(c:xg Ra m wd ct bins size s):em m (F s.k) (esD m wd ct bins size s) (bbD m wd ct bins size s):=by
 refine⟨by simp[esD],λb a=>?_,λb a=>?_,λb a=>?_,λb a e f=>?_⟩;rw[Zfw a,length_map];exact d.a.j b a;rw[Ye a];exact(c.ok b a).1;rw[Ye a];exact(c.ok b a).2.2
 grind [Zfw,Ye,xz]
def Zjg.w(b:Zjg m s)(f:2<=size)(g:size<=32)(d:2<=bins)(e:bins<=16):∀K∈(ZpZ m wd ct bins size budget s).g,Xl K:=by intro K hK;rw[show(ZpZ m wd ct bins size budget s).g=Ex (esD m wd ct bins size s) (bbD m wd ct bins size s) (m+1) from Pk _ _ _ _ _] at hK;unfold Ex at hK;obtain⟨c,a,rfl⟩:=mem_map.1 hK;have a:=mem_range.1 a;unfold kF;rw[Ye a];exact ZkC ((b.a.j c a) ▸ b.a.k) f g d e (b.val.j c a)
end
end Go.Proofs.YtfcgnpchbcmdeaaGreat
