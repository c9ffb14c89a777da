import Derived.Test.YtfcgnpchbcmdeaaGreatZsar
import Derived.Sort.KeysCollected
open Array renaming toList->Y4,size->B
open _root_ renaming Nat->H,List->U,rfl->X,Bool->ZG,Int->E,ByteArray->ZC,Option->Y0,Nat->Z8
open List renaming length->F,getD->Z,replicate->Y6,take->ZU,drop->ZF
open Or renaming inr->ZJ,inl->ZM
open Decidable renaming decide->ZE
open Bool renaming true->Z0,false->ZZ
open Go.Value renaming bool->ZR,int->ZX,agg->Y9,tuple->Y5,func->YX,ownBlock->ZW,slice->ZH,string->YW
open Go.IntKind renaming i64->ZQ
open Go renaming World->ZT,Value->ZY,maxLen->Y2,strOfNums->ZB
open Go.World renaming alloc->ZN,ownsRow->ZD,grownBy->Y3,cell?->ZV,setCell->ZO,drew->YY
open Go.Ending renaming returned->ZI
open Go.Proofs.Tryz renaming prog->Y8
open Option renaming some->T,none->ZP
open Int renaming toNat->ZL
open ByteArray renaming size->ZK
open Go.Proofs renaming intOf->ZA
open Go.Obj renaming cells->YU
namespace Go.Proofs.YtfcgnpchbcmdeaaGreat
set_option linter.all false
set_option maxRecDepth 100000
set_option maxHeartbeats 8000000
open Go.RowKit Go.Sort List Nat Go.World Go.Proofs.Tryz Go.Value Go.IntKind Go.Lib Go.Region
theorem cs a b:(Dp a b).Perm (range (a+1)):=by
 have⟨g,_,d⟩:=(insertionSort_holds (lt:=ltOf (Vg (m:=a+1) b)) (Zpn b) (Js a) 0 (a+1) v_ (by simp[Js])).1;have e:(insertionSort (ltOf (Vg (m:=a+1) b)) (Js a) 0 (a+1)).extract 0 (a+1)=insertionSort (ltOf (Vg (m:=a+1) b)) (Js a) 0 (a+1):=(by apply Array.extract_eq_self_of_le;rw[g];simp[Js]);have f:(Js a).extract 0 (a+1)=Js a:=w_;rw[e,f] at d;have h:=d.map (λc=>c.val);unfold Dp;apply h.T
 have:(Y4 (Js a)).map (λc=>c.val)=range (a+1):=by
  apply ext_getElem?;intro c;unfold Js;rw[getElem?_map,Array.getElem?_toList,Array.getElem?_ofFn]
  by_cases i:c<a+1
  ·grind
  grind
 rw[this]
def He(b:U GS):U H:=b.flatMap (λa=>a.fs)
theorem fg{i j:Type}{f}:∀(a:U i) e c d (b:U j),f c=f a[e]++b->((a.set e c).flatMap f).Perm (a.flatMap f++b)
 |[],e,c,d,b,g=>by simp at d
 |h::a,0,c,d,b,g=>by grind [List.Perm.append_left,perm_append_comm]
 |h::a,e+1,c,d,b,g=>by simp only[set_cons_succ,flatMap_cons,append_assoc];exact List.Perm.append_left _ (fg a e c (by simpa using d) b g)
theorem Zby c d f e a b:(He (Be c d f e a b)).Perm (He a++[b]):=by grind [Be,He,fg,Ve,Ju]
theorem Zga{c d f e}:∀b a,(He (b.foldl (Be c d f e) a)).Perm (He a++b)
 |[],a=>s_
 | g::b,a=>by
  simp only[foldl_cons];apply (Zga _ _).T
  grind [Zby]
theorem Pr a b c e d:(He (Ib a b c e d)).Perm (range (a+1)):=by grind [Ib,Zga,He,cs]
def Wv c a b d e:(He (Ib c a b d e)).Nodup:=(Pr c a b d _).nodup_iff.2 nodup_range
def ZbA{c d g e b f}(h:∀a∈b,0<F a.fs):∀a∈Be c d g e b f,0<F a.fs:=by grind [Be,Ve]
def Zgc{e f h g}:∀(c:U H) b,(∀a∈b,0<F a.fs)->∀a∈c.foldl (Be e f h g) b,0<F a.fs
 |[],_,d=>d
 |i::c,b,d=>Zgc c _ (ZbA d)
def Zky e b c f d:∀a∈Ib e b c f d,0<F a.fs:=Zgc _ _ s_
def Nx(c:U XS):Prop:=c.Pairwise (λa b=>a.M≠b.M∨a.f≠b.f)
def Zi{e g d f}:∀c,∀b∈Jv e g d f c,b.f=e/\b.M<c/\b.i=Z d b.M 0
 |0,b,a=>by simp[Jv] at a
 | c+1,b,a=>by
  rw[Jv,mem_append] at a
  rcases a with a|a
  have:=Zi c b a;omega
  grind [Zil]
def vq{e d b c}:∀a,Nx (Jv e d b c a)
 |0=>by simp[Jv,Nx]
 | a+1=>by
  unfold Nx;rw[Jv,pairwise_append];refine⟨vq a,by unfold Zil;split<;>simp,λg f j i=>?_⟩;have h:=(Zi a g f).2.1
  grind [Zil]
def Yb j k i h:∀(b a:U H) c,Nx c.r->(∀d∈c.r,d.f∈a)->(a++b).Nodup->Nx (b.foldl (Al j k i h) c).r/\∀d∈(b.foldl (Al j k i h) c).r,d.f∈a++b
 |[],a,c,g,l,_=>⟨g,by simpa using l⟩
 | f ::b,a,c,g,l,m=>by
  simp only[foldl_cons];have n:a++f::b=(a++[f])++b:=s_;rw[n] at m ⊢;refine Yb _ _ _ h _ _ _ ?_ ?_ m
  ·show Nx (c.r++Jv f _ _ _ _);unfold Nx;rw[pairwise_append];refine⟨g,vq _,λd e p o=>ZJ ?_⟩;rw[(Zi _ p o).1]
   grind
  intro d e
  rcases mem_append.1 e with e|e
  ·grind
  rw[(Zi _ d e).1];simp
def tr{i h} d:∀c b a,Nx a.r->(∀e∈a.r,e.f∈b)->(b++He c).Nodup->Nx (c.foldl (Lq i h d) a).r
 |[],b,a,f,_,_=>f
 |e::c,b,a,f,m,g=>by simp only[foldl_cons];have l:b++He (e::c)=(b++e.fs)++He c:=(by simp[He]);rw[l] at g;have⟨j,k⟩:=Yb a.g i h d e.fs b ⟨Y6 d 0,a.r,1⟩ f m (nodup_append.1 g).1;exact tr d _ _ _ j k g
def np a b d e c:Nx (Bx a b d e c).r:=
 tr _ _ [] _ (by simp[Nx]) s_ (by simpa using Wv a _ _ b _)
def Xc{b c d}(k:Nx b)(g:c.Perm b)(l:Em c)(h:d.Perm b)(m:Em d):c=d:=by
 refine List.Perm.eq_of_pairwise (le:=λa e:XS=>a.M<e.M∨a.M=e.M/\a.f<=e.f) (λr s n o t u=>?_) l m (g.T h.s);have p:=g.subset n;have q:=h.subset o;obtain⟨e,i,rfl⟩:=aM p;obtain⟨f,j,rfl⟩:=aM q
 rcases Nat.lt_trichotomy e f with a|a|a
 have:=pairwise_iff_getElem.1 k e f i j a;omega;subst a;rfl;have:=pairwise_iff_getElem.1 k f e j i a;omega
end Go.Proofs.YtfcgnpchbcmdeaaGreat
namespace Go.Proofs.YtfcgnpchbcmdeaaGreat
set_option linter.all false
set_option maxRecDepth 100000
set_option maxHeartbeats 8000000
open Go.RowKit List Nat Go.World Go.Proofs.Tryz Go.Value Go.IntKind Go.Lib Go.Region
def Znq{a d e b c f}(j:∀x∈c,x<a)(h:0<a)(i:∀g,Z b g 0<d):∀x∈Jn a e b c f,x<a+d:=by grind [Jn,pi]
structure ZgG(b)(a:CS):Prop where
 y:F a.N=b
 f:0<a.off
 lt:∀c∈a.N,c<a.off
def Wo{g Os f b}:∀(e:U H) c,(∀d∈e,∀a,Z (Z f d []) a 0<(Z g d Aj).g)->ZgG b c->ZgG b (e.foldl (Al g Os f b) c)
 |[],c,_,a=>a
 |d::e,c,h,a=>by simp only[foldl_cons];refine Wo _ _ (λi j=>h i (by simp[j])) ⟨?_,?_,?_⟩;show F (Jn _ _ _ _ b)=b;rw[ox (p_ a.y)];exact a.y;show 0<c.off+_;have:=a.f;omega;exact Znq a.lt a.f (h d s_)
def jj{c f b e xs a}(g:∀d∈a,∀h,Z (Z b d []) h 0<(Z c d Aj).g):ZgG e (Jr c f b e xs a):=
 Wo a _ g ⟨s_,s_,w_⟩
structure BOk(b)(c)(a:BS):Prop where
 y:F a.N=c
 k:∀d∈a.N,d<=a.g
 sum:a.g=Bk b a.fs
def xv{Os Bb n Ks}:∀(d:U GS) b,b.g=Ks->(∀c∈d,∀a∈c.fs,∀e,Z (Z Bb a []) e 0<(Z Ks a Aj).g)->(∀a∈b.f,BOk Ks n a)->(∀a∈(d.foldl (Lq Os Bb n) b).f,BOk Ks n a)/\(d.foldl (Lq Os Bb n) b).f.map (λa=>a.fs)=b.f.map (λa=>a.fs)++d.map (λc=>c.fs)
 |[],b,_,_,f=>⟨f,s_⟩
 | c ::d,b,i,g,f=>by
  simp only[foldl_cons]
  obtain⟨j,a⟩:=xv (Os:=Os) d (Lq Os Bb n b c) i (λk m=>g k (by simp[m])) (λa l=>by
   rcases mem_append.1 l with e|e
   exact f a e;simp only[mem_cons,not_mem_nil,or_false] at e;subst e;have h:ZgG n (Jr b.g Os _ n b.r _):=jj (i ▸ (g c s_));refine⟨h.y,λp o=>?_,?_⟩
   ·have:=h.lt p o
    grind
   grind [ll])
  refine⟨j,?_⟩;rw[a];simp[Lq]
def De(a:Ft)(c:H):H:=a.f.findIdx (λb=>ZE (c∈b.fs))
def Iy(a:Ft)(b:H):H:=(Z a.f (De a b) Df).fs.idxOf b
def Zgw{D a}(j:∃b∈D.f,a∈b.fs)(u:∀b∈D.f,F b.fs<=100)(t:∀b∈D.f,∀x∈b.fs,x<F D.g)(p:∀c,c<F D.g->(Z D.g c Aj).g<=100):Wh D a (De D a) (Iy D a):=by
 obtain⟨b,k,l⟩:=j;have e:De D a<_:=findIdx_lt_length_of_exists ⟨b,k,by simpa using l⟩;have m:∀c _,Z D.f c Df=D.f[c]:=w_
 have n:a∈(Z D.f (De D a) Df).fs:=(by rw[m _ e];have:=findIdx_getElem (p:=λb:BS=>ZE (a∈b.fs)) (w:=e);exact of_decide_eq_true this);have g:Iy D a<_:=idxOf_lt_length_of_mem n;refine⟨e,g,?_,?_,?_,?_,p⟩;rw[Qc,Qd g];exact getElem_idxOf _
 ·intro c r v o q
  rcases q with d|d
  ·have h:=not_of_lt_findIdx (p:=λb:BS=>ZE _) (xs:=D.f) d
   grind
  rcases Nat.lt_or_ge c (De D a) with f|f
  ·have h:=not_of_lt_findIdx (p:=λb:BS=>ZE _) (xs:=D.f) f
   grind
  have h:c=De D a:=O;subst h;intro i;rw[Qc,Qd o] at i;have s:=not_of_lt_findIdx (p:=(· ==a)) (xs:=(Z D.f _ _).fs) (i:=r) d
  grind
 ·grind
 grind [Qf]
def XIn(a:U (U H))(c:H)(b:U H)(x:XS):Prop:=x.M<c/\x.f∈b/\x.i=Z (Z a x.f []) x.M 0
def lm f g c b:∀d h a,(∀e∈a.r,XIn c b h e)->F (d.foldl (Al f g c b) a).r<=F a.r+F d*b/\∀e∈(d.foldl (Al f g c b) a).r,XIn c b (h++d) e
 |[],h,a,l=>⟨s_,by simpa using l⟩
 | k ::d,h,a,l=>by
  simp only[foldl_cons]
  have⟨o,p⟩:=lm f g c b d (h++[k]) (Al f g c b a k) (λe j=>by
   rcases mem_append.1 j with j|j
   have⟨i,m,n⟩:=l e j;exact⟨i,mem_append_left _ m,n⟩;have⟨i,m,n⟩:=Zi _ e j
   exact⟨m,by rw[i];simp,i ▸ n⟩)
  refine⟨?_,w_⟩
  have i:F (Al f g c b a k).r<=F a.r+b:=by
   show F (a.r++Jv _ _ _ _ _)<=_
   grind [Zj]
  rw[length_cons,succ_mul];omega
def Zfu g c b:∀d f a,(∀i∈a.r,XIn c b f i)->F (d.foldl (Lq g c b) a).r<=F a.r+F (He d)*b/\∀i∈(d.foldl (Lq g c b) a).r,XIn c b (f++He d) i
 |[],f,a,h=>⟨s_,by simpa [He] using h⟩
 |e::d,f,a,h=>by simp only[foldl_cons];have⟨j,k⟩:=lm a.g g c b e.fs f ⟨Y6 b 0,a.r,1⟩ h;have⟨m,n⟩:=Zfu g c b d (f++e.fs) (Lq g c b a e) k;have l:He (e::d)=e.fs++He _:=rfl;refine⟨?_,w_⟩;have o:F (Lq _ _ b a e).r<=F a.r+_:=j;rw[l,Qe,Nat.add_mul];omega
structure Kw(e)(a:Ft):Prop where
 w:e<=200
 y:0<F a.g
 i:F a.g<=4
 k:0<F a.f
 l:F a.f<=4
 j:∀b∈a.f,BOk a.g e b
 h:∀b∈a.f,b.g<=40
 o:∀b∈a.f,0<F b.fs
 r:∀b∈a.f,F b.fs<=4
 n:∀b∈a.f,∀d∈b.fs,d<F a.g
 all:∀d,d<F a.g->∃b∈a.f,d∈b.fs
 q:∀c,c<F a.g->(Z a.g c Aj).g<=18
 p:∀c,c<F a.g->(Z a.g c Aj).d<(Z a.g c Aj).g
 x:∀c,c<F a.g->F (Z a.g c Aj).e.f<=1000/\F (Z a.g c Aj).e.c<=1000
 v:Nx a.r
 u:F a.r<=800
 z:∀f∈a.r,f.M<e/\f.f<F a.g/\f.i<18
def ZbG{a e budget c b}(a0:a+1<=4)(A:e<=200)(p:em a e c b):Kw e (Bx a e budget c b):=by
 have s:(Bx a e budget c b).g=_:=Pk _ _ _ _ _;have r:=Ev c b (a+1)
 have u:∀d,_->(Z (Ex c _ (a+1)) d _).g=(Z c d _).b+2:=λd g=>by rw[Gf c b g];rfl
 have a1:∀d,_->(Z (Ex _ _ _) d _).g<=18:=λd g=>by rw[u d g];have:=p.g d g;omega
 have M:∀d,d<a+1->F (Z (Iv c b (a+1)) d [])=e:=λd g=>by rw[Nk c b g];unfold oF Cz;rw[length_map];exact p.p d g
 have Q:∀i,i<a+1->∀v,Z (Z b i []) v 0<(Z (Ex c b (a+1)) i Aj).g:=λi k v=>by
  rw[u i k,Qc]
  rcases Nat.lt_or_ge v (F (Z b i [])) with n|n
  rw[Qd n];exact p.i i k _ (Qf _)
  grind
 have⟨o,a8⟩:=Yt (budget:=budget) M (λd g=>aG (a1 d g) C);have w:=Pr a (Ex c b (a+1)) (Iv c b (a+1)) e budget;have a9:=Zky a (Ex c b (a+1)) (Iv c b (a+1)) e budget;have⟨z,x⟩:=xv (Os:=Iv c b (a+1)) (Bb:=b) (n:=e) (Ks:=Ex c b (a+1)) (Ib a (Ex c b (a+1)) (Iv c b (a+1)) e budget) ⟨Ex c b (a+1),[],[]⟩ X (λf j i k=>Q i ((o f j).fs i k)) s_;have⟨G,D⟩:=Zfu (Iv c b (a+1)) b e (Ib a (Ex c b (a+1)) (Iv c b (a+1)) e budget) [] ⟨Ex c b (a+1),[],[]⟩ s_;have R:∀h∈(Bx a e _ _ _).f,_:=z;have P:(Bx a e budget c b).f.map (λh=>h.fs)=(Ib a (Ex c b (a+1)) (Iv c b (a+1)) e budget).map (λf=>f.fs):=(by rw[show(Bx a e budget c b).f=_ from X];exact x);have a4:F (Bx a e _ _ _).r<=0+_:=G
 have a3:∀L∈(Bx a e _ _ _).r,_:=D;have W:=np a e budget c b;clear z x G D;generalize Bx a e budget c b=q at *;generalize Ib a (Ex c b (a+1)) (Iv c b (a+1)) e budget=m at *
 have y:F q.f=F m:=by have:=congrArg F P;simpa using this
 have t:∀h∈q.f,∃f∈m,f.fs=h.fs:=λh l=>by
  have:h.fs∈q.f.map (λh=>h.fs):=mem_map.2 ⟨h,l,X⟩
  grind
 have a7:∀f∈m,∃h∈q.f,h.fs=f.fs:=λf j=>by
  have:f.fs∈m.map (λf=>f.fs):=mem_map.2 ⟨f,j,X⟩
  grind
 have S:=λi k=>by have:i∈He m:=w.mem_iff.2 (mem_range.2 k);exact mem_flatMap.1 this
 have N:F (He m)=a+1:=(by rw[w.length_eq,length_range]);constructor;exact A
 ·grind
 ·grind
 ·rw[y];have⟨f,j,_⟩:=S 0 O
  grind
 rw[y];omega
 ·grind
 intro h l;have⟨f,j,n⟩:=t h l;rw[(R h l).sum,<- n,<- (o f j).sum];exact(o f j).k
 ·grind
 intro h l;have⟨f,j,n⟩:=t h l;rw[<- n];have:=(o f j).y;omega;intro h l i k;have⟨f,j,n⟩:=t h l;rw[s,r];exact(o f j).fs i (n ▸ k)
 ·intro i k;rw[s,r] at k
  grind
 ·grind
 intro d g;rw[s] at g ⊢;rw[r] at g;rw[u d g,Gf c b g];show Yc _ _<_;have:=ZbI (Z b d []) (show 0<(Z c d Sf).b+2 by omega);rw[ZfM] at this;omega;intro d g;rw[s] at g ⊢;rw[r] at g;rw[Gf c b g];exact⟨(p.ok d g).p,(p.ok d g).u⟩;exact W;rw[N] at a4;have:(a+1)*e<=4*200:=Nat.mul_le_mul a0 A;omega;intro L a2;have⟨n,a5,a6⟩:=a3 L a2
 grind
theorem Zh{f d b c e a}(g:a<e):Z (Jn f d b c e) a 0=pi f d b c a:=by grind [Jn]
def ZbH{f e c d}:∀b a,a∈Jv f e c d b↔a.f=f/\a.M<b/\Z e a.M ZZ=Z0/\Z d a.M 0≠0/\a.i=Z c a.M 0
 |0,a=>by simp[Jv]
 | b+1,a=>by
  rw[Jv,mem_append,ZbH b];obtain⟨i,h,g⟩:=a
  grind [Zil]
section
variable {Ks:U KS} {Os:U (U ZG)} {Bb:U (U H)} {n:H}
def av:∀(c:U H) (a:CS),0<a.off->∀b,b<n->(Z a.N b 0≠0->Z (c.foldl (Al Ks Os Bb n) a).N b 0=Z a.N b 0)/\(Z a.N b 0=0->Z (c.foldl (Al Ks Os Bb n) a).N b 0=0∨a.off<=Z (c.foldl (Al Ks Os Bb n) a).N b 0)
 |[],a,_,b,_=>⟨λ_=>X,λf=>ZM f⟩
 | d::c,a,j,b,e=>by
  simp only[foldl_cons];have k:Z (Al Ks Os Bb n a d).N b 0=_:=Zh e;have g:(Al Ks Os Bb n a d).off=_+_:=rfl;have⟨h,i⟩:=av c (Al Ks Os Bb n a d) (p_ g) b e
  grind [pi]
def ZjO:∀(c:U H) (a b:CS),a.N=b.N->a.off=b.off->(c.foldl (Al Ks Os Bb n) a).N=(c.foldl (Al Ks Os Bb n) b).N/\(c.foldl (Al Ks Os Bb n) a).off=(c.foldl (Al Ks Os Bb n) b).off
 |[],_,_,e,d=>⟨e,d⟩
 |f::c,a,b,e,d=>by simp only[foldl_cons];refine ZjO _ _ _ ?_ ?_;show Jn _ _ _ _ _=Jn _ _ _ _ _;rw[e,d];show a.off+_=b.off+_;rw[d]
def Ke(Ks:U KS)(Os:U (U ZG))(Bb:U (U H))(n:H)(a:U H):U H:=(Jr Ks Os Bb n [] a).N
theorem ZjM b a:(Jr Ks Os Bb n b a).N=Ke Ks Os Bb n a:=(ZjO a ⟨Y6 n 0,b,1⟩ ⟨Y6 n 0,[],1⟩ X X).1
def Zgf:∀(e:U H) (d:CS) (a:XS),a∈(e.foldl (Al Ks Os Bb n) d).r↔a∈d.r∨∃b f,e=b++a.f::f/\a.M<n/\Z (Z Os a.f []) a.M ZZ=Z0/\Z (b.foldl (Al Ks Os Bb n) d).N a.M 0≠0/\a.i=Z (Z Bb a.f []) a.M 0
 |[],d,a=>s_
 | g ::e,d,a=>by
  simp only[foldl_cons];rw[Zgf e (Al Ks Os Bb n d g) a];have h:a∈(Al Ks Os Bb n d g).r↔_:=mem_append;rw[h,ZbH];constructor;rintro((c|⟨rfl,c⟩)|⟨b,f,rfl,c⟩);exact ZM c;exact ZJ ⟨[],e,X,c⟩;exact ZJ ⟨g::b,f,X,c⟩;rintro(c|⟨b,f,j,c⟩)
  ·grind
  cases b with
  | nil=>
   grind
  | cons i b=>
   grind
def nv:∀(e:U GS) (b:Ft) (a:XS),b.g=Ks->(a∈(e.foldl (Lq Os Bb n) b).r↔a∈b.r∨∃d∈e,∃c f,d.fs=c++a.f::f/\a.M<n/\Z (Z Os a.f []) a.M ZZ=Z0/\Z (Ke Ks Os Bb n c) a.M 0≠0/\a.i=Z (Z Bb a.f []) a.M 0)
 |[],b,a,_=>s_
 | d::e,b,a,f=>by
  simp only[foldl_cons];rw[nv e (Lq Os Bb n b d) a f];have g:a∈(Lq Os Bb n b d).r↔a∈(d.fs.foldl (Al Ks Os Bb n) ⟨Y6 n 0,b.r,1⟩).r:=(by rw[<- f];rfl);rw[g,Zgf];have h:∀c,(c.foldl (Al _ _ Bb n) _).N=Ke Ks Os _ n c:=λc=>ZjM b.r c
  grind
def Zdg:∀(d:U GS) (b:Ft),b.g=Ks->(∀a∈b.f,a.N=Ke Ks Os Bb n a.fs)->∀a∈(d.foldl (Lq Os Bb n) b).f,a.N=Ke Ks Os Bb n a.fs
 |[],_,_,c=>c
 | h::d,b,g,c=>by
  simp only[foldl_cons];refine Zdg _ _ g (λa f=>?_)
  rcases mem_append.1 f with e|e
  exact c a e
  grind [ZjM]
end
def Kw.a{g a}(b:Kw g a){f}(e:f<F a.g):Wh a f (De a f) (Iy a f):=
 Zgw (b.all f e) (λc d=>aG (b.r c d) C) b.n (λd c=>aG (b.q d c) C)
def ZkG{b d i c a}(a9:b+1<=4)(b1:d<=200)(D:em b d c a){v}(b6:v.Perm (Bx b d i c a).r){f e}(A:f<b+1)(q:e<d):Tk (Bx b d i c a) v f (De (Bx b d i c a) f) (Iy (Bx b d i c a) f) e=Z (Z a f []) e 0:=by
 have z:=ZbG (budget:=i) a9 b1 D;have G:(Bx b d i c a).g=_:=Pk _ _ _ _ _;have a8:=Ev c a (b+1);have t:=z.a (f:=f) w_
 have N:∀j,j<b+1->∀L,Z (Z a j []) L 0<(Z (Ex c a (b+1)) j Aj).g:=λj o L=>by
  rw[Gf c a o];show _<(Z c j Sf).b+2;rw[Qc]
  rcases Nat.lt_or_ge L (F (Z a j [])) with g|g
  rw[Qd g];exact D.i j o _ (Qf _)
  grind
 have b0:∀n,n∈(Bx b d _ _ _).r↔_:=λn=>nv (Ks:=Ex _ _ _) (Os:=Iv c _ _) (Bb:=a) (n:=d) (Ib b _ _ d i) _ n X;have a6:∀r∈(Bx b d _ _ _).f,_=Ke (Ex _ _ _) _ _ d _:=Zdg (Ib b _ (Iv c a _) d i) _ X s_;have b7:(Bx b d i c a).f.map (λr=>r.fs)=(Ib b (Ex c a (b+1)) (Iv c a (b+1)) d i).map (λl=>l.fs):=by have g:=(xv (Os:=Iv c a (b+1)) (Bb:=a) (n:=d) (Ks:=Ex _ _ _) _ ⟨Ex _ a _,[],[]⟩ X (λl w j o=>N j (mem_range.1 ((Pr b (Ex c a (b+1)) (Iv c a (b+1)) d i).mem_iff.1 (mem_flatMap.2 ⟨l,w,o⟩)))) s_).2;rw[show(Bx b d i c a).f=_ from X];exact g
 have b5:Z (Z (Iv c a (b+1)) f []) e ZZ=ZE (Z (Z a f []) e 0≠(Z (Ex c a (b+1)) f Aj).d):=by rw[Nk c a A,Gf c a A];have s:e<F (Z a f []):=(D.p f A) ▸ q;unfold oF Cz;rw[Qc,getElem?_map,Qd s,Qc (l:=Z a f []),Qd s];rfl
 have R:=z.n;clear z;generalize Bx b d i c a=h at *;generalize Ib b (Ex c a (b+1)) (Iv c a (b+1)) d i=a3 at *;rw[G] at R;generalize De h f=k at *;generalize Iy h f=m at *;have x:Z h.f k Df∈h.f:=by rw[Qc,Qd t.h];grind
 have b3:(Z h.f k Df).fs=ZU m ((Z h.f k Df).fs)++f::ZF (m+1) ((Z h.f k Df).fs):=(by have g:=t.g;rw[Qc (l:=(Z h.f k Df).fs),Qd t.i] at g;simp only[Option.getD_some] at g;have l:=take_append_drop m (Z h.f k Df).fs;rw[aN t.i,g] at l;exact l.s);have b2:Lv h k m=1+Bk (Ex c a (b+1)) (ZU m ((Z h.f k Df).fs)):=(by unfold Lv;rw[G]);have S:=R _ x;rw[a8] at S
 have w:∃l∈a3,l.fs=(Z h.f k Df).fs:=by
  have:(Z h.f k Df).fs∈h.f.map (λr=>r.fs):=mem_map.2 ⟨_,x,X⟩
  grind
 unfold Tk;rw[(a6 _ x),b2,G];generalize (Z h.f k Df).fs=M at *;generalize M.take m=g at *;generalize M.drop (m+1)=p at *;subst b3;have P:ZgG d (Jr _ (Iv c a (b+1)) _ d [] g):=jj (λj o=>N j (S j (mem_append_left _ o)));have y:=ll (Ex c a (b+1)) (Iv c a (b+1)) a d [] g;have b9:Z (Ke (Ex c a (b+1)) (Iv c a (b+1)) a d g) e 0<1+Bk (Ex c a (b+1)) g:=by rw[<- y,Qc];have s:e<F (Ke (Ex c a (b+1)) (Iv c a (b+1)) a d g):=(by unfold Ke;rw[P.y];exact q);rw[Qd s];exact P.lt _ (Qf _)
 have Q:Ke (Ex c a (b+1)) (Iv c a (b+1)) a d (g++f::p)=(p.foldl (Al (Ex c a (b+1)) (Iv c a (b+1)) a d) (Al (Ex c a (b+1)) (Iv c a (b+1)) a d (Jr (Ex c a (b+1)) (Iv c a (b+1)) a d [] g) f)).N:=(by grind [Ke,Jr]);have a1:(Al (Ex c a (b+1)) (Iv c a (b+1)) a d (Jr (Ex c a (b+1)) (Iv c a (b+1)) a d [] g) f).off=1+Bk (Ex c a (b+1)) g+(Z (Ex c a (b+1)) f Aj).g:=(by show(Jr _ _ _ _ _ _).off+_=_;rw[y]);have a0:Z (Al (Ex c a (b+1)) (Iv c a (b+1)) a d (Jr (Ex c a (b+1)) (Iv c a (b+1)) a d [] g) f).N e 0=pi (1+Bk (Ex c a (b+1)) g) (Z (Iv c a (b+1)) f []) (Z a f []) (Ke (Ex c a (b+1)) (Iv c a (b+1)) a d g) e:=by rw[<- y];exact Zh q
 obtain⟨s,u⟩:=av (Ks:=Ex c a (b+1)) (Os:=Iv c a (b+1)) (Bb:=a) (n:=d) p _ (by rw[a1];omega) e q;rw[<- Q,a1,a0] at u;rw[<- Q,a0] at s;have c0:∀n∈v,rt e f n->(Z (Z (Iv c a (b+1)) f []) e ZZ=Z0/\n.i=Z (Z a f []) e 0):=w_;generalize (Z (Ke (Ex c a (b+1)) (Iv c a (b+1)) a d (g++f::p))) e 0=n at *;generalize W:Z (Ke (Ex c a (b+1)) (Iv c a (b+1)) a d g) e 0=b4 at *;unfold pi at s u;rw[W] at s u;generalize 1+Bk (Ex c a (b+1)) g=c1 at *
 by_cases a7:Z (Z (Iv c a (b+1)) f []) e ZZ=Z0
 ·by_cases a2:b4=0
  ·grind
  rw[aC (λa4=>a2 a4.2)] at s u;rw[aC O];obtain⟨l,a5,a4⟩:=w;have b8:(⟨_,f,Z (Z a f _) _ 0⟩:XS)∈_:=(b0 _).2 (ZJ ⟨l,a5,g,p,a4,q,a7,W ▸ a2,X⟩);unfold xbF
  grind
 grind [xbF]
end Go.Proofs.YtfcgnpchbcmdeaaGreat
namespace Go.Proofs.YtfcgnpchbcmdeaaGreat
set_option linter.all false
set_option maxRecDepth 100000
set_option maxHeartbeats 8000000
open Go.RowKit Go.Lib Go.Sort List Nat Go.World Go.Proofs.Tryz Go.Value Go.IntKind Go.Lib Go.Region
structure WS where
 a:ZC
 g:E
abbrev Jx(a b:ZC):Prop:=Y4 a.data<Y4 b.data
def yi(a b:ZC):E:=if Jx a b then -1 else if Jx b a then 1 else 0
def Zec x a:C_ 343 #[Q_ x] a (V_ (ZR ZZ) a):=by refine er_ ?_;exact⟨s_,X⟩
def zk a b:Op.bytesLess a.toList b.toList=ZE (Jx a b):=by rw[bytesLess_eq,toList_data,toList_data];try rfl
def ZjW{a b}(c:¬Jx a b)(d:¬Jx b a):a=b:=by
 unfold Jx at c d;have:=List.le_antisymm (List.not_lt.1 d) (List.not_lt.1 c)
 cases a;cases b
 grind
def yj{a b g}:C_ 314 #[Q_ a,Q_ b] g (V_ (ZX ZQ (yi a b)) g):=by
 have j:=zk a b;have d:=Zec
 by_cases f:Jx a b
 ·have c:K (yi a b=_):=aD f;refine q_ ?_;go_wp2_with (go_at_call 343;apply (d _ _).m;rintro e h ⟨rfl,rfl⟩)
  go_ret;exact⟨by rw[c];rfl,X⟩
 have k:Op.bytesLess a.toList b.toList=ZZ:=w_
 by_cases i:Jx b a
 ·have c:K (yi a b=1):=(by show _=_;unfold yi;grind);have l:(a.toList==b.toList)=ZZ:=(by grind [toList_data]);refine q_ ?_;go_wp2_with (go_at_call 343;apply (d _ _).m;rintro e h ⟨rfl,rfl⟩)
  go_ret;exact⟨by rw[c];rfl,X⟩
 obtain rfl:=ZjW f i;have c:K (yi a a=0):=(by show _=_;unfold yi;grind);refine q_ ?_;go_wp2_with (go_at_call 343;apply (d _ _).m;rintro e h ⟨rfl,rfl⟩)
 go_ret;exact⟨by rw[c];rfl,X⟩
def Za5(x a:WS):E:=orI (compareInt a.g x.g) (yi x.a a.a)
def Yp{x f a}:C_ 265 #[Y9 #[Q_ x.a,I x.g],Y9 #[Q_ f.a,I f.g]] a λg c=>g=ZI (ZX ZQ (Za5 x f))/\Gr a c:=by
 have n:K (Za5 x f=orI _ _):=rfl;have l:K (∀b:_,Calls _ _ #[ZX _ f.g,ZX _ x.g] b λg _=>_):=λb=>Tryz.cmp_Compare_int _ _ b;have m:K (∀b:_,Calls _ _ #[Q_ x.a,Q_ f.a] b λg _=>_):=λb=>yj;obtain⟨h,i⟩:=x;obtain⟨j,k⟩:=f;simp only at n l m ⊢;generalize Za5 ⟨h,i⟩ ⟨j,k⟩=A,compareInt k i=u,yi h j=v at *;refine q_ ?_;go_upto_region 1 with fail;generalize e:ZN (ZN a (O_ #[Q_ h,I i] 358)) (O_ #[Q_ j,I k] 358)=d;have z:B d.1=B a.1+1+1:=(by rw[<- e];simp);have p:K (Gr a d):=(by show Gr _ _;rw[<- e];exact((Gr.refl).alloc _).alloc _);have q:D_ d (B a.1) 0 (Q_ h):=(by rw[<- e];simp[go_sem]);have r:D_ d (B a.1) 1 (I i):=(by rw[<- e];simp[go_sem]);have s:D_ d (B a.1+1) 0 (Q_ j):=by rw[<- e];simp[go_sem]
 have t:D_ d (B a.1+1) 1 (I k):=(by rw[<- e];simp[go_sem]);clear e z
 have o:K (∀b:ZT,D_ b (B d.1) 0 (I u)->D_ b (B d.1) 1 (I v)->C_ 192 #[L_ (B d.1) 2 2] b (V_ (ZX ZQ A) b)):=λb w y=>by rw[n];exact Zk2 w y
 go_region_held3 (λc=>D_ c (B a.1) 0 (Q_ h)/\D_ c (B a.1) 1 (I i)/\D_ c (B a.1+1) 0 (Q_ j)/\D_ c (B a.1+1) 1 (I k)) (exact⟨X_ q,X_ r,X_ s,X_ t⟩) (first|(go_at_call 151;apply (l _).m;rintro g c ⟨rfl,rfl⟩)|(go_at_call 314;apply (m _).m;rintro g c ⟨rfl,rfl⟩)|(go_at_call 192;apply (o _ (by simp[go_sem]) (by simp[go_sem])).m;rintro g c ⟨rfl,rfl⟩))
 go_wp2;go_ret;exact⟨X,(p.alloc _).drew⟩
def Sg(x:WS):U ZY:=[Q_ x.a,I x.g]
def w0W:WS:=⟨⟨#[]⟩,0⟩
theorem ltW x a:ltOf Za5 x a=ZE (a.g<x.g∨x.g=a.g/\Jx x.a a.a):=by
 obtain⟨b,c⟩:=x;obtain⟨d,e⟩:=a;unfold ltOf Za5 orI compareInt yi
 grind
def Zq5:SWO (ltOf Za5) where
  irrefl a:=by rw[ltW];simp
  trans a d e b c:=by grind [ltW]
  ntrans a d e b c:=by grind [ltW]
section
variable [Inhabited WS]
def ZjI{a b c d}:CmpLays Y8 265 #[] Sg 2 Za5 a b c d:=
 λ_ _ _ _ e f=>Yp
def Zit c e {a} b (g:HoldsK Sg 2 b c 0 a)(h:c<B b.1)(i:B a<4611686018427387904):C_ 264 #[L_ c (B a) e,YX (.func 265) #[] #[]] b λf l=>f=ZI (Y5 #[])/\∃d j k,PermIn 0 (B a) a d/\SortedIn (ltOf Za5) 0 (B a) d/\l=sortWorldK Sg 2 b c 0 j d k:=by exact AnyQ.slices_SortFunc Tryz.y 2 isAgg358 sizeOf358 _ (λ_=>X) (λj f d=>by simp[Sg] at d;rcases d with rfl|rfl<;>rfl) _ Zq5 _ _ _ 0 _ a b (enters_of func265 k_ X) (ZjI) g h i
def ZeU{c b a}:C_ 264 #[V c 0 b,YX (.func 265) #[] #[]] a (V_ (Y5 #[]) a):=AnyF.slices_SortFunc_none {Tryz.y with} c b _ a
end
def Jj:U WS->U ZY
 |[]=>[]
 |b::a=>Sg b++Jj a
def mh a:F (Jj a)=F a*2:=by
 induction a with
 |nil=>rfl
 |cons c a b=>simp[Jj,Sg,b];omega
theorem rz a b:Jj (a++b)=Jj a++Jj b:=by
 induction a with
 |nil=>rfl
 |cons d a c=>simp[Jj,c]
def Hb(d:ZT)(b:H)(c:ZY)(a:U WS):Prop:=ZD d b 358 2 c (F a) (Jj a)
def Wq b:∀a c,a<F b->c<2->(Jj b)[a*2+c]? =(Sg (Z b a w0W))[c]?:=by
 induction b with
 |nil=>grind
 | cons d b g=>
  intro a c e f
  cases a with
  |zero=>grind [Jj,Sg]
  | succ a=>
   grind [Jj,Sg]
section
variable [Inhabited WS]
theorem ZfR b:Y4 (Go.Sort.flatK Sg 2 b.toArray)=Jj b:=by
 apply ext_getElem?;intro a
 by_cases d:a<F b*2
 ·have c:=Wq b (a/2) (a%2) O O;rw[show a/2*2+a%2=a by omega] at c;rw[c,Array.getElem?_toList];simp only[Go.Sort.flatK]
  grind [Sg]
 rw[getElem?_eq_none t_,getElem?_eq_none (by rw[mh];omega)]
def ZbW{e g a f m os d b}(i:F b=F d)(k:Hb e g (L_ a (F d) f) d):Hb (Go.Proofs.sortWorldK Sg 2 e a 0 m b.toArray os) g (L_ a (F d) f) b/\Y3 e (Go.Proofs.sortWorldK Sg 2 e a 0 m b.toArray os) (T a):=by
 rcases k.2 with⟨c,_⟩|⟨u,t,j,c,l,h,w,n,o,x⟩
 simp at c;simp only[slice.injEq,Option.some.injEq,Addr.mk.injEq,and_true,true_and] at c;obtain⟨rfl,rfl⟩:=c;have v:B (Go.Sort.flatK Sg 2 b.toArray)=F d*2:=by simp[i]
 have p:(Go.Proofs.sortWorldK Sg 2 e a 0 m b.toArray os).1[a]? =T (O_ (Go.Sort.putCells id 0 (Go.Sort.flatK Sg 2 b.toArray) j) 358):=(by unfold Go.Proofs.sortWorldK Go.Sort.putRowK;rw[Go.Sort.heap_grow_old _ _ (by simpa using ((Qb h).1))];simp[Go.Sort.putRow,Go.Sort.mapBlock,Go.Sort.ahead,Array.getElem?_modify,h,Go.Sort.onCells]);refine⟨⟨by rw[mh],ZJ ⟨a,f,_,by simp[i],l,p,O,n,by simp[Go.Sort.putCells,o],?_⟩⟩,⟨X,X,X,?_,λs q r=>?_⟩⟩
 ·grind [ZfR,qm]
 unfold Go.Proofs.sortWorldK Go.Sort.putRowK;simp;unfold Go.Proofs.sortWorldK Go.Sort.putRowK;rw[Go.Sort.heap_grow_old _ _ (by simpa using q)];have:a≠s:=λc=>r (by rw[c]);simp[Go.Sort.putRow,Go.Sort.mapBlock,Go.Sort.ahead,Array.getElem?_modify,this]
def Zez{e f c g a}(d:Hb e f (L_ c (F a) g) a):Go.Sort.HoldsK Sg 2 e c 0 a.toArray:=by
 intro b h
 have i:b<F a*2:=by simpa using h
 refine⟨?_,?_⟩
 ·rw[Nat.zero_add,World.ownsRow.cellAt d b i,<- ZfR]
  grind
 rw[Nat.zero_add];exact World.ownsRow.frozenAt d b
end
abbrev leW(x a:WS):Prop:=¬(x.g<a.g∨a.g=x.g/\Jx a.a x.a)
def ZcC{d a h e}(g:Hb e h d a)(D:F a<=1000000):C_ 264 #[d,YX (.func 265) #[] #[]] e λc f=>c=ZI (Y5 #[])/\(∃b:U WS,b.Perm a/\b.Pairwise leW/\Hb f h d b)/\Y3 e f (ZW d):=by
 haveI:Inhabited WS:=⟨w0W⟩
 have i:=g
 rcases g.2 with⟨rfl,n⟩|⟨m,l,A,rfl,_,p,_⟩
 have c:=length_eq_zero_iff.1 n;subst c;apply (ZeU).m;rintro c f ⟨rfl,rfl⟩;exact⟨X,⟨[],List.Perm.refl _,Pairwise.nil,g⟩,Ay⟩;have k:=Zit m l e (Zez i) (Qb p).1 t_;rw[show B a.toArray=F a by simp] at k;apply k.m;rintro c f ⟨rfl,b,y,z,t,v,rfl⟩;obtain⟨u,_,G⟩:=t;have o:B b=F a:=(by rw[u];simp);have j:=ZbW (m:=y) (os:=z) O i;rw[show(Y4 b).toArray=b by simp] at j;refine⟨X,⟨Y4 b,?_,?_,?_⟩,j.2⟩
 ·have q:b.extract 0 (F a)=b:=by rw[<- o];simp
  grind
 ·rw[pairwise_iff_getElem];intro w x q s r;simp at q s;have:=v w x v_ r O;rw[ltW] at this
  grind
 grind
end Go.Proofs.YtfcgnpchbcmdeaaGreat
namespace Go.Proofs.YtfcgnpchbcmdeaaGreat
set_option linter.all false
set_option maxRecDepth 100000
set_option maxHeartbeats 8000000
open Go.RowKit Go.Maps List Nat Go.World Go.Proofs.Tryz Go.Value Go.IntKind Go.Lib Go.Region
def Tf(a:VS)(x:U UInt8):ZG:=!a.a&&ZE (Y4 a.f.data=x)
def Lk(b:U (VS×E))(x:U UInt8):E:=(b.map λa=>if Tf a.1 x=Z0 then a.2 else 0).sum
def Vm(b:U (VS×E))(x:U UInt8):ZG:=b.any λa=>Tf a.1 x
def qv b a x:Lk (b++[a]) x=Lk b x+(if Tf a.1 x=Z0 then a.2 else 0):=by simp[Lk]
def wu b a x:Vm (b++[a]) x=(Vm b x||Tf a.1 x):=by simp[Vm]
def ZlS{ps}(b:∀a∈ps,0<=a.2/\a.2<=99) x:0<=Lk ps x/\Lk ps x<=99*F ps:=by
 induction ps with
 |nil=>simp[Lk]
 | cons a g d=>
  have f:=d (λe c=>b e (by simp[c]))
  grind [Lk]
def Ny(b:DataW Unit)(c:U (VS×E)):Prop:=IsMap b/\∀a,has b (.string a)=Vm c a/\b.atKey (.string a) (.lit (.int ZQ 0))=.lit (.int ZQ (Lk c a))
def Ny.h:Ny (.map []) []:=⟨isMap_empty,λ_=>⟨X,X⟩⟩
def Ny.a{d e}(a:Ny d e){b:VS}{h}(g:b.a=Z0):Ny d (e++[(b,h)]):=by refine⟨a.1,λc=>?_⟩;have f:Tf b c=ZZ:=(by simp[Tf,g]);rw[wu,qv];simp[f,(a.2 c).1,(a.2 c).2]
def Ny.put{f e}(a:Ny f e){v:VS}{h}(g:v.a=ZZ):Ny (f.put (.string (Y4 v.f.data)) (.lit (.int ZQ (Lk e (Y4 v.f.data)+h)))) (e++[(v,h)]):=by
 refine⟨a.1.put _ _,λb=>?_⟩;rw[wu,qv]
 by_cases d:Y4 v.f.data=b
 have c:Tf v b=Z0:=(by simp[Tf,g,d]);subst d;rw[has_put_same a.1 (show WideAt.IsKeyLit (.string _) from trivial),atKey_put_same a.1 (show WideAt.IsKeyLit (.string _) from trivial)];simp[c];have c:Tf v b=ZZ:=(by simp[Tf,g,d]);rw[has_put_other w_,atKey_put_other w_];simp[c,(a.2 b).1,(a.2 b).2]
def Ys:U (VS×E)->U ZC
  |[]=>[]
  |b::a=>if b.1.a=Z0 then Ys a else if Vm a (Y4 b.1.f.data)=Z0 then Ys a else b.1.f::Ys a
theorem Ut a:∀e,a∈Ys e↔Vm e (Y4 a.data)=Z0
 |[]=>by simp[Ys,Vm]
 | c ::d=>by
  have i:=Ut a d;have g:Vm (c::d) (Y4 a.data)=(Tf c.1 (Y4 a.data)||Vm d (Y4 a.data)):=by simp[Vm]
  have h:Y4 c.1.f.data=Y4 a.data↔a=c.1.f:=by
   constructor
   ·intro b
    cases a;cases f:c.1.f
    rw[f] at b;simp at b;rw[b]
   intro b;rw[b]
  grind [Ys,Tf]
theorem Of:∀d,(Ys d).Nodup
 |[]=>nodup_nil
 |e::a=>by unfold Ys;split;exact Of a;split;exact Of a;rename_i b;exact nodup_cons.2 ⟨λc=>b ((Ut _ a).1 c),Of a⟩
def Nh(b:U (VS×E))(c:E):U WS:=((Ys b).map λa=>⟨a,Lk b (Y4 a.data)⟩).filter λd=>ZE (c<=d.g)
def Ra(a:U VS)(d:U E)(c b:E):ES:=⟨Z0,[],(ZU (ZL b) ((Nh (a.zip d) c).mergeSort λe f=>ZE (leW e f))).map WS.a⟩
def Ww{a b x}:x∈Nh a b↔Vm a (Y4 x.a.data)=Z0/\x.g=Lk a (Y4 x.a.data)/\b<=x.g:=by
 unfold Nh;rw[mem_filter,mem_map];constructor
 ·grind [Ut]
 rintro⟨c,d,e⟩;refine⟨⟨x.a,(Ut _ _).2 c,?_⟩,by simpa using e⟩;rw[<- d]
def Yq{b a}:(Nh b a).Nodup:=by grind [Nh,Of]
def uv{x a b}(c:leW x a)(d:leW a b):leW x b:=w_
theorem Yv{x a}(c:leW x a)(d:leW a x):x=a:=by
 unfold leW at *;simp only[not_or,not_and] at c d;have b:x.g=a.g:=O;have e:=ZjW (d.2 b) (c.2 b.s)
 cases x;cases a
 grind
def ZeW{a d c b}(k:c.Nodup)(j:∀x,x∈c↔Vm a (Y4 x.a.data)=Z0/\x.g=Lk a (Y4 x.a.data)/\d<=x.g)(l:b.Perm c)(m:b.Pairwise leW):b=(Nh a d).mergeSort λx g=>ZE (leW x g):=by refine List.Perm.eq_of_pairwise (le:=leW) (λh i _ _ e f=>Yv e f) m ((pairwise_mergeSort (le:=λx g=>ZE (leW x g)) (λh i n e f=>aF (uv (of_decide_eq_true e) (of_decide_eq_true f))) (λh i=>w_) (Nh a d)).imp λe=>of_decide_eq_true e) ((l.T ((perm_ext_iff_of_nodup k (Yq)).2 λx=>by rw[j,Ww])).T (mergeSort_perm _ _).s)
structure Ql(b:DataW Unit)(e:Lit->ZG)(d)(c:U WS):Prop where
 g:c.Nodup
 f:∀a:WS,a∈c↔(has b (.string (Y4 a.a.data))=Z0/\e (.string (Y4 a.a.data))=ZZ/\b.atKey (.string (Y4 a.a.data)) (.lit (.int ZQ 0))=.lit (.int ZQ a.g)/\d<=a.g)
def Ql.h a {b}:Ql a (has a) b []:=⟨nodup_nil,λc=>w_⟩
def Zlt a b:(Lit.string a).sameKey (.string b)=ZE (a=b):=by
 by_cases c:a=b
 subst c;simp[Lit.sameKey]
 grind [sameKey_ne]
def Ql.i{d g c e}(f:Ql d g c e){x b}(q:g (.string x)=Z0)(k:∀n,d.atKey (.string x) n=.lit (.int ZQ b)):Ql d (λa=>g a&&!a.sameKey (.string x)) c (if c<=b then e++[⟨⟨x.toArray⟩,b⟩] else e):=by
 have m:∀a:WS,(has d (.string (Y4 a.a.data))=Z0/\(g (.string (Y4 a.a.data))&&!(Lit.string (Y4 a.a.data)).sameKey (.string x))=ZZ/\d.atKey (.string (Y4 a.a.data)) (.lit (.int ZQ 0))=.lit (.int ZQ a.g)/\c<=a.g)↔(a∈e∨(Y4 a.a.data=x/\a.g=b/\c<=b)):=by
  intro a;rw[Zlt]
  by_cases i:Y4 a.a.data=x
  ·rw[i];simp only[(has_true_of_atKey k),k,decide_true,Bool.not_true,Bool.and_false,true_and]
   have j:a ∉ e:=λh=>by
    have:=((f.f a).1 h).2.1
    grind
   grind
  simp only[i,decide_false,Bool.not_false,Bool.and_true,false_and,or_false];exact(f.f a).s
 by_cases l:c<=b
 ·rw[aD l];refine⟨?_,λa=>?_⟩
  ·refine nodup_append.2 ⟨f.g,s_,λh i o j p=>?_⟩;simp only[mem_singleton] at j;have:=((f.f h).1 i).2.1
   grind
  rw[m a,mem_append,mem_singleton];constructor
  ·grind
  rintro(h|⟨i,j,_⟩);exact ZM h;right;obtain⟨⟨o⟩,p⟩:=a;simp only at i j;rw[<- i,j]
 rw[aC l];refine⟨f.g,λa=>?_⟩
 grind
def Ql.a{b f d c a}(g:Ql b f d c)(e:Ny b a)(h:∀i,f i=ZZ) x:x∈c↔Vm a (Y4 x.a.data)=Z0/\x.g=Lk a (Y4 x.a.data)/\d<=x.g:=by
 rw[g.f x,h,(e.2 _).1,(e.2 _).2]
 grind
def zv{g:ZT}{d a b}{c:ZY->Y0 (DataW Unit×U MemPlace)}(e:g.ownsMap Y8 9 c d a b):Maps.size b<=a:=by
 obtain⟨i,h,_,_,f,rfl⟩:=e;show F (foldr DataW.insert [] _)<=a;rw[length_sorted]
 simpa using f
def Zcr{d:ZT}{b c m h g i n l:H}{e k}{f:ZY->Y0 (DataW Unit×U MemPlace)}{a o}(j:d.ranges Y8 9 f b c m e k h)(v:ZD d g i n a l o):ZW a≠T c/\ZW a≠T b:=by
 obtain⟨s,r,A,z,q,u,p,x,t,w,y⟩:=j
 grind [Ac]
def Hb.P{c a b L}{x:WS}(d:ZD c a 358 2 b (F L+1) (Jj L++[Q_ x.a,I x.g])):Hb c a b (L++[x]):=by grind [Hb,rz,Jj,Sg]
def Hb.d{h f e a}(g:Hb h f e a):∃b c,e=ZH b (F a) c/\((b=ZP/\F a=0/\c=0)∨∃d,b=T ⟨d,0,ZP⟩/\F a<=c):=by
 rcases g.2 with⟨rfl,k⟩|⟨d,i,j,rfl,_,l,m,_⟩
 ·grind
 grind
def Hb.cells{c h g l j a}(d:Hb c h (L_ g l j) a){i}(f:i<F a):g<B c.1/\ZV c (J g (i*2))=T (Q_ (Z a i w0W).a)/\ZV c (J g (i*2+1))=T (I (Z a i w0W).g):=by
 have e:=d
 rcases d.2 with⟨b,_⟩|⟨o,m,n,b,_,k,_⟩
 ·cases b
 simp only[slice.injEq,Option.some.injEq,Addr.mk.injEq,and_true] at b;obtain⟨rfl,rfl,rfl⟩:=b;refine⟨(Qb k).1,?_,?_⟩;rw[World.ownsRow.cellAt e (i*2) O];have:=Wq a i 0 f O;rw[Nat.add_zero] at this;rw[this];rfl;rw[World.ownsRow.cellAt e (i*2+1) O,Wq a i 1 f O];rfl
def ZoN:(prog.info? 9).map (λa=>(a.zero,a.size,a.bytes))=T (T (Q_ ⟨#[]⟩),1,16):=k_
def Bj.b{g d b a}(f:Bj g d b a):∃c e,b=ZH c (F a) e:=by
 rcases f.2 with⟨rfl,k⟩|⟨j,h,i,rfl,_⟩
 ·grind
 grind
def Ze9{a:U WS}{b}(c:b<F a):ZU (b+1) a=ZU b a++[Z a b w0W]:=by grind [Qi]
def Bj.c{f c d e b}(a:Bj f d e b)(n:c<=d):Bj f c e b:=by
 obtain⟨k,l⟩:=a;refine⟨k,?_⟩
 rcases l with a|⟨j,g,h,i,o,m⟩
 exact ZM a;exact ZJ ⟨j,g,h,i,O,m⟩
def ZmY:Keyed Y8 9:=string_keyed underlying9
def Zqr{a}:(zeroValue 3).run Y8 a=.ok (I 0) a:=k_
def Zq8{f g:Type}(b:U f){c a}(h:a<F b)(i:a<F c) d (e:g):ZU (a+1) (b.zip c)=ZU a (b.zip c)++[(Z b a d,Z c a e)]:=by grind [Qi]
def nj{g4 g6} p {g5} k8 s {j} f {k} d (N:Ky d 0 (ZH g4 p g5) f)(g0:Ck d g6 p k)(j1:F f=p)(m2:p<=200)(k6:∀y∈k,0<=y/\y<=99)(k4:∀v∈f,ZK v.f<=8)(l5:2<=j)(l6:j<=16):C_ 211 #[ZH g4 p g5,ZH g6 p k8,ZX ZQ s,ZX ZQ j] d λo b=>∃v,o=ZI v/\Wf b (B d.1) v (Ra f k s j)/\Below (B d.1) d b:=by
 have⟨i5,i6⟩:=Y_ N g0;have a9:=K_ j1 g0.1;have⟨f0,i7⟩:=Y_ k6 k4;have m1:= @run_makeMap Y8;have⟨e,d3⟩:=W_ (ZN d (YU #[ZR ZZ,ZH ZP 0 0,ZH ZP 0 0] 170));have d2:B e.1=B d.1+1:=(by rw[d3];simp);have⟨b1,R⟩:=Y_ d2 d3;clear d2 d3;go_enter func211,ntmps211;go_wp2_with fail
 go_loopw [21] (λb c=>∃(a:Z8) (i:DataW Unit),b=ZX ZQ a/\a<=p/\K (c.ownsMap Y8 9 (plainElem Y8 3) (B d.1+1) a i/\Ny i (ZU a (f.zip k)))/\K (E_ e c)) (λb _=>p-ZL (ZA b))
 case atStart=>
  refine⟨0,.map _,X,v_,⟨?_,Ny.h⟩,?_⟩;have:=ownsMap_made (H:=Unit) e Y8 9 (plainElem Y8 3);rw[b1,R] at this;exact this;rw[R];exact r_
 obtain⟨a,i,rfl,b4,r,h⟩:=hrel;have k3:=h.size
 by_cases c8:a<p
 ·have W:a<F f:=a9.out.1 ▸ c8;have b7:a<F k:=a9.2 ▸ c8;obtain⟨d5,rfl,c6,a7,a8,b0⟩:=i5.at W;rcases i6.out with⟨_,_,M|⟨c3,c7,rfl,c5,b5⟩⟩;omega;have L:E_ d wr:=(by have m:E_ d e:=R ▸ r_;exact m.T (h.m (p_ b1.out)));have⟨a4,a5,a6,b2⟩:=k4_ L a7 a8 b0 (b5 a c8);have t:=Y (Zq8 f W b7 Ax 0);have a1:K (ZK (Z f a Ax).f<=8):=i7 _ w_;have a3:K (0<=Z k a 0/\_):=f0 _ w_;generalize (Z f) a Ax=n,Z k a 0=y at *;obtain⟨c1,z,g⟩:=n;simp only at a4 a5 a6
  cases c1 with
  | true=>
   have D:K ((ZN wr (YU #[ZR Z0,I z,YW g] 308)).ownsMap Y8 9 (plainElem Y8 3) (B d.1+1) (a+1) i/\Ny i (ZU (a+1) (f.zip k))):=(by rw[t];exact⟨(r.1.alloc _).m O,r.2.a X⟩);refine J_ ?_;exact⟨a+1,i,g_,O,D,h.T (y_.alloc O _)⟩
  | false=>
   go_upto_region 6 with fail;have b9:ZK g<=8:=a1.out;have l:keyOf _ 9 (YW g)=_:=WideMaps.keyOf_string_mk underlying9 (by unfold Y2;omega);have⟨q,o⟩:=W_ (ZN wr (YU #[ZR ZZ,I z,YW g] 308));have u:q.ownsMap Y8 9 (plainElem Y8 3) (B d.1+1) a i:=o ▸ (r.1.alloc _);have G:ZV q (J (B wr.1) 2)=T (YW g):=o ▸ (M_ 2 _ _ _ hn_);have x:E_ wr q:=o ▸ r_;have b3:=T_ x b2;rw[<- o];have⟨c,b8,A,_⟩:=(show(YY q).ownsMap Y8 9 (plainElem Y8 3) (B d.1+1) a i from u).lookup_int ZmY underlying355 underlying3 (Zqr) l
   have a2:c=Lk (ZU a (f.zip k)) (Y4 g.data):=by
    have m:=(r.2.2 (Y4 g.data)).2
    grind
   have Q:=ZlS (ps:=ZU a (f.zip _)) (λm b=>f0 _ (of_mem_zip (aL b)).2) (Y4 g.data);rw[<- a2] at Q;have b6:F (ZU a (f.zip k))<=200:=w_;have c0:=a3.out;have c9:_=c+y:=Au O O;have⟨a0,c4,P,S⟩:=(show(YY q).ownsMap Y8 9 (plainElem Y8 3) (B d.1+1) a i from u).update ZmY underlying355 (by unfold Y2;omega) l (plainElem_int (H:=Unit) underlying3 (show(Lit.int ZQ (c+y)).wf=Z0 by simp[Lit.wf,IntKind.min,IntKind.max,IntKind.bits,signed];omega));have D:K (a0.ownsMap Y8 9 (plainElem Y8 3) (B d.1+1) (a+1) (i.put (.string (Y4 g.data)) (.lit (.int ZQ (c+y))))/\Ny (i.put (.string (Y4 g.data)) (.lit (.int ZQ (c+y)))) (ZU (a+1) (f.zip k))):=by refine⟨P,?_⟩;rw[t,a2];exact r.2.put (v:=⟨ZZ,z,g⟩) X
   have c2:K (E_ e a0):=by have m:=h.T (x.m k3);have w:=m.drew;exact w.grown S w.size (λb hj=>by injection hj with hj;have:=b1.out;omega)
   clear u P S a2 Q b6 c0 A l o x r h t b9;refine Af (λb=>ZV b _=T _/\ZV b _=T _/\(Instr.lookup 355 _ _ _).run _ b=.ok _ b) 9 k_ ⟨G,b3,b8⟩ (λhHeld=>?_);refine G_ ?_;refine le_ ?_;go_wp2;go_roundw;case rel=>grind
   case measure=>exact z_
 have j7:a=p:=O;subst j7;have e5:=Y r.1;have h7:K (Ny i (f.zip k)):=(by have:=r.2;rwa [(aI (by rw[length_zip,a9.1,a9.2];omega))] at this);generalize wr=g7 at *;go_wp2_with (first|(at_range;apply wpList_range_own _ X _ _ X 9 3 ZmY underlying355 _ _ a i X e5;intro b k0 j5 d2)|go_in)
 try go_frame
 have⟨i2,h1,i4⟩:=y3_ k0 (h.grown j5 h.size (λb hj=>by cases hj)) (zv e5);go_loopw [12] (λc b=>∃(d4:Lit->ZG) (c4:Z8) (u:U WS),K (b.ranges Y8 9 (plainElem Y8 3) (B d.1+1) (B g7.1) a i d4 c4)/\K (Hb b (B e.1) c u)/\K (Ql i d4 s u)/\F u+c4<=a/\K (E_ e b)) (λ_ b=>b.rangeLeft (B d.1+1) (B g7.1))
 case atStart=>exact⟨_,_,[],i2,rn_,Ql.h i,by simpa using i4.out,h1⟩
 obtain⟨d4,c4,u,b0,Q,b8,j3,h⟩:=hrel;go_wp2_with (first|(at_next;refine wpList_next_ranges _ X _ X 9 ZmY _ _ _ (λc b6 b4=>by obtain⟨n,b,_⟩:=Maps.keyOf_str underlying9 b4;exact⟨n,b⟩) (λv g N=>by obtain⟨c,rfl,_⟩:=plainElem_int_inv underlying3 N;exact⟨c,X⟩) _ _ a i _ _ X b0 ?_ ?_)|go_in)
 ·intro l7 c9;have⟨h4,h8⟩:=Y_ (λn=>b8.a h7 c9 n) b8.g;have j0:F u<=200:=O;obtain⟨d7,a7,rfl,k2⟩:=Q.d;have e7:=Y k2;have e8:=ZcC Q O;have e0:=Y (λb hj=>(B_ Q b hj).1);have⟨q,b3⟩:=W_ (F u);have h5:=Y b3;rw[<- b3] at e7 e8 e0 j0 j3;rw[<- b3];clear b3;go_wp2_with fail
  apply e8.m;rintro o d8 ⟨rfl,⟨l,f9,k1,j9⟩,j6⟩;have h2:=Y (ZeW h8 h4 f9 k1);have e1:K (F l=q):=(by show _=_;rw[f9.length_eq,h5]);have⟨e3,a8⟩:=Y_ j9 (h.grown j6 h.size e0);obtain⟨c,f8⟩:∃c:Z8,c=min q (ZL j):=⟨_,X⟩;have z:=Y f8;clear f8;have b9:K (c<=q/\c<=j/\c<=200):=⟨p_ z.out,p_ z.out,p_ z.out⟩;have⟨b7,a4⟩:=W_ (ZN d8 (YU #[ZR Z0,ZH ZP 0 0,ZH ZP 0 0] 170));have e2:K (b7.1[B d8.1]? =T (YU #[ZR Z0,ZH ZP 0 0,ZH ZP 0 0] 170 (0,0))):=(by show _=_;rw[a4];exact hn_);have h9:K (Hb b7 (B e.1) (ZH d7 q a7) l):=(by show Hb _ _ _ _;rw[a4];exact ra_ e3 _);have h0:K (E_ e b7):=(by show Below _ _ _;rw[a4];exact a8.alloc a8.size _);have f7:=a8.size;go_upto_region 16 with fail;rw[<- a4];clear a4 e3 a8
  go_cut [63,64,65] (λv b g m=>g=ZX ZQ 0/\∃d6 g2,v=ZH d6 c g2/\b=ZX ZQ (c:Z8)/\K (0<c->∃w,d6=T ⟨w,0,ZP⟩/\d7=T ⟨w,0,ZP⟩)/\m=b7)
  case first=>
   rcases e7.out with⟨rfl,M,rfl⟩|⟨w,rfl,x⟩
   ·subst M;have b:c=0:=p_ b9.out;subst b;have t:¬j<0:=O;have g:min 0 j=0:=O;go_wp2;go_meet
    grind
   by_cases A:(q:E)<=j
   ·have b:c=q:=p_ z.out;subst b;have t:¬j<c:=O;have g:min (c:E) j=c:=O;have m:0<=(c:E):=O;have n:c<=(a7:E):=O;go_wp2;go_meet
    exact⟨X,_,_,X,X,λ_=>⟨w,X,X⟩,X⟩
   have b:c=j:=p_ z.out;have g:min (q:E) j=c:=O;have m:0<=(c:E):=O;have n:c<=(a7:E):=O;subst b;go_wp2;go_meet
   exact⟨X,_,_,X,X,λ_=>⟨w,X,X⟩,X⟩
  obtain⟨rfl,d6,g2,rfl,rfl,i3,k5⟩:=hcut;obtain rfl:=k5.s;have i1:K (e.1[B d.1]? =T (YU #[ZR ZZ,ZH ZP 0 0,ZH ZP 0 0] 170 (0,0))):=(by show _=_;rw[R];exact ha_ d _);have c9:B d.1<B e.1:=p_ b1.out;have⟨a0,f5⟩:=W_ (B d8.1);rw[<- f5] at e2 f7 ⊢;clear f5;go_wp2_with fail
  go_loopw [65] (λm g=>∃(b:Z8) (b6:ZY),m=ZX ZQ b/\b<=c/\K (g.1[a0]? =T (YU #[ZR Z0,ZH ZP 0 0,b6] 170 (0,0)))/\K (Bj g (B e.1) b6 ((ZU b l).map WS.a))/\K (Hb g (B e.1) (ZH d7 q a7) l)/\K (E_ e g)) (λm _=>c-ZL (ZA m))
  case atStart=>exact⟨0,_,X,v_,e2,rn_,h9,h0⟩
  obtain⟨b,b6,rfl,hj,P,c1,c0,h⟩:=hrel;have j4:=(Qb P).1
  by_cases l9:b<c
  ·obtain⟨w,rfl,rfl⟩:=i3 O;have f6:b<F l:=(by rw[e1];have:=b9.out;omega);have⟨l8,g8,g9⟩:=c0.cells f6;have a3:F ((ZU b l).map WS.a)=b:=w_;obtain⟨A,D,rfl⟩:=c1.b;have⟨c2,e9⟩:=Y_ c1 (Ze9 f6);have G:=n_ 2 P;rw[a3] at c2 G;generalize (Z l) b w0W=n at *;obtain⟨g,k9⟩:=n;simp only at g8 g9;have m0:b<=200:=p_ b9.out;have⟨t,a5⟩:=W_ (ZN wr (YU #[YW g,I k9] 358));have M:E_ wr t:=a5 ▸ r_;have m4:ZV t (J (B wr.1) 0)=T (YW g):=a5 ▸ (M_ 0 _ _ _ hn_);have l3:=T_ M G;have h3:K (t.1[a0]? =T (YU #[ZR Z0,ZH ZP 0 0,ZH A b D] 170 (0,0))):=(by have:=P.out;rw[a3] at this;exact(M.block _ j4).T this);have e4:K (Bj t (B e.1) (ZH A b D) ((ZU b l).map WS.a)):=by have m:=c2.out;exact m.q M
   have i0:K (Hb _ _ _ _):=(Aa.a (S:=λ_=>False) M).M c0 (λ_ _=>id);have d9:=Y (h.T (M.m h.size));have m3:B wr.1<B t.1:=(by rw[a5];simp);go_upto_region 19 with fail;rw[<- a5];clear a5 M g8 g9 G P c2 c1 c0 h
   have d1:ZD t (B e.1) 9 1 (ZH A b D) b (((ZU b l).map WS.a).map YW):=by
    have m:=e4.out;unfold Bj at m
    grind
   have⟨c3,c7⟩:=W_ ((ZU b l).map WS.a);have i9:K ((ZU (b+1) l).map WS.a=c3++[g]):=(by show _=_;rw[e9,map_append,c7];rfl);rw[<- c7] at d1 a3;have⟨h6,e6⟩:=Y_ a3 d1;clear d1 a3 c7 e9 e4;go_wp2_with (at_builtin;refine ap_ [YW g] (ra_ e6 _) ?_)
   rintro g3 x ⟨b5,L,f2,_,_⟩;have c5:Bj x (B e.1) g3 (c3++[g]):=(by unfold Bj;rw[Qe,h6,map_append];exact b5);obtain⟨S,W,rfl⟩:=c5.b;have⟨a6,j8⟩:=W_ (F (c3++[g]));rw[<- j8] at b5 f2 c5 ⊢;have⟨k7,g1⟩:=W_ (ZN t (YU #[YW g] 9));rw[<- g1] at L f2;have b2:E_ t k7:=g1 ▸ r_;have f1:=(Aa.refl _ _).grown L (λa b4 _=>b4);have f3:=(b2.block _ O).T h3;have c6:=(Aa.a (S:=λ_=>False) b2).M e6 (λ_ _=>id);have f4:Hb _ _ _ _:=(Aa.a (S:=λ_=>False) b2).M i0 (λ_ _=>id);have a1:=f1.g f3 (λo=>Ag c6 o f3 C X)
   have j2:Hb x (B e.1) (L_ w q a7) l:=f1.M f4 (λd5 d0 o=>by
    have⟨m,a2⟩:=Ac f4 d0
    exact Ag c6 o a2 C X)
   have l4:=n_ 2 a1;have m5:=R_ 2 _ _ a1;have l0:K ((ZO x _ _).1[a0]? =T (YU #[_,_,(ZH S a6 W)] 170 _)):=ht_ 2 _ _ _ a1;have l2:K (Bj (ZO x (J a0 2) (ZH S a6 W)) (B e.1) (ZH S a6 W) ((ZU (b+1) l).map WS.a)):=(by rw[i9];exact Am c5 a1 C);have l1:K (Hb (ZO x ⟨_,2,_⟩ (ZH S a6 W)) _ _ _):=Am j2 a1 C;have a2:K (E_ e (ZO x (J a0 2) (ZH S a6 W))):=by have m:=d9.T (b2.m d9.size);exact(m.grown L m.size (λd5 d0=>(B_ c6 d5 d0).1)).setCell f7 _
   go_wp2;go_roundw;case rel=>grind
   case measure=>exact z_
  have M:b=c:=O;subst M
  have a2:(ZU b l).map WS.a=(Ra f k s j).c:=by
   show _=(ZU (ZL j) ((Nh (f.zip k) s).mergeSort λn g=>ZE (leW n g))).map WS.a;rw[<- h2];congr 1;have m:=z.out;have w:=e1.out
   grind
  have w:K (Bj wr (B e.1) b6 (Ra f k s j).c):=w_;obtain⟨A,D,rfl⟩:=w.b;have t:=P.out;have S:=n_ 0 t;have W:=n_ 1 t;have G:=n_ 2 t;have g:=(h.block _ c9).T i1;have n:=Y g;have a3:=n_ 0 g;have a5:=n_ 1 g;have a6:=n_ 2 g;have b2:=R_ 0 _ _ g;have b5:=R_ 1 _ _ g;have c2:=R_ 2 _ _ g;generalize a1:F (Ra f k s j).c=x at *;go_wp2;apply bodyPost_ret (v:=Y9 #[ZR Z0,ZH ZP 0 0,ZH A x D]) (by simp[results,results211,go_sem, *]) X;have L:E_ d wr:=by have m:E_ d e:=R ▸ r_;exact m.T (h.m O)
  refine⟨_,X,⟨ZH ZP 0 0,ZH A x D,X,rn_,?_⟩,((L.setCell x_ _).setCell x_ _).setCell x_ _⟩;exact Am (Am (Am (w.c O) n C) (by exact ht_ _ _ _ _ n) C) (by exact ht_ _ _ _ _ (ht_ _ _ _ _ n)) C
 intro n c b6 b9 c3 q P l a1 N A a5 a3 G b2 c0;obtain⟨b7,W,rfl,c2⟩:=Maps.keyOf_str underlying9 l;obtain rfl:n=b7:=encStr_inj W;have⟨a8,S,a6,_⟩:=plainElem_int_inv underlying3 N;obtain rfl:c=a8:=(by injection S);have b3:b9=.lit (.int ZQ c):=(by injection a6);subst b3;have m:=b8.i a1 A;have z:=Y a5;have w:K (Hb _ _ _ _):=World.ownsRow.kept Q G (ZJ (Zcr b0 Q).1);have⟨g,t⟩:=Y_ (h.grown G h.size (λb hj=>w_)) a3;clear b2 a5 G l N A a1 W S a6 a3
 by_cases a0:s<=c
 ·rw[aD a0] at m;have D:=Y m;have c1:=g.size;go_wp2_with (at_builtin;refine ap_ [encStr n,I c] (ra_ w _) ?_ (h1:=by intro o b;simp at b;rcases b with rfl|rfl<;>rfl))
  rintro g3 x ⟨b5,L,_⟩;have a7:K (Hb _ _ _ (_++[⟨_,c⟩])):=Hb.P b5;have a4:=Zcr z w;have⟨M,a2⟩:=Y_ ((z.alloc _).kept L (λo=>a4.2 o.s) (λo=>a4.1 o.s)) ((g.alloc g.size _).grown L (by have:=g.size;simp;omega) (λb hj=>(B_ w b hj).1));go_wp2;go_roundw;case rel=>exact⟨_,P,_,M,a7,D,by rw[Qe];have:=t.out;simp;omega,a2⟩
  case measure=>rw[M.left_eq,b0.left_eq];exact t
 rw[aC a0] at m;have D:=Y m;go_wp2;go_roundw;case rel=>exact⟨_,P,u,z,w,D,p_ t.out,g⟩
 case measure=>rw[z.left_eq,b0.left_eq];exact t
end Go.Proofs.YtfcgnpchbcmdeaaGreat
namespace Go.Proofs.YtfcgnpchbcmdeaaGreat
set_option linter.all false
set_option maxRecDepth 100000
set_option maxHeartbeats 8000000
open Go.RowKit List Nat Go.World Go.Proofs.Tryz Go.Value Go.IntKind Go.Lib Go.Region
def bdI(a:ES):U E:=if a.a=Z0 then[] else a.f
def bdS(a:ES):U ZC:=if a.a=Z0 then a.c else[]
structure ZpE(a b:ZT)(d e)(c):Prop where
 x:Ad b (B a.1) d (bdI c)
 z:Bj b (B a.1) e (bdS c)
 A:E_ a b
def ZqI(d:ZT)(c:ES)(x:Ending)(e:ZT):Prop:=∃a b,x=ZI (Y5 #[a,b])/\ZpE d e a b c
def Zjt{p:Prop}(h:p:=by
 go_wp2;go_ret2
 have d:=length_eq_zero_iff.1 j.2;have e:(ZN a (O_ #[] 9)).1[_]? =_:=hn_;have g:ZD (ZN a _) (B c.1) 9 1 _ 0 []:=⟨X,ZJ ⟨B a.1,0,#[],X,O,e,x_,C,X,X⟩⟩;refine⟨_,_,X,?_,?_,n.alloc O _⟩;rw[f.1];exact ownsRow_nil _ _ 3 1
 rw[f.2,d];exact g):p:=h
def Zju{p:Prop}(h:p:=by
 go_wp2;go_ret2
 have d:=length_eq_zero_iff.1 j.1;have e:(ZN a (O_ #[] 3)).1[_]? =_:=hn_;have g:ZD (ZN a _) (B c.1) 3 1 _ 0 []:=⟨X,ZJ ⟨B a.1,0,#[],X,O,e,x_,C,X,X⟩⟩;refine⟨_,_,X,?_,?_,n.alloc O _⟩;rw[f.1,d];exact g
 rw[f.2];exact Bj.nil):p:=h
def yp{b1 m d1 d0 d2 c7 c3 c1 l c}(P:Ph c b1 d1 d0 d2 c7 c3 c1 l)(c4:m<F l.g)(d6:F (Z l.g m Aj).e.f<=1000)(d9:F (Z l.g m Aj).e.c<=1000):C_ 53 #[P_ b1,I m] c λd a=>ZqI c (Z l.g m Aj).e d a:=by
 have⟨e1,d5,o,u,p,v,c5,d8,R,b6,b7,b8,b2,b3⟩:=P.w.at c4;subst c5;have b0:=n_ 0 P.v.r;have d7:=(Qb P.v.r).1;have⟨b9,c0⟩:=Y_ b2 b3;have d4:=F_ m _;clear P b2 b3;generalize (F l.g)=e0 at *;generalize (Z l.g m Aj).d=N at *;generalize (Z l.g m Aj).e=b at *;generalize b4:F b.f=h at *;generalize b5:F b.c=i at *;have j:=K_ b4 b5;clear b4 b5
 cases Q:b.a
 ·rw[Q] at R;have f:K (bdI b=b.f/\bdS b=[]):=(by show _/\_;unfold bdI bdS;grind);clear Q;refine dl_ ?_;go_enter func53,ntmps53;go_upto_region 4 with fail;generalize r:ZN c (O_ #[ZR ZZ,V o h u,V p i v,I (N:H)] 172)=a;have q:E_ c a:=(by rw[<- r];exact r_);have s:H_ a (B c.1) #[ZR ZZ,V o h u,V p i v,I N] 172:=(by rw[<- r];exact hn_);have c6:=(Qb s).1;have d3:=n_ 1 s;have n:=Y q;clear r s R b6 b7 b8 b0;have G:ZD a 0 3 1 (V o h u) h (b.f.map (ZX ZQ)):=(by have g:=(Aa.a (S:=λ_=>False) q).M b9 (λ_ _=>id);rw[j.1] at g;exact g);have k:=Y G;clear q G
  by_cases D:h=0
  ·subst D
   rcases o with _|t
   exact Zju;exact Zju
  have a2:∃e,o=T ⟨e,0,ZP⟩:=by
   rcases k.out.2 with⟨d,g⟩|⟨x,t,w,d,_⟩
   exact absurd g D
   grind
  obtain⟨e,rfl⟩:=a2;have⟨a8,a1,a5,a6,a7⟩:=info_parts ZoK
  have a3:e<B a.1:=by
   rcases k.out.2 with⟨d,_⟩|⟨x,t,w,d,_,g,_⟩
   ·cases d
   grind
  have z:K (ZD (ZN a _) (B c.1) 3 1 _ 0 []):=⟨X,ZJ ⟨B a.1,0,#[],X,O,hn_,x_,C,X,X⟩⟩;have y:K (F (b.f.map (ZX ZQ))=h*1):=by show _=_;rw[length_map,j.1,Nat.mul_one]
  have w:K (∀d g,(b.f.map (ZX ZQ))[d]? =T g->ZV (ZN a (O_ #[] 3)) (((J e 0):Addr).add d)=T g):=λd g t=>by have A:d<h*1:=(by rw[<- y];grind);have x:((J e 0):Addr).add d=(J e d):=(by unfold Addr.add;split<;>simp_all);rw[x];rw[((br_ (B a.1) a).alloc x_ (O_ #[] 3)).cell (p:=(J e d)) a3];rw[World.ownsRow.cellAt k d A];exact t
  have S:K (∀g∈b.f.map (ZX ZQ),g.oneCell'=Z0):=λg t=>by obtain⟨x,_,rfl⟩:=mem_map.1 t;rfl
  go_wp2_with (at_builtin;refine Dl X (.tmp 22) (.tmp 25) 25 X _ 3 a8 _ 1 8 underlying25 a1 a5 a6 a7 X C _ 0 [] X z _ h u _ X y w S O (by unfold Y2;omega) O t_ ?_)
  rintro a9 M ⟨L,A,W,_,c9,c8,a4⟩;have x:K (ZD M (B c.1) 3 1 a9 h (b.f.map (ZX ZQ))/\E_ c M):=(by refine⟨L,?_⟩;exact(n.alloc O _).grown A t_ (by intro c2 a0;simp[ZW] at a0;omega));subst a4;clear L A W k z w;go_wp2;go_ret2
  have a0:=x.1;refine⟨_,_,X,?_,?_,x.2⟩;rw[f.1];unfold Ad;rw[j.1];exact(by simpa using a0);rw[f.2];exact Bj.nil
 rw[Q] at R;have f:K (bdI b=[]/\bdS b=b.c):=(by show _/\_;unfold bdI bdS;grind);clear Q;go_enter func53,ntmps53;go_upto_region 3 with fail;generalize r:ZN c (O_ #[ZR Z0,V o h u,V p i v,I (N:H)] 172)=a;have q:E_ c a:=(by rw[<- r];exact r_);have s:H_ a (B c.1) #[ZR Z0,V o h u,V p i v,I N] 172:=(by rw[<- r];exact hn_);have c6:=(Qb s).1;have d3:=n_ 2 s;have n:=Y q;clear r s R b6 b7 b8 b0;have G:ZD a 0 9 1 (V p i v) i (b.c.map YW):=(by have g:=(Aa.a (S:=λ_=>False) q).M c0 (λ_ _=>id);rw[j.2] at g;exact g);have k:=Y G;clear q G
 by_cases D:i=0
 ·subst D
  rcases p with _|t
  exact Zjt;exact Zjt
 have a2:∃e,p=T ⟨e,0,ZP⟩:=by
  rcases k.out.2 with⟨d,g⟩|⟨x,t,w,d,_⟩
  exact absurd g D
  grind
 obtain⟨e,rfl⟩:=a2;have⟨a8,a1,a5,a6,a7⟩:=info_parts ZoN
 have a3:e<B a.1:=by
  rcases k.out.2 with⟨d,_⟩|⟨x,t,w,d,_,g,_⟩
  ·cases d
  grind
 have z:K (ZD (ZN a _) (B c.1) 9 1 _ 0 []):=⟨X,ZJ ⟨B a.1,0,#[],X,O,hn_,x_,C,X,X⟩⟩;have y:K (F (b.c.map YW)=i*1):=by show _=_;rw[length_map,j.2,Nat.mul_one]
 have w:K (∀d g,(b.c.map YW)[d]? =T g->ZV (ZN a (O_ #[] 9)) (((J e 0):Addr).add d)=T g):=λd g t=>by have A:d<i*1:=(by rw[<- y];grind);have x:((J e 0):Addr).add d=(J e d):=(by unfold Addr.add;split<;>simp_all);rw[x];rw[((br_ (B a.1) a).alloc x_ (O_ #[] 9)).cell (p:=(J e d)) a3];rw[World.ownsRow.cellAt k d A];exact t
 have S:K (∀g∈b.c.map YW,g.oneCell'=Z0):=λg t=>by obtain⟨x,_,rfl⟩:=mem_map.1 t;rfl
 go_wp2_with (at_builtin;refine Dl X (.tmp 17) _ 47 X _ 9 a8 _ 1 16 underlying47 a1 a5 a6 a7 X C _ 0 [] X z _ i v _ X y w S O (by unfold Y2;omega) O t_ ?_)
 rintro a9 M ⟨L,A,W,_,c9,c8,a4⟩;have x:K (ZD M (B c.1) 9 1 a9 i (b.c.map YW)/\E_ c M):=(by refine⟨L,?_⟩;exact(n.alloc O _).grown A t_ (by intro c2 a0;simp[ZW] at a0;omega));subst a4;clear L A W k z w;go_wp2;go_ret2
 have a0:=x.1;refine⟨_,_,X,?_,?_,x.2⟩;rw[f.1];exact ownsRow_nil _ _ 3 1;rw[f.2];unfold Bj;rw[j.2];exact(by simpa using a0)
def ZqJ(d:ZT)(c:ES)(x:Ending)(e:ZT):Prop:=∃a b,x=ZI (Y5 #[a,b,I 0])/\ZpE d e a b c
def Zbo f p a b c (d:Pi c f p b)(k:F b.g<=1000)(j:a<F b.g)(i:F (Z b.g a Aj).e.f<=1000)(l:F (Z b.g a Aj).e.c<=1000):C_ 27 #[P_ f,I a] c λe g=>ZqJ c (Z b.g a Aj).e e g:=by
 have u:=n_ 0 d.f;have o:C_ 52 #[P_ f,I a] c (V_ (ZR Z0) c):=(by have e:=Jk _ _ b (a:E) c d k;have g:ZE (0<=(a:E)/\a<=(F b.g:E)-1)=Z0:=t_;rw[g] at e;exact e);have⟨x,w,y,v,s,r,h⟩:=d.g;have n:=yp h j i l;clear d h k j i l;generalize (Z b.g a Aj).e=t at *;refine dl_ ?_;go_enter func27,ntmps27;go_wp2_with fail
 apply o.m;rintro e D ⟨rfl,q⟩;obtain rfl:=q.s;go_wp2_with fail
 apply n.m;rintro e G ⟨z,A,rfl,g⟩;have m:=Y g;clear g;go_wp2;go_ret3
 exact⟨_,_,X,m⟩
def Kw.f{c a}(_:Kw c a){b}(d:b<F a.f):Z a.f b Df∈a.f:=w_
def yq{s b e x a0 W a1 Q z l a r}(h:Ph r s a0 W a1 Q z l a)(c:Kw x a)(L:b<F a.g)(P:e<x):C_ 78 #[P_ s,I e,I b] r (U_ (ZX ZQ (Tk a l b (De a b) (Iy a b) e:H)) r):=by
 have k:=c.a L;have i:=c.f k.h;have j:=c.j _ i;have a3:=c.h _ i;have q:e<F (Z a.f (De a b) Df).N:=j.y ▸ P;have D:Z (Z a.f (De a b) Df).N e 0<=(Z a.f (De a b) Df).g:=(by rw[Qc,Qd q];exact j.k _ (Qf _));have w:F l<=1000000:=by rw[h.n.length_eq];have:=c.u;omega
 have v:Lv a (De a b) (Iy a b)<=100000:=by
  have o:=Zal (ZU (Iy a b) ((Z a.f _ _).fs)) (λd f=>aG (c.q d (c.n _ i d (aL f))) C);have d:=c.r _ i
  grind [Lv]
 have N:=c.w;have u:F a.f<=1000:=p_ c.l;have⟨_,G⟩:=h.v.v.j (De a b) k.h
 rcases G with⟨_,R,m,a5,a6,n,_,d⟩|⟨_,R,m,a2,y,n,_,d⟩
 subst n;refine sj h k u w O v m (λf g=>?_);have p:ku f 0 _ _ _ _ _:=⟨(g.block _ (Qb d.r).1).T d.r,(Aa.a (S:=λ_=>False) g).M d.M (λ_ _=>id)⟩;exact Ri _ _ f p q (p_ j.y);subst n;have t:Lib.bitLen (Z a.f (De a b) Df).g<=6:=Gj O;have A:=Nat.lt_of_le_of_lt D (Ml O);refine zm h k u w O v m (λf g=>?_);have M:e*Lib.bitLen (Z a.f (De a b) Df).g+Lib.bitLen (Z a.f (De a b) Df).g<=F (Z a.f (De a b) Df).N*Lib.bitLen (Z a.f (De a b) Df).g:=by rw[<- succ_mul];exact aK _ q
 have a4:F (Z a.f _ _).N*_<=_:=Nat.mul_le_mul (j.y ▸ N) t;have p:Oo f 0 _ y _ _ _:=⟨(g.block _ (Qb d.r).1).T d.r,(Aa.a (S:=λ_=>False) g).M d.M (λ_ _=>id)⟩;have o:=Oe _ y _ _ _ _ f p (λS=>Jf _ _ S) t M O O;rw[ZgT A] at o;exact o
def zg{h n c g l b e d}(o:Pi e h n b)(a:Kw l b)(j:c<F b.g)(k:g<l)(q:d.Perm b.r)(r:Em d):C_ 44 #[P_ h,I g,I c] e (U_ (Y5 #[ZX ZQ (Tk b d c (De b c) (Iy b c) g:H),ZX ZQ 0]) e):=by have i:=(a.j _ (a.f a.k)).y;refine Zbp c e o a.k (p_ a.i) (i ▸ k) (by rw[i];have:=a.w;omega) j (λs p=>?_);have⟨w,v,x,u,t,m,f⟩:=p.g;obtain rfl:d=m:=Xc a.v q r f.n f.l;exact yq f a j k
def Zd8{d g f c b}(h:Pi b d g c)(a:Kw f c):C_ 26 #[P_ d] b (U_ (ZX ZQ f) b):=by have e:=Zhr h a.k;rw[(a.j _ (a.f a.k)).y] at e;exact e
def sd{d e i b c}(h:Pi c d e b)(a:Kw i b):C_ 55 #[P_ d] c λg j=>Zoe c b g j:=
 zf d e b c h a.k (p_ a.l) (λk f=>⟨a.o _ (a.f f),p_ (a.r _ (a.f f))⟩)
def ze f e b i a g (h:Pi g f e a)(c:Kw i a)(d:b<F a.g):=
 Zbo f e b a g h (p_ c.i) d (c.x b d).1 (c.x b d).2
def Ec(b:U E):Prop:=∀a∈b,0<=a/\a<256
def Ec.nil:Ec []:=by intro b a;simp at a
theorem Ec.append{b c}(e:Ec b)(f:Ec c):Ec (b++c):=λd g=>by
 rcases mem_append.1 g with a|a
 exact e d a;exact f d a
theorem Ec.cons{x a}(d:0<=x/\x<256)(b:Ec a):Ec (x::a):=λf e=>by
 rcases mem_cons.1 e with rfl|c
 exact d;exact b f c
theorem Ec.a{g:Type}{c}{b:U g}(d:∀x∈b,Ec (c x)):Ec (b.flatMap c):=λf a=>by have⟨x,e,a⟩:=mem_flatMap.1 a;exact d x e f a
def cm{x:E}:0<=x%256/\x%256<256:=O
theorem js b:∀a,Ec (Ba b a)
 |0=>Ec.nil
 |a+1=>by unfold Ba;exact(js b a).append (Ec.cons (cm) Ec.nil)
theorem ZgW b:Ec (Ab b):=λd a=>by unfold Ab at a;obtain⟨c,_,rfl⟩:=mem_map.1 a;have:=c.toNat_lt;omega
theorem Zk7{a}(e:∀d,a d<=1) c b:Ec (Bg a c b):=λg f=>by grind [Bg,li]
theorem Zlz{b}:∀a,Ec (Sd b a)
 |0=>by unfold Sd;exact Ec.nil
 |a+1=>by unfold Sd;exact(Zlz a).append (Ec.cons (cm) (Ec.cons (cm) Ec.nil))
theorem ZmA a b:Ec (Ia a b):=by
 unfold Ia;split
 ·grind [Sj,Ec.cons,Zlz]
 grind [Ec.cons,Zk7,Jf]
theorem Zoq a:Ec (Sr a):=λc b=>by grind [Sr]
theorem Zmu a:Ec (Dq a):=by grind [Dq,Ec.append,Ec.cons,Zoq,ZmA]
theorem ZoP a:Ec (Ll a):=by
 unfold Ll;split
 ·unfold ng Lw
  grind [Ec.cons,Ec.a,ZgW]
 unfold knB Lr
 grind [Ec.cons,Ec.a,js]
theorem Zqp x:Ec (xB x):=Ec.cons (cm) (Ec.cons (cm) (Ec.cons (cm) Ec.nil))
def jx a b:Ec (Hv a b):=by
 unfold Hv
 grind [Ec.append,Ec.a,ZoP,Zmu,js,Zqp,Ec.cons]
def Kw.t{m e}(b:Kw m e):∀a∈e.f,ZaF a:=λa c=>by
 have d:=b.j a c;have o:=b.h a c;have p:=b.r a c;have i:=b.w;have q:=b.i;have j:Lib.bitLen a.g<=6:=Gj O;have s:F a.N*_<=_:=Nat.mul_le_mul (d.y ▸ i) j;have u:=Mi a.N (F a.N);have t:=Dj (Cf a.N (Lib.bitLen a.g)) ((F a.N*Lib.bitLen a.g+7)/8) (F a.N*Lib.bitLen a.g);have r:=d.y;refine⟨O,λh k=>p_ (b.n a c h k),⟨O,λn l=>?_⟩,O,?_⟩
 ·have⟨f,g,_⟩:=(Rf _ _ n).1 l;refine⟨O,?_⟩;rw[g,Qc,Qd f];have:=d.k _ (Qf f)
  grind
 grind [Dq,Sr,Ia,Sj,Om]
def fj f j m a e (g:Pi e f j a)(b:Kw m a)(k:∀K∈a.g,Xl K) c (h:c.Perm a.r)(l:Em c):C_ 34 #[P_ f] e (U_ (YW (ZB (Br a c))) e):=by have⟨q,p,r,o,n,i,d⟩:=g.g;obtain rfl:c=i:=Xc b.v h l d.n d.l;exact Zd6 g.f d b.k k b.i b.t b.l (by rw[h.length_eq];have:=b.u;omega) (jx a c)
def ZoV:Zi7 Ra:=by
 intro b1 b5 R b3 a0 a8 a9 f h e k d c u q t w v o p P Q r s;have l:=Y (λb a=>nj R a0 f e b ((Aa.a (S:=λ_=>False) a).M c (λ_ _=>id)) (u.q a) q t w v r s);have G:ZV (ZN d (O_ #[ZR ZZ,N_,N_] 170)) _=_:=T_ r_ o;have L:ZV (ZN d (O_ #[ZR ZZ,N_,N_] 170)) _=_:=T_ r_ p;have n:K ((Ra e k f h).a=Z0/\(Ra e k f h).f=[]):=⟨X,X⟩;clear c u q t w v r s;go_enter func210,ntmps210;go_wp2_with fail
 apply (l _ r_).m;rintro a4 W ⟨b0,rfl,⟨b2,b4,c,g,i⟩,j⟩;rw[n.1] at c;rw[n.2] at g;obtain⟨y,A,rfl⟩:=g.d;have⟨z,D,M⟩:=i.b;subst M;subst c;have a:W.1[B d.1]? =T (O_ _ 170 _):=(j.block _ s_).T hn_;have a1:=n_ 0 a;have a2:=n_ 1 a;have a3:=n_ 2 a;have a5:=R_ 0 _ _ a;have a6:=R_ 1 _ _ a;have a7:=R_ 2 _ _ a;have x:=Y (r_.T (j.m s_));have m:K (Bj _ (B d.1) _ _/\Ad _ (B d.1) _ _):=⟨i.c s_,g.m s_⟩;have b:=Y a;clear j i g a l o p P Q G L;generalize N:F (Ra e k f h).c=S at *;clear N;go_wp2;apply bodyPost_ret (v:=Y9 #[ZR Z0,V y 0 A,V z S D]) (by simp[results,results210,go_sem, *]) X
 refine⟨_,X,⟨V _ 0 _,V _ _ _,X,?_,?_⟩,((x.setCell x_ _).setCell x_ _).setCell x_ _⟩;exact Am (Am (Am m.2 b C) (by exact ht_ _ _ _ _ b) C) (by exact ht_ _ _ _ _ (ht_ _ _ _ _ b)) C;exact Am (Am (Am m.1 b C) (by exact ht_ _ _ _ _ b) C) (by exact ht_ _ _ _ _ (ht_ _ _ _ _ b)) C
def ZkL:Zi6 Ra:=by
 refine⟨ZoV,λa d c b h i j=>?_⟩
 have e:F (Ra a d c b).c<=16:=by
  show F ((ZU (ZL b) ((Nh (a.zip d) c).mergeSort λf g=>ZE (leW f g))).map WS.a)<=16
  grind
 refine⟨⟨Pairwise.nil,by simp[Ra],O⟩,X,?_⟩;show Kz Z0 0 (F (Ra a d c b).c)<=16;simp only[Kz,if_true];exact e
def Sw{c f d ct b e n g}(m:∀a,a<c+1->f a=ZZ->0<=d a/\d a<=3)(i:2<=b)(j:b<=16)(k:2<=e)(l:e<=32)(h:Bt (c+1) f d RS.h n 0=.ok g):xg Ra c f ct b e g:=Za3 (λ_=>ZkL) m i j k l h
def gi{S:E->Prop}{e}(l:2<=e)(r:e<=32):∀{f a},Gt f->Bc a->F a<=32->Aw f+Ae a<=1000000000000->(∀c∈f,∀b∈c,S b.v)->(∀b∈a,S b.v)->∀c∈Av e f a,∀b∈c,S b.v
 |[],a,_,_,_,_,_,m=>by simpa [Av] using m
 | g::t,a,h,n,v,s,q,m=>by
  have p:=h.j g s_;have k:Gt t:=⟨λi d=>h.j i (by simp[d]),λi d=>h.y i (by simp[d])⟩;have y:=Gb k.j;simp only[Aw] at s;simp only[Av];split
  ·grind
  have j:=Fy p n O;have o:=j.e (Ge j e);have z:Ae (Ep (Bf g a) e)=Ae g+Ae a:=(by rw[Gn,Fc]);have x:=Jh (Bf g a) l;have w:=gi (S:=S) l r k o O O (λc d=>q c (by simp[d])) (λb u=>by grind [Wt,Ge])
  grind
def Ziz{e:E->Prop}{a d}(n:∀c∈a,e c/\ -1000000000<=c/\c<=1000000000):∀b∈Ko a d,e b.v:=λb h=>by
 have j:=Tw (Ao a d);have⟨l,i,o,_⟩:=(Uv (gf (Ao a d)) 0).1 b h;have⟨q,f,m⟩:=j.e l i;unfold Ao at f;obtain⟨g,k,rfl⟩:=mem_map.1 f;have p:=(of_mem_zip (a:=g.1) (b:=g.2) k).1
 grind [Ey]
def Xv{h:E->Prop}{b}(o:2<=b)(p:b<=32):∀j d a f,Gt d->Aw d+1000*F a<=1000000000000->F a<=2097152->(∀g∈d,∀i∈g,h i.v)->(∀c∈a,h c/\ -1000000000<=c/\c<=1000000000)->∀g∈Dv b j d a f,∀i∈g,h i.v
 |0,d,a,f,_,_,_,e,_=>by simp only[Dv];exact e
 |j+1,d,a,f,l,u,r,e,n=>by simp only[Dv];split;exact e;have m:=kc (vs:=ZU b a) (ws:=ZU b f) t_;have s:F (ZU b a)+F (ZF b a)=F a:=t_;have t:F (ZU b a)<=b:=t_;have⟨q,v⟩:=Va (size:=(b:E)) O O l m.1 O O;refine Xv o p j _ _ _ q O O ?_ (λc k=>n c (mem_of_mem_drop k));exact gi O O l m.1 O O e (Ziz (λc k=>n c (aL k)))
def Yl{h:E->Prop}{f}(m:2<=f)(s:f<=32):∀d a,Gt d->Bc a->F a<=32->Ae a+Aw d<=1000000000000->(∀g∈d,∀b∈g,h b.v)->(∀b∈a,h b.v)->∀b∈Fw f a d,h b.v
 |[],a,_,_,_,_,_,n=>n
 |e::o,a,i,p,u,t,r,n=>by have q:=i.j e s_;have l:Gt o:=⟨λj c=>i.j j (by simp[c]),λj c=>i.y j (by simp[c])⟩;have w:=Gb l.j;simp only[Aw] at t;have k:=Fy p q O;have v:=Jh (Bf a e) m;have x:Ae (Ep (Bf a e) f)=Ae a+Ae e:=(by rw[Gn,Fc]);simp only[Fw];exact Yl m s o _ l (k.e (Ge k _)) O O (λg c=>r g (by simp[c])) (λb g=>by grind [Wt,Ge])
def sf{S:E->Prop}{b}(e:2<=b)(f:b<=32){a g}(d:F a<=2097152)(k:∀c∈a,S c/\ -1000000000<=c/\c<=1000000000):∀h∈Dw b a g,S h.v:=by have⟨i,j⟩:=Wn e f (F a) [] a g Gt.nil (by simp[Aw];omega) d;exact Yl O O _ _ i Bc.nil s_ (by simp[Ae,Aw] at j ⊢;omega) (Xv e f _ _ _ _ Gt.nil (by simp[Aw];omega) d s_ k) s_
theorem cj:∀(c:U VS) (d:U E) (b:E×E),b∈Bd c d->∃e∈c,e.a=ZZ/\e.num=b.1
 |[],_,b,a=>by simp[Bd] at a
 |_::_,[],b,a=>by simp[Bd] at a
 | e ::c,j::d,b,a=>by
  simp only[Bd] at a;split at a
  ·have⟨h,g,f⟩:=cj c d b a
   grind
  rename_i i
  rcases mem_cons.1 a with rfl|a
  ·grind
  have⟨h,g,f⟩:=cj c d b a
  grind
theorem fp{b d g c}(o:F b<=200)(l:2<=c)(m:c<=32)(p:∀a∈b,-1000000000<=a.num/\a.num<=1000000000):∀f∈Fb b d g c,∃a∈b,a.a=ZZ/\a.num=f:=λf e=>by
 have k:F ((Bd b d).map Prod.fst)<=2097152:=(by have:=Ki b d;simp;omega);unfold Fb at e;have i:=(ey).subset e;obtain⟨h,j,rfl⟩:=mem_map.1 i;refine sf (S:=λn=>∃a∈b,a.a=ZZ/\a.num=n) l m k (λa n=>?_) h (aL j)
 grind [cj]
theorem ZkM{d m i h}:∀g∈(Ra d m i h).c,∃f∈d,f.a=ZZ/\f.f=g:=λg c=>by
 unfold Ra at c;simp only at c;obtain⟨n,l,rfl⟩:=mem_map.1 c;have j:=(mem_mergeSort).1 (aL l);have e:=((Ww).1 j).1;unfold Vm at e;have⟨a,k,b⟩:=any_eq_true.1 e;unfold Tf at b;simp only[Bool.and_eq_true,Bool.not_eq_true',decide_eq_true_eq] at b;refine⟨a.1,(of_mem_zip (a:=a.1) (b:=a.2) k).1,b.1,?_⟩
 cases q:a.1.f with
 | mk o=>
  cases r:n.a with
  | mk p=>
   grind [Array.toList_inj]
def ZkC{e f b c g a h}(i:F a<=200)(m:2<=c)(n:c<=32)(j:2<=b)(k:b<=16)(l:∀d∈a,(-1000000000<=d.num/\d.num<=1000000000)/\ZK d.f<=8):Xl ⟨Cp Ra e f b c a h,g⟩:=by
 cases e
 ·left
  grind [Cp,uw,fp]
 right
 grind [Cp,Ra,ZkM]
def Wp(a:U VS)(c:U E)(b:E):U WS:=(Nh (a.zip c) b).mergeSort λd e=>ZE (leW d e)
def Zq1 a d c b:(Ra a d c b).c=(ZU (ZL b) (Wp a d c)).map WS.a:=rfl
def Zbf b d c:(Wp b d c).Pairwise leW:=by have a:=pairwise_mergeSort (le:=λe f=>ZE (leW e f)) (λe f i g h=>aF (uv (of_decide_eq_true g) (of_decide_eq_true h))) (λe f=>w_) (Nh (b.zip d) c);exact a.imp (λa=>of_decide_eq_true a)
def ZkO{a b c x}:x∈Wp a b c↔Vm (a.zip b) (Y4 x.a.data)=Z0/\x.g=Lk (a.zip b) (Y4 x.a.data)/\c<=x.g:=by unfold Wp;rw[mem_mergeSort];exact Ww
def ZdO a c b:(Wp a c b).Nodup:=((mergeSort_perm _ _).nodup_iff).2 (Yq)
theorem pn{b c:ZC}:Y4 b.data=Y4 c.data↔b=c:=by
 constructor
 ·intro a
  cases b;cases c
  simp at a;rw[a]
 intro a;rw[a]
theorem Zku a b:Tf a (Y4 b.data)=(!a.a&&ZE (a.f=b)):=by grind [Tf,pn]
def ZlU:∀(a:U (E×U VS)) (b:H) (c:ZC),Ua a b c=Lk ((Bn a b).zip (Jp a)) (Y4 c.data)
  |[],_,_=>X
  | e::a,b,c=>by
    have d:=ZlU a b c
    grind [Lk,Bn,Jp,Zku,Ua]
abbrev lj(b:U ZC)(c:ZC->E)(d:E)(a:VS):Prop:=a.a=ZZ/\containsS b a.f=ZZ/\d<=c a.f
abbrev Zfy(c:ZC->E)(a:ZC×E)(b:VS):Prop:=a.2<c b.f∨c b.f=a.2/\Jx b.f a.1
def pkS(d:U ZC)(b:ZC->E)(e:E)(c:ZC×E)(a:VS):ZC×E:=if lj d b e a/\Zfy b c a then(a.f,b a.f) else c
def pkF(a:U ZC)(b:ZC->E)(c:E)(d:U VS):ZC×E:=d.foldl (pkS a b c) (⟨#[]⟩,0)
def Zb3 a b c e d:pkF a b c (e++[d])=pkS a b c (pkF a b c e) d:=by
 unfold pkF
 grind
def Zla d b {e}(i:1<=e):∀g c,F c=g->(pkF d b e c=(⟨#[]⟩,0)/\∀a∈c,¬lj d b e a)∨((∃a∈c,lj d b e a/\pkF d b e c=(a.f,b a.f))/\∀a∈c,lj d b e a->¬Zfy b (pkF d b e c) a)
 |0,c,f=>by obtain rfl:=eq_nil_of_length_eq_zero f;exact ZM ⟨X,s_⟩
 | g+1,c,f=>by
  obtain⟨h,a,rfl⟩:∃h a,c=h++[a]:=⟨c.dropLast,c.getLast w_,(dropLast_concat_getLast _).s⟩;have k:=Zla d b i g _ (by simpa using f);rw[Zb3]
  by_cases j:lj d b e a/\Zfy b (pkF d b e h) a
  ·grind [pkS]
  grind [pkS]
section
variable {L:U (E×U VS)} {i:H} {ct:E}
def Zgg{x}:x∈Wp (Bn L i) (Jp L) ct↔(∃a∈Bn L i,a.a=ZZ/\a.f=x.a)/\x.g=Ua L i x.a/\ct<=x.g:=by
 rw[ZkO,ZlU];refine and_congr_left λ_=>?_;unfold Vm;rw[any_eq_true];constructor;rintro⟨c,b,a⟩;simp only[Tf,Bool.and_eq_true,Bool.not_eq_true',decide_eq_true_eq,pn] at a;exact⟨c.1,(of_mem_zip b).1,a⟩;rintro⟨a,d,e,f⟩;obtain⟨b,c,rfl⟩:=aM d;refine⟨((Bn L i)[b],(Jp L)[b]'(by simpa [Bn,Jp] using c)),?_,?_⟩
 ·grind [Bn,Jp]
 grind [Tf]
def ZhY(p:1<=ct){a}(w:a<=F (Wp (Bn L i) (Jp L) ct)):pkF ((ZU a (Wp (Bn L i) (Jp L) ct)).map WS.a) (Ua L i) ct (Bn L i)=if d:a<F (Wp (Bn L i) (Jp L) ct) then((Wp (Bn L i) (Jp L) ct)[a].a,(Wp (Bn L i) (Jp L) ct)[a].g) else(⟨#[]⟩,0):=by
 have y:=Zbf (Bn L i) (Jp L) ct;have t:=ZdO (Bn L i) (Jp L) ct;have j:∀o,o∈Wp (Bn L i) _ ct↔_:=λo=>Zgg;generalize Wp (Bn L i) (Jp L) ct=b at *
 have q:∀d,b[a].a ∉ (ZU a b).map WS.a:=λd r=>by
  have⟨m,l,g⟩:=mem_map.1 r;obtain⟨f,n,rfl⟩:=aM l;rw[length_take] at n;rw[getElem_take] at g;have c:=((j b[f]).1 (Qf _)).2.1;have e:=((j b[a]).1 (Qf _)).2.1
  have:b[f]=b[a]:=by
   cases k:b[f];cases h:b[a]
   rw[k,h] at g;rw[k] at c;rw[h] at e;simp only at g c e;rw[c,e,g]
  have:=(getElem_inj t).1 this;omega
 have v:∀d,∃c∈Bn L i,lj ((ZU a b).map WS.a) (Ua L i) ct c/\c.f=b[a].a:=λd=>by have⟨⟨c,l,e,h⟩,m,f⟩:=(j b[a]).1 (Qf _);exact⟨c,l,⟨e,by rw[h,<- Bool.not_eq_true,containsS_iff];exact q d,w_⟩,h⟩
 rcases Zla ((ZU a b).map WS.a) (Ua L i) p _ (Bn L i) X with⟨e,h⟩|⟨⟨c,l,e,m⟩,h⟩
 ·grind
 have k:⟨c.f,Ua L i c.f⟩∈b:=(j _).2 ⟨⟨c,l,e.1,X⟩,X,e.2.2⟩;have⟨f,n,u⟩:=aM k
 have x:a<=f:=by
  apply Nat.le_of_not_lt;intro d;have g:=e.2.1;rw[<- Bool.not_eq_true,containsS_iff] at g
  grind [mem_iff_getElem]
 have s:a<F b:=O;rw[dif_pos s,m]
 by_cases g:a=f
 ·grind
 grind [pairwise_iff_getElem,Yv]
end
end Go.Proofs.YtfcgnpchbcmdeaaGreat
