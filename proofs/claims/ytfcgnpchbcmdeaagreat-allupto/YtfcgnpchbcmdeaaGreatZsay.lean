import Derived.Test.YtfcgnpchbcmdeaaGreatZsav
open Array renaming toList->Y4,size->B
open _root_ renaming Nat->H,List->U,rfl->X,Bool->ZG,Int->E,Option->Y0
open List renaming length->F,getD->Z,replicate->Y6,take->ZU,drop->ZF
open Or renaming inr->ZJ,inl->ZM
open Decidable renaming decide->ZE
open Bool renaming true->Z0,false->ZZ
open Option renaming some->T,none->ZP
open Go.Value renaming int->ZX,bool->ZR,slice->ZH,agg->Y9,ownBlock->ZW,tuple->Y5
open Go renaming World->ZT,Value->ZY,maxLen->Y2,madeCells->YV
open Go.IntKind renaming i64->ZQ
open Int renaming toNat->ZL
open Go.Ending renaming returned->ZI
open Go.Proofs renaming intOf->ZA
open Go.World renaming drewN->Y1,cell?->ZV,setCell->ZO,ownsRow->ZD,grownBy->Y3,frozen?->YT,alloc->ZN,drew->YY
namespace Go.Proofs.YtfcgnpchbcmdeaaGreat
set_option linter.all false
set_option maxRecDepth 100000
set_option maxHeartbeats 32000000
open Go.RowKit Go.Sort List Nat Go.World Go.Proofs.Tryz Go.Value Go.IntKind Go.Lib Go.Region
theorem cs a b:(Dp a b).Perm (range (a+1)):=by
 have⟨g,_,d⟩:=(insertionSort_holds (lt:=ltOf (Vg (m:=a+1) b)) (Zpn b) (Js a) 0 (a+1) v_ (by simp[Js])).1;have e:(insertionSort (ltOf (Vg (m:=a+1) b)) (Js a) 0 (a+1)).extract 0 (a+1)=insertionSort (ltOf (Vg (m:=a+1) b)) (Js a) 0 (a+1):=(by apply Array.extract_eq_self_of_le;rw[g];simp[Js]);have f:(Js a).extract 0 (a+1)=Js a:=w_;rw[e,f] at d;have h:=d.map (λc=>c.val);unfold Dp;apply h.T
 have:(Y4 (Js a)).map (λc=>c.val)=range (a+1):=by
  apply ext_getElem?;intro c;unfold Js;rw[getElem?_map,Array.getElem?_toList,Array.getElem?_ofFn]
  by_cases i:c<a+1
  ·grind
  grind
 rw[this]
def He(b:U GS):U H:=b.flatMap (λa=>a.fs)
theorem fg{i j:Type}{f}:∀(a:U i) e c d (b:U j),f c=f a[e]++b->((a.set e c).flatMap f).Perm (a.flatMap f++b)
 |[],e,c,d,b,g=>by simp at d
 |h::a,0,c,d,b,g=>by grind [List.Perm.append_left,perm_append_comm]
 |h::a,e+1,c,d,b,g=>by simp only[set_cons_succ,flatMap_cons,append_assoc];exact List.Perm.append_left _ (fg a e c (by simpa using d) b g)
theorem Zby c d f e a b:(He (Be c d f e a b)).Perm (He a++[b]):=by grind [Be,He,fg,Ve,Ju]
theorem Zga{c d f e}:∀b a,(He (b.foldl (Be c d f e) a)).Perm (He a++b)
 |[],a=>s_
 | g::b,a=>by
  simp only[foldl_cons];apply (Zga _ _).T
  grind [Zby]
theorem Pr a b c e d:(He (Ib a b c e d)).Perm (range (a+1)):=by grind [Ib,Zga,He,cs]
def Wv c a b d e:(He (Ib c a b d e)).Nodup:=(Pr c a b d _).nodup_iff.2 nodup_range
def ZbA{c d g e b f}(h:∀a∈b,0<F a.fs):∀a∈Be c d g e b f,0<F a.fs:=by grind [Be,Ve]
def Zgc{e f h g}:∀(c:U H) b,(∀a∈b,0<F a.fs)->∀a∈c.foldl (Be e f h g) b,0<F a.fs
 |[],_,d=>d
 |i::c,b,d=>Zgc c _ (ZbA d)
def Zky e b c f d:∀a∈Ib e b c f d,0<F a.fs:=Zgc _ _ s_
def Nx(c:U XS):Prop:=c.Pairwise (λa b=>a.M≠b.M∨a.f≠b.f)
def Zi{e g d f}:∀c,∀b∈Jv e g d f c,b.f=e/\b.M<c/\b.i=Z d b.M 0
 |0,b,a=>by simp[Jv] at a
 | c+1,b,a=>by
  rw[Jv,mem_append] at a
  rcases a with a|a
  have:=Zi c b a;omega
  grind [Zil]
def vq{e d b c}:∀a,Nx (Jv e d b c a)
 |0=>by simp[Jv,Nx]
 | a+1=>by
  unfold Nx;rw[Jv,pairwise_append];refine⟨vq a,by unfold Zil;split<;>simp,λg f j i=>?_⟩;have h:=(Zi a g f).2.1
  grind [Zil]
def Yb j k i h:∀(b a:U H) c,Nx c.r->(∀d∈c.r,d.f∈a)->(a++b).Nodup->Nx (b.foldl (Al j k i h) c).r/\∀d∈(b.foldl (Al j k i h) c).r,d.f∈a++b
 |[],a,c,g,l,_=>⟨g,by simpa using l⟩
 | f ::b,a,c,g,l,m=>by
  simp only[foldl_cons];have n:a++f::b=(a++[f])++b:=s_;rw[n] at m ⊢;refine Yb _ _ _ h _ _ _ ?_ ?_ m
  ·show Nx (c.r++Jv f _ _ _ _);unfold Nx;rw[pairwise_append];refine⟨g,vq _,λd e p o=>ZJ ?_⟩;rw[(Zi _ p o).1]
   grind
  intro d e
  rcases mem_append.1 e with e|e
  ·grind
  rw[(Zi _ d e).1];simp
def tr{i h} d:∀c b a,Nx a.r->(∀e∈a.r,e.f∈b)->(b++He c).Nodup->Nx (c.foldl (Lq i h d) a).r
 |[],b,a,f,_,_=>f
 |e::c,b,a,f,m,g=>by simp only[foldl_cons];have l:b++He (e::c)=(b++e.fs)++He c:=(by simp[He]);rw[l] at g;have⟨j,k⟩:=Yb a.g i h d e.fs b ⟨Y6 d 0,a.r,1⟩ f m (nodup_append.1 g).1;exact tr d _ _ _ j k g
def np a b d e c:Nx (Bx a b d e c).r:=
 tr _ _ [] _ (by simp[Nx]) s_ (by simpa using Wv a _ _ b _)
def Xc{b c d}(k:Nx b)(g:c.Perm b)(l:Em c)(h:d.Perm b)(m:Em d):c=d:=by
 refine List.Perm.eq_of_pairwise (le:=λa e:XS=>a.M<e.M∨a.M=e.M/\a.f<=e.f) (λr s n o t u=>?_) l m (g.T h.s);have p:=g.subset n;have q:=h.subset o;obtain⟨e,i,rfl⟩:=aM p;obtain⟨f,j,rfl⟩:=aM q
 rcases Nat.lt_trichotomy e f with a|a|a
 have:=pairwise_iff_getElem.1 k e f i j a;omega;subst a;rfl;have:=pairwise_iff_getElem.1 k f e j i a;omega
end Go.Proofs.YtfcgnpchbcmdeaaGreat
namespace Go.Proofs.YtfcgnpchbcmdeaaGreat
set_option linter.all false
set_option maxRecDepth 100000
set_option maxHeartbeats 32000000
open Go.RowKit List Nat Go.World Go.Proofs.Tryz Go.Value Go.IntKind Go.Lib Go.Region
def Znq{a d e b c f}(j:∀x∈c,x<a)(h:0<a)(i:∀g,Z b g 0<d):∀x∈Jn a e b c f,x<a+d:=by grind [Jn,pi]
structure ZgG(b)(a:CS):Prop where
 y:F a.N=b
 f:0<a.off
 lt:∀c∈a.N,c<a.off
def Wo{g Os f b}:∀(e:U H) c,(∀d∈e,∀a,Z (Z f d []) a 0<(Z g d Aj).g)->ZgG b c->ZgG b (e.foldl (Al g Os f b) c)
 |[],c,_,a=>a
 |d::e,c,h,a=>by simp only[foldl_cons];refine Wo _ _ (λi j=>h i (by simp[j])) ⟨?_,?_,?_⟩;show F (Jn _ _ _ _ b)=b;rw[ox (p_ a.y)];exact a.y;show 0<c.off+_;have:=a.f;omega;exact Znq a.lt a.f (h d s_)
def jj{c f b e xs a}(g:∀d∈a,∀h,Z (Z b d []) h 0<(Z c d Aj).g):ZgG e (Jr c f b e xs a):=
 Wo a _ g ⟨s_,s_,w_⟩
structure BOk(b)(c)(a:BS):Prop where
 y:F a.N=c
 k:∀d∈a.N,d<=a.g
 sum:a.g=Bk b a.fs
def xv{Os Bb n Ks}:∀(d:U GS) b,b.g=Ks->(∀c∈d,∀a∈c.fs,∀e,Z (Z Bb a []) e 0<(Z Ks a Aj).g)->(∀a∈b.f,BOk Ks n a)->(∀a∈(d.foldl (Lq Os Bb n) b).f,BOk Ks n a)/\(d.foldl (Lq Os Bb n) b).f.map (λa=>a.fs)=b.f.map (λa=>a.fs)++d.map (λc=>c.fs)
 |[],b,_,_,f=>⟨f,s_⟩
 | c ::d,b,i,g,f=>by
  simp only[foldl_cons]
  obtain⟨j,a⟩:=xv (Os:=Os) d (Lq Os Bb n b c) i (λk m=>g k (by simp[m])) (λa l=>by
   rcases mem_append.1 l with e|e
   exact f a e;simp only[mem_cons,not_mem_nil,or_false] at e;subst e;have h:ZgG n (Jr b.g Os _ n b.r _):=jj (i ▸ (g c s_));refine⟨h.y,λp o=>?_,?_⟩
   ·have:=h.lt p o
    grind
   grind [ll])
  refine⟨j,?_⟩;rw[a];simp[Lq]
def De(a:Ft)(c:H):H:=a.f.findIdx (λb=>ZE (c∈b.fs))
def Iy(a:Ft)(b:H):H:=(Z a.f (De a b) Df).fs.idxOf b
def Zgw{D a}(j:∃b∈D.f,a∈b.fs)(u:∀b∈D.f,F b.fs<=100)(t:∀b∈D.f,∀x∈b.fs,x<F D.g)(p:∀c,c<F D.g->(Z D.g c Aj).g<=100):Wh D a (De D a) (Iy D a):=by
 obtain⟨b,k,l⟩:=j;have e:De D a<_:=findIdx_lt_length_of_exists ⟨b,k,by simpa using l⟩;have m:∀c _,Z D.f c Df=D.f[c]:=w_
 have n:a∈(Z D.f (De D a) Df).fs:=(by rw[m _ e];have:=findIdx_getElem (p:=λb:BS=>ZE (a∈b.fs)) (w:=e);exact of_decide_eq_true this);have g:Iy D a<_:=idxOf_lt_length_of_mem n;refine⟨e,g,?_,?_,?_,?_,p⟩;rw[Qc,Qd g];exact getElem_idxOf _
 ·intro c r v o q
  rcases q with d|d
  ·have h:=not_of_lt_findIdx (p:=λb:BS=>ZE _) (xs:=D.f) d
   grind
  rcases Nat.lt_or_ge c (De D a) with f|f
  ·have h:=not_of_lt_findIdx (p:=λb:BS=>ZE _) (xs:=D.f) f
   grind
  have h:c=De D a:=O;subst h;intro i;rw[Qc,Qd o] at i;have s:=not_of_lt_findIdx (p:=(· ==a)) (xs:=(Z D.f _ _).fs) (i:=r) d
  grind
 ·grind
 grind [Qf]
def XIn(a:U (U H))(c:H)(b:U H)(x:XS):Prop:=x.M<c/\x.f∈b/\x.i=Z (Z a x.f []) x.M 0
def lm f g c b:∀d h a,(∀e∈a.r,XIn c b h e)->F (d.foldl (Al f g c b) a).r<=F a.r+F d*b/\∀e∈(d.foldl (Al f g c b) a).r,XIn c b (h++d) e
 |[],h,a,l=>⟨s_,by simpa using l⟩
 | k ::d,h,a,l=>by
  simp only[foldl_cons]
  have⟨o,p⟩:=lm f g c b d (h++[k]) (Al f g c b a k) (λe j=>by
   rcases mem_append.1 j with j|j
   have⟨i,m,n⟩:=l e j;exact⟨i,mem_append_left _ m,n⟩;have⟨i,m,n⟩:=Zi _ e j
   exact⟨m,by rw[i];simp,i ▸ n⟩)
  refine⟨?_,w_⟩
  have i:F (Al f g c b a k).r<=F a.r+b:=by
   show F (a.r++Jv _ _ _ _ _)<=_
   grind [Zj]
  rw[length_cons,succ_mul];omega
def Zfu g c b:∀d f a,(∀i∈a.r,XIn c b f i)->F (d.foldl (Lq g c b) a).r<=F a.r+F (He d)*b/\∀i∈(d.foldl (Lq g c b) a).r,XIn c b (f++He d) i
 |[],f,a,h=>⟨s_,by simpa [He] using h⟩
 |e::d,f,a,h=>by simp only[foldl_cons];have⟨j,k⟩:=lm a.g g c b e.fs f ⟨Y6 b 0,a.r,1⟩ h;have⟨m,n⟩:=Zfu g c b d (f++e.fs) (Lq g c b a e) k;have l:He (e::d)=e.fs++He _:=rfl;refine⟨?_,w_⟩;have o:F (Lq _ _ b a e).r<=F a.r+_:=j;rw[l,Qe,Nat.add_mul];omega
structure Kw(e)(a:Ft):Prop where
 w:e<=200
 y:0<F a.g
 i:F a.g<=4
 k:0<F a.f
 l:F a.f<=4
 j:∀b∈a.f,BOk a.g e b
 h:∀b∈a.f,b.g<=40
 o:∀b∈a.f,0<F b.fs
 r:∀b∈a.f,F b.fs<=4
 n:∀b∈a.f,∀d∈b.fs,d<F a.g
 all:∀d,d<F a.g->∃b∈a.f,d∈b.fs
 q:∀c,c<F a.g->(Z a.g c Aj).g<=18
 p:∀c,c<F a.g->(Z a.g c Aj).d<(Z a.g c Aj).g
 x:∀c,c<F a.g->F (Z a.g c Aj).e.f<=1000/\F (Z a.g c Aj).e.c<=1000
 v:Nx a.r
 u:F a.r<=800
 z:∀f∈a.r,f.M<e/\f.f<F a.g/\f.i<18
def ZbG{a e budget c b}(a0:a+1<=4)(A:e<=200)(p:em a e c b):Kw e (Bx a e budget c b):=by
 have s:(Bx a e budget c b).g=_:=Pk _ _ _ _ _;have r:=Ev c b (a+1)
 have u:∀d,_->(Z (Ex c _ (a+1)) d _).g=(Z c d _).b+2:=λd g=>by rw[Gf c b g];rfl
 have a1:∀d,_->(Z (Ex _ _ _) d _).g<=18:=λd g=>by rw[u d g];have:=p.g d g;omega
 have M:∀d,d<a+1->F (Z (Iv c b (a+1)) d [])=e:=λd g=>by rw[Nk c b g];unfold oF Cz;rw[length_map];exact p.p d g
 have Q:∀i,i<a+1->∀v,Z (Z b i []) v 0<(Z (Ex c b (a+1)) i Aj).g:=λi k v=>by
  rw[u i k,Qc]
  rcases Nat.lt_or_ge v (F (Z b i [])) with n|n
  rw[Qd n];exact p.i i k _ (Qf _)
  grind
 have⟨o,a8⟩:=Yt (budget:=budget) M (λd g=>aG (a1 d g) C);have w:=Pr a (Ex c b (a+1)) (Iv c b (a+1)) e budget;have a9:=Zky a (Ex c b (a+1)) (Iv c b (a+1)) e budget;have⟨z,x⟩:=xv (Os:=Iv c b (a+1)) (Bb:=b) (n:=e) (Ks:=Ex c b (a+1)) (Ib a (Ex c b (a+1)) (Iv c b (a+1)) e budget) ⟨Ex c b (a+1),[],[]⟩ X (λf j i k=>Q i ((o f j).fs i k)) s_;have⟨G,D⟩:=Zfu (Iv c b (a+1)) b e (Ib a (Ex c b (a+1)) (Iv c b (a+1)) e budget) [] ⟨Ex c b (a+1),[],[]⟩ s_;have R:∀h∈(Bx a e _ _ _).f,_:=z;have P:(Bx a e budget c b).f.map (λh=>h.fs)=(Ib a (Ex c b (a+1)) (Iv c b (a+1)) e budget).map (λf=>f.fs):=(by rw[show(Bx a e budget c b).f=_ from X];exact x);have a4:F (Bx a e _ _ _).r<=0+_:=G
 have a3:∀L∈(Bx a e _ _ _).r,_:=D;have W:=np a e budget c b;clear z x G D;generalize Bx a e budget c b=q at *;generalize Ib a (Ex c b (a+1)) (Iv c b (a+1)) e budget=m at *
 have y:F q.f=F m:=by have:=congrArg F P;simpa using this
 have t:∀h∈q.f,∃f∈m,f.fs=h.fs:=λh l=>by
  have:h.fs∈q.f.map (λh=>h.fs):=mem_map.2 ⟨h,l,X⟩
  grind
 have a7:∀f∈m,∃h∈q.f,h.fs=f.fs:=λf j=>by
  have:f.fs∈m.map (λf=>f.fs):=mem_map.2 ⟨f,j,X⟩
  grind
 have S:=λi k=>by have:i∈He m:=w.mem_iff.2 (mem_range.2 k);exact mem_flatMap.1 this
 have N:F (He m)=a+1:=(by rw[w.length_eq,length_range]);constructor;exact A
 ·grind
 ·grind
 ·rw[y];have⟨f,j,_⟩:=S 0 O
  grind
 rw[y];omega
 ·grind
 intro h l;have⟨f,j,n⟩:=t h l;rw[(R h l).sum,<- n,<- (o f j).sum];exact(o f j).k
 ·grind
 intro h l;have⟨f,j,n⟩:=t h l;rw[<- n];have:=(o f j).y;omega;intro h l i k;have⟨f,j,n⟩:=t h l;rw[s,r];exact(o f j).fs i (n ▸ k)
 ·intro i k;rw[s,r] at k
  grind
 ·grind
 intro d g;rw[s] at g ⊢;rw[r] at g;rw[u d g,Gf c b g];show Yc _ _<_;have:=ZbI (Z b d []) (show 0<(Z c d Sf).b+2 by omega);rw[ZfM] at this;omega;intro d g;rw[s] at g ⊢;rw[r] at g;rw[Gf c b g];exact⟨(p.ok d g).p,(p.ok d g).u⟩;exact W;rw[N] at a4;have:(a+1)*e<=4*200:=Nat.mul_le_mul a0 A;omega;intro L a2;have⟨n,a5,a6⟩:=a3 L a2
 grind
theorem Zh{f d b c e a}(g:a<e):Z (Jn f d b c e) a 0=pi f d b c a:=by grind [Jn]
def ZbH{f e c d}:∀b a,a∈Jv f e c d b↔a.f=f/\a.M<b/\Z e a.M ZZ=Z0/\Z d a.M 0≠0/\a.i=Z c a.M 0
 |0,a=>by simp[Jv]
 | b+1,a=>by
  rw[Jv,mem_append,ZbH b];obtain⟨i,h,g⟩:=a
  grind [Zil]
section
variable {Ks:U KS} {Os:U (U ZG)} {Bb:U (U H)} {n:H}
def av:∀(c:U H) (a:CS),0<a.off->∀b,b<n->(Z a.N b 0≠0->Z (c.foldl (Al Ks Os Bb n) a).N b 0=Z a.N b 0)/\(Z a.N b 0=0->Z (c.foldl (Al Ks Os Bb n) a).N b 0=0∨a.off<=Z (c.foldl (Al Ks Os Bb n) a).N b 0)
 |[],a,_,b,_=>⟨λ_=>X,λf=>ZM f⟩
 | d::c,a,j,b,e=>by
  simp only[foldl_cons];have k:Z (Al Ks Os Bb n a d).N b 0=_:=Zh e;have g:(Al Ks Os Bb n a d).off=_+_:=rfl;have⟨h,i⟩:=av c (Al Ks Os Bb n a d) (p_ g) b e
  grind [pi]
def ZjO:∀(c:U H) (a b:CS),a.N=b.N->a.off=b.off->(c.foldl (Al Ks Os Bb n) a).N=(c.foldl (Al Ks Os Bb n) b).N/\(c.foldl (Al Ks Os Bb n) a).off=(c.foldl (Al Ks Os Bb n) b).off
 |[],_,_,e,d=>⟨e,d⟩
 |f::c,a,b,e,d=>by simp only[foldl_cons];refine ZjO _ _ _ ?_ ?_;show Jn _ _ _ _ _=Jn _ _ _ _ _;rw[e,d];show a.off+_=b.off+_;rw[d]
def Ke(Ks:U KS)(Os:U (U ZG))(Bb:U (U H))(n:H)(a:U H):U H:=(Jr Ks Os Bb n [] a).N
theorem ZjM b a:(Jr Ks Os Bb n b a).N=Ke Ks Os Bb n a:=(ZjO a ⟨Y6 n 0,b,1⟩ ⟨Y6 n 0,[],1⟩ X X).1
def Zgf:∀(e:U H) (d:CS) (a:XS),a∈(e.foldl (Al Ks Os Bb n) d).r↔a∈d.r∨∃b f,e=b++a.f::f/\a.M<n/\Z (Z Os a.f []) a.M ZZ=Z0/\Z (b.foldl (Al Ks Os Bb n) d).N a.M 0≠0/\a.i=Z (Z Bb a.f []) a.M 0
 |[],d,a=>s_
 | g ::e,d,a=>by
  simp only[foldl_cons];rw[Zgf e (Al Ks Os Bb n d g) a];have h:a∈(Al Ks Os Bb n d g).r↔_:=mem_append;rw[h,ZbH];constructor;rintro((c|⟨rfl,c⟩)|⟨b,f,rfl,c⟩);exact ZM c;exact ZJ ⟨[],e,X,c⟩;exact ZJ ⟨g::b,f,X,c⟩;rintro(c|⟨b,f,j,c⟩)
  ·grind
  cases b with
  | nil=>
   grind
  | cons i b=>
   grind
def nv:∀(e:U GS) (b:Ft) (a:XS),b.g=Ks->(a∈(e.foldl (Lq Os Bb n) b).r↔a∈b.r∨∃d∈e,∃c f,d.fs=c++a.f::f/\a.M<n/\Z (Z Os a.f []) a.M ZZ=Z0/\Z (Ke Ks Os Bb n c) a.M 0≠0/\a.i=Z (Z Bb a.f []) a.M 0)
 |[],b,a,_=>s_
 | d::e,b,a,f=>by
  simp only[foldl_cons];rw[nv e (Lq Os Bb n b d) a f];have g:a∈(Lq Os Bb n b d).r↔a∈(d.fs.foldl (Al Ks Os Bb n) ⟨Y6 n 0,b.r,1⟩).r:=(by rw[<- f];rfl);rw[g,Zgf];have h:∀c,(c.foldl (Al _ _ Bb n) _).N=Ke Ks Os _ n c:=λc=>ZjM b.r c
  grind
def Zdg:∀(d:U GS) (b:Ft),b.g=Ks->(∀a∈b.f,a.N=Ke Ks Os Bb n a.fs)->∀a∈(d.foldl (Lq Os Bb n) b).f,a.N=Ke Ks Os Bb n a.fs
 |[],_,_,c=>c
 | h::d,b,g,c=>by
  simp only[foldl_cons];refine Zdg _ _ g (λa f=>?_)
  rcases mem_append.1 f with e|e
  exact c a e
  grind [ZjM]
end
def Kw.a{g a}(b:Kw g a){f}(e:f<F a.g):Wh a f (De a f) (Iy a f):=
 Zgw (b.all f e) (λc d=>aG (b.r c d) C) b.n (λd c=>aG (b.q d c) C)
def ZkG{b d i c a}(a9:b+1<=4)(b1:d<=200)(D:em b d c a){v}(b6:v.Perm (Bx b d i c a).r){f e}(A:f<b+1)(q:e<d):Tk (Bx b d i c a) v f (De (Bx b d i c a) f) (Iy (Bx b d i c a) f) e=Z (Z a f []) e 0:=by
 have z:=ZbG (budget:=i) a9 b1 D;have G:(Bx b d i c a).g=_:=Pk _ _ _ _ _;have a8:=Ev c a (b+1);have t:=z.a (f:=f) w_
 have N:∀j,j<b+1->∀L,Z (Z a j []) L 0<(Z (Ex c a (b+1)) j Aj).g:=λj o L=>by
  rw[Gf c a o];show _<(Z c j Sf).b+2;rw[Qc]
  rcases Nat.lt_or_ge L (F (Z a j [])) with g|g
  rw[Qd g];exact D.i j o _ (Qf _)
  grind
 have b0:∀n,n∈(Bx b d _ _ _).r↔_:=λn=>nv (Ks:=Ex _ _ _) (Os:=Iv c _ _) (Bb:=a) (n:=d) (Ib b _ _ d i) _ n X;have a6:∀r∈(Bx b d _ _ _).f,_=Ke (Ex _ _ _) _ _ d _:=Zdg (Ib b _ (Iv c a _) d i) _ X s_;have b7:(Bx b d i c a).f.map (λr=>r.fs)=(Ib b (Ex c a (b+1)) (Iv c a (b+1)) d i).map (λl=>l.fs):=by have g:=(xv (Os:=Iv c a (b+1)) (Bb:=a) (n:=d) (Ks:=Ex _ _ _) _ ⟨Ex _ a _,[],[]⟩ X (λl w j o=>N j (mem_range.1 ((Pr b (Ex c a (b+1)) (Iv c a (b+1)) d i).mem_iff.1 (mem_flatMap.2 ⟨l,w,o⟩)))) s_).2;rw[show(Bx b d i c a).f=_ from X];exact g
 have b5:Z (Z (Iv c a (b+1)) f []) e ZZ=ZE (Z (Z a f []) e 0≠(Z (Ex c a (b+1)) f Aj).d):=by rw[Nk c a A,Gf c a A];have s:e<F (Z a f []):=(D.p f A) ▸ q;unfold oF Cz;rw[Qc,getElem?_map,Qd s,Qc (l:=Z a f []),Qd s];rfl
 have R:=z.n;clear z;generalize Bx b d i c a=h at *;generalize Ib b (Ex c a (b+1)) (Iv c a (b+1)) d i=a3 at *;rw[G] at R;generalize De h f=k at *;generalize Iy h f=m at *;have x:Z h.f k Df∈h.f:=by rw[Qc,Qd t.h];grind
 have b3:(Z h.f k Df).fs=ZU m ((Z h.f k Df).fs)++f::ZF (m+1) ((Z h.f k Df).fs):=(by have g:=t.g;rw[Qc (l:=(Z h.f k Df).fs),Qd t.i] at g;simp only[Option.getD_some] at g;have l:=take_append_drop m (Z h.f k Df).fs;rw[aN t.i,g] at l;exact l.s);have b2:Lv h k m=1+Bk (Ex c a (b+1)) (ZU m ((Z h.f k Df).fs)):=(by unfold Lv;rw[G]);have S:=R _ x;rw[a8] at S
 have w:∃l∈a3,l.fs=(Z h.f k Df).fs:=by
  have:(Z h.f k Df).fs∈h.f.map (λr=>r.fs):=mem_map.2 ⟨_,x,X⟩
  grind
 unfold Tk;rw[(a6 _ x),b2,G];generalize (Z h.f k Df).fs=M at *;generalize M.take m=g at *;generalize M.drop (m+1)=p at *;subst b3;have P:ZgG d (Jr _ (Iv c a (b+1)) _ d [] g):=jj (λj o=>N j (S j (mem_append_left _ o)));have y:=ll (Ex c a (b+1)) (Iv c a (b+1)) a d [] g;have b9:Z (Ke (Ex c a (b+1)) (Iv c a (b+1)) a d g) e 0<1+Bk (Ex c a (b+1)) g:=by rw[<- y,Qc];have s:e<F (Ke (Ex c a (b+1)) (Iv c a (b+1)) a d g):=(by unfold Ke;rw[P.y];exact q);rw[Qd s];exact P.lt _ (Qf _)
 have Q:Ke (Ex c a (b+1)) (Iv c a (b+1)) a d (g++f::p)=(p.foldl (Al (Ex c a (b+1)) (Iv c a (b+1)) a d) (Al (Ex c a (b+1)) (Iv c a (b+1)) a d (Jr (Ex c a (b+1)) (Iv c a (b+1)) a d [] g) f)).N:=(by grind [Ke,Jr]);have a1:(Al (Ex c a (b+1)) (Iv c a (b+1)) a d (Jr (Ex c a (b+1)) (Iv c a (b+1)) a d [] g) f).off=1+Bk (Ex c a (b+1)) g+(Z (Ex c a (b+1)) f Aj).g:=(by show(Jr _ _ _ _ _ _).off+_=_;rw[y]);have a0:Z (Al (Ex c a (b+1)) (Iv c a (b+1)) a d (Jr (Ex c a (b+1)) (Iv c a (b+1)) a d [] g) f).N e 0=pi (1+Bk (Ex c a (b+1)) g) (Z (Iv c a (b+1)) f []) (Z a f []) (Ke (Ex c a (b+1)) (Iv c a (b+1)) a d g) e:=by rw[<- y];exact Zh q
 obtain⟨s,u⟩:=av (Ks:=Ex c a (b+1)) (Os:=Iv c a (b+1)) (Bb:=a) (n:=d) p _ (by rw[a1];omega) e q;rw[<- Q,a1,a0] at u;rw[<- Q,a0] at s;have c0:∀n∈v,rt e f n->(Z (Z (Iv c a (b+1)) f []) e ZZ=Z0/\n.i=Z (Z a f []) e 0):=w_;generalize (Z (Ke (Ex c a (b+1)) (Iv c a (b+1)) a d (g++f::p))) e 0=n at *;generalize W:Z (Ke (Ex c a (b+1)) (Iv c a (b+1)) a d g) e 0=b4 at *;unfold pi at s u;rw[W] at s u;generalize 1+Bk (Ex c a (b+1)) g=c1 at *
 by_cases a7:Z (Z (Iv c a (b+1)) f []) e ZZ=Z0
 ·by_cases a2:b4=0
  ·grind
  rw[aC (λa4=>a2 a4.2)] at s u;rw[aC O];obtain⟨l,a5,a4⟩:=w;have b8:(⟨_,f,Z (Z a f _) _ 0⟩:XS)∈_:=(b0 _).2 (ZJ ⟨l,a5,g,p,a4,q,a7,W ▸ a2,X⟩);unfold xbF
  grind
 grind [xbF]
end Go.Proofs.YtfcgnpchbcmdeaaGreat
namespace Go.Proofs.YtfcgnpchbcmdeaaGreat
set_option linter.all false
set_option maxRecDepth 100000
set_option maxHeartbeats 32000000
open Go.RowKit Go.Sort List Nat Go.World Go.Proofs.Tryz Go.Value Go.IntKind Go.Lib Go.Region
section
variable {α:Type} [Inhabited α]
def Rx{g h}{c:α->Nat}(f:∀x e,c e<c x->g x e=h x e):∀a b,a<b.size->(∀d,d<a->c b[d]!<c b[a]!)->insInner g 0 a b=insInner h 0 a b
 |0,_,_,_=>rfl
 | a +1,b,j,i=>by
  unfold insInner;rw[f _ _ (i a O)];split
  ·refine Rx f a _ (by rw[Go.Sort.swp_size];omega) (λd k=>?_)
   grind [swp_other,swp_right]
  rfl
def fn e (f:α->Nat) c:∀d b,d<=c->c<b.size->(∀a,a<=c->f b[a]!<=c)->(∀a,a<=c->f (insInner e 0 d b)[a]!<=c)/\(∀a,c<a->(insInner e 0 d b)[a]! =b[a]!)/\(insInner e 0 d b).size=b.size
 |0,_,_,_,g=>⟨g,λ_ _=>rfl,rfl⟩
 | d+1,b,m,l,g=>by
  unfold insInner;split;obtain⟨i,j,k⟩:=fn e f c d (swp b (d+1) d) O (by rw[Go.Sort.swp_size];exact l) (λa h=>by grind [swp_right,swp_left,swp_other]);exact⟨i,λa h=>by rw[j a h,swp_other b _ _ a O O],by rw[k,Go.Sort.swp_size]⟩
  grind
def Ry{h f}{e:α->Nat}(l:∀x k,e k<e x->h x k=f x k) d:∀i a c,d-a=i->a<=d->c.size=d->(∀b,b<a->e c[b]!<a)->(∀b,a<=b->b<d->e c[b]! =b)->insOuter h 0 d a c=insOuter f 0 d a c
 |0,a,c,p,q,_,_,_=>by rw[insOuter.eq_1 h,insOuter.eq_1 f,aC O,aC O]
 |i+1,a,c,p,q,r,u,o=>by have g:a<d:=O;have s:=o a x_ g;rw[insOuter.eq_1 h,insOuter.eq_1 f,aD g,aD g,Rx l a c O (λb j=>w_)];have⟨m,t,n⟩:=fn f e a a c x_ O (λb j=>w_);exact Ry l d i _ _ O g (n ▸ r) (λb j=>lt_succ_of_le (m b O)) (λb j v=>w_)
end
def Ik(a:U (U ZG))(b:H):H:=Dt (Z a b [])
def ltG{m}(a:U (U ZG))(x b:Fin m):ZG:=ZE (Ik a b.val<Ik a x.val∨Ik a x.val=Ik a b.val/\x.val<b.val)
def Zq4{e b}:SWO (ltG (m:=e) b):=by
 refine⟨λa=>?_,λa f g c d=>?_,λa f g c d=>?_⟩;simp[ltG];simp only[ltG,decide_eq_true_eq] at *;omega
 grind [ltG]
def Zbt{b a}(c:a<b+1):((Js b)[a]!).val=a:=by rw[getElem!_pos (Js b) a (by simp[Js];exact c)];simp[Js]
theorem ZhT a c:insertionSort (ltOf (Vg (m:=a+1) c)) (Js a) 0 (a+1)=insertionSort (ltG c) (Js a) 0 (a+1):=by
 unfold insertionSort;refine Ry (λe f b=>?_) _ _ 1 _ X O (by simp[Js]) (λd b=>by rw[Zbt O];exact b) (λd _ b=>Zbt b)
 grind [ltF,ltG,Ik]
def ZhS a b {i j}(d:i<j)(e:j<a+1):Ik b (Z (Dp a b) j 0)<=Ik b (Z (Dp a b) i 0)/\(Ik b (Z (Dp a b) j 0)=Ik b (Z (Dp a b) i 0)->Z (Dp a b) i 0<=Z (Dp a b) j 0):=by
 have c:=(insertionSort_holds (lt:=ltG (m:=a+1) b) (Zq4) (Js a) 0 (a+1) v_ (by simp[Js]));have h:=c.1.1;have f:=c.2 i j v_ d e;have g:B (Js a)=a+1:=by simp[Js]
 grind [Dp,ltG,ZhT]
end Go.Proofs.YtfcgnpchbcmdeaaGreat
namespace Go.Proofs.YtfcgnpchbcmdeaaGreat
set_option linter.all false
set_option maxRecDepth 100000
set_option maxHeartbeats 32000000
open Go.RowKit List Nat Go.World Go.Proofs.Tryz Go.Value Go.IntKind Go.Lib Go.Region
def rc(d:U KS)(c:U (U H))(e:H)(f:U H):H×H:=f.foldl (λa b=>(if sO d c b e=Z0/\a.1=0 then a.2+Z (Z c b []) e 0 else a.1,a.2+(Z d b Aj).g)) (0,1)
def Hs(b:U KS)(a:U (U H))(c:U H)(d:H):U H:=(range d).map (λe=>(rc b a e c).1)
theorem Zbb{Ks Bb r}{a:U H}{b}(d:b<F a):rc Ks Bb r (ZU (b+1) a)=(if sO Ks Bb (Z a b 0) r=Z0/\(rc Ks Bb r (ZU b a)).1=0 then(rc Ks Bb r (ZU b a)).2+Z (Z Bb (Z a b 0) []) r 0 else(rc Ks Bb r (ZU b a)).1,(rc Ks Bb r (ZU b a)).2+(Z Ks (Z a b 0) Aj).g):=by have c:Z a b 0=a[b]:=w_;unfold rc;rw[Qi d,foldl_append,c];rfl
def ZjS{d h f j c}(n:c<j)(l:∀b,b<F d->Z (Z h b []) c ZZ=sO d f b c):∀(g:U H) a e,(∀b∈g,b<F d)->Z a.N c 0=e.1->a.off=e.2->Z (g.foldl (Al d h f j) a).N c 0=(g.foldl (λa b=>(if sO d f b c=Z0/\a.1=0 then a.2+Z (Z f b []) c 0 else a.1,a.2+(Z d b Aj).g)) e).1
 |[],a,e,_,i,_=>i
 | b::g,a,e,m,i,k=>by
  simp only[foldl_cons];refine ZjS n l _ _ _ (λp o=>m p (by simp[o])) ?_ ?_
  ·grind [Al,Zh,pi]
  show a.off+_=_;rw[k]
def ZjN{b f e a d}(k:∀c,c<a->∀g,g<F b->Z (Z f g []) c ZZ=sO b e g c)(l:∀g∈d,g<F b)(j:F (Ke b f e a d)=a):Hs b e d a=Ke b f e a d:=by apply ext_getElem;rw[j];simp[Hs];intro c m n;have h:c<a:=O;have:=ZjS h (k c h) d ⟨Y6 a 0,[],1⟩ (0,1) l w_ X;simp only[Hs,getElem_map,getElem_range];have i:(Ke b f e a d)[c]=Z (Ke b f e a d) c 0:=w_;rw[i];exact this.s
def ZdL{Ks Bb r}{b:U H}(d:∀c∈b,Z (Z Bb c []) r 0<=5000/\(Z Ks c Aj).g<=5000):∀a,a<=F b->(rc Ks Bb r (ZU a b)).1<=5000*a+5001/\(rc Ks Bb r (ZU a b)).2<=5000*a+1
 |0,_=>by simp[rc]
 | a+1,g=>by
  have⟨e,f⟩:=ZdL d a O
  grind [Zbb]
def Zb8{L a1} d e9 b7 {b} c e f (z:MkV f L a1 d c e)(A:NuV f b7 b)(d0:∀g∈b,g<F c)(h2:d<=200)(f9:F b<=1000)(a3:∀g∈b,∀a,Z (Z e g []) a 0<=5000/\(Z c g Aj).g<=5000):C_ 242 #[P_ L,V b7 (F b) e9] f λa2 h=>∃n,a2=ZI n/\Ad h (B f.1) n (An (Hs c e b d))/\E_ f h:=by
 have b3:=Y z;have b1:=K_ A d0;have⟨e4,e2⟩:=Y_ (λa k d1=>ZdL (λg A=>a3 g A a) k d1) a3;have d3:=z.i;have f3:=z.j.g;have e5:K (An (Hs c e b d)=Ct (λa=>(rc c e a b).1) d d):=(by show _=_;rw[Im];simp[An,Hs]);have⟨t,a4⟩:=Z_ (F b);have b2:=Y a4;rw[a4] at f9 ⊢;have g0:=Gm d O;clear z A d0 a4 a3;refine q_ ?_;go_wp2_with fail
 go_loopw [6] (λh i=>∃a:H,h=ZX ZQ a/\a<=d/\K (Ad i (B f.1) (ZH (T ⟨B f.1,0,ZP⟩) d d) (Ct (λa=>(((rc c e a b).1:H):E)) d a))/\K (E_ f i)) (λh _=>d-ZL (ZA h))
 case atStart=>
  refine⟨0,X,v_,?_,?_⟩;rw[In];exact Gl d f _ O x_;exact r_
 clear g0;obtain⟨a,rfl,h3,i,j⟩:=hrel;have a7:=Ah j d3;have f4:=Ah j f3
 by_cases s:a<d
 ·have f6:=F_ a d;have N:K (d=F (Ct (λa=>(rc c e a b).1) d a)):=(Fg _ O).s;have e7:=Y (Kg (λa=>(((rc c e a b).1:H):E)) s);have e8:K ((Ct (λa=>(rc c e a b).1) d a).set a 0=Ct (λa=>(rc c e a b).1) d a):=(by show _=_;unfold Ct;rw[show d-a=(d-a-1)+1 by omega,replicate_succ,set_append_right _ _ s_];simp);generalize Ct (λa=>(((rc c e a b).1:H):E)) d a=a9 at *;go_wp2_with fail
  rename_i h9;go_loopw [7,8] (λm h l=>∃k:H,h=ZX ZQ k/\k<=t/\m=ZX ZQ ((rc c e a (ZU k b)).2:H)/\K (Ad l (B f.1) (ZH (T ⟨B f.1,0,ZP⟩) d d) (a9.set a ((rc c e a (ZU k b)).1:H)))/\K (E_ f l)) (λ_ h _=>t-ZL (ZA h))
  exact⟨0,X,v_,X,by have:=i.out;rw[<- e8] at this;exact this,j⟩;clear i j a7 f4;obtain⟨k,rfl,d1,rfl,i,j⟩:=hrel
  by_cases f8:k<t
  ·have D:k<F b:=b2 ▸ f8;have q:=j.out;obtain⟨d5,rfl,S⟩:=b1.1 k D;have r:=b1.2 _ (Pp D);have g9:=e2 _ (Pp D) a;have c0:=Ah q S;have l:=b3.q q;obtain⟨a8,g4⟩:=i.c (k:=a) (by rw[length_set];exact N) s;rw[Qc,getElem?_set_self (by rw[<- N];exact s)] at a8;simp only[Option.getD_some] at a8;have h0:=e4 a k O;have b5:=Y (Zbb (Ks:=c) (Bb:=e) (r:=a) D);have⟨h6,c2,c8⟩:=l.k;obtain⟨d6,f2,g7,f1,rfl,R,b8⟩:=c8.2 (Z b k 0) (l.y ▸ r);have a6:=l.u _ (l.y ▸ r);rw[a6] at R;obtain⟨c7,rfl,b9⟩:=b8 a (a6 ▸ s);have⟨w,f0,P,W,Q,a0,c1,c3,c4,c5,c6⟩:=b3.j.z r;have G:=l.j.x _ r;have c9:=Km P Q (F (Z c (Z b k 0) Aj).e.f) (F (Z c (Z b k 0) Aj).e.c) W a0 (Z c (Z b k 0) Aj).e.a (Z c (Z b k 0) Aj).d
   have e1:K (∀y:ZT,C_ 189 #[Y9 #[ZR (Z c (Z b k 0) Aj).e.a,V P (F (Z c (Z b k 0) Aj).e.f) W,V Q (F (Z c (Z b k 0) Aj).e.c) a0,I (Z c (Z b k 0) Aj).d]] y (U_ (ZX ZQ (Z c (Z b k 0) Aj).g) y)):=λy=>by rw[<- G.g];exact c9 y G.1 G.2.1
   have b4:=Y l;have h1:=l.y;have a7:=l.i;clear c9 G l c8 a6 b8;generalize (Z c (Z b k 0) Aj).g=d4 at *;generalize (Z c (Z b k 0) Aj).e.a=g6 at *;generalize (F (Z c (Z b k 0) Aj).e.f)=g2 at *;generalize (F (Z c (Z b k 0) Aj).e.c)=g3 at *;generalize (Z c (Z b k 0) Aj).d=f5 at *;generalize (Z (Z e (Z b k 0) [])) a 0=p at *;generalize (Z b) k 0=g at *;generalize rc c e a (ZU k b)=g5 at *;obtain⟨n,o⟩:=g5;simp only at *;have f7:=F_ k t;have g8:=F_ g (F c);have h4:_=(o:E)+(d4:_):=Au O O;have h5:_=(o:E)+(p:_):=Au O O;go_wp2_with fail
   apply (b4.a r s).m;rintro a2 h7 ⟨rfl,u,g1⟩;subst g1;have⟨v,a5⟩:=Z_ (sO c e g a);rw[a5];have b6:K (rc c e a (ZU (k+1) b)=(if v=Z0/\n=0 then o+p else n,o+d4)):=(by rw[<- a5];exact b5);clear a5 b5 b4;go_upto_region 10 with fail;go_cut [49] (λm h=>m=ZR (ZE (v=Z0/\n=0))/\h=Y1 wr u)
   case first=>
    cases v<;>
     (go_wp2
      go_meet
      exact⟨by first|(simp;done)|(simp;rw[Bool.eq_iff_iff];simp),X⟩)
   obtain⟨rfl,d2⟩:=hcut;obtain rfl:=d2.s;clear d2;go_upto_if 49 with fail
   go_cut [9] (λ_ h=>K (Ad h (B f.1) (ZH (T ⟨B f.1,0,ZP⟩) d d) (a9.set a ((if v=Z0/\n=0 then o+p else n:H))))/\K (E_ f h))
   case first=>
    by_cases m:v=Z0/\n=0
    ·rw[aF m];have M:=Y m;have x:K (Below _ f (Y1 wr u)):=below_drewN q _;have d7:K (∀b0,Ad _ _ _ ((a9.set a _).set a b0)):=λb0=>(Ad.put (i.q ((below_drewN y_ u).drew)) (by rw[length_set];exact N) b0).1;clear m i;go_upto_region 11 with fail;refine Af (λh=>D_ h L 1 (L_ d6 (F e) f2)/\D_ h d5 k (I (g:H))/\D_ h d6 g (L_ c7 d f1)/\D_ h c7 a (I (p:H))) 18 k_ ⟨c2,c0,R,b9⟩ (λhHeld=>?_);refine G_ ?_;refine le_ ?_;go_wp2;go_meet
     refine⟨?_,x.out.drew.setCell x_ _⟩;rw[aD M.out];have:=d7 ((o+p:H):E);rw[set_set] at this;exact this
    rw[aE m];have M:=Y m;have x:K (Ad (Y1 wr u) _ _ _/\Below _ f (Y1 wr u)):=⟨i.q (below_drewN y_ _),below_drewN q _⟩;clear m i;go_wp2;go_meet
    exact⟨(aC M) ▸ x.1,x.2⟩
   obtain⟨e6,e3⟩:=hcut;have m:=e3.out;have x:=Ah m d3;have M:=Ah m c1;have b0:=Ah m S;have d7:=Ah m c3;have d8:=Ah m c4;have d9:=Ah m c5;have e0:=Ah m c6;clear a7 c0 c1 S c3 c4 c5 c6 c2 R b9 a8 g4 i j q;go_upto_region 12 with fail;go_region_held3 (λh=>D_ h L 0 (P_ a1)/\D_ h a1 1 (L_ w (F c) f0)/\D_ h d5 k (I (g:H))/\D_ h w (g*4) (ZR g6)/\D_ h w (g*4+1) (V P g2 W)/\D_ h w (g*4+2) (V Q g3 a0)/\D_ h w (g*4+3) (I (f5:H))) (first|exact⟨x,M,b0,d7,d8,d9,e0⟩|exact⟨Ah aA x,Ah aA M,Ah aA b0,Ah aA d7,Ah aA d8,Ah aA d9,Ah aA e0⟩) (first|(go_at_call 189;apply (e1 _).m;rintro a2 h8 ⟨rfl,h⟩;have aA:Below (B wc.1) _ _:=y_.drew.T h))
   go_wp2;go_roundw;exact⟨k+1,g_,O,by rw[b6];go_num,b6 ▸ (e6.q aA),m.T (aA.m m.size)⟩;exact z_
  have f7:¬k<(t:E):=O;have h:ZU k b=_:=aI (p_ b2.out);rw[h] at i;rw[h,e7] at *;go_wp2;go_roundw;exact⟨a+1,g_,O,i,j⟩;exact z_
 have f6:¬a<(d:E):=O;obtain rfl:a=d:=O;have h:K (Ad wr (B f.1) (L_ (B f.1) a a) (An (Hs c e b a))):=e5 ▸ i;clear i;go_wp2;go_ret;exact⟨_,X,h,j⟩
def GUn(d:U (U ZG))(c:H)(a:GS):Prop:=F a.out=c/\∀b,b<c->Z a.out b ZZ=a.fs.any (λe=>Z (Z d e []) b ZZ)
def Zo8{c a}(d:F c=F a){b}(e:b<F a):Z (orL c a) b ZZ=(Z c b ZZ||Z a b ZZ):=by grind [orL]
def GUn.add{a e b i c}(d:GUn a e c)(f:F (Z a b [])=e):GUn a e (Ve c b (Z a b []) i):=by refine⟨?_,λh g=>?_⟩;show F (orL c.out (Z a b []))=e;rw[Mg (by rw[d.1,f])];exact d.1;show Z (orL c.out (Z a b [])) h ZZ=(c.fs++[b]).any _;rw[Zo8 (by rw[d.1,f]) (f ▸ g),d.2 h g,any_append];simp
def GUn.a{b a}:GUn b a (Ju a):=⟨by simp[Ju],λd c=>by simp[Ju,Z,c]⟩
def Zeh{k b e l i h}(f:∀a∈h,GUn b e a)(j:F (Z b i [])=e):∀a∈Be k b e l h i,GUn b e a:=λa d=>by
 unfold Be at d;split at d
 ·rename_i m
  rcases mem_or_eq_of_mem_set d with g|c
  exact f a g;rw[c,Z,Qd m];exact(f _ (Qf _)).add j
 rcases mem_append.1 d with g|c
 exact f a g;simp only[mem_singleton] at c;rw[c];exact(GUn.a).add j
def ZkB{Ks b e budget k}(h:∀j,j<k+1->F (Z b j [])=e):∀(d:U H) a,(∀c∈d,c<k+1)->(∀f∈a,GUn b e f)->∀f∈d.foldl (Be Ks b e budget) a,GUn b e f
 |[],a,_,g=>g
 |c::d,a,i,g=>ZkB h d _ (λm l=>i m (by simp[l])) (Zeh g (h c (i c s_)))
def ew{a b n}(e:F a=n)(f:F b=n):Ig a b=(range n).map (λc=>Z a c ZZ&&Z b c ZZ):=by
 apply ext_getElem;simp[Ig,e,f];intro c g d;simp only[getElem_map,getElem_range]
 have h:c<n:=by simpa using d
 have:=lf (a:=a) (b:=b) O (k:=c) O
 grind
def ZdI{b g h e c f}(i:GUn g e f)(m:F (Z g c [])=e)(k:∀a,a<e->∀d,d<F b->Z (Z g d []) a ZZ=sO b h d a)(l:c<F b)(o:∀d∈f.fs,d<F b):Gd f.out (Z g c [])=clF b h f.fs c e:=by
 unfold Gd clF Dt;rw[ew i.1 m,count_eq_countP,countP_map];refine countP_congr λa n=>?_
 have j:a<e:=by simpa using n
 simp only[Function.comp_apply,beq_true];rw[i.2 a j,k a j c l,Bool.and_comm]
 grind
def Yu(e:H)(b:U KS)(a:U (U ZG))(f c d:H):U GS:=(ZU d (Dp e a)).foldl (Be b a f c) []
def Zhz{b Ks Os n budget a}(c:a<b+1):Yu b Ks Os n budget (a+1)=Be Ks Os n budget (Yu b Ks Os n budget a) (Z (Dp b Os) a 0):=by
 have d:a<F (Dp b Os):=(by rw[Lg];exact c);unfold Yu
 grind [Qi]
def Zkz a b c e d:Yu a b c e d (a+1)=Ib a b c e d:=by grind [Yu,Ib,Lg]
def Zpf{b a c d}(r:c<b+1)(k:d<b+1)(v:d ∉ ZU c (Dp b a))(u:∀e,e<b+1->e ∉ ZU c (Dp b a)->Ik a e<=Ik a d/\(e<d->Ik a e<Ik a d)):d=Z (Dp b a) c 0:=by
 have h:=cs b a;have w:=h.nodup_iff.2 nodup_range;have t:=Lg b a;have m:c<F (Dp b a):=O;have g:∀i _,Z (Dp b a) i 0=(Dp b a)[i]:=w_;have l:=h.mem_iff.2 (by simpa using k);have⟨f,n,j⟩:=aM l;have s:c<=f:=by grind [mem_iff_getElem]
 by_cases p:c=f
 ·grind
 have o:=ZhS b a (i:=c) (j:=f) O O;rw[g f n,j,g c m] at o;have x:(Dp b a)[c]<b+1:=w_
 have y:(Dp b a)[c] ∉ ZU c (Dp b a):=λq=>by grind [getElem_of_mem,getElem_inj]
 grind
def dnL(a:H)(b:U (U ZG))(d:H):U ZG:=(range (a+1)).map (λc=>ZE (c∈ZU d (Dp a b)))
def ZmE{b c d a}(e:a<b+1):Z (dnL b c d) a ZZ=ZE (a∈ZU d (Dp b c)):=by simp[dnL,Z,e]
def ZmF a b c:F (dnL a b c)=a+1:=by simp[dnL]
def ZjV a b:dnL a b 0=Y6 (a+1) ZZ:=by apply ext_getElem;simp[dnL];intro e c d;simp[dnL]
def ZmG{b Os a}(d:a<b+1):(dnL b Os a).set (Z (Dp b Os) a 0) Z0=dnL b Os (a+1):=by
 have e:a<F (Dp b Os):=(by rw[Lg];exact d);have c:Z (Dp b Os) a 0=(Dp b Os)[a]:=w_;rw[c];apply ext_getElem;simp[dnL];intro h f g;rw[getElem_set];simp only[dnL,getElem_map,getElem_range,Qi e,mem_append,mem_singleton]
 grind
def Gk(a:U GS):U (U H):=a.map GS.fs
def ud(a:U GS):U H:=a.map GS.g
def ZpK(d:ZT)(b g:H)(j i k:ZY)(e:U GS)(a:ZT):Prop:=∃c f,Nt a b g j c i k/\Mk a (B d.1) c f ((Gk e).map An)/\Aa (λh=>h=b) d a
def Sl(f:H)(b:U (U ZG))(e d:H)(g:E):Prop:=(g= -1/\∀a,a<d->a∈ZU e (Dp f b))∨∃c:H,g=c/\c<d/\c ∉ ZU e (Dp f b)/\∀a,a<d->a ∉ ZU e (Dp f b)->Ik b a<=Ik b c/\(a<c->Ik b a<Ik b c)
def Sl.i{d Os c a g}(h:Sl d Os c a g):(ZE (a∈ZU c (Dp d Os))=Z0/\K (Sl d Os c (a+1) g))∨ZE (a∈ZU c (Dp d Os))=ZZ/\((g= -1/\K (Sl d Os c (a+1) a))∨∃b:H,g=b/\b<a/\((ZE (Ik Os b<Ik Os a)=Z0/\K (Sl d Os c (a+1) a))∨(ZE (Ik Os b<Ik Os a)=ZZ/\K (Sl d Os c (a+1) b)))):=by
 by_cases i:a∈ZU c (Dp d Os)
 ·refine ZM ⟨aF i,?_⟩
  rcases h with⟨e,h⟩|⟨b,e,m,k,n⟩
  ·refine ZM ⟨e,λf j=>?_⟩
   grind
  refine ZJ ⟨b,e,O,k,λf j l=>?_⟩
  grind
 refine ZJ ⟨aE i,?_⟩
 rcases h with⟨e,h⟩|⟨b,e,m,k,n⟩
 ·refine ZM ⟨e,ZJ ⟨a,X,O,i,λf j l=>?_⟩⟩
  by_cases o:f=a<;>grind
 refine ZJ ⟨b,e,m,?_⟩
 by_cases p:Ik Os b<Ik Os a
 ·refine ZM ⟨aF O,ZJ ⟨a,X,O,i,λf j l=>?_⟩⟩
  by_cases o:f=a<;>grind
 refine ZJ ⟨aE O,ZJ ⟨b,X,O,k,λf j l=>?_⟩⟩
 grind
def Sl.a{a b c d}(f:c<a+1)(e:Sl a b c (a+1) d):d=(Z (Dp a b) c 0:H)/\Z (Dp a b) c 0<a+1:=by
 have l:c<F (Dp a b):=(by rw[Lg];exact f);have k:Z (Dp a b) c 0=(Dp a b)[c]:=w_;have m:Z (Dp a b) c 0<a+1:=k ▸ (jv a b _ (Qf l));refine⟨?_,m⟩
 rcases e with⟨_,e⟩|⟨n,g,h,i,j⟩
 ·grind [getElem_of_mem,getElem_inj,cs]
 rw[g,<- Zpf f h i j]
def Zgb{Ks Os d budget h}(i:∀b,b<h+1->F (Z Os b [])=d)(n:∀b,b<h+1->(Z Ks b Aj).g<=40)(l:d<=200)(j:budget<=20):∀(a:U H) c e,(∀f∈a,f<h+1)->xi d c e->xi d (c+F a) (a.foldl (Be Ks Os d budget) e)
 |[],c,e,_,g=>g
 | f::a,c,e,k,g=>by
  have m:=k f s_;have:=Zgb i n l j a (c+1) _ (λp o=>k p (by simp[o])) (g.i (Ks:=Ks) (Os:=Os) (budget:=budget) (f:=f) (i f m) l j w_)
  grind
def ZjQ{a b}(c:F b=a):Gd (Ju a).out b=0:=by
 unfold Gd Dt;rw[ew (n:=a) (by simp[Ju]) c,count_eq_zero]
 grind [Ju]
def ZkA{a f c e d k}(m:∀h,h<a+1->F (Z c h [])=e)(n:∀h,h<a+1->(Z f h Aj).g<=40)(u:e<=200)(s:d<=20)(t:k<=a+1):(∀b∈Yu a f c e d k,rg a e (a+1) f b/\GUn c e b/\b.g<=400)/\F (Yu a f c e d k)<=k:=by have g:∀i∈ZU k (Dp a c),i<a+1:=λi g=>jv a c i (aL g);have j:=zj (budget:=d) m n (ZU k (Dp a c)) 0 [] g s_;rw[length_take,Lg,Nat.min_eq_left t] at j;refine⟨λb l=>⟨?_,ZkB (Ks:=f) (budget:=d) m _ [] g s_ b l,((Zgb (budget:=d) m n u s _ 0 [] g ⟨s_,s_⟩).j b l).2.1⟩,by have:=j.2;unfold Yu;simpa using this⟩;have⟨o,p,q,r,v⟩:=j.1 b l;exact⟨o,p,q,r,O⟩
section
variable {Gs:U GS} {b f n budget a:H} {Ks:U KS} {Os:U (U ZG)} {o:U ZG}
def ZfX(a:b<F Gs):Z (Gk Gs) b []=(Z Gs b Fm).fs/\Z (ud Gs) b 0=(Z Gs b Fm).g:=by simp[Gk,ud,Z,a]
def Me(Gs):F (Gk Gs)=F Gs/\F (ud Gs)=F Gs:=by simp[Gk,ud]
def ZoR(d:b<F Gs)(h:Er (Z Os f []) (Z Ks f Aj).g budget (Z Gs b Fm)=Z0)(g:∀a,a<b->Er (Z Os f []) (Z Ks f Aj).g budget (Z Gs a Fm)=ZZ):Gk (Be Ks Os n budget Gs f)=(Gk Gs).set b ((Z Gs b Fm).fs++[f])/\ud (Be Ks Os n budget Gs f)=(ud Gs).set b ((Z Gs b Fm).g+Gd (Z Gs b Fm).out (Z Os f [])):=by
 have e:∀a c,Z Gs a Fm=Gs[a]:=λa c=>by simp[Z,c]
 have i:Gs.findIdx (Er (Z Os f []) (Z Ks f Aj).g budget)=b:=(by rw[findIdx_eq d];exact⟨by rw[<- e b d];exact h,λa c=>by rw[<- e a O];exact g a c⟩);unfold Be Gk ud;rw[i,aD d,map_set,map_set];exact⟨X,X⟩
def Zm0(c:∀a,a<F Gs->Er (Z Os f []) (Z Ks f Aj).g budget (Z Gs a Fm)=ZZ)(d:F (Z Os f [])=n):Gk (Be Ks Os n budget Gs f)=Gk Gs++[[f]]/\ud (Be Ks Os n budget Gs f)=ud Gs++[0]:=by
 have e:Gs.findIdx (Er (Z Os f []) (Z Ks f Aj).g budget)=F Gs:=by
  rw[findIdx_eq_length];intro h g;obtain⟨a,b,rfl⟩:=aM g
  simpa [Z,b] using c a b
 unfold Be Gk ud;rw[e,aC (Nat.lt_irrefl _),map_append,map_append];exact⟨X,by rw[<- ZjQ d];simp[Ve,Ju]⟩
end
section
variable {w wr d:ZT} {base l db n h c g e a k z f:H} {b:H} {vF vB s vC vX m j vb r u:ZY} {kvs:U (ZY×ZY)} {o bvs xs:U ZY} {Ks:U KS} {Bb:U (U H)} {q:U H} {Gs:U GS} {i:U ZG} {p:Y0 Addr}
def Xm.t(a:Xm w wr db n vF vB vC vX m j bvs (Gk Gs) (ud Gs) i)(d:b<F Gs):∃h c p k g e,vB=L_ h (F Gs) c/\m=L_ g (F Gs) e/\ZV wr (J h b)=T (V p (F (Z Gs b Fm).fs) k)/\ZV wr (J g b)=T (I (Z Gs b Fm).g)/\Z bvs b Dg=ZH p (F (Z Gs b Fm).fs) k/\Ad wr (B w.1) (V p (F (Z Gs b Fm).fs) k) (An (Z Gs b Fm).fs):=by
 have s:b<F ((Gk Gs).map An):=(by simp[Gk,d]);have⟨h,c,p,k,r,o,_,f,_⟩:=a.w.at s;have l:=a.w.j b s;have v:Z ((Gk Gs).map An) b []=An (Z Gs b Fm).fs:=(by simp[Gk,Z,d]);have⟨x,e,t⟩:=a.cf.d;rw[Ak,(Me Gs).2] at t;subst t;have⟨g,u,_,_,q,_⟩:=a.cf.b (by rw[Ak,(Me Gs).2]) d;subst u;rw[Bq,(ZfX d).2] at q;rw[f] at l;rw[v,Ak] at o l f;rw[length_map,(Me Gs).1] at r;exact⟨h,c,p,k,g,e,r,X,o,q,f,l⟩
def Xm.put(a:Xm w wr db n vF (L_ h (F Gs) c) vC vX (L_ g (F Gs) e) j bvs (Gk Gs) (ud Gs) i)(a0:MkX w base l db n vF Dg vC vX vb r kvs o Ks Bb q)(M:b<F Gs){D}(a2:(Z Gs b Fm).g=D){v}(S:Z bvs b Dg=v){m}(y:Ad wr (B w.1) v (An m))(z){x:Prop}(Q:ZD d (B w.1) 3 1 u (F (An m)+1) ((An m).map (ZX ZQ)++[I f])/\Y3 wr d (ZW v)/\(ZW u=ZW v∨ZW u=T (B wr.1)/\E_ wr d)/\x):ZV d (J l 0)=T (P_ db)/\ZV d (J db 2)=T (L_ h (F Gs) c)/\ZV d (J h b)=T v/\YT d (J h b)=ZZ/\ZV (ZO d (J h b) u) (J g b)=T (I D)/\YT (ZO d (J h b) u) (J g b)=ZZ/\K (Xm w (ZO (ZO d (J h b) u) (J g b) (I (z:H))) db n vF (L_ h (F Gs) c) vC vX (L_ g (F Gs) e) j (bvs.set b u) ((Gk Gs).set b (m++[f])) ((ud Gs).set b z) i):=by
 obtain⟨a3,t,R,_⟩:=Q;subst S;have p:=(Me Gs).1;have L:=a;rw[<- p] at L;have s:=L.grow (b:=b) O t (by rw[show An (m++[f])=An m++[(f:E)] by simp[An]];exact Ad.P a3) (R.imp_right And.left);rw[p] at s;have A:=World.ownsRow.kept a.w.M t (Ap y a.w.M C);rw[length_map,p] at A;have a1:b<F bvs:=(by have:=a.w.y;rw[length_map,p] at this;omega);have P:=(Aa.refl _ _).grown t (λx G _=>G);have N:=a0.i a.u a.v;have⟨_,e7,_,_,G,W⟩:=s.cf.b (k:=b) (by rw[Ak,(Me Gs).2]) M;injection e7 with e7;injection e7 with e7;subst e7;rw[Bq,(ZfX M).2,a2] at G;refine⟨n_ 0 (P.g N.r (λe=>Ag y e N.r C X)),n_ 2 (P.g a.v (λe=>Ag y e a.v C X)),?_,World.ownsRow.frozenAt A b,G,W,s.g (Me Gs).2⟩
 rw[World.ownsRow.cellAt A b O];simp[Z,a1]
def Xm.add(g:Xm w wr db n vF vB vC vX m j bvs (Gk Gs) (ud Gs) i)(D:MkX w base l db n vF Dg vC vX vb r kvs o Ks Bb q){b}(t:b=YY (ZN (ZN wr (O_ #[I f] 3)) (O_ #[L_ (B wr.1) 1 1] 25))):ZD b (B w.1) 25 1 vB (F Gs) bvs/\K (∀{u d a},ZD d (B w.1) 25 1 u (F Gs+1) (bvs++[L_ (B wr.1) 1 1])/\Y3 b d (ZW vB)/\a->ZV d (J l 0)=T (P_ db)/\ZV d (J db 2)=T vB/\YT d (J db 2)=ZZ/\K (Xm w (ZO d (J db 2) u) db n vF u vC vX m j (bvs++[L_ (B wr.1) 1 1]) (Gk Gs++[[f]]) (ud Gs) i)):=by
 have G:E_ wr (ZN wr (O_ #[I f] 3)):=r_;have M:E_ wr b:=t ▸ (G.alloc s_ _).drew;have P:=g.u.size;have y:=(Me Gs).1;have h:=g.q M;have k:=h.w.M;rw[length_map,y] at k;have p:Ad b (B w.1) (L_ (B wr.1) 1 1) (An [f]):=by have a:Ad _ (B w.1) (L_ (B wr.1) 1 1) (An [f]):=ownsRow_lit (base:=B w.1) (size:=1) (e:=3) wr #[I (f:H)] 1 P (by unfold Y2;omega) s_;rw[t];exact a.q r_.drew
 have x:∀u:ZY,(∀a,ZW u=T a->a<B wr.1)->Bl u (L_ (B wr.1) 1 1):=λu p=>by
  cases c:ZW u with
  |none=>exact ZM c
  |some a=>exact ZJ (ZJ (by rw[c];have:=p a c;simp[ZW];omega))
 refine⟨k,λ{u d a} ⟨R,s,_⟩=>?_⟩;obtain⟨A,v⟩:=h.b (L:=[f]) p (λQ N=>x _ (λa c=>(B_ (g.w.j Q (by rw[length_map];exact N)) a c).2)) (x _ (λa c=>(B_ g.cf a c).2)) s (by rw[y];exact R);have S:=(Aa.refl _ _).grown s (λa c _=>c);have z:=D.i h.u h.v;exact⟨n_ 0 (S.g z.r (λe=>Ag k e z.r C X)),n_ 2 v,R_ 2 _ 142 v,A⟩
end
def Zlf{h0 d9 u:H}(k i j:H){S} R W {j4 j5} j2 h1 {d b9 e} l (v:MkX l h0 d9 u k S Dg R W j4 j5 j2 h1 d b9 ((range (i+1)).map (Ik e)))(hK:F d=i+1)(j0:k<=200)(m5:i+1<=4)(i5:j<=20)(b7:∀h,h<i+1->(Z d h Aj).g<=40)(d3:∀h,h<i+1->F (Z e h [])=k)(f2:∀e5,e5<k->∀L,L<F d->Z (Z e L []) e5 ZZ=sO d b9 L e5):C_ 241 #[P_ d9,I j] l λr A=>r=ZI (Y5 #[])/\ZpK l u k S R W (Ib i d e k j) A:=by
 have q:=x4_ v d3 f2 b7;have g4:K (∀f,f<=i+1->_):=λf f6=>ZkA (k:=f) d3 b7 j0 i5 f6;have⟨g8,k4,f9⟩:=v.w.d;have⟨g,b2⟩:=W_ (i+1);rw[show F (An ((range (i+1)).map (Ik e)))=g by simp[An,b2]] at f9;subst f9;have i9:=λx=>Re g O x;have l4:g<=i+1:=O;have l5:i+1<=g:=O;have l2:g<=F d:=O;have l3:F d<=g:=O
 have c2:K (∀f,F (dnL i e f)=g):=λf=>by rw[ZmF,b2]
 have a:K (Xm l (ZN l (O_ (YV #[ZR ZZ] g) 4)) u k S Dg R W Dg (L_ (B l.1) g g) [] (Gk (Yu i d e k j 0)) (ud (Yu i d e k j 0)) (dnL i e 0)):=(by have d4:E_ l (ZN l (O_ (YV #[ZR ZZ] g) 4)):=r_;refine⟨Aa.a d4,(d4.block _ v.v.lt).T v.v,Mk.nil,Ad.nil,λh b6=>by simp[Yu,Gk] at b6,?_,v.v.lt⟩;rw[ZjV,<- b2];exact Rc g l (B l.1) O x_);have n1:=n_ 2 v.r;clear v hK d3 f2 b7 b2;refine dl_ ?_;go_enter func241,ntmps241;go_wp2_with fail
 go_loopw [5,6] (λm c n=>∃(f:H) (e6:ZY) (b0:U ZY),c=ZX ZQ f/\f<=g/\K (Xm l n u k S e6 R W m (ZH (T ⟨B l.1,0,ZP⟩) g g) b0 (Gk (Yu i d e k j f)) (ud (Yu i d e k j f)) (dnL i e f))) (λ_ c _=>g-ZL (ZA c))
 case atStart=>exact⟨0,_,_,X,v_,a⟩
 clear a i9;obtain⟨f,e6,b0,rfl,f6,a⟩:=hrel;have d2:=Y (q.1.i a.u a.v);have j8:=n_ 2 d2.r;have m1:B l.1<=B wr.1:=a.u.size
 by_cases m4:f<g
 case neg=>
  have f1:¬f<(g:E):=O;have c:K (ZpK l u k S R W (Ib i d e k j) wr):=(by refine⟨e6,b0,a.v,?_,a.u⟩;rw[<- Zkz,show i+1=f by omega];exact a.w);go_wp2;go_end0;exact⟨X,c⟩
 have k6:=F_ f g
 have c3:K (∀h,h<g->(∃m,g8=T ⟨m,0,ZP⟩/\ZV wr (J m h)=T (I (Ik e h:H)))/\ZV wr (J (B l.1) h)=T (ZR (ZE (h∈ZU f (Dp i e))))):=λh b6=>by have⟨m,r,n⟩:=(Ad.f (n:=g) d2.w t_) h t_;have⟨s,e2,_,_,c,_⟩:=a.p.b (c2 f) b6;injection e2 with e2;injection e2 with e2;subst e2;rw[ZmE O] at c;exact⟨⟨m,r,by rw[n];simp[Z,show h<i+1 by omega]⟩,c⟩
 have⟨j7,j1⟩:=W_ wr;subst j1;go_wp2_with fail
 go_loopw [7,8] (λm c p=>∃(h d0:H) (b:E),c=ZX ZQ h/\m=ZX ZQ b/\h<=g/\K (Sl i e f h b)/\p=Y1 j7 d0) (λ_ c _=>g-ZL (ZA c))
 case atStart=>exact⟨0,0,-1,X,X,v_,ZM ⟨X,λm d6=>O⟩,X⟩
 obtain⟨h,d0,b,rfl,rfl,b6,a0,rfl⟩:=hrel
 by_cases i7:h<g
 ·have f1:=F_ h g;obtain⟨⟨m,rfl,r⟩,c8⟩:=c3 h i7
  rcases Sl.i a0 with⟨o,c⟩|⟨o,⟨rfl,c⟩|⟨n,rfl,y,b1⟩⟩
  all_goals
   rw[o] at c8;clear o a0
  ·go_upto_region 9 with fail;go_quiet (fail);refine J_ ?_;exact⟨h+1,_,b,g_,X,O,c,by first|rfl|simp⟩
  ·have e1:ZE ((-1:E)<0)=Z0:=C;go_upto_region 9 with fail;go_quiet (fail);refine J_ ?_;exact⟨h+1,_,_,g_,X,O,c,by first|rfl|simp⟩
  have⟨s,e2,t⟩:=(c3 n O).1;injection e2 with e2;injection e2 with e2;subst e2;have e1:ZE ((n:E)<0)=ZZ:=aE O;have w:=F_ n g;generalize Ik e n=z at *;generalize Ik e h=p at *
  rcases b1 with⟨e3,c⟩|⟨e3,c⟩
  ·go_upto_region 9 with fail;go_quiet (fail);refine J_ ?_;exact⟨h+1,_,_,g_,X,O,c,by first|rfl|simp⟩
  go_upto_region 9 with fail;go_quiet (fail);refine J_ ?_;exact⟨h+1,_,_,g_,X,O,c,by first|rfl|simp⟩
 have f1:¬h<(g:E):=O;rw[show h=i+1 by omega] at a0;obtain⟨rfl,a3⟩:=Sl.a O a0;have c5:=K_ (Zhz (Ks:=d) (Os:=e) (n:=k) (budget:=j) (show f<i+1 by omega)) (ZmG (Os:=e) (show f<i+1 by omega));have a8:=g4 f O;generalize (Z (Dp i e)) f 0=c at *;clear a0;generalize Yu i d e k j f=n at *;have⟨g5,h2,f7⟩:=a.w.d;have⟨g7,h4,f8⟩:=a.cf.d;rw[length_map,(Me n).1] at f7;rw[Ak,(Me n).2] at f8;subst f7 f8;have⟨n5,e0,_,_,c8,i1⟩:=a.p.b (c2 f) (show c<g by omega);injection e0 with e0;injection e0 with e0;subst e0;have c7:=Y ((a.q (below_drewN y_ d0)).h (i:=c) (b:=Z0) (c2 f));rw[c5.2] at c7;have m3:F n<=4:=p_ a8.2;replace a8:=Y a8.1;have k8:=F_ c g;generalize (Z (dnL i e f)) c ZZ=n4 at *;clear a c3 d2
 go_wp2_with fail
 go_loopw [9,10] (λr o p=>∃(b:H) (a5:ZG) (N:U ZY) (Gx:U GS),o=ZX ZQ b/\r=ZR a5/\b<=F n/\K (Xm l p u k S (ZH g5 (F n) h2) R W (ZH g7 (F n) h4) (ZH (T ⟨B l.1,0,ZP⟩) g g) N (Gk Gx) (ud Gx) (dnL i e (f+1)))/\K ((a5=ZZ->Gx=n/\∀m,m<b->Er (Z e c []) (Z d c Aj).g j (Z n m Fm)=ZZ)/\(a5=Z0->Gx=Be d e k j n c))) (λ_ o _=>F n-ZL (ZA o))
 case atStart=>exact⟨0,ZZ,b0,n,X,X,v_,c7,⟨λ_=>⟨X,λm d6=>O⟩,λr=>by cases r⟩⟩
 clear c7 c8 i1 j8;obtain⟨b,a5,N,Gx,rfl,rfl,d4,a,a9⟩:=hrel;have D:=Y (q.1.i a.u a.v);have t:=n_ 0 D.r;have p:=n_ 2 a.v
 cases a5
 case true=>
  obtain rfl:=a9.2 X;rw[<- c5.1] at a;clear D a9
  rcases Nat.lt_or_ge b (F n) with d1|d1
  ·have m:=F_ b (F n);refine J_ ?_;exact⟨f+1,_,N,g_,O,a⟩
  have m:¬b<(F n:E):=O;refine J_ ?_;exact⟨f+1,_,N,g_,O,a⟩
 obtain⟨rfl,a1⟩:=a9.1 X;replace a1:=Y a1;clear a9
 by_cases b3:b<F Gx
 case neg=>
  have d1:¬b<(F Gx:E):=O;have w:=Y (Zm0 (λm d6=>a1 m O) (q.2.1 c a3));have⟨y,o⟩:=W_ (YY (ZN (ZN wr (O_ #[I c] 3)) (O_ #[L_ (B wr.1) 1 1] 25)));have⟨z,s⟩:=a.add q.1 o;have a4:B l.1<=B y.1:=by have:=a.u.size;rw[o];simp;omega
  have G:K (∀m r,[L_ (B wr.1) 1 1][m]? =T r->ZV y (((J (B wr.1+1) 0):Addr).add m)=T r):=by rw[o];exact one_at s_
  have r:=K_ o z;clear o z a;go_upto_region 23 with fail;refine Af (λA=>ZV A _=T _/\ZV A _=T _) 17 k_ ⟨t,p⟩ λhHeld=>?_;refine G_ ?_;refine on_ 12 λKK hK=>?_;go_simp;refine hK _ _ ⟨X_ t,X_ p⟩ λhHeld=>?_;clear hK KK;refine G_ ?_;refine on_ 13 λKK hK=>?_;go_simp;refine hK _ _ ⟨X_ t,X_ p⟩ λhHeld=>?_;clear hK KK;refine G_ ?_;refine on_ 14 λKK hK=>?_;rw[<- r.1];refine aq_ [L_ (B wr.1) 1 1] r.2 ?_ (hnews:=G);intro j3 g3 A;have⟨a6,a7,P,a⟩:=s A;obtain⟨g2,g1,rfl⟩:=A.2.2.2.2;clear A s r G t p;refine hK _ _ ⟨a6,a7⟩ λhHeld=>?_;clear hK KK;refine G_ ?_;refine le_ ?_;clear a6 a7 P hHeld;have a2:=a.u.size;generalize M:ZO g3 (J u 2) (L_ g2 (F Gx+1) g1)=b4 at *;clear M;have Q:F (An (ud Gx))<=4:=by simp[An,ud];omega
  go_wp2_with (at_builtin;refine ap_ [I (0:H)] ((a.q r_).cf) ?_)
  intro b1 b5 m;replace a:=Y ((a.q r_).i m.2.1 (Ad.P m.1) (m.2.2.1.imp_right λv=>by simpa using v.1));rw[<- w.1,<- w.2,<- c5.1] at a;clear m;refine J_ ?_;exact⟨f+1,_,_,g_,O,a⟩
 have⟨n6,k1,e7,g0,l1,k2,e1,e2,P,c9,e9,s⟩:=a.t b3;injection e1 with e1 _ e3;injection e2 with e2 _ e4;subst e1 e2 e3 e4;have⟨M,d8,l7⟩:=a8 _ (by simp[Z,b3]:Gx.getD b Fm∈Gx);have b4:c<F d:=O;have d7:=s.f X;have b5:∀L∈(Z Gx b Fm).fs,L<F d:=λL i6=>p_ (M.fs L i6);have c1:=ZeK d9 u k g0 c e7 d b9 wr D.h d7 b4 b5 O (p_ M.y);rw[<- ZdI d8 (q.2.1 c a3) q.2.2.1 b4 b5] at c1;have c6:K (∀x,E_ wr x->_):=λx f3=>dg u k g0 e7 _ d x (D.h.j.q f3) (d7.q f3) b5 (p_ M.y);rw[<- M.sum] at c6;have⟨n7,k3,g6,h3,g9,h5,h6,f0,h7,h8,h9⟩:=D.h.j.z b4;have b8:=D.x _ b4;have c0:K (∀x:ZT,_):=λx=>Km g6 g9 _ _ h3 h5 (Z d c Aj).e.a (Z d c Aj).d x b8.1 b8.2.1;rw[b8.g] at c0;have b7:=q.2.2.2 c a3;have l6:=M.k
 have m0:=M.y;have l8:Gd (Z Gx b Fm).out (Z e c [])<=200:=(by have:=Za9 (a:=(Z Gx b Fm).out) (b:=Z e c []) (by rw[d8.1,q.2.1 c a3]);rw[q.2.1 c a3] at this;omega);have c4:K (Er (Z e c []) (Z d c Aj).g j (Z Gx b Fm)=(ZE ((Z Gx b Fm).g+Gd (Z Gx b Fm).out (Z e c [])<=j)&&ZE ((Z Gx b Fm).k+(Z d c Aj).g<=40))):=rfl;have w:K (Er (Z e c []) (Z d c Aj).g j (Z Gx b Fm)=Z0->_):=λQ=>ZoR (n:=k) b3 Q a1;have G:K (Er (Z e c []) (Z d c Aj).g j (Z Gx b Fm)=ZZ->∀m,m<b+1->Er (Z e c []) (Z d c Aj).g j (Z Gx m Fm)=ZZ):=λQ m d6=>if r:m=b then r ▸ Q else a1 m O;replace s:=K_ e9 s;clear b8 d8 M d7 b5 e9;generalize Er (Z e c []) (Z d c Aj).g j (Z Gx b Fm)=n8 at *
 generalize Gd (Z Gx b Fm).out (Z e c [])=z at *;generalize (Z Gx b Fm).fs=i0 at *;generalize (Z Gx b Fm).k=a2 at *;generalize d5:(Z Gx b Fm).g=y at *;replace d5:=Y d5;generalize (Z d c Aj).g=a4 at *;generalize (Z d c Aj).e.a=o1 at *;generalize (F (Z d c Aj).e.f)=n2 at *;generalize (F (Z d c Aj).e.c)=n3 at *;generalize (Z d c Aj).d=k5 at *;have d1:=F_ b (F Gx);have k9:=F_ c (F d);have i2:i64.wrap (a2+a4)=a2+a4:=Au O O;have l0:i64.wrap (z+y)=z+y:=Au O O;have k7:i64.wrap (y+z)=y+z:=Au O O;go_wp2_with fail
 apply c1.m;rintro r n9 ⟨rfl,n0,rfl⟩;go_upto_region 17 with fail;have m6:=lt_ t;have m7:=lt_ p;have m8:=lt_ P;have m9:=lt_ f0;refine rg_ wr 27 (λo=>?_) (hS:=(below_drewN y_ _).drew);refine G_ ?_;refine oc_ 14 (c6 _ o) ?_;rintro r o0 ⟨rfl,f4⟩;refine⟨_,X,bt_ o f4,λo=>G_ ?_⟩;refine oc_ 25 (c0 _) ?_;rintro r j6 ⟨rfl,f5⟩;refine⟨_,X,bt_ o f5,λo=>G_ ?_⟩;refine le_ ?_;replace a:=Y (a.q o);replace t:=Ah o t;replace p:=Ah o p;replace P:=Ah o P;replace c9:=Ah o c9;replace s:=K_ s.1 (s.2.q o);clear o f4 f5 h6 f0 h7 h8 h9 c1 c6 c0 D i2
 by_cases Q:y+z<=j
 case neg=>
  have i3:¬z+y<=(j:E):=O;replace G:=Y (G (by rw[c4];simp[Q]));refine J_ ?_;exact⟨b+1,ZZ,N,Gx,g_,X,O,a,λ_=>⟨X,G⟩,nofun⟩
 have i3:z+y<=(j:E):=O
 by_cases b1:a2+a4<=40
 case neg=>
  have i4:¬a2+(a4:E)<=40:=O;replace G:=Y (G (by rw[c4];simp[b1]));refine J_ ?_;exact⟨b+1,ZZ,N,Gx,g_,X,O,a,λ_=>⟨X,G⟩,nofun⟩
 have i4:a2+(a4:E)<=40:=O;replace w:=Y (w (by rw[c4];simp[Q,b1]));have l9:F (An i0)<=4:=(by rw[Ak];omega);have m2:B l.1<=B j6.1:=a.u.size;go_upto_region 19 with fail;refine Af (λA=>ZV A _=T _/\ZV A _=T _/\ZV A _=T _) 22 k_ ⟨t,p,P⟩ λhHeld=>?_;refine G_ ?_;refine on_ 19 λKK hK=>?_;go_simp;refine hK _ _ ⟨X_ t,X_ p,X_ P⟩ λhHeld=>?_;clear hK KK;refine G_ ?_;refine on_ 20 λKK hK=>?_;refine aq_ [I (c:H)] (s.2.q r_.drew) ?_;intro j3 g3 A;have⟨a6,a7,e8,j9,k0,o2,a⟩:=(a.q r_.drew).put q.1 b3 d5 s.1 (s.2.q r_.drew) (y+z) A;obtain⟨g2,g1,rfl⟩:=A.2.2.2.2;rw[<- w.1,<- w.2] at a;clear A s t p P c9 w G;refine hK _ _ ⟨a6,a7,e8⟩ λhHeld=>?_;clear hK KK;refine G_ ?_;refine le_ ?_;clear a6 a7 e8 j9 hHeld;refine J_ ?_
 exact⟨b+1,Z0,_,_,g_,X,O,a,nofun,λ_=>X⟩
end Go.Proofs.YtfcgnpchbcmdeaaGreat
