import Derived.Test.YtfcgnpchbcmdeaaGreatZobb
import Derived.Sort.KeysCollected
namespace Go.Proofs.YtfcgnpchbcmdeaaGreat
set_option linter.all false
set_option maxRecDepth 100000
set_option maxHeartbeats 8000000
open Go.RowKit Go.Sort List Nat World Go.Proofs.Tryz Value IntKind Lib Region
theorem af a b:(Dl a b).Perm (range (a+1)):=by
 have⟨g,_,d⟩:=(insertionSort_holds (lt:=ltOf (Ui (m:=a+1) b)) (ZnO b) (Jn a) 0 (a+1) r_ (by simp[Jn])).1;have e:(insertionSort (ltOf (Ui (m:=a+1) b)) (Jn a) 0 (a+1)).extract 0 (a+1)=insertionSort (ltOf (Ui (m:=a+1) b)) (Jn a) 0 (a+1):=(by apply Array.extract_eq_self_of_le;rw[g];simp[Jn]);have f:(Jn a).extract 0 (a+1)=Jn a:=w_;rw[e,f] at d;have h:=d.map (λc=>c.val);unfold Dl;apply h.T
 have:(Jn a).toList.map (λc=>c.val)=range (a+1):=by
  apply ext_getElem?;intro c;unfold Jn;rw[getElem?_map,Array.getElem?_toList,Array.getElem?_ofFn]
  by_cases i:c<a+1
  ·grind
  grind
 rw[this]
def Gy(b:List GS):List Nat:=b.flatMap (λa=>a.fs)
theorem df{i j:Type} d:∀(a:List i) f c e (b:List j),d c=d a[f]++b->((a.set f c).flatMap d).Perm (a.flatMap d++b)
 |[],f,c,e,b,g=>by simp at e
 |h::a,0,c,e,b,g=>by grind [List.Perm.append_left,perm_append_comm]
 |h::a,f+1,c,e,b,g=>by simp only[set_cons_succ,flatMap_cons,append_assoc];exact List.Perm.append_left _ (df d a f c (by simpa using e) b g)
theorem ZaI c d f e a b:(Gy (Bc c d f e a b)).Perm (Gy a++[b]):=by grind [Bc,Gy,df,Ug,Jp]
theorem Ze5 d e c f:∀b a,(Gy (b.foldl (Bc d e c f) a)).Perm (Gy a++b)
 |[],a=>s_
 | g::b,a=>by
  simp only[foldl_cons];apply (Ze5 _ _ c _ _ _).T
  grind [ZaI]
theorem Ox a b c e d:(Gy (Hs a b c e d)).Perm (range (a+1)):=by grind [Hs,Ze5,Gy,af]
def Vt d a b e c:(Gy (Hs d a b e c)).Nodup:=(Ox d a b e c).nodup_iff.2 nodup_range
def ZaK c d g e b f (h:∀a∈b,0<a.fs.length):∀a∈Bc c d g e b f,0<a.fs.length:=by grind [Bc,Ug]
def Ze7 c d h e:∀(f:List Nat) a,(∀b∈a,0<b.fs.length)->∀b∈f.foldl (Bc c d h e) a,0<b.fs.length
 |[],_,g=>g
 |i::f,a,g=>Ze7 c d h e f _ (ZaK c d h e a i g)
def Zjd f a b d c:∀e∈Hs f a b d c,0<e.fs.length:=Ze7 a b d c _ _ s_
def Nk(c:List XS):Prop:=c.Pairwise (λa b=>a.row≠b.row∨a.f≠b.f)
def Ya e g d f:∀c,∀b∈Jq e g d f c,b.f=e/\b.row<c/\b.i=d.getD b.row 0
 |0,b,a=>by simp[Jq] at a
 | c+1,b,a=>by
  rw[Jq,mem_append] at a
  rcases a with a|a
  have:=Ya e g d f c b a;omega
  grind [Zg4]
def tf e d b c:∀a,Nk (Jq e d b c a)
 |0=>by simp[Jq,Nk]
 | a+1=>by
  unfold Nk;rw[Jq,pairwise_append];refine⟨tf e d b c a,by unfold Zg4;split<;>simp,λg f j i=>?_⟩;have h:=(Ya e d b c a g f).2.1
  grind [Zg4]
def Wu j k i h:∀(b a:List Nat) c,Nk c.q->(∀d∈c.q,d.f∈a)->(a++b).Nodup->Nk (b.foldl (Ak j k i h) c).q/\∀d∈(b.foldl (Ak j k i h) c).q,d.f∈a++b
 |[],a,c,g,l,_=>⟨g,by simpa using l⟩
 | f ::b,a,c,g,l,m=>by
  simp only[foldl_cons];have n:a++f::b=(a++[f])++b:=s_;rw[n] at m ⊢;refine Wu _ _ _ h _ _ _ ?_ ?_ m
  ·show Nk (c.q++Jq f _ _ _ _);unfold Nk;rw[pairwise_append];refine⟨g,tf _ _ _ _ _,λd e p o=>.inr ?_⟩;rw[(Ya _ _ _ _ _ p o).1]
   grind
  intro d e
  rcases mem_append.1 e with e|e
  ·grind
  rw[(Ya _ _ _ _ _ d e).1];simp
def rl i h d:∀c b a,Nk a.q->(∀e∈a.q,e.f∈b)->(b++Gy c).Nodup->Nk (c.foldl (Lh i h d) a).q
 |[],b,a,f,_,_=>f
 |e::c,b,a,f,m,g=>by simp only[foldl_cons];have l:b++Gy (e::c)=(b++e.fs)++Gy c:=(by simp[Gy]);rw[l] at g;have⟨j,k⟩:=Wu a.h i h d e.fs b ⟨replicate d 0,a.q,1⟩ f m (nodup_append.1 g).1;exact rl _ _ d _ _ _ j k g
def kw b c a e d:Nk (Bw b c a e d).q:=
 rl _ _ _ _ [] _ (by simp[Nk]) s_ (by simpa using Vt b _ _ c a)
def Vz{b c d}(k:Nk b)(g:c.Perm b)(l:Eh c)(h:d.Perm b)(m:Eh d):c=d:=by
 refine List.Perm.eq_of_pairwise (le:=λa e:XS=>a.row<e.row∨a.row=e.row/\a.f<=e.f) (λr s n o t u=>?_) l m (g.T h.s);have p:=g.subset n;have q:=h.subset o;obtain⟨e,i,rfl⟩:=aM p;obtain⟨f,j,rfl⟩:=aM q
 rcases Nat.lt_trichotomy e f with a|a|a
 have:=pairwise_iff_getElem.1 k e f i j a;omega;subst a;rfl;have:=pairwise_iff_getElem.1 k f e j i a;omega
end Go.Proofs.YtfcgnpchbcmdeaaGreat
namespace Go.Proofs.YtfcgnpchbcmdeaaGreat
set_option linter.all false
set_option maxRecDepth 100000
set_option maxHeartbeats 8000000
open Go.RowKit List Nat World Go.Proofs.Tryz Value IntKind Lib Region
def Zl1 a d e b c f (j:∀x∈c,x<a)(h:0<a)(i:∀g,b.getD g 0<d):∀x∈Jh a e b c f,x<a+d:=by grind [Jh,mh]
structure Zfz(b)(a:CS):Prop where
 len:a.N.length=b
 g:0<a.off
 lt:∀c∈a.N,c<a.off
def Vm{g Os f}{b}:∀(e:List Nat) c,(∀d∈e,∀a,(f.getD d []).getD a 0<(g.getD d Ai).a)->Zfz b c->Zfz b (e.foldl (Ak g Os f b) c)
 |[],c,_,a=>a
 |d::e,c,h,a=>by simp only[foldl_cons];refine Vm _ _ (λi j=>h i (by simp[j])) ⟨?_,?_,?_⟩;show(Jh _ _ _ _ b).length=b;rw[lq _ _ _ _ (p_ a.len)];exact a.len;show 0<c.off+_;have:=a.g;omega;exact Zl1 _ _ _ _ _ _ a.lt a.g (h d s_)
def gi{c f b e xs a}(g:∀d∈a,∀h,(b.getD d []).getD h 0<(c.getD d Ai).a):Zfz e (Jm c f b e xs a):=
 Vm a _ g ⟨s_,s_,w_⟩
structure BOk(b)(c)(a:BS):Prop where
 len:a.N.length=c
 le:∀d∈a.N,d<=a.g
 sum:a.g=Bj b a.fs
def ui{Os Bb n}{Ks}:∀(d:List GS) b,b.h=Ks->(∀c∈d,∀a∈c.fs,∀e,(Bb.getD a []).getD e 0<(Ks.getD a Ai).a)->(∀a∈b.g,BOk Ks n a)->(∀a∈(d.foldl (Lh Os Bb n) b).g,BOk Ks n a)/\(d.foldl (Lh Os Bb n) b).g.map (λa=>a.fs)=b.g.map (λa=>a.fs)++d.map (λc=>c.fs)
 |[],b,_,_,f=>⟨f,s_⟩
 | c ::d,b,i,g,f=>by
  simp only[foldl_cons]
  obtain⟨j,a⟩:=ui (Os:=Os) d (Lh Os Bb n b c) i (λk m=>g k (by simp[m])) (λa l=>by
   rcases mem_append.1 l with e|e
   exact f a e;simp only[mem_cons,not_mem_nil,or_false] at e;subst e;have h:Zfz n (Jm b.h Os _ n b.q _):=gi (i ▸ (g c s_));refine⟨h.len,λp o=>?_,?_⟩
   ·have:=h.lt p o
    grind
   grind [ji])
  refine⟨j,?_⟩;rw[a];simp[Lh]
def Da(a:Ga)(c:Nat):Nat:=a.g.findIdx (λb=>decide (c∈b.fs))
def Iq(a:Ga)(b:Nat):Nat:=(a.g.getD (Da a b) Db).fs.idxOf b
def Zfr{D a}(j:∃b∈D.g,a∈b.fs)(u:∀b∈D.g,b.fs.length<=100)(t:∀b∈D.g,∀x∈b.fs,x<D.h.length)(p:∀c,c<D.h.length->(D.h.getD c Ai).a<=100):Vi D a (Da D a) (Iq D a):=by
 obtain⟨b,k,l⟩:=j;have e:Da D a<_:=findIdx_lt_length_of_exists ⟨b,k,by simpa using l⟩;have m:∀c _,D.g.getD c Db=D.g[c]:=w_
 have n:a∈(D.g.getD (Da D a) Db).fs:=(by rw[m _ e];have:=findIdx_getElem (p:=λb:BS=>decide (a∈b.fs)) (w:=e);exact of_decide_eq_true this);have g:Iq D a<_:=idxOf_lt_length_of_mem n;refine⟨e,g,?_,?_,?_,?_,p⟩;rw[Qc,Qd g];exact getElem_idxOf _
 ·intro c r v o q
  rcases q with d|d
  ·have h:=not_of_lt_findIdx (p:=λb:BS=>decide _) (xs:=D.g) d
   grind
  rcases Nat.lt_or_ge c (Da D a) with f|f
  ·have h:=not_of_lt_findIdx (p:=λb:BS=>decide _) (xs:=D.g) f
   grind
  have h:c=Da D a:=O;subst h;intro i;rw[Qc,Qd o] at i;have s:=not_of_lt_findIdx (p:=(· ==a)) (xs:=(D.g.getD _ _).fs) (i:=r) d
  grind
 ·grind
 grind [Qf]
def XIn(a:List (List Nat))(c:Nat)(b:List Nat)(x:XS):Prop:=x.row<c/\x.f∈b/\x.i=(a.getD x.f []).getD x.row 0
def jj f g c b:∀d h a,(∀e∈a.q,XIn c b h e)->(d.foldl (Ak f g c b) a).q.length<=a.q.length+d.length*b/\∀e∈(d.foldl (Ak f g c b) a).q,XIn c b (h++d) e
 |[],h,a,l=>⟨s_,by simpa using l⟩
 | k ::d,h,a,l=>by
  simp only[foldl_cons]
  have⟨o,p⟩:=jj f g c b d (h++[k]) (Ak f g c b a k) (λe j=>by
   rcases mem_append.1 j with j|j
   have⟨i,m,n⟩:=l e j;exact⟨i,mem_append_left _ m,n⟩;have⟨i,m,n⟩:=Ya _ _ _ _ _ e j
   exact⟨m,by rw[i];simp,i ▸ n⟩)
  refine⟨?_,w_⟩
  have i:(Ak f g c b a k).q.length<=a.q.length+b:=by
   show(a.q++Jq _ _ _ _ _).length<=_
   grind [Yb]
  rw[length_cons,succ_mul];omega
def Zeq g c b:∀d f a,(∀i∈a.q,XIn c b f i)->(d.foldl (Lh g c b) a).q.length<=a.q.length+(Gy d).length*b/\∀i∈(d.foldl (Lh g c b) a).q,XIn c b (f++Gy d) i
 |[],f,a,h=>⟨s_,by simpa [Gy] using h⟩
 |e::d,f,a,h=>by simp only[foldl_cons];have⟨j,k⟩:=jj a.h g c b e.fs f ⟨replicate b 0,a.q,1⟩ h;have⟨m,n⟩:=Zeq g c b d (f++e.fs) (Lh g c b a e) k;have l:Gy (e::d)=e.fs++Gy _:=rfl;refine⟨?_,w_⟩;have o:(Lh _ _ b a e).q.length<=a.q.length+_:=j;rw[l,Qe,Nat.add_mul];omega
structure Ko(e)(a:Ga):Prop where
 w:e<=200
 v:0<a.h.length
 j:a.h.length<=4
 k:0<a.g.length
 l:a.g.length<=4
 h:∀b∈a.g,BOk a.h e b
 i:∀b∈a.g,b.g<=40
 o:∀b∈a.g,0<b.fs.length
 f4:∀b∈a.g,b.fs.length<=4
 n:∀b∈a.g,∀d∈b.fs,d<a.h.length
 all:∀d,d<a.h.length->∃b∈a.g,d∈b.fs
 q:∀c,c<a.h.length->(a.h.getD c Ai).a<=18
 p:∀c,c<a.h.length->(a.h.getD c Ai).d<(a.h.getD c Ai).a
 y:∀c,c<a.h.length->(a.h.getD c Ai).e.g.length<=1000/\(a.h.getD c Ai).e.c.length<=1000
 u:Nk a.q
 r:a.q.length<=800
 z:∀f∈a.q,f.row<e/\f.f<a.h.length/\f.i<18
def ZaQ{a e budget c b}(Q:a+1<=4)(A:e<=200)(p:ch a e c b):Ko e (Bw a e budget c b):=by
 have s:(Bw a e budget c b).h=_:=Oq _ _ _ _ _;have r:=Et c b (a+1)
 have u:∀d,_->((Ev c _ (a+1)).getD d _).a=(c.getD d _).b+2:=λd g=>by rw[Fy c b g];rfl
 have R:∀d,_->((Ev _ _ _).getD d _).a<=18:=λd g=>by rw[u d g];have:=p.g d g;omega
 have F:∀d,d<a+1->((In c b (a+1)).getD d []).length=e:=λd g=>by rw[Mw c b g];unfold oF Cx;rw[length_map];exact p.p d g
 have L:∀i,i<a+1->∀v,(b.getD i []).getD v 0<((Ev c b (a+1)).getD i Ai).a:=λi k v=>by
  rw[u i k,Qc]
  rcases Nat.lt_or_ge v (b.getD i []).length with n|n
  rw[Qd n];exact p.i i k _ (Qf _)
  grind
 have⟨o,a0⟩:=Xm (budget:=budget) F (λd g=>aG (R d g) C);have w:=Ox a (Ev c b (a+1)) (In c b (a+1)) e budget;have a1:=Zjd a (Ev c b (a+1)) (In c b (a+1)) e budget;have⟨z,x⟩:=ui (Os:=In c b (a+1)) (Bb:=b) (n:=e) (Ks:=Ev c b (a+1)) (Hs a (Ev c b (a+1)) (In c b (a+1)) e budget) ⟨Ev c b (a+1),[],[]⟩ rfl (λf j i k=>L i ((o f j).fs i k)) s_;have⟨D,B⟩:=Zeq (In c b (a+1)) b e (Hs a (Ev c b (a+1)) (In c b (a+1)) e budget) [] ⟨Ev c b (a+1),[],[]⟩ s_;have M:∀h∈(Bw a e _ _ _).g,_:=z;have H:(Bw a e budget c b).g.map (λh=>h.fs)=(Hs a (Ev c b (a+1)) (In c b (a+1)) e budget).map (λf=>f.fs):=(by rw[show(Bw a e budget c b).g=_ from rfl];exact x);have U:(Bw a e _ _ _).q.length<=0+_:=D
 have T:∀E∈(Bw a e _ _ _).q,_:=B;have P:=kw a e budget c b;clear z x D B;generalize Bw a e budget c b=q at *;generalize Hs a (Ev c b (a+1)) (In c b (a+1)) e budget=m at *
 have y:q.g.length=m.length:=by have:=congrArg length H;simpa using this
 have t:∀h∈q.g,∃f∈m,f.fs=h.fs:=λh l=>by
  have:h.fs∈q.g.map (λh=>h.fs):=mem_map.2 ⟨h,l,rfl⟩
  grind
 have Z:∀f∈m,∃h∈q.g,h.fs=f.fs:=λf j=>by
  have:f.fs∈m.map (λf=>f.fs):=mem_map.2 ⟨f,j,rfl⟩
  grind
 have N:=λi k=>by have:i∈Gy m:=w.mem_iff.2 (mem_range.2 k);exact mem_flatMap.1 this
 have G:(Gy m).length=a+1:=(by rw[w.length_eq,length_range]);constructor;exact A
 ·grind
 ·grind
 ·rw[y];have⟨f,j,_⟩:=N 0 O
  grind
 rw[y];omega
 ·grind
 intro h l;have⟨f,j,n⟩:=t h l;rw[(M h l).sum,<- n,<- (o f j).sum];exact(o f j).k
 ·grind
 intro h l;have⟨f,j,n⟩:=t h l;rw[<- n];have:=(o f j).len;omega;intro h l i k;have⟨f,j,n⟩:=t h l;rw[s,r];exact(o f j).fs i (n ▸ k)
 ·intro i k;rw[s,r] at k
  grind
 ·grind
 intro d g;rw[s] at g ⊢;rw[r] at g;rw[u d g,Fy c b g];show Wv _ _<_;have:=ZaS (b.getD d []) (show 0<(c.getD d Rj).b+2 by omega);rw[ZeI] at this;omega;intro d g;rw[s] at g ⊢;rw[r] at g;rw[Fy c b g];exact⟨(p.ok d g).p,(p.ok d g).u⟩;exact P;rw[G] at U;have:(a+1)*e<=4*200:=Nat.mul_le_mul Q A;omega;intro E S;have⟨n,W,X⟩:=T E S
 grind
theorem Xz f d b c {e a}(g:a<e):(Jh f d b c e).getD a 0=mh f d b c a:=by grind [Jh]
def ZaR f e c d:∀b a,a∈Jq f e c d b↔a.f=f/\a.row<b/\e.getD a.row false=true/\d.getD a.row 0≠0/\a.i=c.getD a.row 0
 |0,a=>by simp[Jq]
 | b+1,a=>by
  rw[Jq,mem_append,ZaR f e c d b];obtain⟨i,h,g⟩:=a
  grind [Zg4]
section
variable {Ks:List KS} {Os:List (List Bool)} {Bb:List (List Nat)} {n:Nat}
def Ze:∀(c:List Nat) (a:CS),0<a.off->∀b,b<n->(a.N.getD b 0≠0->(c.foldl (Ak Ks Os Bb n) a).N.getD b 0=a.N.getD b 0)/\(a.N.getD b 0=0->(c.foldl (Ak Ks Os Bb n) a).N.getD b 0=0∨a.off<=(c.foldl (Ak Ks Os Bb n) a).N.getD b 0)
 |[],a,_,b,_=>⟨λ_=>rfl,λf=>.inl f⟩
 | d::c,a,j,b,e=>by
  simp only[foldl_cons];have k:(Ak Ks Os Bb n a d).N.getD b 0=_:=Xz _ _ _ _ e;have g:(Ak Ks Os Bb n a d).off=_+_:=rfl;have⟨h,i⟩:=Ze c (Ak Ks Os Bb n a d) (p_ g) b e
  grind [mh]
def Ziv:∀(c:List Nat) (a b:CS),a.N=b.N->a.off=b.off->(c.foldl (Ak Ks Os Bb n) a).N=(c.foldl (Ak Ks Os Bb n) b).N/\(c.foldl (Ak Ks Os Bb n) a).off=(c.foldl (Ak Ks Os Bb n) b).off
 |[],_,_,e,d=>⟨e,d⟩
 |f::c,a,b,e,d=>by simp only[foldl_cons];refine Ziv _ _ _ ?_ ?_;show Jh _ _ _ _ _=Jh _ _ _ _ _;rw[e,d];show a.off+_=b.off+_;rw[d]
def Jy(Ks:List KS)(Os:List (List Bool))(Bb:List (List Nat))(n:Nat)(a:List Nat):List Nat:=(Jm Ks Os Bb n [] a).N
theorem Zit b a:(Jm Ks Os Bb n b a).N=Jy Ks Os Bb n a:=(Ziv a ⟨replicate n 0,b,1⟩ ⟨replicate n 0,[],1⟩ rfl rfl).1
def Zfa:∀(e:List Nat) (d:CS) (a:XS),a∈(e.foldl (Ak Ks Os Bb n) d).q↔a∈d.q∨∃b f,e=b++a.f::f/\a.row<n/\(Os.getD a.f []).getD a.row false=true/\(b.foldl (Ak Ks Os Bb n) d).N.getD a.row 0≠0/\a.i=(Bb.getD a.f []).getD a.row 0
 |[],d,a=>s_
 | g ::e,d,a=>by
  simp only[foldl_cons];rw[Zfa e (Ak Ks Os Bb n d g) a];have h:a∈(Ak Ks Os Bb n d g).q↔_:=mem_append;rw[h,ZaR];constructor;rintro((c|⟨rfl,c⟩)|⟨b,f,rfl,c⟩);exact .inl c;exact .inr ⟨[],e,rfl,c⟩;exact .inr ⟨g::b,f,rfl,c⟩;rintro(c|⟨b,f,j,c⟩)
  ·grind
  cases b with
  | nil=>
   grind
  | cons i b=>
   grind
def kz:∀(e:List GS) (b:Ga) (a:XS),b.h=Ks->(a∈(e.foldl (Lh Os Bb n) b).q↔a∈b.q∨∃d∈e,∃c f,d.fs=c++a.f::f/\a.row<n/\(Os.getD a.f []).getD a.row false=true/\(Jy Ks Os Bb n c).getD a.row 0≠0/\a.i=(Bb.getD a.f []).getD a.row 0)
 |[],b,a,_=>s_
 | d::e,b,a,f=>by
  simp only[foldl_cons];rw[kz e (Lh Os Bb n b d) a f];have g:a∈(Lh Os Bb n b d).q↔a∈(d.fs.foldl (Ak Ks Os Bb n) ⟨replicate n 0,b.q,1⟩).q:=(by rw[<- f];rfl);rw[g,Zfa];have h:∀c,(c.foldl (Ak _ _ Bb n) _).N=Jy Ks Os _ n c:=λc=>Zit b.q c
  grind
def Zcn:∀(d:List GS) (b:Ga),b.h=Ks->(∀a∈b.g,a.N=Jy Ks Os Bb n a.fs)->∀a∈(d.foldl (Lh Os Bb n) b).g,a.N=Jy Ks Os Bb n a.fs
 |[],_,_,c=>c
 | h::d,b,g,c=>by
  simp only[foldl_cons];refine Zcn _ _ g (λa f=>?_)
  rcases mem_append.1 f with e|e
  exact c a e
  grind [Zit]
end
def Ko.a{g a}(b:Ko g a){f}(e:f<a.h.length):Vi a f (Da a f) (Iq a f):=
 Zfr (b.all f e) (λc d=>aG (b.f4 c d) C) b.n (λd c=>aG (b.q d c) C)
def Zjk{b d i c a}(a1:b+1<=4)(a3:d<=200)(B:ch b d c a){v}(a8:v.Perm (Bw b d i c a).q){f e}(A:f<b+1)(q:e<d):Sp (Bw b d i c a) v f (Da (Bw b d i c a) f) (Iq (Bw b d i c a) f) e=(a.getD f []).getD e 0:=by
 have z:=ZaQ (budget:=i) a1 a3 B;have D:(Bw b d i c a).h=_:=Oq _ _ _ _ _;have a0:=Et c a (b+1);have t:=z.a (f:=f) w_
 have G:∀j,j<b+1->∀E,(a.getD j []).getD E 0<((Ev c a (b+1)).getD j Ai).a:=λj o E=>by
  rw[Fy c a o];show _<(c.getD j Rj).b+2;rw[Qc]
  rcases Nat.lt_or_ge E (a.getD j []).length with g|g
  rw[Qd g];exact B.i j o _ (Qf _)
  grind
 have a2:∀n,n∈(Bw b d _ _ _).q↔_:=λn=>kz (Ks:=Ev _ _ _) (Os:=In c _ _) (Bb:=a) (n:=d) (Hs b _ _ d i) _ n rfl;have X:∀r∈(Bw b d _ _ _).g,_=Jy (Ev _ _ _) _ _ d _:=Zcn (Hs b _ (In c a _) d i) _ rfl s_;have a9:(Bw b d i c a).g.map (λr=>r.fs)=(Hs b (Ev c a (b+1)) (In c a (b+1)) d i).map (λl=>l.fs):=by have g:=(ui (Os:=In c a (b+1)) (Bb:=a) (n:=d) (Ks:=Ev _ _ _) _ ⟨Ev _ a _,[],[]⟩ rfl (λl w j o=>G j (mem_range.1 ((Ox b (Ev c a (b+1)) (In c a (b+1)) d i).mem_iff.1 (mem_flatMap.2 ⟨l,w,o⟩)))) s_).2;rw[show(Bw b d i c a).g=_ from rfl];exact g
 have a7:((In c a (b+1)).getD f []).getD e false=decide ((a.getD f []).getD e 0≠((Ev c a (b+1)).getD f Ai).d):=by rw[Mw c a A,Fy c a A];have s:e<(a.getD f []).length:=(B.p f A) ▸ q;unfold oF Cx;rw[Qc,getElem?_map,Qd s,Qc (l:=a.getD f []),Qd s];rfl
 have M:=z.n;clear z;generalize Bw b d i c a=h at *;generalize Hs b (Ev c a (b+1)) (In c a (b+1)) d i=T at *;rw[D] at M;generalize Da h f=k at *;generalize Iq h f=m at *;have x:h.g.getD k Db∈h.g:=by rw[Qc,Qd t.h];grind
 have a5:(h.g.getD k Db).fs=(h.g.getD k Db).fs.take m++f::(h.g.getD k Db).fs.drop (m+1):=(by have g:=t.g;rw[Qc (l:=(h.g.getD k Db).fs),Qd t.j] at g;simp only[Option.getD_some] at g;have l:=take_append_drop m (h.g.getD k Db).fs;rw[aN t.j,g] at l;exact l.s);have a4:Ll h k m=1+Bj (Ev c a (b+1)) ((h.g.getD k Db).fs.take m):=(by unfold Ll;rw[D]);have N:=M _ x;rw[a0] at N
 have w:∃l∈T,l.fs=(h.g.getD k Db).fs:=by
  have:(h.g.getD k Db).fs∈h.g.map (λr=>r.fs):=mem_map.2 ⟨_,x,rfl⟩
  grind
 unfold Sp;rw[(X _ x),a4,D];generalize (h.g.getD k Db).fs=F at *;generalize F.take m=g at *;generalize F.drop (m+1)=p at *;subst a5;have H:Zfz d (Jm _ (In c a (b+1)) _ d [] g):=gi (λj o=>G j (N j (mem_append_left _ o)));have y:=ji (Ev c a (b+1)) (In c a (b+1)) a d [] g;have b1:(Jy (Ev c a (b+1)) (In c a (b+1)) a d g).getD e 0<1+Bj (Ev c a (b+1)) g:=by rw[<- y,Qc];have s:e<(Jy (Ev c a (b+1)) (In c a (b+1)) a d g).length:=(by unfold Jy;rw[H.len];exact q);rw[Qd s];exact H.lt _ (Qf _)
 have L:Jy (Ev c a (b+1)) (In c a (b+1)) a d (g++f::p)=(p.foldl (Ak (Ev c a (b+1)) (In c a (b+1)) a d) (Ak (Ev c a (b+1)) (In c a (b+1)) a d (Jm (Ev c a (b+1)) (In c a (b+1)) a d [] g) f)).N:=(by grind [Jy,Jm]);have R:(Ak (Ev c a (b+1)) (In c a (b+1)) a d (Jm (Ev c a (b+1)) (In c a (b+1)) a d [] g) f).off=1+Bj (Ev c a (b+1)) g+((Ev c a (b+1)).getD f Ai).a:=(by show(Jm _ _ _ _ _ _).off+_=_;rw[y]);have Q:(Ak (Ev c a (b+1)) (In c a (b+1)) a d (Jm (Ev c a (b+1)) (In c a (b+1)) a d [] g) f).N.getD e 0=mh (1+Bj (Ev c a (b+1)) g) ((In c a (b+1)).getD f []) (a.getD f []) (Jy (Ev c a (b+1)) (In c a (b+1)) a d g) e:=by rw[<- y];exact Xz _ _ _ _ q
 obtain⟨s,u⟩:=Ze (Ks:=Ev c a (b+1)) (Os:=In c a (b+1)) (Bb:=a) (n:=d) p _ (by rw[R];omega) e q;rw[<- L,R,Q] at u;rw[<- L,Q] at s;have b2:∀n∈v,pw e f n->(((In c a (b+1)).getD f []).getD e false=true/\n.i=(a.getD f []).getD e 0):=w_;generalize (Jy (Ev c a (b+1)) (In c a (b+1)) a d (g++f::p)).getD e 0=n at *;generalize P:(Jy (Ev c a (b+1)) (In c a (b+1)) a d g).getD e 0=a6 at *;unfold mh at s u;rw[P] at s u;generalize 1+Bj (Ev c a (b+1)) g=b3 at *
 by_cases Z:((In c a (b+1)).getD f []).getD e false=true
 ·by_cases S:a6=0
  ·grind
  rw[aC (λU=>S U.2)] at s u;rw[aC O];obtain⟨l,W,U⟩:=w;have b0:(⟨_,f,(a.getD f _).getD _ 0⟩:XS)∈_:=(a2 _).2 (.inr ⟨l,W,g,p,U,q,Z,P ▸ S,rfl⟩);unfold yp
  grind
 grind [yp]
end Go.Proofs.YtfcgnpchbcmdeaaGreat
namespace Go.Proofs.YtfcgnpchbcmdeaaGreat
set_option linter.all false
set_option maxRecDepth 100000
set_option maxHeartbeats 8000000
open Go.RowKit Go.Lib Go.Sort List Nat World Go.Proofs.Tryz Value IntKind Lib Region
structure WS where
 a:ByteArray
 h:Int
abbrev Js(a b:ByteArray):Prop:=a.data.toList<b.data.toList
def ux(a b:ByteArray):Int:=if Js a b then -1 else if Js b a then 1 else 0
def Zdb x a:C_ 343 #[Q_ x] a (V_ (.bool false) a):=by refine er_ ?_;exact⟨s_,rfl⟩
def wi a b:Op.bytesLess a.toList b.toList=decide (Js a b):=by rw[bytesLess_eq,toList_data,toList_data];try rfl
def ZiD{a b}(c:¬Js a b)(d:¬Js b a):a=b:=by
 unfold Js at c d;have:=List.le_antisymm (List.not_lt.1 d) (List.not_lt.1 c)
 cases a;cases b
 grind
def uy a b g:C_ 314 #[Q_ a,Q_ b] g (V_ (.int .i64 (ux a b)) g):=by
 have j:=wi a b;have d:=Zdb
 by_cases f:Js a b
 ·have c:K (ux a b=_):=aD f;refine v_ ?_;go_wp2_with (go_at_call 343;apply (d _ _).m;rintro e h ⟨rfl,rfl⟩)
  go_ret;exact⟨by rw[c];rfl,rfl⟩
 have k:Op.bytesLess a.toList b.toList=false:=w_
 by_cases i:Js b a
 ·have c:K (ux a b=1):=(by show _=_;unfold ux;grind);have l:(a.toList==b.toList)=false:=(by grind [toList_data]);refine v_ ?_;go_wp2_with (go_at_call 343;apply (d _ _).m;rintro e h ⟨rfl,rfl⟩)
  go_ret;exact⟨by rw[c];rfl,rfl⟩
 obtain rfl:=ZiD f i;have c:K (ux a a=0):=(by show _=_;unfold ux;grind);refine v_ ?_;go_wp2_with (go_at_call 343;apply (d _ _).m;rintro e h ⟨rfl,rfl⟩)
 go_ret;exact⟨by rw[c];rfl,rfl⟩
def Zac(x a:WS):Int:=orI (compareInt a.h x.h) (ux x.a a.a)
def Xh x f a:C_ 265 #[.agg #[Q_ x.a,I x.h],.agg #[Q_ f.a,I f.h]] a λg c=>g=.returned (.int .i64 (Zac x f))/\Gr a c:=by
 have n:K (Zac x f=orI _ _):=rfl;have l:K (∀b:_,Calls _ _ #[.int _ f.h,.int _ x.h] b λg _=>_):=λb=>Tryz.cmp_Compare_int _ _ b;have m:K (∀b:_,Calls _ _ #[Q_ x.a,Q_ f.a] b λg _=>_):=λb=>uy _ _ b;obtain⟨h,i⟩:=x;obtain⟨j,k⟩:=f;simp only at n l m ⊢;generalize Zac ⟨h,i⟩ ⟨j,k⟩=A,compareInt k i=u,ux h j=v at *;refine v_ ?_;go_upto_region 1 with fail;generalize e:(a.alloc (O_ #[Q_ h,I i] 358)).alloc (O_ #[Q_ j,I k] 358)=d;have z:d.1.size=a.1.size+1+1:=(by rw[<- e];simp);have p:K (Gr a d):=(by show Gr _ _;rw[<- e];exact((Gr.refl a).alloc _).alloc _);have q:D_ d a.1.size 0 (Q_ h):=(by rw[<- e];simp[go_sem]);have r:D_ d a.1.size 1 (I i):=(by rw[<- e];simp[go_sem]);have s:D_ d (a.1.size+1) 0 (Q_ j):=by rw[<- e];simp[go_sem]
 have t:D_ d (a.1.size+1) 1 (I k):=(by rw[<- e];simp[go_sem]);clear e z
 have o:K (∀b:World,D_ b d.1.size 0 (I u)->D_ b d.1.size 1 (I v)->C_ 192 #[L_ d.1.size 2 2] b (V_ (.int .i64 A) b)):=λb w y=>by rw[n];exact ZjF _ 2 _ _ b w y
 go_region_held3 (λc=>D_ c a.1.size 0 (Q_ h)/\D_ c a.1.size 1 (I i)/\D_ c (a.1.size+1) 0 (Q_ j)/\D_ c (a.1.size+1) 1 (I k)) (exact⟨X_ q,X_ r,X_ s,X_ t⟩) (first|(go_at_call 151;apply (l _).m;rintro g c ⟨rfl,rfl⟩)|(go_at_call 314;apply (m _).m;rintro g c ⟨rfl,rfl⟩)|(go_at_call 192;apply (o _ (by simp[go_sem]) (by simp[go_sem])).m;rintro g c ⟨rfl,rfl⟩))
 go_wp2;go_ret;exact⟨rfl,(p.alloc _).drew⟩
def Rk(x:WS):List Value:=[Q_ x.a,I x.h]
def w0W:WS:=⟨⟨#[]⟩,0⟩
theorem ltW x a:ltOf Zac x a=decide (a.h<x.h∨x.h=a.h/\Js x.a a.a):=by
 obtain⟨b,c⟩:=x;obtain⟨d,e⟩:=a;unfold ltOf Zac orI compareInt ux
 grind
def Zpm:SWO (ltOf Zac) where
  irrefl a:=by rw[ltW];simp
  trans a d e b c:=by grind [ltW]
  ntrans a d e b c:=by grind [ltW]
section
variable [Inhabited WS]
def Zip a b c d:CmpLays prog 265 #[] Rk 2 Zac a b c d:=
 λ_ _ _ _ e f=>Xh e f _
def Zha c e a b (g:HoldsK Rk 2 b c 0 a)(h:c<b.1.size)(i:a.size<4611686018427387904):C_ 264 #[L_ c a.size e,.func (.func 265) #[] #[]] b λf l=>f=.returned (.tuple #[])/\∃d j k,PermIn 0 a.size a d/\SortedIn (ltOf Zac) 0 a.size d/\l=sortWorldK Rk 2 b c 0 j d k:=by exact AnyQ.slices_SortFunc Tryz.A 2 isAgg358 sizeOf358 _ (λ_=>rfl) (λj f d=>by simp[Rk] at d;rcases d with rfl|rfl<;>rfl) _ Zpm _ _ _ 0 _ a b (enters_of func265 k_ rfl) (Zip _ 0 _ b) g h i
def ZdS c b a:C_ 264 #[V c 0 b,.func (.func 265) #[] #[]] a (V_ (.tuple #[]) a):=AnyF.slices_SortFunc_none {Tryz.A with} c b _ a
end
def Jc:List WS->List Value
 |[]=>[]
 |b::a=>Rk b++Jc a
def jt a:(Jc a).length=a.length*2:=by
 induction a with
 |nil=>rfl
 |cons c a b=>simp[Jc,Rk,b];omega
theorem qa a b:Jc (a++b)=Jc a++Jc b:=by
 induction a with
 |nil=>rfl
 |cons d a c=>simp[Jc,c]
def Gu(d:World)(b:Nat)(c:Value)(a:List WS):Prop:=d.ownsRow b 358 2 c a.length (Jc a)
def Vp b:∀a c,a<b.length->c<2->(Jc b)[a*2+c]? =(Rk (b.getD a w0W))[c]?:=by
 induction b with
 |nil=>grind
 | cons d b g=>
  intro a c e f
  cases a with
  |zero=>grind [Jc,Rk]
  | succ a=>
   grind [Jc,Rk]
section
variable [Inhabited WS]
theorem ZeM b:(Go.Sort.flatK Rk 2 b.toArray).toList=Jc b:=by
 apply ext_getElem?;intro a
 by_cases d:a<b.length*2
 ·have c:=Vp b (a/2) (a%2) O O;rw[show a/2*2+a%2=a by omega] at c;rw[c,Array.getElem?_toList];simp only[Go.Sort.flatK]
  grind [Rk]
 rw[getElem?_eq_none t_,getElem?_eq_none (by rw[jt];omega)]
def Za7{e g a f m os d b}(i:b.length=d.length)(k:Gu e g (L_ a d.length f) d):Gu (Go.Proofs.sortWorldK Rk 2 e a 0 m b.toArray os) g (L_ a d.length f) b/\e.grownBy (Go.Proofs.sortWorldK Rk 2 e a 0 m b.toArray os) (some a):=by
 rcases k.2 with⟨c,_⟩|⟨u,t,j,c,l,h,w,n,o,x⟩
 simp at c;simp only[slice.injEq,Option.some.injEq,Addr.mk.injEq,and_true,true_and] at c;obtain⟨rfl,rfl⟩:=c;have v:(Go.Sort.flatK Rk 2 b.toArray).size=d.length*2:=by simp[i]
 have p:(Go.Proofs.sortWorldK Rk 2 e a 0 m b.toArray os).1[a]? =some (O_ (Go.Sort.putCells id 0 (Go.Sort.flatK Rk 2 b.toArray) j) 358):=(by unfold Go.Proofs.sortWorldK Go.Sort.putRowK;rw[Go.Sort.heap_grow_old _ _ (by simpa using ((Qb h).1))];simp[Go.Sort.putRow,Go.Sort.mapBlock,Go.Sort.ahead,Array.getElem?_modify,h,Go.Sort.onCells]);refine⟨⟨by rw[jt],.inr ⟨a,f,_,by simp[i],l,p,O,n,by simp[Go.Sort.putCells,o],?_⟩⟩,⟨rfl,rfl,rfl,?_,λs q r=>?_⟩⟩
 ·grind [ZeM,od]
 unfold Go.Proofs.sortWorldK Go.Sort.putRowK;simp;unfold Go.Proofs.sortWorldK Go.Sort.putRowK;rw[Go.Sort.heap_grow_old _ _ (by simpa using q)];have:a≠s:=λc=>r (by rw[c]);simp[Go.Sort.putRow,Go.Sort.mapBlock,Go.Sort.ahead,Array.getElem?_modify,this]
def Zdy{e f c g a}(d:Gu e f (L_ c a.length g) a):Go.Sort.HoldsK Rk 2 e c 0 a.toArray:=by
 intro b h
 have i:b<a.length*2:=by simpa using h
 refine⟨?_,?_⟩
 ·rw[Nat.zero_add,World.ownsRow.cellAt d b i,<- ZeM]
  grind
 rw[Nat.zero_add];exact World.ownsRow.frozenAt d b
end
abbrev leW(x a:WS):Prop:=¬(x.h<a.h∨a.h=x.h/\Js a.a x.a)
def ZbN e a h d (g:Gu d h e a)(B:a.length<=1000000):C_ 264 #[e,.func (.func 265) #[] #[]] d λc f=>c=.returned (.tuple #[])/\(∃b:List WS,b.Perm a/\b.Pairwise leW/\Gu f h e b)/\d.grownBy f e.ownBlock:=by
 haveI:Inhabited WS:=⟨w0W⟩
 have i:=g
 rcases g.2 with⟨rfl,n⟩|⟨m,l,A,rfl,_,p,_⟩
 have c:=length_eq_zero_iff.1 n;subst c;apply (ZdS _ 0 d).m;rintro c f ⟨rfl,rfl⟩;exact⟨rfl,⟨[],List.Perm.refl _,Pairwise.nil,g⟩,Az _ _⟩;have k:=Zha m l _ d (Zdy i) (Qb p).1 t_;rw[show a.toArray.size=a.length by simp] at k;apply k.m;rintro c f ⟨rfl,b,y,z,t,v,rfl⟩;obtain⟨u,_,D⟩:=t;have o:b.size=a.length:=(by rw[u];simp);have j:=Za7 (m:=y) (os:=z) O i;rw[show b.toList.toArray=b by simp] at j;refine⟨rfl,⟨b.toList,?_,?_,?_⟩,j.2⟩
 ·have q:b.extract 0 a.length=b:=by rw[<- o];simp
  grind
 ·rw[pairwise_iff_getElem];intro w x q s r;simp at q s;have:=v w x r_ r O;rw[ltW] at this
  grind
 grind
end Go.Proofs.YtfcgnpchbcmdeaaGreat
namespace Go.Proofs.YtfcgnpchbcmdeaaGreat
set_option linter.all false
set_option maxRecDepth 100000
set_option maxHeartbeats 8000000
open Go.RowKit Go.Maps List Nat World Go.Proofs.Tryz Value IntKind Lib Region
def Sk(a:VS)(x:List UInt8):Bool:=!a.a&&decide (a.g.data.toList=x)
def Lb(b:List (VS×Int))(x:List UInt8):Int:=(b.map λa=>if Sk a.1 x=true then a.2 else 0).sum
def Uo(b:List (VS×Int))(x:List UInt8):Bool:=b.any λa=>Sk a.1 x
def oy b a x:Lb (b++[a]) x=Lb b x+(if Sk a.1 x=true then a.2 else 0):=by simp[Lb]
def tv b a x:Uo (b++[a]) x=(Uo b x||Sk a.1 x):=by simp[Uo]
def Zkx{ps}(b:∀a∈ps,0<=a.2/\a.2<=99) x:0<=Lb ps x/\Lb ps x<=99*ps.length:=by
 induction ps with
 |nil=>simp[Lb]
 | cons a g d=>
  have f:=d (λe c=>b e (by simp[c]))
  grind [Lb]
def Nl(b:DataW Unit)(c:List (VS×Int)):Prop:=IsMap b/\∀a,has b (.string a)=Uo c a/\b.atKey (.string a) (.lit (.int .i64 0))=.lit (.int .i64 (Lb c a))
def Nl.start:Nl (.map []) []:=⟨isMap_empty,λ_=>⟨rfl,rfl⟩⟩
def Nl.a{d e}(a:Nl d e){b:VS} h (g:b.a=true):Nl d (e++[(b,h)]):=by refine⟨a.1,λc=>?_⟩;have f:Sk b c=false:=(by simp[Sk,g]);rw[tv,oy];simp[f,(a.2 c).1,(a.2 c).2]
def Nl.put{f e}(a:Nl f e){v:VS}{h}(g:v.a=false):Nl (f.put (.string v.g.data.toList) (.lit (.int .i64 (Lb e v.g.data.toList+h)))) (e++[(v,h)]):=by
 refine⟨a.1.put _ _,λb=>?_⟩;rw[tv,oy]
 by_cases d:v.g.data.toList=b
 have c:Sk v b=true:=(by simp[Sk,g,d]);subst d;rw[has_put_same a.1 (show WideAt.IsKeyLit (.string _) from trivial),atKey_put_same a.1 (show WideAt.IsKeyLit (.string _) from trivial)];simp[c];have c:Sk v b=false:=(by simp[Sk,g,d]);rw[has_put_other w_,atKey_put_other w_];simp[c,(a.2 b).1,(a.2 b).2]
def Xl:List (VS×Int)->List ByteArray
  |[]=>[]
  |b::a=>if b.1.a=true then Xl a else if Uo a b.1.g.data.toList=true then Xl a else b.1.g::Xl a
theorem Tv a:∀e,a∈Xl e↔Uo e a.data.toList=true
 |[]=>by simp[Xl,Uo]
 | c ::d=>by
  have i:=Tv a d;have g:Uo (c::d) a.data.toList=(Sk c.1 a.data.toList||Uo d a.data.toList):=by simp[Uo]
  have h:c.1.g.data.toList=a.data.toList↔a=c.1.g:=by
   constructor
   ·intro b
    cases a;cases f:c.1.g
    rw[f] at b;simp at b;rw[b]
   intro b;rw[b]
  grind [Xl,Sk]
theorem Nt:∀d,(Xl d).Nodup
 |[]=>nodup_nil
 |e::a=>by unfold Xl;split;exact Nt a;split;exact Nt a;rename_i b;exact nodup_cons.2 ⟨λc=>b ((Tv _ a).1 c),Nt a⟩
def Mt(b:List (VS×Int))(c:Int):List WS:=((Xl b).map λa=>⟨a,Lb b a.data.toList⟩).filter λd=>decide (c<=d.h)
def Px(a:List VS)(d:List Int)(c b:Int):ES:=⟨true,[],(((Mt (a.zip d) c).mergeSort λe f=>decide (leW e f)).take b.toNat).map WS.a⟩
def Vu a b x:x∈Mt a b↔Uo a x.a.data.toList=true/\x.h=Lb a x.a.data.toList/\b<=x.h:=by
 unfold Mt;rw[mem_filter,mem_map];constructor
 ·grind [Tv]
 rintro⟨c,d,e⟩;refine⟨⟨x.a,(Tv _ _).2 c,?_⟩,by simpa using e⟩;rw[<- d]
def Xi b a:(Mt b a).Nodup:=by grind [Mt,Nt]
def sq{x a b}(c:leW x a)(d:leW a b):leW x b:=w_
theorem Xo{x a}(c:leW x a)(d:leW a x):x=a:=by
 unfold leW at *;simp only[not_or,not_and] at c d;have b:x.h=a.h:=O;have e:=ZiD (d.2 b) (c.2 b.s)
 cases x;cases a
 grind
def ZdU{a d c b}(k:c.Nodup)(j:∀x,x∈c↔Uo a x.a.data.toList=true/\x.h=Lb a x.a.data.toList/\d<=x.h)(l:b.Perm c)(m:b.Pairwise leW):b=(Mt a d).mergeSort λx g=>decide (leW x g):=by refine List.Perm.eq_of_pairwise (le:=leW) (λh i _ _ e f=>Xo e f) m ((pairwise_mergeSort (le:=λx g=>decide (leW x g)) (λh i n e f=>aF (sq (of_decide_eq_true e) (of_decide_eq_true f))) (λh i=>w_) (Mt a d)).imp λe=>of_decide_eq_true e) ((l.T ((perm_ext_iff_of_nodup k (Xi _ _)).2 λx=>by rw[j,Vu])).T (mergeSort_perm _ _).s)
structure Pi(b:DataW Unit)(e:Lit->Bool)(d)(c:List WS):Prop where
 g:c.Nodup
 mem:∀a:WS,a∈c↔(has b (.string a.a.data.toList)=true/\e (.string a.a.data.toList)=false/\b.atKey (.string a.a.data.toList) (.lit (.int .i64 0))=.lit (.int .i64 a.h)/\d<=a.h)
def Pi.start a b:Pi a (has a) b []:=⟨nodup_nil,λc=>w_⟩
def Zj7 a b:(Lit.string a).sameKey (.string b)=decide (a=b):=by
 by_cases c:a=b
 subst c;simp[Lit.sameKey]
 grind [sameKey_ne]
def Pi.step{d g c e}(f:Pi d g c e){x b}(q:g (.string x)=true)(k:∀n,d.atKey (.string x) n=.lit (.int .i64 b)):Pi d (λa=>g a&&!a.sameKey (.string x)) c (if c<=b then e++[⟨⟨x.toArray⟩,b⟩] else e):=by
 have m:∀a:WS,(has d (.string a.a.data.toList)=true/\(g (.string a.a.data.toList)&&!(Lit.string a.a.data.toList).sameKey (.string x))=false/\d.atKey (.string a.a.data.toList) (.lit (.int .i64 0))=.lit (.int .i64 a.h)/\c<=a.h)↔(a∈e∨(a.a.data.toList=x/\a.h=b/\c<=b)):=by
  intro a;rw[Zj7]
  by_cases i:a.a.data.toList=x
  ·rw[i];simp only[(has_true_of_atKey k),k,decide_true,Bool.not_true,Bool.and_false,true_and]
   have j:a ∉ e:=λh=>by
    have:=((f.mem a).1 h).2.1
    grind
   grind
  simp only[i,decide_false,Bool.not_false,Bool.and_true,false_and,or_false];exact(f.mem a).s
 by_cases l:c<=b
 ·rw[aD l];refine⟨?_,λa=>?_⟩
  ·refine nodup_append.2 ⟨f.g,s_,λh i o j p=>?_⟩;simp only[mem_singleton] at j;have:=((f.mem h).1 i).2.1
   grind
  rw[m a,mem_append,mem_singleton];constructor
  ·grind
  rintro(h|⟨i,j,_⟩);exact .inl h;right;obtain⟨⟨o⟩,p⟩:=a;simp only at i j;rw[<- i,j]
 rw[aC l];refine⟨f.g,λa=>?_⟩
 grind
def Pi.a{b f d c a}(g:Pi b f d c)(e:Nl b a)(h:∀i,f i=false) x:x∈c↔Uo a x.a.data.toList=true/\x.h=Lb a x.a.data.toList/\d<=x.h:=by
 rw[g.mem x,h,(e.2 _).1,(e.2 _).2]
 grind
def xj{g:World}{d a b}{c:Value->Option (DataW Unit×List MemPlace)}(e:g.ownsMap prog 9 c d a b):Maps.size b<=a:=by
 obtain⟨i,h,_,_,f,rfl⟩:=e;show(foldr DataW.insert [] _).length<=a;rw[length_sorted]
 simpa using f
def ZbD{d:World}{b c m h g i n l:Nat}{e k}{f:Value->Option (DataW Unit×List MemPlace)}{a o}(j:d.ranges prog 9 f b c m e k h)(v:d.ownsRow g i n a l o):a.ownBlock≠some c/\a.ownBlock≠some b:=by
 obtain⟨s,r,A,z,q,u,p,x,t,w,y⟩:=j
 grind [Ac]
def Gu.E{c a b L}{x:WS}(d:c.ownsRow a 358 2 b (L.length+1) (Jc L++[Q_ x.a,I x.h])):Gu c a b (L++[x]):=by grind [Gu,qa,Jc,Rk]
def Gu.shape{h f e a}(g:Gu h f e a):∃b c,e=.slice b a.length c/\((b=none/\a.length=0/\c=0)∨∃d,b=some ⟨d,0,none⟩/\a.length<=c):=by
 rcases g.2 with⟨rfl,k⟩|⟨d,i,j,rfl,_,l,m,_⟩
 ·grind
 grind
def Gu.cells{c h g l j a}(d:Gu c h (L_ g l j) a){i}(f:i<a.length):g<c.1.size/\c.cell? (J g (i*2))=some (Q_ (a.getD i w0W).a)/\c.cell? (J g (i*2+1))=some (I (a.getD i w0W).h):=by
 have e:=d
 rcases d.2 with⟨b,_⟩|⟨o,m,n,b,_,k,_⟩
 ·cases b
 simp only[slice.injEq,Option.some.injEq,Addr.mk.injEq,and_true] at b;obtain⟨rfl,rfl,rfl⟩:=b;refine⟨(Qb k).1,?_,?_⟩;rw[World.ownsRow.cellAt e (i*2) O];have:=Vp a i 0 f O;rw[Nat.add_zero] at this;rw[this];rfl;rw[World.ownsRow.cellAt e (i*2+1) O,Vp a i 1 f O];rfl
def Znl:(prog.info? 9).map (λa=>(a.zero,a.size,a.bytes))=some (some (Q_ ⟨#[]⟩),1,16):=k_
def Bi.b{g d b a}(f:Bi g d b a):∃c e,b=.slice c a.length e:=by
 rcases f.2 with⟨rfl,k⟩|⟨j,h,i,rfl,_⟩
 ·grind
 grind
def Zd8(a:List WS){b}(c:b<a.length):a.take (b+1)=a.take b++[a.getD b w0W]:=by grind [Qi]
def Bi.c{f c d e b}(a:Bi f d e b)(n:c<=d):Bi f c e b:=by
 obtain⟨k,l⟩:=a;refine⟨k,?_⟩
 rcases l with a|⟨j,g,h,i,o,m⟩
 exact .inl a;exact .inr ⟨j,g,h,i,O,m⟩
def Zlz:Keyed prog 9:=string_keyed underlying9
def ZoO a:(zeroValue 3).run prog a=.ok (I 0) a:=k_
def Zpq{f g:Type}(b:List f) c {a}(h:a<b.length)(i:a<c.length) d (e:g):(b.zip c).take (a+1)=(b.zip c).take a++[(b.getD a d,c.getD a e)]:=by grind [Qi]
def ku f6 f8 p f7 j9 s j f k d (G:Kq d 0 (.slice f6 p f7) f)(f2:Cn d f8 p k)(i2:f.length=p)(l3:p<=200)(j7:∀y∈k,0<=y/\y<=99)(j5:∀v∈f,v.g.size<=8)(k6:2<=j)(k7:j<=16):C_ 211 #[.slice f6 p f7,.slice f8 p j9,.int .i64 s,.int .i64 j] d λo b=>∃v,o=.returned v/\Vg b d.1.size v (Px f k s j)/\Below d.1.size d b:=by
 have⟨h7,h8⟩:=Z_ G f2;have a1:=T_ i2 f2.1;have⟨e2,h9⟩:=Z_ j7 j5;have l2:= @run_makeMap prog;have⟨e,c5⟩:=M_ (d.alloc (.cells #[.bool false,.slice none 0 0,.slice none 0 0] 170));have c4:e.1.size=d.1.size+1:=(by rw[c5];simp);have⟨a3,M⟩:=Z_ c4 c5;clear c4 c5;go_enter func211,ntmps211;go_wp2_with fail
 go_loopw [21] (λb c=>∃(a:Nat) (i:DataW Unit),b=.int .i64 a/\a<=p/\K (c.ownsMap prog 9 (plainElem prog 3) (d.1.size+1) a i/\Nl i ((f.zip k).take a))/\K (E_ e c)) (λb _=>p-(intOf b).toNat)
 case atStart=>
  refine⟨0,.map _,rfl,r_,⟨?_,Nl.start⟩,?_⟩;have:=ownsMap_made (H:=Unit) e prog 9 (plainElem prog 3);rw[a3,M] at this;exact this;rw[M];exact q_
 obtain⟨a,i,rfl,a6,r,h⟩:=hrel;have j4:=h.size
 by_cases c0:a<p
 ·have P:a<f.length:=a1.out.1 ▸ c0;have a9:a<k.length:=a1.2 ▸ c0;obtain⟨c7,rfl,b8,Z,a0,a2⟩:=h7.at P;rcases h8.out with⟨_,_,F|⟨b5,b9,rfl,b7,a7⟩⟩;omega;have E:E_ d wr:=(by have m:E_ d e:=M ▸ q_;exact m.T (h.m (p_ a3.out)));have⟨U,W,X,a4⟩:=k4_ E Z a0 a2 (a7 a c0);have t:=Y (Zpq f _ P a9 Aw 0);have R:K ((f.getD a Aw).g.size<=8):=h9 _ w_;have T:K (0<=k.getD a 0/\_):=e2 _ w_;generalize f.getD a Aw=n,k.getD a 0=y at *;obtain⟨b3,z,g⟩:=n;simp only at U W X
  cases b3 with
  | true=>
   have B:K ((wr.alloc (.cells #[.bool true,I z,.string g] 308)).ownsMap prog 9 (plainElem prog 3) (d.1.size+1) (a+1) i/\Nl i ((f.zip k).take (a+1))):=(by rw[t];exact⟨(r.1.alloc _).m O,r.2.a _ rfl⟩);refine J_ ?_;exact⟨a+1,i,g_,O,B,h.T (y_.alloc O _)⟩
  | false=>
   go_upto_region 6 with fail;have b1:g.size<=8:=R.out;have l:keyOf _ 9 (.string g)=_:=WideMaps.keyOf_string_mk underlying9 m_;have⟨q,o⟩:=M_ (wr.alloc (.cells #[.bool false,I z,.string g] 308));have u:q.ownsMap prog 9 (plainElem prog 3) (d.1.size+1) a i:=o ▸ (r.1.alloc _);have D:q.cell? (J wr.1.size 2)=some (.string g):=o ▸ (G_ 2 _ _ _ hn_);have x:E_ wr q:=o ▸ q_;have a5:=W_ x a4;rw[<- o];have⟨c,b0,A,_⟩:=(show q.drew.ownsMap prog 9 (plainElem prog 3) (d.1.size+1) a i from u).lookup_int Zlz underlying355 underlying3 (ZoO _) l
   have S:c=Lb ((f.zip k).take a) g.data.toList:=by
    have m:=(r.2.2 g.data.toList).2
    grind
   have L:=Zkx (ps:=(f.zip _).take a) (λm b=>e2 _ (of_mem_zip (aL b)).2) g.data.toList;rw[<- S] at L;have a8:((f.zip k).take a).length<=200:=w_;have b2:=T.out;have c1:_=c+y:=As O O;have⟨Q,b6,H,N⟩:=(show q.drew.ownsMap prog 9 (plainElem prog 3) (d.1.size+1) a i from u).update Zlz underlying355 m_ l (plainElem_int (H:=Unit) underlying3 (show(Lit.int .i64 (c+y)).wf=true by simp[Lit.wf,IntKind.min,IntKind.max,IntKind.bits,signed];omega))
   have B:K (Q.ownsMap prog 9 (plainElem prog 3) (d.1.size+1) (a+1) (i.put (.string g.data.toList) (.lit (.int .i64 (c+y))))/\Nl (i.put (.string g.data.toList) (.lit (.int .i64 (c+y)))) ((f.zip k).take (a+1))):=(by refine⟨H,?_⟩;rw[t,S];exact r.2.put (v:=⟨false,z,g⟩) rfl);have b4:K (E_ e Q):=by have m:=h.T (x.m j4);have w:=m.drew;exact w.grown N w.size (λb hj=>by injection hj with hj;have:=a3.out;omega)
   clear u H N S L a8 b2 A l o x r h t b1;refine Af (λb=>b.cell? _=some _/\b.cell? _=some _/\(Instr.lookup 355 _ _ _).run _ b=.ok _ b) 9 k_ ⟨D,a5,b0⟩ (λhHeld=>?_);refine K_ ?_;refine le_ ?_;go_wp2;go_roundw;case rel=>grind
   case measure=>exact z_
 have iZ:a=p:=O;subst iZ;have d7:=Y r.1;have g9:K (Nl i (f.zip k)):=(by have:=r.2;rwa [(aI (by rw[length_zip,a1.1,a1.2];omega))] at this);generalize wr=f9 at *;go_wp2_with (first|(at_range;apply wpList_range_own _ rfl _ _ rfl 9 3 Zlz underlying355 _ _ a i rfl d7;intro b j1 i6 c4)|go_in)
 try go_frame
 have⟨h4,g3,h6⟩:=y3_ j1 (h.grown i6 h.size (λb hj=>by cases hj)) (xj d7);go_loopw [12] (λc b=>∃(c6:Lit->Bool) (b6:Nat) (u:List WS),K (b.ranges prog 9 (plainElem prog 3) (d.1.size+1) f9.1.size a i c6 b6)/\K (Gu b e.1.size c u)/\K (Pi i c6 s u)/\u.length+b6<=a/\K (E_ e b)) (λ_ b=>b.rangeLeft (d.1.size+1) f9.1.size)
 case atStart=>exact⟨_,_,[],h4,rn_,Pi.start i _,by simpa using h6.out,g3⟩
 obtain⟨c6,b6,u,a2,L,b0,i4,h⟩:=hrel;go_wp2_with (first|(at_next;refine wpList_next_ranges _ rfl _ rfl 9 Zlz _ _ _ (λc a8 a6=>by obtain⟨n,b,_⟩:=Maps.keyOf_str underlying9 a6;exact⟨n,b⟩) (λv g G=>by obtain⟨c,rfl,_⟩:=plainElem_int_inv underlying3 G;exact⟨c,rfl⟩) _ _ a i _ _ rfl a2 ?_ ?_)|go_in)
 ·intro k8 c1;have⟨g6,h0⟩:=Z_ (λn=>b0.a g9 c1 n) b0.g;have i1:u.length<=200:=O;obtain⟨c9,Z,rfl,j3⟩:=L.shape;have d9:=Y j3;have e0:=ZbN _ _ _ _ L O;have d2:=Y (λb hj=>(B_ L b hj).1);have⟨q,a5⟩:=M_ u.length;have g7:=Y a5;rw[<- a5] at d9 e0 d2 i1 i4;rw[<- a5];clear a5;go_wp2_with fail
  apply e0.m;rintro o d0 ⟨rfl,⟨l,f1,j2,j0⟩,i7⟩;have g4:=Y (ZdU h0 g6 f1 j2);have d3:K (l.length=q):=(by show _=_;rw[f1.length_eq,g7]);have⟨d5,a0⟩:=Z_ j0 (h.grown i7 h.size d2);obtain⟨c,f0⟩:∃c:Nat,c=min q j.toNat:=⟨_,rfl⟩;have z:=Y f0;clear f0;have b1:K (c<=q/\c<=j/\c<=200):=⟨p_ z.out,p_ z.out,p_ z.out⟩;have⟨a9,U⟩:=M_ (d0.alloc (.cells #[.bool true,.slice none 0 0,.slice none 0 0] 170));have d4:K (a9.1[d0.1.size]? =some (.cells #[.bool true,.slice none 0 0,.slice none 0 0] 170 (0,0))):=(by show _=_;rw[U];exact hn_);have h1:K (Gu a9 e.1.size (.slice c9 q Z) l):=(by show Gu _ _ _ _;rw[U];exact ra_ d5 _);have g2:K (E_ e a9):=(by show Below _ _ _;rw[U];exact a0.alloc a0.size _);have e9:=a0.size;go_upto_region 16 with fail
  rw[<- U];clear U d5 a0;go_cut [63,64,65] (λv b g m=>g=.int .i64 0/\∃c8 f4,v=.slice c8 c f4/\b=.int .i64 (c:Nat)/\K (0<c->∃w,c8=some ⟨w,0,none⟩/\c9=some ⟨w,0,none⟩)/\m=a9)
  case first=>
   rcases d9.out with⟨rfl,F,rfl⟩|⟨w,rfl,x⟩
   ·subst F;have b:c=0:=p_ b1.out;subst b;have t:¬j<0:=O;have g:min 0 j=0:=O;go_wp2;go_meet
    grind
   by_cases A:(q:Int)<=j
   ·have b:c=q:=p_ z.out;subst b;have t:¬j<c:=O;have g:min (c:Int) j=c:=O;have m:0<=(c:Int):=O;have n:c<=(Z:Int):=O;go_wp2;go_meet
    exact⟨rfl,_,_,rfl,rfl,λ_=>⟨w,rfl,rfl⟩,rfl⟩
   have b:c=j:=p_ z.out;have g:min (q:Int) j=c:=O;have m:0<=(c:Int):=O;have n:c<=(Z:Int):=O;subst b;go_wp2;go_meet
   exact⟨rfl,_,_,rfl,rfl,λ_=>⟨w,rfl,rfl⟩,rfl⟩
  obtain⟨rfl,c8,f4,rfl,rfl,h5,j6⟩:=hcut;obtain rfl:=j6.s;have h3:K (e.1[d.1.size]? =some (.cells #[.bool false,.slice none 0 0,.slice none 0 0] 170 (0,0))):=(by show _=_;rw[M];exact ha_ d _);have c1:d.1.size<e.1.size:=p_ a3.out;have⟨Q,e7⟩:=M_ d0.1.size;rw[<- e7] at d4 e9 ⊢;clear e7;go_wp2_with fail
  go_loopw [65] (λm g=>∃(b:Nat) (a8:Value),m=.int .i64 b/\b<=c/\K (g.1[Q]? =some (.cells #[.bool true,.slice none 0 0,a8] 170 (0,0)))/\K (Bi g e.1.size a8 ((l.take b).map WS.a))/\K (Gu g e.1.size (.slice c9 q Z) l)/\K (E_ e g)) (λm _=>c-(intOf m).toNat)
  case atStart=>exact⟨0,_,rfl,r_,d4,rn_,h1,g2⟩
  obtain⟨b,a8,rfl,hj,H,b3,b2,h⟩:=hrel;have i5:=(Qb H).1
  by_cases l0:b<c
  ·obtain⟨w,rfl,rfl⟩:=h5 O;have e8:b<l.length:=(by rw[d3];have:=b1.out;omega);have⟨k9,g0,g1⟩:=b2.cells e8;have T:((l.take b).map WS.a).length=b:=w_;obtain⟨A,B,rfl⟩:=b3.b;have⟨b4,e1⟩:=Z_ b3 (Zd8 _ e8);have D:=n_ 2 H;rw[T] at b4 D;generalize l.getD b w0W=n at *;obtain⟨g,k0⟩:=n;simp only at g0 g1;have l1:b<=200:=p_ b1.out;have⟨t,W⟩:=M_ (wr.alloc (.cells #[.string g,I k0] 358));have F:E_ wr t:=W ▸ q_;have l5:t.cell? (J wr.1.size 0)=some (.string g):=W ▸ (G_ 0 _ _ _ hn_);have k4:=W_ F D;have g5:K (t.1[Q]? =some (.cells #[.bool true,.slice none 0 0,.slice A b B] 170 (0,0))):=by have:=H.out;rw[T] at this;exact(F.block _ i5).T this
   have d6:K (Bi t e.1.size (.slice A b B) ((l.take b).map WS.a)):=(by have m:=b4.out;exact m.below F);have h2:K (Gu _ _ _ _):=(Aa.a (S:=λ_=>False) F).row b2 (λ_ _=>id);have d1:=Y (h.T (F.m h.size));have l4:wr.1.size<t.1.size:=(by rw[W];simp);go_upto_region 19 with fail;rw[<- W];clear W F g0 g1 D H b4 b3 b2 h
   have c3:t.ownsRow e.1.size 9 1 (.slice A b B) b (((l.take b).map WS.a).map string):=by
    have m:=d6.out;unfold Bi at m
    grind
   have⟨b5,b9⟩:=M_ ((l.take b).map WS.a);have i0:K ((l.take (b+1)).map WS.a=b5++[g]):=(by show _=_;rw[e1,map_append,b9];rfl);rw[<- b9] at c3 T;have⟨g8,d8⟩:=Z_ T c3;clear c3 T b9 e1 d6;go_wp2_with (at_builtin;refine ap_ [.string g] (ra_ d8 _) ?_)
   rintro f5 x ⟨a7,E,e4,_,_⟩;have b7:Bi x e.1.size f5 (b5++[g]):=(by unfold Bi;rw[Qe,g8,map_append];exact a7);obtain⟨N,P,rfl⟩:=b7.b;have⟨X,i9⟩:=M_ ((b5++[g]).length);rw[<- i9] at a7 e4 b7 ⊢;have⟨j8,f3⟩:=M_ (t.alloc (.cells #[.string g] 9));rw[<- f3] at E e4;have a4:E_ t j8:=f3 ▸ q_;have e3:=(Aa.refl _ _).grown E (λa a6 _=>a6);have e5:=(a4.block _ O).T g5;have b8:=(Aa.a (S:=λ_=>False) a4).row d8 (λ_ _=>id);have e6:Gu _ _ _ _:=(Aa.a (S:=λ_=>False) a4).row h2 (λ_ _=>id);have R:=e3.g e5 (λo=>Ah b8 o e5 C rfl)
   have i3:Gu x e.1.size (L_ w q Z) l:=e3.row e6 (λc7 c2 o=>by
    have⟨m,S⟩:=Ac e6 c2
    exact Ah b8 o S C rfl)
   have k5:=n_ 2 R;have l6:=R_ 2 _ _ R;have k1:K ((x.setCell _ _).1[Q]? =some (.cells #[_,_,(.slice N X P)] 170 _)):=ht_ 2 _ _ _ R;have k3:K (Bi (x.setCell (J Q 2) (.slice N X P)) e.1.size (.slice N X P) ((l.take (b+1)).map WS.a)):=(by rw[i0];exact Al b7 R C);have k2:K (Gu (x.setCell ⟨_,2,_⟩ (.slice N X P)) _ _ _):=Al i3 R C;have S:K (E_ e (x.setCell (J Q 2) (.slice N X P))):=by have m:=d1.T (a4.m d1.size);exact(m.grown E m.size (λc7 c2=>(B_ b8 c7 c2).1)).setCell e9 _
   go_wp2;go_roundw;case rel=>grind
   case measure=>exact z_
  have F:b=c:=O;subst F
  have S:(l.take b).map WS.a=(Px f k s j).c:=by
   show _=(((Mt (f.zip k) s).mergeSort λn g=>decide (leW n g)).take j.toNat).map WS.a;rw[<- g4];congr 1;have m:=z.out;have w:=d3.out
   grind
  have w:K (Bi wr e.1.size a8 (Px f k s j).c):=w_;obtain⟨A,B,rfl⟩:=w.b;have t:=H.out;have N:=n_ 0 t;have P:=n_ 1 t;have D:=n_ 2 t;have g:=(h.block _ c1).T h3;have n:=Y g;have T:=n_ 0 g;have W:=n_ 1 g;have X:=n_ 2 g;have a4:=R_ 0 _ _ g;have a7:=R_ 1 _ _ g;have b4:=R_ 2 _ _ g;generalize R:(Px f k s j).c.length=x at *;go_wp2;apply bodyPost_ret (v:=.agg #[.bool true,.slice none 0 0,.slice A x B]) (by simp[results,results211,go_sem, *]) rfl;have E:E_ d wr:=by have m:E_ d e:=M ▸ q_;exact m.T (h.m O)
  refine⟨_,rfl,⟨.slice none 0 0,.slice A x B,rfl,rn_,?_⟩,((E.setCell x_ _).setCell x_ _).setCell x_ _⟩;exact Al (Al (Al (w.c O) n C) (by exact ht_ _ _ _ _ n) C) (by exact ht_ _ _ _ _ (ht_ _ _ _ _ n)) C
 intro n c a8 b1 b5 q H l R G A W T D a4 b2;obtain⟨a9,P,rfl,b4⟩:=Maps.keyOf_str underlying9 l;obtain rfl:n=a9:=encStr_inj P;have⟨a0,N,X,_⟩:=plainElem_int_inv underlying3 G;obtain rfl:c=a0:=(by injection N);have a5:b1=.lit (.int .i64 c):=(by injection X);subst a5;have m:=b0.step R A;have z:=Y W;have w:K (Gu _ _ _ _):=World.ownsRow.kept L D (.inr (ZbD a2 L).1);have⟨g,t⟩:=Z_ (h.grown D h.size (λb hj=>w_)) T;clear a4 W D l G A R P N X T
 by_cases Q:s<=c
 ·rw[aD Q] at m;have B:=Y m;have b3:=g.size;go_wp2_with (at_builtin;refine ap_ [encStr n,I c] (ra_ w _) ?_ (h1:=by intro o b;simp at b;rcases b with rfl|rfl<;>rfl))
  rintro f5 x ⟨a7,E,_⟩;have Z:K (Gu _ _ _ (_++[⟨_,c⟩])):=Gu.E a7;have U:=ZbD z w;have⟨F,S⟩:=Z_ ((z.alloc _).kept E (λo=>U.2 o.s) (λo=>U.1 o.s)) ((g.alloc g.size _).grown E (by have:=g.size;simp;omega) (λb hj=>(B_ w b hj).1));go_wp2;go_roundw;case rel=>exact⟨_,H,_,F,Z,B,by rw[Qe];have:=t.out;simp;omega,S⟩
  case measure=>rw[F.left_eq,a2.left_eq];exact t
 rw[aC Q] at m;have B:=Y m;go_wp2;go_roundw;case rel=>exact⟨_,H,u,z,w,B,p_ t.out,g⟩
 case measure=>rw[z.left_eq,a2.left_eq];exact t
end Go.Proofs.YtfcgnpchbcmdeaaGreat
namespace Go.Proofs.YtfcgnpchbcmdeaaGreat
set_option linter.all false
set_option maxRecDepth 100000
set_option maxHeartbeats 8000000
open Go.RowKit List Nat World Go.Proofs.Tryz Value IntKind Lib Region
def bdI(a:ES):List Int:=if a.a=true then[] else a.g
def bdS(a:ES):List ByteArray:=if a.a=true then a.c else[]
structure Zn3(a b:World)(d e)(c):Prop where
 x:Ad b a.1.size d (bdI c)
 B:Bi b a.1.size e (bdS c)
 A:E_ a b
def Zo1(d:World)(c:ES)(x:Ending)(e:World):Prop:=∃a b,x=.returned (.tuple #[a,b])/\Zn3 d e a b c
def Zh9{p:Prop}(h:p:=by
 go_wp2;go_ret2
 have d:=length_eq_zero_iff.1 j.2;have e:(a.alloc (O_ #[] 9)).1[_]? =_:=hn_;have g:(a.alloc _).ownsRow c.1.size 9 1 _ 0 []:=⟨rfl,.inr ⟨a.1.size,0,#[],rfl,O,e,x_,C,rfl,rfl⟩⟩;refine⟨_,_,rfl,?_,?_,n.alloc O _⟩;rw[f.1];exact ownsRow_nil _ _ 3 1
 rw[f.2,d];exact g):p:=h
def Zia{p:Prop}(h:p:=by
 go_wp2;go_ret2
 have d:=length_eq_zero_iff.1 j.1;have e:(a.alloc (O_ #[] 3)).1[_]? =_:=hn_;have g:(a.alloc _).ownsRow c.1.size 3 1 _ 0 []:=⟨rfl,.inr ⟨a.1.size,0,#[],rfl,O,e,x_,C,rfl,rfl⟩⟩;refine⟨_,_,rfl,?_,?_,n.alloc O _⟩;rw[f.1,d];exact g
 rw[f.2];exact Bi.nil _ _):p:=h
def vf a3 m c3 c2 c4 b9 b5 b3 k c (H:Om c a3 c3 c2 c4 b9 b5 b3 k)(b6:m<k.h.length)(c8:(k.h.getD m Ai).e.g.length<=1000)(d1:(k.h.getD m Ai).e.c.length<=1000):C_ 53 #[P_ a3,I m] c λd a=>Zo1 c (k.h.getD m Ai).e d a:=by
 have⟨d3,c7,o,u,p,v,b7,d0,M,a8,a9,b0,a4,a5⟩:=H.q.at b6;subst b7;have a2:=n_ 0 H.v.r;have c9:=(Qb H.v.r).1;have⟨b1,b2⟩:=Z_ a4 a5;have c6:=F_ m k.h.length;clear H a4 a5;generalize k.h.length=d2 at *;generalize (k.h.getD m Ai).d=G at *;generalize (k.h.getD m Ai).e=b at *;generalize a6:b.g.length=h at *;generalize a7:b.c.length=i at *;have j:=T_ a6 a7;clear a6 a7
 cases L:b.a
 ·rw[L] at M;have f:K (bdI b=b.g/\bdS b=[]):=(by show _/\_;unfold bdI bdS;grind);clear L;refine dl_ ?_;go_enter func53,ntmps53;go_upto_region 4 with fail;generalize r:c.alloc (O_ #[.bool false,V o h u,V p i v,I (G:Nat)] 172)=a;have q:E_ c a:=(by rw[<- r];exact q_);have s:H_ a c.1.size #[.bool false,V o h u,V p i v,I G] 172:=(by rw[<- r];exact hn_);have b8:=(Qb s).1;have c5:=n_ 1 s;have n:=Y q;clear r s M a8 a9 b0 a2;have D:a.ownsRow 0 3 1 (V o h u) h (b.g.map (int .i64)):=(by have g:=(Aa.a (S:=λ_=>False) q).row b1 (λ_ _=>id);rw[j.1] at g;exact g);have l:=Y D;clear q D
  by_cases B:h=0
  ·subst B
   rcases o with _|t
   exact Zia;exact Zia
  have S:∃e,o=some ⟨e,0,none⟩:=by
   rcases l.out.2 with⟨d,g⟩|⟨x,t,w,d,_⟩
   exact absurd g B
   grind
  obtain⟨e,rfl⟩:=S;have⟨a0,R,W,X,Z⟩:=info_parts Zni
  have T:e<a.1.size:=by
   rcases l.out.2 with⟨d,_⟩|⟨x,t,w,d,_,g,_⟩
   ·cases d
   grind
  have z:K ((a.alloc _).ownsRow c.1.size 3 1 _ 0 []):=⟨rfl,.inr ⟨a.1.size,0,#[],rfl,O,hn_,x_,C,rfl,rfl⟩⟩;have y:K ((b.g.map (int .i64)).length=h*1):=by show _=_;rw[length_map,j.1,Nat.mul_one]
  have w:K (∀d g,(b.g.map (int .i64))[d]? =some g->(a.alloc (O_ #[] 3)).cell? (((J e 0):Addr).add d)=some g):=λd g t=>by have A:d<h*1:=(by rw[<- y];grind);have x:((J e 0):Addr).add d=(J e d):=(by unfold Addr.add;split<;>simp_all);rw[x];rw[((br_ a.1.size a).alloc x_ (O_ #[] 3)).cell (p:=(J e d)) T];rw[World.ownsRow.cellAt l d A];exact t
  have N:K (∀g∈b.g.map (int .i64),g.oneCell'=true):=λg t=>by obtain⟨x,_,rfl⟩:=mem_map.1 t;rfl
  go_wp2_with (at_builtin;refine Dh rfl (.tmp 22) (.tmp 25) 25 rfl _ 3 a0 _ 1 8 underlying25 R W X Z rfl C _ 0 [] rfl z _ h u _ rfl y w N O m_ O t_ ?_)
  rintro a1 F ⟨E,A,P,_,c1,c0,U⟩;have x:K (F.ownsRow c.1.size 3 1 a1 h (b.g.map (int .i64))/\E_ c F):=(by refine⟨E,?_⟩;exact(n.alloc O _).grown A t_ (by intro b4 Q;simp[ownBlock] at Q;omega));subst U;clear E A P l z w;go_wp2;go_ret2
  have Q:=x.1;refine⟨_,_,rfl,?_,?_,x.2⟩;rw[f.1];unfold Ad;rw[j.1];exact(by simpa using Q);rw[f.2];exact Bi.nil _ _
 rw[L] at M;have f:K (bdI b=[]/\bdS b=b.c):=(by show _/\_;unfold bdI bdS;grind);clear L;go_enter func53,ntmps53;go_upto_region 3 with fail;generalize r:c.alloc (O_ #[.bool true,V o h u,V p i v,I (G:Nat)] 172)=a;have q:E_ c a:=(by rw[<- r];exact q_);have s:H_ a c.1.size #[.bool true,V o h u,V p i v,I G] 172:=(by rw[<- r];exact hn_);have b8:=(Qb s).1;have c5:=n_ 2 s;have n:=Y q;clear r s M a8 a9 b0 a2;have D:a.ownsRow 0 9 1 (V p i v) i (b.c.map string):=(by have g:=(Aa.a (S:=λ_=>False) q).row b2 (λ_ _=>id);rw[j.2] at g;exact g);have l:=Y D;clear q D
 by_cases B:i=0
 ·subst B
  rcases p with _|t
  exact Zh9;exact Zh9
 have S:∃e,p=some ⟨e,0,none⟩:=by
  rcases l.out.2 with⟨d,g⟩|⟨x,t,w,d,_⟩
  exact absurd g B
  grind
 obtain⟨e,rfl⟩:=S;have⟨a0,R,W,X,Z⟩:=info_parts Znl
 have T:e<a.1.size:=by
  rcases l.out.2 with⟨d,_⟩|⟨x,t,w,d,_,g,_⟩
  ·cases d
  grind
 have z:K ((a.alloc _).ownsRow c.1.size 9 1 _ 0 []):=⟨rfl,.inr ⟨a.1.size,0,#[],rfl,O,hn_,x_,C,rfl,rfl⟩⟩;have y:K ((b.c.map string).length=i*1):=by show _=_;rw[length_map,j.2,Nat.mul_one]
 have w:K (∀d g,(b.c.map string)[d]? =some g->(a.alloc (O_ #[] 9)).cell? (((J e 0):Addr).add d)=some g):=λd g t=>by have A:d<i*1:=(by rw[<- y];grind);have x:((J e 0):Addr).add d=(J e d):=(by unfold Addr.add;split<;>simp_all);rw[x];rw[((br_ a.1.size a).alloc x_ (O_ #[] 9)).cell (p:=(J e d)) T];rw[World.ownsRow.cellAt l d A];exact t
 have N:K (∀g∈b.c.map string,g.oneCell'=true):=λg t=>by obtain⟨x,_,rfl⟩:=mem_map.1 t;rfl
 go_wp2_with (at_builtin;refine Dh rfl (.tmp 17) _ 47 rfl _ 9 a0 _ 1 16 underlying47 R W X Z rfl C _ 0 [] rfl z _ i v _ rfl y w N O m_ O t_ ?_)
 rintro a1 F ⟨E,A,P,_,c1,c0,U⟩;have x:K (F.ownsRow c.1.size 9 1 a1 i (b.c.map string)/\E_ c F):=(by refine⟨E,?_⟩;exact(n.alloc O _).grown A t_ (by intro b4 Q;simp[ownBlock] at Q;omega));subst U;clear E A P l z w;go_wp2;go_ret2
 have Q:=x.1;refine⟨_,_,rfl,?_,?_,x.2⟩;rw[f.1];exact ownsRow_nil _ _ 3 1;rw[f.2];unfold Bi;rw[j.2];exact(by simpa using Q)
def Zo2(d:World)(c:ES)(x:Ending)(e:World):Prop:=∃a b,x=.returned (.tuple #[a,b,I 0])/\Zn3 d e a b c
def Zav f q a b c (d:On c f q b)(k:b.h.length<=1000)(j:a<b.h.length)(i:(b.h.getD a Ai).e.g.length<=1000)(l:(b.h.getD a Ai).e.c.length<=1000):C_ 27 #[P_ f,I a] c λe g=>Zo2 c (b.h.getD a Ai).e e g:=by
 have u:=n_ 0 d.g;have o:C_ 52 #[P_ f,I a] c (V_ (.bool true) c):=(by have e:=Jd _ _ b (a:Int) c d k;have g:decide (0<=(a:Int)/\a<=(b.h.length:Int)-1)=true:=t_;rw[g] at e;exact e);have⟨x,w,y,v,s,p,h⟩:=d.h;have n:=vf _ a _ _ _ _ _ p b c h j i l;clear d h k j i l;generalize (b.h.getD a Ai).e=t at *;refine dl_ ?_;go_enter func27,ntmps27;go_wp2_with fail
 apply o.m;rintro e B ⟨rfl,r⟩;obtain rfl:=r.s;go_wp2_with fail
 apply n.m;rintro e D ⟨z,A,rfl,g⟩;have m:=Y g;clear g;go_wp2;go_ret3
 exact⟨_,_,rfl,m⟩
def Ko.mem{c a}(_:Ko c a){b}(d:b<a.g.length):a.g.getD b Db∈a.g:=w_
def vg s b e x Q P R L z g a i (j:Om i s Q P R L z g a)(c:Ko x a)(E:b<a.h.length)(H:e<x):C_ 78 #[P_ s,I e,I b] i (U_ (.int .i64 (Sp a g b (Da a b) (Iq a b) e:Nat)) i):=by
 have m:=c.a E;have k:=c.mem m.h;have l:=c.h _ k;have T:=c.i _ k;have r:e<(a.g.getD (Da a b) Db).N.length:=l.len ▸ H;have B:(a.g.getD (Da a b) Db).N.getD e 0<=(a.g.getD (Da a b) Db).g:=(by rw[Qc,Qd r];exact l.le _ (Qf _));have w:g.length<=1000000:=by rw[j.n.length_eq];have:=c.r;omega
 have v:Ll a (Da a b) (Iq a b)<=100000:=by
  have p:=yf _ ((a.g.getD _ _).fs.take (Iq a b)) (λd f=>aG (c.q d (c.n _ k d (aL f))) C);have d:=c.f4 _ k
  grind [Ll]
 have G:=c.w;have u:a.g.length<=1000:=p_ c.l;have⟨_,D⟩:=j.v.v.j (Da a b) m.h
 rcases D with⟨_,M,n,W,X,o,_,d⟩|⟨_,M,n,S,y,o,_,d⟩
 subst o;refine qg _ b _ _ _ _ _ _ _ _ _ g a i j m u w O v n (λf h=>?_);have q:iq f 0 _ _ _ _ _:=⟨(h.block _ (Qb d.r).1).T d.r,(Aa.a (S:=λ_=>False) h).row d.row (λ_ _=>id)⟩;exact Qn _ _ _ _ _ _ f q r (p_ l.len);subst o;have t:Lib.bitLen (a.g.getD (Da a b) Db).g<=6:=Gc O;have A:=Nat.lt_of_le_of_lt B (Mc O);refine wk _ b _ _ _ _ _ _ _ _ _ g a i j m u w O v n (λf h=>?_);have F:e*Lib.bitLen (a.g.getD (Da a b) Db).g+Lib.bitLen (a.g.getD (Da a b) Db).g<=(a.g.getD (Da a b) Db).N.length*Lib.bitLen (a.g.getD (Da a b) Db).g:=by rw[<- succ_mul];exact aK _ r
 have U:(a.g.getD _ _).N.length*_<=_:=Nat.mul_le_mul (l.len ▸ G) t;have q:Oa f 0 _ y _ _ _:=⟨(h.block _ (Qb d.r).1).T d.r,(Aa.a (S:=λ_=>False) h).row d.row (λ_ _=>id)⟩;have p:=Nr _ y _ _ _ _ _ _ f q (λN=>Ix _ _ N) t F O O;rw[ZfK _ A] at p;exact p
def we i o c h g b e {d}(p:On e i o b)(a:Ko g b)(k:c<b.h.length)(l:h<g)(r:d.Perm b.q)(s:Eh d):C_ 44 #[P_ i,I h,I c] e (U_ (.tuple #[.int .i64 (Sp b d c (Da b c) (Iq b c) h:Nat),.int .i64 0]) e):=by have j:=(a.h _ (a.mem a.k)).len;refine Zax _ _ c _ _ _ e p a.k (p_ a.j) (j ▸ l) (by rw[j];have:=a.w;omega) k (λm q=>?_);have⟨w,v,x,u,t,n,f⟩:=q.h;obtain rfl:d=n:=Vz a.u r s f.n f.l;exact vg _ c _ g _ _ _ _ _ d _ m f a k l
def Zc8 d g f c b (h:On b d g c)(a:Ko f c):C_ 26 #[P_ d] b (U_ (.int .i64 f) b):=by have e:=Zgd _ _ c b h a.k;rw[(a.h _ (a.mem a.k)).len] at e;exact e
def qd d e i b c (h:On c d e b)(a:Ko i b):C_ 55 #[P_ d] c λg j=>ZmO c b g j:=
 vy d e b c h a.k (p_ a.l) (λk f=>⟨a.o _ (a.mem f),p_ (a.f4 _ (a.mem f))⟩)
def vx f e b i a g (h:On g f e a)(c:Ko i a)(d:b<a.h.length):=
 Zav f e b a g h (p_ c.j) d (c.y b d).1 (c.y b d).2
def Dw(b:List Int):Prop:=∀a∈b,0<=a/\a<256
def Dw.nil:Dw []:=by intro b a;simp at a
theorem Dw.append{b c}(e:Dw b)(f:Dw c):Dw (b++c):=λd g=>by
 rcases mem_append.1 g with a|a
 exact e d a;exact f d a
theorem Dw.cons{x a}(d:0<=x/\x<256)(b:Dw a):Dw (x::a):=λf e=>by
 rcases mem_cons.1 e with rfl|c
 exact d;exact b f c
theorem Dw.a{g:Type}{c}{b:List g}(d:∀x∈b,Dw (c x)):Dw (b.flatMap c):=λf a=>by have⟨x,e,a⟩:=mem_flatMap.1 a;exact d x e f a
def aa(x:Int):0<=x%256/\x%256<256:=O
theorem gx b:∀a,Dw (Ay b a)
 |0=>Dw.nil
 |a+1=>by unfold Ay;exact(gx b a).append (Dw.cons (aa _) Dw.nil)
theorem ZfN b:Dw (Ab b):=λd a=>by unfold Ab at a;obtain⟨c,_,rfl⟩:=mem_map.1 a;have:=c.toNat_lt;omega
theorem ZjL{a}(e:∀d,a d<=1) c b:Dw (Bg a c b):=λg f=>by grind [Bg,jg]
theorem Zkd b:∀a,Dw (Rh b a)
 |0=>by unfold Rh;exact Dw.nil
 |a+1=>by unfold Rh;exact(Zkd b a).append (Dw.cons (aa _) (Dw.cons (aa _) Dw.nil))
theorem Zlc a b:Dw (Hr a b):=by
 unfold Hr;split
 ·grind [Rm,Dw.cons,Zkd]
 grind [Dw.cons,ZjL,Ix]
theorem ZmY a:Dw (Rv a):=λc b=>by grind [Rv]
theorem Zk5 a:Dw (Dm a):=by grind [Dm,Dw.append,Dw.cons,ZmY,Zlc]
theorem Znn a:Dw (Lc a):=by
 unfold Lc;split
 ·unfold kq Lm
  grind [Dw.cons,Dw.a,ZfN]
 unfold knB Li
 grind [Dw.cons,Dw.a,gx]
theorem ZoM x:Dw (xB x):=Dw.cons (aa _) (Dw.cons (aa _) (Dw.cons (aa _) Dw.nil))
def hw a b:Dw (Hm a b):=by
 unfold Hm
 grind [Dw.append,Dw.a,Znn,Zk5,gx,ZoM,Dw.cons]
def Ko.x{m e}(b:Ko m e):∀a∈e.g,yy a:=λa c=>by
 have d:=b.h a c;have o:=b.i a c;have p:=b.f4 a c;have i:=b.w;have q:=b.j;have j:Lib.bitLen a.g<=6:=Gc O;have s:a.N.length*_<=_:=Nat.mul_le_mul (d.len ▸ i) j;have u:=Lz a.N a.N.length;have t:=Dg (Cd a.N (Lib.bitLen a.g)) ((a.N.length*Lib.bitLen a.g+7)/8) (a.N.length*Lib.bitLen a.g);have r:=d.len;refine⟨O,λh k=>p_ (b.n a c h k),⟨O,λn l=>?_⟩,O,?_⟩
 ·have⟨f,g,_⟩:=(Ql _ _ n).1 l;refine⟨O,?_⟩;rw[g,Qc,Qd f];have:=d.le _ (Qf f)
  grind
 grind [Dm,Rv,Hr,Rm,Nz]
def Zaw f j m a d (g:On d f j a)(c:Ko m a)(k:∀K∈a.h,Wf K) b (h:b.Perm a.q)(l:Eh b):C_ 34 #[P_ f] d (U_ (.string (strOfNums (Cb a b))) d):=by have⟨q,p,r,o,n,i,e⟩:=g.h;obtain rfl:b=i:=Vz c.u h l e.n e.l;exact Zc6 _ _ _ _ _ _ _ b a d g.g e c.k k c.j c.x c.l (by rw[h.length_eq];have:=c.r;omega) (hw a b)
end Go.Proofs.YtfcgnpchbcmdeaaGreat
