import Derived.Test.YtfcgnpchbcmdeaaGreatZrbg
namespace Go.Proofs.YtfcgnpchbcmdeaaGreat
set_option linter.all false
set_option maxRecDepth 100000
set_option maxHeartbeats 32000000
open Go.RowKit Go.Sort
theorem Xl m a:(Da m a).Perm (List.range (m+1)):=by
 obtain⟨f,_,b⟩:=(insertionSort_holds (lt:=ltOf (Sa (m:=m+1) a)) (Zly a) (Ik m) 0 (m+1) qg_ (by simp[Ik])).1;have d:(insertionSort (ltOf (Sa (m:=m+1) a)) (Ik m) 0 (m+1)).extract 0 (m+1)=insertionSort (ltOf (Sa (m:=m+1) a)) (Ik m) 0 (m+1):=(by apply Array.extract_eq_self_of_le;rw[f];simp[Ik]);have e:(Ik m).extract 0 (m+1)=Ik m:=w_;rw[d,e] at b;have c:=b.map (λx=>x.val);unfold Da;refine c.trans ?_
 have:(Ik m).toList.map (λx=>x.val)=List.range (m+1):=by
  apply List.ext_getElem?;intro i;unfold Ik;rw[List.getElem?_map,Array.getElem?_toList,Array.getElem?_ofFn]
  by_cases h:i<m+1
  ·grind
  grind
 rw[this]
def Fh(Gs:List GS):List Nat:=Gs.flatMap (λG=>G.fs)
theorem Yq{α β:Type} g:∀(L:List α) i y h (t:List β),g y=g L[i]++t->((L.set i y).flatMap g).Perm (L.flatMap g++t)
 |[],i,y,h,t,e=>by simp at h
 |a::L,0,y,h,t,e=>by grind [List.Perm.append_left,List.perm_append_comm]
 |a::L,i+1,y,h,t,e=>by simp only[List.set_cons_succ,List.flatMap_cons,List.append_assoc];exact List.Perm.append_left _ (Yq g L i y (by simpa using h) t e)
theorem Za9 d c n a b f:(Fh (Bc d c n a b f)).Perm (Fh b++[f]):=by grind [Bc,Fh,Yq,Te,Im]
theorem ZeE Ks Os n budget:∀fs Gs,(Fh (fs.foldl (Bc Ks Os n budget) Gs)).Perm (Fh Gs++fs)
 |[],Gs=>s_
 | f::fs,Gs=>by
  simp only[List.foldl_cons];refine(ZeE _ _ n _ _ _).trans ?_
  grind [Za9]
theorem Nd m c b n a:(Fh (Ha m c b n a)).Perm (List.range (m+1)):=by grind [Ha,ZeE,Fh,Xl]
def Tq m Ks Os n budget:(Fh (Ha m Ks Os n budget)).Nodup:=(Nd m Ks Os n budget).nodup_iff.2 List.nodup_range
def Zbb d c n a b f (h:∀G∈b,0<G.fs.length):∀G∈Bc d c n a b f,0<G.fs.length:=by grind [Bc,Te]
def ZeG Ks Os n budget:∀(fs:List Nat) Gs,(∀G∈Gs,0<G.fs.length)->∀G∈fs.foldl (Bc Ks Os n budget) Gs,0<G.fs.length
 |[],_,h=>h
 |f::fs,Gs,h=>ZeG Ks Os n budget fs _ (Zbb Ks Os n budget Gs f h)
def ZhU m Ks Os n budget:∀G∈Ha m Ks Os n budget,0<G.fs.length:=ZeG Ks Os n budget _ _ s_
def Lp(L:List XS):Prop:=L.Pairwise (λx y=>x.row≠y.row∨x.f≠y.f)
def Vq f O B N:∀k,∀x∈In f O B N k,x.f=f/\x.row<k/\x.bin=B.getD x.row 0
 |0,x,h=>by simp[In] at h
 | k+1,x,h=>by
  rw[In,List.mem_append] at h
  rcases h with h|h
  have:=Vq f O B N k x h;omega
  grind [Zgc]
def uh f O B N:∀k,Lp (In f O B N k)
 |0=>by simp[In,Lp]
 | k+1=>by
  unfold Lp;rw[In,List.pairwise_append];refine⟨uh f O B N k,by unfold Zgc;split<;>simp,λx hx y hy=>?_⟩;have h1:=(Vq f O B N k x hx).2.1
  grind [Zgc]
def Uo Ks Os Bb n:∀(fs done:List Nat) s,Lp s.xs->(∀x∈s.xs,x.f∈done)->(done++fs).Nodup->Lp (fs.foldl (Ap Ks Os Bb n) s).xs/\∀x∈(fs.foldl (Ap Ks Os Bb n) s).xs,x.f∈done++fs
 |[],done,s,h1,h2,_=>⟨h1,by simpa using h2⟩
 | f ::fs,done,s,h1,h2,h3=>by
  simp only[List.foldl_cons];have e:done++f::fs=(done++[f])++fs:=s_;rw[e] at h3 ⊢;refine Uo _ _ _ n _ _ _ ?_ ?_ h3
  ·show Lp (s.xs++In f _ _ _ _);unfold Lp;rw[List.pairwise_append];refine⟨h1,uh _ _ _ _ _,λx hx y hy=>.inr ?_⟩;rw[(Vq _ _ _ _ _ y hy).1]
   grind
  intro x hx
  rcases List.mem_append.1 hx with hx|hx
  ·grind
  rw[(Vq _ _ _ _ _ x hx).1];simp
def rh Os Bb n:∀Gs done D,Lp D.xs->(∀x∈D.xs,x.f∈done)->(done++Fh Gs).Nodup->Lp (Gs.foldl (Js Os Bb n) D).xs
 |[],done,D,h1,_,_=>h1
 |G::Gs,done,D,h1,h2,h3=>by simp only[List.foldl_cons];have e:done++Fh (G::Gs)=(done++G.fs)++Fh Gs:=(by simp[Fh]);rw[e] at h3;obtain⟨a,b⟩:=Uo D.ks Os Bb n G.fs done ⟨List.replicate n 0,D.xs,1⟩ h1 h2 (List.nodup_append.1 h3).1;exact rh _ _ n _ _ _ a b h3
def jb m n budget es Bb:Lp (Ao m n budget es Bb).xs:=
 rh _ _ _ _ [] _ (by simp[Lp]) s_ (by simpa using Tq m _ _ n budget)
def ZdI{L X Y}(e:Lp L)(k:X.Perm L)(l:Fp X)(d:Y.Perm L)(m:Fp Y):X=Y:=by
 refine List.Perm.eq_of_pairwise (le:=λx y:XS=>x.row<y.row∨x.row=y.row/\x.f<=y.f) (λa b ha hb hab hba=>?_) l m (k.trans d.symm);have o:=k.subset ha;have n:=d.subset hb;obtain⟨i,c,rfl⟩:=List.getElem_of_mem o;obtain⟨j,g,rfl⟩:=List.getElem_of_mem n
 rcases Nat.lt_trichotomy i j with h|h|h
 have:=List.pairwise_iff_getElem.1 e i j c g h;omega;subst h;rfl;have:=List.pairwise_iff_getElem.1 e j i g c h;omega
end Go.Proofs.YtfcgnpchbcmdeaaGreat
namespace Go.Proofs.YtfcgnpchbcmdeaaGreat
set_option linter.all false
set_option maxRecDepth 100000
set_option maxHeartbeats 32000000
open Go.RowKit
def Zko a h O B N k (b:∀x∈N,x<a)(c:0<a)(d:∀r,B.getD r 0<h):∀x∈Hv a O B N k,x<a+h:=by grind [Hv,jx]
structure Ze4(n)(s:CS):Prop where
 len:s.N.length=n
 pos:0<s.off
 lt:∀x∈s.N,x<s.off
def Tk{Ks Os Bb}{n}:∀(fs:List Nat) s,(∀f∈fs,∀r,(Bb.getD f []).getD r 0<(Ks.getD f Ay).many)->Ze4 n s->Ze4 n (fs.foldl (Ap Ks Os Bb n) s)
 |[],s,_,h=>h
 |f::fs,s,hb,h=>by simp only[List.foldl_cons];refine Tk _ _ (λg hg=>hb g (by simp[hg])) ⟨?_,?_,?_⟩;show(Hv _ _ _ _ n).length=n;rw[jq _ _ _ _ (by rw[h.len];omega)];exact h.len;show 0<s.off+_;have:=h.pos;omega;exact Zko _ _ _ _ _ _ h.lt h.pos (hb f s_)
def bq{Ks Os Bb n xs fs}(hb:∀f∈fs,∀r,(Bb.getD f []).getD r 0<(Ks.getD f Ay).many):Ze4 n (Ij Ks Os Bb n xs fs):=
 Tk fs _ hb ⟨s_,s_,w_⟩
structure BOk(Ks)(n)(b:BS):Prop where
 len:b.N.length=n
 le:∀x∈b.N,x<=b.g
 sum:b.g=Du Ks b.fs
def vy{Os Bb n}{Ks}:∀(Gs:List GS) D,D.ks=Ks->(∀G∈Gs,∀f∈G.fs,∀r,(Bb.getD f []).getD r 0<(Ks.getD f Ay).many)->(∀b∈D.bs,BOk Ks n b)->(∀b∈(Gs.foldl (Js Os Bb n) D).bs,BOk Ks n b)/\(Gs.foldl (Js Os Bb n) D).bs.map (λb=>b.fs)=D.bs.map (λb=>b.fs)++Gs.map (λG=>G.fs)
 |[],D,_,_,h=>⟨h,s_⟩
 | G ::Gs,D,hk,hb,h=>by
  simp only[List.foldl_cons]
  obtain⟨a,b⟩:=vy (Os:=Os) Gs (Js Os Bb n D G) hk (λg hg=>hb g (by simp[hg])) (λb hb2=>by
   rcases List.mem_append.1 hb2 with h1|h1
   exact h b h1;simp only[List.mem_cons,List.not_mem_nil,or_false] at h1;subst h1;have hc:Ze4 n (Ij D.ks Os _ n D.xs _):=bq (by rw[hk];exact hb G s_);refine⟨hc.len,λx hx=>?_,?_⟩
   ·have:=hc.lt x hx
    grind
   grind [gm])
  refine⟨a,?_⟩;rw[b];simp[Js]
def Hq(D:Zh)(f:Nat):Nat:=D.bs.findIdx (λb=>decide (f∈b.fs))
def Yz(D:Zh)(f:Nat):Nat:=(D.bs.getD (Hq D f) Dx).fs.idxOf f
def Zkw{D f}(d:∃b∈D.bs,f∈b.fs)(o:∀b∈D.bs,b.fs.length<=100)(y:∀b∈D.bs,∀x∈b.fs,x<D.ks.length)(g:∀i,i<D.ks.length->(D.ks.getD i Ay).many<=100):et D f (Hq D f) (Yz D f):=by
 obtain⟨b,r,s⟩:=d;have a:Hq D f<_:=List.findIdx_lt_length_of_exists ⟨b,r,by simpa using s⟩
 have q:∀i _,D.bs.getD i Dx=D.bs[i]:=λi h=>w_
 have k:f∈(D.bs.getD (Hq D f) Dx).fs:=(by rw[q _ a];have:=List.findIdx_getElem (p:=λb:BS=>decide (f∈b.fs)) (w:=a);exact of_decide_eq_true this);have c:Yz D f<_:=List.idxOf_lt_length_of_mem k;refine⟨a,c,?_,?_,?_,?_,g⟩;rw[Qc,Qd c];exact List.getElem_idxOf _
 ·intro i j A u l
  rcases l with m|m
  ·have v:=List.not_of_lt_findIdx (p:=λb:BS=>decide _) (xs:=D.bs) m
   grind
  rcases Nat.lt_or_ge i (Hq D f) with n|n
  ·have v:=List.not_of_lt_findIdx (p:=λb:BS=>decide _) (xs:=D.bs) n
   grind
  have e:i=Hq D f:=o_;subst e;intro t;rw[Qc,Qd u] at t;have z:=List.not_of_lt_findIdx (p:=(· ==f)) (xs:=(D.bs.getD _ _).fs) (i:=j) m
  grind
 ·grind
 grind [Qf]
def XIn(Bb:List (List Nat))(n:Nat)(fs:List Nat)(x:XS):Prop:=x.row<n/\x.f∈fs/\x.bin=(Bb.getD x.f []).getD x.row 0
def gn e d c n:∀fs done s,(∀x∈s.xs,XIn c n done x)->(fs.foldl (Ap e d c n) s).xs.length<=s.xs.length+fs.length*n/\∀x∈(fs.foldl (Ap e d c n) s).xs,XIn c n (done++fs) x
 |[],done,s,h=>⟨s_,by simpa using h⟩
 | f ::fs,done,s,h=>by
  simp only[List.foldl_cons]
  obtain⟨a,b⟩:=gn e d c n fs (done++[f]) (Ap e d c n s f) (λx hx=>by
   rcases List.mem_append.1 hx with hx|hx
   obtain⟨h1,h2,h3⟩:=h x hx;exact⟨h1,List.mem_append_left _ h2,h3⟩;obtain⟨h1,h2,h3⟩:=Vq _ _ _ _ _ x hx
   exact⟨h2,by rw[h1];simp,by rw[h1];exact h3⟩)
  refine⟨?_,w_⟩
  have h1:(Ap e d c n s f).xs.length<=s.xs.length+n:=by
   show(s.xs++In _ _ _ _ _).length<=_
   grind [Vr]
  rw[List.length_cons,Nat.succ_mul];omega
def Zd8 Os Bb n:∀Gs done D,(∀x∈D.xs,XIn Bb n done x)->(Gs.foldl (Js Os Bb n) D).xs.length<=D.xs.length+(Fh Gs).length*n/\∀x∈(Gs.foldl (Js Os Bb n) D).xs,XIn Bb n (done++Fh Gs) x
 |[],done,D,h=>⟨s_,by simpa [Fh] using h⟩
 |G::Gs,done,D,h=>by simp only[List.foldl_cons];obtain⟨a,b⟩:=gn D.ks Os Bb n G.fs done ⟨List.replicate n 0,D.xs,1⟩ h;obtain⟨c,d⟩:=Zd8 Os Bb n Gs (done++G.fs) (Js Os Bb n D G) b;have e:Fh (G::Gs)=G.fs++Fh _:=rfl;refine⟨?_,w_⟩;have h1:(Js _ _ n D G).xs.length<=D.xs.length+_:=a;rw[e,Qe,Nat.add_mul];omega
structure Mt(n)(D:Zh):Prop where
 n2:n<=200
 k0:0<D.ks.length
 k4:D.ks.length<=4
 b0:0<D.bs.length
 b4:D.bs.length<=4
 bok:∀b∈D.bs,BOk D.ks n b
 g40:∀b∈D.bs,b.g<=40
 f0:∀b∈D.bs,0<b.fs.length
 f4:∀b∈D.bs,b.fs.length<=4
 fk:∀b∈D.bs,∀f∈b.fs,f<D.ks.length
 all:∀f,f<D.ks.length->∃b∈D.bs,f∈b.fs
 mn:∀i,i<D.ks.length->(D.ks.getD i Ay).many<=18
 dn:∀i,i<D.ks.length->(D.ks.getD i Ay).d<(D.ks.getD i Ay).many
 edg:∀i,i<D.ks.length->Ol (D.ks.getD i Ay).e
 keys:Lp D.xs
 xl:D.xs.length<=800
 xin:∀x∈D.xs,x.row<n/\x.f<D.ks.length/\x.bin<18
def Jk{m n budget c a}(P:m+1<=4)(O:n<=200)(I:Po m n c a):Mt n (Ao m n budget c a):=by
 have l:(Ao m n budget c a).ks=_:=Kw _ _ _ _ _;have k:=Dh c a (m+1)
 have t:∀i,_->((Eb c _ (m+1)).getD i _).many=(c.getD i _).cnt+2:=λi d=>by rw[Fi c a d];rfl
 have q:∀i,_->((Eb _ _ _).getD i _).many<=18:=λi d=>by rw[t i d];have:=I.cn i d;omega
 have T:∀i,i<m+1->((Gh c a (m+1)).getD i []).length=n:=λi d=>by rw[Lg c a d];unfold oF Dc;rw[List.length_map];exact I.lb i d
 have B:∀f,f<m+1->∀r,(a.getD f []).getD r 0<((Eb c a (m+1)).getD f Ay).many:=λf j r=>by
  rw[t f j,Qc]
  rcases Nat.lt_or_ge r (a.getD f []).length with M|M
  rw[Qd M];exact I.bin f j _ (Qf _)
  grind
 obtain⟨g,S⟩:=iv (budget:=budget) T (λi d=>Nat.le_trans (q i d) d_);have o:=Nd m (Eb c a (m+1)) (Gh c a (m+1)) n budget;have N:=ZhU m (Eb c a (m+1)) (Gh c a (m+1)) n budget;obtain⟨w,H⟩:=vy (Os:=Gh c a (m+1)) (Bb:=a) (n:=n) (Ks:=Eb c a (m+1)) (Ha m (Eb c a (m+1)) (Gh c a (m+1)) n budget) ⟨Eb c a (m+1),[],[]⟩ rfl (λG h f j=>B f ((g G h).fs f j)) s_;obtain⟨E,v⟩:=Zd8 (Gh c a (m+1)) a n (Ha m (Eb c a (m+1)) (Gh c a (m+1)) n budget) [] ⟨Eb c a (m+1),[],[]⟩ s_;have C:∀b∈(Ao m n _ _ _).bs,_:=w
 have y:(Ao m n budget c a).bs.map (λb=>b.fs)=(Ha m (Eb c a (m+1)) (Gh c a (m+1)) n budget).map (λG=>G.fs):=(by rw[show(Ao m n budget c a).bs=_ from rfl];exact H);have z:(Ao m n _ _ _).xs.length<=0+_:=E;have A:∀x∈(Ao m n _ _ _).xs,_:=v;have u:=jb m n budget c a;clear w H E v;generalize Ao m n budget c a=D at *;generalize Ha m (Eb c a (m+1)) (Gh c a (m+1)) n budget=Gs at *
 have F:D.bs.length=Gs.length:=by have:=congrArg List.length y;simpa using this
 have s:∀b∈D.bs,∃G∈Gs,G.fs=b.fs:=λb p=>by
  have:b.fs∈D.bs.map (λb=>b.fs):=List.mem_map.2 ⟨b,p,rfl⟩
  grind
 have Q:∀G∈Gs,∃b∈D.bs,b.fs=G.fs:=λG h=>by
  have:G.fs∈Gs.map (λG=>G.fs):=List.mem_map.2 ⟨G,h,rfl⟩
  grind
 have J:=λf j=>by have:f∈Fh Gs:=o.mem_iff.2 (List.mem_range.2 j);exact List.mem_flatMap.1 this
 have L:(Fh Gs).length=m+1:=(by rw[o.length_eq,List.length_range]);constructor;exact O
 ·grind
 ·grind
 ·rw[F];obtain⟨G,h,_⟩:=J 0 o_
  grind
 rw[F];omega
 ·grind
 intro b p;obtain⟨G,h,e⟩:=s b p;rw[(C b p).sum,<- e,<- (g G h).sum];exact(g G h).bins
 ·grind
 intro b p;obtain⟨G,h,e⟩:=s b p;rw[<- e];have:=(g G h).len;omega;intro b p f j;obtain⟨G,h,e⟩:=s b p;rw[l,k];exact(g G h).fs f (by rw[e];exact j)
 ·intro f j;rw[l,k] at j
  grind
 ·grind
 intro i d;rw[l] at d ⊢;rw[k] at d;rw[t i d,Fi c a d];show Zm _ _<_;have:=Zbj (a.getD i []) (show 0<(c.getD i Ph).cnt+2 by omega);rw[Zen] at this;omega;intro i d;rw[l] at d ⊢;rw[k] at d;rw[Fi c a d];exact I.ok i d;exact u;rw[L] at z;have:(m+1)*n<=4*200:=Nat.mul_le_mul P O;omega;intro x R;obtain⟨M,V,U⟩:=A x R
 grind
theorem Vp a O B N {n r}(b:r<n):(Hv a O B N n).getD r 0=jx a O B N r:=by grind [Hv]
def Zbi f O B N:∀k x,x∈In f O B N k↔x.f=f/\x.row<k/\O.getD x.row false=true/\N.getD x.row 0≠0/\x.bin=B.getD x.row 0
 |0,x=>by simp[In]
 | k+1,x=>by
  rw[In,List.mem_append,Zbi f O B N k];obtain⟨xr,xf,xb⟩:=x
  grind [Zgc]
section
variable {Ks:List KS} {Os:List (List Bool)} {Bb:List (List Nat)} {n:Nat}
def Wn:∀(fs:List Nat) (s:CS),0<s.off->∀r,r<n->(s.N.getD r 0≠0->(fs.foldl (Ap Ks Os Bb n) s).N.getD r 0=s.N.getD r 0)/\(s.N.getD r 0=0->(fs.foldl (Ap Ks Os Bb n) s).N.getD r 0=0∨s.off<=(fs.foldl (Ap Ks Os Bb n) s).N.getD r 0)
 |[],s,_,r,_=>⟨λ_=>rfl,λh=>.inl h⟩
 | f::fs,s,h0,r,hr=>by
  simp only[List.foldl_cons];have hg:(Ap Ks Os Bb n s f).N.getD r 0=_:=Vp _ _ _ _ hr;have ho:(Ap Ks Os Bb n s f).off=_+_:=rfl;obtain⟨a,b⟩:=Wn fs (Ap Ks Os Bb n s f) (by rw[ho];omega) r hr
  grind [jx]
def Zho:∀(fs:List Nat) (s t:CS),s.N=t.N->s.off=t.off->(fs.foldl (Ap Ks Os Bb n) s).N=(fs.foldl (Ap Ks Os Bb n) t).N/\(fs.foldl (Ap Ks Os Bb n) s).off=(fs.foldl (Ap Ks Os Bb n) t).off
 |[],_,_,h1,h2=>⟨h1,h2⟩
 |f::fs,s,t,h1,h2=>by simp only[List.foldl_cons];refine Zho _ _ _ ?_ ?_;show Hv _ _ _ _ _=Hv _ _ _ _ _;rw[h1,h2];show s.off+_=t.off+_;rw[h2]
def It(Ks:List KS)(Os:List (List Bool))(Bb:List (List Nat))(n:Nat)(fs:List Nat):List Nat:=(Ij Ks Os Bb n [] fs).N
theorem Zhm xs fs:(Ij Ks Os Bb n xs fs).N=It Ks Os Bb n fs:=(Zho fs ⟨List.replicate n 0,xs,1⟩ ⟨List.replicate n 0,[],1⟩ rfl rfl).1
def ZeJ:∀(fs:List Nat) (s:CS) (x:XS),x∈(fs.foldl (Ap Ks Os Bb n) s).xs↔x∈s.xs∨∃A C,fs=A++x.f::C/\x.row<n/\(Os.getD x.f []).getD x.row false=true/\(A.foldl (Ap Ks Os Bb n) s).N.getD x.row 0≠0/\x.bin=(Bb.getD x.f []).getD x.row 0
 |[],s,x=>s_
 | f ::fs,s,x=>by
  simp only[List.foldl_cons];rw[ZeJ fs (Ap Ks Os Bb n s f) x];have e:x∈(Ap Ks Os Bb n s f).xs↔_:=List.mem_append;rw[e,Zbi];constructor;rintro((h|⟨rfl,h⟩)|⟨A,C,rfl,h⟩);exact .inl h;exact .inr ⟨[],fs,rfl,h⟩;exact .inr ⟨f::A,C,rfl,h⟩;rintro(h|⟨A,C,h1,h⟩)
  ·grind
  cases A with
  | nil=>
   grind
  | cons g A=>
   grind
def jc:∀(Gs:List GS) (D:Zh) (x:XS),D.ks=Ks->(x∈(Gs.foldl (Js Os Bb n) D).xs↔x∈D.xs∨∃G∈Gs,∃A C,G.fs=A++x.f::C/\x.row<n/\(Os.getD x.f []).getD x.row false=true/\(It Ks Os Bb n A).getD x.row 0≠0/\x.bin=(Bb.getD x.f []).getD x.row 0)
 |[],D,x,_=>s_
 | G::Gs,D,x,hk=>by
  simp only[List.foldl_cons];rw[jc Gs (Js Os Bb n D G) x hk];have e:x∈(Js Os Bb n D G).xs↔x∈(G.fs.foldl (Ap Ks Os Bb n) ⟨List.replicate n 0,D.xs,1⟩).xs:=(by rw[<- hk];rfl);rw[e,ZeJ];have eN:∀A,(A.foldl (Ap _ _ Bb n) _).N=It Ks Os _ n A:=λA=>Zhm D.xs A
  grind
def Zcn:∀(Gs:List GS) (D:Zh),D.ks=Ks->(∀b∈D.bs,b.N=It Ks Os Bb n b.fs)->∀b∈(Gs.foldl (Js Os Bb n) D).bs,b.N=It Ks Os Bb n b.fs
 |[],_,_,h=>h
 | G::Gs,D,hk,h=>by
  simp only[List.foldl_cons];refine Zcn _ _ hk (λb hb=>?_)
  rcases List.mem_append.1 hb with h1|h1
  exact h b h1
  grind [Zhm]
end
def Mt.seat{n D}(h:Mt n D){f}(hf:f<D.ks.length):et D f (Hq D f) (Yz D f):=
 Zkw (h.all f hf) (λb hb=>Nat.le_trans (h.f4 b hb) d_) h.fk (λi hi=>Nat.le_trans (h.mn i hi) d_)
def Zh0{m n c e a}(hm:m+1<=4)(hn:n<=200)(T:Po m n e a){X}(hX:X.Perm (Ao m n c e a).xs){f h}(M:f<m+1)(F:h<n):iz (Ao m n c e a) X f (Hq (Ao m n c e a) f) (Yz (Ao m n c e a) f) h=(a.getD f []).getD h 0:=by
 have Q:=Jk (budget:=c) hm hn T;have t:(Ao m n c e a).ks=_:=Kw _ _ _ _ _;have R:=Dh e a (m+1);have J:=Q.seat (f:=f) w_
 have j:∀g,g<m+1->∀r,(a.getD g []).getD r 0<((Eb e a (m+1)).getD g Ay).many:=λg hg r=>by
  rw[Fi e a hg];show _<(e.getD g Ph).cnt+2;rw[Qc]
  rcases Nat.lt_or_ge r (a.getD g []).length with s|s
  rw[Qd s];exact T.bin g hg _ (Qf _)
  grind
 have y:∀x,x∈(Ao m n _ _ _).xs↔_:=λx=>jc (Ks:=Eb _ _ _) (Os:=Gh e _ _) (Bb:=a) (n:=n) (Ha m _ _ n c) _ x rfl;have hN:∀b∈(Ao m n _ _ _).bs,_=It (Eb _ _ _) _ _ n _:=Zcn (Ha m _ (Gh e a _) n c) _ rfl s_;have a3:(Ao m n c e a).bs.map (λb=>b.fs)=(Ha m (Eb e a (m+1)) (Gh e a (m+1)) n c).map (λG=>G.fs):=by have s:=(vy (Os:=Gh e a (m+1)) (Bb:=a) (n:=n) (Ks:=Eb _ _ _) _ ⟨Eb _ a _,[],[]⟩ rfl (λG P g hg=>j g (List.mem_range.1 ((Nd m (Eb e a (m+1)) (Gh e a (m+1)) n c).mem_iff.1 (List.mem_flatMap.2 ⟨G,P,hg⟩)))) s_).2;rw[show(Ao m n c e a).bs=_ from rfl];exact s
 have hO:((Gh e a (m+1)).getD f []).getD h false=decide ((a.getD f []).getD h 0≠((Eb e a (m+1)).getD f Ay).d):=(by rw[Lg e a M,Fi e a M];have L:h<(a.getD f []).length:=(by rw[T.lb f M];exact F);unfold oF Dc;rw[Qc,List.getElem?_map,Qd L,Qc (l:=a.getD f []),Qd L];rfl);have H:=Q.fk;clear Q;generalize Ao m n c e a=D at *;generalize Ha m (Eb e a (m+1)) (Gh e a (m+1)) n c=Gs at *;rw[t] at H;generalize Hq D f=bi at *;generalize Yz D f=p at *;have u:D.bs.getD bi Dx∈D.bs:=(by rw[Qc,Qd J.hb];grind);have V:=hN _ u
 have W:(D.bs.getD bi Dx).fs=(D.bs.getD bi Dx).fs.take p++f::(D.bs.getD bi Dx).fs.drop (p+1):=(by have s:=J.at_;rw[Qc (l:=(D.bs.getD bi Dx).fs),Qd J.hp] at s;simp only[Option.getD_some] at s;have h2:=List.take_append_drop p (D.bs.getD bi Dx).fs;rw[List.drop_eq_getElem_cons J.hp,s] at h2;exact h2.symm);have B:Nh D bi p=1+Du (Eb e a (m+1)) ((D.bs.getD bi Dx).fs.take p):=(by unfold Nh;rw[t]);have o:=H _ u;rw[R] at o
 have P:∃G∈Gs,G.fs=(D.bs.getD bi Dx).fs:=by
  have:(D.bs.getD bi Dx).fs∈D.bs.map (λb=>b.fs):=List.mem_map.2 ⟨_,u,rfl⟩
  grind
 unfold iz;rw[V,B,t];generalize (D.bs.getD bi Dx).fs=fs at *;generalize fs.take p=A at *;generalize fs.drop (p+1)=C at *;subst W;have q:Ze4 n (Ij _ (Gh e a (m+1)) _ n [] A):=bq (λg hg=>j g (o g (List.mem_append_left _ hg)));have i:=gm (Eb e a (m+1)) (Gh e a (m+1)) a n [] A;have a2:(It (Eb e a (m+1)) (Gh e a (m+1)) a n A).getD h 0<1+Du (Eb e a (m+1)) A:=by rw[<- i,Qc];have L:h<(It (Eb e a (m+1)) (Gh e a (m+1)) a n A).length:=(by unfold It;rw[q.len];exact F);rw[Qd L];exact q.lt _ (Qf _)
 have k:It (Eb e a (m+1)) (Gh e a (m+1)) a n (A++f::C)=(C.foldl (Ap (Eb e a (m+1)) (Gh e a (m+1)) a n) (Ap (Eb e a (m+1)) (Gh e a (m+1)) a n (Ij (Eb e a (m+1)) (Gh e a (m+1)) a n [] A) f)).N:=(by grind [It,Ij]);have z:(Ap (Eb e a (m+1)) (Gh e a (m+1)) a n (Ij (Eb e a (m+1)) (Gh e a (m+1)) a n [] A) f).off=1+Du (Eb e a (m+1)) A+((Eb e a (m+1)).getD f Ay).many:=(by show(Ij _ _ _ _ _ _).off+_=_;rw[i]);have w:(Ap (Eb e a (m+1)) (Gh e a (m+1)) a n (Ij (Eb e a (m+1)) (Gh e a (m+1)) a n [] A) f).N.getD h 0=jx (1+Du (Eb e a (m+1)) A) ((Gh e a (m+1)).getD f []) (a.getD f []) (It (Eb e a (m+1)) (Gh e a (m+1)) a n A) h:=by rw[<- i];exact Vp _ _ _ _ F
 obtain⟨v,E⟩:=Wn (Ks:=Eb e a (m+1)) (Os:=Gh e a (m+1)) (Bb:=a) (n:=n) C _ (by rw[z];omega) h F;rw[<- k,z,w] at E;rw[<- k,w] at v;have Z:=j f M h
 have a0:∀x∈X,rp h f x->(((Gh e a (m+1)).getD f []).getD h false=true/\x.bin=(a.getD f []).getD h 0):=λx hx ha=>w_
 generalize (It (Eb e a (m+1)) (Gh e a (m+1)) a n (A++f::C)).getD h 0=x at *;generalize hna:(It (Eb e a (m+1)) (Gh e a (m+1)) a n A).getD h 0=na at *;unfold jx at v E;rw[hna] at v E;generalize 1+Du (Eb e a (m+1)) A=off at *
 by_cases hOt:((Gh e a (m+1)).getD f []).getD h false=true
 ·by_cases hz:na=0
  ·grind
  rw[if_neg (λhc=>hz hc.2)] at v E;have hx:=v hz;rw[if_neg o_];obtain⟨G,U,S⟩:=P;have O:(⟨_,f,(a.getD f _).getD _ 0⟩:XS)∈_:=(y _).2 (.inr ⟨G,U,A,C,S,F,hOt,by rw[hna];exact hz,rfl⟩);have Y:=hX.symm.subset O;unfold xbF
  grind
 rw[if_neg (λhc=>hOt hc.1)] at v E;have I:¬(off<=x/\x<off+((Eb e a (m+1)).getD f Ay).many):=o_;rw[if_neg I];have a1:(a.getD f []).getD h 0=((Eb e a (m+1)).getD f Ay).d:=w_;unfold xbF
 grind
end Go.Proofs.YtfcgnpchbcmdeaaGreat
namespace Go.Proofs.YtfcgnpchbcmdeaaGreat
set_option linter.all false
set_option maxRecDepth 100000
set_option maxHeartbeats 32000000
open Go.RowKit Go.Sort
section
variable {α:Type} [Inhabited α]
def Oy lt lt' (key:α->Nat)(h:∀x y,key y<key x->lt x y=lt' x y):∀j d,j<d.size->(∀k,k<j->key d[k]!<key d[j]!)->insInner lt 0 j d=insInner lt' 0 j d
 |0,_,_,_=>rfl
 | j +1,d,hj,hk=>by
  unfold insInner;rw[h _ _ (hk j o_)];split
  ·refine Oy _ _ _ h j _ (by rw[Go.Sort.swp_size];omega) (λk hkj=>?_)
   grind [swp_other,swp_right]
  rfl
def Ys lt (key:α->Nat) i:∀j d,j<=i->i<d.size->(∀k,k<=i->key d[k]!<=i)->(∀k,k<=i->key (insInner lt 0 j d)[k]!<=i)/\(∀k,i<k->(insInner lt 0 j d)[k]! =d[k]!)/\(insInner lt 0 j d).size=d.size
 |0,_,_,_,hk=>⟨hk,λ_ _=>rfl,rfl⟩
 | j+1,d,hj,hi,hk=>by
  unfold insInner;split;obtain⟨h1,h2,h3⟩:=Ys lt key i j (swp d (j+1) j) o_ (by rw[Go.Sort.swp_size];exact hi) (λk hki=>by grind [swp_right,swp_left,swp_other]);exact⟨h1,λk hki=>by rw[h2 k hki,swp_other d _ _ k o_ o_],by rw[h3,Go.Sort.swp_size]⟩
  grind
def Oz lt lt' (key:α->Nat)(h:∀x y,key y<key x->lt x y=lt' x y) n:∀f i d,n-i=f->i<=n->d.size=n->(∀k,k<i->key d[k]!<i)->(∀k,i<=k->k<n->key d[k]! =k)->insOuter lt 0 n i d=insOuter lt' 0 n i d
 |0,i,d,hf,hi,_,_,_=>by rw[insOuter.eq_1 lt,insOuter.eq_1 lt',if_neg o_,if_neg o_]
 |f+1,i,d,hf,hi,hs,h1,h2=>by have hlt:i<n:=o_;have e:=h2 i qa_ hlt;rw[insOuter.eq_1 lt,insOuter.eq_1 lt',if_pos hlt,if_pos hlt,Oy lt lt' key h i d o_ (λk hk=>w_)];obtain⟨g1,g2,g3⟩:=Ys lt' key i i d qa_ o_ (λk hk=>w_);exact Oz _ _ _ h n f _ _ o_ hlt (by rw[g3];exact hs) (λk hk=>Nat.lt_succ_of_le (g1 k o_)) (λk hk hkn=>w_)
end
def De(Os:List (List Bool))(f:Nat):Nat:=Dj (Os.getD f [])
def ltG{m}(Os:List (List Bool))(x y:Fin m):Bool:=decide (De Os y.val<De Os x.val∨De Os x.val=De Os y.val/\x.val<y.val)
def Zmq{m} a:SWO (ltG (m:=m) a):=by
 refine⟨λx=>?_,λx y z h1 h2=>?_,λx y z h1 h2=>?_⟩;simp[ltG];simp only[ltG,decide_eq_true_eq] at *;omega
 grind [ltG]
def Za3 m {k}(h:k<m+1):((Ik m)[k]!).val=k:=by rw[getElem!_pos (Ik m) k (by simp[Ik];exact h)];simp[Ik]
theorem ZfV m a:insertionSort (ltOf (Sa (m:=m+1) a)) (Ik m) 0 (m+1)=insertionSort (ltG a) (Ik m) 0 (m+1):=by
 unfold insertionSort;refine Oz _ _ _ (λx y hk=>?_) _ _ 1 _ rfl o_ (by simp[Ik]) (λk hk=>by rw[Za3 m o_];exact hk) (λk _ hk=>Za3 m hk)
 grind [ltF,ltG,De]
def ZfU m a {i j}(b:i<j)(e:j<m+1):De a ((Da m a).getD j 0)<=De a ((Da m a).getD i 0)/\(De a ((Da m a).getD j 0)=De a ((Da m a).getD i 0)->(Da m a).getD i 0<=(Da m a).getD j 0):=by
 have c:=(insertionSort_holds (lt:=ltG (m:=m+1) a) (Zmq _) (Ik m) 0 (m+1) qg_ (by simp[Ik]));have f:=c.1.1;have g:=c.2 i j qg_ b e;have d:(Ik m).size=m+1:=by simp[Ik]
 grind [Da,ltG,ZfV]
end Go.Proofs.YtfcgnpchbcmdeaaGreat
namespace Go.Proofs.YtfcgnpchbcmdeaaGreat
set_option linter.all false
set_option maxRecDepth 100000
set_option maxHeartbeats 32000000
open Go.RowKit
def mz(Ks:List KS)(Bb:List (List Nat))(r:Nat)(fs:List Nat):Nat×Nat:=fs.foldl (λs f=>(if sO Ks Bb f r=true/\s.1=0 then s.2+(Bb.getD f []).getD r 0 else s.1,s.2+(Ks.getD f Ay).many)) (0,1)
def He(Ks:List KS)(Bb:List (List Nat))(fs:List Nat)(n:Nat):List Nat:=(List.range n).map (λr=>(mz Ks Bb r fs).1)
theorem ZaL{Ks Bb r}{a:List Nat}{k}(h:k<a.length):mz Ks Bb r (a.take (k+1))=(if sO Ks Bb (a.getD k 0) r=true/\(mz Ks Bb r (a.take k)).1=0 then(mz Ks Bb r (a.take k)).2+(Bb.getD (a.getD k 0) []).getD r 0 else(mz Ks Bb r (a.take k)).1,(mz Ks Bb r (a.take k)).2+(Ks.getD (a.getD k 0) Ay).many):=by have e:a.getD k 0=a[k]:=w_;unfold mz;rw[Qi h,List.foldl_append,e];rfl
def Zht{Ks Os Bb n r}(hr:r<n)(hO:∀f,f<Ks.length->(Os.getD f []).getD r false=sO Ks Bb f r):∀(fs:List Nat) s t,(∀f∈fs,f<Ks.length)->s.N.getD r 0=t.1->s.off=t.2->(fs.foldl (Ap Ks Os Bb n) s).N.getD r 0=(fs.foldl (λs f=>(if sO Ks Bb f r=true/\s.1=0 then s.2+(Bb.getD f []).getD r 0 else s.1,s.2+(Ks.getD f Ay).many)) t).1
 |[],s,t,_,h1,_=>h1
 | f::fs,s,t,hf,h1,h2=>by
  simp only[List.foldl_cons];refine Zht hr hO _ _ _ (λx hx=>hf x (by simp[hx])) ?_ ?_
  ·grind [Ap,Vp,jx]
  show s.off+_=_;rw[h2]
def Zhn{a d c n b}(j:∀r,r<n->∀f,f<a.length->(d.getD f []).getD r false=sO a c f r)(i:∀f∈b,f<a.length)(h:(It a d c n b).length=n):He a c b n=It a d c n b:=by apply List.ext_getElem;rw[h];simp[He];intro r l k;have g:r<n:=o_;have:=Zht g (j r g) b ⟨List.replicate n 0,[],1⟩ (0,1) i w_ rfl;simp only[He,List.getElem_map,List.getElem_range];have e:(It a d c n b)[r]=(It a d c n b).getD r 0:=w_;rw[e];exact this.symm
def ZcP{Ks Bb r}{fs:List Nat}(hB:∀f∈fs,(Bb.getD f []).getD r 0<=5000/\(Ks.getD f Ay).many<=5000):∀k,k<=fs.length->(mz Ks Bb r (fs.take k)).1<=5000*k+5001/\(mz Ks Bb r (fs.take k)).2<=5000*k+1
 |0,_=>by simp[mz]
 | k+1,hk=>by
  obtain⟨h1,h2⟩:=ZcP hB k o_
  grind [ZaL]
def ZbF Z db n c a b j m w (h:MkV w Z db n j m)(Y:NuV w a b)(Q:∀f∈b,f<j.length)(hn:n<=200)(hl:b.length<=1000)(hB:∀f∈b,∀r,(m.getD f []).getD r 0<=5000/\(j.getD f Ay).many<=5000):C_ 242 #[.pointer (some ⟨Z,0,none⟩),.slice a b.length c] w λe w'=>∃v,e=.returned v/\Ag w' w.heap.size v (Av (He j m b n))/\Below w.heap.size w w':=by
 have HM:=x1_ h;have HF:=x2_ Y Q;have a5:=x1_ (λr k hk=>ZcP (λf Y=>hB f Y r) k hk);have a8:=x1_ hB;have m0:=h.m0;have d0:=h.dk.d0;have U:Hid (Av (He j m b n)=Eu (λr=>(mz j m r b).1) n n):=(by show _=_;rw[Nt];simp[Av,He]);obtain⟨l,J⟩:=ey_ b.length;have HL:=x1_ J;rw[J] at hl ⊢;have a6:=Ko n o_;clear h Y Q J hB;go_enter Tryz.func242,Tryz.ntmps242;go_wp2_with fail
 go_loopw [6] (λt6 wr=>∃r:Nat,t6=.int .i64 r/\r<=n/\Hid (Ag wr w.heap.size (.slice (some ⟨w.heap.size,0,none⟩) n n) (Eu (λr=>(((mz j m r b).1:Nat):Int)) n r))/\Hid (E_ w wr)) (λt6 _=>n-(intOf t6).toNat)
 case atStart=>
  refine⟨0,rfl,qg_,?_,?_⟩;rw[Nu];exact Kn n w _ o_ qa_;exact bA_
 case round=>
  clear a6;obtain⟨r,rfl,aD,x,C⟩:=hrel;have H:=Ac C m0;have a1:=Ac C d0
  by_cases hin:r<n
  ·have g1 :r<(n:Int):=o_;have g0:0<=(r:Int):=o_;have I:Hid (n=(Eu (λr=>(mz j m r b).1) n r).length):=(Mz _ o_).symm;have V:=x1_ (Rk (λr=>(((mz j m r b).1:Nat):Int)) hin);have HZ:Hid ((Eu (λr=>(mz j m r b).1) n r).set r 0=Eu (λr=>(mz j m r b).1) n r):=(by show _=_;unfold Eu;rw[show n-r=(n-r-1)+1 by omega,List.replicate_succ,List.set_append_right _ _ s_];simp);generalize Eu (λr=>(((mz j m r b).1:Nat):Int)) n r=out at *;go_wp2_with fail
   rename_i wold;go_loopw [7,8] (λt7 t8 wr=>∃k:Nat,t8=.int .i64 k/\k<=l/\t7=.int .i64 ((mz j m r (b.take k)).2:Nat)/\Hid (Ag wr w.heap.size (.slice (some ⟨w.heap.size,0,none⟩) n n) (out.set r ((mz j m r (b.take k)).1:Nat)))/\Hid (E_ w wr)) (λ_ t8 _=>l-(intOf t8).toNat)
   case atStart=>exact⟨0,rfl,qg_,rfl,by have:=x.out;rw[<- HZ] at this;exact this,C⟩
   case round=>
    clear x C H a1;obtain⟨k,rfl,hk,rfl,x,C⟩:=hrel
    by_cases hkl:k<l
    ·have E:k<b.length:=(by rw[HL];exact hkl);have R:=C.out;obtain⟨q,rfl,c0⟩:=HF.1 k E;have B:=HF.2 _ (Nb E);have aB:=a8 _ (Nb E) r;have S:=Ac R c0;have F:=HM.below R;obtain⟨o0,o1⟩:=x.cellK (k:=r) (by rw[List.length_set];exact I) hin;rw[Qc,List.getElem?_set_self (by rw[<- I];exact hin)] at o0;simp only[Option.getD_some] at o0;have aA:=a5 r k o_;have HT:=x1_ (ZaL (Ks:=j) (Bb:=m) (r:=r) E);obtain⟨v1,e1,h1⟩:=F.m1;obtain⟨qb,cq,ag,cg,rfl,b1,b2⟩:=h1.2 (b.getD k 0) (by rw[F.len];exact B);have L:=F.rows _ (by rw[F.len];exact B);rw[L] at b1;obtain⟨g,rfl,b3⟩:=b2 r (by rw[L];exact hin);obtain⟨T,cf,ab,cb,aw,cw,d1,f0,f1,f2,f3⟩:=HM.dk.feat B;have D:=F.dk.one _ B
     have M:=Nk ab aw (j.getD (b.getD k 0) Ay).e.bs.length (j.getD (b.getD k 0) Ay).e.ww.length cb cw (j.getD (b.getD k 0) Ay).e.wd (j.getD (b.getD k 0) Ay).d
     have a0:Hid (∀W:World,C_ 189 #[.agg #[.bool (j.getD (b.getD k 0) Ay).e.wd,.slice ab (j.getD (b.getD k 0) Ay).e.bs.length cb,.slice aw (j.getD (b.getD k 0) Ay).e.ww.length cw,.int .i64 (j.getD (b.getD k 0) Ay).d]] W λe w'=>e=.returned (.int .i64 (j.getD (b.getD k 0) Ay).many)/\E_ W w'):=λW=>by rw[<- D.many];exact M W D.1 D.2.1
     have O:=x1_ F;have aC:=F.len;have H:=F.m0;have aE:Hid (∀W,_->E_ w W):=λ_=>id;clear M D F h1 L b2;generalize (j.getD (b.getD k 0) Ay).many=mn at *;generalize (j.getD (b.getD k 0) Ay).e.wd=wd at *;generalize (j.getD (b.getD k 0) Ay).e.bs.length=nb at *;generalize (j.getD (b.getD k 0) Ay).e.ww.length=nw at *;generalize (j.getD (b.getD k 0) Ay).d=dd at *;generalize (m.getD (b.getD k 0) []).getD r 0=bx at *;generalize b.getD k 0=f at *;generalize mz j m r (b.take k)=vo at *;obtain⟨v,u⟩:=vo;simp only at *;have g2:k<(l:Int):=o_;have g3:0<=(k:Int):=o_;have g4:0<=(f:Int):=o_;have g5:f<(j.length:Int):=o_;have g6:f<(m.length:Int):=o_;have q1:_=(u:Int)+(mn:_):=Cb o_ o_
     have q2:_=(u:Int)+(bx:_):=Cb o_ o_;go_wp2_with fail
     refine(O.stands B hin).mono ?_;rintro e w1 ⟨rfl,X,a3⟩;subst a3;obtain⟨y,A⟩:=ey_ (sO j m f r);rw[A];have N:Hid (mz j m r (b.take (k+1))=(if y=true/\v=0 then u+bx else v,u+mn)):=(by rw[<- A];exact HT);clear A HT O;go_upto_region 10 with fail;go_cut [49] (λt wx=>t=.bool (decide (y=true/\v=0))/\wx=wr.drewN X)
     case first=>
      cases y<;>
       (go_wp2
        go_meet
        exact⟨by first|(simp;done)|(simp;rw[Bool.eq_iff_iff];simp),rfl⟩)
     case rest=>
     obtain⟨rfl,hw⟩:=hcut;obtain rfl:=hw.symm;clear hw;go_upto_if 49 with fail
     go_cut [9] (λ_ wx=>Hid (Ag wx w.heap.size (.slice (some ⟨w.heap.size,0,none⟩) n n) (out.set r ((if y=true/\v=0 then u+bx else v:Nat))))/\Hid (E_ w wx))
     case first=>
      by_cases hc:y=true/\v=0
      ·rw[decide_eq_true hc];have HC:=x1_ hc;have G:Hid (Below _ w (wr.drewN X)):=below_drewN R _;have HP:Hid (∀z,Ag _ _ _ ((out.set r _).set r z)):=λz=>(Ag.put (x.below ((below_drewN bz_ X).drew)) (by rw[List.length_set];exact I) z).1;clear hc x;go_upto_region 11 with fail;refine Al (λw'=>w'.cell? (A_ Z 1)=some (L_ qb m.length cq)/\w'.cell? (A_ q k)=some (I_ (f:Nat))/\w'.cell? (A_ qb f)=some (L_ g n cg)/\w'.cell? (A_ g r)=some (I_ (bx:Nat))) 18 k_ ⟨e1,S,b1,b3⟩ (λhHeld=>?_);refine Ah 0 ?_;refine Ah 1 ?_;refine Ah 2 ?_;refine Ah 3 ?_;refine Ah 4 ?_;refine Ah 5 ?_;refine Ah 6 ?_;refine Ah 7 ?_;refine Ah 8 ?_;refine Ah 9 ?_;refine Ah 10 ?_;refine Ah 11 ?_;refine Ah 12 ?_;refine Ah 13 ?_;refine Ah 14 ?_;refine Ah 15 ?_;refine Ah 16 ?_;refine Ah 17 ?_
       refine Ai (i:=18) k_ rfl k_ (λKK hK=>?_);go_simp;refine hK _ _ ?_;clear hK KK;try simp only[Act.put,tA,tB,tC]
       refine Ak k_ ?_ _;go_wp2;go_meet
       refine⟨?_,G.out.drew.setCell qa_ _⟩;rw[if_pos HC.out];have:=HP ((u+bx:Nat):Int);rw[List.set_set] at this;exact this
      rw[decide_eq_false hc];have HC:=x1_ hc;have G:Hid (Ag (wr.drewN X) _ _ _/\Below _ w (wr.drewN X)):=⟨x.below (below_drewN bz_ _),below_drewN R _⟩;clear hc x;go_wp2;go_meet
      exact⟨by rw[if_neg HC];exact G.1,G.2⟩
     case rest=>
     obtain⟨a7,a4⟩:=hcut;have s:=a4.out;have x0:=Ac s m0;have x1:=Ac s d1;have x2:=Ac s c0;have y0:=Ac s f0;have y1:=Ac s f1;have y2:=Ac s f2;have y3:=Ac s f3;clear H S d1 c0 f0 f1 f2 f3 e1 b1 b3 o0 o1 x C R;go_upto_region 12 with fail
     go_region_held3 (λw'=>w'.cell? (A_ Z 0)=some (P_ db)/\w'.cell? (A_ db 1)=some (L_ T j.length cf)/\w'.cell? (A_ q k)=some (I_ (f:Nat))/\w'.cell? (A_ T (f*4))=some (.bool wd)/\w'.cell? (A_ T (f*4+1))=some (.slice ab nb cb)/\w'.cell? (A_ T (f*4+2))=some (.slice aw nw cw)/\w'.cell? (A_ T (f*4+3))=some (I_ (dd:Nat))) (first|exact⟨x0,x1,x2,y0,y1,y2,y3⟩|exact⟨Ac o x0,Ac o x1,Ac o x2,Ac o y0,Ac o y1,Ac o y2,Ac o y3⟩) (first|(go_at_call 189;refine(a0 _).mono ?_;rintro e w2 ⟨rfl,a2⟩;have o:Below wc.heap.size _ _:=bz_.drew.trans a2))
     go_wp2;go_roundw;case rel=>exact⟨k+1,g_,o_,by rw[N];go_num,by rw[N];exact a7.below o,s.trans (o.mono s.size)⟩
     case measure=>exact z_
    have g2:¬k<(l:Int):=o_;have P:b.take k=_:=List.take_of_length_le (by have:=HL.out;omega);rw[P] at x;rw[P,V] at *;go_wp2;go_roundw;case rel=>exact⟨r+1,g_,o_,x,C⟩
    case measure=>exact z_
  have g1:¬r<(n:Int):=o_;obtain rfl:r=n:=o_;have a9:Hid (Ag wr w.heap.size (L_ w.heap.size r r) (Av (He j m b r))):=(by rw[U];exact x);clear x;go_wp2;go_ret;exact⟨_,rfl,a9,C⟩
def GUn(Os:List (List Bool))(n:Nat)(G:GS):Prop:=G.out.length=n/\∀r,r<n->G.out.getD r false=G.fs.any (λf=>(Os.getD f []).getD r false)
def Zlt{a b}(h:a.length=b.length){k}(c:k<b.length):(orL a b).getD k false=(a.getD k false||b.getD k false):=by grind [orL]
def GUn.add{a n f b G}(h:GUn a n G)(c:(a.getD f []).length=n):GUn a n (Te G f (a.getD f []) b):=by refine⟨?_,λr hr=>?_⟩;show(orL G.out (a.getD f [])).length=n;rw[Kc (by rw[h.1,c])];exact h.1;show(orL G.out (a.getD f [])).getD r false=(G.fs++[f]).any _;rw[Zlt (by rw[h.1,c]) (by rw[c];exact hr),h.2 r hr,List.any_append];simp
def GUn.new Os n:GUn Os n (Im n):=⟨by simp[Im],λr hr=>by simp[Im,List.getD,hr]⟩
def Zdd{Ks Os n budget f Gs}(h:∀G∈Gs,GUn Os n G)(hO:(Os.getD f []).length=n):∀G∈Bc Ks Os n budget Gs f,GUn Os n G:=λG hG=>by
 unfold Bc at hG;split at hG
 ·rename_i hi
  rcases List.mem_or_eq_of_mem_set hG with hin|e
  exact h G hin;rw[e,List.getD,Qd hi];exact(h _ (Qf _)).add hO
 rcases List.mem_append.1 hG with hin|e
 exact h G hin;simp only[List.mem_singleton] at e;rw[e];exact(GUn.new _ n).add hO
def ZhW{Ks Os n budget m}(hO:∀i,i<m+1->(Os.getD i []).length=n):∀(fs:List Nat) Gs,(∀f∈fs,f<m+1)->(∀G∈Gs,GUn Os n G)->∀G∈fs.foldl (Bc Ks Os n budget) Gs,GUn Os n G
 |[],Gs,_,h=>h
 |f::fs,Gs,hf,h=>ZhW hO fs _ (λx hx=>hf x (by simp[hx])) (Zdd h (hO f (hf f s_)))
def Yn{a b n}(e:a.length=n)(c:b.length=n):Hc a b=(List.range n).map (λr=>a.getD r false&&b.getD r false):=by
 apply List.ext_getElem;simp[Hc,e,c];intro i g d;simp only[List.getElem_map,List.getElem_range]
 have f:i<n:=by simpa using d
 have:=fi (a:=a) (b:=b) o_ (k:=i) o_
 grind
def ZcN{Ks b Bb n f G}(h:GUn b n G)(d:(b.getD f []).length=n)(e:∀r,r<n->∀g,g<Ks.length->(b.getD g []).getD r false=sO Ks Bb g r)(c:f<Ks.length)(i:∀g∈G.fs,g<Ks.length):Et G.out (b.getD f [])=clF Ks Bb G.fs f n:=by
 unfold Et clF Dj;rw[Yn h.1 d,List.count_eq_countP,List.countP_map];refine List.countP_congr λr hr=>?_
 have a:r<n:=by simpa using hr
 simp only[Function.comp_apply,beq_true];rw[h.2 r a,e r a f c,Bool.and_comm]
 grind
def Nf(m:Nat)(Ks:List KS)(Os:List (List Bool))(n budget k:Nat):List GS:=((Da m Os).take k).foldl (Bc Ks Os n budget) []
def ZfH{m c b n a k}(h:k<m+1):Nf m c b n a (k+1)=Bc c b n a (Nf m c b n a k) ((Da m b).getD k 0):=by
 have d:k<(Da m b).length:=(by rw[Jl];exact h);unfold Nf
 grind [Qi]
def ZhV m c b n a:Nf m c b n a (m+1)=Ha m c b n a:=by grind [Nf,Ha,Jl]
def Zlv{m a k b}(y:k<m+1)(s:b<m+1)(q:b ∉ (Da m a).take k)(f:∀j,j<m+1->j ∉ (Da m a).take k->De a j<=De a b/\(j<b->De a j<De a b)):b=(Da m a).getD k 0:=by
 have c:=Xl m a;have l:=c.nodup_iff.2 List.nodup_range;have g:=Jl m a;have r:k<(Da m a).length:=o_
 have n:∀i _,(Da m a).getD i 0=(Da m a)[i]:=λi h=>w_
 have d:=c.mem_iff.2 (by simpa using s);obtain⟨p,o,u⟩:=List.getElem_of_mem d;have w:k<=p:=by grind [List.mem_iff_getElem]
 by_cases e:k=p
 ·grind
 have t:=ZfU m a (i:=k) (j:=p) o_ o_;rw[n p o,u,n k r] at t;have x:(Da m a)[k]<m+1:=w_
 have v:(Da m a)[k] ∉ (Da m a).take k:=λhin=>by grind [List.getElem_of_mem,List.getElem_inj]
 grind
def Wr(m:Nat)(Os:List (List Bool))(k:Nat):List Bool:=(List.range (m+1)).map (λi=>decide (i∈(Da m Os).take k))
def ZjF{m a k i}(h:i<m+1):(Wr m a k).getD i false=decide (i∈(Da m a).take k):=by simp[Wr,List.getD,h]
def xv m a k:(Wr m a k).length=m+1:=by simp[Wr]
def Zhv m a:Wr m a 0=List.replicate (m+1) false:=by apply List.ext_getElem;simp[Wr];intro i c b;simp[Wr]
def ZjG{m a k}(h:k<m+1):(Wr m a k).set ((Da m a).getD k 0) true=Wr m a (k+1):=by
 have b:k<(Da m a).length:=(by rw[Jl];exact h);have e:(Da m a).getD k 0=(Da m a)[k]:=w_;rw[e];apply List.ext_getElem;simp[Wr];intro i c d;rw[List.getElem_set];simp only[Wr,List.getElem_map,List.getElem_range,Qi b,List.mem_append,List.mem_singleton]
 grind
def Dp(Gs:List GS):List (List Nat):=Gs.map GS.fs
def Ti(Gs:List GS):List Nat:=Gs.map GS.conf
def ZlM(w:World)(db n:Nat)(vF vC vX:Value)(Gs:List GS)(w':World):Prop:=∃vB bvs,Ty w' db n vF vB vC vX/\Mg w' w.heap.size vB bvs ((Dp Gs).map Av)/\Aa (λq=>q=db) w w'
def Jg(m:Nat)(Os:List (List Bool))(k i:Nat)(b:Int):Prop:=(b= -1/\∀j,j<i->j∈(Da m Os).take k)∨∃bn:Nat,b=bn/\bn<i/\bn ∉ (Da m Os).take k/\∀j,j<i->j ∉ (Da m Os).take k->De Os j<=De Os bn/\(j<bn->De Os j<De Os bn)
def Jg.same{m a k i b}(h:Jg m a k i b)(c:i∈(Da m a).take k):Jg m a k (i+1) b:=by
 rcases h with⟨e,h⟩|⟨bn,e,h1,h2,h3⟩
 ·refine .inl ⟨e,λj hj=>?_⟩
  grind
 refine .inr ⟨bn,e,o_,h2,λj hj hn=>?_⟩
 grind
def Jg.keep{m b}{k i a:Nat}(h:Jg m b k i a)(c:¬De b a<De b i):Jg m b k (i+1) a:=by
 rcases h with⟨e,_⟩|⟨b2,e,h1,h2,h3⟩
 omega;obtain rfl:a=b2:=o_;refine .inr ⟨a,rfl,o_,h2,λj hj hn=>?_⟩
 grind
def Jg.take{m a k i b}(h:Jg m a k i b)(c:i ∉ (Da m a).take k)(d:∀bn:Nat,b=bn->De a bn<De a i):Jg m a k (i+1) i:=by
 refine .inr ⟨i,rfl,o_,c,λj hj hn=>?_⟩
 by_cases h9:j=i
 ·grind
 rcases h with⟨_,h⟩|⟨bn,e,h1,h2,h3⟩
 ·grind
 grind
def Jg.end_{m a k b}(d:k<m+1)(h:Jg m a k (m+1) b):b=((Da m a).getD k 0:Nat)/\(Da m a).getD k 0<m+1:=by
 have g:k<(Da m a).length:=(by rw[Jl];exact d);have f:(Da m a).getD k 0=(Da m a)[k]:=w_;have c:(Da m a).getD k 0<m+1:=(by rw[f];exact di m a _ (Qf g));refine⟨?_,c⟩
 rcases h with⟨_,h⟩|⟨bn,e,h1,h2,h3⟩
 ·grind [List.getElem_of_mem,List.getElem_inj,Xl]
 rw[e,<- Zlv d h1 h2 h3]
def ZeF{Ks Os n budget m}(hO:∀i,i<m+1->(Os.getD i []).length=n)(hm:∀i,i<m+1->(Ks.getD i Ay).many<=40)(hn:n<=200)(hb:budget<=20):∀(fs:List Nat) k Gs,(∀f∈fs,f<m+1)->np n k Gs->np n (k+fs.length) (fs.foldl (Bc Ks Os n budget) Gs)
 |[],k,Gs,_,h=>h
 | f::fs,k,Gs,hf,h=>by
  have hf0:=hf f s_;have:=ZeF hO hm hn hb fs (k+1) _ (λx hx=>hf x (by simp[hx])) (h.step (Ks:=Ks) (Os:=Os) (budget:=budget) (f:=f) (hO f hf0) hn hb w_)
  grind
def Zhq{n L}(h:L.length=n):Et (Im n).out L=0:=by
 unfold Et Dj;rw[Yn (n:=n) (by simp[Im]) h,List.count_eq_zero]
 grind [Im]
def ZcB{p:Prop}(h:p:=by
 clear hd;go_upto_region 9 with fail;go_quiet (fail);go_wp2;go_roundw;case rel=>exact⟨i+1,_,_,g_,rfl,o_,HN,by first|rfl|simp⟩
 case measure=>exact z_):p:=h
def Ziw(P mb y n m c:Nat) J N I vb vo aW aU s Bb o w (h:MkX w P mb y n J Cz N I vb vo aW aU s Bb ((List.range (m+1)).map (De o)))(hK:s.length=m+1)(hn:n<=200)(hm:m+1<=4)(d9:c<=20)(aJ:∀i,i<m+1->(s.getD i Ay).many<=40)(aL:∀i,i<m+1->(o.getD i []).length=n)(hO:∀r,r<n->∀g,g<s.length->(o.getD g []).getD r false=sO s Bb g r):C_ 241 #[.pointer (some ⟨mb,0,none⟩),.int .i64 c] w λe w'=>e=.returned (.tuple #[])/\ZlM w y n J N I (Ha m s o n c) w':=by
 have HM:Hid (MkX w P mb y n J Cz N I vb vo aW aU s Bb ((List.range (m+1)).map (De o))):=h;have HO:Hid ((∀i,i<m+1->(o.getD i []).length=n)/\∀r,r<n->∀g,g<s.length->(o.getD g []).getD r false=sO s Bb g r):=⟨aL,hO⟩
 have c4:Hid (∀k,k<=m+1->(∀G∈Nf m s o n c k,nh m n (m+1) s G/\GUn o n G/\G.conf<=400)/\(Nf m s o n c k).length<=k):=λk hk=>by have hf:∀f∈(Da m o).take k,f<m+1:=λf hf=>di m o f (List.mem_of_mem_take hf);have h1:=yq (budget:=c) aL aJ ((Da m o).take k) 0 [] hf s_;have h2:=ZhW (Ks:=s) (budget:=c) aL ((Da m o).take k) [] hf s_;rw[List.length_take,Jl,Nat.min_eq_left hk] at h1;have h3:=ZeF (budget:=c) aL aJ hn d9 ((Da m o).take k) 0 [] hf ⟨s_,s_⟩;refine⟨λG hG=>⟨?_,h2 G hG,(h3.each G hG).2.1⟩,by have:=h1.2;unfold Nf;simpa using this⟩;obtain⟨a1,a2,a3,a4,a5⟩:=h1.1 G hG;exact⟨a1,a2,a3,a4,o_⟩
 have d7:Hid (∀i,i<m+1->(s.getD i Ay).many<=40):=aJ;have HK:Hid (s.length=m+1):=hK;obtain⟨ao,co,cH⟩:=h.ou.shape;have cC:(Av ((List.range (m+1)).map (De o))).length=m+1:=(by simp[Av]);rw[cC] at cH;subst cH;have m2:=cR_ 2 h.blk;have bW:∀W:World,(Instr.makeSlice 101 (I_ (m+1:Nat)) (I_ (m+1:Nat))).run Tryz.prog W=.ok (L_ W.heap.size (m+1) (m+1)) (W.alloc (.cells (madeCells #[.bool false] (m+1)) 4)):=Tu (m+1) o_;obtain⟨M,hM⟩:=ex_ (m+1);rw[<- hM] at bW m2;have D:Hid (M=m+1):=hM;have dO:M<=4:=o_
 have dB:Hid (Tb w (w.alloc (.cells (madeCells #[.bool false] M) 4)) y n J Cz N I Cz (L_ w.heap.size M M) [] (Dp (Nf m s o n c 0)) (Ti (Nf m s o n c 0)) (Wr m o 0)):=(by have hb:E_ w (w.alloc (.cells (madeCells #[.bool false] M) 4)):=bA_;refine⟨Aa.of_below hb,(hb.block _ h.ds.lt).trans h.ds,Mg.nil _ _,Ag.nil _ _,λi hi=>by simp[Nf,Dp] at hi,?_,h.ds.lt⟩;rw[Zhv,<- hM];exact Ts M w w.heap.size o_ qa_);clear h hK aL hO aJ cC hM;go_enter Tryz.func241,Tryz.ntmps241;go_wp2_with fail
 go_loopw [5,6] (λt5 t6 wr=>∃(k:Nat) (vB:Value) (aE:List Value),t6=.int .i64 k/\k<=M/\Hid (Tb w wr y n J vB N I t5 (.slice (some ⟨w.heap.size,0,none⟩) M M) aE (Dp (Nf m s o n c k)) (Ti (Nf m s o n c k)) (Wr m o k))) (λ_ t6 _=>M-(intOf t6).toNat)
 case atStart=>grind
 case round=>
  clear dB bW;obtain⟨k,vB,aE,rfl,hk,A⟩:=hrel;have F:=HM.dbw A.tch A.ds;have x2:wr.cell? (A_ mb 2)=some (.slice ao M co):=(by have:=cq_ 2 _ 331 (0,0) F.blk;rw[D];exact this);have dN:w.heap.size<=wr.heap.size:=A.tch.size
  by_cases hkM:k<M
  ·have bF:k<m+1:=(by have:=D.out;omega);have g1:k<(M:Int):=o_
   have bE:Hid (∀i,i<M->∃q,ao=some ⟨q,0,none⟩/\wr.cell? (A_ q i)=some (I_ (De o i:Nat))):=λi hi=>by have ho:NuV wr ao ((List.range (m+1)).map (De o)):=Ag.nums (n:=m+1) F.ou s_;obtain⟨q,e,hc⟩:=ho i (by have:=D.out;simp;omega);refine⟨q,e,?_⟩;rw[hc];simp[List.getD,show i<m+1 by have:=D.out;omega]
   have c5:Hid (∀i,i<M->wr.cell? (A_ w.heap.size i)=some (.bool (decide (i∈(Da m o).take k)))):=λi hi=>by obtain⟨q,e,_,_,hc,_⟩:=A.dn.atK (by rw[xv];exact D.symm) hi;injection e with e;injection e with e;subst e;rw[ZjF (by have:=D.out;omega)] at hc;exact hc
   have a0:Hid (MkX wr P mb y n J vB N I vb (.slice ao (m+1) co) aW aU s Bb ((List.range (m+1)).map (De o))):=F;clear F;obtain⟨wo,cW⟩:=ex_ wr;subst cW;go_wp2_with fail
   go_loopw [7,8] (λt7 t8 wz=>∃(i d:Nat) (b:Int),t8=.int .i64 i/\t7=.int .i64 b/\i<=M/\Hid (Jg m o k i b)/\wz=wo.drewN d) (λ_ t8 _=>M-(intOf t8).toNat)
   case atStart=>exact⟨0,0,-1,rfl,rfl,qg_,.inl ⟨rfl,λj hj=>o_⟩,rfl⟩
   case round=>
    obtain⟨i,d,b,rfl,rfl,hi,HB,dC⟩:=hrel;subst dC
    by_cases hiM:i<M
    ·have g2:i<(M:Int):=o_;have g3:0<=(i:Int):=o_;have c0:=c5 i hiM;obtain⟨q,rfl,c1⟩:=bE i hiM
     by_cases hd:i∈(Da m o).take k
     ·have HN:Hid (Jg m o k (i+1) b):=HB.same hd;rw[decide_eq_true hd] at c0;clear hd;go_upto_region 9 with fail;go_quiet (fail);go_wp2;go_roundw;case rel=>exact⟨i+1,_,b,g_,rfl,o_,HN,by first|rfl|simp⟩
      case measure=>exact z_
     rw[decide_eq_false hd] at c0
     have dD:b= -1∨∃R:Nat,b=R/\R<i:=by
      rcases HB.out with⟨e,_⟩|⟨R,e,h1,_⟩
      exact .inl e;exact .inr ⟨R,e,h1⟩
     rcases dD with rfl|⟨R,rfl,bK⟩
     have HN:Hid (Jg m o k (i+1) i):=HB.take hd (λR e=>o_);have e1:decide ((-1:Int)<0)=true:=d_;exact ZcB
     obtain⟨q2,e2,c2⟩:=bE R o_;injection e2 with e2;injection e2 with e2;subst e2;have e1:decide ((R:Int)<0)=false:=decide_eq_false o_;have g4:0<=(R:Int):=o_;have g5:R<(M:Int):=o_
     by_cases hc:De o R<De o i
     have HN:Hid (Jg m o k (i+1) i):=HB.take hd (λb2 e=>by rw[show b2=R by omega];exact hc);have e3:decide ((De o R:Int)<(De o i:Int))=true:=decide_eq_true o_;generalize De o R=y1 at *;generalize De o i=y2 at *;exact ZcB;have HN:Hid (Jg m o k (i+1) R):=HB.keep hc;have e3:decide ((De o R:Int)<(De o i:Int))=false:=decide_eq_false o_;generalize De o R=y1 at *;generalize De o i=y2 at *;exact ZcB
    have g2:¬i<(M:Int):=o_;obtain⟨cT,Z⟩:=Jg.end_ bF (by have:=HB.out;rw[show i=m+1 by have:=D.out;omega] at this;exact this);subst cT;have aN:Hid (Nf m s o n c (k+1)=Bc s o n c (Nf m s o n c k) ((Da m o).getD k 0)/\(Wr m o k).set ((Da m o).getD k 0) true=Wr m o (k+1)):=⟨ZfH bF,ZjG bF⟩;have bT:=c4 k o_;have bA:Hid _:=bT;generalize (Da m o).getD k 0=f at *;clear HB bT;obtain⟨H,cJ⟩:=ey_ (Nf m s o n c k);rw[cJ] at A aN bA;clear cJ;obtain⟨aB,O,cE⟩:=A.bu.shape;obtain⟨ac,cc,bR⟩:=A.cf.shape;have bY:((Dp H).map Av).length=H.length:=(by simp[Dp]);have cI:(Av (Ti H)).length=H.length:=(by simp[Ti,Av]);rw[bY] at cE;rw[cI] at bR;subst cE bR
    have cX:f<M:=(by have:=D.out;omega);obtain⟨q0,e0,_,_,c0,cS⟩:=A.dn.atK (by rw[xv];exact D.symm) cX;injection e0 with e0;injection e0 with e0;subst e0;have cM:Hid (Tb w ((wo.drewN d).setCell (A_ w.heap.size f) (.bool true)) y n J (.slice aB H.length O) N I (.slice ac H.length cc) (L_ w.heap.size M M) aE (Dp H) (Ti H) (Wr m o (k+1))):=(by rw[<- aN.2];exact(A.below (below_drewN bz_ d)).done (by rw[xv];exact D.symm));have dP:H.length<=4:=(by have:=bA.2;omega);have g3:0<=(f:Int):=o_;have g4:f<(M:Int):=o_;generalize (Wr m o k).getD f false=old at *;clear A c5 bE a0 bY cI;go_wp2_with fail
    go_loopw [9,10] (λt9 t10 wz=>∃(b:Nat) (pt:Bool) (v:List Value) (l:List GS),t10=.int .i64 b/\t9=.bool pt/\b<=H.length/\Hid (Tb w wz y n J (.slice aB H.length O) N I (.slice ac H.length cc) (.slice (some ⟨w.heap.size,0,none⟩) M M) v (Dp l) (Ti l) (Wr m o (k+1)))/\Hid ((pt=false->l=H/\∀j,j<b->Fd (o.getD f []) (s.getD f Ay).many c (H.getD j Fq)=false)/\(pt=true->l=Bc s o n c H f))) (λ_ t10 _=>H.length-(intOf t10).toNat)
    case atStart=>exact⟨0,false,aE,H,rfl,rfl,qg_,cM,⟨λ_=>⟨rfl,λj hj=>o_⟩,λe=>by cases e⟩⟩
    case round=>
     clear cM c0 cS x2;obtain⟨b,pt,v,l,rfl,rfl,hb,A,HQ⟩:=hrel;have F:=HM.dbw A.tch A.ds;have y0:=cR_ 0 F.blk;have y2:=cR_ 2 F.ds
     cases pt with
     | true=>
      have cO:Hid (l=Bc s o n c H f):=HQ.2 rfl;have HF:Hid (Tb w wr y n J (.slice aB H.length O) N I (.slice ac H.length cc) (L_ w.heap.size M M) v (Dp (Nf m s o n c (k+1))) (Ti (Nf m s o n c (k+1))) (Wr m o (k+1))):=(by rw[aN.1,<- cO];exact A);clear F A HQ
      by_cases hbl:b<H.length
      ·have g5:b<(H.length:Int):=o_;go_wp2;go_roundw;case rel=>exact⟨k+1,_,v,g_,o_,HF⟩
       case measure=>exact z_
      have g5:¬b<(H.length:Int):=o_;go_wp2;go_roundw;case rel=>exact⟨k+1,_,v,g_,o_,HF⟩
      case measure=>exact z_
     | false =>
      obtain⟨cZ,bU⟩:=HQ.1 rfl;subst cZ;have bI:Hid (∀j,j<b->Fd (o.getD f []) (s.getD f Ay).many c (l.getD j Fq)=false):=bU;have a0:Hid (MkX wr P mb y n J (.slice aB l.length O) N I vb (.slice ao (m+1) co) aW aU s Bb ((List.range (m+1)).map (De o))):=F;have aS:f<s.length:=(by rw[HK];exact Z);clear bU F HQ
      by_cases hbl:b<l.length
      ·have aZ:b<((Dp l).map Av).length:=(by simp[Dp];exact hbl);obtain⟨X,dL,a,kk,e,cb,fz,ev,_,_⟩:=A.bu.at aZ;have cL:((Dp l).map Av).getD b []=Av (l.getD b Fq).fs:=(by simp[Dp,List.getD,hbl]);have hE:=A.bu.each b aZ;rw[ev] at hE;rw[cL,Aw] at cb hE ev;rw[show((Dp l).map Av).length=l.length by simp[Dp]] at e;injection e with e1 _ e3;subst e1 e3;have b6:l.getD b Fq∈l:=(by simp[List.getD,hbl]);obtain⟨C,bP,dF⟩:=bA.1 _ b6;have aF:=ZcN (Ks:=s) (Bb:=Bb) bP (HO.1 f Z) HO.2 aS (λg hg=>by rw[HK];exact C.fs g hg);have bL:NuV wr a (l.getD b Fq).fs:=hE.nums rfl
       have aI:∀g∈(l.getD b Fq).fs,g<s.length:=λg hg=>by rw[HK];exact C.fs g hg
       have cD:Hid (C_ 291 #[.pointer (some ⟨mb,0,none⟩),.slice a (l.getD b Fq).fs.length kk,.int .i64 f] wr λe w'=>e=.returned (.int .i64 (Et (l.getD b Fq).out (o.getD f []):Nat))/\∃m,w'=wr.drewN m):=by rw[aF];exact Zdv mb y n kk f a _ s Bb wr a0.view bL aS aI o_ (by have:=C.len;omega)
       have bQ:Hid (∀W,E_ wr W->C_ 137 #[.pointer (some ⟨y,0,none⟩),.slice a (l.getD b Fq).fs.length kk] W λe w'=>e=.returned (.int .i64 (l.getD b Fq).bins)/\E_ W w'):=λW hW=>by rw[C.sum];exact uj y n kk a _ s W (a0.view.dk.below hW) (bL.below hW) aI (by have:=C.len;omega)
       obtain⟨qf,cf,ab,bM,aw,cw,d1,f0,f1,f2,f3⟩:=a0.view.dk.feat aS;have aV:=a0.one _ aS;have bK:=Nk ab aw (s.getD f Ay).e.bs.length (s.getD f Ay).e.ww.length bM cw (s.getD f Ay).e.wd (s.getD f Ay).d
       have c7:Hid (∀W:World,C_ 189 #[.agg #[.bool (s.getD f Ay).e.wd,.slice ab (s.getD f Ay).e.bs.length bM,.slice aw (s.getD f Ay).e.ww.length cw,.int .i64 (s.getD f Ay).d]] W λe w'=>e=.returned (.int .i64 (s.getD f Ay).many)/\E_ W w'):=λW=>by rw[<- aV.many];exact bK W aV.1 aV.2.1
       obtain⟨gc,e5,_,_,cv,dA⟩:=A.cf.atK (by simp[Ti,Av]) hbl;subst e5;rw[Cv,show(Ti l).getD b 0=(l.getD b Fq).conf by simp[Ti,List.getD,hbl]] at cv;have aJ:=d7 f Z;have dT:=C.bins;have dG:Et (l.getD b Fq).out (o.getD f [])<=200:=(by have:=ZaJ (a:=(l.getD b Fq).out) (b:=o.getD f []) (by rw[bP.1,HO.1 f Z]);rw[HO.1 f Z] at this;omega);have dE:Hid (Fd (o.getD f []) (s.getD f Ay).many c (l.getD b Fq)=(decide ((l.getD b Fq).conf+Et (l.getD b Fq).out (o.getD f [])<=c)&&decide ((l.getD b Fq).bins+(s.getD f Ay).many<=40))):=rfl;have dI:=C.len;clear bK aV aF cL bP C bL aI hE b6;generalize hcn:Et (l.getD b Fq).out (o.getD f [])=cn at *;generalize hGb:l.getD b Fq=G at *
       have cV:Hid (Et G.out (o.getD f [])=cn):=hcn;clear hcn;have a8:Hid (l.getD b Fq=G):=hGb;clear hGb;generalize hgf:G.fs.length=fl at *;generalize G.bins=bi at *;generalize hgc:G.conf=cf0 at *;generalize hme:(s.getD f Ay).many=mn at *;have cR:Hid ((s.getD f Ay).many=mn):=hme;clear hme;generalize (s.getD f Ay).e.wd=wd at *;generalize (s.getD f Ay).e.bs.length=nb at *;generalize (s.getD f Ay).e.ww.length=nw at *;generalize (s.getD f Ay).d=dd at *;have aP:Hid (G.fs.length=fl/\G.conf=cf0):=⟨hgf,hgc⟩;clear hgf hgc;have g5:b<(l.length:Int):=o_;have g6:0<=(b:Int):=o_;have g7:f<(s.length:Int):=o_;go_wp2_with fail
       refine cD.mono ?_;rintro e w1 ⟨rfl,m1,cQ⟩;subst cQ;have g8:IntKind.i64.wrap (bi+mn)=bi+mn:=Cb o_ o_;have g9:IntKind.i64.wrap (cn+cf0)=cn+cf0:=Cb o_ o_;have dU:IntKind.i64.wrap (cf0+cn)=cf0+cn:=Cb o_ o_;go_upto_region 17 with fail
       go_region_held3 (λw'=>w'.cell? (A_ mb 0)=some (P_ y)/\w'.cell? (A_ y 1)=some (L_ qf s.length cf)/\w'.cell? (A_ y 2)=some (L_ X l.length O)/\w'.cell? (A_ X b)=some (.slice a fl kk)/\w'.cell? (A_ qf (f*4))=some (.bool wd)/\w'.cell? (A_ qf (f*4+1))=some (.slice ab nb bM)/\w'.cell? (A_ qf (f*4+2))=some (.slice aw nw cw)/\w'.cell? (A_ qf (f*4+3))=some (I_ (dd:Nat))) (first|exact⟨y0,d1,y2,cb,f0,f1,f2,f3⟩|exact⟨Ac B y0,Ac B d1,Ac B y2,Ac B cb,Ac B f0,Ac B f1,Ac B f2,Ac B f3⟩|exact⟨Ac E y0,Ac E d1,Ac E y2,Ac E cb,Ac E f0,Ac E f1,Ac E f2,Ac E f3⟩) (first|(go_at_call 137;refine(bQ _ ((below_drewN bz_ _).drew)).mono ?_;rintro e w2 ⟨rfl,cF⟩;have E:E_ wr w2:=((below_drewN bz_ _).drew).trans cF)|(go_at_call 189;refine(c7 _).mono ?_;rintro e w3 ⟨rfl,b3⟩;have B:E_ wr w3:=E.trans (b3.mono E.size)))
       have a9:Hid (Tb w w3 y n J (L_ X l.length O) N I (L_ gc l.length cc) (L_ w.heap.size M M) v (Dp l) (Ti l) (Wr m o (k+1))):=A.below B;have aM:=Ac B y0;have aO:=Ac B y2;have aT:=Ac B cb;have bV:=Ac B cv;have cG:=(a9.bu.at aZ);clear E B cF b3 y0 y2 cb cv d1 f0 f1 f2 f3 A cD bQ c7 fz dA;go_upto_region 18 with fail;go_cut [134] (λt wx=>t=.bool (decide (cf0+cn<=c)&&decide (bi+mn<=40))/\wx=w3)
       case first=>
        by_cases h1:cf0+cn<=c
        ·have h2:cn+cf0<=(c:Int):=o_
         by_cases h3:bi+mn<=40
         ·have h4:bi+(mn:Int)<=40:=o_;go_wp2;go_meet
          exact⟨by simp[h1,h3],rfl⟩
         have h4:¬bi+(mn:Int)<=40:=o_;go_wp2;go_meet
         exact⟨by simp[h3],rfl⟩
        have h2:¬cn+cf0<=(c:Int):=o_;go_wp2;go_meet
        exact⟨by simp[h1],rfl⟩
       case rest=>
       obtain⟨rfl,hw⟩:=hcut;obtain rfl:=hw.symm;clear hw;have aQ:Hid (Fd (o.getD f []) mn c (l.getD b Fq)=(decide (cf0+cn<=c)&&decide (bi+mn<=40))):=by rw[a8];exact dE
       cases hroom:(decide (cf0+cn<=c)&&decide (bi+mn<=40)) with
       | true=>
        rw[hroom] at aQ;clear hroom
        have V:Hid (Dp (Bc s o n c l f)=(Dp l).set b (G.fs++[f])/\Ti (Bc s o n c l f)=(Ti l).set b (cf0+cn)):=by
         have aC:l.findIdx (Fd (o.getD f []) mn c)=b:=by
          have hg:∀j hj,l.getD j Fq=l[j]:=λj hj=>by simp[List.getD,hj]
          rw[List.findIdx_eq hbl];exact⟨by rw[<- hg b hbl];exact aQ,λj hj=>by rw[<- hg j o_];exact bI j hj⟩
         unfold Bc;rw[cR,aC,if_pos hbl];refine⟨by unfold Dp;rw[List.map_set,a8];rfl,?_⟩;unfold Ti;rw[List.map_set,a8];show List.set _ _ (G.conf+Et G.out (o.getD f []))=_;rw[cV,aP.2]
        obtain⟨i0,aG,bO,bN,bD⟩:=info_parts Ss;have S:Hid (Tb w ((w3.alloc (.cells #[I_ f] 3)).drew) y n J (L_ X l.length O) N I (L_ gc l.length cc) (L_ w.heap.size M M) v (Dp l) (Ti l) (Wr m o (k+1))):=a9.below (bA_.drew);have dH:w.heap.size<=w3.heap.size:=a9.tch.size;clear cG;go_upto_region 19 with fail;refine Al (λw'=>w'.cell? (A_ mb 0)=some (P_ y)/\w'.cell? (A_ y 2)=some (L_ X l.length O)/\w'.cell? (A_ X b)=some (.slice a fl kk)) 22 k_ ⟨aM,aO,aT⟩ (λhHeld=>?_);refine Ah 0 ?_;refine Ah 1 ?_;refine Ah 2 ?_;refine Ah 3 ?_;refine Ah 4 ?_;refine Ah 5 ?_;refine Ah 6 ?_;refine Ah 7 ?_;refine Ah 8 ?_;refine Ah 9 ?_;refine Ah 10 ?_;refine Ah 11 ?_;refine Ah 12 ?_;refine Ah 13 ?_;refine Ah 14 ?_;refine Ah 15 ?_;refine Ah 16 ?_;refine Ah 17 ?_
        refine Ah 18 ?_;refine Af (i:=19) k_ rfl (λKK hK=>?_);go_simp;refine hK _ _ ⟨Ac bA_ aM,Ac bA_ aO,Ac bA_ aT⟩ (λhHeld=>?_);clear hK KK;try simp only[Act.put,tA,tB,tC]
        refine Af (i:=20) k_ rfl (λKK hK=>?_);have c8:Ag ((w3.alloc (.cells #[I_ f] 3)).drew) w.heap.size (.slice a fl kk) (Av G.fs):=(by have:=S.bu.each b aZ;rw[ev,show((Dp l).map Av).getD b []=Av (l.getD b Fq).fs by simp[Dp,List.getD,hbl],a8] at this;exact this);have aK:((w3.alloc (.cells #[I_ f] 3)).drew).ownsRow w.heap.size 3 1 (.slice a fl kk) fl ((Av G.fs).map (Value.int .i64)):=by have:=c8;unfold Ag at this;rw[Aw,aP.1] at this;exact this
        refine Az rfl (.tmp 152) (.tmp 154) 25 rfl w.heap.size 3 i0 (I_ 0) 1 8 Tryz.underlying25 aG bO bN bD rfl d_ (.slice a fl kk) fl ((Av G.fs).map (Value.int .i64)) j_ aK (A_ w3.heap.size 0) 1 1 [I_ (f:Nat)] j_ rfl ?_ ?_ d_ m_ o_ t_ ?_;exact Am w3 #[I_ (f:Nat)] 3;intro u hu;simp at hu;rw[hu];rfl;intro v6 U H6;obtain⟨r6,g6,d6,_,q6,p6,b9⟩:=H6;have c9:Ag U w.heap.size v6 (Av (G.fs++[f])):=by have:=Ag.more (zs:=Av G.fs) (x:=(f:Int)) (by rw[Aw,aP.1];exact r6);unfold Av at this ⊢;rw[List.map_append];exact this
        have bX:v6.ownBlock=(v.getD b Cz).ownBlock∨v6.ownBlock=some ((w3.alloc (.cells #[I_ f] 3)).drew).heap.size:=by
         rw[ev]
         rcases d6 with e|e
         exact .inl e;exact .inr e.1
        have b5:Tb w ((w3.alloc (.cells #[I_ f] 3)).drew) y n J (L_ X (Dp l).length O) N I (L_ gc l.length cc) (L_ w.heap.size M M) v (Dp l) (Ti l) (Wr m o (k+1)):=(by rw[show(Dp l).length=l.length by simp[Dp]];exact S);have T:Hid (Tb w (U.setCell (A_ X b) v6) y n J (L_ X l.length O) N I (L_ gc l.length cc) (L_ w.heap.size M M) (v.set b v6) ((Dp l).set b (G.fs++[f])) (Ti l) (Wr m o (k+1))):=(by have:=b5.grow (b:=b) (by simp[Dp];exact hbl) (by rw[ev];exact g6) c9 bX;rw[show(Dp l).length=l.length by simp[Dp]] at this;exact this);have Y:U.ownsRow w.heap.size 25 1 (L_ X l.length O) l.length v:=by have:=World.ownsRow.kept S.bu.row g6 (An aK S.bu.row d_);rw[show((Dp l).map Av).length=l.length by simp[Dp]] at this;exact this
        have c6:U.cell? (A_ X b)=some (.slice a fl kk):=by rw[World.ownsRow.cellAt Y b o_,<- ev];have:=S.bu.len;rw[show((Dp l).map Av).length=l.length by simp[Dp]] at this;simp[List.getD,show b<v.length by omega]
        have z6:U.frozen? (A_ X b)=false:=World.ownsRow.frozenAt Y b;have t6:Aa (λx=>(Value.slice a fl kk).ownBlock=some x) _ U:=(Aa.refl _ _).grown g6 (λx hx _=>hx);have Q:=HM.dbw S.tch S.ds;have s0:U.cell? (A_ mb 0)=some (P_ y):=cq_ 0 _ 331 (0,0) (t6.at_ Q.blk (λe=>Au aK e Q.blk d_ rfl));have s1:U.cell? (A_ y 2)=some (L_ X l.length O):=cq_ 2 _ 142 (0,0) (t6.at_ Q.ds (λe=>Au aK e Q.ds d_ rfl));subst b9;obtain⟨dM,e7,_,_,cY,dS⟩:=T.cf.atK (k:=b) (by simp[Ti,Av]) hbl;injection e7 with e7;injection e7 with e7;subst e7;rw[Cv,show(Ti l).getD b 0=(l.getD b Fq).conf by simp[Ti,List.getD,hbl],a8,aP.2] at cY
        have cU:Hid (Tb w ((U.setCell (A_ X b) (L_ q6 (fl+1) p6)).setCell (A_ gc b) (I_ (cf0+cn:Nat))) y n J (L_ X l.length O) N I (L_ gc l.length cc) (L_ w.heap.size M M) (v.set b (L_ q6 (fl+1) p6)) (Dp (Bc s o n c l f)) (Ti (Bc s o n c l f)) (Wr m o (k+1))):=(by rw[V.1,V.2];exact T.conf (by simp[Ti]));clear r6 g6 d6 c9 bX b5 Y t6 Q c8 aK S a9 T V aM aO aT bV;refine hK _ _ ⟨s0,s1,c6⟩ (λhHeld=>?_);clear hK KK;try simp only[Act.put,tA,tB,tC]
        refine Ah 21 ?_;refine Ai (i:=22) k_ rfl k_ (λKK hK=>?_);go_simp;refine hK _ _ ?_;clear hK KK;try simp only[Act.put,tA,tB,tC]
        refine Ak k_ ?_ _;clear s0 s1 c6 z6 hHeld;go_wp2;go_roundw;case rel=>exact⟨b+1,true,_,Bc s o n c l f,g_,rfl,o_,cU,⟨(λe=>by cases e),λ_=>rfl⟩⟩
        case measure=>exact z_
       | false=>
        rw[hroom] at aQ;clear hroom
        have aY:Hid (∀j,j<b+1->Fd (o.getD f []) mn c (l.getD j Fq)=false):=λj hj=>by
         by_cases e:j=b
         rw[e];exact aQ;exact bI j o_
        clear cG aM aO aT bV;go_wp2;go_roundw;case rel=>exact⟨b+1,false,v,l,g_,rfl,o_,a9,⟨λ_=>⟨rfl,aY⟩,λe=>by cases e⟩⟩
        case measure=>exact z_
      have g5:¬b<(l.length:Int):=o_;have dR:b=l.length:=o_
      have V:Hid (Dp (Bc s o n c l f)=Dp l++[[f]]/\Ti (Bc s o n c l f)=Ti l++[0]):=by
       have aC:l.findIdx (Fd (o.getD f []) (s.getD f Ay).many c)=l.length:=by
        rw[List.findIdx_eq_length];intro x hx;obtain⟨j,hj,rfl⟩:=List.getElem_of_mem hx;have:=bI j o_
        simpa [List.getD,hj] using this
       unfold Bc;rw[aC,if_neg (Nat.lt_irrefl _)];refine⟨by unfold Dp;rw[List.map_append];rfl,?_⟩;unfold Ti;rw[List.map_append];show _++[0+Et (Im n).out (o.getD f [])]=_;rw[Zhq (HO.1 f Z)]
      obtain⟨i0,aG,bO,bN,bD⟩:=info_parts cm;have d5:w.heap.size<=wr.heap.size:=A.tch.size;obtain⟨W1,aA⟩:=ex_ (wr.alloc (.cells #[I_ f] 3));obtain⟨W2,a6⟩:=ex_ ((W1.alloc (.cells #[L_ wr.heap.size 1 1] 25)).drew);have aX:E_ wr W1:=(by rw[aA];exact bA_);have bG:W1.heap.size=wr.heap.size+1:=(by rw[aA];simp);have aR:E_ wr W2:=(by rw[a6];exact(aX.trans (bz_.alloc o_ _)).drew);have b7:E_ W1 W2:=(by rw[a6];exact bA_.drew);have bS:=A.below aR;have c3:Ag W2 w.heap.size (L_ wr.heap.size 1 1) (Av [f]):=by have h1:Ag W1 w.heap.size (L_ wr.heap.size 1 1) (Av [f]):=(by rw[aA];exact World.ownsRow_lit (base:=w.heap.size) (size:=1) (e:=3) wr #[I_ (f:Nat)] 1 d5 m_ s_);exact h1.below b7
      have bC:∀u:Value,(∀x,u.ownBlock=some x->x<wr.heap.size)->Ch u (L_ wr.heap.size 1 1):=λu hu=>by
       cases hk:u.ownBlock with
       |none=>exact .inl hk
       |some x=>exact .inr (.inr (by rw[hk];have:=hu x hk;simp[Value.ownBlock];omega))
      have bB:Hid ((∀i,i<(Dp l).length->Ch (v.getD i Cz) (L_ wr.heap.size 1 1))/\Ch (.slice ac l.length cc) (L_ wr.heap.size 1 1)):=
       ⟨λi hi=>bC _ (λx hx=>(rl_ (A.bu.each i (by rw[List.length_map];exact hi)) x hx).2),bC _ (λx hx=>(rl_ A.cf x hx).2)⟩
      have a7:Hid (Tb w W2 y n J (.slice aB l.length O) N I (.slice ac l.length cc) (L_ w.heap.size M M) v (Dp l) (Ti l) (Wr m o (k+1))/\Ag W2 w.heap.size (L_ wr.heap.size 1 1) (Av [f])):=⟨bS,c3⟩;have b8:Hid (W1=wr.alloc (.cells #[I_ f] 3)/\W2=(W1.alloc (.cells #[L_ wr.heap.size 1 1] 25)).drew):=⟨aA,a6⟩;have x0:=Ac aX y0;have x1:=Ac aX y2;have z0:=Ac aR y0;have z1:=Ac aR y2;have dQ:W1.heap.size+1<=W2.heap.size:=by rw[a6];simp
      have bZ:∀j u,[L_ wr.heap.size 1 1][j]? =some u->W2.cell? (((A_ (wr.heap.size+1) 0):Addr).add j)=some u:=by have:=Am W1 #[L_ wr.heap.size 1 1] 25;rw[bG] at this;rw[a6];exact this
      have aY:Hid _:=bZ;have cN:Hid (W1.heap.size=wr.heap.size+1):=bG;clear aA a6 aX aR b7 bS c3 bC A bZ bG;go_upto_region 23 with fail;refine Al (λw'=>w'.cell? (A_ mb 0)=some (P_ y)/\w'.cell? (A_ y 2)=some (.slice aB l.length O)) 17 k_ ⟨y0,y2⟩ (λhHeld=>?_);refine Ah 0 ?_;refine Ah 1 ?_;refine Ah 2 ?_;refine Ah 3 ?_;refine Ah 4 ?_;refine Ah 5 ?_;refine Ah 6 ?_;refine Ah 7 ?_;refine Ah 8 ?_;refine Ah 9 ?_;refine Ah 10 ?_;refine Ah 11 ?_;refine Af (i:=12) k_ rfl (λKK hK=>?_);go_simp;refine hK _ _ ⟨Ac bA_ y0,Ac bA_ y2⟩ (λhHeld=>?_);clear hK KK;try simp only[Act.put,tA,tB,tC]
      refine Af (i:=13) k_ rfl (λKK hK=>?_);go_simp;refine hK _ _ ⟨Ac (bA_.alloc s_ _) y0,Ac (bA_.alloc s_ _) y2⟩ (λhHeld=>?_);clear hK KK;try simp only[Act.put,tA,tB,tC]
      refine Af (i:=14) k_ rfl (λKK hK=>?_);have e2:((wr.alloc (.cells #[I_ f] 3)).alloc (.cells #[L_ wr.heap.size 1 1] 25)).drew=W2:=(by rw[b8.2,b8.1]);rw[e2];clear e2;have bH:W2.ownsRow w.heap.size 25 1 (.slice aB l.length O) l.length v:=by have:=a7.1.bu.row;rw[show((Dp l).map Av).length=l.length by simp[Dp]] at this;exact this
      refine Az rfl (.tmp 178) (.tmp 181) 84 rfl w.heap.size 25 i0 Cz 1 24 Tryz.underlying84 aG bO bN bD rfl d_ (.slice aB l.length O) l.length v j_ bH (A_ (wr.heap.size+1) 0) 1 1 [L_ wr.heap.size 1 1] j_ rfl aY ?_ d_ m_ o_ (by have:=cN.out;omega) ?_;intro u hu;simp at hu;rw[hu];rfl;intro v6 U H6;obtain⟨r6,g6,d6,_,q6,p6,b9⟩:=H6;obtain⟨cA,aD⟩:=a7.1.newB (vB':=v6) (L:=[f]) a7.2 bB.1 bB.2 g6 (by rw[show(Dp l).length=l.length by simp[Dp]];exact r6);have T:Hid (Tb w (U.setCell (A_ y 2) v6) y n J v6 N I (.slice ac l.length cc) (L_ w.heap.size M M) (v++[L_ wr.heap.size 1 1]) (Dp l++[[f]]) (Ti l) (Wr m o (k+1))):=cA
      have t6:Aa (λx=>(Value.slice aB l.length O).ownBlock=some x) _ U:=(Aa.refl _ _).grown g6 (λx hx _=>hx);have aH:=HM.dbw a7.1.tch a7.1.ds;have s0:U.cell? (A_ mb 0)=some (P_ y):=cq_ 0 _ 331 (0,0) (t6.at_ aH.blk (λe=>Au bH e aH.blk d_ rfl));have s1:=cR_ 2 aD;have s2:U.frozen? (A_ y 2)=false:=fq_ 2 _ 142 aD;subst b9;clear r6 g6 d6 cA aD t6 aH bH a7 bB aY b8 x0 x1 z0 z1 y0 y2;refine hK _ _ ⟨s0,s1⟩ (λhHeld=>?_);clear hK KK;try simp only[Act.put,tA,tB,tC]
      refine Ah 15 ?_;refine Ah 16 ?_;refine Ai (i:=17) k_ rfl k_ (λKK hK=>?_);go_simp;refine hK _ _ ?_;clear hK KK;try simp only[Act.put,tA,tB,tC]
      refine Ak k_ ?_ _;clear s0 s1 s2 hHeld;have dK:w.heap.size<=(U.setCell (A_ y 2) (L_ q6 (l.length+1) p6)).heap.size:=T.tch.size;generalize hw7:U.setCell (A_ y 2) (L_ q6 (l.length+1) p6)=w7 at *;clear hw7;have dJ:(Av (Ti l)).length<=4:=(by simp[Av,Ti];omega);go_wp2_with (at_builtin;refine Bu rfl (.tmp 185) (.tmp 186) rfl w.heap.size _ (Av (Ti l)) 0 rfl ((T.below bA_).cf) w7.heap.size 1 rfl ?_ ?_ ?_ ?_)
      omega;omega;intro v8 w8 H8;obtain⟨o8,g8,d8⟩:=H8
      have cP:Hid (Tb w w8 y n J (L_ q6 (l.length+1) p6) N I v8 (L_ w.heap.size M M) (v++[L_ wr.heap.size 1 1]) (Dp (Nf m s o n c (k+1))) (Ti (Nf m s o n c (k+1))) (Wr m o (k+1))):=by
       rw[aN.1,V.1,V.2]
       exact(T.below bA_).newC (z:=0) g8 o8 (by
        rcases d8 with e|e
        exact .inl e
        exact .inr (by simpa using e.1))
      clear o8 g8 d8 T V;go_wp2;go_roundw;case rel=>exact⟨k+1,_,_,g_,o_,cP⟩
      case measure=>exact z_
  have g2:¬k<(M:Int):=o_;have HF:Hid (ZlM w y n J N I (Ha m s o n c) wr):=(by refine⟨vB,aE,A.ds,?_,A.tch⟩;rw[<- ZhV,show m+1=k by have:=D.out;omega];exact A.bu);clear A F;go_wp2;go_end0;exact⟨rfl,HF⟩
theorem Ze0{Ks}{p}:∀fs v,syF Ks fs v=some p->p.1∈fs
 |[],v,h=>by simp[syF] at h
 | f::fs,v,h=>by
  unfold syF at h;split at h
  ·grind
  exact List.mem_cons_of_mem _ (Ze0 _ _ h)
def ZhN{b f a}(h:f ∉ a) v:Qn f (syF b a v)=none:=by
 cases hs:syF b a v with
 |none=>rfl
 | some p=>
  grind [Ze0,Qn]
theorem Zex{Ks f C}(hC:f ∉ C):∀A v,f ∉ A->Qn f (syF Ks (A++f::C) v)=if Du Ks A<=v/\v<Du Ks A+(Ks.getD f Ay).many then some (v-Du Ks A) else none
 | [],v,_=>by
  simp only[List.nil_append,syF,Du,List.map_nil,List.sum_nil,Qg,true_and,Nat.zero_add,Nat.sub_zero]
  by_cases h:v<(Ks.getD f Ay).many
  rw[if_pos h,if_pos h];simp[Qn];rw[if_neg h,if_neg h];exact ZhN hC _
 | g::A,v,hA=>by
  have hgf:¬g=f:=λe=>hA (by rw[e];simp);have hA2:f ∉ A:=λh=>hA (by simp[h]);have hsum:Du Ks (g::A)=(Ks.getD g Ay).many+Du Ks A:=(by simp[Du]);simp only[List.cons_append,syF];rw[hsum]
  by_cases h:v<(Ks.getD g Ay).many
  rw[if_pos h,if_neg o_];simp[Qn,hgf];rw[if_neg h,Zex hC A _ hA2]
  grind
theorem ZhP{a f A C}(b:f ∉ A)(c:f ∉ C) V:Qn f (Zgf a (A++f::C) V)=if 1+Du a A<=V/\V<1+Du a A+(a.getD f Ay).many then some (V-(1+Du a A)) else none:=by
 unfold Zgf
 by_cases h:V=0
 rw[if_pos h,if_neg o_];rfl
 grind [Zex]
theorem ZhO{b f a}(h:f ∉ a) V:Qn f (Zgf b a V)=none:=by unfold Zgf;split;rfl;exact ZhN h _
def Zgu{a c e r f b A C}(h:b<c.length)(g:c.getD b []=A++f::C)(l:f ∉ A)(k:f ∉ C)(i:∀j,j<c.length->j≠b->f ∉ c.getD j []):Jp a c e r f=if 1+Du a A<=(e.getD b []).getD r 0/\(e.getD b []).getD r 0<1+Du a A+(a.getD f Ay).many then(e.getD b []).getD r 0-(1+Du a A) else(a.getD f Ay).d:=by grind [Pd,ZhO,ZhP,Zb3,ut]
section
variable {Ks:List KS} {Os:List (List Bool)} {Bb:List (List Nat)} {n:Nat}
def ZiY{A C f r}(h:r<n)(j:∀g∈A++f::C,∀r,(Bb.getD g []).getD r 0<(Ks.getD g Ay).many)(t:(Os.getD f []).getD r false=true↔(Bb.getD f []).getD r 0≠(Ks.getD f Ay).d):((if 1+Du Ks A<=(It Ks Os Bb n (A++f::C)).getD r 0/\(It Ks Os Bb n (A++f::C)).getD r 0<1+Du Ks A+(Ks.getD f Ay).many then(It Ks Os Bb n (A++f::C)).getD r 0-(1+Du Ks A) else(Ks.getD f Ay).d)≠(Bb.getD f []).getD r 0)↔((Os.getD f []).getD r false=true/\(It Ks Os Bb n A).getD r 0≠0):=by
 have b:Ze4 n ⟨List.replicate n 0,[],1⟩:=⟨s_,Nat.one_pos,λx hx=>w_⟩;have a:=Tk (Os:=Os) A _ (λg c=>j g (by simp[c])) b;have i:(A.foldl (Ap _ _ _ n) ⟨List.replicate n 0,[],1⟩).off=1+_:=Py Ks Os Bb n A _;have e:(It _ _ Bb n A).getD r 0=(A.foldl (Ap Ks Os _ n) _).N.getD r 0:=rfl;have k:(It Ks Os Bb n (A++f::C)).getD r 0=(C.foldl (Ap Ks Os Bb n) (Ap Ks Os Bb n (A.foldl (Ap Ks Os Bb n) ⟨List.replicate n 0,[],1⟩) f)).N.getD r 0:=(by unfold It Ij;grind);rw[e,k];generalize A.foldl (Ap Ks Os Bb n) ⟨List.replicate n 0,[],1⟩=s at *;have c:(Ap Ks Os Bb n s f).N.getD r 0=_:=Vp _ _ _ _ h;unfold jx at c;have o:(Ap Ks Os Bb n s f).off=_+_:=rfl
 have l:s.N.getD r 0<s.off:=(by have m:r<s.N.length:=(by rw[a.len];exact h);have:s.N.getD r 0∈s.N:=(by simp[List.getD,m]);exact a.lt _ this);obtain⟨q,p⟩:=Wn (Ks:=Ks) (Os:=Os) (Bb:=Bb) C (Ap Ks Os Bb n s f) o_ r h
 grind
end
def exC(p:Nat->Nat->Bool)(b:Nat->Nat->Nat)(r i:Nat):List XS:=if p r i=true then[⟨r,i,b r i⟩] else[]
def ng(p:Nat->Nat->Bool)(b:Nat->Nat->Nat)(r:Nat):Nat->List XS
 |0=>[]
 |i+1=>ng p b r i++exC p b r i
def Uq(p:Nat->Nat->Bool)(b:Nat->Nat->Nat)(M:Nat):Nat->List XS
 |0=>[]
 |r+1=>Uq p b M r++ng p b r M
theorem Vj{p b r}{x}:∀i,x∈ng p b r i↔x.row=r/\x.f<i/\p r x.f=true/\x.bin=b r x.f
 |0=>by simp[ng]
 | i+1=>by
  simp only[ng,List.mem_append,Vj i,exC];obtain⟨xr,xf,xb⟩:=x
  grind
theorem de{p b M}{x}:∀r,x∈Uq p b M r↔x.row<r/\x.f<M/\p x.row x.f=true/\x.bin=b x.row x.f
 |0=>by simp[Uq]
 | r+1=>by
  simp only[Uq,List.mem_append,de r,Vj]
  grind
abbrev upX(x y:XS):Prop:=x.row<y.row∨x.row=y.row/\x.f<y.f
def ZaQ p b r:∀i,(ng p b r i).Pairwise upX
 |0=>List.Pairwise.nil
 | i+1=>by
  simp only[ng];refine List.pairwise_append.2 ⟨ZaQ p b r i,?_,λx hx y hy=>?_⟩;unfold exC;split<;>simp
  grind [Vj,exC]
def gt p b M:∀r,(Uq p b M r).Pairwise upX
 |0=>List.Pairwise.nil
 | r+1=>by
  simp only[Uq];refine List.pairwise_append.2 ⟨gt p b M r,ZaQ p b r M,λx hx y hy=>?_⟩
  grind [de,Vj]
def Zhy{p b M r D}(a:Lp D)(c:∀x,x∈D↔x.row<r/\x.f<M/\p x.row x.f=true/\x.bin=b x.row x.f):(Uq p b M r).Perm D/\Fp (Uq p b M r):=by refine⟨(List.perm_ext_iff_of_nodup ?_ ?_).2 (λx=>by rw[c,de]),(gt p b M r).imp (λh=>o_)⟩;exact(gt p b M r).imp (λh e=>w_);exact a.imp (λh e=>w_)
def kh{f}:∀Gs,f∈Fh Gs->(Fh Gs).Nodup->∃b A C,b<Gs.length/\(Gs.getD b Fq).fs=A++f::C/\f ∉ A/\f ∉ C/\∀j,j<Gs.length->j≠b->f ∉ (Gs.getD j Fq).fs
 |[],h,_=>by simp[Fh] at h
 | G ::Gs,h,hn=>by
  have e:Fh (G::Gs)=G.fs++Fh Gs:=(by simp[Fh]);rw[e] at h hn;obtain⟨n1,n2,n3⟩:=List.nodup_append.1 hn
  rcases List.mem_append.1 h with h|h
  ·obtain⟨A,C,hs⟩:=List.append_of_mem h;rw[hs] at n1;obtain⟨m1,m2,m3⟩:=List.nodup_append.1 n1;refine⟨0,A,C,s_,by simpa using hs,λhA=>m3 f hA f s_ rfl,(List.nodup_cons.1 m2).1,λj hj hne hin=>?_⟩;obtain⟨i,rfl⟩:∃i,j=i+1:=⟨j-1,o_⟩
   have hi:i<Gs.length:=by simpa using hj
   have:f∈Fh Gs:=by unfold Fh;rw[List.mem_flatMap];exact⟨Gs.getD i _,by simp[List.getD,hi],by simpa using hin⟩
   grind
  obtain⟨b,A,C,a,hs,hA,c,d⟩:=kh Gs h n2;refine⟨b+1,A,C,by simpa using a,by simpa using hs,hA,c,λj hj hne hin=>?_⟩
  grind
section
variable {m n:Nat} {Ks:List KS} {Os:List (List Bool)} {Bb:List (List Nat)} {Gs:List GS}
def bo Os Bb n (Ks:List KS):∀Gs D,(Gs.foldl (Js Os Bb n) D).bs.map BS.fs=D.bs.map BS.fs++Dp Gs
 |[],D=>by simp[Dp]
 |G::Gs,D=>by simp only[List.foldl_cons];rw[bo Os Bb n Ks Gs];simp[Js,Dp]
def Zar(l:∀G∈Gs,∀f∈G.fs,f<Ks.length)(a:∀i,i<Ks.length->∀r,(Bb.getD i []).getD r 0<(Ks.getD i Ay).many)(k:∀r,r<n->∀g,g<Ks.length->(Os.getD g []).getD r false=sO Ks Bb g r):(Ew Os Bb n Ks Gs).bs.map BS.N=(Dp Gs).map (λfs=>He Ks Bb fs n):=by
 have j:=Zcn (Ks:=Ks) (Os:=Os) (Bb:=Bb) (n:=n) Gs ⟨Ks,[],[]⟩ rfl s_;have d:=bo Os Bb n Ks Gs ⟨Ks,[],[]⟩;simp only[List.map_nil,List.nil_append] at d;unfold Ew;rw[<- d,List.map_map];refine List.map_congr_left λb hb=>?_
 have c:∀f∈b.fs,f<Ks.length:=λf hf=>by
  have:b.fs∈Dp Gs:=(by rw[<- d];exact List.mem_map.2 ⟨b,hb,rfl⟩);obtain⟨G,h,e⟩:=List.mem_map.1 this
  grind
 rw[j b hb];refine(Zhn k c ?_).symm;exact(bq (xs:=[]) (λf hf=>a f (c f hf))).len
def Zas(E:Ks.length=m+1)(k:(Fh Gs).Perm (List.range (m+1)))(c:(Fh Gs).Nodup)(d:∀i,i<m+1->∀r,(Bb.getD i []).getD r 0<(Ks.getD i Ay).many)(L:∀r,r<n->∀g,g<Ks.length->(Os.getD g []).getD r false=sO Ks Bb g r) x:x∈(Ew Os Bb n Ks Gs).xs↔x.row<n/\x.f<m+1/\decide (Jp Ks (Dp Gs) ((Dp Gs).map (λfs=>He Ks Bb fs n)) x.row x.f≠(Bb.getD x.f []).getD x.row 0)=true/\x.bin=(Bb.getD x.f []).getD x.row 0:=by
 have q:=λG t f o=>by
  have:f∈Fh Gs:=by unfold Fh;rw[List.mem_flatMap];exact⟨G,t,o⟩
  simpa using k.mem_iff.1 this
 have S:∀{f r A C b},r<n->f<m+1->b<Gs.length->(Gs.getD b Fq).fs=A++f::C->f ∉ A->f ∉ C->(∀j,j<Gs.length->j≠b->f ∉ (Gs.getD j Fq).fs)->(Jp Ks (Dp Gs) ((Dp Gs).map (λfs=>He Ks Bb fs n)) r f≠(Bb.getD f []).getD r 0↔((Os.getD f []).getD r false=true/\(It Ks Os Bb n A).getD r 0≠0)):=by
  intro f r A C b u o H l J N M;have I:(Dp Gs).length=Gs.length:=by simp[Dp]
  have W:∀j,j<Gs.length->(Dp Gs).getD j []=(Gs.getD j Fq).fs:=λj v=>by simp[Dp,List.getD,v]
  have B:Gs.getD b Fq∈Gs:=w_;have s:=λg hg=>q _ B g (by rw[l];exact hg);have p:((Dp Gs).map (λfs=>He Ks Bb fs n)).getD b []=It Ks Os Bb n (A++f::C):=(by have e:((Dp Gs).map (λfs=>He Ks Bb fs n)).getD b []=He Ks Bb (A++f::C) n:=w_;rw[e];exact Zhn L (λg hg=>w_) (bq (xs:=[]) (λg hg=>d g (s g hg))).len);rw[Zgu (b:=b) (A:=A) (C:=C) (by rw[I];exact H) w_ J N (λj v hne=>w_),p];refine ZiY u (λg hg=>d g (s g hg)) ?_;rw[L r u f (by rw[E];exact o)];unfold sO
  grind
 rw[show(Ew Os Bb n Ks Gs).xs=(Gs.foldl (Js Os Bb n) ⟨Ks,[],[]⟩).xs from rfl,jc (Ks:=Ks) Gs ⟨Ks,[],[]⟩ x rfl];simp only[List.not_mem_nil,false_or,decide_eq_true_eq];constructor
 ·rintro⟨G,t,A,C,l,u,V,X,Z⟩;have o:=q G t x.f (by rw[l];simp);have D:x.f∈Fh Gs:=w_;obtain⟨b,z,O,H,F,R,U,M⟩:=kh Gs D c;obtain⟨j,v,ej⟩:=List.getElem_of_mem t;have T:j=b:=w_;have w:Gs.getD b Fq=G:=w_
  have Q:A=z:=by
   rw[w,l] at F
   have P:x.f ∉ A:=λh=>by
    have Y:(A++x.f::C).Nodup:=by
     rw[<- l]
     have:∀(Hs:List GS),G∈Hs->(Fh Hs).Nodup->G.fs.Nodup:=λHs hm hn=>by
      unfold Fh at hn
      grind
     grind
    grind
   have e1:(A++x.f::C).takeWhile (λy=>y !=x.f)=A:=(by rw[List.takeWhile_append_of_pos (λa ha=>w_)];simp);have e2:(z++x.f::O).takeWhile (λy=>y !=x.f)=z:=by rw[List.takeWhile_append_of_pos (λa ha=>w_)];simp
   grind
  grind
 rintro⟨u,o,V,X⟩;obtain⟨b,A,C,H,l,J,N,M⟩:=kh Gs (k.mem_iff.2 (by simpa using o)) c
 grind
end
end Go.Proofs.YtfcgnpchbcmdeaaGreat
