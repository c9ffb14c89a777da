import Derived.Test.YtfcgnpchbcmdeaaGreatZr00
/-
-/
namespace Go.Proofs.YtfcgnpchbcmdeaaGreat
set_option linter.all false
structure Ct where
 v:Int
 lo:Int
 hi:Int
 wt:Int
def Ga(z:Int):Int:=if 1000000000<z then 1000000000 else if z< -1000000000 then -1000000000 else z
def Is(z:Int):Int:=if z<1∨1000<z then 1 else z
def Ar(vs ws:List Int):List (Int×Int):=(List.zip vs ws).map λp=>(Ga p.1,Is p.2)
theorem Jm(a b:List Int):(Ar a b).length=min a.length b.length:=by simp[Ar]
def No:List (Int×Int)->Int->Int
  |[],_=>0
  |p::r,v=>(if p.1=v then p.2 else 0)+No r v
def Lm(a b:List (Int×Int))(v:Int):No (a++b) v=No a v+No b v:=by
 induction a with
 |nil=>simp[No]
 |cons p r ih=>simp only[List.cons_append,No,ih];omega
def Zi1{a b:List (Int×Int)}(h:a.Perm b)(v:Int):No a v=No b v:=by
 induction h with
 |nil=>rfl
 |cons x _ ih=>simp only[No,ih]
 |swap x y l=>simp only[No];omega
 |trans _ _ h1 h2=>exact h1.trans h2
def me{a:List (Int×Int)}{v:Int}(h:∀p∈a,p.1≠v):No a v=0:=by
 induction a with
 |nil=>rfl
 |cons p r ih=>simp only[No];rw[if_neg (h p s_),ih (λq hq=>h q (by simp[hq]))];rfl
structure Ed(ps M:List (Int×Int)):Prop where
 rise:M.Pairwise λp q=>p.1<q.1
 sub:∀p∈M,∃q∈ps,q.1=p.1
 all:∀q∈ps,∃p∈M,p.1=q.1
 wt:∀p∈M,p.2=No ps p.1
def ZeY:∀{M N:List (Int×Int)},M.Pairwise (λp q=>p.1<q.1)->N.Pairwise (λp q=>p.1<q.1)->(∀p,p∈M↔p∈N)->M=N
 |[],[],_,_,_=>rfl
 |[],q::_,_,_,h=>absurd ((h q).2 s_) s_
 |p::_,[],_,_,h=>absurd ((h p).1 s_) s_
 | p ::M,q::N,hM,hN,h=>by
  rw[List.pairwise_cons] at hM hN
  have hpq:p=q:=by
   rcases List.mem_cons.1 ((h p).1 s_) with e|e
   exact e
   rcases List.mem_cons.1 ((h q).2 s_) with a|a
   exact a.symm;have c:=hN.1 p e;have b:=hM.1 q a;omega
  subst hpq;congr 1;refine ZeY hM.2 hN.2 λr=>⟨λhr=>?_,λhr=>?_⟩
  ·rcases List.mem_cons.1 ((h r).1 (by simp[hr])) with e|e
   have:=hM.1 r hr;rw[e] at this;omega;exact e
  rcases List.mem_cons.1 ((h r).2 (by simp[hr])) with e|e
  have:=hN.1 r hr;rw[e] at this;omega;exact e
def Ed.unique{h M N:List (Int×Int)}(c:Ed h M)(d:Ed h N):M=N:=by refine ZeY c.rise d.rise λp=>⟨λhp=>?_,λhp=>?_⟩;obtain⟨q,f,e⟩:=c.sub p hp;obtain⟨r,b,g⟩:=d.all q f;have a:p=r:=Prod.ext o_ (by rw[c.wt p hp,d.wt r b,g,e]);exact a ▸ b;obtain⟨q,f,e⟩:=d.sub p hp;obtain⟨r,b,g⟩:=c.all q f;have a:p=r:=Prod.ext o_ (by rw[d.wt p hp,c.wt r b,g,e]);exact a ▸ b
def Ed.perm{ps qs M:List (Int×Int)}(h:Ed ps M)(hp:ps.Perm qs):Ed qs M:=
 ⟨h.rise,λp hpM=>let ⟨q,hq,e⟩:=h.sub p hpM;⟨q,hp.mem_iff.1 hq,e⟩,λq hq=>h.all q (hp.mem_iff.2 hq),λp hpM=>(h.wt p hpM).trans (Zi1 hp _)⟩
def Ed.more{g M:List (Int×Int)}(h:Ed g M)(p:Int×Int)(f:∀q∈g,q.1<p.1):Ed (g++[p]) (M++[p]):=by
 refine⟨?_,?_,?_,?_⟩;rw[List.pairwise_append];refine⟨h.rise,s_,λa c b hb=>?_⟩;simp at hb;subst hb;obtain⟨q,d,e⟩:=h.sub a c;have:=f q d;omega
 ·intro a c
  rcases List.mem_append.1 c with c|c
  obtain⟨q,d,e⟩:=h.sub a c;exact⟨q,by simp[d],e⟩;simp at c;subst c;exact⟨a,s_,rfl⟩
 ·intro q d
  rcases List.mem_append.1 d with d|d
  obtain⟨a,c,e⟩:=h.all q d;exact⟨a,by simp[c],e⟩;simp at d;subst d;exact⟨q,s_,rfl⟩
 intro a c;rw[Lm]
 rcases List.mem_append.1 c with c|c
 obtain⟨q,d,e⟩:=h.sub a c;have:=f q d;simp only[No];rw[if_neg o_,h.wt a c];omega;simp at c;subst c;rw[me (λq d=>by have:=f q d;omega)];simp[No]
def Ed.same{g M:List (Int×Int)}{v w:Int}(h:Ed g (M++[(v,w)]))(u:Int):Ed (g++[(v,u)]) (M++[(v,w+u)]):=by
 have f:=h.rise;rw[List.pairwise_append] at f;refine⟨?_,?_,?_,?_⟩;rw[List.pairwise_append];refine⟨f.1,s_,λa c b hb=>?_⟩;simp at hb;subst hb;exact f.2.2 a c (v,w) s_
 ·intro a c
  rcases List.mem_append.1 c with c|c
  obtain⟨q,d,e⟩:=h.sub a (by simp[c]);exact⟨q,by simp[d],e⟩;simp at c;subst c;exact⟨(v,u),s_,rfl⟩
 ·intro q d
  rcases List.mem_append.1 d with d|d
  ·obtain⟨a,c,e⟩:=h.all q d
   rcases List.mem_append.1 c with c|c
   exact⟨a,by simp[c],e⟩;simp at c;subst c;exact⟨(v,w+u),s_,e⟩
  simp at d;subst d;exact⟨(v,w+u),s_,rfl⟩
 intro a c;rw[Lm]
 rcases List.mem_append.1 c with c|c
 have:=f.2.2 a c (v,w) s_;simp only[No];simp only at this;rw[if_neg o_,h.wt a (by simp[c])];omega;simp at c;subst c;have:=h.wt (v,w) s_;simp only[No,if_true] at *;omega
def Ed.nil:Ed [] []:=⟨s_,s_,s_,s_⟩
def Bv:Int->List (Int×Int)->List Ct
  |_,[]=>[]
  |low,p::r=>⟨p.1,low,low+p.2,p.2⟩::Bv (low+p.2) r
def By:List (Int×Int)->Int
  |[]=>0
  |p::r=>p.2+By r
def Rc(a b:List (Int×Int)):By (a++b)=By a+By b:=by
 induction a with
 |nil=>simp[By]
 |cons p r ih=>simp only[List.cons_append,By,ih];omega
theorem Vs(c:Int)(a b:List (Int×Int)):Bv c (a++b)=Bv c a++Bv (c+By a) b:=by
 induction a generalizing c with
 |nil=>simp[Bv,By]
 |cons p r ih=>simp only[List.cons_append,Bv,ih,By];rw[show c+p.2+By r=c+(p.2+By r) by omega]
def Kq(b:Int)(a:List (Int×Int)):(Bv b a).length=a.length:=by
 induction a generalizing b with
 |nil=>rfl
 |cons p r ih=>simp[Bv,ih]
structure Bq(L:List Ct):Prop where
 each:∀e∈L,0<=e.lo/\1<=e.wt/\e.lo+e.wt<=e.hi/\e.hi<=1000000000000/\ -1000000000<=e.v/\e.v<=1000000000
 step:L.Pairwise λe f=>e.v<f.v/\e.lo+e.wt<=f.lo/\e.hi<=f.hi-f.wt
def Bq.nil:Bq []:=⟨s_,s_⟩
def Bq.sub{L M:List Ct}(h:Bq L)(hs:M.Sublist L):Bq M:=⟨λe he=>h.each e (hs.subset he),h.step.sublist hs⟩
def ju{b:Int}{a:List (Int×Int)}(d:∀p∈a,1<=p.2):∀e∈Bv b a,b<=e.lo/\e.hi=e.lo+e.wt/\e.hi<=b+By a/\∃p∈a,p.1=e.v/\p.2=e.wt:=by
 induction a generalizing b with
 |nil=>simp[Bv]
 | cons p r ih=>
  intro e c;have f:=d p s_
  have g:0<=By r:=by
   clear ih c f
   induction r with
   |nil=>simp[By]
   |cons q r ih=>simp only[By];have:=d q s_;have:=ih (λx hx=>d x (by simp at hx ⊢;rcases hx with h|h<;>simp[h]));omega
  rcases List.mem_cons.1 c with rfl|c
  refine⟨?_,?_,?_,p,s_,rfl,rfl⟩;exact Int.le_refl _;rfl;simp only[By];omega;obtain⟨n,i,m,q,j,k,l⟩:=ih (λx hx=>d x (by simp[hx])) e c;simp only[By];exact⟨o_,i,o_,q,by simp[j],k,l⟩
def Zf8{b:Int}{a:List (Int×Int)}(d:∀p∈a,1<=p.2)(c:a.Pairwise λp q=>p.1<q.1):(Bv b a).Pairwise λe f=>e.v<f.v/\e.lo+e.wt<=f.lo/\e.hi<=f.hi-f.wt:=by
 induction a generalizing b with
 |nil=>simp[Bv]
 | cons p r ih=>
  rw[List.pairwise_cons] at c;simp only[Bv];rw[List.pairwise_cons];refine⟨λf hf=>?_,ih (λx hx=>d x (by simp[hx])) c.2⟩;obtain⟨k,h,_,q,g,i,j⟩:=ju (λx hx=>d x (by simp[hx])) f hf;have:=c.1 q g;simp only;omega
def Zf7{a:List (Int×Int)}(b:∀p∈a,1<=p.2)(d:a.Pairwise λp q=>p.1<q.1)(f:∀p∈a,-1000000000<=p.1/\p.1<=1000000000)(k:By a<=1000000000000):Bq (Bv 0 a):=by refine⟨λe he=>?_,Zf8 b d⟩;obtain⟨l,i,j,q,c,g,h⟩:=ju b e he;have:=f q c;have:=b q c;omega
def We{a}(b:∀p∈a,1<=p.2):∀v,0<=No a v:=by
 induction a with
 |nil=>intro v;simp[No]
 | cons p r ih=>
  grind [No]
def ZiZ{a}(b:∀p∈a,1<=p.2):∀q∈a,1<=No a q.1:=by
 induction a with
 |nil=>simp
 | cons p r ih=>
  intro q c;have d:=b p s_;simp only[No]
  rcases List.mem_cons.1 c with rfl|c
  have:=We (λx hx=>b x (List.mem_cons_of_mem _ hx)) q.1;simp;omega
  grind
def Pm(ps:List (Int×Int)):List (Int×Int)->Int
 |[]=>0
 |p::M=>No ps p.1+Pm ps M
def Zgv q r M (b:0<=q.2)(a:M.Pairwise λp q=>p.1<q.1):Pm (q::r) M<=Pm r M+q.2/\((∀p∈M,p.1≠q.1)->Pm (q::r) M=Pm r M):=by
 induction M with
 |nil=>simp[Pm];exact b
 | cons p M ih=>
  rw[List.pairwise_cons] at a
  grind [Pm,No]
def lz M:Pm [] M=0:=by
 induction M with
 |nil=>rfl
 |cons p M ih=>simp[Pm,No,ih]
def Zad{ps M}(b:∀p∈ps,1<=p.2)(a:M.Pairwise λp q=>p.1<q.1):Pm ps M<=By ps:=by
 induction ps with
 |nil=>simp[lz,By]
 | cons q r ih=>
  have c:=(Zgv q r M w_ a).1
  grind [By]
def Wd{a M}(h:∀p∈M,p.2=No a p.1):By M=Pm a M:=by
 induction M with
 |nil=>rfl
 |cons p M ih=>grind [By,Pm]
def Rw{ps}(a:∀p∈ps,p.2<=1000):By ps<=1000*ps.length:=by
 induction ps with
 |nil=>simp[By]
 | cons q r ih=>
  grind [By]
def Zfi z:1<=Is z/\Is z<=1000:=by unfold Is;split<;>omega
def Zfh z: -1000000000<=Ga z/\Ga z<=1000000000:=by unfold Ga;omega
def Ig{a c p}(h:p∈Ar a c):(1<=p.2/\p.2<=1000)/\(-1000000000<=p.1/\p.1<=1000000000)/\∃z∈a,p.1=Ga z:=by unfold Ar at h;obtain⟨q,b,rfl⟩:=List.mem_map.1 h;exact⟨Zfi _,Zfh _,q.1,(List.of_mem_zip b).1,rfl⟩
def Ed.good{c f M}(h:Ed (Ar c f) M)(i:c.length<=2097152):Bq (Bv 0 M):=by
 have b:∀p∈Ar c f,_:=λp b=>(Ig b).1.1;refine Zf7 ?_ h.rise ?_ ?_;intro p a;obtain⟨q,d,e⟩:=h.sub p a;rw[h.wt p a,<- e];exact ZiZ b q d;intro p a;obtain⟨q,d,e⟩:=h.sub p a;have:=(Ig d).2.1;omega;have j:=Zad b h.rise;have g:=Rw (λp b=>(Ig b).1.2:∀p∈Ar c f,p.2<=1000);rw[Wd h.wt]
 grind [Jm]
def e0:Ct:=⟨0,0,0,0⟩
def Ae(L:List Ct):Int:=if L.length=0 then 0 else(L.getD (L.length-1) e0).hi
def Cn(L:List Ct)(j:Nat):Int:=if j=0 then 0 else(L.getD (j-1) e0).lo+(L.getD (j-1) e0).wt
def Dm(L:List Ct)(j:Nat):Int:=if j=L.length then Ae L else(L.getD j e0).hi-(L.getD j e0).wt
def seen(o:List Ct)(j:Nat)(e:Ct):Ct:=⟨e.v,e.lo+Cn o j,e.hi+Dm o j,e.wt⟩
def Li(e f:Ct):Ct:=⟨e.v,e.lo+f.lo,e.hi+f.hi,e.wt+f.wt⟩
def Dw(a b:List Ct):Nat->Nat->Nat->List Ct
 |0,_,_=>[]
 | n+1,i,j=>
  if i<a.length/\(j<b.length->(a.getD i e0).v<(b.getD j e0).v) then seen b j (a.getD i e0)::Dw a b n (i+1) j
  else if j<b.length/\(i<a.length->(b.getD j e0).v<(a.getD i e0).v) then seen a i (b.getD j e0)::Dw a b n i (j+1)
  else if i<a.length/\j<b.length then Li (a.getD i e0) (b.getD j e0)::Dw a b n (i+1) (j+1)
  else[]
def Bp(a b:List Ct):List Ct:=Dw a b (a.length+b.length) 0 0
theorem Nx a b:∀n m i j,a.length-i+(b.length-j)<=n->a.length-i+(b.length-j)<=m->Dw a b n i j=Dw a b m i j
 |0,0,_,_,_,_=>rfl
 |0,m+1,i,j,h,_=>by grind [Dw]
 |n+1,0,i,j,_,h=>by grind [Dw]
 |n+1,m+1,i,j,h,h'=>by simp only[Dw];split;rw[Nx a b n m (i+1) j o_ o_];split;rw[Nx a b n m i (j+1) o_ o_];split;rw[Nx a b n m (i+1) (j+1) o_ o_];rfl
def Md(a b:List Ct)(i j:Nat):List Ct:=Dw a b (a.length-i+(b.length-j)) i j
def jw a b:Md a b 0 0=Bp a b:=by unfold Md Bp;simp
def Zks{a b i j}(c:i<a.length)(h:j<b.length->(a.getD i e0).v<(b.getD j e0).v):Md a b i j=seen b j (a.getD i e0)::Md a b (i+1) j:=by
 unfold Md;rw[show a.length-i+(b.length-j)=(a.length-(i+1)+(b.length-j))+1 by omega];simp only[Dw]
 grind
def Zkt{a b i j}(c:j<b.length)(h:i<a.length->(b.getD j e0).v<(a.getD i e0).v):Md a b i j=seen a i (b.getD j e0)::Md a b i (j+1):=by
 unfold Md;rw[show a.length-i+(b.length-j)=(a.length-i+(b.length-(j+1)))+1 by omega]
 grind [Dw]
def ZiB{a b i j}(c:i<a.length)(d:j<b.length)(h:(a.getD i e0).v=(b.getD j e0).v):Md a b i j=Li (a.getD i e0) (b.getD j e0)::Md a b (i+1) (j+1):=by
 unfold Md;rw[show a.length-i+(b.length-j)=(a.length-(i+1)+(b.length-(j+1))+1)+1 by omega]
 grind [Dw,Nx]
def uk{a b i j}(c:¬i<a.length)(d:¬j<b.length):Md a b i j=[]:=by unfold Md;rw[show a.length-i+(b.length-j)=0 by omega];rfl
def Uz{L:List Ct}{i}(h:i<L.length):L.getD i e0∈L:=w_
def Bq.at{L}(g:Bq L){i}(h:i<L.length):0<=(L.getD i e0).lo/\1<=(L.getD i e0).wt/\(L.getD i e0).lo+(L.getD i e0).wt<=(L.getD i e0).hi/\(L.getD i e0).hi<=1000000000000/\ -1000000000<=(L.getD i e0).v/\(L.getD i e0).v<=1000000000:=g.each _ (Uz h)
def Bq.lt{L}(g:Bq L){i j}(a:i<j)(h:j<L.length):(L.getD i e0).v<(L.getD j e0).v/\(L.getD i e0).lo+(L.getD i e0).wt<=(L.getD j e0).lo/\(L.getD i e0).hi<=(L.getD j e0).hi-(L.getD j e0).wt:=by
 have:=List.pairwise_iff_getElem.1 g.step i j o_ h a
 grind
def Ix{L}(g:Bq L){i}(h:i<L.length):(L.getD i e0).hi<=Dm L (i+1)/\Dm L i<=Dm L (i+1)/\Dm L i=(L.getD i e0).hi-(L.getD i e0).wt:=by
 have a:=g.at h;have e:Dm L i=(L.getD i e0).hi-(L.getD i e0).wt:=by unfold Dm;rw[if_neg o_]
 have k:(L.getD i e0).hi<=Dm L (i+1):=by
  unfold Dm;split
  ·grind [Ae]
  exact(g.lt (show i<i+1 by omega) o_).2.2
 omega
def Kx{L}(g:Bq L){i}(h:i<L.length):Cn L i<=(L.getD i e0).lo/\Cn L (i+1)=(L.getD i e0).lo+(L.getD i e0).wt:=by refine⟨?_,by unfold Cn;simp⟩;unfold Cn;split;exact(g.at h).1;exact(g.lt (show i-1<i by omega) h).2.1
def Ll{L}(g:Bq L){i}(h:i<L.length):(L.getD i e0).hi<=Ae L:=by
 unfold Ae;rw[if_neg o_]
 by_cases e:i=L.length-1
 ·grind
 have b:=(g.lt (show i<L.length-1 by omega) o_).2.2;have a:=g.at (show L.length-1<L.length by omega);omega
def dr{L}(g:Bq L){j}(h:j<=L.length):Dm L j<=Ae L/\0<=Cn L j/\Cn L j<=Dm L j:=by
 by_cases e:j=L.length
 have b:Dm L j=Ae L:=(by unfold Dm;rw[if_pos e]);rw[b];refine⟨Int.le_refl _,?_,?_⟩;unfold Cn;split;omega;have:=g.at (show j-1<L.length by omega);omega;unfold Cn Ae;split;omega;have:=g.at (show j-1<L.length by omega);grind;have a:j<L.length:=o_;have i:=Ix g a;have c:=Ll g a;have f:=g.at a;have d:=Kx g a;refine⟨o_,?_,?_⟩;unfold Cn;split;omega;have:=g.at (show j-1<L.length by omega);omega;omega
structure ZdZ(a b)(i j)(f:Ct):Prop where
 lo:Cn a i+Cn b j<=f.lo
 hi:Dm a i+Dm b j<=f.hi-f.wt
 top:f.hi<=Ae a+Ae b
 wt:1<=f.wt
 rng:f.lo+f.wt<=f.hi
 va:0<i->(a.getD (i-1) e0).v<f.v
 vb:0<j->(b.getD (j-1) e0).v<f.v
 from_:(∃e∈a,e.v=f.v)∨∃e∈b,e.v=f.v
def ZdZ.back{a b}(g:Bq a)(k:Bq b){i j c d f}(h:ZdZ a b c d f)(y:i<=c)(x:j<=d)(o:c<=i+1)(u:d<=j+1)(q:c<=a.length)(w:d<=b.length):ZdZ a b i j f:=by
 have p:Cn a i<=Cn a c/\Dm a i<=Dm a c/\(0<i->(a.getD (i-1) e0).v<f.v):=by
  by_cases e:c=i
  subst e;exact⟨Int.le_refl _,Int.le_refl _,h.va⟩;obtain rfl:c=i+1:=o_;have l:=Kx g (show i<a.length by omega);have m:=Ix g (show i<a.length by omega);have t:=g.at (show i<a.length by omega);refine⟨o_,o_,λh0=>?_⟩;have r:=(g.lt (show i-1<i by omega) o_).1;have n:=h.va o_
  grind
 have s:Cn b j<=Cn b d/\Dm b j<=Dm b d/\(0<j->(b.getD (j-1) e0).v<f.v):=by
  by_cases e:d=j
  subst e;exact⟨Int.le_refl _,Int.le_refl _,h.vb⟩;obtain rfl:d=j+1:=o_;have l:=Kx k (show j<b.length by omega);have m:=Ix k (show j<b.length by omega);have t:=k.at (show j<b.length by omega);refine⟨o_,o_,λh0=>?_⟩;have r:=(k.lt (show j-1<j by omega) o_).1;have n:=h.vb o_
  grind
 have l:=h.lo;have m:=h.hi;exact⟨o_,o_,h.top,h.wt,h.rng,p.2.2,s.2.2,h.from_⟩
def Zd7(e f:Ct):Prop:=e.v<f.v/\e.lo+e.wt<=f.lo/\e.hi<=f.hi-f.wt
def Jj{a b}(ga:Bq a)(gb:Bq b):∀n i j,i<=a.length->j<=b.length->(i<a.length->0<j->(b.getD (j-1) e0).v<(a.getD i e0).v)->(j<b.length->0<i->(a.getD (i-1) e0).v<(b.getD j e0).v)->(∀f∈Dw a b n i j,ZdZ a b i j f)/\(Dw a b n i j).Pairwise Zd7
 |0,i,j,_,_,_,_=>by simp[Dw]
 | n + 1,i,j,hi,hj,hva,hvb=>by
  simp only[Dw];split
  ·rename_i h;have a1:=ga.at h.1;have a2:=Kx ga h.1;have a3:=Ix ga h.1;have a4:=Ll ga h.1;have b1:=dr gb hj;have ih:=Jj ga gb n (i+1) j o_ hj (λh1 h0=>by have:=hva h.1 h0;have:=(ga.lt (show i<i+1 by omega) h1).1;omega) (λh1 _=>by simpa using h.2 h1);refine⟨λf hf=>?_,?_⟩
   ·rcases List.mem_cons.1 hf with rfl|hf
    refine⟨?_,?_,?_,a1.2.1,?_,?_,λh0=>hva h.1 h0,.inl ⟨_,Uz h.1,rfl⟩⟩;simp only[seen];omega;simp only[seen];omega;simp only[seen];omega;simp only[seen];omega;intro h0;exact(ga.lt (show i-1<i by omega) h.1).1;exact(ih.1 f hf).back ga gb o_ o_ o_ o_ o_ hj
   rw[List.pairwise_cons];refine⟨λf hf=>?_,ih.2⟩;have c:=ih.1 f hf;have c1:=c.lo;have c2:=c.hi;have c3:=c.va o_
   grind [Zd7,seen]
  split
  ·rename_i _ h;have a1:=gb.at h.1;have a2:=Kx gb h.1;have a3:=Ix gb h.1;have a4:=Ll gb h.1;have b1:=dr ga hi;have ih:=Jj ga gb n i (j+1) hi o_ (λh1 _=>by simpa using h.2 h1) (λh1 h0=>by have:=hvb h.1 h0;have:=(gb.lt (show j<j+1 by omega) h1).1;omega);refine⟨λf hf=>?_,?_⟩
   ·rcases List.mem_cons.1 hf with rfl|hf
    refine⟨?_,?_,?_,a1.2.1,?_,λh0=>hvb h.1 h0,?_,.inr ⟨_,Uz h.1,rfl⟩⟩;simp only[seen];omega;simp only[seen];omega;simp only[seen];omega;simp only[seen];omega;intro h0;exact(gb.lt (show j-1<j by omega) h.1).1;exact(ih.1 f hf).back ga gb o_ o_ o_ o_ hi o_
   rw[List.pairwise_cons];refine⟨λf hf=>?_,ih.2⟩;have c:=ih.1 f hf;have c1:=c.lo;have c2:=c.hi;have c3:=c.vb o_
   grind [Zd7,seen]
  split
  ·rename_i hA hB h;have he:(a.getD i e0).v=(b.getD j e0).v:=(by have h1:¬_:=λhc=>hA ⟨h.1,λ_=>hc⟩;have h2:¬_:=λhc=>hB ⟨h.2,λ_=>hc⟩;omega);have a1:=ga.at h.1;have a2:=Kx ga h.1;have a3:=Ix ga h.1;have a4:=Ll ga h.1;have b1:=gb.at h.2;have b2:=Kx gb h.2;have b3:=Ix gb h.2;have b4:=Ll gb h.2;have ih:=Jj ga gb n (i+1) (j+1) o_ o_ (λh1 _=>by have:=(ga.lt (show i<i+1 by omega) h1).1;grind) (λh1 _=>by have:=(gb.lt (show j<j+1 by omega) h1).1;grind);refine⟨λf hf=>?_,?_⟩
   ·rcases List.mem_cons.1 hf with rfl|hf
    ·refine⟨?_,?_,?_,?_,?_,?_,?_,.inl ⟨_,Uz h.1,rfl⟩⟩;simp only[Li];omega;simp only[Li];omega;simp only[Li];omega;simp only[Li];omega;simp only[Li];omega;intro h0;exact(ga.lt (show i-1<i by omega) h.1).1
     grind [Li]
    exact(ih.1 f hf).back ga gb o_ o_ o_ o_ o_ o_
   rw[List.pairwise_cons];refine⟨λf hf=>?_,ih.2⟩;have c:=ih.1 f hf;have c1:=c.lo;have c2:=c.hi;have c3:=c.va o_;simp only[Nat.add_sub_cancel] at c3;unfold Zd7;simp only[Li];omega
  simp
def Gb{a b}(d:Bq a)(g:Bq b)(i:Ae a+Ae b<=1000000000000):Bq (Bp a b):=by
 have h:=Jj d g (a.length+b.length) 0 0 o_ o_ (λ_ h=>absurd h o_) (λ_ h=>absurd h o_);refine⟨λf hf=>?_,h.2⟩;have c:=h.1 f hf;have m:=c.lo;have k:=c.top;have l:=c.wt;have j:=c.rng;have:Cn a 0=0:=rfl;have:Cn b 0=0:=rfl
 rcases c.from_ with⟨e,he,ev⟩|⟨e,he,ev⟩
 have:=d.each e he;omega;have:=g.each e he;omega
theorem ir{a b}(c:Bq a)(d:Bq b):∀f∈Bp a b,(∃e∈a,e.v=f.v)∨∃e∈b,e.v=f.v:=by have h:=Jj c d (a.length+b.length) 0 0 o_ o_ (λ_ h=>absurd h o_) (λ_ h=>absurd h o_);exact λf hf=>(h.1 f hf).from_
def Il(L:List Ct)(i:Nat):Int:=(L.getD i e0).lo+(L.getD i e0).hi
def Zh9{L}(g:Bq L){i j}(a:i<j)(h:j<L.length):Il L i<Il L j:=by have d:=g.lt a h;have b:=g.at (show i<L.length by omega);have c:=g.at h;unfold Il;omega
def Pa(L:List Ct)(s:Nat)(k i:Nat):Bool:=decide ((Il L i+Il L (i+1))*(s-1)<4*k*Ae L)
def Gl(C:Nat->Bool):Nat->Nat->Nat
 |0,i=>i
 |f+1,i=>if C i=true then Gl C f (i+1) else i
def Qj C:∀f i,i<=Gl C f i/\Gl C f i<=i+f/\(∀j,i<=j->j<Gl C f i->C j=true)/\(Gl C f i=i+f∨C (Gl C f i)=false)
 |0,i=>by simp[Gl];omega
 | f+1,i=>by
  have ih:=Qj C f (i+1)
  grind [Gl]
def Cy(L:List Ct)(s k:Nat):Nat:=Gl (Pa L s k) (L.length-3) 1
structure Zak(L:List Ct)(s k r):Prop where
 pos:1<=r
 le:r+2<=L.length
 yes:∀i,1<=i->i<r->Pa L s k i=true
 no:r+2=L.length∨Pa L s k r=false
def Fl L s k (h:3<=L.length):Zak L s k (Cy L s k):=by have:=Qj (Pa L s k) (L.length-3) 1;unfold Cy;exact⟨this.1,o_,this.2.2.1,w_⟩
def Zak.unique{L s k r q}(b:Zak L s k r)(a:Zak L s k q):r=q:=by
 rcases Nat.lt_trichotomy r q with h|h|h
 ·have c:=a.yes r b.pos h
  rcases b.no with e|e
  have:=a.le;omega
  grind
 exact h;have c:=b.yes q a.pos h
 rcases a.no with e|e
 have:=b.le;omega
 grind
def Df{L}(g:Bq L):0<=Ae L/\Ae L<=1000000000000:=by unfold Ae;split;omega;have:=g.at (show L.length-1<L.length by omega);omega
def tg{L}(g:Bq L){s k i}(h:Pa L s k i=true):Pa L s (k+1) i=true:=by
 unfold Pa at *;have a:=(Df g).1
 grind
theorem Wh{L}(g:Bq L) s k (h:3<=L.length):Cy L s k<=Cy L s (k+1):=by
 have b:=Fl L s k h;have a:=Fl L s (k+1) h
 by_cases hc:Cy L s k<=Cy L s (k+1)
 exact hc;have c:=tg g (b.yes _ a.pos o_)
 rcases a.no with e|e
 have:=b.le;omega
 grind
def Jx(L:List Ct)(s k:Nat):Nat:=if k=0 then 0 else Cy L s k
def Ei(L:List Ct)(s:Nat):Nat->List Ct
 |0=>[L.getD 0 e0]
 |k+1=>if Cy L s (k+1)=Jx L s k then Ei L s k else Ei L s k++[L.getD (Cy L s (k+1)) e0]
def Do(L:List Ct)(size:Int):List Ct:=
 if L.length<=max size 2 then L else Ei L (max size 2).toNat ((max size 2).toNat-2)++[L.getD (L.length-1) e0]
theorem Og(L:List Ct){r}(h:r<L.length):L.take (r+1)=L.take r++[L.getD r e0]:=by grind [List.take_succ_eq_append_getElem]
def Za7{L}(g:Bq L) s (h:3<=L.length):∀k,(Ei L s k).Sublist (L.take (Jx L s k+1))/\Jx L s k+2<=L.length/\Jx L s k<=Cy L s (k+1)
 |0=>by grind [Jx,Og,Ei]
 | k+1=>by
  have ih:=Za7 g s h k;have hb:=Fl L s (k+1) h;have hp:Jx L s (k+1)=Cy L s (k+1):=(by simp[Jx]);rw[hp];refine⟨?_,hb.le,Wh g s _ h⟩;simp only[Ei];split
  ·grind
  rename_i e;rw[Og L (show Cy L s (k+1)<L.length by have:=hb.le;omega)];refine List.Sublist.append ?_ (List.Sublist.refl _);refine ih.1.trans ?_;exact List.take_sublist_take_left o_
theorem Hf{L}(g:Bq L) a:(Do L a).Sublist L:=by
 unfold Do;split
 ·grind
 rename_i h;have c:3<=L.length:=o_;have b:=Za7 g (max a 2).toNat c ((max a 2).toNat-2);have e:L=L.take (L.length-1+1):=by rw[List.take_of_length_le o_]
 conv=>rhs;rw[e]
 rw[Og L (show L.length-1<L.length by omega)];refine List.Sublist.append (b.1.trans ?_) (List.Sublist.refl _)
 grind
def Lx(L:List Ct)(s k i:Nat):Int:=if Il L i*(s-1)-2*k*Ae L<0 then -(Il L i*(s-1)-2*k*Ae L) else Il L i*(s-1)-2*k*Ae L
def rv{L}(g:Bq L){s k i j}(c:2<=s)(a:i<j)(h:j<L.length):Lx L s k j<Lx L s k i↔(Il L i+Il L j)*(s-1)<4*k*Ae L:=by
 have b:=Zh9 g a h;have d:_<_*((s:Int)-1):=Int.mul_lt_mul_of_pos_right b o_
 grind [Lx]
def Zct{L}(g:Bq L){s k i}(d:2<=s)(j:2<=i)(l:i+1<L.length):(if Lx L s k i<Lx L s k (min (i-1) (Cy L s k)) then i else min (i-1) (Cy L s k))=min i (Cy L s k):=by
 have c:=Fl L s k o_
 by_cases h:i-1<Cy L s k
 rw[show min (i-1) (Cy L s k)=i-1 by omega];have b:=c.yes _ o_ h;unfold Pa at b;rw[decide_eq_true_eq,show i-1+1=i by omega] at b;rw[if_pos ((rv g d (show i-1<i by omega) o_).2 b)];omega;rw[show min (i-1) (Cy L s k)=Cy L s k by omega];rw[if_neg,show min i (Cy L s k)=Cy L s k by omega];rw[rv g d (show Cy L s k<i by omega) o_]
 have a:Pa L s k (Cy L s k)=false:=by
  rcases c.no with e|e
  omega;exact e
 unfold Pa at a;rw[decide_eq_false_iff_not] at a
 have f:Il L (Cy L s k+1)<=Il L i:=by
  by_cases e:Cy L s k+1=i
  ·grind
  exact Int.le_of_lt (Zh9 g o_ o_)
 have:(Il L (Cy L s k)+Il L (Cy L s k+1))*((s:Int)-1)<=(Il L (Cy L s k)+Il L i)*((s:Int)-1):=Int.mul_le_mul_of_nonneg_right o_ o_;omega
def Ja(L:List Ct)(s k i:Nat):Bool:=(List.range k).any λj=>Cy L s (j+1)==i
def Zec{L}(g:Bq L) s (h:3<=L.length):∀d k,Cy L s k<=Cy L s (k+d)
 |0,_=>Nat.le_refl _
 |d+1,k=>Nat.le_trans (Zec g s h d k) (Wh g s (k+d) h)
def Zgt{L}(g:Bq L) s k (h:3<=L.length):Ja L s k (Cy L s (k+1))=decide (Cy L s (k+1)=Jx L s k):=by
 have a:=(Fl L s (k+1) h).pos;rw[Bool.eq_iff_iff,decide_eq_true_eq];unfold Ja;rw[List.any_eq_true];constructor
 ·rintro⟨j,b,e⟩;simp at b e;have c:=Zec g s h (k-(j+1)) (j+1)
  grind [Wh,Jx]
 intro e;unfold Jx at e;split at e;omega;exact⟨k-1,t_,w_⟩
def ZdT L s k i:Ja L s (k+1) i=(Ja L s k i||Cy L s (k+1)==i):=by grind [Ja]
def ZhK{x whole rest a b:Int}(d:0<a)(g:0<=rest)(e:rest<a)(f:whole*a+rest=b):x<(if 0<rest then whole+1 else whole)↔x*a<b:=by constructor;intro h;split at h;have:x*a<=whole*a:=Int.mul_le_mul_of_nonneg_right o_ o_;omega;have:x*a<whole*a:=Int.mul_lt_mul_of_pos_right h d;omega;intro h;split;have c:x*a<(whole+1)*a:=(by rw[Int.add_mul];omega);exact Int.lt_of_mul_lt_mul_right c o_;have c:x*a<whole*a:=o_;exact Int.lt_of_mul_lt_mul_right c o_
def ZhL{L:List Ct}{U:List Int}(a:L.Pairwise λe f=>e.v<f.v/\e.lo+e.wt<=f.lo/\e.hi<=f.hi-f.wt)(c:∀e∈L,e.v∈U):L.length<=U.length:=by
 induction L generalizing U with
 |nil=>simp
 | cons e L ih=>
  rw[List.pairwise_cons] at a;have g:=c e s_
  have d:=ih (U:=U.erase _) a.2 (λf hf=>by
   have b:f.v≠e.v:=by have:=(a.1 f hf).1;omega
   exact(List.mem_erase_of_ne b).2 (c f (by simp[hf])))
  grind
def Bq.len{L}(g:Bq L){U:List Int}(hU:∀e∈L,e.v∈U):L.length<=U.length:=ZhL g.step hU
def ZfM:List (Int×Int)->Int->Int
  |[],_=>0
  |p::r,x=>(if p.1<x then p.2 else 0)+ZfM r x
structure bh(ps)(L:List Ct):Prop where
 each:∀e∈L,e.lo<=ZfM ps e.v/\ZfM ps e.v+No ps e.v<=e.hi/\e.wt<=No ps e.v
 least:∀q∈ps,∃e∈L,e.v<=q.1
 most:∀q∈ps,∃e∈L,q.1<=e.v
 total:Ae L=By ps
theorem Rq a b:∀n i j,a.length-i+(b.length-j)<=n->(∀k,i<=k->k<a.length->∃f∈Dw a b n i j,f.v=(a.getD k e0).v)/\(∀k,j<=k->k<b.length->∃f∈Dw a b n i j,f.v=(b.getD k e0).v)
 |0,i,j,h=>⟨λk h1 h2=>o_,λk h1 h2=>o_⟩
 | n + 1,i,j,h=>by
  simp only[Dw];split
  ·rename_i c;obtain⟨p,q⟩:=Rq a b n (i+1) j o_;refine⟨λk h1 h2=>?_,λk h1 h2=>?_⟩
   ·by_cases e:k=i
    subst e;exact⟨_,List.mem_cons_self,rfl⟩
    grind
   grind
  rename_i c;split
  ·rename_i d;obtain⟨p,q⟩:=Rq a b n i (j+1) o_;refine⟨λk h1 h2=>?_,λk h1 h2=>?_⟩
   ·grind
   by_cases e:k=j
   subst e;exact⟨_,List.mem_cons_self,rfl⟩
   grind
  rename_i d;split
  ·rename_i m
   have hv:(a.getD i e0).v=(b.getD j e0).v:=by
    rcases Int.lt_trichotomy (a.getD i e0).v (b.getD j e0).v with h|h|h
    omega;exact h;omega
   obtain⟨p,q⟩:=Rq a b n (i+1) (j+1) o_;refine⟨λk h1 h2=>?_,λk h1 h2=>?_⟩
   ·by_cases e:k=i
    subst e;exact⟨_,List.mem_cons_self,rfl⟩
    grind
   by_cases e:k=j
   subst e;exact⟨_,List.mem_cons_self,hv⟩
   grind
  grind
theorem ma e f L:Ae (e::f::L)=Ae (f::L):=by unfold Ae;simp[List.getD]
theorem uv e:Ae [e]=e.hi:=by simp[Ae]
theorem Yt a b:∀n i j,i<=a.length->j<=b.length->a.length-i+(b.length-j)<=n->(i<a.length∨j<b.length)->Ae (Dw a b n i j)=Ae a+Ae b
 |0,i,j,_,_,h,h'=>o_
 | n + 1,i,j,hi,hj,h,h'=>by
  have step:∀f i' j',i'<=a.length->j'<=b.length->a.length-i'+(b.length-j')<=n->(i'=a.length->j'=b.length->f.hi=Ae a+Ae b)->Ae (f::Dw a b n i' j')=Ae a+Ae b:=λf i' j' q1 q2 q3 q4=>by
   by_cases e:i'<a.length∨j'<b.length
   ·have ih:=Yt a b n _ _ q1 q2 q3 e
    cases hJ:Dw a b n i' j' with
    | nil=>
     grind [Rq]
    | cons g R=>
     rw[hJ] at ih;rw[ma];exact ih
   have hnil:Dw a b n i' j'=[]:=by
    cases n with
    |zero=>rfl
    | succ n=>
     grind [Dw]
   grind [uv]
  simp only[Dw];split
  ·grind [Ae,seen,Dm]
  rename_i c;split
  ·grind [Ae,seen,Dm]
  grind [Ae,Li]
def Zh8{L:List Ct}{e}(h:e∈L):∃k,k<L.length/\L.getD k e0=e:=by obtain⟨k,a,rfl⟩:=List.getElem_of_mem h;exact⟨k,a,w_⟩
def Zb4{M}(b:M.Pairwise λp q=>p.1<q.1) q r:Pm (q::r) M=Pm r M+(if ∃p∈M,p.1=q.1 then q.2 else 0):=by
 induction M with
 |nil=>simp[Pm]
 | cons p N ih=>
  rw[List.pairwise_cons] at b;have:=ih b.2;simp only[Pm,No];rw[this]
  by_cases e:q.1=p.1
  ·rw[if_pos e];have d:¬∃x∈N,x.1=q.1:=(by rintro⟨x,a,c⟩;have:=b.1 x a;omega);have f:∃x∈p::N,_=_:=⟨p,s_,e.symm⟩
   grind
  rw[if_neg e]
  by_cases d:∃x∈N,x.1=q.1
  ·have f:∃x∈p::N,x.1=q.1:=by obtain⟨x,a,c⟩:=d;exact⟨x,by simp[a],c⟩
   grind
  grind
def Ze2{M:List (Int×Int)}(hr:M.Pairwise λp q=>p.1<q.1) x:∀ps:List (Int×Int),(∀q∈ps,∃p∈M,p.1=q.1)->Pm ps (M.filter λp=>decide (p.1<x))=ZfM ps x
 |[],_=>by simp[ZfM,lz]
 | q ::r,h=>by
  rw[Zb4 (hr.sublist List.filter_sublist),Ze2 hr x r (λy hy=>h y (by simp[hy]))];simp only[ZfM]
  by_cases c:q.1<x
  ·rw[if_pos c,if_pos ?_];omega;obtain⟨p,hp,e⟩:=h q s_
   grind
  grind
def Ze1{M:List (Int×Int)}(hr:M.Pairwise λp q=>p.1<q.1):∀ps:List (Int×Int),(∀q∈ps,∃p∈M,p.1=q.1)->Pm ps M=By ps
 |[],_=>by simp[By,lz]
 |q::r,h=>by rw[Zb4 hr,Ze1 hr r (λy hy=>h y (by simp[hy])),if_pos (h q s_)];simp only[By];omega
def ZbP{x:Int}:∀M low,M.Pairwise (λp q=>p.1<q.1)->∀e∈Bv low M,e.lo=low+By (M.filter λp=>decide (p.1<e.v))
 |[],_,_=>by simp[Bv]
 | p ::r,low,hr=>by
  rw[List.pairwise_cons] at hr;intro e he;simp only[Bv] at he
  rcases List.mem_cons.1 he with rfl|he
  ·have:(p::r).filter (λq=>decide (q.1<p.1))=[]:=by
    rw[List.filter_eq_nil_iff];intro q a
    rcases List.mem_cons.1 a with rfl|a
    simp
    grind
   grind [By]
  have d:=ZbP (x:=x) r _ hr.2 e he
  have b:p.1<e.v:=by
   have:∀(N:List (Int×Int)) (l:Int) (e:Ct),e∈Bv l N->∃q∈N,q.1=e.v:=by
    intro N
    induction N with
    |nil=>intro l e he;simp[Bv] at he
    | cons q N ih=>
     grind [Bv]
   obtain⟨q,a,c⟩:=this r _ e he;have:=hr.1 q a;omega
  grind [By]
def Ru:∀(M:List (Int×Int)) (low:Int),(∀e∈Bv low M,∃p∈M,p.1=e.v/\p.2=e.wt/\e.hi=e.lo+e.wt)/\(∀p∈M,∃e∈Bv low M,e.v=p.1)/\(M≠[]->Ae (Bv low M)=low+By M)
  |[],low=>by simp[Bv]
  | p ::r,low=>by
    obtain⟨h1,h2,h3⟩:=Ru r (low+p.2);refine⟨λe he=>?_,λq hq=>?_,λ_=>?_⟩
    · grind [Bv]
    · simp only[Bv]
      grind [List.mem_cons_self]
    cases r with
    |nil=>simp[Bv,uv,By]
    | cons q r=>
      grind [Bv,ma,By]
def bh.of_sum{b M}(h:Ed b M):bh b (Bv 0 M):=by
 obtain⟨g,i,d⟩:=Ru M 0;have c:∀N:_,(∀p∈N,_)->_:=λN hN=>Wd (λp a=>h.wt p (hN p a));refine⟨λe he=>?_,λq hq=>?_,λq hq=>?_,?_⟩
 ·obtain⟨p,a,k,j,l⟩:=g e he;have f:=ZbP (x:=0) M 0 h.rise e he;rw[c _ (λp a=>(List.mem_filter.1 a).1),Ze2 h.rise e.v b h.all] at f;have:=h.wt p a
  grind
 ·obtain⟨p,a,e⟩:=h.all q hq
  grind
 ·obtain⟨p,a,e⟩:=h.all q hq
  grind
 by_cases e:M=[]
 ·subst e
  have:b=[]:=by
   cases b with
   |nil=>rfl
   |cons q r=>obtain⟨p,a,_⟩:=h.all q s_;cases a
  subst this;rfl
 rw[d e,c M (λ_ x=>x),Ze1 h.rise b h.all];omega
end Go.Proofs.YtfcgnpchbcmdeaaGreat
