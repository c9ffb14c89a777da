namespace Go.Proofs.YtfcgnpchbcmdeaaGreat
set_option linter.unusedSimpArgs false
structure Zm where
 v:Int
 lo:Int
 hi:Int
 wt:Int
def Q1(z:Int):Int:=if 1000000000<z then 1000000000 else if z< -1000000000 then -1000000000 else z
def Zbw(z:Int):Int:=if z<1∨1000<z then 1 else z
def Zg(vs ws:List Int):List (Int×Int):=(List.zip vs ws).map fun p=>(Q1 p.1,Zbw p.2)
theorem Za1(vs ws:List Int):(Zg vs ws).length=min vs.length ws.length:=by simp[Zg]
def wOf:List (Int×Int)->Int->Int
  |[],_=>0
  |p::r,v=>(if p.1=v then p.2 else 0)+wOf r v
theorem ZfX(a b:List (Int×Int))(v:Int):wOf (a++b) v=wOf a v+wOf b v:=by
 induction a with
 |nil=>simp[wOf]
 |cons p r ih=>simp only[List.cons_append,wOf,ih];omega
theorem Znx{a b:List (Int×Int)}(h:a.Perm b)(v:Int):wOf a v=wOf b v:=by
 induction h with
 |nil=>rfl
 |cons x _ ih=>simp only[wOf,ih]
 |swap x y l=>simp only[wOf];omega
 |trans _ _ h1 h2=>exact h1.trans h2
theorem Zjd{a:List (Int×Int)}{v:Int}(h:∀p∈a,p.1≠v):wOf a v=0:=by
 induction a with
 |nil=>rfl
 |cons p r ih=>simp only[wOf];rw[if_neg (h p (by simp)),ih (fun q hq=>h q (by simp[hq]))];rfl
structure Ys(ps M:List (Int×Int)):Prop where
 rise:M.Pairwise fun p q=>p.1<q.1
 sub:∀p∈M,∃q∈ps,q.1=p.1
 all:∀q∈ps,∃p∈M,p.1=q.1
 wt:∀p∈M,p.2=wOf ps p.1
theorem Zlc:∀{M N:List (Int×Int)},M.Pairwise (fun p q=>p.1<q.1)->N.Pairwise (fun p q=>p.1<q.1)->(∀p,p∈M↔p∈N)->M=N
 |[],[],_,_,_=>rfl
 |[],q::_,_,_,h=>absurd ((h q).2 (by simp)) (by simp)
 |p::_,[],_,_,h=>absurd ((h p).1 (by simp)) (by simp)
 | p ::M,q::N,hM,hN,h=>by
  rw[List.pairwise_cons] at hM hN
  have hpq:p=q:=by
   rcases List.mem_cons.1 ((h p).1 (by simp)) with e|e
   exact e
   rcases List.mem_cons.1 ((h q).2 (by simp)) with e'|e'
   exact e'.symm;have h1:=hN.1 p e;have h2:=hM.1 q e';omega
  subst hpq;congr 1;refine Zlc hM.2 hN.2 fun r=>⟨fun hr=>?_,fun hr=>?_⟩
  ·rcases List.mem_cons.1 ((h r).1 (by simp[hr])) with e|e
   have:=hM.1 r hr;rw[e] at this;omega;exact e
  rcases List.mem_cons.1 ((h r).2 (by simp[hr])) with e|e
  have:=hN.1 r hr;rw[e] at this;omega;exact e
theorem Ys.unique{ps M N:List (Int×Int)}(hM:Ys ps M)(hN:Ys ps N):M=N:=by refine Zlc hM.rise hN.rise fun p=>⟨fun hp=>?_,fun hp=>?_⟩;obtain⟨q,hq,e⟩:=hM.sub p hp;obtain⟨r,hr,e'⟩:=hN.all q hq;have hpr:p=r:=Prod.ext (by omega) (by rw[hM.wt p hp,hN.wt r hr,e',e]);exact hpr ▸ hr;obtain⟨q,hq,e⟩:=hN.sub p hp;obtain⟨r,hr,e'⟩:=hM.all q hq;have hpr:p=r:=Prod.ext (by omega) (by rw[hN.wt p hp,hM.wt r hr,e',e]);exact hpr ▸ hr
theorem Ys.perm{ps qs M:List (Int×Int)}(h:Ys ps M)(hp:ps.Perm qs):Ys qs M:=
 ⟨h.rise,fun p hpM=>let ⟨q,hq,e⟩:=h.sub p hpM;⟨q,hp.mem_iff.1 hq,e⟩,fun q hq=>h.all q (hp.mem_iff.2 hq),fun p hpM=>(h.wt p hpM).trans (Znx hp _)⟩
theorem Ys.more{ps M:List (Int×Int)}(h:Ys ps M)(p:Int×Int)(hle:∀q∈ps,q.1<p.1):Ys (ps++[p]) (M++[p]):=by
 refine⟨?_,?_,?_,?_⟩;rw[List.pairwise_append];refine⟨h.rise,by simp,fun a ha b hb=>?_⟩;simp at hb;subst hb;obtain⟨q,hq,e⟩:=h.sub a ha;have:=hle q hq;omega
 ·intro a ha
  rcases List.mem_append.1 ha with ha|ha
  obtain⟨q,hq,e⟩:=h.sub a ha;exact⟨q,by simp[hq],e⟩;simp at ha;subst ha;exact⟨a,by simp,rfl⟩
 ·intro q hq
  rcases List.mem_append.1 hq with hq|hq
  obtain⟨a,ha,e⟩:=h.all q hq;exact⟨a,by simp[ha],e⟩;simp at hq;subst hq;exact⟨q,by simp,rfl⟩
 intro a ha;rw[ZfX]
 rcases List.mem_append.1 ha with ha|ha
 obtain⟨q,hq,e⟩:=h.sub a ha;have:=hle q hq;simp only[wOf];rw[if_neg (by omega),h.wt a ha];omega;simp at ha;subst ha;rw[Zjd (fun q hq=>by have:=hle q hq;omega)];simp[wOf]
theorem Ys.same{ps M:List (Int×Int)}{v w:Int}(h:Ys ps (M++[(v,w)]))(u:Int):Ys (ps++[(v,u)]) (M++[(v,w+u)]):=by
 have hr:=h.rise;rw[List.pairwise_append] at hr;refine⟨?_,?_,?_,?_⟩;rw[List.pairwise_append];refine⟨hr.1,by simp,fun a ha b hb=>?_⟩;simp at hb;subst hb;exact hr.2.2 a ha (v,w) (by simp)
 ·intro a ha
  rcases List.mem_append.1 ha with ha|ha
  obtain⟨q,hq,e⟩:=h.sub a (by simp[ha]);exact⟨q,by simp[hq],e⟩;simp at ha;subst ha;exact⟨(v,u),by simp,rfl⟩
 ·intro q hq
  rcases List.mem_append.1 hq with hq|hq
  ·obtain⟨a,ha,e⟩:=h.all q hq
   rcases List.mem_append.1 ha with ha|ha
   exact⟨a,by simp[ha],e⟩;simp at ha;subst ha;exact⟨(v,w+u),by simp,e⟩
  simp at hq;subst hq;exact⟨(v,w+u),by simp,rfl⟩
 intro a ha;rw[ZfX]
 rcases List.mem_append.1 ha with ha|ha
 have:=hr.2.2 a ha (v,w) (by simp);simp only[wOf];simp only at this;rw[if_neg (by omega),h.wt a (by simp[ha])];omega;simp at ha;subst ha;have:=h.wt (v,w) (by simp);simp only[wOf,if_true] at *;omega
theorem Ys.nil:Ys [] []:=⟨by simp,by simp,by simp,by simp⟩
def ZN:Int->List (Int×Int)->List Zm
  |_,[]=>[]
  |low,p::r=>⟨p.1,low,low+p.2,p.2⟩::ZN (low+p.2) r
def ZY:List (Int×Int)->Int
  |[]=>0
  |p::r=>p.2+ZY r
theorem Zel(a b:List (Int×Int)):ZY (a++b)=ZY a+ZY b:=by
 induction a with
 |nil=>simp[ZY]
 |cons p r ih=>simp only[List.cons_append,ZY,ih];omega
theorem ZhI(low:Int)(a b:List (Int×Int)):ZN low (a++b)=ZN low a++ZN (low+ZY a) b:=by
 induction a generalizing low with
 |nil=>simp[ZN,ZY]
 |cons p r ih=>simp only[List.cons_append,ZN,ih,ZY];rw[show low+p.2+ZY r=low+(p.2+ZY r) by omega]
theorem ZgV(low:Int)(a:List (Int×Int)):(ZN low a).length=a.length:=by
 induction a generalizing low with
 |nil=>rfl
 |cons p r ih=>simp[ZN,ih]
structure Zy(L:List Zm):Prop where
 each:∀e∈L,0<=e.lo/\1<=e.wt/\e.lo+e.wt<=e.hi/\e.hi<=1000000000000/\ -1000000000<=e.v/\e.v<=1000000000
 step:L.Pairwise fun e f=>e.v<f.v/\e.lo+e.wt<=f.lo/\e.hi<=f.hi-f.wt
theorem Zy.nil:Zy []:=⟨by simp,by simp⟩
theorem Zy.sub{L M:List Zm}(h:Zy L)(hs:M.Sublist L):Zy M:=⟨fun e he=>h.each e (hs.subset he),h.step.sublist hs⟩
theorem Zi0{low:Int}{a:List (Int×Int)}(hp:∀p∈a,1<=p.2):∀e∈ZN low a,low<=e.lo/\e.hi=e.lo+e.wt/\e.hi<=low+ZY a/\∃p∈a,p.1=e.v/\p.2=e.wt:=by
 induction a generalizing low with
 |nil=>simp[ZN]
 | cons p r ih=>
  intro e he;have hp1:=hp p (by simp)
  have hpos:0<=ZY r:=by
   clear ih he hp1
   induction r with
   |nil=>simp[ZY]
   |cons q r ih=>simp only[ZY];have:=hp q (by simp);have:=ih (fun x hx=>hp x (by simp at hx ⊢;rcases hx with h|h<;>simp[h]));omega
  rcases List.mem_cons.1 he with rfl|he
  refine⟨?_,?_,?_,p,by simp,rfl,rfl⟩;exact Int.le_refl _;rfl;simp only[ZY];omega;obtain⟨h1,h2,h3,q,hq,e1,e2⟩:=ih (fun x hx=>hp x (by simp[hx])) e he;simp only[ZY];exact⟨by omega,h2,by omega,q,by simp[hq],e1,e2⟩
theorem Zl9{low:Int}{a:List (Int×Int)}(hp:∀p∈a,1<=p.2)(hr:a.Pairwise fun p q=>p.1<q.1):(ZN low a).Pairwise fun e f=>e.v<f.v/\e.lo+e.wt<=f.lo/\e.hi<=f.hi-f.wt:=by
 induction a generalizing low with
 |nil=>simp[ZN]
 | cons p r ih=>
  rw[List.pairwise_cons] at hr;simp only[ZN];rw[List.pairwise_cons];refine⟨fun f hf=>?_,ih (fun x hx=>hp x (by simp[hx])) hr.2⟩;obtain⟨h1,h2,_,q,hq,e1,e2⟩:=Zi0 (fun x hx=>hp x (by simp[hx])) f hf;have:=hr.1 q hq;simp only;omega
theorem Zl8{a:List (Int×Int)}(hp:∀p∈a,1<=p.2)(hr:a.Pairwise fun p q=>p.1<q.1)(hv:∀p∈a,-1000000000<=p.1/\p.1<=1000000000)(hs:ZY a<=1000000000000):Zy (ZN 0 a):=by refine⟨fun e he=>?_,Zl9 hp hr⟩;obtain⟨h1,h2,h3,q,hq,e1,e2⟩:=Zi0 hp e he;have:=hv q hq;have:=hp q hq;omega
theorem ZhQ{ps:List (Int×Int)}(hp:∀p∈ps,1<=p.2):∀v,0<=wOf ps v:=by
 induction ps with
 |nil=>intro v;simp[wOf]
 | cons p r ih=>
  intro v;have h1:=ih (fun q hq=>hp q (by simp[hq])) v;have h2:=hp p (by simp);simp only[wOf];split<;>omega
theorem Zo7{ps:List (Int×Int)}(hp:∀p∈ps,1<=p.2):∀q∈ps,1<=wOf ps q.1:=by
 induction ps with
 |nil=>simp
 | cons p r ih=>
  intro q hq;have h2:=hp p (by simp);simp only[wOf]
  rcases List.mem_cons.1 hq with rfl|hq
  have:=ZhQ (fun x hx=>hp x (List.mem_cons_of_mem _ hx)) q.1;simp;omega;have:=ih (fun x hx=>hp x (by simp[hx])) q hq;split<;>omega
def ZbI(ps:List (Int×Int)):List (Int×Int)->Int
 |[]=>0
 |p::M=>wOf ps p.1+ZbI ps M
theorem Zmm(q:Int×Int)(r M:List (Int×Int))(hq:0<=q.2)(hr:M.Pairwise fun p q=>p.1<q.1):ZbI (q::r) M<=ZbI r M+q.2/\((∀p∈M,p.1≠q.1)->ZbI (q::r) M=ZbI r M):=by
 induction M with
 |nil=>simp[ZbI];exact hq
 | cons p M ih=>
  rw[List.pairwise_cons] at hr;have ih:=ih hr.2;simp only[ZbI,wOf]
  by_cases h:q.1=p.1
  have:=ih.2 (fun x hx e=>by have:=hr.1 x hx;omega);rw[if_pos h];exact⟨by omega,fun hn=>absurd h.symm (hn p (by simp))⟩;rw[if_neg h];exact⟨by omega,fun hn=>by have:=ih.2 (fun x hx=>hn x (by simp[hx]));omega⟩
theorem ZfV(M:List (Int×Int)):ZbI [] M=0:=by
 induction M with
 |nil=>rfl
 |cons p M ih=>simp[ZbI,wOf,ih]
theorem Zlg{ps M:List (Int×Int)}(hp:∀p∈ps,1<=p.2)(hr:M.Pairwise fun p q=>p.1<q.1):ZbI ps M<=ZY ps:=by
 induction ps with
 |nil=>simp[ZfV,ZY]
 | cons q r ih=>
  have h1:=(Zmm q r M (by have:=hp q (by simp);omega) hr).1;have h2:=ih (fun x hx=>hp x (by simp[hx]));simp only[ZY];omega
theorem ZfM{ps M:List (Int×Int)}(h:∀p∈M,p.2=wOf ps p.1):ZY M=ZbI ps M:=by
 induction M with
 |nil=>rfl
 |cons p M ih=>simp only[ZY,ZbI];rw[h p (by simp),ih (fun x hx=>h x (by simp[hx]))]
theorem ZeN{ps:List (Int×Int)}(hp:∀p∈ps,p.2<=1000):ZY ps<=1000*ps.length:=by
 induction ps with
 |nil=>simp[ZY]
 | cons q r ih=>
  have h1:=hp q (by simp);have h2:=ih (fun x hx=>hp x (by simp[hx]));simp only[ZY,List.length_cons];omega
theorem Zlv(z:Int):1<=Zbw z/\Zbw z<=1000:=by unfold Zbw;split<;>omega
theorem Zlu(z:Int): -1000000000<=Q1 z/\Q1 z<=1000000000:=by unfold Q1;split<;>(try split)<;>omega
theorem Zcd{vs ws:List Int}{p:Int×Int}(h:p∈Zg vs ws):(1<=p.2/\p.2<=1000)/\(-1000000000<=p.1/\p.1<=1000000000)/\∃z∈vs,p.1=Q1 z:=by unfold Zg at h;obtain⟨q,hq,rfl⟩:=List.mem_map.1 h;exact⟨Zlv _,Zlu _,q.1,(List.of_mem_zip hq).1,rfl⟩
theorem Ys.good{vs ws:List Int}{M:List (Int×Int)}(h:Ys (Zg vs ws) M)(hl:vs.length<=2097152):Zy (ZN 0 M):=by have hp:∀p∈Zg vs ws,1<=p.2:=fun p hp=>(Zcd hp).1.1;refine Zl8 ?_ h.rise ?_ ?_;intro p hpM;obtain⟨q,hq,e⟩:=h.sub p hpM;rw[h.wt p hpM,<- e];exact Zo7 hp q hq;intro p hpM;obtain⟨q,hq,e⟩:=h.sub p hpM;have:=(Zcd hq).2.1;omega;have h1:=Zlg hp h.rise;have h2:=ZeN (fun p hp=>(Zcd hp).1.2:∀p∈Zg vs ws,p.2<=1000);rw[ZfM h.wt];have h3:(Zg vs ws).length<=2097152:=(by rw[Za1];omega);omega
def e0:Zm:=⟨0,0,0,0⟩
def Zc(L:List Zm):Int:=if L.length=0 then 0 else(L.getD (L.length-1) e0).hi
def Ye(L:List Zm)(j:Nat):Int:=if j=0 then 0 else(L.getD (j-1) e0).lo+(L.getD (j-1) e0).wt
def Yy(L:List Zm)(j:Nat):Int:=if j=L.length then Zc L else(L.getD j e0).hi-(L.getD j e0).wt
def seen(o:List Zm)(j:Nat)(e:Zm):Zm:=⟨e.v,e.lo+Ye o j,e.hi+Yy o j,e.wt⟩
def Zan(e f:Zm):Zm:=⟨e.v,e.lo+f.lo,e.hi+f.hi,e.wt+f.wt⟩
def YD(a b:List Zm):Nat->Nat->Nat->List Zm
 |0,_,_=>[]
 | n+1,i,j=>
  if i<a.length/\(j<b.length->(a.getD i e0).v<(b.getD j e0).v) then seen b j (a.getD i e0)::YD a b n (i+1) j
  else if j<b.length/\(i<a.length->(b.getD j e0).v<(a.getD i e0).v) then seen a i (b.getD j e0)::YD a b n i (j+1)
  else if i<a.length/\j<b.length then Zan (a.getD i e0) (b.getD j e0)::YD a b n (i+1) (j+1)
  else[]
def Zr(a b:List Zm):List Zm:=YD a b (a.length+b.length) 0 0
theorem ZbB(a b:List Zm):∀n m i j,a.length-i+(b.length-j)<=n->a.length-i+(b.length-j)<=m->YD a b n i j=YD a b m i j
 |0,0,_,_,_,_=>rfl
 |0,m+1,i,j,h,_=>by simp only[YD];rw[if_neg (by omega),if_neg (by omega),if_neg (by omega)]
 |n+1,0,i,j,_,h=>by simp only[YD];rw[if_neg (by omega),if_neg (by omega),if_neg (by omega)]
 |n+1,m+1,i,j,h,h'=>by simp only[YD];split;rw[ZbB a b n m (i+1) j (by omega) (by omega)];split;rw[ZbB a b n m i (j+1) (by omega) (by omega)];split;rw[ZbB a b n m (i+1) (j+1) (by omega) (by omega)];rfl
def Za3(a b:List Zm)(i j:Nat):List Zm:=YD a b (a.length-i+(b.length-j)) i j
theorem Zke(a b:List Zm):Za3 a b 0 0=Zr a b:=by unfold Za3 Zr;simp
theorem Zop{a b:List Zm}{i j:Nat}(hi:i<a.length)(h:j<b.length->(a.getD i e0).v<(b.getD j e0).v):Za3 a b i j=seen b j (a.getD i e0)::Za3 a b (i+1) j:=by unfold Za3;rw[show a.length-i+(b.length-j)=(a.length-(i+1)+(b.length-j))+1 by omega];simp only[YD];rw[if_pos ⟨hi,h⟩]
theorem Zoq{a b:List Zm}{i j:Nat}(hj:j<b.length)(h:i<a.length->(b.getD j e0).v<(a.getD i e0).v):Za3 a b i j=seen a i (b.getD j e0)::Za3 a b i (j+1):=by unfold Za3;rw[show a.length-i+(b.length-j)=(a.length-i+(b.length-(j+1)))+1 by omega];simp only[YD];rw[if_neg (fun hc=>by have h1:=hc.2 hj;have h2:=h hc.1;omega),if_pos ⟨hj,h⟩]
theorem Zno{a b:List Zm}{i j:Nat}(hi:i<a.length)(hj:j<b.length)(h:(a.getD i e0).v=(b.getD j e0).v):Za3 a b i j=Zan (a.getD i e0) (b.getD j e0)::Za3 a b (i+1) (j+1):=by unfold Za3;rw[show a.length-i+(b.length-j)=(a.length-(i+1)+(b.length-(j+1))+1)+1 by omega];simp only[YD];rw[if_neg (fun hc=>by have h1:=hc.2 hj;omega),if_neg (fun hc=>by have h1:=hc.2 hi;omega),if_pos ⟨hi,hj⟩];congr 1;exact ZbB a b (a.length-(i+1)+(b.length-(j+1))+1) (a.length-(i+1)+(b.length-(j+1))) (i+1) (j+1) (by omega) (by omega)
theorem ZgW{a b:List Zm}{i j:Nat}(hi:¬i<a.length)(hj:¬j<b.length):Za3 a b i j=[]:=by unfold Za3;rw[show a.length-i+(b.length-j)=0 by omega];rfl
theorem Zdk{L:List Zm}{i:Nat}(h:i<L.length):L.getD i e0∈L:=by simp[List.getD,h]
theorem Zy.at{L:List Zm}(g:Zy L){i:Nat}(h:i<L.length):0<=(L.getD i e0).lo/\1<=(L.getD i e0).wt/\(L.getD i e0).lo+(L.getD i e0).wt<=(L.getD i e0).hi/\(L.getD i e0).hi<=1000000000000/\ -1000000000<=(L.getD i e0).v/\(L.getD i e0).v<=1000000000:=g.each _ (Zdk h)
theorem Zy.lt{L:List Zm}(g:Zy L){i j:Nat}(hij:i<j)(h:j<L.length):(L.getD i e0).v<(L.getD j e0).v/\(L.getD i e0).lo+(L.getD i e0).wt<=(L.getD j e0).lo/\(L.getD i e0).hi<=(L.getD j e0).hi-(L.getD j e0).wt:=by have:=List.pairwise_iff_getElem.1 g.step i j (by omega) h hij;have e1:L.getD i e0=L[i]'(by omega):=(by simp[List.getD,show i<L.length by omega]);have e2:L.getD j e0=L[j]:=(by simp[List.getD,h]);rw[e1,e2];exact this
theorem Q4{L:List Zm}(g:Zy L){i:Nat}(h:i<L.length):(L.getD i e0).hi<=Yy L (i+1)/\Yy L i<=Yy L (i+1)/\Yy L i=(L.getD i e0).hi-(L.getD i e0).wt:=by
 have a:=g.at h;have e:Yy L i=(L.getD i e0).hi-(L.getD i e0).wt:=by unfold Yy;rw[if_neg (by omega)]
 have k:(L.getD i e0).hi<=Yy L (i+1):=(by unfold Yy;split;unfold Zc;rw[if_neg (by omega)];rw[show L.length-1=i by omega];exact Int.le_refl _;exact(g.lt (show i<i+1 by omega) (by omega)).2.2);exact⟨k,by omega,e⟩
theorem ZaF{L:List Zm}(g:Zy L){i:Nat}(h:i<L.length):Ye L i<=(L.getD i e0).lo/\Ye L (i+1)=(L.getD i e0).lo+(L.getD i e0).wt:=by refine⟨?_,by unfold Ye;simp⟩;unfold Ye;split;exact(g.at h).1;exact(g.lt (show i-1<i by omega) h).2.1
theorem Zbr{L:List Zm}(g:Zy L){i:Nat}(h:i<L.length):(L.getD i e0).hi<=Zc L:=by
 unfold Zc;rw[if_neg (by omega)]
 by_cases e:i=L.length-1
 rw[e];exact Int.le_refl _;have h1:=(g.lt (show i<L.length-1 by omega) (by omega)).2.2;have h2:=g.at (show L.length-1<L.length by omega);omega
theorem ZhH{L:List Zm}(g:Zy L){j:Nat}(h:j<=L.length):Yy L j<=Zc L/\0<=Ye L j/\Ye L j<=Yy L j:=by
 by_cases e:j=L.length
 have hp:Yy L j=Zc L:=(by unfold Yy;rw[if_pos e]);rw[hp];refine⟨Int.le_refl _,?_,?_⟩;unfold Ye;split;omega;have:=g.at (show j-1<L.length by omega);omega;unfold Ye Zc;split;rw[if_pos (by omega)];omega;have:=g.at (show j-1<L.length by omega);rw[if_neg (by omega),<- e];omega;have hj:j<L.length:=(by omega);have h1:=Q4 g hj;have h2:=Zbr g hj;have h3:=g.at hj;have h4:=ZaF g hj;refine⟨by omega,?_,?_⟩;unfold Ye;split;omega;have:=g.at (show j-1<L.length by omega);omega;unfold Ye;split;omega;have:=g.lt (show j-1<j by omega) hj;have:=g.at (show j-1<L.length by omega);omega
structure Zkz(a b:List Zm)(i j:Nat)(f:Zm):Prop where
 lo:Ye a i+Ye b j<=f.lo
 hi:Yy a i+Yy b j<=f.hi-f.wt
 top:f.hi<=Zc a+Zc b
 wt:1<=f.wt
 rng:f.lo+f.wt<=f.hi
 va:0<i->(a.getD (i-1) e0).v<f.v
 vb:0<j->(b.getD (j-1) e0).v<f.v
 from_:(∃e∈a,e.v=f.v)∨∃e∈b,e.v=f.v
theorem Zkz.back{a b:List Zm}(ga:Zy a)(gb:Zy b){i j i' j':Nat}{f:Zm}(h:Zkz a b i' j' f)(hi:i<=i')(hj:j<=j')(hi2:i'<=i+1)(hj2:j'<=j+1)(hil:i'<=a.length)(hjl:j'<=b.length):Zkz a b i j f:=by
 have ka:Ye a i<=Ye a i'/\Yy a i<=Yy a i'/\(0<i->(a.getD (i-1) e0).v<f.v):=by
  by_cases e:i'=i
  subst e;exact⟨Int.le_refl _,Int.le_refl _,h.va⟩;obtain rfl:i'=i+1:=(by omega);have h1:=ZaF ga (show i<a.length by omega);have h2:=Q4 ga (show i<a.length by omega);have h3:=ga.at (show i<a.length by omega);refine⟨by omega,by omega,fun h0=>?_⟩;have h4:=(ga.lt (show i-1<i by omega) (by omega)).1;have h5:=h.va (by omega);simp only[Nat.add_sub_cancel] at h5;omega
 have kb:Ye b j<=Ye b j'/\Yy b j<=Yy b j'/\(0<j->(b.getD (j-1) e0).v<f.v):=by
  by_cases e:j'=j
  subst e;exact⟨Int.le_refl _,Int.le_refl _,h.vb⟩;obtain rfl:j'=j+1:=(by omega);have h1:=ZaF gb (show j<b.length by omega);have h2:=Q4 gb (show j<b.length by omega);have h3:=gb.at (show j<b.length by omega);refine⟨by omega,by omega,fun h0=>?_⟩;have h4:=(gb.lt (show j-1<j by omega) (by omega)).1;have h5:=h.vb (by omega);simp only[Nat.add_sub_cancel] at h5;omega
 have h1:=h.lo;have h2:=h.hi;exact⟨by omega,by omega,h.top,h.wt,h.rng,ka.2.2,kb.2.2,h.from_⟩
def ZkD(e f:Zm):Prop:=e.v<f.v/\e.lo+e.wt<=f.lo/\e.hi<=f.hi-f.wt
theorem Zac{a b:List Zm}(ga:Zy a)(gb:Zy b):∀n i j,i<=a.length->j<=b.length->(i<a.length->0<j->(b.getD (j-1) e0).v<(a.getD i e0).v)->(j<b.length->0<i->(a.getD (i-1) e0).v<(b.getD j e0).v)->(∀f∈YD a b n i j,Zkz a b i j f)/\(YD a b n i j).Pairwise ZkD
 |0,i,j,_,_,_,_=>by simp[YD]
 | n + 1,i,j,hi,hj,hva,hvb=>by
  simp only[YD];split
  ·rename_i h;have a1:=ga.at h.1;have a2:=ZaF ga h.1;have a3:=Q4 ga h.1;have a4:=Zbr ga h.1;have b1:=ZhH gb hj;have ih:=Zac ga gb n (i+1) j (by omega) hj (fun h1 h0=>by have:=hva h.1 h0;have:=(ga.lt (show i<i+1 by omega) h1).1;omega) (fun h1 _=>by simpa using h.2 h1);refine⟨fun f hf=>?_,?_⟩
   ·rcases List.mem_cons.1 hf with rfl|hf
    refine⟨?_,?_,?_,a1.2.1,?_,?_,fun h0=>hva h.1 h0,.inl ⟨_,Zdk h.1,rfl⟩⟩;simp only[seen];omega;simp only[seen];omega;simp only[seen];omega;simp only[seen];omega;intro h0;exact(ga.lt (show i-1<i by omega) h.1).1;exact(ih.1 f hf).back ga gb (by omega) (by omega) (by omega) (by omega) (by omega) hj
   rw[List.pairwise_cons];refine⟨fun f hf=>?_,ih.2⟩;have c:=ih.1 f hf;have c1:=c.lo;have c2:=c.hi;have c3:=c.va (by omega);simp only[Nat.add_sub_cancel] at c3;unfold ZkD;simp only[seen];omega
  split
  ·rename_i _ h;have a1:=gb.at h.1;have a2:=ZaF gb h.1;have a3:=Q4 gb h.1;have a4:=Zbr gb h.1;have b1:=ZhH ga hi;have ih:=Zac ga gb n i (j+1) hi (by omega) (fun h1 _=>by simpa using h.2 h1) (fun h1 h0=>by have:=hvb h.1 h0;have:=(gb.lt (show j<j+1 by omega) h1).1;omega);refine⟨fun f hf=>?_,?_⟩
   ·rcases List.mem_cons.1 hf with rfl|hf
    refine⟨?_,?_,?_,a1.2.1,?_,fun h0=>hvb h.1 h0,?_,.inr ⟨_,Zdk h.1,rfl⟩⟩;simp only[seen];omega;simp only[seen];omega;simp only[seen];omega;simp only[seen];omega;intro h0;exact(gb.lt (show j-1<j by omega) h.1).1;exact(ih.1 f hf).back ga gb (by omega) (by omega) (by omega) (by omega) hi (by omega)
   rw[List.pairwise_cons];refine⟨fun f hf=>?_,ih.2⟩;have c:=ih.1 f hf;have c1:=c.lo;have c2:=c.hi;have c3:=c.vb (by omega);simp only[Nat.add_sub_cancel] at c3;unfold ZkD;simp only[seen];omega
  split
  ·rename_i hA hB h;have he:(a.getD i e0).v=(b.getD j e0).v:=(by have h1:¬(a.getD i e0).v<(b.getD j e0).v:=fun hc=>hA ⟨h.1,fun _=>hc⟩;have h2:¬(b.getD j e0).v<(a.getD i e0).v:=fun hc=>hB ⟨h.2,fun _=>hc⟩;omega);have a1:=ga.at h.1;have a2:=ZaF ga h.1;have a3:=Q4 ga h.1;have a4:=Zbr ga h.1;have b1:=gb.at h.2;have b2:=ZaF gb h.2;have b3:=Q4 gb h.2;have b4:=Zbr gb h.2;have ih:=Zac ga gb n (i+1) (j+1) (by omega) (by omega) (fun h1 _=>by have:=(ga.lt (show i<i+1 by omega) h1).1;simp only[Nat.add_sub_cancel];omega) (fun h1 _=>by have:=(gb.lt (show j<j+1 by omega) h1).1;simp only[Nat.add_sub_cancel];omega);refine⟨fun f hf=>?_,?_⟩
   ·rcases List.mem_cons.1 hf with rfl|hf
    refine⟨?_,?_,?_,?_,?_,?_,?_,.inl ⟨_,Zdk h.1,rfl⟩⟩;simp only[Zan];omega;simp only[Zan];omega;simp only[Zan];omega;simp only[Zan];omega;simp only[Zan];omega;intro h0;exact(ga.lt (show i-1<i by omega) h.1).1;intro h0;have:=(gb.lt (show j-1<j by omega) h.2).1;simp only[Zan];omega;exact(ih.1 f hf).back ga gb (by omega) (by omega) (by omega) (by omega) (by omega) (by omega)
   rw[List.pairwise_cons];refine⟨fun f hf=>?_,ih.2⟩;have c:=ih.1 f hf;have c1:=c.lo;have c2:=c.hi;have c3:=c.va (by omega);simp only[Nat.add_sub_cancel] at c3;unfold ZkD;simp only[Zan];omega
  simp
theorem Y6{a b:List Zm}(ga:Zy a)(gb:Zy b)(ht:Zc a+Zc b<=1000000000000):Zy (Zr a b):=by
 have h:=Zac ga gb (a.length+b.length) 0 0 (by omega) (by omega) (fun _ h=>absurd h (by omega)) (fun _ h=>absurd h (by omega));refine⟨fun f hf=>?_,h.2⟩;have c:=h.1 f hf;have c1:=c.lo;have c4:=c.top;have c5:=c.wt;have c6:=c.rng;have:Ye a 0=0:=rfl;have:Ye b 0=0:=rfl
 rcases c.from_ with⟨e,he,ev⟩|⟨e,he,ev⟩
 have:=ga.each e he;omega;have:=gb.each e he;omega
theorem ZbC{a b:List Zm}(ga:Zy a)(gb:Zy b):∀f∈Zr a b,(∃e∈a,e.v=f.v)∨∃e∈b,e.v=f.v:=by have h:=Zac ga gb (a.length+b.length) 0 0 (by omega) (by omega) (fun _ h=>absurd h (by omega)) (fun _ h=>absurd h (by omega));exact fun f hf=>(h.1 f hf).from_
def Zds(L:List Zm)(i:Nat):Int:=(L.getD i e0).lo+(L.getD i e0).hi
def Zdt(L:List Zm)(s:Nat)(k i:Nat):Bool:=decide ((Zds L i+Zds L (i+1))*((s:Int)-1)<4*(k:Int)*Zc L)
def Qn(C:Nat->Bool):Nat->Nat->Nat
 |0,i=>i
 |f+1,i=>if C i=true then Qn C f (i+1) else i
theorem Zb4(C:Nat->Bool):∀f i,i<=Qn C f i/\Qn C f i<=i+f/\(∀j,i<=j->j<Qn C f i->C j=true)/\(Qn C f i=i+f∨C (Qn C f i)=false)
 |0,i=>by simp[Qn];omega
 | f + 1,i=>by
  have ih:=Zb4 C f (i+1);simp only[Qn]
  by_cases h:C i=true
  ·rw[if_pos h];refine⟨by omega,by omega,fun j h1 h2=>?_,?_⟩
   ·by_cases e:j=i
    rw[e];exact h;exact ih.2.2.1 j (by omega) h2
   rcases ih.2.2.2 with e|e
   left;omega;right;exact e
  rw[if_neg h];exact⟨Nat.le_refl _,by omega,fun j h1 h2=>by omega,.inr (by simpa using h)⟩
def Q6(L:List Zm)(s k:Nat):Nat:=Qn (Zdt L s k) (L.length-3) 1
structure ZhX(L:List Zm)(s k r:Nat):Prop where
 pos:1<=r
 le:r+2<=L.length
 yes:∀i,1<=i->i<r->Zdt L s k i=true
 no:r+2=L.length∨Zdt L s k r=false
theorem QK (L:List Zm) (s k:Nat) (h:3<=L.length):ZhX L s k (Q6 L s k):=by
  have:=Zb4 (Zdt L s k) (L.length-3) 1;unfold Q6
  exact ⟨this.1, by omega, this.2.2.1, by rcases this.2.2.2 with e|e; · left;omega
                                          right;exact e⟩
theorem ZhX.unique{L:List Zm}{s k r q:Nat}(hr:ZhX L s k r)(hq:ZhX L s k q):r=q:=by
 rcases Nat.lt_trichotomy r q with h|h|h
 ·have h1:=hq.yes r hr.pos h
  rcases hr.no with e|e
  have:=hq.le;omega;rw[h1] at e;cases e
 exact h;have h1:=hr.yes q hq.pos h
 rcases hq.no with e|e
 have:=hr.le;omega;rw[h1] at e;cases e
theorem Yv{L:List Zm}(g:Zy L):0<=Zc L/\Zc L<=1000000000000:=by unfold Zc;split;omega;have:=g.at (show L.length-1<L.length by omega);omega
theorem ZgR{L:List Zm}(g:Zy L){s k i:Nat}(h:Zdt L s k i=true):Zdt L s (k+1) i=true:=by unfold Zdt at *;have ht:=(Yv g).1;rw[decide_eq_true_eq] at *;have:4*(k:Int)*Zc L<=4*((k+1:Nat):Int)*Zc L:=Int.mul_le_mul_of_nonneg_right (by omega) ht;omega
theorem Zln{L:List Zm}(g:Zy L)(s k:Nat)(h:3<=L.length):Q6 L s k<=Q6 L s (k+1):=by
 have h1:=QK L s k h;have h2:=QK L s (k+1) h
 by_cases hc:Q6 L s k<=Q6 L s (k+1)
 exact hc;have h3:=ZgR g (h1.yes (Q6 L s (k+1)) h2.pos (by omega))
 rcases h2.no with e|e
 have:=h1.le;omega;rw[h3] at e;cases e
def Za2(L:List Zm)(s k:Nat):Nat:=if k=0 then 0 else Q6 L s k
def YF(L:List Zm)(s:Nat):Nat->List Zm
 |0=>[L.getD 0 e0]
 |k+1=>if Q6 L s (k+1)=Za2 L s k then YF L s k else YF L s k++[L.getD (Q6 L s (k+1)) e0]
def Yz(L:List Zm)(size:Int):List Zm:=
 if(L.length:Int)<=max size 2 then L else YF L (max size 2).toNat ((max size 2).toNat-2)++[L.getD (L.length-1) e0]
theorem ZbH(L:List Zm){r:Nat}(h:r<L.length):L.take (r+1)=L.take r++[L.getD r e0]:=by rw[List.take_succ_eq_append_getElem h];simp[List.getD,h]
theorem Ziy{L:List Zm}(g:Zy L)(s:Nat)(h:3<=L.length):∀k,(YF L s k).Sublist (L.take (Za2 L s k+1))/\Za2 L s k+2<=L.length/\Za2 L s k<=Q6 L s (k+1)
 |0=>by have:=(QK L s 1 h).pos;refine⟨?_,by simp[Za2];omega,by simp[Za2]⟩;have e:=ZbH L (show 0<L.length by omega);simp only[Za2,if_true,YF];rw[e];simp
 |k+1=>by have ih:=Ziy g s h k;have hb:=QK L s (k+1) h;have hp:Za2 L s (k+1)=Q6 L s (k+1):=(by simp[Za2]);rw[hp];refine⟨?_,hb.le,Zln g s (k+1) h⟩;simp only[YF];split;rename_i e;rw[e];exact ih.1;rename_i e;rw[ZbH L (show Q6 L s (k+1)<L.length by have:=hb.le;omega)];refine List.Sublist.append ?_ (List.Sublist.refl _);refine ih.1.trans ?_;exact List.take_sublist_take_left (by omega)
theorem Q9{L:List Zm}(g:Zy L)(size:Int):(Yz L size).Sublist L:=by
 unfold Yz;split;exact List.Sublist.refl _;rename_i h;have h3:3<=L.length:=(by omega);have ks:=Ziy g (max size 2).toNat h3 ((max size 2).toNat-2);have e:L=L.take (L.length-1+1):=by rw[List.take_of_length_le (by omega)]
 conv=>rhs;rw[e]
 rw[ZbH L (show L.length-1<L.length by omega)];refine List.Sublist.append (ks.1.trans ?_) (List.Sublist.refl _);exact List.take_sublist_take_left (by omega)
theorem Zm0{x whole rest parts tot:Int}(hp:0<parts)(hr:0<=rest)(hlt:rest<parts)(he:whole*parts+rest=tot):x<(if 0<rest then whole+1 else whole)↔x*parts<tot:=by constructor;intro h;split at h;have:x*parts<=whole*parts:=Int.mul_le_mul_of_nonneg_right (by omega) (by omega);omega;have:x*parts<whole*parts:=Int.mul_lt_mul_of_pos_right h hp;omega;intro h;split;have h2:x*parts<(whole+1)*parts:=(by rw[Int.add_mul];omega);exact Int.lt_of_mul_lt_mul_right h2 (by omega);have h2:x*parts<whole*parts:=(by omega);exact Int.lt_of_mul_lt_mul_right h2 (by omega)
theorem Zm1{L:List Zm}{U:List Int}(hp:L.Pairwise fun e f=>e.v<f.v/\e.lo+e.wt<=f.lo/\e.hi<=f.hi-f.wt)(hU:∀e∈L,e.v∈U):L.length<=U.length:=by
 induction L generalizing U with
 |nil=>simp
 | cons e L ih=>
  rw[List.pairwise_cons] at hp;have h1:e.v∈U:=hU e (by simp)
  have h2:=ih (U:=U.erase e.v) hp.2 (fun f hf=>by
   have hne:f.v≠e.v:=by have:=(hp.1 f hf).1;omega
   exact(List.mem_erase_of_ne hne).2 (hU f (by simp[hf])))
  rw[List.length_erase_of_mem h1] at h2;have:0<U.length:=List.length_pos_of_mem h1;simp;omega
theorem Zy.len{L:List Zm}(g:Zy L){U:List Int}(hU:∀e∈L,e.v∈U):L.length<=U.length:=Zm1 g.step hU
def ZlQ:List (Int×Int)->Int->Int
  |[],_=>0
  |p::r,x=>(if p.1<x then p.2 else 0)+ZlQ r x
structure Zg8(ps:List (Int×Int))(L:List Zm):Prop where
 each:∀e∈L,e.lo<=ZlQ ps e.v/\ZlQ ps e.v+wOf ps e.v<=e.hi/\e.wt<=wOf ps e.v
 least:∀q∈ps,∃e∈L,e.v<=q.1
 most:∀q∈ps,∃e∈L,q.1<=e.v
 total:Zc L=ZY ps
theorem Zbn(a b:List Zm):∀n i j,a.length-i+(b.length-j)<=n->(∀k,i<=k->k<a.length->∃f∈YD a b n i j,f.v=(a.getD k e0).v)/\(∀k,j<=k->k<b.length->∃f∈YD a b n i j,f.v=(b.getD k e0).v)
 |0,i,j,h=>⟨fun k h1 h2=>by omega,fun k h1 h2=>by omega⟩
 | n + 1,i,j,h=>by
  simp only[YD];split
  ·rename_i c;obtain⟨p,q⟩:=Zbn a b n (i+1) j (by omega);refine⟨fun k h1 h2=>?_,fun k h1 h2=>?_⟩
   ·by_cases e:k=i
    subst e;exact⟨_,List.mem_cons_self,rfl⟩;obtain⟨f,hf,e⟩:=p k (by omega) h2;exact⟨f,by simp[hf],e⟩
   obtain⟨f,hf,e⟩:=q k h1 h2;exact⟨f,by simp[hf],e⟩
  rename_i c;split
  ·rename_i d;obtain⟨p,q⟩:=Zbn a b n i (j+1) (by omega);refine⟨fun k h1 h2=>?_,fun k h1 h2=>?_⟩;obtain⟨f,hf,e⟩:=p k h1 h2;exact⟨f,by simp[hf],e⟩
   by_cases e:k=j
   subst e;exact⟨_,List.mem_cons_self,rfl⟩;obtain⟨f,hf,e⟩:=q k (by omega) h2;exact⟨f,by simp[hf],e⟩
  rename_i d;split
  ·rename_i m
   have hv:(a.getD i e0).v=(b.getD j e0).v:=by
    rcases Int.lt_trichotomy (a.getD i e0).v (b.getD j e0).v with h|h|h
    exact absurd ⟨m.1,fun _=>h⟩ c;exact h;exact absurd ⟨m.2,fun _=>h⟩ d
   obtain⟨p,q⟩:=Zbn a b n (i+1) (j+1) (by omega);refine⟨fun k h1 h2=>?_,fun k h1 h2=>?_⟩
   ·by_cases e:k=i
    subst e;exact⟨_,List.mem_cons_self,rfl⟩;obtain⟨f,hf,e⟩:=p k (by omega) h2;exact⟨f,by simp[hf],e⟩
   by_cases e:k=j
   subst e;exact⟨_,List.mem_cons_self,hv⟩;obtain⟨f,hf,e⟩:=q k (by omega) h2;exact⟨f,by simp[hf],e⟩
  rename_i m;refine⟨fun k h1 h2=>?_,fun k h1 h2=>?_⟩
  ·exfalso;have hi:i<a.length:=by omega
   by_cases hj:j<b.length
   exact m ⟨hi,hj⟩;exact c ⟨hi,fun x=>absurd x hj⟩
  exfalso;have hj:j<b.length:=by omega
  by_cases hi:i<a.length
  exact m ⟨hi,hj⟩;exact d ⟨hj,fun x=>absurd x hi⟩
theorem ZfW(e f:Zm)(L:List Zm):Zc (e::f::L)=Zc (f::L):=by unfold Zc;simp[List.getD]
theorem Zg2(e:Zm):Zc [e]=e.hi:=by simp[Zc]
theorem Zee(a b:List Zm):∀n i j,i<=a.length->j<=b.length->a.length-i+(b.length-j)<=n->(i<a.length∨j<b.length)->Zc (YD a b n i j)=Zc a+Zc b
 |0,i,j,_,_,h,h'=>by omega
 | n + 1,i,j,hi,hj,h,h'=>by
  have step:∀(f:Zm) (i' j':Nat),i'<=a.length->j'<=b.length->a.length-i'+(b.length-j')<=n->(i'=a.length->j'=b.length->f.hi=Zc a+Zc b)->Zc (f::YD a b n i' j')=Zc a+Zc b:=fun f i' j' q1 q2 q3 q4=>by
   by_cases e:i'<a.length∨j'<b.length
   ·have ih:=Zee a b n i' j' q1 q2 q3 e
    cases hJ:YD a b n i' j' with
    | nil=>
     exfalso;obtain⟨p,q⟩:=Zbn a b n i' j' q3
     rcases e with e|e
     obtain⟨f,hf,_⟩:=p i' (Nat.le_refl _) e;rw[hJ] at hf;cases hf;obtain⟨f,hf,_⟩:=q j' (Nat.le_refl _) e;rw[hJ] at hf;cases hf
    | cons g R=>
     rw[hJ] at ih;rw[ZfW];exact ih
   have hnil:YD a b n i' j'=[]:=by
    cases n with
    |zero=>rfl
    | succ n=>
     simp only[YD];rw[if_neg (by omega),if_neg (by omega),if_neg (by omega)]
   rw[hnil,Zg2];exact q4 (by omega) (by omega)
  simp only[YD];split;rename_i c;refine step _ _ _ (by omega) hj (by omega) (fun e1 e2=>?_);have:Zc a=(a.getD i e0).hi:=(by unfold Zc;rw[if_neg (by omega),show a.length-1=i by omega]);simp only[seen,Yy];rw[if_pos e2,this];rename_i c;split;rename_i d;refine step _ _ _ hi (by omega) (by omega) (fun e1 e2=>?_);have:Zc b=(b.getD j e0).hi:=(by unfold Zc;rw[if_neg (by omega),show b.length-1=j by omega]);simp only[seen,Yy];rw[if_pos e1,this];omega;rename_i d;split;rename_i m;refine step _ _ _ (by omega) (by omega) (by omega) (fun e1 e2=>?_);have t1:Zc a=(a.getD i e0).hi:=(by unfold Zc;rw[if_neg (by omega),show a.length-1=i by omega]);have t2:Zc b=(b.getD j e0).hi:=(by unfold Zc;rw[if_neg (by omega),show b.length-1=j by omega]);simp only[Zan];rw[t1,t2];rename_i m;exfalso
  rcases h' with e|e
  ·by_cases hj:j<b.length
   exact m ⟨e,hj⟩;exact c ⟨e,fun x=>absurd x hj⟩
  by_cases hi:i<a.length
  exact m ⟨hi,e⟩;exact d ⟨e,fun x=>absurd x hi⟩
theorem Zft{L:List Zm}{e:Zm}(h:e∈L):∃k,k<L.length/\L.getD k e0=e:=by obtain⟨k,hk,rfl⟩:=List.getElem_of_mem h;exact⟨k,hk,by simp[List.getD,hk]⟩
theorem Zks(A:List Zm)(e:Zm):Zc (A++[e])=e.hi:=by unfold Zc;rw[if_neg (by simp)];simp[List.getD]
theorem Zja{M:List (Int×Int)}(hr:M.Pairwise fun p q=>p.1<q.1)(q:Int×Int)(r:List (Int×Int)):ZbI (q::r) M=ZbI r M+(if ∃p∈M,p.1=q.1 then q.2 else 0):=by
 induction M with
 |nil=>simp[ZbI]
 | cons p N ih=>
  rw[List.pairwise_cons] at hr;have:=ih hr.2;simp only[ZbI,wOf];rw[this]
  by_cases e:q.1=p.1
  rw[if_pos e];have h1:¬∃x∈N,x.1=q.1:=(by rintro⟨x,hx,hv⟩;have:=hr.1 x hx;omega);have h2:∃x∈p::N,x.1=q.1:=⟨p,by simp,e.symm⟩;rw[if_neg h1,if_pos h2];omega;rw[if_neg e]
  by_cases h1:∃x∈N,x.1=q.1
  have h2:∃x∈p::N,x.1=q.1:=(by obtain⟨x,hx,hv⟩:=h1;exact⟨x,by simp[hx],hv⟩);rw[if_pos h1,if_pos h2];omega
  have h2:¬∃x∈p::N,x.1=q.1:=by
   rintro⟨x,hx,hv⟩
   rcases List.mem_cons.1 hx with rfl|hx
   exact e hv.symm;exact h1 ⟨x,hx,hv⟩
  rw[if_neg h1,if_neg h2];omega
theorem Zli{M:List (Int×Int)}(hr:M.Pairwise fun p q=>p.1<q.1)(x:Int):∀ps:List (Int×Int),(∀q∈ps,∃p∈M,p.1=q.1)->ZbI ps (M.filter fun p=>decide (p.1<x))=ZlQ ps x
 |[],_=>by simp[ZlQ,ZfV]
 | q::r,h=>by
  rw[Zja (hr.sublist List.filter_sublist),Zli hr x r (fun y hy=>h y (by simp[hy]))];simp only[ZlQ]
  by_cases c:q.1<x
  rw[if_pos c,if_pos ?_];omega;obtain⟨p,hp,e⟩:=h q (by simp);exact⟨p,by simp[hp];omega,e⟩;rw[if_neg c,if_neg ?_];omega;rintro⟨p,hp,e⟩;simp at hp;omega
theorem Zlh{M:List (Int×Int)}(hr:M.Pairwise fun p q=>p.1<q.1):∀ps:List (Int×Int),(∀q∈ps,∃p∈M,p.1=q.1)->ZbI ps M=ZY ps
 |[],_=>by simp[ZY,ZfV]
 |q::r,h=>by rw[Zja hr,Zlh hr r (fun y hy=>h y (by simp[hy])),if_pos (h q (by simp))];simp only[ZY];omega
theorem ZiZ{x:Int}:∀(M:List (Int×Int)) (low:Int),M.Pairwise (fun p q=>p.1<q.1)->∀e∈ZN low M,e.lo=low+ZY (M.filter fun p=>decide (p.1<e.v))
 |[],_,_=>by simp[ZN]
 | p ::r,low,hr=>by
  rw[List.pairwise_cons] at hr;intro e he;simp only[ZN] at he
  rcases List.mem_cons.1 he with rfl|he
  ·have:(p::r).filter (fun q=>decide (q.1<p.1))=[]:=by
    rw[List.filter_eq_nil_iff];intro q hq
    rcases List.mem_cons.1 hq with rfl|hq
    simp;have:=hr.1 q hq;simp;omega
   show low=low+ZY ((p::r).filter fun q=>decide (q.1<p.1));rw[this];simp[ZY]
  have h1:=ZiZ (x:=x) r (low+p.2) hr.2 e he
  have h2:p.1<e.v:=by
   have:∀(N:List (Int×Int)) (l:Int) (e:Zm),e∈ZN l N->∃q∈N,q.1=e.v:=by
    intro N
    induction N with
    |nil=>intro l e he;simp[ZN] at he
    | cons q N ih=>
     intro l e he;simp only[ZN] at he
     rcases List.mem_cons.1 he with rfl|he
     exact⟨q,by simp,rfl⟩;obtain⟨y,hy,e'⟩:=ih _ e he;exact⟨y,by simp[hy],e'⟩
   obtain⟨q,hq,e'⟩:=this r _ e he;have:=hr.1 q hq;omega
  rw[h1,List.filter_cons_of_pos (by simpa using h2)];simp only[ZY];omega
theorem Zbp:∀(M:List (Int×Int)) (low:Int),(∀e∈ZN low M,∃p∈M,p.1=e.v/\p.2=e.wt/\e.hi=e.lo+e.wt)/\(∀p∈M,∃e∈ZN low M,e.v=p.1)/\(M≠[]->Zc (ZN low M)=low+ZY M)
  |[],low=>by simp[ZN]
  | p ::r,low=>by
    obtain⟨h1,h2,h3⟩:=Zbp r (low+p.2);refine⟨fun e he=>?_,fun q hq=>?_,fun _=>?_⟩
    · simp only[ZN] at he
      rcases List.mem_cons.1 he with rfl|he
      exact⟨p,by simp,rfl,rfl,rfl⟩;obtain⟨q,hq,k⟩:=h1 e he;exact⟨q,by simp[hq],k⟩
    · simp only[ZN]
      rcases List.mem_cons.1 hq with rfl|hq
      exact⟨_,List.mem_cons_self,rfl⟩;obtain⟨e,he,k⟩:=h2 q hq;exact⟨e,by simp[he],k⟩
    cases r with
    |nil=>simp[ZN,Zg2,ZY]
    | cons q r=>
      have:=h3 (by simp);simp only[ZN] at this ⊢;rw[ZfW,this];simp only[ZY];omega
theorem Zg8.of_sum{ps M:List (Int×Int)}(h:Ys ps M):Zg8 ps (ZN 0 M):=by
 obtain⟨r1,r2,r3⟩:=Zbp M 0;have hw:∀N:List (Int×Int),(∀p∈N,p∈M)->ZY N=ZbI ps N:=fun N hN=>ZfM (fun p hp=>h.wt p (hN p hp));refine⟨fun e he=>?_,fun q hq=>?_,fun q hq=>?_,?_⟩;obtain⟨p,hp,ev,ew,eh⟩:=r1 e he;have el:=ZiZ (x:=0) M 0 h.rise e he;rw[hw _ (fun p hp=>(List.mem_filter.1 hp).1),Zli h.rise e.v ps h.all] at el;have:=h.wt p hp;rw[ev] at this;omega;obtain⟨p,hp,e⟩:=h.all q hq;obtain⟨f,hf,k⟩:=r2 p hp;exact⟨f,hf,by omega⟩;obtain⟨p,hp,e⟩:=h.all q hq;obtain⟨f,hf,k⟩:=r2 p hp;exact⟨f,hf,by omega⟩
 by_cases e:M=[]
 ·subst e
  have:ps=[]:=by
   cases ps with
   |nil=>rfl
   |cons q r=>obtain⟨p,hp,_⟩:=h.all q (by simp);cases hp
  subst this;rfl
 rw[r3 e,hw M (fun _ x=>x),Zlh h.rise ps h.all];omega
end Go.Proofs.YtfcgnpchbcmdeaaGreat
