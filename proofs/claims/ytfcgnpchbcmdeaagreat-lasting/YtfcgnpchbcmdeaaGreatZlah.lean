namespace Go.Proofs.YtfcgnpchbcmdeaaGreat
structure Zt where
 v:Int
 lo:Int
 hi:Int
 wt:Int
def Zbf(z:Int):Int:=if 1000000000<z then 1000000000 else if z< -1000000000 then -1000000000 else z
def ZcN(z:Int):Int:=if z<1∨1000<z then 1 else z
def Zn(vs ws:List Int):List (Int×Int):=(List.zip vs ws).map fun p=>(Zbf p.1,ZcN p.2)
theorem ZbC(vs ws:List Int):(Zn vs ws).length=min vs.length ws.length:=by simp[Zn]
def wOf:List (Int×Int)->Int->Int
  |[],_=>0
  |p::r,v=>(if p.1=v then p.2 else 0)+wOf r v
theorem Zhz(a b:List (Int×Int))(v:Int):wOf (a++b) v=wOf a v+wOf b v:=by
 induction a with
 |nil=>simp[wOf]
 |cons p r ih=>simp only[List.cons_append,wOf,ih];omega
theorem Zqy{a b:List (Int×Int)}(h:a.Perm b)(v:Int):wOf a v=wOf b v:=by
 induction h with
 |nil=>rfl
 |cons x _ ih=>simp only[wOf,ih]
 |swap x y l=>simp only[wOf];omega
 |trans _ _ h1 h2=>exact h1.trans h2
theorem Zld{a:List (Int×Int)}{v:Int}(h:∀p∈a,p.1≠v):wOf a v=0:=by
 induction a with
 |nil=>rfl
 |cons p r ih=>simp only[wOf];rw[if_neg (h p (by simp)),ih (fun q hq=>h q (by simp[hq]))];rfl
structure YC(ps M:List (Int×Int)):Prop where
 rise:M.Pairwise fun p q=>p.1<q.1
 sub:∀p∈M,∃q∈ps,q.1=p.1
 all:∀q∈ps,∃p∈M,p.1=q.1
 wt:∀p∈M,p.2=wOf ps p.1
theorem Zny:∀{M N:List (Int×Int)},M.Pairwise (fun p q=>p.1<q.1)->N.Pairwise (fun p q=>p.1<q.1)->(∀p,p∈M↔p∈N)->M=N
 |[],[],_,_,_=>rfl
 |[],q::_,_,_,h=>absurd ((h q).2 (by simp)) (by simp)
 |p::_,[],_,_,h=>absurd ((h p).1 (by simp)) (by simp)
 | p ::M,q::N,hM,hN,h=>by
  rw[List.pairwise_cons] at hM hN
  have hpq:p=q:=by
   rcases List.mem_cons.1 ((h p).1 (by simp)) with e|e
   exact e
   rcases List.mem_cons.1 ((h q).2 (by simp)) with e'|e'
   exact e'.symm;have h1:=hN.1 p e;have h2:=hM.1 q e';omega
  subst hpq;congr 1;refine Zny hM.2 hN.2 fun r=>⟨fun hr=>?_,fun hr=>?_⟩
  ·rcases List.mem_cons.1 ((h r).1 (by simp[hr])) with e|e
   have:=hM.1 r hr;rw[e] at this;omega;exact e
  rcases List.mem_cons.1 ((h r).2 (by simp[hr])) with e|e
  have:=hN.1 r hr;rw[e] at this;omega;exact e
theorem YC.unique{ps M N:List (Int×Int)}(hM:YC ps M)(hN:YC ps N):M=N:=by refine Zny hM.rise hN.rise fun p=>⟨fun hp=>?_,fun hp=>?_⟩;obtain⟨q,hq,e⟩:=hM.sub p hp;obtain⟨r,hr,e'⟩:=hN.all q hq;have hpr:p=r:=Prod.ext (by omega) (by rw[hM.wt p hp,hN.wt r hr,e',e]);exact hpr ▸ hr;obtain⟨q,hq,e⟩:=hN.sub p hp;obtain⟨r,hr,e'⟩:=hM.all q hq;have hpr:p=r:=Prod.ext (by omega) (by rw[hN.wt p hp,hM.wt r hr,e',e]);exact hpr ▸ hr
theorem YC.perm{ps qs M:List (Int×Int)}(h:YC ps M)(hp:ps.Perm qs):YC qs M:=
 ⟨h.rise,fun p hpM=>let ⟨q,hq,e⟩:=h.sub p hpM;⟨q,hp.mem_iff.1 hq,e⟩,fun q hq=>h.all q (hp.mem_iff.2 hq),fun p hpM=>(h.wt p hpM).trans (Zqy hp _)⟩
theorem YC.more{ps M:List (Int×Int)}(h:YC ps M)(p:Int×Int)(hle:∀q∈ps,q.1<p.1):YC (ps++[p]) (M++[p]):=by
 refine⟨?_,?_,?_,?_⟩;rw[List.pairwise_append];refine⟨h.rise,by simp,fun a ha b hb=>?_⟩;simp at hb;subst hb;obtain⟨q,hq,e⟩:=h.sub a ha;have:=hle q hq;omega
 ·intro a ha
  rcases List.mem_append.1 ha with ha|ha
  obtain⟨q,hq,e⟩:=h.sub a ha;exact⟨q,by simp[hq],e⟩;simp at ha;subst ha;exact⟨a,by simp,rfl⟩
 ·intro q hq
  rcases List.mem_append.1 hq with hq|hq
  obtain⟨a,ha,e⟩:=h.all q hq;exact⟨a,by simp[ha],e⟩;simp at hq;subst hq;exact⟨q,by simp,rfl⟩
 intro a ha;rw[Zhz]
 rcases List.mem_append.1 ha with ha|ha
 obtain⟨q,hq,e⟩:=h.sub a ha;have:=hle q hq;simp only[wOf];rw[if_neg (by omega),h.wt a ha];omega;simp at ha;subst ha;rw[Zld (fun q hq=>by have:=hle q hq;omega)];simp[wOf]
theorem YC.same{ps M:List (Int×Int)}{v w:Int}(h:YC ps (M++[(v,w)]))(u:Int):YC (ps++[(v,u)]) (M++[(v,w+u)]):=by
 have hr:=h.rise;rw[List.pairwise_append] at hr;refine⟨?_,?_,?_,?_⟩;rw[List.pairwise_append];refine⟨hr.1,by simp,fun a ha b hb=>?_⟩;simp at hb;subst hb;exact hr.2.2 a ha (v,w) (by simp)
 ·intro a ha
  rcases List.mem_append.1 ha with ha|ha
  obtain⟨q,hq,e⟩:=h.sub a (by simp[ha]);exact⟨q,by simp[hq],e⟩;simp at ha;subst ha;exact⟨(v,u),by simp,rfl⟩
 ·intro q hq
  rcases List.mem_append.1 hq with hq|hq
  ·obtain⟨a,ha,e⟩:=h.all q hq
   rcases List.mem_append.1 ha with ha|ha
   exact⟨a,by simp[ha],e⟩;simp at ha;subst ha;exact⟨(v,w+u),by simp,e⟩
  simp at hq;subst hq;exact⟨(v,w+u),by simp,rfl⟩
 intro a ha;rw[Zhz]
 rcases List.mem_append.1 ha with ha|ha
 have:=hr.2.2 a ha (v,w) (by simp);simp only[wOf];simp only at this;rw[if_neg (by omega),h.wt a (by simp[ha])];omega;simp at ha;subst ha;have:=h.wt (v,w) (by simp);simp only[wOf,if_true] at *;omega
theorem YC.nil:YC [] []:=⟨by simp,by simp,by simp,by simp⟩
def ZS:Int->List (Int×Int)->List Zt
  |_,[]=>[]
  |low,p::r=>⟨p.1,low,low+p.2,p.2⟩::ZS (low+p.2) r
def Z3:List (Int×Int)->Int
  |[]=>0
  |p::r=>p.2+Z3 r
theorem ZfG(a b:List (Int×Int)):Z3 (a++b)=Z3 a+Z3 b:=by
 induction a with
 |nil=>simp[Z3]
 |cons p r ih=>simp only[List.cons_append,Z3,ih];omega
theorem Zju(low:Int)(a b:List (Int×Int)):ZS low (a++b)=ZS low a++ZS (low+Z3 a) b:=by
 induction a generalizing low with
 |nil=>simp[ZS,Z3]
 |cons p r ih=>simp only[List.cons_append,ZS,ih,Z3];rw[show low+p.2+Z3 r=low+(p.2+Z3 r) by omega]
theorem ZiI(low:Int)(a:List (Int×Int)):(ZS low a).length=a.length:=by
 induction a generalizing low with
 |nil=>rfl
 |cons p r ih=>simp[ZS,ih]
structure ZE(L:List Zt):Prop where
 each:∀e∈L,0<=e.lo/\1<=e.wt/\e.lo+e.wt<=e.hi/\e.hi<=1000000000000/\ -1000000000<=e.v/\e.v<=1000000000
 step:L.Pairwise fun e f=>e.v<f.v/\e.lo+e.wt<=f.lo/\e.hi<=f.hi-f.wt
theorem ZE.nil:ZE []:=⟨by simp,by simp⟩
theorem ZE.sub{L M:List Zt}(h:ZE L)(hs:M.Sublist L):ZE M:=⟨fun e he=>h.each e (hs.subset he),h.step.sublist hs⟩
theorem ZkR{low:Int}{a:List (Int×Int)}(hp:∀p∈a,1<=p.2):∀e∈ZS low a,low<=e.lo/\e.hi=e.lo+e.wt/\e.hi<=low+Z3 a/\∃p∈a,p.1=e.v/\p.2=e.wt:=by
 induction a generalizing low with
 |nil=>simp[ZS]
 | cons p r ih=>
  intro e he;have hp1:=hp p (by simp)
  have hpos:0<=Z3 r:=by
   clear ih he hp1
   induction r with
   |nil=>simp[Z3]
   |cons q r ih=>simp only[Z3];have:=hp q (by simp);have:=ih (fun x hx=>hp x (by simp at hx ⊢;rcases hx with h|h<;>simp[h]));omega
  rcases List.mem_cons.1 he with rfl|he
  refine⟨?_,?_,?_,p,by simp,rfl,rfl⟩;exact Int.le_refl _;rfl;simp only[Z3];omega;obtain⟨h1,h2,h3,q,hq,e1,e2⟩:=ih (fun x hx=>hp x (by simp[hx])) e he;simp only[Z3];exact⟨by omega,h2,by omega,q,by simp[hq],e1,e2⟩
theorem ZoP{low:Int}{a:List (Int×Int)}(hp:∀p∈a,1<=p.2)(hr:a.Pairwise fun p q=>p.1<q.1):(ZS low a).Pairwise fun e f=>e.v<f.v/\e.lo+e.wt<=f.lo/\e.hi<=f.hi-f.wt:=by
 induction a generalizing low with
 |nil=>simp[ZS]
 | cons p r ih=>
  rw[List.pairwise_cons] at hr;simp only[ZS];rw[List.pairwise_cons];refine⟨fun f hf=>?_,ih (fun x hx=>hp x (by simp[hx])) hr.2⟩;obtain⟨h1,h2,_,q,hq,e1,e2⟩:=ZkR (fun x hx=>hp x (by simp[hx])) f hf;have:=hr.1 q hq;simp only;omega
theorem ZoO{a:List (Int×Int)}(hp:∀p∈a,1<=p.2)(hr:a.Pairwise fun p q=>p.1<q.1)(hv:∀p∈a,-1000000000<=p.1/\p.1<=1000000000)(hs:Z3 a<=1000000000000):ZE (ZS 0 a):=by refine⟨fun e he=>?_,ZoP hp hr⟩;obtain⟨h1,h2,h3,q,hq,e1,e2⟩:=ZkR hp e he;have:=hv q hq;have:=hp q hq;omega
theorem ZjC{ps:List (Int×Int)}(hp:∀p∈ps,1<=p.2):∀v,0<=wOf ps v:=by
 induction ps with
 |nil=>intro v;simp[wOf]
 | cons p r ih=>
  intro v;have h1:=ih (fun q hq=>hp q (by simp[hq])) v;have h2:=hp p (by simp);simp only[wOf];split<;>omega
theorem Zsf{ps:List (Int×Int)}(hp:∀p∈ps,1<=p.2):∀q∈ps,1<=wOf ps q.1:=by
 induction ps with
 |nil=>simp
 | cons p r ih=>
  intro q hq;have h2:=hp p (by simp);simp only[wOf]
  rcases List.mem_cons.1 hq with rfl|hq
  have:=ZjC (fun x hx=>hp x (List.mem_cons_of_mem _ hx)) q.1;simp;omega;have:=ih (fun x hx=>hp x (by simp[hx])) q hq;split<;>omega
def Zct(ps:List (Int×Int)):List (Int×Int)->Int
 |[]=>0
 |p::M=>wOf ps p.1+Zct ps M
theorem Zo4(q:Int×Int)(r M:List (Int×Int))(hq:0<=q.2)(hr:M.Pairwise fun p q=>p.1<q.1):Zct (q::r) M<=Zct r M+q.2/\((∀p∈M,p.1≠q.1)->Zct (q::r) M=Zct r M):=by
 induction M with
 |nil=>simp[Zct];exact hq
 | cons p M ih=>
  rw[List.pairwise_cons] at hr;have ih:=ih hr.2;simp only[Zct,wOf]
  by_cases h:q.1=p.1
  have:=ih.2 (fun x hx e=>by have:=hr.1 x hx;omega);rw[if_pos h];exact⟨by omega,fun hn=>absurd h.symm (hn p (by simp))⟩;rw[if_neg h];exact⟨by omega,fun hn=>by have:=ih.2 (fun x hx=>hn x (by simp[hx]));omega⟩
theorem Zhx(M:List (Int×Int)):Zct [] M=0:=by
 induction M with
 |nil=>rfl
 |cons p M ih=>simp[Zct,wOf,ih]
theorem ZnH{ps M:List (Int×Int)}(hp:∀p∈ps,1<=p.2)(hr:M.Pairwise fun p q=>p.1<q.1):Zct ps M<=Z3 ps:=by
 induction ps with
 |nil=>simp[Zhx,Z3]
 | cons q r ih=>
  have h1:=(Zo4 q r M (by have:=hp q (by simp);omega) hr).1;have h2:=ih (fun x hx=>hp x (by simp[hx]));simp only[Z3];omega
theorem Zho{ps M:List (Int×Int)}(h:∀p∈M,p.2=wOf ps p.1):Z3 M=Zct ps M:=by
 induction M with
 |nil=>rfl
 |cons p M ih=>simp only[Z3,Zct];rw[h p (by simp),ih (fun x hx=>h x (by simp[hx]))]
theorem Zgc{ps:List (Int×Int)}(hp:∀p∈ps,p.2<=1000):Z3 ps<=1000*ps.length:=by
 induction ps with
 |nil=>simp[Z3]
 | cons q r ih=>
  have h1:=hp q (by simp);have h2:=ih (fun x hx=>hp x (by simp[hx]));simp only[Z3,List.length_cons];omega
theorem ZnT(z:Int):1<=ZcN z/\ZcN z<=1000:=by unfold ZcN;split<;>omega
theorem ZnS(z:Int): -1000000000<=Zbf z/\Zbf z<=1000000000:=by unfold Zbf;split<;>(try split)<;>omega
theorem ZcY{vs ws:List Int}{p:Int×Int}(h:p∈Zn vs ws):(1<=p.2/\p.2<=1000)/\(-1000000000<=p.1/\p.1<=1000000000)/\∃z∈vs,p.1=Zbf z:=by unfold Zn at h;obtain⟨q,hq,rfl⟩:=List.mem_map.1 h;exact⟨ZnT _,ZnS _,q.1,(List.of_mem_zip hq).1,rfl⟩
theorem YC.good{vs ws:List Int}{M:List (Int×Int)}(h:YC (Zn vs ws) M)(hl:vs.length<=2097152):ZE (ZS 0 M):=by have hp:∀p∈Zn vs ws,1<=p.2:=fun p hp=>(ZcY hp).1.1;refine ZoO ?_ h.rise ?_ ?_;intro p hpM;obtain⟨q,hq,e⟩:=h.sub p hpM;rw[h.wt p hpM,<- e];exact Zsf hp q hq;intro p hpM;obtain⟨q,hq,e⟩:=h.sub p hpM;have:=(ZcY hq).2.1;omega;have h1:=ZnH hp h.rise;have h2:=Zgc (fun p hp=>(ZcY hp).1.2:∀p∈Zn vs ws,p.2<=1000);rw[Zho h.wt];have h3:(Zn vs ws).length<=2097152:=(by rw[ZbC];omega);omega
def e0:Zt:=⟨0,0,0,0⟩
def Zd(L:List Zt):Int:=if L.length=0 then 0 else(L.getD (L.length-1) e0).hi
def Yo(L:List Zt)(j:Nat):Int:=if j=0 then 0 else(L.getD (j-1) e0).lo+(L.getD (j-1) e0).wt
def YI(L:List Zt)(j:Nat):Int:=if j=L.length then Zd L else(L.getD j e0).hi-(L.getD j e0).wt
def seen(o:List Zt)(j:Nat)(e:Zt):Zt:=⟨e.v,e.lo+Yo o j,e.hi+YI o j,e.wt⟩
def ZaS(e f:Zt):Zt:=⟨e.v,e.lo+f.lo,e.hi+f.hi,e.wt+f.wt⟩
def YP(a b:List Zt):Nat->Nat->Nat->List Zt
 |0,_,_=>[]
 | n+1,i,j=>
  if i<a.length/\(j<b.length->(a.getD i e0).v<(b.getD j e0).v) then seen b j (a.getD i e0)::YP a b n (i+1) j
  else if j<b.length/\(i<a.length->(b.getD j e0).v<(a.getD i e0).v) then seen a i (b.getD j e0)::YP a b n i (j+1)
  else if i<a.length/\j<b.length then ZaS (a.getD i e0) (b.getD j e0)::YP a b n (i+1) (j+1)
  else[]
def ZA(a b:List Zt):List Zt:=YP a b (a.length+b.length) 0 0
theorem Zcl(a b:List Zt):∀n m i j,a.length-i+(b.length-j)<=n->a.length-i+(b.length-j)<=m->YP a b n i j=YP a b m i j
 |0,0,_,_,_,_=>rfl
 |0,m+1,i,j,h,_=>by simp only[YP];rw[if_neg (by omega),if_neg (by omega),if_neg (by omega)]
 |n+1,0,i,j,_,h=>by simp only[YP];rw[if_neg (by omega),if_neg (by omega),if_neg (by omega)]
 |n+1,m+1,i,j,h,h'=>by simp only[YP];split;rw[Zcl a b n m (i+1) j (by omega) (by omega)];split;rw[Zcl a b n m i (j+1) (by omega) (by omega)];split;rw[Zcl a b n m (i+1) (j+1) (by omega) (by omega)];rfl
def ZbE(a b:List Zt)(i j:Nat):List Zt:=YP a b (a.length-i+(b.length-j)) i j
theorem Zmr(a b:List Zt):ZbE a b 0 0=ZA a b:=by unfold ZbE ZA;simp
theorem Zrq{a b:List Zt}{i j:Nat}(hi:i<a.length)(h:j<b.length->(a.getD i e0).v<(b.getD j e0).v):ZbE a b i j=seen b j (a.getD i e0)::ZbE a b (i+1) j:=by unfold ZbE;rw[show a.length-i+(b.length-j)=(a.length-(i+1)+(b.length-j))+1 by omega];simp only[YP];rw[if_pos ⟨hi,h⟩]
theorem Zrr{a b:List Zt}{i j:Nat}(hj:j<b.length)(h:i<a.length->(b.getD j e0).v<(a.getD i e0).v):ZbE a b i j=seen a i (b.getD j e0)::ZbE a b i (j+1):=by unfold ZbE;rw[show a.length-i+(b.length-j)=(a.length-i+(b.length-(j+1)))+1 by omega];simp only[YP];rw[if_neg (fun hc=>by have h1:=hc.2 hj;have h2:=h hc.1;omega),if_pos ⟨hj,h⟩]
theorem Zqm{a b:List Zt}{i j:Nat}(hi:i<a.length)(hj:j<b.length)(h:(a.getD i e0).v=(b.getD j e0).v):ZbE a b i j=ZaS (a.getD i e0) (b.getD j e0)::ZbE a b (i+1) (j+1):=by unfold ZbE;rw[show a.length-i+(b.length-j)=(a.length-(i+1)+(b.length-(j+1))+1)+1 by omega];simp only[YP];rw[if_neg (fun hc=>by have h1:=hc.2 hj;omega),if_neg (fun hc=>by have h1:=hc.2 hi;omega),if_pos ⟨hi,hj⟩];congr 1;exact Zcl a b (a.length-(i+1)+(b.length-(j+1))+1) (a.length-(i+1)+(b.length-(j+1))) (i+1) (j+1) (by omega) (by omega)
theorem ZiJ{a b:List Zt}{i j:Nat}(hi:¬i<a.length)(hj:¬j<b.length):ZbE a b i j=[]:=by unfold ZbE;rw[show a.length-i+(b.length-j)=0 by omega];rfl
theorem Zeu{L:List Zt}{i:Nat}(h:i<L.length):L.getD i e0∈L:=by simp[List.getD,h]
theorem ZE.at{L:List Zt}(g:ZE L){i:Nat}(h:i<L.length):0<=(L.getD i e0).lo/\1<=(L.getD i e0).wt/\(L.getD i e0).lo+(L.getD i e0).wt<=(L.getD i e0).hi/\(L.getD i e0).hi<=1000000000000/\ -1000000000<=(L.getD i e0).v/\(L.getD i e0).v<=1000000000:=g.each _ (Zeu h)
theorem ZE.lt{L:List Zt}(g:ZE L){i j:Nat}(hij:i<j)(h:j<L.length):(L.getD i e0).v<(L.getD j e0).v/\(L.getD i e0).lo+(L.getD i e0).wt<=(L.getD j e0).lo/\(L.getD i e0).hi<=(L.getD j e0).hi-(L.getD j e0).wt:=by have:=List.pairwise_iff_getElem.1 g.step i j (by omega) h hij;have e1:L.getD i e0=L[i]'(by omega):=(by simp[List.getD,show i<L.length by omega]);have e2:L.getD j e0=L[j]:=(by simp[List.getD,h]);rw[e1,e2];exact this
theorem ZaB{L:List Zt}(g:ZE L){i:Nat}(h:i<L.length):(L.getD i e0).hi<=YI L (i+1)/\YI L i<=YI L (i+1)/\YI L i=(L.getD i e0).hi-(L.getD i e0).wt:=by
 have a:=g.at h;have e:YI L i=(L.getD i e0).hi-(L.getD i e0).wt:=by unfold YI;rw[if_neg (by omega)]
 have k:(L.getD i e0).hi<=YI L (i+1):=(by unfold YI;split;unfold Zd;rw[if_neg (by omega)];rw[show L.length-1=i by omega];exact Int.le_refl _;exact(g.lt (show i<i+1 by omega) (by omega)).2.2);exact⟨k,by omega,e⟩
theorem Zbd{L:List Zt}(g:ZE L){i:Nat}(h:i<L.length):Yo L i<=(L.getD i e0).lo/\Yo L (i+1)=(L.getD i e0).lo+(L.getD i e0).wt:=by refine⟨?_,by unfold Yo;simp⟩;unfold Yo;split;exact(g.at h).1;exact(g.lt (show i-1<i by omega) h).2.1
theorem Zb8{L:List Zt}(g:ZE L){i:Nat}(h:i<L.length):(L.getD i e0).hi<=Zd L:=by
 unfold Zd;rw[if_neg (by omega)]
 by_cases e:i=L.length-1
 rw[e];exact Int.le_refl _;have h1:=(g.lt (show i<L.length-1 by omega) (by omega)).2.2;have h2:=g.at (show L.length-1<L.length by omega);omega
theorem Zjt{L:List Zt}(g:ZE L){j:Nat}(h:j<=L.length):YI L j<=Zd L/\0<=Yo L j/\Yo L j<=YI L j:=by
 by_cases e:j=L.length
 have hp:YI L j=Zd L:=(by unfold YI;rw[if_pos e]);rw[hp];refine⟨Int.le_refl _,?_,?_⟩;unfold Yo;split;omega;have:=g.at (show j-1<L.length by omega);omega;unfold Yo Zd;split;rw[if_pos (by omega)];omega;have:=g.at (show j-1<L.length by omega);rw[if_neg (by omega),<- e];omega;have hj:j<L.length:=(by omega);have h1:=ZaB g hj;have h2:=Zb8 g hj;have h3:=g.at hj;have h4:=Zbd g hj;refine⟨by omega,?_,?_⟩;unfold Yo;split;omega;have:=g.at (show j-1<L.length by omega);omega;unfold Yo;split;omega;have:=g.lt (show j-1<j by omega) hj;have:=g.at (show j-1<L.length by omega);omega
structure ZmR(a b:List Zt)(i j:Nat)(f:Zt):Prop where
 lo:Yo a i+Yo b j<=f.lo
 hi:YI a i+YI b j<=f.hi-f.wt
 top:f.hi<=Zd a+Zd b
 wt:1<=f.wt
 rng:f.lo+f.wt<=f.hi
 va:0<i->(a.getD (i-1) e0).v<f.v
 vb:0<j->(b.getD (j-1) e0).v<f.v
 from_:(∃e∈a,e.v=f.v)∨∃e∈b,e.v=f.v
theorem ZmR.back{a b:List Zt}(ga:ZE a)(gb:ZE b){i j i' j':Nat}{f:Zt}(h:ZmR a b i' j' f)(hi:i<=i')(hj:j<=j')(hi2:i'<=i+1)(hj2:j'<=j+1)(hil:i'<=a.length)(hjl:j'<=b.length):ZmR a b i j f:=by
 have ka:Yo a i<=Yo a i'/\YI a i<=YI a i'/\(0<i->(a.getD (i-1) e0).v<f.v):=by
  by_cases e:i'=i
  subst e;exact⟨Int.le_refl _,Int.le_refl _,h.va⟩;obtain rfl:i'=i+1:=(by omega);have h1:=Zbd ga (show i<a.length by omega);have h2:=ZaB ga (show i<a.length by omega);have h3:=ga.at (show i<a.length by omega);refine⟨by omega,by omega,fun h0=>?_⟩;have h4:=(ga.lt (show i-1<i by omega) (by omega)).1;have h5:=h.va (by omega);simp only[Nat.add_sub_cancel] at h5;omega
 have kb:Yo b j<=Yo b j'/\YI b j<=YI b j'/\(0<j->(b.getD (j-1) e0).v<f.v):=by
  by_cases e:j'=j
  subst e;exact⟨Int.le_refl _,Int.le_refl _,h.vb⟩;obtain rfl:j'=j+1:=(by omega);have h1:=Zbd gb (show j<b.length by omega);have h2:=ZaB gb (show j<b.length by omega);have h3:=gb.at (show j<b.length by omega);refine⟨by omega,by omega,fun h0=>?_⟩;have h4:=(gb.lt (show j-1<j by omega) (by omega)).1;have h5:=h.vb (by omega);simp only[Nat.add_sub_cancel] at h5;omega
 have h1:=h.lo;have h2:=h.hi;exact⟨by omega,by omega,h.top,h.wt,h.rng,ka.2.2,kb.2.2,h.from_⟩
def ZmU(e f:Zt):Prop:=e.v<f.v/\e.lo+e.wt<=f.lo/\e.hi<=f.hi-f.wt
theorem ZaL{a b:List Zt}(ga:ZE a)(gb:ZE b):∀n i j,i<=a.length->j<=b.length->(i<a.length->0<j->(b.getD (j-1) e0).v<(a.getD i e0).v)->(j<b.length->0<i->(a.getD (i-1) e0).v<(b.getD j e0).v)->(∀f∈YP a b n i j,ZmR a b i j f)/\(YP a b n i j).Pairwise ZmU
 |0,i,j,_,_,_,_=>by simp[YP]
 | n + 1,i,j,hi,hj,hva,hvb=>by
  simp only[YP];split
  ·rename_i h;have a1:=ga.at h.1;have a2:=Zbd ga h.1;have a3:=ZaB ga h.1;have a4:=Zb8 ga h.1;have b1:=Zjt gb hj;have ih:=ZaL ga gb n (i+1) j (by omega) hj (fun h1 h0=>by have:=hva h.1 h0;have:=(ga.lt (show i<i+1 by omega) h1).1;omega) (fun h1 _=>by simpa using h.2 h1);refine⟨fun f hf=>?_,?_⟩
   ·rcases List.mem_cons.1 hf with rfl|hf
    refine⟨?_,?_,?_,a1.2.1,?_,?_,fun h0=>hva h.1 h0,.inl ⟨_,Zeu h.1,rfl⟩⟩;simp only[seen];omega;simp only[seen];omega;simp only[seen];omega;simp only[seen];omega;intro h0;exact(ga.lt (show i-1<i by omega) h.1).1;exact(ih.1 f hf).back ga gb (by omega) (by omega) (by omega) (by omega) (by omega) hj
   rw[List.pairwise_cons];refine⟨fun f hf=>?_,ih.2⟩;have c:=ih.1 f hf;have c1:=c.lo;have c2:=c.hi;have c3:=c.va (by omega);simp only[Nat.add_sub_cancel] at c3;unfold ZmU;simp only[seen];omega
  split
  ·rename_i _ h;have a1:=gb.at h.1;have a2:=Zbd gb h.1;have a3:=ZaB gb h.1;have a4:=Zb8 gb h.1;have b1:=Zjt ga hi;have ih:=ZaL ga gb n i (j+1) hi (by omega) (fun h1 _=>by simpa using h.2 h1) (fun h1 h0=>by have:=hvb h.1 h0;have:=(gb.lt (show j<j+1 by omega) h1).1;omega);refine⟨fun f hf=>?_,?_⟩
   ·rcases List.mem_cons.1 hf with rfl|hf
    refine⟨?_,?_,?_,a1.2.1,?_,fun h0=>hvb h.1 h0,?_,.inr ⟨_,Zeu h.1,rfl⟩⟩;simp only[seen];omega;simp only[seen];omega;simp only[seen];omega;simp only[seen];omega;intro h0;exact(gb.lt (show j-1<j by omega) h.1).1;exact(ih.1 f hf).back ga gb (by omega) (by omega) (by omega) (by omega) hi (by omega)
   rw[List.pairwise_cons];refine⟨fun f hf=>?_,ih.2⟩;have c:=ih.1 f hf;have c1:=c.lo;have c2:=c.hi;have c3:=c.vb (by omega);simp only[Nat.add_sub_cancel] at c3;unfold ZmU;simp only[seen];omega
  split
  ·rename_i hA hB h;have he:(a.getD i e0).v=(b.getD j e0).v:=(by have h1:¬(a.getD i e0).v<(b.getD j e0).v:=fun hc=>hA ⟨h.1,fun _=>hc⟩;have h2:¬(b.getD j e0).v<(a.getD i e0).v:=fun hc=>hB ⟨h.2,fun _=>hc⟩;omega);have a1:=ga.at h.1;have a2:=Zbd ga h.1;have a3:=ZaB ga h.1;have a4:=Zb8 ga h.1;have b1:=gb.at h.2;have b2:=Zbd gb h.2;have b3:=ZaB gb h.2;have b4:=Zb8 gb h.2;have ih:=ZaL ga gb n (i+1) (j+1) (by omega) (by omega) (fun h1 _=>by have:=(ga.lt (show i<i+1 by omega) h1).1;simp only[Nat.add_sub_cancel];omega) (fun h1 _=>by have:=(gb.lt (show j<j+1 by omega) h1).1;simp only[Nat.add_sub_cancel];omega);refine⟨fun f hf=>?_,?_⟩
   ·rcases List.mem_cons.1 hf with rfl|hf
    refine⟨?_,?_,?_,?_,?_,?_,?_,.inl ⟨_,Zeu h.1,rfl⟩⟩;simp only[ZaS];omega;simp only[ZaS];omega;simp only[ZaS];omega;simp only[ZaS];omega;simp only[ZaS];omega;intro h0;exact(ga.lt (show i-1<i by omega) h.1).1;intro h0;have:=(gb.lt (show j-1<j by omega) h.2).1;simp only[ZaS];omega;exact(ih.1 f hf).back ga gb (by omega) (by omega) (by omega) (by omega) (by omega) (by omega)
   rw[List.pairwise_cons];refine⟨fun f hf=>?_,ih.2⟩;have c:=ih.1 f hf;have c1:=c.lo;have c2:=c.hi;have c3:=c.va (by omega);simp only[Nat.add_sub_cancel] at c3;unfold ZmU;simp only[ZaS];omega
  simp
theorem Zay{a b:List Zt}(ga:ZE a)(gb:ZE b)(ht:Zd a+Zd b<=1000000000000):ZE (ZA a b):=by
 have h:=ZaL ga gb (a.length+b.length) 0 0 (by omega) (by omega) (fun _ h=>absurd h (by omega)) (fun _ h=>absurd h (by omega));refine⟨fun f hf=>?_,h.2⟩;have c:=h.1 f hf;have c1:=c.lo;have c4:=c.top;have c5:=c.wt;have c6:=c.rng;have:Yo a 0=0:=rfl;have:Yo b 0=0:=rfl
 rcases c.from_ with⟨e,he,ev⟩|⟨e,he,ev⟩
 have:=ga.each e he;omega;have:=gb.each e he;omega
theorem ZgR{a b:List Zt}(ga:ZE a)(gb:ZE b):∀f∈ZA a b,(∃e∈a,e.v=f.v)∨∃e∈b,e.v=f.v:=by have h:=ZaL ga gb (a.length+b.length) 0 0 (by omega) (by omega) (fun _ h=>absurd h (by omega)) (fun _ h=>absurd h (by omega));exact fun f hf=>(h.1 f hf).from_
def ZeB(L:List Zt)(i:Nat):Int:=(L.getD i e0).lo+(L.getD i e0).hi
def ZeC(L:List Zt)(s:Nat)(k i:Nat):Bool:=decide ((ZeB L i+ZeB L (i+1))*((s:Int)-1)<4*(k:Int)*Zd L)
def QK(C:Nat->Bool):Nat->Nat->Nat
 |0,i=>i
 |f+1,i=>if C i=true then QK C f (i+1) else i
theorem ZcQ(C:Nat->Bool):∀f i,i<=QK C f i/\QK C f i<=i+f/\(∀j,i<=j->j<QK C f i->C j=true)/\(QK C f i=i+f∨C (QK C f i)=false)
 |0,i=>by simp[QK];omega
 | f + 1,i=>by
  have ih:=ZcQ C f (i+1);simp only[QK]
  by_cases h:C i=true
  ·rw[if_pos h];refine⟨by omega,by omega,fun j h1 h2=>?_,?_⟩
   ·by_cases e:j=i
    rw[e];exact h;exact ih.2.2.1 j (by omega) h2
   rcases ih.2.2.2 with e|e
   left;omega;right;exact e
  rw[if_neg h];exact⟨Nat.le_refl _,by omega,fun j h1 h2=>by omega,.inr (by simpa using h)⟩
def ZaH(L:List Zt)(s k:Nat):Nat:=QK (ZeC L s k) (L.length-3) 1
structure ZjH(L:List Zt)(s k r:Nat):Prop where
 pos:1<=r
 le:r+2<=L.length
 yes:∀i,1<=i->i<r->ZeC L s k i=true
 no:r+2=L.length∨ZeC L s k r=false
theorem Zab (L:List Zt) (s k:Nat) (h:3<=L.length):ZjH L s k (ZaH L s k):=by
  have:=ZcQ (ZeC L s k) (L.length-3) 1;unfold ZaH
  exact ⟨this.1, by omega, this.2.2.1, by rcases this.2.2.2 with e|e; · left;omega
                                          right;exact e⟩
theorem ZjH.unique{L:List Zt}{s k r q:Nat}(hr:ZjH L s k r)(hq:ZjH L s k q):r=q:=by
 rcases Nat.lt_trichotomy r q with h|h|h
 ·have h1:=hq.yes r hr.pos h
  rcases hr.no with e|e
  have:=hq.le;omega;rw[h1] at e;cases e
 exact h;have h1:=hr.yes q hq.pos h
 rcases hq.no with e|e
 have:=hr.le;omega;rw[h1] at e;cases e
theorem Y0{L:List Zt}(g:ZE L):0<=Zd L/\Zd L<=1000000000000:=by unfold Zd;split;omega;have:=g.at (show L.length-1<L.length by omega);omega
theorem ZiD{L:List Zt}(g:ZE L){s k i:Nat}(h:ZeC L s k i=true):ZeC L s (k+1) i=true:=by unfold ZeC at *;have ht:=(Y0 g).1;rw[decide_eq_true_eq] at *;have:4*(k:Int)*Zd L<=4*((k+1:Nat):Int)*Zd L:=Int.mul_le_mul_of_nonneg_right (by omega) ht;omega
theorem ZnN{L:List Zt}(g:ZE L)(s k:Nat)(h:3<=L.length):ZaH L s k<=ZaH L s (k+1):=by
 have h1:=Zab L s k h;have h2:=Zab L s (k+1) h
 by_cases hc:ZaH L s k<=ZaH L s (k+1)
 exact hc;have h3:=ZiD g (h1.yes (ZaH L s (k+1)) h2.pos (by omega))
 rcases h2.no with e|e
 have:=h1.le;omega;rw[h3] at e;cases e
def ZbD(L:List Zt)(s k:Nat):Nat:=if k=0 then 0 else ZaH L s k
def YQ(L:List Zt)(s:Nat):Nat->List Zt
 |0=>[L.getD 0 e0]
 |k+1=>if ZaH L s (k+1)=ZbD L s k then YQ L s k else YQ L s k++[L.getD (ZaH L s (k+1)) e0]
def YV(L:List Zt)(size:Int):List Zt:=
 if(L.length:Int)<=max size 2 then L else YQ L (max size 2).toNat ((max size 2).toNat-2)++[L.getD (L.length-1) e0]
theorem Zcr(L:List Zt){r:Nat}(h:r<L.length):L.take (r+1)=L.take r++[L.getD r e0]:=by rw[List.take_succ_eq_append_getElem h];simp[List.getD,h]
theorem Zkn{L:List Zt}(g:ZE L)(s:Nat)(h:3<=L.length):∀k,(YQ L s k).Sublist (L.take (ZbD L s k+1))/\ZbD L s k+2<=L.length/\ZbD L s k<=ZaH L s (k+1)
 |0=>by have:=(Zab L s 1 h).pos;refine⟨?_,by simp[ZbD];omega,by simp[ZbD]⟩;have e:=Zcr L (show 0<L.length by omega);simp only[ZbD,if_true,YQ];rw[e];simp
 |k+1=>by have ih:=Zkn g s h k;have hb:=Zab L s (k+1) h;have hp:ZbD L s (k+1)=ZaH L s (k+1):=(by simp[ZbD]);rw[hp];refine⟨?_,hb.le,ZnN g s (k+1) h⟩;simp only[YQ];split;rename_i e;rw[e];exact ih.1;rename_i e;rw[Zcr L (show ZaH L s (k+1)<L.length by have:=hb.le;omega)];refine List.Sublist.append ?_ (List.Sublist.refl _);refine ih.1.trans ?_;exact List.take_sublist_take_left (by omega)
theorem ZaI{L:List Zt}(g:ZE L)(size:Int):(YV L size).Sublist L:=by
 unfold YV;split;exact List.Sublist.refl _;rename_i h;have h3:3<=L.length:=(by omega);have ks:=Zkn g (max size 2).toNat h3 ((max size 2).toNat-2);have e:L=L.take (L.length-1+1):=by rw[List.take_of_length_le (by omega)]
 conv=>rhs;rw[e]
 rw[Zcr L (show L.length-1<L.length by omega)];refine List.Sublist.append (ks.1.trans ?_) (List.Sublist.refl _);exact List.take_sublist_take_left (by omega)
theorem ZpW{x whole rest parts tot:Int}(hp:0<parts)(hr:0<=rest)(hlt:rest<parts)(he:whole*parts+rest=tot):x<(if 0<rest then whole+1 else whole)↔x*parts<tot:=by constructor;intro h;split at h;have:x*parts<=whole*parts:=Int.mul_le_mul_of_nonneg_right (by omega) (by omega);omega;have:x*parts<whole*parts:=Int.mul_lt_mul_of_pos_right h hp;omega;intro h;split;have h2:x*parts<(whole+1)*parts:=(by rw[Int.add_mul];omega);exact Int.lt_of_mul_lt_mul_right h2 (by omega);have h2:x*parts<whole*parts:=(by omega);exact Int.lt_of_mul_lt_mul_right h2 (by omega)
theorem ZpX{L:List Zt}{U:List Int}(hp:L.Pairwise fun e f=>e.v<f.v/\e.lo+e.wt<=f.lo/\e.hi<=f.hi-f.wt)(hU:∀e∈L,e.v∈U):L.length<=U.length:=by
 induction L generalizing U with
 |nil=>simp
 | cons e L ih=>
  rw[List.pairwise_cons] at hp;have h1:e.v∈U:=hU e (by simp)
  have h2:=ih (U:=U.erase e.v) hp.2 (fun f hf=>by
   have hne:f.v≠e.v:=by have:=(hp.1 f hf).1;omega
   exact(List.mem_erase_of_ne hne).2 (hU f (by simp[hf])))
  rw[List.length_erase_of_mem h1] at h2;have:0<U.length:=List.length_pos_of_mem h1;simp;omega
theorem ZE.len{L:List Zt}(g:ZE L){U:List Int}(hU:∀e∈L,e.v∈U):L.length<=U.length:=ZpX g.step hU
def Zoo:List (Int×Int)->Int->Int
  |[],_=>0
  |p::r,x=>(if p.1<x then p.2 else 0)+Zoo r x
structure Zi1(ps:List (Int×Int))(L:List Zt):Prop where
 each:∀e∈L,e.lo<=Zoo ps e.v/\Zoo ps e.v+wOf ps e.v<=e.hi/\e.wt<=wOf ps e.v
 least:∀q∈ps,∃e∈L,e.v<=q.1
 most:∀q∈ps,∃e∈L,q.1<=e.v
 total:Zd L=Z3 ps
theorem Zdg(a b:List Zt):∀n i j,a.length-i+(b.length-j)<=n->(∀k,i<=k->k<a.length->∃f∈YP a b n i j,f.v=(a.getD k e0).v)/\(∀k,j<=k->k<b.length->∃f∈YP a b n i j,f.v=(b.getD k e0).v)
 |0,i,j,h=>⟨fun k h1 h2=>by omega,fun k h1 h2=>by omega⟩
 | n + 1,i,j,h=>by
  simp only[YP];split
  ·rename_i c;obtain⟨p,q⟩:=Zdg a b n (i+1) j (by omega);refine⟨fun k h1 h2=>?_,fun k h1 h2=>?_⟩
   ·by_cases e:k=i
    subst e;exact⟨_,List.mem_cons_self,rfl⟩;obtain⟨f,hf,e⟩:=p k (by omega) h2;exact⟨f,by simp[hf],e⟩
   obtain⟨f,hf,e⟩:=q k h1 h2;exact⟨f,by simp[hf],e⟩
  rename_i c;split
  ·rename_i d;obtain⟨p,q⟩:=Zdg a b n i (j+1) (by omega);refine⟨fun k h1 h2=>?_,fun k h1 h2=>?_⟩;obtain⟨f,hf,e⟩:=p k h1 h2;exact⟨f,by simp[hf],e⟩
   by_cases e:k=j
   subst e;exact⟨_,List.mem_cons_self,rfl⟩;obtain⟨f,hf,e⟩:=q k (by omega) h2;exact⟨f,by simp[hf],e⟩
  rename_i d;split
  ·rename_i m
   have hv:(a.getD i e0).v=(b.getD j e0).v:=by
    rcases Int.lt_trichotomy (a.getD i e0).v (b.getD j e0).v with h|h|h
    exact absurd ⟨m.1,fun _=>h⟩ c;exact h;exact absurd ⟨m.2,fun _=>h⟩ d
   obtain⟨p,q⟩:=Zdg a b n (i+1) (j+1) (by omega);refine⟨fun k h1 h2=>?_,fun k h1 h2=>?_⟩
   ·by_cases e:k=i
    subst e;exact⟨_,List.mem_cons_self,rfl⟩;obtain⟨f,hf,e⟩:=p k (by omega) h2;exact⟨f,by simp[hf],e⟩
   by_cases e:k=j
   subst e;exact⟨_,List.mem_cons_self,hv⟩;obtain⟨f,hf,e⟩:=q k (by omega) h2;exact⟨f,by simp[hf],e⟩
  rename_i m;refine⟨fun k h1 h2=>?_,fun k h1 h2=>?_⟩
  ·exfalso;have hi:i<a.length:=by omega
   by_cases hj:j<b.length
   exact m ⟨hi,hj⟩;exact c ⟨hi,fun x=>absurd x hj⟩
  exfalso;have hj:j<b.length:=by omega
  by_cases hi:i<a.length
  exact m ⟨hi,hj⟩;exact d ⟨hj,fun x=>absurd x hi⟩
theorem Zhy(e f:Zt)(L:List Zt):Zd (e::f::L)=Zd (f::L):=by unfold Zd;simp[List.getD]
theorem ZiT(e:Zt):Zd [e]=e.hi:=by simp[Zd]
theorem Zfx(a b:List Zt):∀n i j,i<=a.length->j<=b.length->a.length-i+(b.length-j)<=n->(i<a.length∨j<b.length)->Zd (YP a b n i j)=Zd a+Zd b
 |0,i,j,_,_,h,h'=>by omega
 | n + 1,i,j,hi,hj,h,h'=>by
  have step:∀(f:Zt) (i' j':Nat),i'<=a.length->j'<=b.length->a.length-i'+(b.length-j')<=n->(i'=a.length->j'=b.length->f.hi=Zd a+Zd b)->Zd (f::YP a b n i' j')=Zd a+Zd b:=fun f i' j' q1 q2 q3 q4=>by
   by_cases e:i'<a.length∨j'<b.length
   ·have ih:=Zfx a b n i' j' q1 q2 q3 e
    cases hJ:YP a b n i' j' with
    | nil=>
     exfalso;obtain⟨p,q⟩:=Zdg a b n i' j' q3
     rcases e with e|e
     obtain⟨f,hf,_⟩:=p i' (Nat.le_refl _) e;rw[hJ] at hf;cases hf;obtain⟨f,hf,_⟩:=q j' (Nat.le_refl _) e;rw[hJ] at hf;cases hf
    | cons g R=>
     rw[hJ] at ih;rw[Zhy];exact ih
   have hnil:YP a b n i' j'=[]:=by
    cases n with
    |zero=>rfl
    | succ n=>
     simp only[YP];rw[if_neg (by omega),if_neg (by omega),if_neg (by omega)]
   rw[hnil,ZiT];exact q4 (by omega) (by omega)
  simp only[YP];split;rename_i c;refine step _ _ _ (by omega) hj (by omega) (fun e1 e2=>?_);have:Zd a=(a.getD i e0).hi:=(by unfold Zd;rw[if_neg (by omega),show a.length-1=i by omega]);simp only[seen,YI];rw[if_pos e2,this];rename_i c;split;rename_i d;refine step _ _ _ hi (by omega) (by omega) (fun e1 e2=>?_);have:Zd b=(b.getD j e0).hi:=(by unfold Zd;rw[if_neg (by omega),show b.length-1=j by omega]);simp only[seen,YI];rw[if_pos e1,this];omega;rename_i d;split;rename_i m;refine step _ _ _ (by omega) (by omega) (by omega) (fun e1 e2=>?_);have t1:Zd a=(a.getD i e0).hi:=(by unfold Zd;rw[if_neg (by omega),show a.length-1=i by omega]);have t2:Zd b=(b.getD j e0).hi:=(by unfold Zd;rw[if_neg (by omega),show b.length-1=j by omega]);simp only[ZaS];rw[t1,t2];rename_i m;exfalso
  rcases h' with e|e
  ·by_cases hj:j<b.length
   exact m ⟨e,hj⟩;exact c ⟨e,fun x=>absurd x hj⟩
  by_cases hi:i<a.length
  exact m ⟨hi,e⟩;exact d ⟨e,fun x=>absurd x hi⟩
theorem Zp5{L:List Zt}{e:Zt}(h:e∈L):∃k,k<L.length/\L.getD k e0=e:=by obtain⟨k,hk,rfl⟩:=List.getElem_of_mem h;exact⟨k,hk,by simp[List.getD,hk]⟩
theorem ZmJ(A:List Zt)(e:Zt):Zd (A++[e])=e.hi:=by unfold Zd;rw[if_neg (by simp)];simp[List.getD]
theorem Zla{M:List (Int×Int)}(hr:M.Pairwise fun p q=>p.1<q.1)(q:Int×Int)(r:List (Int×Int)):Zct (q::r) M=Zct r M+(if ∃p∈M,p.1=q.1 then q.2 else 0):=by
 induction M with
 |nil=>simp[Zct]
 | cons p N ih=>
  rw[List.pairwise_cons] at hr;have:=ih hr.2;simp only[Zct,wOf];rw[this]
  by_cases e:q.1=p.1
  rw[if_pos e];have h1:¬∃x∈N,x.1=q.1:=(by rintro⟨x,hx,hv⟩;have:=hr.1 x hx;omega);have h2:∃x∈p::N,x.1=q.1:=⟨p,by simp,e.symm⟩;rw[if_neg h1,if_pos h2];omega;rw[if_neg e]
  by_cases h1:∃x∈N,x.1=q.1
  have h2:∃x∈p::N,x.1=q.1:=(by obtain⟨x,hx,hv⟩:=h1;exact⟨x,by simp[hx],hv⟩);rw[if_pos h1,if_pos h2];omega
  have h2:¬∃x∈p::N,x.1=q.1:=by
   rintro⟨x,hx,hv⟩
   rcases List.mem_cons.1 hx with rfl|hx
   exact e hv.symm;exact h1 ⟨x,hx,hv⟩
  rw[if_neg h1,if_neg h2];omega
theorem ZnJ{M:List (Int×Int)}(hr:M.Pairwise fun p q=>p.1<q.1)(x:Int):∀ps:List (Int×Int),(∀q∈ps,∃p∈M,p.1=q.1)->Zct ps (M.filter fun p=>decide (p.1<x))=Zoo ps x
 |[],_=>by simp[Zoo,Zhx]
 | q::r,h=>by
  rw[Zla (hr.sublist List.filter_sublist),ZnJ hr x r (fun y hy=>h y (by simp[hy]))];simp only[Zoo]
  by_cases c:q.1<x
  rw[if_pos c,if_pos ?_];omega;obtain⟨p,hp,e⟩:=h q (by simp);exact⟨p,by simp[hp];omega,e⟩;rw[if_neg c,if_neg ?_];omega;rintro⟨p,hp,e⟩;simp at hp;omega
theorem ZnI{M:List (Int×Int)}(hr:M.Pairwise fun p q=>p.1<q.1):∀ps:List (Int×Int),(∀q∈ps,∃p∈M,p.1=q.1)->Zct ps M=Z3 ps
 |[],_=>by simp[Z3,Zhx]
 |q::r,h=>by rw[Zla hr,ZnI hr r (fun y hy=>h y (by simp[hy])),if_pos (h q (by simp))];simp only[Z3];omega
theorem ZkQ{x:Int}:∀(M:List (Int×Int)) (low:Int),M.Pairwise (fun p q=>p.1<q.1)->∀e∈ZS low M,e.lo=low+Z3 (M.filter fun p=>decide (p.1<e.v))
 |[],_,_=>by simp[ZS]
 | p ::r,low,hr=>by
  rw[List.pairwise_cons] at hr;intro e he;simp only[ZS] at he
  rcases List.mem_cons.1 he with rfl|he
  ·have:(p::r).filter (fun q=>decide (q.1<p.1))=[]:=by
    rw[List.filter_eq_nil_iff];intro q hq
    rcases List.mem_cons.1 hq with rfl|hq
    simp;have:=hr.1 q hq;simp;omega
   show low=low+Z3 ((p::r).filter fun q=>decide (q.1<p.1));rw[this];simp[Z3]
  have h1:=ZkQ (x:=x) r (low+p.2) hr.2 e he
  have h2:p.1<e.v:=by
   have:∀(N:List (Int×Int)) (l:Int) (e:Zt),e∈ZS l N->∃q∈N,q.1=e.v:=by
    intro N
    induction N with
    |nil=>intro l e he;simp[ZS] at he
    | cons q N ih=>
     intro l e he;simp only[ZS] at he
     rcases List.mem_cons.1 he with rfl|he
     exact⟨q,by simp,rfl⟩;obtain⟨y,hy,e'⟩:=ih _ e he;exact⟨y,by simp[hy],e'⟩
   obtain⟨q,hq,e'⟩:=this r _ e he;have:=hr.1 q hq;omega
  rw[h1,List.filter_cons_of_pos (by simpa using h2)];simp only[Z3];omega
theorem Zdn:∀(M:List (Int×Int)) (low:Int),(∀e∈ZS low M,∃p∈M,p.1=e.v/\p.2=e.wt/\e.hi=e.lo+e.wt)/\(∀p∈M,∃e∈ZS low M,e.v=p.1)/\(M≠[]->Zd (ZS low M)=low+Z3 M)
  |[],low=>by simp[ZS]
  | p ::r,low=>by
    obtain⟨h1,h2,h3⟩:=Zdn r (low+p.2);refine⟨fun e he=>?_,fun q hq=>?_,fun _=>?_⟩
    · simp only[ZS] at he
      rcases List.mem_cons.1 he with rfl|he
      exact⟨p,by simp,rfl,rfl,rfl⟩;obtain⟨q,hq,k⟩:=h1 e he;exact⟨q,by simp[hq],k⟩
    · simp only[ZS]
      rcases List.mem_cons.1 hq with rfl|hq
      exact⟨_,List.mem_cons_self,rfl⟩;obtain⟨e,he,k⟩:=h2 q hq;exact⟨e,by simp[he],k⟩
    cases r with
    |nil=>simp[ZS,ZiT,Z3]
    | cons q r=>
      have:=h3 (by simp);simp only[ZS] at this ⊢;rw[Zhy,this];simp only[Z3];omega
theorem Zi1.of_sum{ps M:List (Int×Int)}(h:YC ps M):Zi1 ps (ZS 0 M):=by
 obtain⟨r1,r2,r3⟩:=Zdn M 0;have hw:∀N:List (Int×Int),(∀p∈N,p∈M)->Z3 N=Zct ps N:=fun N hN=>Zho (fun p hp=>h.wt p (hN p hp));refine⟨fun e he=>?_,fun q hq=>?_,fun q hq=>?_,?_⟩;obtain⟨p,hp,ev,ew,eh⟩:=r1 e he;have el:=ZkQ (x:=0) M 0 h.rise e he;rw[hw _ (fun p hp=>(List.mem_filter.1 hp).1),ZnJ h.rise e.v ps h.all] at el;have:=h.wt p hp;rw[ev] at this;omega;obtain⟨p,hp,e⟩:=h.all q hq;obtain⟨f,hf,k⟩:=r2 p hp;exact⟨f,hf,by omega⟩;obtain⟨p,hp,e⟩:=h.all q hq;obtain⟨f,hf,k⟩:=r2 p hp;exact⟨f,hf,by omega⟩
 by_cases e:M=[]
 ·subst e
  have:ps=[]:=by
   cases ps with
   |nil=>rfl
   |cons q r=>obtain⟨p,hp,_⟩:=h.all q (by simp);cases hp
  subst this;rfl
 rw[r3 e,hw M (fun _ x=>x),ZnI h.rise ps h.all];omega
end Go.Proofs.YtfcgnpchbcmdeaaGreat
