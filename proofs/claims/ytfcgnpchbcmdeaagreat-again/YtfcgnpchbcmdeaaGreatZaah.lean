namespace Go.Proofs.YtfcgnpchbcmdeaaGreat
structure Zt where
 v:Int
 lo:Int
 hi:Int
 wt:Int
def Zbk(z:Int):Int:=if 1000000000<z then 1000000000 else if z< -1000000000 then -1000000000 else z
def ZcG(z:Int):Int:=if z<1∨1000<z then 1 else z
def Zk(vs ws:List Int):List (Int×Int):=(List.zip vs ws).map fun p=>(Zbk p.1,ZcG p.2)
theorem ZbF(vs ws:List Int):(Zk vs ws).length=min vs.length ws.length:=by simp[Zk]
def wOf:List (Int×Int)->Int->Int
  |[],_=>0
  |p::r,v=>(if p.1=v then p.2 else 0)+wOf r v
theorem Zhn(a b:List (Int×Int))(v:Int):wOf (a++b) v=wOf a v+wOf b v:=by
 induction a with
 |nil=>simp[wOf]
 |cons p r ih=>simp only[List.cons_append,wOf,ih];omega
theorem Zp6{a b:List (Int×Int)}(h:a.Perm b)(v:Int):wOf a v=wOf b v:=by
 induction h with
 |nil=>rfl
 |cons x _ ih=>simp only[wOf,ih]
 |swap x y l=>simp only[wOf];omega
 |trans _ _ h1 h2=>exact h1.trans h2
theorem ZkY{a:List (Int×Int)}{v:Int}(h:∀p∈a,p.1≠v):wOf a v=0:=by
 induction a with
 |nil=>rfl
 |cons p r ih=>simp only[wOf];rw[if_neg (h p (by simp)),ih (fun q hq=>h q (by simp[hq]))];rfl
structure YC(ps M:List (Int×Int)):Prop where
 rise:M.Pairwise fun p q=>p.1<q.1
 sub:∀p∈M,∃q∈ps,q.1=p.1
 all:∀q∈ps,∃p∈M,p.1=q.1
 wt:∀p∈M,p.2=wOf ps p.1
theorem Znf:∀{M N:List (Int×Int)},M.Pairwise (fun p q=>p.1<q.1)->N.Pairwise (fun p q=>p.1<q.1)->(∀p,p∈M↔p∈N)->M=N
 |[],[],_,_,_=>rfl
 |[],q::_,_,_,h=>absurd ((h q).2 (by simp)) (by simp)
 |p::_,[],_,_,h=>absurd ((h p).1 (by simp)) (by simp)
 | p ::M,q::N,hM,hN,h=>by
  rw[List.pairwise_cons] at hM hN
  have hpq:p=q:=by
   rcases List.mem_cons.1 ((h p).1 (by simp)) with e|e
   exact e
   rcases List.mem_cons.1 ((h q).2 (by simp)) with e'|e'
   exact e'.symm;have h1:=hN.1 p e;have h2:=hM.1 q e';omega
  subst hpq;congr 1;refine Znf hM.2 hN.2 fun r=>⟨fun hr=>?_,fun hr=>?_⟩
  ·rcases List.mem_cons.1 ((h r).1 (by simp[hr])) with e|e
   have:=hM.1 r hr;rw[e] at this;omega;exact e
  rcases List.mem_cons.1 ((h r).2 (by simp[hr])) with e|e
  have:=hN.1 r hr;rw[e] at this;omega;exact e
theorem YC.unique{ps M N:List (Int×Int)}(hM:YC ps M)(hN:YC ps N):M=N:=by refine Znf hM.rise hN.rise fun p=>⟨fun hp=>?_,fun hp=>?_⟩;obtain⟨q,hq,e⟩:=hM.sub p hp;obtain⟨r,hr,e'⟩:=hN.all q hq;have hpr:p=r:=Prod.ext (by omega) (by rw[hM.wt p hp,hN.wt r hr,e',e]);exact hpr ▸ hr;obtain⟨q,hq,e⟩:=hN.sub p hp;obtain⟨r,hr,e'⟩:=hM.all q hq;have hpr:p=r:=Prod.ext (by omega) (by rw[hN.wt p hp,hM.wt r hr,e',e]);exact hpr ▸ hr
theorem YC.perm{ps qs M:List (Int×Int)}(h:YC ps M)(hp:ps.Perm qs):YC qs M:=
 ⟨h.rise,fun p hpM=>let ⟨q,hq,e⟩:=h.sub p hpM;⟨q,hp.mem_iff.1 hq,e⟩,fun q hq=>h.all q (hp.mem_iff.2 hq),fun p hpM=>(h.wt p hpM).trans (Zp6 hp _)⟩
theorem YC.more{ps M:List (Int×Int)}(h:YC ps M)(p:Int×Int)(hle:∀q∈ps,q.1<p.1):YC (ps++[p]) (M++[p]):=by
 refine⟨?_,?_,?_,?_⟩;rw[List.pairwise_append];refine⟨h.rise,by simp,fun a ha b hb=>?_⟩;simp at hb;subst hb;obtain⟨q,hq,e⟩:=h.sub a ha;have:=hle q hq;omega
 ·intro a ha
  rcases List.mem_append.1 ha with ha|ha
  obtain⟨q,hq,e⟩:=h.sub a ha;exact⟨q,by simp[hq],e⟩;simp at ha;subst ha;exact⟨a,by simp,rfl⟩
 ·intro q hq
  rcases List.mem_append.1 hq with hq|hq
  obtain⟨a,ha,e⟩:=h.all q hq;exact⟨a,by simp[ha],e⟩;simp at hq;subst hq;exact⟨q,by simp,rfl⟩
 intro a ha;rw[Zhn]
 rcases List.mem_append.1 ha with ha|ha
 obtain⟨q,hq,e⟩:=h.sub a ha;have:=hle q hq;simp only[wOf];rw[if_neg (by omega),h.wt a ha];omega;simp at ha;subst ha;rw[ZkY (fun q hq=>by have:=hle q hq;omega)];simp[wOf]
theorem YC.same{ps M:List (Int×Int)}{v w:Int}(h:YC ps (M++[(v,w)]))(u:Int):YC (ps++[(v,u)]) (M++[(v,w+u)]):=by
 have hr:=h.rise;rw[List.pairwise_append] at hr;refine⟨?_,?_,?_,?_⟩;rw[List.pairwise_append];refine⟨hr.1,by simp,fun a ha b hb=>?_⟩;simp at hb;subst hb;exact hr.2.2 a ha (v,w) (by simp)
 ·intro a ha
  rcases List.mem_append.1 ha with ha|ha
  obtain⟨q,hq,e⟩:=h.sub a (by simp[ha]);exact⟨q,by simp[hq],e⟩;simp at ha;subst ha;exact⟨(v,u),by simp,rfl⟩
 ·intro q hq
  rcases List.mem_append.1 hq with hq|hq
  ·obtain⟨a,ha,e⟩:=h.all q hq
   rcases List.mem_append.1 ha with ha|ha
   exact⟨a,by simp[ha],e⟩;simp at ha;subst ha;exact⟨(v,w+u),by simp,e⟩
  simp at hq;subst hq;exact⟨(v,w+u),by simp,rfl⟩
 intro a ha;rw[Zhn]
 rcases List.mem_append.1 ha with ha|ha
 have:=hr.2.2 a ha (v,w) (by simp);simp only[wOf];simp only at this;rw[if_neg (by omega),h.wt a (by simp[ha])];omega;simp at ha;subst ha;have:=h.wt (v,w) (by simp);simp only[wOf,if_true] at *;omega
theorem YC.nil:YC [] []:=⟨by simp,by simp,by simp,by simp⟩
def ZV:Int->List (Int×Int)->List Zt
  |_,[]=>[]
  |low,p::r=>⟨p.1,low,low+p.2,p.2⟩::ZV (low+p.2) r
def Z3:List (Int×Int)->Int
  |[]=>0
  |p::r=>p.2+Z3 r
theorem ZfA(a b:List (Int×Int)):Z3 (a++b)=Z3 a+Z3 b:=by
 induction a with
 |nil=>simp[Z3]
 |cons p r ih=>simp only[List.cons_append,Z3,ih];omega
theorem Zjl(low:Int)(a b:List (Int×Int)):ZV low (a++b)=ZV low a++ZV (low+Z3 a) b:=by
 induction a generalizing low with
 |nil=>simp[ZV,Z3]
 |cons p r ih=>simp only[List.cons_append,ZV,ih,Z3];rw[show low+p.2+Z3 r=low+(p.2+Z3 r) by omega]
theorem Ziu(low:Int)(a:List (Int×Int)):(ZV low a).length=a.length:=by
 induction a generalizing low with
 |nil=>rfl
 |cons p r ih=>simp[ZV,ih]
structure ZJ(L:List Zt):Prop where
 each:∀e∈L,0<=e.lo/\1<=e.wt/\e.lo+e.wt<=e.hi/\e.hi<=1000000000000/\ -1000000000<=e.v/\e.v<=1000000000
 step:L.Pairwise fun e f=>e.v<f.v/\e.lo+e.wt<=f.lo/\e.hi<=f.hi-f.wt
theorem ZJ.nil:ZJ []:=⟨by simp,by simp⟩
theorem ZJ.sub{L M:List Zt}(h:ZJ L)(hs:M.Sublist L):ZJ M:=⟨fun e he=>h.each e (hs.subset he),h.step.sublist hs⟩
theorem ZkH{low:Int}{a:List (Int×Int)}(hp:∀p∈a,1<=p.2):∀e∈ZV low a,low<=e.lo/\e.hi=e.lo+e.wt/\e.hi<=low+Z3 a/\∃p∈a,p.1=e.v/\p.2=e.wt:=by
 induction a generalizing low with
 |nil=>simp[ZV]
 | cons p r ih=>
  intro e he;have hp1:=hp p (by simp)
  have hpos:0<=Z3 r:=by
   clear ih he hp1
   induction r with
   |nil=>simp[Z3]
   |cons q r ih=>simp only[Z3];have:=hp q (by simp);have:=ih (fun x hx=>hp x (by simp at hx ⊢;rcases hx with h|h<;>simp[h]));omega
  rcases List.mem_cons.1 he with rfl|he
  refine⟨?_,?_,?_,p,by simp,rfl,rfl⟩;exact Int.le_refl _;rfl;simp only[Z3];omega;obtain⟨h1,h2,h3,q,hq,e1,e2⟩:=ih (fun x hx=>hp x (by simp[hx])) e he;simp only[Z3];exact⟨by omega,h2,by omega,q,by simp[hq],e1,e2⟩
theorem Zoo{low:Int}{a:List (Int×Int)}(hp:∀p∈a,1<=p.2)(hr:a.Pairwise fun p q=>p.1<q.1):(ZV low a).Pairwise fun e f=>e.v<f.v/\e.lo+e.wt<=f.lo/\e.hi<=f.hi-f.wt:=by
 induction a generalizing low with
 |nil=>simp[ZV]
 | cons p r ih=>
  rw[List.pairwise_cons] at hr;simp only[ZV];rw[List.pairwise_cons];refine⟨fun f hf=>?_,ih (fun x hx=>hp x (by simp[hx])) hr.2⟩;obtain⟨h1,h2,_,q,hq,e1,e2⟩:=ZkH (fun x hx=>hp x (by simp[hx])) f hf;have:=hr.1 q hq;simp only;omega
theorem Zon{a:List (Int×Int)}(hp:∀p∈a,1<=p.2)(hr:a.Pairwise fun p q=>p.1<q.1)(hv:∀p∈a,-1000000000<=p.1/\p.1<=1000000000)(hs:Z3 a<=1000000000000):ZJ (ZV 0 a):=by refine⟨fun e he=>?_,Zoo hp hr⟩;obtain⟨h1,h2,h3,q,hq,e1,e2⟩:=ZkH hp e he;have:=hv q hq;have:=hp q hq;omega
theorem Zjt{ps:List (Int×Int)}(hp:∀p∈ps,1<=p.2):∀v,0<=wOf ps v:=by
 induction ps with
 |nil=>intro v;simp[wOf]
 | cons p r ih=>
  intro v;have h1:=ih (fun q hq=>hp q (by simp[hq])) v;have h2:=hp p (by simp);simp only[wOf];split<;>omega
theorem ZrO{ps:List (Int×Int)}(hp:∀p∈ps,1<=p.2):∀q∈ps,1<=wOf ps q.1:=by
 induction ps with
 |nil=>simp
 | cons p r ih=>
  intro q hq;have h2:=hp p (by simp);simp only[wOf]
  rcases List.mem_cons.1 hq with rfl|hq
  have:=Zjt (fun x hx=>hp x (List.mem_cons_of_mem _ hx)) q.1;simp;omega;have:=ih (fun x hx=>hp x (by simp[hx])) q hq;split<;>omega
def Zcq(ps:List (Int×Int)):List (Int×Int)->Int
 |[]=>0
 |p::M=>wOf ps p.1+Zcq ps M
theorem ZoC(q:Int×Int)(r M:List (Int×Int))(hq:0<=q.2)(hr:M.Pairwise fun p q=>p.1<q.1):Zcq (q::r) M<=Zcq r M+q.2/\((∀p∈M,p.1≠q.1)->Zcq (q::r) M=Zcq r M):=by
 induction M with
 |nil=>simp[Zcq];exact hq
 | cons p M ih=>
  rw[List.pairwise_cons] at hr;have ih:=ih hr.2;simp only[Zcq,wOf]
  by_cases h:q.1=p.1
  have:=ih.2 (fun x hx e=>by have:=hr.1 x hx;omega);rw[if_pos h];exact⟨by omega,fun hn=>absurd h.symm (hn p (by simp))⟩;rw[if_neg h];exact⟨by omega,fun hn=>by have:=ih.2 (fun x hx=>hn x (by simp[hx]));omega⟩
theorem Zhl(M:List (Int×Int)):Zcq [] M=0:=by
 induction M with
 |nil=>rfl
 |cons p M ih=>simp[Zcq,wOf,ih]
theorem Znm{ps M:List (Int×Int)}(hp:∀p∈ps,1<=p.2)(hr:M.Pairwise fun p q=>p.1<q.1):Zcq ps M<=Z3 ps:=by
 induction ps with
 |nil=>simp[Zhl,Z3]
 | cons q r ih=>
  have h1:=(ZoC q r M (by have:=hp q (by simp);omega) hr).1;have h2:=ih (fun x hx=>hp x (by simp[hx]));simp only[Z3];omega
theorem Zhc{ps M:List (Int×Int)}(h:∀p∈M,p.2=wOf ps p.1):Z3 M=Zcq ps M:=by
 induction M with
 |nil=>rfl
 |cons p M ih=>simp only[Z3,Zcq];rw[h p (by simp),ih (fun x hx=>h x (by simp[hx]))]
theorem Zf5{ps:List (Int×Int)}(hp:∀p∈ps,p.2<=1000):Z3 ps<=1000*ps.length:=by
 induction ps with
 |nil=>simp[Z3]
 | cons q r ih=>
  have h1:=hp q (by simp);have h2:=ih (fun x hx=>hp x (by simp[hx]));simp only[Z3,List.length_cons];omega
theorem ZnA(z:Int):1<=ZcG z/\ZcG z<=1000:=by unfold ZcG;split<;>omega
theorem Znz(z:Int): -1000000000<=Zbk z/\Zbk z<=1000000000:=by unfold Zbk;split<;>(try split)<;>omega
theorem ZcS{vs ws:List Int}{p:Int×Int}(h:p∈Zk vs ws):(1<=p.2/\p.2<=1000)/\(-1000000000<=p.1/\p.1<=1000000000)/\∃z∈vs,p.1=Zbk z:=by unfold Zk at h;obtain⟨q,hq,rfl⟩:=List.mem_map.1 h;exact⟨ZnA _,Znz _,q.1,(List.of_mem_zip hq).1,rfl⟩
theorem YC.good{vs ws:List Int}{M:List (Int×Int)}(h:YC (Zk vs ws) M)(hl:vs.length<=2097152):ZJ (ZV 0 M):=by have hp:∀p∈Zk vs ws,1<=p.2:=fun p hp=>(ZcS hp).1.1;refine Zon ?_ h.rise ?_ ?_;intro p hpM;obtain⟨q,hq,e⟩:=h.sub p hpM;rw[h.wt p hpM,<- e];exact ZrO hp q hq;intro p hpM;obtain⟨q,hq,e⟩:=h.sub p hpM;have:=(ZcS hq).2.1;omega;have h1:=Znm hp h.rise;have h2:=Zf5 (fun p hp=>(ZcS hp).1.2:∀p∈Zk vs ws,p.2<=1000);rw[Zhc h.wt];have h3:(Zk vs ws).length<=2097152:=(by rw[ZbF];omega);omega
def e0:Zt:=⟨0,0,0,0⟩
def Zd(L:List Zt):Int:=if L.length=0 then 0 else(L.getD (L.length-1) e0).hi
def Yn(L:List Zt)(j:Nat):Int:=if j=0 then 0 else(L.getD (j-1) e0).lo+(L.getD (j-1) e0).wt
def YK(L:List Zt)(j:Nat):Int:=if j=L.length then Zd L else(L.getD j e0).hi-(L.getD j e0).wt
def seen(o:List Zt)(j:Nat)(e:Zt):Zt:=⟨e.v,e.lo+Yn o j,e.hi+YK o j,e.wt⟩
def ZaY(e f:Zt):Zt:=⟨e.v,e.lo+f.lo,e.hi+f.hi,e.wt+f.wt⟩
def YQ(a b:List Zt):Nat->Nat->Nat->List Zt
 |0,_,_=>[]
 | n+1,i,j=>
  if i<a.length/\(j<b.length->(a.getD i e0).v<(b.getD j e0).v) then seen b j (a.getD i e0)::YQ a b n (i+1) j
  else if j<b.length/\(i<a.length->(b.getD j e0).v<(a.getD i e0).v) then seen a i (b.getD j e0)::YQ a b n i (j+1)
  else if i<a.length/\j<b.length then ZaY (a.getD i e0) (b.getD j e0)::YQ a b n (i+1) (j+1)
  else[]
def ZE(a b:List Zt):List Zt:=YQ a b (a.length+b.length) 0 0
theorem Zcj(a b:List Zt):∀n m i j,a.length-i+(b.length-j)<=n->a.length-i+(b.length-j)<=m->YQ a b n i j=YQ a b m i j
 |0,0,_,_,_,_=>rfl
 |0,m+1,i,j,h,_=>by simp only[YQ];rw[if_neg (by omega),if_neg (by omega),if_neg (by omega)]
 |n+1,0,i,j,_,h=>by simp only[YQ];rw[if_neg (by omega),if_neg (by omega),if_neg (by omega)]
 |n+1,m+1,i,j,h,h'=>by simp only[YQ];split;rw[Zcj a b n m (i+1) j (by omega) (by omega)];split;rw[Zcj a b n m i (j+1) (by omega) (by omega)];split;rw[Zcj a b n m (i+1) (j+1) (by omega) (by omega)];rfl
def ZbH(a b:List Zt)(i j:Nat):List Zt:=YQ a b (a.length-i+(b.length-j)) i j
theorem Zmc(a b:List Zt):ZbH a b 0 0=ZE a b:=by unfold ZbH ZE;simp
theorem Zq0{a b:List Zt}{i j:Nat}(hi:i<a.length)(h:j<b.length->(a.getD i e0).v<(b.getD j e0).v):ZbH a b i j=seen b j (a.getD i e0)::ZbH a b (i+1) j:=by unfold ZbH;rw[show a.length-i+(b.length-j)=(a.length-(i+1)+(b.length-j))+1 by omega];simp only[YQ];rw[if_pos ⟨hi,h⟩]
theorem Zq1{a b:List Zt}{i j:Nat}(hj:j<b.length)(h:i<a.length->(b.getD j e0).v<(a.getD i e0).v):ZbH a b i j=seen a i (b.getD j e0)::ZbH a b i (j+1):=by unfold ZbH;rw[show a.length-i+(b.length-j)=(a.length-i+(b.length-(j+1)))+1 by omega];simp only[YQ];rw[if_neg (fun hc=>by have h1:=hc.2 hj;have h2:=h hc.1;omega),if_pos ⟨hj,h⟩]
theorem ZpS{a b:List Zt}{i j:Nat}(hi:i<a.length)(hj:j<b.length)(h:(a.getD i e0).v=(b.getD j e0).v):ZbH a b i j=ZaY (a.getD i e0) (b.getD j e0)::ZbH a b (i+1) (j+1):=by unfold ZbH;rw[show a.length-i+(b.length-j)=(a.length-(i+1)+(b.length-(j+1))+1)+1 by omega];simp only[YQ];rw[if_neg (fun hc=>by have h1:=hc.2 hj;omega),if_neg (fun hc=>by have h1:=hc.2 hi;omega),if_pos ⟨hi,hj⟩];congr 1;exact Zcj a b (a.length-(i+1)+(b.length-(j+1))+1) (a.length-(i+1)+(b.length-(j+1))) (i+1) (j+1) (by omega) (by omega)
theorem Ziv{a b:List Zt}{i j:Nat}(hi:¬i<a.length)(hj:¬j<b.length):ZbH a b i j=[]:=by unfold ZbH;rw[show a.length-i+(b.length-j)=0 by omega];rfl
theorem Zer{L:List Zt}{i:Nat}(h:i<L.length):L.getD i e0∈L:=by simp[List.getD,h]
theorem ZJ.at{L:List Zt}(g:ZJ L){i:Nat}(h:i<L.length):0<=(L.getD i e0).lo/\1<=(L.getD i e0).wt/\(L.getD i e0).lo+(L.getD i e0).wt<=(L.getD i e0).hi/\(L.getD i e0).hi<=1000000000000/\ -1000000000<=(L.getD i e0).v/\(L.getD i e0).v<=1000000000:=g.each _ (Zer h)
theorem ZJ.lt{L:List Zt}(g:ZJ L){i j:Nat}(hij:i<j)(h:j<L.length):(L.getD i e0).v<(L.getD j e0).v/\(L.getD i e0).lo+(L.getD i e0).wt<=(L.getD j e0).lo/\(L.getD i e0).hi<=(L.getD j e0).hi-(L.getD j e0).wt:=by have:=List.pairwise_iff_getElem.1 g.step i j (by omega) h hij;have e1:L.getD i e0=L[i]'(by omega):=(by simp[List.getD,show i<L.length by omega]);have e2:L.getD j e0=L[j]:=(by simp[List.getD,h]);rw[e1,e2];exact this
theorem ZaH{L:List Zt}(g:ZJ L){i:Nat}(h:i<L.length):(L.getD i e0).hi<=YK L (i+1)/\YK L i<=YK L (i+1)/\YK L i=(L.getD i e0).hi-(L.getD i e0).wt:=by
 have a:=g.at h;have e:YK L i=(L.getD i e0).hi-(L.getD i e0).wt:=by unfold YK;rw[if_neg (by omega)]
 have k:(L.getD i e0).hi<=YK L (i+1):=(by unfold YK;split;unfold Zd;rw[if_neg (by omega)];rw[show L.length-1=i by omega];exact Int.le_refl _;exact(g.lt (show i<i+1 by omega) (by omega)).2.2);exact⟨k,by omega,e⟩
theorem Zbh{L:List Zt}(g:ZJ L){i:Nat}(h:i<L.length):Yn L i<=(L.getD i e0).lo/\Yn L (i+1)=(L.getD i e0).lo+(L.getD i e0).wt:=by refine⟨?_,by unfold Yn;simp⟩;unfold Yn;split;exact(g.at h).1;exact(g.lt (show i-1<i by omega) h).2.1
theorem Zb7{L:List Zt}(g:ZJ L){i:Nat}(h:i<L.length):(L.getD i e0).hi<=Zd L:=by
 unfold Zd;rw[if_neg (by omega)]
 by_cases e:i=L.length-1
 rw[e];exact Int.le_refl _;have h1:=(g.lt (show i<L.length-1 by omega) (by omega)).2.2;have h2:=g.at (show L.length-1<L.length by omega);omega
theorem Zjk{L:List Zt}(g:ZJ L){j:Nat}(h:j<=L.length):YK L j<=Zd L/\0<=Yn L j/\Yn L j<=YK L j:=by
 by_cases e:j=L.length
 have hp:YK L j=Zd L:=(by unfold YK;rw[if_pos e]);rw[hp];refine⟨Int.le_refl _,?_,?_⟩;unfold Yn;split;omega;have:=g.at (show j-1<L.length by omega);omega;unfold Yn Zd;split;rw[if_pos (by omega)];omega;have:=g.at (show j-1<L.length by omega);rw[if_neg (by omega),<- e];omega;have hj:j<L.length:=(by omega);have h1:=ZaH g hj;have h2:=Zb7 g hj;have h3:=g.at hj;have h4:=Zbh g hj;refine⟨by omega,?_,?_⟩;unfold Yn;split;omega;have:=g.at (show j-1<L.length by omega);omega;unfold Yn;split;omega;have:=g.lt (show j-1<j by omega) hj;have:=g.at (show j-1<L.length by omega);omega
structure ZmD(a b:List Zt)(i j:Nat)(f:Zt):Prop where
 lo:Yn a i+Yn b j<=f.lo
 hi:YK a i+YK b j<=f.hi-f.wt
 top:f.hi<=Zd a+Zd b
 wt:1<=f.wt
 rng:f.lo+f.wt<=f.hi
 va:0<i->(a.getD (i-1) e0).v<f.v
 vb:0<j->(b.getD (j-1) e0).v<f.v
 from_:(∃e∈a,e.v=f.v)∨∃e∈b,e.v=f.v
theorem ZmD.back{a b:List Zt}(ga:ZJ a)(gb:ZJ b){i j i' j':Nat}{f:Zt}(h:ZmD a b i' j' f)(hi:i<=i')(hj:j<=j')(hi2:i'<=i+1)(hj2:j'<=j+1)(hil:i'<=a.length)(hjl:j'<=b.length):ZmD a b i j f:=by
 have ka:Yn a i<=Yn a i'/\YK a i<=YK a i'/\(0<i->(a.getD (i-1) e0).v<f.v):=by
  by_cases e:i'=i
  subst e;exact⟨Int.le_refl _,Int.le_refl _,h.va⟩;obtain rfl:i'=i+1:=(by omega);have h1:=Zbh ga (show i<a.length by omega);have h2:=ZaH ga (show i<a.length by omega);have h3:=ga.at (show i<a.length by omega);refine⟨by omega,by omega,fun h0=>?_⟩;have h4:=(ga.lt (show i-1<i by omega) (by omega)).1;have h5:=h.va (by omega);simp only[Nat.add_sub_cancel] at h5;omega
 have kb:Yn b j<=Yn b j'/\YK b j<=YK b j'/\(0<j->(b.getD (j-1) e0).v<f.v):=by
  by_cases e:j'=j
  subst e;exact⟨Int.le_refl _,Int.le_refl _,h.vb⟩;obtain rfl:j'=j+1:=(by omega);have h1:=Zbh gb (show j<b.length by omega);have h2:=ZaH gb (show j<b.length by omega);have h3:=gb.at (show j<b.length by omega);refine⟨by omega,by omega,fun h0=>?_⟩;have h4:=(gb.lt (show j-1<j by omega) (by omega)).1;have h5:=h.vb (by omega);simp only[Nat.add_sub_cancel] at h5;omega
 have h1:=h.lo;have h2:=h.hi;exact⟨by omega,by omega,h.top,h.wt,h.rng,ka.2.2,kb.2.2,h.from_⟩
def ZmH(e f:Zt):Prop:=e.v<f.v/\e.lo+e.wt<=f.lo/\e.hi<=f.hi-f.wt
theorem ZaQ{a b:List Zt}(ga:ZJ a)(gb:ZJ b):∀n i j,i<=a.length->j<=b.length->(i<a.length->0<j->(b.getD (j-1) e0).v<(a.getD i e0).v)->(j<b.length->0<i->(a.getD (i-1) e0).v<(b.getD j e0).v)->(∀f∈YQ a b n i j,ZmD a b i j f)/\(YQ a b n i j).Pairwise ZmH
 |0,i,j,_,_,_,_=>by simp[YQ]
 | n + 1,i,j,hi,hj,hva,hvb=>by
  simp only[YQ];split
  ·rename_i h;have a1:=ga.at h.1;have a2:=Zbh ga h.1;have a3:=ZaH ga h.1;have a4:=Zb7 ga h.1;have b1:=Zjk gb hj;have ih:=ZaQ ga gb n (i+1) j (by omega) hj (fun h1 h0=>by have:=hva h.1 h0;have:=(ga.lt (show i<i+1 by omega) h1).1;omega) (fun h1 _=>by simpa using h.2 h1);refine⟨fun f hf=>?_,?_⟩
   ·rcases List.mem_cons.1 hf with rfl|hf
    refine⟨?_,?_,?_,a1.2.1,?_,?_,fun h0=>hva h.1 h0,.inl ⟨_,Zer h.1,rfl⟩⟩;simp only[seen];omega;simp only[seen];omega;simp only[seen];omega;simp only[seen];omega;intro h0;exact(ga.lt (show i-1<i by omega) h.1).1;exact(ih.1 f hf).back ga gb (by omega) (by omega) (by omega) (by omega) (by omega) hj
   rw[List.pairwise_cons];refine⟨fun f hf=>?_,ih.2⟩;have c:=ih.1 f hf;have c1:=c.lo;have c2:=c.hi;have c3:=c.va (by omega);simp only[Nat.add_sub_cancel] at c3;unfold ZmH;simp only[seen];omega
  split
  ·rename_i _ h;have a1:=gb.at h.1;have a2:=Zbh gb h.1;have a3:=ZaH gb h.1;have a4:=Zb7 gb h.1;have b1:=Zjk ga hi;have ih:=ZaQ ga gb n i (j+1) hi (by omega) (fun h1 _=>by simpa using h.2 h1) (fun h1 h0=>by have:=hvb h.1 h0;have:=(gb.lt (show j<j+1 by omega) h1).1;omega);refine⟨fun f hf=>?_,?_⟩
   ·rcases List.mem_cons.1 hf with rfl|hf
    refine⟨?_,?_,?_,a1.2.1,?_,fun h0=>hvb h.1 h0,?_,.inr ⟨_,Zer h.1,rfl⟩⟩;simp only[seen];omega;simp only[seen];omega;simp only[seen];omega;simp only[seen];omega;intro h0;exact(gb.lt (show j-1<j by omega) h.1).1;exact(ih.1 f hf).back ga gb (by omega) (by omega) (by omega) (by omega) hi (by omega)
   rw[List.pairwise_cons];refine⟨fun f hf=>?_,ih.2⟩;have c:=ih.1 f hf;have c1:=c.lo;have c2:=c.hi;have c3:=c.vb (by omega);simp only[Nat.add_sub_cancel] at c3;unfold ZmH;simp only[seen];omega
  split
  ·rename_i hA hB h;have he:(a.getD i e0).v=(b.getD j e0).v:=(by have h1:¬(a.getD i e0).v<(b.getD j e0).v:=fun hc=>hA ⟨h.1,fun _=>hc⟩;have h2:¬(b.getD j e0).v<(a.getD i e0).v:=fun hc=>hB ⟨h.2,fun _=>hc⟩;omega);have a1:=ga.at h.1;have a2:=Zbh ga h.1;have a3:=ZaH ga h.1;have a4:=Zb7 ga h.1;have b1:=gb.at h.2;have b2:=Zbh gb h.2;have b3:=ZaH gb h.2;have b4:=Zb7 gb h.2;have ih:=ZaQ ga gb n (i+1) (j+1) (by omega) (by omega) (fun h1 _=>by have:=(ga.lt (show i<i+1 by omega) h1).1;simp only[Nat.add_sub_cancel];omega) (fun h1 _=>by have:=(gb.lt (show j<j+1 by omega) h1).1;simp only[Nat.add_sub_cancel];omega);refine⟨fun f hf=>?_,?_⟩
   ·rcases List.mem_cons.1 hf with rfl|hf
    refine⟨?_,?_,?_,?_,?_,?_,?_,.inl ⟨_,Zer h.1,rfl⟩⟩;simp only[ZaY];omega;simp only[ZaY];omega;simp only[ZaY];omega;simp only[ZaY];omega;simp only[ZaY];omega;intro h0;exact(ga.lt (show i-1<i by omega) h.1).1;intro h0;have:=(gb.lt (show j-1<j by omega) h.2).1;simp only[ZaY];omega;exact(ih.1 f hf).back ga gb (by omega) (by omega) (by omega) (by omega) (by omega) (by omega)
   rw[List.pairwise_cons];refine⟨fun f hf=>?_,ih.2⟩;have c:=ih.1 f hf;have c1:=c.lo;have c2:=c.hi;have c3:=c.va (by omega);simp only[Nat.add_sub_cancel] at c3;unfold ZmH;simp only[ZaY];omega
  simp
theorem ZaE{a b:List Zt}(ga:ZJ a)(gb:ZJ b)(ht:Zd a+Zd b<=1000000000000):ZJ (ZE a b):=by
 have h:=ZaQ ga gb (a.length+b.length) 0 0 (by omega) (by omega) (fun _ h=>absurd h (by omega)) (fun _ h=>absurd h (by omega));refine⟨fun f hf=>?_,h.2⟩;have c:=h.1 f hf;have c1:=c.lo;have c4:=c.top;have c5:=c.wt;have c6:=c.rng;have:Yn a 0=0:=rfl;have:Yn b 0=0:=rfl
 rcases c.from_ with⟨e,he,ev⟩|⟨e,he,ev⟩
 have:=ga.each e he;omega;have:=gb.each e he;omega
theorem ZgG{a b:List Zt}(ga:ZJ a)(gb:ZJ b):∀f∈ZE a b,(∃e∈a,e.v=f.v)∨∃e∈b,e.v=f.v:=by have h:=ZaQ ga gb (a.length+b.length) 0 0 (by omega) (by omega) (fun _ h=>absurd h (by omega)) (fun _ h=>absurd h (by omega));exact fun f hf=>(h.1 f hf).from_
def Zez(L:List Zt)(i:Nat):Int:=(L.getD i e0).lo+(L.getD i e0).hi
def ZeA(L:List Zt)(s:Nat)(k i:Nat):Bool:=decide ((Zez L i+Zez L (i+1))*((s:Int)-1)<4*(k:Int)*Zd L)
def QR(C:Nat->Bool):Nat->Nat->Nat
 |0,i=>i
 |f+1,i=>if C i=true then QR C f (i+1) else i
theorem ZcJ(C:Nat->Bool):∀f i,i<=QR C f i/\QR C f i<=i+f/\(∀j,i<=j->j<QR C f i->C j=true)/\(QR C f i=i+f∨C (QR C f i)=false)
 |0,i=>by simp[QR];omega
 | f + 1,i=>by
  have ih:=ZcJ C f (i+1);simp only[QR]
  by_cases h:C i=true
  ·rw[if_pos h];refine⟨by omega,by omega,fun j h1 h2=>?_,?_⟩
   ·by_cases e:j=i
    rw[e];exact h;exact ih.2.2.1 j (by omega) h2
   rcases ih.2.2.2 with e|e
   left;omega;right;exact e
  rw[if_neg h];exact⟨Nat.le_refl _,by omega,fun j h1 h2=>by omega,.inr (by simpa using h)⟩
def ZaL(L:List Zt)(s k:Nat):Nat:=QR (ZeA L s k) (L.length-3) 1
structure Zjy(L:List Zt)(s k r:Nat):Prop where
 pos:1<=r
 le:r+2<=L.length
 yes:∀i,1<=i->i<r->ZeA L s k i=true
 no:r+2=L.length∨ZeA L s k r=false
theorem Zai (L:List Zt) (s k:Nat) (h:3<=L.length):Zjy L s k (ZaL L s k):=by
  have:=ZcJ (ZeA L s k) (L.length-3) 1;unfold ZaL
  exact ⟨this.1, by omega, this.2.2.1, by rcases this.2.2.2 with e|e; · left;omega
                                          right;exact e⟩
theorem Zjy.unique{L:List Zt}{s k r q:Nat}(hr:Zjy L s k r)(hq:Zjy L s k q):r=q:=by
 rcases Nat.lt_trichotomy r q with h|h|h
 ·have h1:=hq.yes r hr.pos h
  rcases hr.no with e|e
  have:=hq.le;omega;rw[h1] at e;cases e
 exact h;have h1:=hr.yes q hq.pos h
 rcases hq.no with e|e
 have:=hr.le;omega;rw[h1] at e;cases e
theorem Y3{L:List Zt}(g:ZJ L):0<=Zd L/\Zd L<=1000000000000:=by unfold Zd;split;omega;have:=g.at (show L.length-1<L.length by omega);omega
theorem Zip{L:List Zt}(g:ZJ L){s k i:Nat}(h:ZeA L s k i=true):ZeA L s (k+1) i=true:=by unfold ZeA at *;have ht:=(Y3 g).1;rw[decide_eq_true_eq] at *;have:4*(k:Int)*Zd L<=4*((k+1:Nat):Int)*Zd L:=Int.mul_le_mul_of_nonneg_right (by omega) ht;omega
theorem Znu{L:List Zt}(g:ZJ L)(s k:Nat)(h:3<=L.length):ZaL L s k<=ZaL L s (k+1):=by
 have h1:=Zai L s k h;have h2:=Zai L s (k+1) h
 by_cases hc:ZaL L s k<=ZaL L s (k+1)
 exact hc;have h3:=Zip g (h1.yes (ZaL L s (k+1)) h2.pos (by omega))
 rcases h2.no with e|e
 have:=h1.le;omega;rw[h3] at e;cases e
def ZbG(L:List Zt)(s k:Nat):Nat:=if k=0 then 0 else ZaL L s k
def YS(L:List Zt)(s:Nat):Nat->List Zt
 |0=>[L.getD 0 e0]
 |k+1=>if ZaL L s (k+1)=ZbG L s k then YS L s k else YS L s k++[L.getD (ZaL L s (k+1)) e0]
def YX(L:List Zt)(size:Int):List Zt:=
 if(L.length:Int)<=max size 2 then L else YS L (max size 2).toNat ((max size 2).toNat-2)++[L.getD (L.length-1) e0]
theorem Zco(L:List Zt){r:Nat}(h:r<L.length):L.take (r+1)=L.take r++[L.getD r e0]:=by rw[List.take_succ_eq_append_getElem h];simp[List.getD,h]
theorem Zke{L:List Zt}(g:ZJ L)(s:Nat)(h:3<=L.length):∀k,(YS L s k).Sublist (L.take (ZbG L s k+1))/\ZbG L s k+2<=L.length/\ZbG L s k<=ZaL L s (k+1)
 |0=>by have:=(Zai L s 1 h).pos;refine⟨?_,by simp[ZbG];omega,by simp[ZbG]⟩;have e:=Zco L (show 0<L.length by omega);simp only[ZbG,if_true,YS];rw[e];simp
 |k+1=>by have ih:=Zke g s h k;have hb:=Zai L s (k+1) h;have hp:ZbG L s (k+1)=ZaL L s (k+1):=(by simp[ZbG]);rw[hp];refine⟨?_,hb.le,Znu g s (k+1) h⟩;simp only[YS];split;rename_i e;rw[e];exact ih.1;rename_i e;rw[Zco L (show ZaL L s (k+1)<L.length by have:=hb.le;omega)];refine List.Sublist.append ?_ (List.Sublist.refl _);refine ih.1.trans ?_;exact List.take_sublist_take_left (by omega)
theorem ZaM{L:List Zt}(g:ZJ L)(size:Int):(YX L size).Sublist L:=by
 unfold YX;split;exact List.Sublist.refl _;rename_i h;have h3:3<=L.length:=(by omega);have ks:=Zke g (max size 2).toNat h3 ((max size 2).toNat-2);have e:L=L.take (L.length-1+1):=by rw[List.take_of_length_le (by omega)]
 conv=>rhs;rw[e]
 rw[Zco L (show L.length-1<L.length by omega)];refine List.Sublist.append (ks.1.trans ?_) (List.Sublist.refl _);exact List.take_sublist_take_left (by omega)
theorem Zpp{x whole rest parts tot:Int}(hp:0<parts)(hr:0<=rest)(hlt:rest<parts)(he:whole*parts+rest=tot):x<(if 0<rest then whole+1 else whole)↔x*parts<tot:=by constructor;intro h;split at h;have:x*parts<=whole*parts:=Int.mul_le_mul_of_nonneg_right (by omega) (by omega);omega;have:x*parts<whole*parts:=Int.mul_lt_mul_of_pos_right h hp;omega;intro h;split;have h2:x*parts<(whole+1)*parts:=(by rw[Int.add_mul];omega);exact Int.lt_of_mul_lt_mul_right h2 (by omega);have h2:x*parts<whole*parts:=(by omega);exact Int.lt_of_mul_lt_mul_right h2 (by omega)
theorem Zpq{L:List Zt}{U:List Int}(hp:L.Pairwise fun e f=>e.v<f.v/\e.lo+e.wt<=f.lo/\e.hi<=f.hi-f.wt)(hU:∀e∈L,e.v∈U):L.length<=U.length:=by
 induction L generalizing U with
 |nil=>simp
 | cons e L ih=>
  rw[List.pairwise_cons] at hp;have h1:e.v∈U:=hU e (by simp)
  have h2:=ih (U:=U.erase e.v) hp.2 (fun f hf=>by
   have hne:f.v≠e.v:=by have:=(hp.1 f hf).1;omega
   exact(List.mem_erase_of_ne hne).2 (hU f (by simp[hf])))
  rw[List.length_erase_of_mem h1] at h2;have:0<U.length:=List.length_pos_of_mem h1;simp;omega
theorem ZJ.len{L:List Zt}(g:ZJ L){U:List Int}(hU:∀e∈L,e.v∈U):L.length<=U.length:=Zpq g.step hU
def ZnX:List (Int×Int)->Int->Int
  |[],_=>0
  |p::r,x=>(if p.1<x then p.2 else 0)+ZnX r x
structure ZiM(ps:List (Int×Int))(L:List Zt):Prop where
 each:∀e∈L,e.lo<=ZnX ps e.v/\ZnX ps e.v+wOf ps e.v<=e.hi/\e.wt<=wOf ps e.v
 least:∀q∈ps,∃e∈L,e.v<=q.1
 most:∀q∈ps,∃e∈L,q.1<=e.v
 total:Zd L=Z3 ps
theorem Zdb(a b:List Zt):∀n i j,a.length-i+(b.length-j)<=n->(∀k,i<=k->k<a.length->∃f∈YQ a b n i j,f.v=(a.getD k e0).v)/\(∀k,j<=k->k<b.length->∃f∈YQ a b n i j,f.v=(b.getD k e0).v)
 |0,i,j,h=>⟨fun k h1 h2=>by omega,fun k h1 h2=>by omega⟩
 | n + 1,i,j,h=>by
  simp only[YQ];split
  ·rename_i c;obtain⟨p,q⟩:=Zdb a b n (i+1) j (by omega);refine⟨fun k h1 h2=>?_,fun k h1 h2=>?_⟩
   ·by_cases e:k=i
    subst e;exact⟨_,List.mem_cons_self,rfl⟩;obtain⟨f,hf,e⟩:=p k (by omega) h2;exact⟨f,by simp[hf],e⟩
   obtain⟨f,hf,e⟩:=q k h1 h2;exact⟨f,by simp[hf],e⟩
  rename_i c;split
  ·rename_i d;obtain⟨p,q⟩:=Zdb a b n i (j+1) (by omega);refine⟨fun k h1 h2=>?_,fun k h1 h2=>?_⟩;obtain⟨f,hf,e⟩:=p k h1 h2;exact⟨f,by simp[hf],e⟩
   by_cases e:k=j
   subst e;exact⟨_,List.mem_cons_self,rfl⟩;obtain⟨f,hf,e⟩:=q k (by omega) h2;exact⟨f,by simp[hf],e⟩
  rename_i d;split
  ·rename_i m
   have hv:(a.getD i e0).v=(b.getD j e0).v:=by
    rcases Int.lt_trichotomy (a.getD i e0).v (b.getD j e0).v with h|h|h
    exact absurd ⟨m.1,fun _=>h⟩ c;exact h;exact absurd ⟨m.2,fun _=>h⟩ d
   obtain⟨p,q⟩:=Zdb a b n (i+1) (j+1) (by omega);refine⟨fun k h1 h2=>?_,fun k h1 h2=>?_⟩
   ·by_cases e:k=i
    subst e;exact⟨_,List.mem_cons_self,rfl⟩;obtain⟨f,hf,e⟩:=p k (by omega) h2;exact⟨f,by simp[hf],e⟩
   by_cases e:k=j
   subst e;exact⟨_,List.mem_cons_self,hv⟩;obtain⟨f,hf,e⟩:=q k (by omega) h2;exact⟨f,by simp[hf],e⟩
  rename_i m;refine⟨fun k h1 h2=>?_,fun k h1 h2=>?_⟩
  ·exfalso;have hi:i<a.length:=by omega
   by_cases hj:j<b.length
   exact m ⟨hi,hj⟩;exact c ⟨hi,fun x=>absurd x hj⟩
  exfalso;have hj:j<b.length:=by omega
  by_cases hi:i<a.length
  exact m ⟨hi,hj⟩;exact d ⟨hj,fun x=>absurd x hi⟩
theorem Zhm(e f:Zt)(L:List Zt):Zd (e::f::L)=Zd (f::L):=by unfold Zd;simp[List.getD]
theorem ZiF(e:Zt):Zd [e]=e.hi:=by simp[Zd]
theorem Zfr(a b:List Zt):∀n i j,i<=a.length->j<=b.length->a.length-i+(b.length-j)<=n->(i<a.length∨j<b.length)->Zd (YQ a b n i j)=Zd a+Zd b
 |0,i,j,_,_,h,h'=>by omega
 | n + 1,i,j,hi,hj,h,h'=>by
  have step:∀(f:Zt) (i' j':Nat),i'<=a.length->j'<=b.length->a.length-i'+(b.length-j')<=n->(i'=a.length->j'=b.length->f.hi=Zd a+Zd b)->Zd (f::YQ a b n i' j')=Zd a+Zd b:=fun f i' j' q1 q2 q3 q4=>by
   by_cases e:i'<a.length∨j'<b.length
   ·have ih:=Zfr a b n i' j' q1 q2 q3 e
    cases hJ:YQ a b n i' j' with
    | nil=>
     exfalso;obtain⟨p,q⟩:=Zdb a b n i' j' q3
     rcases e with e|e
     obtain⟨f,hf,_⟩:=p i' (Nat.le_refl _) e;rw[hJ] at hf;cases hf;obtain⟨f,hf,_⟩:=q j' (Nat.le_refl _) e;rw[hJ] at hf;cases hf
    | cons g R=>
     rw[hJ] at ih;rw[Zhm];exact ih
   have hnil:YQ a b n i' j'=[]:=by
    cases n with
    |zero=>rfl
    | succ n=>
     simp only[YQ];rw[if_neg (by omega),if_neg (by omega),if_neg (by omega)]
   rw[hnil,ZiF];exact q4 (by omega) (by omega)
  simp only[YQ];split;rename_i c;refine step _ _ _ (by omega) hj (by omega) (fun e1 e2=>?_);have:Zd a=(a.getD i e0).hi:=(by unfold Zd;rw[if_neg (by omega),show a.length-1=i by omega]);simp only[seen,YK];rw[if_pos e2,this];rename_i c;split;rename_i d;refine step _ _ _ hi (by omega) (by omega) (fun e1 e2=>?_);have:Zd b=(b.getD j e0).hi:=(by unfold Zd;rw[if_neg (by omega),show b.length-1=j by omega]);simp only[seen,YK];rw[if_pos e1,this];omega;rename_i d;split;rename_i m;refine step _ _ _ (by omega) (by omega) (by omega) (fun e1 e2=>?_);have t1:Zd a=(a.getD i e0).hi:=(by unfold Zd;rw[if_neg (by omega),show a.length-1=i by omega]);have t2:Zd b=(b.getD j e0).hi:=(by unfold Zd;rw[if_neg (by omega),show b.length-1=j by omega]);simp only[ZaY];rw[t1,t2];rename_i m;exfalso
  rcases h' with e|e
  ·by_cases hj:j<b.length
   exact m ⟨e,hj⟩;exact c ⟨e,fun x=>absurd x hj⟩
  by_cases hi:i<a.length
  exact m ⟨hi,e⟩;exact d ⟨e,fun x=>absurd x hi⟩
theorem Zpz{L:List Zt}{e:Zt}(h:e∈L):∃k,k<L.length/\L.getD k e0=e:=by obtain⟨k,hk,rfl⟩:=List.getElem_of_mem h;exact⟨k,hk,by simp[List.getD,hk]⟩
theorem Zmu(A:List Zt)(e:Zt):Zd (A++[e])=e.hi:=by unfold Zd;rw[if_neg (by simp)];simp[List.getD]
theorem ZkV{M:List (Int×Int)}(hr:M.Pairwise fun p q=>p.1<q.1)(q:Int×Int)(r:List (Int×Int)):Zcq (q::r) M=Zcq r M+(if ∃p∈M,p.1=q.1 then q.2 else 0):=by
 induction M with
 |nil=>simp[Zcq]
 | cons p N ih=>
  rw[List.pairwise_cons] at hr;have:=ih hr.2;simp only[Zcq,wOf];rw[this]
  by_cases e:q.1=p.1
  rw[if_pos e];have h1:¬∃x∈N,x.1=q.1:=(by rintro⟨x,hx,hv⟩;have:=hr.1 x hx;omega);have h2:∃x∈p::N,x.1=q.1:=⟨p,by simp,e.symm⟩;rw[if_neg h1,if_pos h2];omega;rw[if_neg e]
  by_cases h1:∃x∈N,x.1=q.1
  have h2:∃x∈p::N,x.1=q.1:=(by obtain⟨x,hx,hv⟩:=h1;exact⟨x,by simp[hx],hv⟩);rw[if_pos h1,if_pos h2];omega
  have h2:¬∃x∈p::N,x.1=q.1:=by
   rintro⟨x,hx,hv⟩
   rcases List.mem_cons.1 hx with rfl|hx
   exact e hv.symm;exact h1 ⟨x,hx,hv⟩
  rw[if_neg h1,if_neg h2];omega
theorem Zno{M:List (Int×Int)}(hr:M.Pairwise fun p q=>p.1<q.1)(x:Int):∀ps:List (Int×Int),(∀q∈ps,∃p∈M,p.1=q.1)->Zcq ps (M.filter fun p=>decide (p.1<x))=ZnX ps x
 |[],_=>by simp[ZnX,Zhl]
 | q::r,h=>by
  rw[ZkV (hr.sublist List.filter_sublist),Zno hr x r (fun y hy=>h y (by simp[hy]))];simp only[ZnX]
  by_cases c:q.1<x
  rw[if_pos c,if_pos ?_];omega;obtain⟨p,hp,e⟩:=h q (by simp);exact⟨p,by simp[hp];omega,e⟩;rw[if_neg c,if_neg ?_];omega;rintro⟨p,hp,e⟩;simp at hp;omega
theorem Znn{M:List (Int×Int)}(hr:M.Pairwise fun p q=>p.1<q.1):∀ps:List (Int×Int),(∀q∈ps,∃p∈M,p.1=q.1)->Zcq ps M=Z3 ps
 |[],_=>by simp[Z3,Zhl]
 |q::r,h=>by rw[ZkV hr,Znn hr r (fun y hy=>h y (by simp[hy])),if_pos (h q (by simp))];simp only[Z3];omega
theorem ZkG{x:Int}:∀(M:List (Int×Int)) (low:Int),M.Pairwise (fun p q=>p.1<q.1)->∀e∈ZV low M,e.lo=low+Z3 (M.filter fun p=>decide (p.1<e.v))
 |[],_,_=>by simp[ZV]
 | p ::r,low,hr=>by
  rw[List.pairwise_cons] at hr;intro e he;simp only[ZV] at he
  rcases List.mem_cons.1 he with rfl|he
  ·have:(p::r).filter (fun q=>decide (q.1<p.1))=[]:=by
    rw[List.filter_eq_nil_iff];intro q hq
    rcases List.mem_cons.1 hq with rfl|hq
    simp;have:=hr.1 q hq;simp;omega
   show low=low+Z3 ((p::r).filter fun q=>decide (q.1<p.1));rw[this];simp[Z3]
  have h1:=ZkG (x:=x) r (low+p.2) hr.2 e he
  have h2:p.1<e.v:=by
   have:∀(N:List (Int×Int)) (l:Int) (e:Zt),e∈ZV l N->∃q∈N,q.1=e.v:=by
    intro N
    induction N with
    |nil=>intro l e he;simp[ZV] at he
    | cons q N ih=>
     intro l e he;simp only[ZV] at he
     rcases List.mem_cons.1 he with rfl|he
     exact⟨q,by simp,rfl⟩;obtain⟨y,hy,e'⟩:=ih _ e he;exact⟨y,by simp[hy],e'⟩
   obtain⟨q,hq,e'⟩:=this r _ e he;have:=hr.1 q hq;omega
  rw[h1,List.filter_cons_of_pos (by simpa using h2)];simp only[Z3];omega
theorem Zdi:∀(M:List (Int×Int)) (low:Int),(∀e∈ZV low M,∃p∈M,p.1=e.v/\p.2=e.wt/\e.hi=e.lo+e.wt)/\(∀p∈M,∃e∈ZV low M,e.v=p.1)/\(M≠[]->Zd (ZV low M)=low+Z3 M)
  |[],low=>by simp[ZV]
  | p ::r,low=>by
    obtain⟨h1,h2,h3⟩:=Zdi r (low+p.2);refine⟨fun e he=>?_,fun q hq=>?_,fun _=>?_⟩
    · simp only[ZV] at he
      rcases List.mem_cons.1 he with rfl|he
      exact⟨p,by simp,rfl,rfl,rfl⟩;obtain⟨q,hq,k⟩:=h1 e he;exact⟨q,by simp[hq],k⟩
    · simp only[ZV]
      rcases List.mem_cons.1 hq with rfl|hq
      exact⟨_,List.mem_cons_self,rfl⟩;obtain⟨e,he,k⟩:=h2 q hq;exact⟨e,by simp[he],k⟩
    cases r with
    |nil=>simp[ZV,ZiF,Z3]
    | cons q r=>
      have:=h3 (by simp);simp only[ZV] at this ⊢;rw[Zhm,this];simp only[Z3];omega
theorem ZiM.of_sum{ps M:List (Int×Int)}(h:YC ps M):ZiM ps (ZV 0 M):=by
 obtain⟨r1,r2,r3⟩:=Zdi M 0;have hw:∀N:List (Int×Int),(∀p∈N,p∈M)->Z3 N=Zcq ps N:=fun N hN=>Zhc (fun p hp=>h.wt p (hN p hp));refine⟨fun e he=>?_,fun q hq=>?_,fun q hq=>?_,?_⟩;obtain⟨p,hp,ev,ew,eh⟩:=r1 e he;have el:=ZkG (x:=0) M 0 h.rise e he;rw[hw _ (fun p hp=>(List.mem_filter.1 hp).1),Zno h.rise e.v ps h.all] at el;have:=h.wt p hp;rw[ev] at this;omega;obtain⟨p,hp,e⟩:=h.all q hq;obtain⟨f,hf,k⟩:=r2 p hp;exact⟨f,hf,by omega⟩;obtain⟨p,hp,e⟩:=h.all q hq;obtain⟨f,hf,k⟩:=r2 p hp;exact⟨f,hf,by omega⟩
 by_cases e:M=[]
 ·subst e
  have:ps=[]:=by
   cases ps with
   |nil=>rfl
   |cons q r=>obtain⟨p,hp,_⟩:=h.all q (by simp);cases hp
  subst this;rfl
 rw[r3 e,hw M (fun _ x=>x),Znn h.rise ps h.all];omega
end Go.Proofs.YtfcgnpchbcmdeaaGreat
