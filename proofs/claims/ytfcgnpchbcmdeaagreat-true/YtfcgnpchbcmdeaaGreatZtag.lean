namespace Go.Proofs.YtfcgnpchbcmdeaaGreat
structure Zk where
 v:Int
 lo:Int
 hi:Int
 wt:Int
def QU(z:Int):Int:=if 1000000000<z then 1000000000 else if z< -1000000000 then -1000000000 else z
def Zan(z:Int):Int:=if z<1∨1000<z then 1 else z
def Zg(vs ws:List Int):List (Int×Int):=(List.zip vs ws).map fun p=>(QU p.1,Zan p.2)
theorem Zae(vs ws:List Int):(Zg vs ws).length=min vs.length ws.length:=by simp[Zg]
def YN:List (Int×Int)->Int->Int
  |[],_=>0
  |p::r,v=>(if p.1=v then p.2 else 0)+YN r v
theorem Zd4(a b:List (Int×Int))(v:Int):YN (a++b) v=YN a v+YN b v:=by
 induction a with
 |nil=>simp[YN]
 |cons p r ih=>simp only[List.cons_append,YN,ih];omega
theorem ZjC{a b:List (Int×Int)}(h:a.Perm b)(v:Int):YN a v=YN b v:=by
 induction h with
 |nil=>rfl
 |cons x _ ih=>simp only[YN,ih]
 |swap x y l=>simp only[YN];omega
 |trans _ _ h1 h2=>exact h1.trans h2
theorem Zgp{a:List (Int×Int)}{v:Int}(h:∀p∈a,p.1≠v):YN a v=0:=by
 induction a with
 |nil=>rfl
 |cons p r ih=>simp only[YN];rw[if_neg (h p (by simp)),ih (fun q hq=>h q (by simp[hq]))];rfl
structure Z1(ps M:List (Int×Int)):Prop where
 rise:M.Pairwise fun p q=>p.1<q.1
 sub:∀p∈M,∃q∈ps,q.1=p.1
 all:∀q∈ps,∃p∈M,p.1=q.1
 wt:∀p∈M,p.2=YN ps p.1
theorem ZhK:∀{M N:List (Int×Int)},M.Pairwise (fun p q=>p.1<q.1)->N.Pairwise (fun p q=>p.1<q.1)->(∀p,p∈M↔p∈N)->M=N
 |[],[],_,_,_=>rfl
 |[],q::_,_,_,h=>absurd ((h q).2 (by simp)) (by simp)
 |p::_,[],_,_,h=>absurd ((h p).1 (by simp)) (by simp)
 | p ::M,q::N,hM,hN,h=>by
  rw[List.pairwise_cons] at hM hN
  have hpq:p=q:=by
   rcases List.mem_cons.1 ((h p).1 (by simp)) with e|e
   exact e
   rcases List.mem_cons.1 ((h q).2 (by simp)) with e'|e'
   exact e'.symm;have h1:=hN.1 p e;have h2:=hM.1 q e';omega
  subst hpq;congr 1;refine ZhK hM.2 hN.2 fun r=>⟨fun hr=>?_,fun hr=>?_⟩
  ·rcases List.mem_cons.1 ((h r).1 (by simp[hr])) with e|e
   have:=hM.1 r hr;rw[e] at this;omega;exact e
  rcases List.mem_cons.1 ((h r).2 (by simp[hr])) with e|e
  have:=hN.1 r hr;rw[e] at this;omega;exact e
theorem Z1.unique{ps M N:List (Int×Int)}(hM:Z1 ps M)(hN:Z1 ps N):M=N:=by refine ZhK hM.rise hN.rise fun p=>⟨fun hp=>?_,fun hp=>?_⟩;obtain⟨q,hq,e⟩:=hM.sub p hp;obtain⟨r,hr,e'⟩:=hN.all q hq;have hpr:p=r:=Prod.ext (by omega) (by rw[hM.wt p hp,hN.wt r hr,e',e]);exact hpr ▸ hr;obtain⟨q,hq,e⟩:=hN.sub p hp;obtain⟨r,hr,e'⟩:=hM.all q hq;have hpr:p=r:=Prod.ext (by omega) (by rw[hN.wt p hp,hM.wt r hr,e',e]);exact hpr ▸ hr
theorem Z1.perm{ps qs M:List (Int×Int)}(h:Z1 ps M)(hp:ps.Perm qs):Z1 qs M:=
 ⟨h.rise,fun p hpM=>let ⟨q,hq,e⟩:=h.sub p hpM;⟨q,hp.mem_iff.1 hq,e⟩,fun q hq=>h.all q (hp.mem_iff.2 hq),fun p hpM=>(h.wt p hpM).trans (ZjC hp _)⟩
theorem Z1.more{ps M:List (Int×Int)}(h:Z1 ps M)(p:Int×Int)(hle:∀q∈ps,q.1<p.1):Z1 (ps++[p]) (M++[p]):=by
 refine⟨?_,?_,?_,?_⟩;rw[List.pairwise_append];refine⟨h.rise,by simp,fun a ha b hb=>?_⟩;simp at hb;subst hb;obtain⟨q,hq,e⟩:=h.sub a ha;have:=hle q hq;omega
 ·intro a ha
  rcases List.mem_append.1 ha with ha|ha
  obtain⟨q,hq,e⟩:=h.sub a ha;exact⟨q,by simp[hq],e⟩;simp at ha;subst ha;exact⟨a,by simp,rfl⟩
 ·intro q hq
  rcases List.mem_append.1 hq with hq|hq
  obtain⟨a,ha,e⟩:=h.all q hq;exact⟨a,by simp[ha],e⟩;simp at hq;subst hq;exact⟨q,by simp,rfl⟩
 intro a ha;rw[Zd4]
 rcases List.mem_append.1 ha with ha|ha
 obtain⟨q,hq,e⟩:=h.sub a ha;have:=hle q hq;simp only[YN];rw[if_neg (by omega),h.wt a ha];omega;simp at ha;subst ha;rw[Zgp (fun q hq=>by have:=hle q hq;omega)];simp[YN]
theorem Z1.same{ps M:List (Int×Int)}{v w:Int}(h:Z1 ps (M++[(v,w)]))(u:Int):Z1 (ps++[(v,u)]) (M++[(v,w+u)]):=by
 have hr:=h.rise;rw[List.pairwise_append] at hr;refine⟨?_,?_,?_,?_⟩;rw[List.pairwise_append];refine⟨hr.1,by simp,fun a ha b hb=>?_⟩;simp at hb;subst hb;exact hr.2.2 a ha (v,w) (by simp)
 ·intro a ha
  rcases List.mem_append.1 ha with ha|ha
  obtain⟨q,hq,e⟩:=h.sub a (by simp[ha]);exact⟨q,by simp[hq],e⟩;simp at ha;subst ha;exact⟨(v,u),by simp,rfl⟩
 ·intro q hq
  rcases List.mem_append.1 hq with hq|hq
  ·obtain⟨a,ha,e⟩:=h.all q hq
   rcases List.mem_append.1 ha with ha|ha
   exact⟨a,by simp[ha],e⟩;simp at ha;subst ha;exact⟨(v,w+u),by simp,e⟩
  simp at hq;subst hq;exact⟨(v,w+u),by simp,rfl⟩
 intro a ha;rw[Zd4]
 rcases List.mem_append.1 ha with ha|ha
 have:=hr.2.2 a ha (v,w) (by simp);simp only[YN];simp only at this;rw[if_neg (by omega),h.wt a (by simp[ha])];omega;simp at ha;subst ha;have:=h.wt (v,w) (by simp);simp only[YN,if_true] at *;omega
theorem Z1.nil:Z1 [] []:=⟨by simp,by simp,by simp,by simp⟩
def ZB:Int->List (Int×Int)->List Zk
  |_,[]=>[]
  |low,p::r=>⟨p.1,low,low+p.2,p.2⟩::ZB (low+p.2) r
def Zs:List (Int×Int)->Int
  |[]=>0
  |p::r=>p.2+Zs r
theorem Yw(a b:List (Int×Int)):Zs (a++b)=Zs a+Zs b:=by
 induction a with
 |nil=>simp[Zs]
 |cons p r ih=>simp only[List.cons_append,Zs,ih];omega
theorem Zfb(low:Int)(a b:List (Int×Int)):ZB low (a++b)=ZB low a++ZB (low+Zs a) b:=by
 induction a generalizing low with
 |nil=>simp[ZB,Zs]
 |cons p r ih=>simp only[List.cons_append,ZB,ih,Zs];rw[show low+p.2+Zs r=low+(p.2+Zs r) by omega]
theorem ZeH(low:Int)(a:List (Int×Int)):(ZB low a).length=a.length:=by
 induction a generalizing low with
 |nil=>rfl
 |cons p r ih=>simp[ZB,ih]
structure Zo(L:List Zk):Prop where
 each:∀e∈L,0<=e.lo/\1<=e.wt/\e.lo+e.wt<=e.hi/\e.hi<=1000000000000/\ -1000000000<=e.v/\e.v<=1000000000
 step:L.Pairwise fun e f=>e.v<f.v/\e.lo+e.wt<=f.lo/\e.hi<=f.hi-f.wt
theorem Zo.nil:Zo []:=⟨by simp,by simp⟩
theorem Zo.sub{L M:List Zk}(h:Zo L)(hs:M.Sublist L):Zo M:=⟨fun e he=>h.each e (hs.subset he),h.step.sublist hs⟩
theorem Zgf{low:Int}{a:List (Int×Int)}(hp:∀p∈a,1<=p.2):∀e∈ZB low a,low<=e.lo/\e.hi=e.lo+e.wt/\e.hi<=low+Zs a/\∃p∈a,p.1=e.v/\p.2=e.wt:=by
 induction a generalizing low with
 |nil=>simp[ZB]
 | cons p r ih=>
  intro e he;have hp1:=hp p (by simp)
  have hpos:0<=Zs r:=by
   clear ih he hp1
   induction r with
   |nil=>simp[Zs]
   |cons q r ih=>simp only[Zs];have:=hp q (by simp);have:=ih (fun x hx=>hp x (by simp at hx ⊢;rcases hx with h|h<;>simp[h]));omega
  rcases List.mem_cons.1 he with rfl|he
  refine⟨?_,?_,?_,p,by simp,rfl,rfl⟩;exact Int.le_refl _;rfl;simp only[Zs];omega;obtain⟨h1,h2,h3,q,hq,e1,e2⟩:=ih (fun x hx=>hp x (by simp[hx])) e he;simp only[Zs];exact⟨by omega,h2,by omega,q,by simp[hq],e1,e2⟩
theorem Zix{low:Int}{a:List (Int×Int)}(hp:∀p∈a,1<=p.2)(hr:a.Pairwise fun p q=>p.1<q.1):(ZB low a).Pairwise fun e f=>e.v<f.v/\e.lo+e.wt<=f.lo/\e.hi<=f.hi-f.wt:=by
 induction a generalizing low with
 |nil=>simp[ZB]
 | cons p r ih=>
  rw[List.pairwise_cons] at hr;simp only[ZB];rw[List.pairwise_cons];refine⟨fun f hf=>?_,ih (fun x hx=>hp x (by simp[hx])) hr.2⟩;obtain⟨h1,h2,_,q,hq,e1,e2⟩:=Zgf (fun x hx=>hp x (by simp[hx])) f hf;have:=hr.1 q hq;simp only;omega
theorem Ziw{a:List (Int×Int)}(hp:∀p∈a,1<=p.2)(hr:a.Pairwise fun p q=>p.1<q.1)(hv:∀p∈a,-1000000000<=p.1/\p.1<=1000000000)(hs:Zs a<=1000000000000):Zo (ZB 0 a):=by refine⟨fun e he=>?_,Zix hp hr⟩;obtain⟨h1,h2,h3,q,hq,e1,e2⟩:=Zgf hp e he;have:=hv q hq;have:=hp q hq;omega
theorem Zff{ps:List (Int×Int)}(hp:∀p∈ps,1<=p.2):∀v,0<=YN ps v:=by
 induction ps with
 |nil=>intro v;simp[YN]
 | cons p r ih=>
  intro v;have h1:=ih (fun q hq=>hp q (by simp[hq])) v;have h2:=hp p (by simp);simp only[YN];split<;>omega
theorem ZkC{ps:List (Int×Int)}(hp:∀p∈ps,1<=p.2):∀q∈ps,1<=YN ps q.1:=by
 induction ps with
 |nil=>simp
 | cons p r ih=>
  intro q hq;have h2:=hp p (by simp);simp only[YN]
  rcases List.mem_cons.1 hq with rfl|hq
  have:=Zff (fun x hx=>hp x (List.mem_cons_of_mem _ hx)) q.1;simp;omega;have:=ih (fun x hx=>hp x (by simp[hx])) q hq;split<;>omega
def ZaJ(ps:List (Int×Int)):List (Int×Int)->Int
 |[]=>0
 |p::M=>YN ps p.1+ZaJ ps M
theorem ZiH(q:Int×Int)(r M:List (Int×Int))(hq:0<=q.2)(hr:M.Pairwise fun p q=>p.1<q.1):ZaJ (q::r) M<=ZaJ r M+q.2/\((∀p∈M,p.1≠q.1)->ZaJ (q::r) M=ZaJ r M):=by
 induction M with
 |nil=>simp[ZaJ];exact hq
 | cons p M ih=>
  rw[List.pairwise_cons] at hr;have ih:=ih hr.2;simp only[ZaJ,YN]
  by_cases h:q.1=p.1
  have:=ih.2 (fun x hx e=>by have:=hr.1 x hx;omega);rw[if_pos h];exact⟨by omega,fun hn=>absurd h.symm (hn p (by simp))⟩;rw[if_neg h];exact⟨by omega,fun hn=>by have:=ih.2 (fun x hx=>hn x (by simp[hx]));omega⟩
theorem Zd1(M:List (Int×Int)):ZaJ [] M=0:=by
 induction M with
 |nil=>rfl
 |cons p M ih=>simp[ZaJ,YN,ih]
theorem ZhQ{ps M:List (Int×Int)}(hp:∀p∈ps,1<=p.2)(hr:M.Pairwise fun p q=>p.1<q.1):ZaJ ps M<=Zs ps:=by
 induction ps with
 |nil=>simp[Zd1,Zs]
 | cons q r ih=>
  have h1:=(ZiH q r M (by have:=hp q (by simp);omega) hr).1;have h2:=ih (fun x hx=>hp x (by simp[hx]));simp only[Zs];omega
theorem ZdT{ps M:List (Int×Int)}(h:∀p∈M,p.2=YN ps p.1):Zs M=ZaJ ps M:=by
 induction M with
 |nil=>rfl
 |cons p M ih=>simp only[Zs,ZaJ];rw[h p (by simp),ih (fun x hx=>h x (by simp[hx]))]
theorem Zb9{ps:List (Int×Int)}(hp:∀p∈ps,p.2<=1000):Zs ps<=1000*ps.length:=by
 induction ps with
 |nil=>simp[Zs]
 | cons q r ih=>
  have h1:=hp q (by simp);have h2:=ih (fun x hx=>hp x (by simp[hx]));simp only[Zs,List.length_cons];omega
theorem Zh4(z:Int):1<=Zan z/\Zan z<=1000:=by unfold Zan;split<;>omega
theorem Zh3(z:Int): -1000000000<=QU z/\QU z<=1000000000:=by unfold QU;split<;>(try split)<;>omega
theorem Za7{vs ws:List Int}{p:Int×Int}(h:p∈Zg vs ws):(1<=p.2/\p.2<=1000)/\(-1000000000<=p.1/\p.1<=1000000000)/\∃z∈vs,p.1=QU z:=by unfold Zg at h;obtain⟨q,hq,rfl⟩:=List.mem_map.1 h;exact⟨Zh4 _,Zh3 _,q.1,(List.of_mem_zip hq).1,rfl⟩
theorem Z1.good{vs ws:List Int}{M:List (Int×Int)}(h:Z1 (Zg vs ws) M)(hl:vs.length<=2097152):Zo (ZB 0 M):=by have hp:∀p∈Zg vs ws,1<=p.2:=fun p hp=>(Za7 hp).1.1;refine Ziw ?_ h.rise ?_ ?_;intro p hpM;obtain⟨q,hq,e⟩:=h.sub p hpM;rw[h.wt p hpM,<- e];exact ZkC hp q hq;intro p hpM;obtain⟨q,hq,e⟩:=h.sub p hpM;have:=(Za7 hq).2.1;omega;have h1:=ZhQ hp h.rise;have h2:=Zb9 (fun p hp=>(Za7 hp).1.2:∀p∈Zg vs ws,p.2<=1000);rw[ZdT h.wt];have h3:(Zg vs ws).length<=2097152:=(by rw[Zae];omega);omega
def e0:Zk:=⟨0,0,0,0⟩
def Zb(L:List Zk):Int:=if L.length=0 then 0 else(L.getD (L.length-1) e0).hi
def ZS(L:List Zk)(j:Nat):Int:=if j=0 then 0 else(L.getD (j-1) e0).lo+(L.getD (j-1) e0).wt
def Yc(L:List Zk)(j:Nat):Int:=if j=L.length then Zb L else(L.getD j e0).hi-(L.getD j e0).wt
def seen(o:List Zk)(j:Nat)(e:Zk):Zk:=⟨e.v,e.lo+ZS o j,e.hi+Yc o j,e.wt⟩
def QF(e f:Zk):Zk:=⟨e.v,e.lo+f.lo,e.hi+f.hi,e.wt+f.wt⟩
def Yb(a b:List Zk):Nat->Nat->Nat->List Zk
 |0,_,_=>[]
 | n+1,i,j=>
  if i<a.length/\(j<b.length->(a.getD i e0).v<(b.getD j e0).v) then seen b j (a.getD i e0)::Yb a b n (i+1) j
  else if j<b.length/\(i<a.length->(b.getD j e0).v<(a.getD i e0).v) then seen a i (b.getD j e0)::Yb a b n i (j+1)
  else if i<a.length/\j<b.length then QF (a.getD i e0) (b.getD j e0)::Yb a b n (i+1) (j+1)
  else[]
def Zn(a b:List Zk):List Zk:=Yb a b (a.length+b.length) 0 0
theorem ZaE(a b:List Zk):∀n m i j,a.length-i+(b.length-j)<=n->a.length-i+(b.length-j)<=m->Yb a b n i j=Yb a b m i j
 |0,0,_,_,_,_=>rfl
 |0,m+1,i,j,h,_=>by simp only[Yb];rw[if_neg (by omega),if_neg (by omega),if_neg (by omega)]
 |n+1,0,i,j,_,h=>by simp only[Yb];rw[if_neg (by omega),if_neg (by omega),if_neg (by omega)]
 |n+1,m+1,i,j,h,h'=>by simp only[Yb];split;rw[ZaE a b n m (i+1) j (by omega) (by omega)];split;rw[ZaE a b n m i (j+1) (by omega) (by omega)];split;rw[ZaE a b n m (i+1) (j+1) (by omega) (by omega)];rfl
def Zag(a b:List Zk)(i j:Nat):List Zk:=Yb a b (a.length-i+(b.length-j)) i j
theorem Zhc(a b:List Zk):Zag a b 0 0=Zn a b:=by unfold Zag Zn;simp
theorem Zj9{a b:List Zk}{i j:Nat}(hi:i<a.length)(h:j<b.length->(a.getD i e0).v<(b.getD j e0).v):Zag a b i j=seen b j (a.getD i e0)::Zag a b (i+1) j:=by unfold Zag;rw[show a.length-i+(b.length-j)=(a.length-(i+1)+(b.length-j))+1 by omega];simp only[Yb];rw[if_pos ⟨hi,h⟩]
theorem Zka{a b:List Zk}{i j:Nat}(hj:j<b.length)(h:i<a.length->(b.getD j e0).v<(a.getD i e0).v):Zag a b i j=seen a i (b.getD j e0)::Zag a b i (j+1):=by unfold Zag;rw[show a.length-i+(b.length-j)=(a.length-i+(b.length-(j+1)))+1 by omega];simp only[Yb];rw[if_neg (fun hc=>by have h1:=hc.2 hj;have h2:=h hc.1;omega),if_pos ⟨hj,h⟩]
theorem Zjw{a b:List Zk}{i j:Nat}(hi:i<a.length)(hj:j<b.length)(h:(a.getD i e0).v=(b.getD j e0).v):Zag a b i j=QF (a.getD i e0) (b.getD j e0)::Zag a b (i+1) (j+1):=by unfold Zag;rw[show a.length-i+(b.length-j)=(a.length-(i+1)+(b.length-(j+1))+1)+1 by omega];simp only[Yb];rw[if_neg (fun hc=>by have h1:=hc.2 hj;omega),if_neg (fun hc=>by have h1:=hc.2 hi;omega),if_pos ⟨hi,hj⟩];congr 1;exact ZaE a b (a.length-(i+1)+(b.length-(j+1))+1) (a.length-(i+1)+(b.length-(j+1))) (i+1) (j+1) (by omega) (by omega)
theorem ZeI{a b:List Zk}{i j:Nat}(hi:¬i<a.length)(hj:¬j<b.length):Zag a b i j=[]:=by unfold Zag;rw[show a.length-i+(b.length-j)=0 by omega];rfl
theorem YF{L:List Zk}{i:Nat}(h:i<L.length):L.getD i e0∈L:=by simp[List.getD,h]
theorem Zo.at{L:List Zk}(g:Zo L){i:Nat}(h:i<L.length):0<=(L.getD i e0).lo/\1<=(L.getD i e0).wt/\(L.getD i e0).lo+(L.getD i e0).wt<=(L.getD i e0).hi/\(L.getD i e0).hi<=1000000000000/\ -1000000000<=(L.getD i e0).v/\(L.getD i e0).v<=1000000000:=g.each _ (YF h)
theorem Zo.lt{L:List Zk}(g:Zo L){i j:Nat}(hij:i<j)(h:j<L.length):(L.getD i e0).v<(L.getD j e0).v/\(L.getD i e0).lo+(L.getD i e0).wt<=(L.getD j e0).lo/\(L.getD i e0).hi<=(L.getD j e0).hi-(L.getD j e0).wt:=by have:=List.pairwise_iff_getElem.1 g.step i j (by omega) h hij;have e1:L.getD i e0=L[i]'(by omega):=(by simp[List.getD,show i<L.length by omega]);have e2:L.getD j e0=L[j]:=(by simp[List.getD,h]);rw[e1,e2];exact this
theorem Qt{L:List Zk}(g:Zo L){i:Nat}(h:i<L.length):(L.getD i e0).hi<=Yc L (i+1)/\Yc L i<=Yc L (i+1)/\Yc L i=(L.getD i e0).hi-(L.getD i e0).wt:=by
 have a:=g.at h;have e:Yc L i=(L.getD i e0).hi-(L.getD i e0).wt:=by unfold Yc;rw[if_neg (by omega)]
 have k:(L.getD i e0).hi<=Yc L (i+1):=(by unfold Yc;split;unfold Zb;rw[if_neg (by omega)];rw[show L.length-1=i by omega];exact Int.le_refl _;exact(g.lt (show i<i+1 by omega) (by omega)).2.2);exact⟨k,by omega,e⟩
theorem QT{L:List Zk}(g:Zo L){i:Nat}(h:i<L.length):ZS L i<=(L.getD i e0).lo/\ZS L (i+1)=(L.getD i e0).lo+(L.getD i e0).wt:=by refine⟨?_,by unfold ZS;simp⟩;unfold ZS;split;exact(g.at h).1;exact(g.lt (show i-1<i by omega) h).2.1
theorem Q3{L:List Zk}(g:Zo L){i:Nat}(h:i<L.length):(L.getD i e0).hi<=Zb L:=by
 unfold Zb;rw[if_neg (by omega)]
 by_cases e:i=L.length-1
 rw[e];exact Int.le_refl _;have h1:=(g.lt (show i<L.length-1 by omega) (by omega)).2.2;have h2:=g.at (show L.length-1<L.length by omega);omega
theorem Zfa{L:List Zk}(g:Zo L){j:Nat}(h:j<=L.length):Yc L j<=Zb L/\0<=ZS L j/\ZS L j<=Yc L j:=by
 by_cases e:j=L.length
 have hp:Yc L j=Zb L:=(by unfold Yc;rw[if_pos e]);rw[hp];refine⟨Int.le_refl _,?_,?_⟩;unfold ZS;split;omega;have:=g.at (show j-1<L.length by omega);omega;unfold ZS Zb;split;rw[if_pos (by omega)];omega;have:=g.at (show j-1<L.length by omega);rw[if_neg (by omega),<- e];omega;have hj:j<L.length:=(by omega);have h1:=Qt g hj;have h2:=Q3 g hj;have h3:=g.at hj;have h4:=QT g hj;refine⟨by omega,?_,?_⟩;unfold ZS;split;omega;have:=g.at (show j-1<L.length by omega);omega;unfold ZS;split;omega;have:=g.lt (show j-1<j by omega) hj;have:=g.at (show j-1<L.length by omega);omega
structure Zhp(a b:List Zk)(i j:Nat)(f:Zk):Prop where
 lo:ZS a i+ZS b j<=f.lo
 hi:Yc a i+Yc b j<=f.hi-f.wt
 top:f.hi<=Zb a+Zb b
 wt:1<=f.wt
 rng:f.lo+f.wt<=f.hi
 va:0<i->(a.getD (i-1) e0).v<f.v
 vb:0<j->(b.getD (j-1) e0).v<f.v
 from_:(∃e∈a,e.v=f.v)∨∃e∈b,e.v=f.v
theorem Zhp.back{a b:List Zk}(ga:Zo a)(gb:Zo b){i j i' j':Nat}{f:Zk}(h:Zhp a b i' j' f)(hi:i<=i')(hj:j<=j')(hi2:i'<=i+1)(hj2:j'<=j+1)(hil:i'<=a.length)(hjl:j'<=b.length):Zhp a b i j f:=by
 have ka:ZS a i<=ZS a i'/\Yc a i<=Yc a i'/\(0<i->(a.getD (i-1) e0).v<f.v):=by
  by_cases e:i'=i
  subst e;exact⟨Int.le_refl _,Int.le_refl _,h.va⟩;obtain rfl:i'=i+1:=(by omega);have h1:=QT ga (show i<a.length by omega);have h2:=Qt ga (show i<a.length by omega);have h3:=ga.at (show i<a.length by omega);refine⟨by omega,by omega,fun h0=>?_⟩;have h4:=(ga.lt (show i-1<i by omega) (by omega)).1;have h5:=h.va (by omega);simp only[Nat.add_sub_cancel] at h5;omega
 have kb:ZS b j<=ZS b j'/\Yc b j<=Yc b j'/\(0<j->(b.getD (j-1) e0).v<f.v):=by
  by_cases e:j'=j
  subst e;exact⟨Int.le_refl _,Int.le_refl _,h.vb⟩;obtain rfl:j'=j+1:=(by omega);have h1:=QT gb (show j<b.length by omega);have h2:=Qt gb (show j<b.length by omega);have h3:=gb.at (show j<b.length by omega);refine⟨by omega,by omega,fun h0=>?_⟩;have h4:=(gb.lt (show j-1<j by omega) (by omega)).1;have h5:=h.vb (by omega);simp only[Nat.add_sub_cancel] at h5;omega
 have h1:=h.lo;have h2:=h.hi;exact⟨by omega,by omega,h.top,h.wt,h.rng,ka.2.2,kb.2.2,h.from_⟩
def Zhr(e f:Zk):Prop:=e.v<f.v/\e.lo+e.wt<=f.lo/\e.hi<=f.hi-f.wt
theorem QA{a b:List Zk}(ga:Zo a)(gb:Zo b):∀n i j,i<=a.length->j<=b.length->(i<a.length->0<j->(b.getD (j-1) e0).v<(a.getD i e0).v)->(j<b.length->0<i->(a.getD (i-1) e0).v<(b.getD j e0).v)->(∀f∈Yb a b n i j,Zhp a b i j f)/\(Yb a b n i j).Pairwise Zhr
 |0,i,j,_,_,_,_=>by simp[Yb]
 | n + 1,i,j,hi,hj,hva,hvb=>by
  simp only[Yb];split
  ·rename_i h;have a1:=ga.at h.1;have a2:=QT ga h.1;have a3:=Qt ga h.1;have a4:=Q3 ga h.1;have b1:=Zfa gb hj;have ih:=QA ga gb n (i+1) j (by omega) hj (fun h1 h0=>by have:=hva h.1 h0;have:=(ga.lt (show i<i+1 by omega) h1).1;omega) (fun h1 _=>by simpa using h.2 h1);refine⟨fun f hf=>?_,?_⟩
   ·rcases List.mem_cons.1 hf with rfl|hf
    refine⟨?_,?_,?_,a1.2.1,?_,?_,fun h0=>hva h.1 h0,.inl ⟨_,YF h.1,rfl⟩⟩;simp only[seen];omega;simp only[seen];omega;simp only[seen];omega;simp only[seen];omega;intro h0;exact(ga.lt (show i-1<i by omega) h.1).1;exact(ih.1 f hf).back ga gb (by omega) (by omega) (by omega) (by omega) (by omega) hj
   rw[List.pairwise_cons];refine⟨fun f hf=>?_,ih.2⟩;have c:=ih.1 f hf;have c1:=c.lo;have c2:=c.hi;have c3:=c.va (by omega);simp only[Nat.add_sub_cancel] at c3;unfold Zhr;simp only[seen];omega
  split
  ·rename_i _ h;have a1:=gb.at h.1;have a2:=QT gb h.1;have a3:=Qt gb h.1;have a4:=Q3 gb h.1;have b1:=Zfa ga hi;have ih:=QA ga gb n i (j+1) hi (by omega) (fun h1 _=>by simpa using h.2 h1) (fun h1 h0=>by have:=hvb h.1 h0;have:=(gb.lt (show j<j+1 by omega) h1).1;omega);refine⟨fun f hf=>?_,?_⟩
   ·rcases List.mem_cons.1 hf with rfl|hf
    refine⟨?_,?_,?_,a1.2.1,?_,fun h0=>hvb h.1 h0,?_,.inr ⟨_,YF h.1,rfl⟩⟩;simp only[seen];omega;simp only[seen];omega;simp only[seen];omega;simp only[seen];omega;intro h0;exact(gb.lt (show j-1<j by omega) h.1).1;exact(ih.1 f hf).back ga gb (by omega) (by omega) (by omega) (by omega) hi (by omega)
   rw[List.pairwise_cons];refine⟨fun f hf=>?_,ih.2⟩;have c:=ih.1 f hf;have c1:=c.lo;have c2:=c.hi;have c3:=c.vb (by omega);simp only[Nat.add_sub_cancel] at c3;unfold Zhr;simp only[seen];omega
  split
  ·rename_i hA hB h;have he:(a.getD i e0).v=(b.getD j e0).v:=(by have h1:¬(a.getD i e0).v<(b.getD j e0).v:=fun hc=>hA ⟨h.1,fun _=>hc⟩;have h2:¬(b.getD j e0).v<(a.getD i e0).v:=fun hc=>hB ⟨h.2,fun _=>hc⟩;omega);have a1:=ga.at h.1;have a2:=QT ga h.1;have a3:=Qt ga h.1;have a4:=Q3 ga h.1;have b1:=gb.at h.2;have b2:=QT gb h.2;have b3:=Qt gb h.2;have b4:=Q3 gb h.2;have ih:=QA ga gb n (i+1) (j+1) (by omega) (by omega) (fun h1 _=>by have:=(ga.lt (show i<i+1 by omega) h1).1;simp only[Nat.add_sub_cancel];omega) (fun h1 _=>by have:=(gb.lt (show j<j+1 by omega) h1).1;simp only[Nat.add_sub_cancel];omega);refine⟨fun f hf=>?_,?_⟩
   ·rcases List.mem_cons.1 hf with rfl|hf
    refine⟨?_,?_,?_,?_,?_,?_,?_,.inl ⟨_,YF h.1,rfl⟩⟩;simp only[QF];omega;simp only[QF];omega;simp only[QF];omega;simp only[QF];omega;simp only[QF];omega;intro h0;exact(ga.lt (show i-1<i by omega) h.1).1;intro h0;have:=(gb.lt (show j-1<j by omega) h.2).1;simp only[QF];omega;exact(ih.1 f hf).back ga gb (by omega) (by omega) (by omega) (by omega) (by omega) (by omega)
   rw[List.pairwise_cons];refine⟨fun f hf=>?_,ih.2⟩;have c:=ih.1 f hf;have c1:=c.lo;have c2:=c.hi;have c3:=c.va (by omega);simp only[Nat.add_sub_cancel] at c3;unfold Zhr;simp only[QF];omega
  simp
theorem QY{a b:List Zk}(ga:Zo a)(gb:Zo b)(ht:Zb a+Zb b<=1000000000000):Zo (Zn a b):=by
 have h:=QA ga gb (a.length+b.length) 0 0 (by omega) (by omega) (fun _ h=>absurd h (by omega)) (fun _ h=>absurd h (by omega));refine⟨fun f hf=>?_,h.2⟩;have c:=h.1 f hf;have c1:=c.lo;have c4:=c.top;have c5:=c.wt;have c6:=c.rng;have:ZS a 0=0:=rfl;have:ZS b 0=0:=rfl
 rcases c.from_ with⟨e,he,ev⟩|⟨e,he,ev⟩
 have:=ga.each e he;omega;have:=gb.each e he;omega
theorem ZgX{a b:List Zk}(ga:Zo a)(gb:Zo b):∀f∈Zn a b,(∃e∈a,e.v=f.v)∨∃e∈b,e.v=f.v:=by have h:=QA ga gb (a.length+b.length) 0 0 (by omega) (by omega) (fun _ h=>absurd h (by omega)) (fun _ h=>absurd h (by omega));exact fun f hf=>(h.1 f hf).from_
def Zb0(L:List Zk)(i:Nat):Int:=(L.getD i e0).lo+(L.getD i e0).hi
def Zb1(L:List Zk)(s:Nat)(k i:Nat):Bool:=decide ((Zb0 L i+Zb0 L (i+1))*((s:Int)-1)<4*(k:Int)*Zb L)
def YI(C:Nat->Bool):Nat->Nat->Nat
 |0,i=>i
 |f+1,i=>if C i=true then YI C f (i+1) else i
theorem ZaZ(C:Nat->Bool):∀f i,i<=YI C f i/\YI C f i<=i+f/\(∀j,i<=j->j<YI C f i->C j=true)/\(YI C f i=i+f∨C (YI C f i)=false)
 |0,i=>by simp[YI];omega
 | f + 1,i=>by
  have ih:=ZaZ C f (i+1);simp only[YI]
  by_cases h:C i=true
  ·rw[if_pos h];refine⟨by omega,by omega,fun j h1 h2=>?_,?_⟩
   ·by_cases e:j=i
    rw[e];exact h;exact ih.2.2.1 j (by omega) h2
   rcases ih.2.2.2 with e|e
   left;omega;right;exact e
  rw[if_neg h];exact⟨Nat.le_refl _,by omega,fun j h1 h2=>by omega,.inr (by simpa using h)⟩
def Qw(L:List Zk)(s k:Nat):Nat:=YI (Zb1 L s k) (L.length-3) 1
structure Zfj(L:List Zk)(s k r:Nat):Prop where
 pos:1<=r
 le:r+2<=L.length
 yes:∀i,1<=i->i<r->Zb1 L s k i=true
 no:r+2=L.length∨Zb1 L s k r=false
theorem Y6 (L:List Zk) (s k:Nat) (h:3<=L.length):Zfj L s k (Qw L s k):=by
  have:=ZaZ (Zb1 L s k) (L.length-3) 1;unfold Qw
  exact ⟨this.1, by omega, this.2.2.1, by rcases this.2.2.2 with e|e; · left;omega
                                          right;exact e⟩
theorem Zfj.unique{L:List Zk}{s k r q:Nat}(hr:Zfj L s k r)(hq:Zfj L s k q):r=q:=by
 rcases Nat.lt_trichotomy r q with h|h|h
 ·have h1:=hq.yes r hr.pos h
  rcases hr.no with e|e
  have:=hq.le;omega;rw[h1] at e;cases e
 exact h;have h1:=hr.yes q hq.pos h
 rcases hq.no with e|e
 have:=hr.le;omega;rw[h1] at e;cases e
theorem YM{L:List Zk}(g:Zo L):0<=Zb L/\Zb L<=1000000000000:=by unfold Zb;split;omega;have:=g.at (show L.length-1<L.length by omega);omega
theorem ZeF{L:List Zk}(g:Zo L){s k i:Nat}(h:Zb1 L s k i=true):Zb1 L s (k+1) i=true:=by unfold Zb1 at *;have ht:=(YM g).1;rw[decide_eq_true_eq] at *;have:4*(k:Int)*Zb L<=4*((k+1:Nat):Int)*Zb L:=Int.mul_le_mul_of_nonneg_right (by omega) ht;omega
theorem ZhW{L:List Zk}(g:Zo L)(s k:Nat)(h:3<=L.length):Qw L s k<=Qw L s (k+1):=by
 have h1:=Y6 L s k h;have h2:=Y6 L s (k+1) h
 by_cases hc:Qw L s k<=Qw L s (k+1)
 exact hc;have h3:=ZeF g (h1.yes (Qw L s (k+1)) h2.pos (by omega))
 rcases h2.no with e|e
 have:=h1.le;omega;rw[h3] at e;cases e
def Zaf(L:List Zk)(s k:Nat):Nat:=if k=0 then 0 else Qw L s k
def Z8(L:List Zk)(s:Nat):Nat->List Zk
 |0=>[L.getD 0 e0]
 |k+1=>if Qw L s (k+1)=Zaf L s k then Z8 L s k else Z8 L s k++[L.getD (Qw L s (k+1)) e0]
def ZV(L:List Zk)(size:Int):List Zk:=
 if(L.length:Int)<=max size 2 then L else Z8 L (max size 2).toNat ((max size 2).toNat-2)++[L.getD (L.length-1) e0]
theorem ZaI(L:List Zk){r:Nat}(h:r<L.length):L.take (r+1)=L.take r++[L.getD r e0]:=by rw[List.take_succ_eq_append_getElem h];simp[List.getD,h]
theorem ZfT{L:List Zk}(g:Zo L)(s:Nat)(h:3<=L.length):∀k,(Z8 L s k).Sublist (L.take (Zaf L s k+1))/\Zaf L s k+2<=L.length/\Zaf L s k<=Qw L s (k+1)
 |0=>by have:=(Y6 L s 1 h).pos;refine⟨?_,by simp[Zaf];omega,by simp[Zaf]⟩;have e:=ZaI L (show 0<L.length by omega);simp only[Zaf,if_true,Z8];rw[e];simp
 |k+1=>by have ih:=ZfT g s h k;have hb:=Y6 L s (k+1) h;have hp:Zaf L s (k+1)=Qw L s (k+1):=(by simp[Zaf]);rw[hp];refine⟨?_,hb.le,ZhW g s (k+1) h⟩;simp only[Z8];split;rename_i e;rw[e];exact ih.1;rename_i e;rw[ZaI L (show Qw L s (k+1)<L.length by have:=hb.le;omega)];refine List.Sublist.append ?_ (List.Sublist.refl _);refine ih.1.trans ?_;exact List.take_sublist_take_left (by omega)
theorem QV{L:List Zk}(g:Zo L)(size:Int):(ZV L size).Sublist L:=by
 unfold ZV;split;exact List.Sublist.refl _;rename_i h;have h3:3<=L.length:=(by omega);have ks:=ZfT g (max size 2).toNat h3 ((max size 2).toNat-2);have e:L=L.take (L.length-1+1):=by rw[List.take_of_length_le (by omega)]
 conv=>rhs;rw[e]
 rw[ZaI L (show L.length-1<L.length by omega)];refine List.Sublist.append (ks.1.trans ?_) (List.Sublist.refl _);exact List.take_sublist_take_left (by omega)
theorem Zje{x whole rest parts tot:Int}(hp:0<parts)(hr:0<=rest)(hlt:rest<parts)(he:whole*parts+rest=tot):x<(if 0<rest then whole+1 else whole)↔x*parts<tot:=by constructor;intro h;split at h;have:x*parts<=whole*parts:=Int.mul_le_mul_of_nonneg_right (by omega) (by omega);omega;have:x*parts<whole*parts:=Int.mul_lt_mul_of_pos_right h hp;omega;intro h;split;have h2:x*parts<(whole+1)*parts:=(by rw[Int.add_mul];omega);exact Int.lt_of_mul_lt_mul_right h2 (by omega);have h2:x*parts<whole*parts:=(by omega);exact Int.lt_of_mul_lt_mul_right h2 (by omega)
theorem Zjf{L:List Zk}{U:List Int}(hp:L.Pairwise fun e f=>e.v<f.v/\e.lo+e.wt<=f.lo/\e.hi<=f.hi-f.wt)(hU:∀e∈L,e.v∈U):L.length<=U.length:=by
 induction L generalizing U with
 |nil=>simp
 | cons e L ih=>
  rw[List.pairwise_cons] at hp;have h1:e.v∈U:=hU e (by simp)
  have h2:=ih (U:=U.erase e.v) hp.2 (fun f hf=>by
   have hne:f.v≠e.v:=by have:=(hp.1 f hf).1;omega
   exact(List.mem_erase_of_ne hne).2 (hU f (by simp[hf])))
  rw[List.length_erase_of_mem h1] at h2;have:0<U.length:=List.length_pos_of_mem h1;simp;omega
theorem Zo.len{L:List Zk}(g:Zo L){U:List Int}(hU:∀e∈L,e.v∈U):L.length<=U.length:=Zjf g.step hU
def Yq:List (Int×Int)->Int->Int
  |[],_=>0
  |p::r,x=>(if p.1<x then p.2 else 0)+Yq r x
theorem QC(a b:List (Int×Int))(x:Int):Yq (a++b) x=Yq a x+Yq b x:=by
 induction a with
 |nil=>simp[Yq]
 |cons p r ih=>simp only[List.cons_append,Yq,ih];omega
theorem Zcb(a b:List (Int×Int))(x:Int):YN (a++b) x=YN a x+YN b x:=by
 induction a with
 |nil=>simp[YN]
 |cons p r ih=>simp only[List.cons_append,YN,ih];omega
def Pos(ps:List (Int×Int)):Prop:=∀p∈ps,1<=p.2
theorem Pos.tail{p:Int×Int}{r:List (Int×Int)}(h:Pos (p::r)):Pos r:=fun q hq=>h q (by simp[hq])
theorem Zjk{ps:List (Int×Int)}(hp:Pos ps){x y:Int}(h:x<y):Yq ps x+YN ps x<=Yq ps y:=by
 induction ps with
 |nil=>simp[Yq,YN]
 | cons p r ih=>
  have h1:=hp p (by simp);have h2:=ih hp.tail;simp only[Yq,YN]
  by_cases a:p.1<x
  rw[if_pos a,if_neg (by omega),if_pos (by omega)];omega
  by_cases b:p.1=x
  rw[if_neg a,if_pos b,if_pos (by omega)];omega;rw[if_neg a,if_neg b]
  by_cases c:p.1<y
  rw[if_pos c];omega;rw[if_neg c];omega
theorem ZbZ{ps:List (Int×Int)}(hp:Pos ps)(x:Int):0<=Yq ps x/\0<=YN ps x/\Yq ps x+YN ps x<=Zs ps:=by
 induction ps with
 |nil=>simp[Yq,YN,Zs]
 | cons p r ih=>
  have h1:=hp p (by simp);obtain⟨h2,h3,h4⟩:=ih hp.tail;simp only[Yq,YN,Zs]
  by_cases a:p.1<x
  rw[if_pos a,if_neg (by omega)];omega;rw[if_neg a]
  by_cases b:p.1=x
  rw[if_pos b];omega;rw[if_neg b];omega
structure ZE(ps:List (Int×Int))(L:List Zk):Prop where
 each:∀e∈L,e.lo<=Yq ps e.v/\Yq ps e.v+YN ps e.v<=e.hi/\e.wt<=YN ps e.v
 least:∀q∈ps,∃e∈L,e.v<=q.1
 most:∀q∈ps,∃e∈L,q.1<=e.v
 total:Zb L=Zs ps
theorem ZE.nil:ZE [] []:=⟨by simp,by simp,by simp,by simp[Zb,Zs]⟩
theorem ZeK{ps qs:List (Int×Int)}{b:List Zk}{e:Zk}{j:Nat}(hq:Pos qs)(hb:ZE qs b)(he:e.lo<=Yq ps e.v/\Yq ps e.v+YN ps e.v<=e.hi/\e.wt<=YN ps e.v)(hj:j<=b.length)(h1:0<j->(b.getD (j-1) e0).v<e.v)(h2:j<b.length->e.v<(b.getD j e0).v):(seen b j e).lo<=Yq ps e.v+Yq qs e.v/\(Yq ps e.v+Yq qs e.v)+(YN ps e.v+YN qs e.v)<=(seen b j e).hi/\(seen b j e).wt<=YN ps e.v+YN qs e.v:=by
 have hall:=ZbZ hq e.v;have lo:ZS b j<=Yq qs e.v:=(by unfold ZS;split;omega;rename_i hn;have hm:=YF (show j-1<b.length by omega);obtain⟨k1,k2,k3⟩:=hb.each _ hm;have:=Zjk hq (h1 (by omega));omega);have hi:Yq qs e.v+YN qs e.v<=Yc b j:=(by unfold Yc;split;rw[hb.total];exact hall.2.2;rename_i hn;have hjl:j<b.length:=(by omega);obtain⟨k1,k2,k3⟩:=hb.each _ (YF hjl);have:=Zjk hq (h2 hjl);omega);simp only[seen];omega
theorem ZaF{ps qs:List (Int×Int)}{a b:List Zk}(hp:Pos ps)(hq:Pos qs)(ga:Zo a)(gb:Zo b)(ha:ZE ps a)(hb:ZE qs b):∀n i j,i<=a.length->j<=b.length->(i<a.length->0<j->(b.getD (j-1) e0).v<(a.getD i e0).v)->(j<b.length->0<i->(a.getD (i-1) e0).v<(b.getD j e0).v)->∀f∈Yb a b n i j,f.lo<=Yq (ps++qs) f.v/\Yq (ps++qs) f.v+YN (ps++qs) f.v<=f.hi/\f.wt<=YN (ps++qs) f.v
 |0,i,j,_,_,_,_=>by simp[Yb]
 | n + 1,i,j,hi,hj,ia,ib=>by
  intro f hf;simp only[Yb] at hf;split at hf
  ·rename_i c
   rcases List.mem_cons.1 hf with rfl|hf
   rw[QC,Zcb];have:=ZeK (ps:=ps) hq hb (ha.each _ (YF c.1)) hj (ia c.1) c.2;exact this;refine ZaF hp hq ga gb ha hb n (i+1) j (by omega) hj (fun h1 h2=>?_) (fun h1 _=>?_) f hf;have:=ia c.1 h2;have:=(ga.lt (show i<i+1 by omega) h1).1;omega;exact c.2 h1
  rename_i c;split at hf
  ·rename_i d
   rcases List.mem_cons.1 hf with rfl|hf
   rw[QC,Zcb];have:=ZeK (ps:=qs) hp ha (hb.each _ (YF d.1)) hi (ib d.1) d.2;show _<=_+_/\_+_+(_+_)<=_/\_<=_+_;simp only[seen] at this ⊢;omega;refine ZaF hp hq ga gb ha hb n i (j+1) hi (by omega) (fun h1 _=>?_) (fun h1 h2=>?_) f hf;exact d.2 h1;have:=ib d.1 h2;have:=(gb.lt (show j<j+1 by omega) h1).1;omega
  rename_i d;split at hf
  ·rename_i k
   have hv:(a.getD i e0).v=(b.getD j e0).v:=by
    rcases Int.lt_trichotomy (a.getD i e0).v (b.getD j e0).v with h|h|h
    exact absurd ⟨k.1,fun _=>h⟩ c;exact h;exact absurd ⟨k.2,fun _=>h⟩ d
   rcases List.mem_cons.1 hf with rfl|hf
   rw[QC,Zcb];have e1:=ha.each _ (YF k.1);have e2:=hb.each _ (YF k.2);simp only[QF];rw[<- hv] at e2;omega;refine ZaF hp hq ga gb ha hb n (i+1) (j+1) (by omega) (by omega) (fun h1 _=>?_) (fun h1 _=>?_) f hf;have:=(ga.lt (show i<i+1 by omega) h1).1;show(b.getD j e0).v<_;omega;have:=(gb.lt (show j<j+1 by omega) h1).1;show(a.getD i e0).v<_;omega
  simp at hf
theorem Zav(a b:List Zk):∀n i j,a.length-i+(b.length-j)<=n->(∀k,i<=k->k<a.length->∃f∈Yb a b n i j,f.v=(a.getD k e0).v)/\(∀k,j<=k->k<b.length->∃f∈Yb a b n i j,f.v=(b.getD k e0).v)
 |0,i,j,h=>⟨fun k h1 h2=>by omega,fun k h1 h2=>by omega⟩
 | n + 1,i,j,h=>by
  simp only[Yb];split
  ·rename_i c;obtain⟨p,q⟩:=Zav a b n (i+1) j (by omega);refine⟨fun k h1 h2=>?_,fun k h1 h2=>?_⟩
   ·by_cases e:k=i
    subst e;exact⟨_,List.mem_cons_self,rfl⟩;obtain⟨f,hf,e⟩:=p k (by omega) h2;exact⟨f,by simp[hf],e⟩
   obtain⟨f,hf,e⟩:=q k h1 h2;exact⟨f,by simp[hf],e⟩
  rename_i c;split
  ·rename_i d;obtain⟨p,q⟩:=Zav a b n i (j+1) (by omega);refine⟨fun k h1 h2=>?_,fun k h1 h2=>?_⟩;obtain⟨f,hf,e⟩:=p k h1 h2;exact⟨f,by simp[hf],e⟩
   by_cases e:k=j
   subst e;exact⟨_,List.mem_cons_self,rfl⟩;obtain⟨f,hf,e⟩:=q k (by omega) h2;exact⟨f,by simp[hf],e⟩
  rename_i d;split
  ·rename_i m
   have hv:(a.getD i e0).v=(b.getD j e0).v:=by
    rcases Int.lt_trichotomy (a.getD i e0).v (b.getD j e0).v with h|h|h
    exact absurd ⟨m.1,fun _=>h⟩ c;exact h;exact absurd ⟨m.2,fun _=>h⟩ d
   obtain⟨p,q⟩:=Zav a b n (i+1) (j+1) (by omega);refine⟨fun k h1 h2=>?_,fun k h1 h2=>?_⟩
   ·by_cases e:k=i
    subst e;exact⟨_,List.mem_cons_self,rfl⟩;obtain⟨f,hf,e⟩:=p k (by omega) h2;exact⟨f,by simp[hf],e⟩
   by_cases e:k=j
   subst e;exact⟨_,List.mem_cons_self,hv⟩;obtain⟨f,hf,e⟩:=q k (by omega) h2;exact⟨f,by simp[hf],e⟩
  rename_i m;refine⟨fun k h1 h2=>?_,fun k h1 h2=>?_⟩
  ·exfalso;have hi:i<a.length:=by omega
   by_cases hj:j<b.length
   exact m ⟨hi,hj⟩;exact c ⟨hi,fun x=>absurd x hj⟩
  exfalso;have hj:j<b.length:=by omega
  by_cases hi:i<a.length
  exact m ⟨hi,hj⟩;exact d ⟨hj,fun x=>absurd x hi⟩
theorem Zd2(e f:Zk)(L:List Zk):Zb (e::f::L)=Zb (f::L):=by unfold Zb;simp[List.getD]
theorem ZeN(e:Zk):Zb [e]=e.hi:=by simp[Zb]
theorem Za2(a b:List Zk):∀n i j,i<=a.length->j<=b.length->a.length-i+(b.length-j)<=n->(i<a.length∨j<b.length)->Zb (Yb a b n i j)=Zb a+Zb b
 |0,i,j,_,_,h,h'=>by omega
 | n + 1,i,j,hi,hj,h,h'=>by
  have step:∀(f:Zk) (i' j':Nat),i'<=a.length->j'<=b.length->a.length-i'+(b.length-j')<=n->(i'=a.length->j'=b.length->f.hi=Zb a+Zb b)->Zb (f::Yb a b n i' j')=Zb a+Zb b:=fun f i' j' q1 q2 q3 q4=>by
   by_cases e:i'<a.length∨j'<b.length
   ·have ih:=Za2 a b n i' j' q1 q2 q3 e
    cases hJ:Yb a b n i' j' with
    | nil=>
     exfalso;obtain⟨p,q⟩:=Zav a b n i' j' q3
     rcases e with e|e
     obtain⟨f,hf,_⟩:=p i' (Nat.le_refl _) e;rw[hJ] at hf;cases hf;obtain⟨f,hf,_⟩:=q j' (Nat.le_refl _) e;rw[hJ] at hf;cases hf
    | cons g R=>
     rw[hJ] at ih;rw[Zd2];exact ih
   have hnil:Yb a b n i' j'=[]:=by
    cases n with
    |zero=>rfl
    | succ n=>
     simp only[Yb];rw[if_neg (by omega),if_neg (by omega),if_neg (by omega)]
   rw[hnil,ZeN];exact q4 (by omega) (by omega)
  simp only[Yb];split;rename_i c;refine step _ _ _ (by omega) hj (by omega) (fun e1 e2=>?_);have:Zb a=(a.getD i e0).hi:=(by unfold Zb;rw[if_neg (by omega),show a.length-1=i by omega]);simp only[seen,Yc];rw[if_pos e2,this];rename_i c;split;rename_i d;refine step _ _ _ hi (by omega) (by omega) (fun e1 e2=>?_);have:Zb b=(b.getD j e0).hi:=(by unfold Zb;rw[if_neg (by omega),show b.length-1=j by omega]);simp only[seen,Yc];rw[if_pos e1,this];omega;rename_i d;split;rename_i m;refine step _ _ _ (by omega) (by omega) (by omega) (fun e1 e2=>?_);have t1:Zb a=(a.getD i e0).hi:=(by unfold Zb;rw[if_neg (by omega),show a.length-1=i by omega]);have t2:Zb b=(b.getD j e0).hi:=(by unfold Zb;rw[if_neg (by omega),show b.length-1=j by omega]);simp only[QF];rw[t1,t2];rename_i m;exfalso
  rcases h' with e|e
  ·by_cases hj:j<b.length
   exact m ⟨e,hj⟩;exact c ⟨e,fun x=>absurd x hj⟩
  by_cases hi:i<a.length
  exact m ⟨hi,e⟩;exact d ⟨e,fun x=>absurd x hi⟩
theorem QD{L:List Zk}{e:Zk}(h:e∈L):∃k,k<L.length/\L.getD k e0=e:=by obtain⟨k,hk,rfl⟩:=List.getElem_of_mem h;exact⟨k,hk,by simp[List.getD,hk]⟩
theorem ZE.join{ps qs:List (Int×Int)}{a b:List Zk}(hp:Pos ps)(hq:Pos qs)(ga:Zo a)(gb:Zo b)(ha:ZE ps a)(hb:ZE qs b):ZE (ps++qs) (Zn a b):=by
 have has:=Zav a b (a.length+b.length) 0 0 (by omega);refine⟨ZaF hp hq ga gb ha hb _ 0 0 (by omega) (by omega) (fun _ h=>absurd h (by omega)) (fun _ h=>absurd h (by omega)),fun q hq'=>?_,fun q hq'=>?_,?_⟩
 ·rcases List.mem_append.1 hq' with h|h
  obtain⟨e,he,hle⟩:=ha.least q h;obtain⟨k,hk,rfl⟩:=QD he;obtain⟨f,hf,ev⟩:=has.1 k (by omega) hk;exact⟨f,hf,by omega⟩;obtain⟨e,he,hle⟩:=hb.least q h;obtain⟨k,hk,rfl⟩:=QD he;obtain⟨f,hf,ev⟩:=has.2 k (by omega) hk;exact⟨f,hf,by omega⟩
 ·rcases List.mem_append.1 hq' with h|h
  obtain⟨e,he,hle⟩:=ha.most q h;obtain⟨k,hk,rfl⟩:=QD he;obtain⟨f,hf,ev⟩:=has.1 k (by omega) hk;exact⟨f,hf,by omega⟩;obtain⟨e,he,hle⟩:=hb.most q h;obtain⟨k,hk,rfl⟩:=QD he;obtain⟨f,hf,ev⟩:=has.2 k (by omega) hk;exact⟨f,hf,by omega⟩
 rw[Yw,<- ha.total,<- hb.total]
 by_cases h:0<a.length∨0<b.length
 exact Za2 a b _ 0 0 (by omega) (by omega) (by omega) h;have h1:a=[]:=List.eq_nil_of_length_eq_zero (by omega);have h2:b=[]:=List.eq_nil_of_length_eq_zero (by omega);subst h1 h2;rfl
theorem ZbI(L:List Zk)(s:Nat):∀k,L.getD 0 e0∈Z8 L s k
 |0=>by simp[Z8]
 |k+1=>by simp only[Z8];split;exact ZbI L s k;exact List.mem_append_left _ (ZbI L s k)
theorem Zd3(A:List Zk)(e:Zk):Zb (A++[e])=e.hi:=by unfold Zb;rw[if_neg (by simp)];simp[List.getD]
theorem ZE.cut{ps:List (Int×Int)}{L:List Zk}(g:Zo L)(h:ZE ps L)(size:Int):ZE ps (ZV L size):=by
 have sub:=QV g size
 by_cases c:(L.length:Int)<=max size 2
 have:ZV L size=L:=(by unfold ZV;rw[if_pos c]);rw[this];exact h;have e:ZV L size=Z8 L (max size 2).toNat ((max size 2).toNat-2)++[L.getD (L.length-1) e0]:=(by unfold ZV;rw[if_neg c]);have hl:0<L.length:=(by omega);have m0:L.getD 0 e0∈ZV L size:=(by rw[e];exact List.mem_append_left _ (ZbI _ _ _));have m1:L.getD (L.length-1) e0∈ZV L size:=(by rw[e];simp);refine⟨fun x hx=>h.each x (sub.subset hx),fun q hq=>?_,fun q hq=>?_,?_⟩
 ·obtain⟨x,hx,hle⟩:=h.least q hq;obtain⟨k,hk,rfl⟩:=QD hx;refine⟨_,m0,?_⟩
  by_cases k0:k=0
  subst k0;exact hle;have:=(g.lt (show 0<k by omega) hk).1;omega
 ·obtain⟨x,hx,hle⟩:=h.most q hq;obtain⟨k,hk,rfl⟩:=QD hx;refine⟨_,m1,?_⟩
  by_cases k0:k=L.length-1
  subst k0;exact hle;have:=(g.lt (show k<L.length-1 by omega) (by omega)).1;omega
 rw[e,Zd3,<- h.total];unfold Zb;rw[if_neg (by omega)]
theorem Zgl{M:List (Int×Int)}(hr:M.Pairwise fun p q=>p.1<q.1)(q:Int×Int)(r:List (Int×Int)):ZaJ (q::r) M=ZaJ r M+(if ∃p∈M,p.1=q.1 then q.2 else 0):=by
 induction M with
 |nil=>simp[ZaJ]
 | cons p N ih=>
  rw[List.pairwise_cons] at hr;have:=ih hr.2;simp only[ZaJ,YN];rw[this]
  by_cases e:q.1=p.1
  rw[if_pos e];have h1:¬∃x∈N,x.1=q.1:=(by rintro⟨x,hx,hv⟩;have:=hr.1 x hx;omega);have h2:∃x∈p::N,x.1=q.1:=⟨p,by simp,e.symm⟩;rw[if_neg h1,if_pos h2];omega;rw[if_neg e]
  by_cases h1:∃x∈N,x.1=q.1
  have h2:∃x∈p::N,x.1=q.1:=(by obtain⟨x,hx,hv⟩:=h1;exact⟨x,by simp[hx],hv⟩);rw[if_pos h1,if_pos h2];omega
  have h2:¬∃x∈p::N,x.1=q.1:=by
   rintro⟨x,hx,hv⟩
   rcases List.mem_cons.1 hx with rfl|hx
   exact e hv.symm;exact h1 ⟨x,hx,hv⟩
  rw[if_neg h1,if_neg h2];omega
theorem ZhS{M:List (Int×Int)}(hr:M.Pairwise fun p q=>p.1<q.1)(x:Int):∀ps:List (Int×Int),(∀q∈ps,∃p∈M,p.1=q.1)->ZaJ ps (M.filter fun p=>decide (p.1<x))=Yq ps x
 |[],_=>by simp[Yq,Zd1]
 | q::r,h=>by
  rw[Zgl (hr.sublist List.filter_sublist),ZhS hr x r (fun y hy=>h y (by simp[hy]))];simp only[Yq]
  by_cases c:q.1<x
  rw[if_pos c,if_pos ?_];omega;obtain⟨p,hp,e⟩:=h q (by simp);exact⟨p,by simp[hp];omega,e⟩;rw[if_neg c,if_neg ?_];omega;rintro⟨p,hp,e⟩;simp at hp;omega
theorem ZhR{M:List (Int×Int)}(hr:M.Pairwise fun p q=>p.1<q.1):∀ps:List (Int×Int),(∀q∈ps,∃p∈M,p.1=q.1)->ZaJ ps M=Zs ps
 |[],_=>by simp[Zs,Zd1]
 |q::r,h=>by rw[Zgl hr,ZhR hr r (fun y hy=>h y (by simp[hy])),if_pos (h q (by simp))];simp only[Zs];omega
theorem Zge{x:Int}:∀(M:List (Int×Int)) (low:Int),M.Pairwise (fun p q=>p.1<q.1)->∀e∈ZB low M,e.lo=low+Zs (M.filter fun p=>decide (p.1<e.v))
 |[],_,_=>by simp[ZB]
 | p ::r,low,hr=>by
  rw[List.pairwise_cons] at hr;intro e he;simp only[ZB] at he
  rcases List.mem_cons.1 he with rfl|he
  ·have:(p::r).filter (fun q=>decide (q.1<p.1))=[]:=by
    rw[List.filter_eq_nil_iff];intro q hq
    rcases List.mem_cons.1 hq with rfl|hq
    simp;have:=hr.1 q hq;simp;omega
   show low=low+Zs ((p::r).filter fun q=>decide (q.1<p.1));rw[this];simp[Zs]
  have h1:=Zge (x:=x) r (low+p.2) hr.2 e he
  have h2:p.1<e.v:=by
   have:∀(N:List (Int×Int)) (l:Int) (e:Zk),e∈ZB l N->∃q∈N,q.1=e.v:=by
    intro N
    induction N with
    |nil=>intro l e he;simp[ZB] at he
    | cons q N ih=>
     intro l e he;simp only[ZB] at he
     rcases List.mem_cons.1 he with rfl|he
     exact⟨q,by simp,rfl⟩;obtain⟨y,hy,e'⟩:=ih _ e he;exact⟨y,by simp[hy],e'⟩
   obtain⟨q,hq,e'⟩:=this r _ e he;have:=hr.1 q hq;omega
  rw[h1,List.filter_cons_of_pos (by simpa using h2)];simp only[Zs];omega
theorem Zbm:∀(M:List (Int×Int)) (low:Int),(∀e∈ZB low M,∃p∈M,p.1=e.v/\p.2=e.wt/\e.hi=e.lo+e.wt)/\(∀p∈M,∃e∈ZB low M,e.v=p.1)/\(M≠[]->Zb (ZB low M)=low+Zs M)
  |[],low=>by simp[ZB]
  | p ::r,low=>by
    obtain⟨h1,h2,h3⟩:=Zbm r (low+p.2);refine⟨fun e he=>?_,fun q hq=>?_,fun _=>?_⟩
    · simp only[ZB] at he
      rcases List.mem_cons.1 he with rfl|he
      exact⟨p,by simp,rfl,rfl,rfl⟩;obtain⟨q,hq,k⟩:=h1 e he;exact⟨q,by simp[hq],k⟩
    · simp only[ZB]
      rcases List.mem_cons.1 hq with rfl|hq
      exact⟨_,List.mem_cons_self,rfl⟩;obtain⟨e,he,k⟩:=h2 q hq;exact⟨e,by simp[he],k⟩
    cases r with
    |nil=>simp[ZB,ZeN,Zs]
    | cons q r=>
      have:=h3 (by simp);simp only[ZB] at this ⊢;rw[Zd2,this];simp only[Zs];omega
theorem ZE.of_sum{ps M:List (Int×Int)}(h:Z1 ps M):ZE ps (ZB 0 M):=by
 obtain⟨r1,r2,r3⟩:=Zbm M 0;have hw:∀N:List (Int×Int),(∀p∈N,p∈M)->Zs N=ZaJ ps N:=fun N hN=>ZdT (fun p hp=>h.wt p (hN p hp));refine⟨fun e he=>?_,fun q hq=>?_,fun q hq=>?_,?_⟩;obtain⟨p,hp,ev,ew,eh⟩:=r1 e he;have el:=Zge (x:=0) M 0 h.rise e he;rw[hw _ (fun p hp=>(List.mem_filter.1 hp).1),ZhS h.rise e.v ps h.all] at el;have:=h.wt p hp;rw[ev] at this;omega;obtain⟨p,hp,e⟩:=h.all q hq;obtain⟨f,hf,k⟩:=r2 p hp;exact⟨f,hf,by omega⟩;obtain⟨p,hp,e⟩:=h.all q hq;obtain⟨f,hf,k⟩:=r2 p hp;exact⟨f,hf,by omega⟩
 by_cases e:M=[]
 ·subst e
  have:ps=[]:=by
   cases ps with
   |nil=>rfl
   |cons q r=>obtain⟨p,hp,_⟩:=h.all q (by simp);cases hp
  subst this;rfl
 rw[r3 e,hw M (fun _ x=>x),ZhR h.rise ps h.all];omega
end Go.Proofs.YtfcgnpchbcmdeaaGreat
