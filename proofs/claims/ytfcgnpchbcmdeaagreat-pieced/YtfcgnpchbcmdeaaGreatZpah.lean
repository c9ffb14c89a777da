namespace Go.Proofs.YtfcgnpchbcmdeaaGreat
structure Zm where
 v:Int
 lo:Int
 hi:Int
 wt:Int
def Zaz(z:Int):Int:=if 1000000000<z then 1000000000 else if z< -1000000000 then -1000000000 else z
def ZbJ(z:Int):Int:=if z<1∨1000<z then 1 else z
def Zj(vs ws:List Int):List (Int×Int):=(List.zip vs ws).map fun p=>(Zaz p.1,ZbJ p.2)
theorem ZaT(vs ws:List Int):(Zj vs ws).length=min vs.length ws.length:=by simp[Zj]
def wOf:List (Int×Int)->Int->Int
  |[],_=>0
  |p::r,v=>(if p.1=v then p.2 else 0)+wOf r v
theorem ZfH(a b:List (Int×Int))(v:Int):wOf (a++b) v=wOf a v+wOf b v:=by
 induction a with
 |nil=>simp[wOf]
 |cons p r ih=>simp only[List.cons_append,wOf,ih];omega
theorem ZmY{a b:List (Int×Int)}(h:a.Perm b)(v:Int):wOf a v=wOf b v:=by
 induction h with
 |nil=>rfl
 |cons x _ ih=>simp only[wOf,ih]
 |swap x y l=>simp only[wOf];omega
 |trans _ _ h1 h2=>exact h1.trans h2
theorem ZiG{a:List (Int×Int)}{v:Int}(h:∀p∈a,p.1≠v):wOf a v=0:=by
 induction a with
 |nil=>rfl
 |cons p r ih=>simp only[wOf];rw[if_neg (h p (by simp)),ih (fun q hq=>h q (by simp[hq]))];rfl
structure Yo(ps M:List (Int×Int)):Prop where
 rise:M.Pairwise fun p q=>p.1<q.1
 sub:∀p∈M,∃q∈ps,q.1=p.1
 all:∀q∈ps,∃p∈M,p.1=q.1
 wt:∀p∈M,p.2=wOf ps p.1
theorem ZkA:∀{M N:List (Int×Int)},M.Pairwise (fun p q=>p.1<q.1)->N.Pairwise (fun p q=>p.1<q.1)->(∀p,p∈M↔p∈N)->M=N
 |[],[],_,_,_=>rfl
 |[],q::_,_,_,h=>absurd ((h q).2 (by simp)) (by simp)
 |p::_,[],_,_,h=>absurd ((h p).1 (by simp)) (by simp)
 | p ::M,q::N,hM,hN,h=>by
  rw[List.pairwise_cons] at hM hN
  have hpq:p=q:=by
   rcases List.mem_cons.1 ((h p).1 (by simp)) with e|e
   exact e
   rcases List.mem_cons.1 ((h q).2 (by simp)) with e'|e'
   exact e'.symm;have h1:=hN.1 p e;have h2:=hM.1 q e';omega
  subst hpq;congr 1;refine ZkA hM.2 hN.2 fun r=>⟨fun hr=>?_,fun hr=>?_⟩
  ·rcases List.mem_cons.1 ((h r).1 (by simp[hr])) with e|e
   have:=hM.1 r hr;rw[e] at this;omega;exact e
  rcases List.mem_cons.1 ((h r).2 (by simp[hr])) with e|e
  have:=hN.1 r hr;rw[e] at this;omega;exact e
theorem Yo.unique{ps M N:List (Int×Int)}(hM:Yo ps M)(hN:Yo ps N):M=N:=by refine ZkA hM.rise hN.rise fun p=>⟨fun hp=>?_,fun hp=>?_⟩;obtain⟨q,hq,e⟩:=hM.sub p hp;obtain⟨r,hr,e'⟩:=hN.all q hq;have hpr:p=r:=Prod.ext (by omega) (by rw[hM.wt p hp,hN.wt r hr,e',e]);exact hpr ▸ hr;obtain⟨q,hq,e⟩:=hN.sub p hp;obtain⟨r,hr,e'⟩:=hM.all q hq;have hpr:p=r:=Prod.ext (by omega) (by rw[hN.wt p hp,hM.wt r hr,e',e]);exact hpr ▸ hr
theorem Yo.perm{ps qs M:List (Int×Int)}(h:Yo ps M)(hp:ps.Perm qs):Yo qs M:=
 ⟨h.rise,fun p hpM=>let ⟨q,hq,e⟩:=h.sub p hpM;⟨q,hp.mem_iff.1 hq,e⟩,fun q hq=>h.all q (hp.mem_iff.2 hq),fun p hpM=>(h.wt p hpM).trans (ZmY hp _)⟩
theorem Yo.more{ps M:List (Int×Int)}(h:Yo ps M)(p:Int×Int)(hle:∀q∈ps,q.1<p.1):Yo (ps++[p]) (M++[p]):=by
 refine⟨?_,?_,?_,?_⟩;rw[List.pairwise_append];refine⟨h.rise,by simp,fun a ha b hb=>?_⟩;simp at hb;subst hb;obtain⟨q,hq,e⟩:=h.sub a ha;have:=hle q hq;omega
 ·intro a ha
  rcases List.mem_append.1 ha with ha|ha
  obtain⟨q,hq,e⟩:=h.sub a ha;exact⟨q,by simp[hq],e⟩;simp at ha;subst ha;exact⟨a,by simp,rfl⟩
 ·intro q hq
  rcases List.mem_append.1 hq with hq|hq
  obtain⟨a,ha,e⟩:=h.all q hq;exact⟨a,by simp[ha],e⟩;simp at hq;subst hq;exact⟨q,by simp,rfl⟩
 intro a ha;rw[ZfH]
 rcases List.mem_append.1 ha with ha|ha
 obtain⟨q,hq,e⟩:=h.sub a ha;have:=hle q hq;simp only[wOf];rw[if_neg (by omega),h.wt a ha];omega;simp at ha;subst ha;rw[ZiG (fun q hq=>by have:=hle q hq;omega)];simp[wOf]
theorem Yo.same{ps M:List (Int×Int)}{v w:Int}(h:Yo ps (M++[(v,w)]))(u:Int):Yo (ps++[(v,u)]) (M++[(v,w+u)]):=by
 have hr:=h.rise;rw[List.pairwise_append] at hr;refine⟨?_,?_,?_,?_⟩;rw[List.pairwise_append];refine⟨hr.1,by simp,fun a ha b hb=>?_⟩;simp at hb;subst hb;exact hr.2.2 a ha (v,w) (by simp)
 ·intro a ha
  rcases List.mem_append.1 ha with ha|ha
  obtain⟨q,hq,e⟩:=h.sub a (by simp[ha]);exact⟨q,by simp[hq],e⟩;simp at ha;subst ha;exact⟨(v,u),by simp,rfl⟩
 ·intro q hq
  rcases List.mem_append.1 hq with hq|hq
  ·obtain⟨a,ha,e⟩:=h.all q hq
   rcases List.mem_append.1 ha with ha|ha
   exact⟨a,by simp[ha],e⟩;simp at ha;subst ha;exact⟨(v,w+u),by simp,e⟩
  simp at hq;subst hq;exact⟨(v,w+u),by simp,rfl⟩
 intro a ha;rw[ZfH]
 rcases List.mem_append.1 ha with ha|ha
 have:=hr.2.2 a ha (v,w) (by simp);simp only[wOf];simp only at this;rw[if_neg (by omega),h.wt a (by simp[ha])];omega;simp at ha;subst ha;have:=h.wt (v,w) (by simp);simp only[wOf,if_true] at *;omega
theorem Yo.nil:Yo [] []:=⟨by simp,by simp,by simp,by simp⟩
def ZP:Int->List (Int×Int)->List Zm
  |_,[]=>[]
  |low,p::r=>⟨p.1,low,low+p.2,p.2⟩::ZP (low+p.2) r
def ZX:List (Int×Int)->Int
  |[]=>0
  |p::r=>p.2+ZX r
theorem Zd1(a b:List (Int×Int)):ZX (a++b)=ZX a+ZX b:=by
 induction a with
 |nil=>simp[ZX]
 |cons p r ih=>simp only[List.cons_append,ZX,ih];omega
theorem Zhi(low:Int)(a b:List (Int×Int)):ZP low (a++b)=ZP low a++ZP (low+ZX a) b:=by
 induction a generalizing low with
 |nil=>simp[ZP,ZX]
 |cons p r ih=>simp only[List.cons_append,ZP,ih,ZX];rw[show low+p.2+ZX r=low+(p.2+ZX r) by omega]
theorem ZgA(low:Int)(a:List (Int×Int)):(ZP low a).length=a.length:=by
 induction a generalizing low with
 |nil=>rfl
 |cons p r ih=>simp[ZP,ih]
structure Zy(L:List Zm):Prop where
 each:∀e∈L,0<=e.lo/\1<=e.wt/\e.lo+e.wt<=e.hi/\e.hi<=1000000000000/\ -1000000000<=e.v/\e.v<=1000000000
 step:L.Pairwise fun e f=>e.v<f.v/\e.lo+e.wt<=f.lo/\e.hi<=f.hi-f.wt
theorem Zy.nil:Zy []:=⟨by simp,by simp⟩
theorem Zy.sub{L M:List Zm}(h:Zy L)(hs:M.Sublist L):Zy M:=⟨fun e he=>h.each e (hs.subset he),h.step.sublist hs⟩
theorem Ziu{low:Int}{a:List (Int×Int)}(hp:∀p∈a,1<=p.2):∀e∈ZP low a,low<=e.lo/\e.hi=e.lo+e.wt/\e.hi<=low+ZX a/\∃p∈a,p.1=e.v/\p.2=e.wt:=by
 induction a generalizing low with
 |nil=>simp[ZP]
 | cons p r ih=>
  intro e he;have hp1:=hp p (by simp)
  have hpos:0<=ZX r:=by
   clear ih he hp1
   induction r with
   |nil=>simp[ZX]
   |cons q r ih=>simp only[ZX];have:=hp q (by simp);have:=ih (fun x hx=>hp x (by simp at hx ⊢;rcases hx with h|h<;>simp[h]));omega
  rcases List.mem_cons.1 he with rfl|he
  refine⟨?_,?_,?_,p,by simp,rfl,rfl⟩;exact Int.le_refl _;rfl;simp only[ZX];omega;obtain⟨h1,h2,h3,q,hq,e1,e2⟩:=ih (fun x hx=>hp x (by simp[hx])) e he;simp only[ZX];exact⟨by omega,h2,by omega,q,by simp[hq],e1,e2⟩
theorem Zlu{low:Int}{a:List (Int×Int)}(hp:∀p∈a,1<=p.2)(hr:a.Pairwise fun p q=>p.1<q.1):(ZP low a).Pairwise fun e f=>e.v<f.v/\e.lo+e.wt<=f.lo/\e.hi<=f.hi-f.wt:=by
 induction a generalizing low with
 |nil=>simp[ZP]
 | cons p r ih=>
  rw[List.pairwise_cons] at hr;simp only[ZP];rw[List.pairwise_cons];refine⟨fun f hf=>?_,ih (fun x hx=>hp x (by simp[hx])) hr.2⟩;obtain⟨h1,h2,_,q,hq,e1,e2⟩:=Ziu (fun x hx=>hp x (by simp[hx])) f hf;have:=hr.1 q hq;simp only;omega
theorem Zlt{a:List (Int×Int)}(hp:∀p∈a,1<=p.2)(hr:a.Pairwise fun p q=>p.1<q.1)(hv:∀p∈a,-1000000000<=p.1/\p.1<=1000000000)(hs:ZX a<=1000000000000):Zy (ZP 0 a):=by refine⟨fun e he=>?_,Zlu hp hr⟩;obtain⟨h1,h2,h3,q,hq,e1,e2⟩:=Ziu hp e he;have:=hv q hq;have:=hp q hq;omega
theorem Zhq{ps:List (Int×Int)}(hp:∀p∈ps,1<=p.2):∀v,0<=wOf ps v:=by
 induction ps with
 |nil=>intro v;simp[wOf]
 | cons p r ih=>
  intro v;have h1:=ih (fun q hq=>hp q (by simp[hq])) v;have h2:=hp p (by simp);simp only[wOf];split<;>omega
theorem Zoq{ps:List (Int×Int)}(hp:∀p∈ps,1<=p.2):∀q∈ps,1<=wOf ps q.1:=by
 induction ps with
 |nil=>simp
 | cons p r ih=>
  intro q hq;have h2:=hp p (by simp);simp only[wOf]
  rcases List.mem_cons.1 hq with rfl|hq
  have:=Zhq (fun x hx=>hp x (List.mem_cons_of_mem _ hx)) q.1;simp;omega;have:=ih (fun x hx=>hp x (by simp[hx])) q hq;split<;>omega
def Zbu(ps:List (Int×Int)):List (Int×Int)->Int
 |[]=>0
 |p::M=>wOf ps p.1+Zbu ps M
theorem ZlJ(q:Int×Int)(r M:List (Int×Int))(hq:0<=q.2)(hr:M.Pairwise fun p q=>p.1<q.1):Zbu (q::r) M<=Zbu r M+q.2/\((∀p∈M,p.1≠q.1)->Zbu (q::r) M=Zbu r M):=by
 induction M with
 |nil=>simp[Zbu];exact hq
 | cons p M ih=>
  rw[List.pairwise_cons] at hr;have ih:=ih hr.2;simp only[Zbu,wOf]
  by_cases h:q.1=p.1
  have:=ih.2 (fun x hx e=>by have:=hr.1 x hx;omega);rw[if_pos h];exact⟨by omega,fun hn=>absurd h.symm (hn p (by simp))⟩;rw[if_neg h];exact⟨by omega,fun hn=>by have:=ih.2 (fun x hx=>hn x (by simp[hx]));omega⟩
theorem ZfF(M:List (Int×Int)):Zbu [] M=0:=by
 induction M with
 |nil=>rfl
 |cons p M ih=>simp[Zbu,wOf,ih]
theorem ZkD{ps M:List (Int×Int)}(hp:∀p∈ps,1<=p.2)(hr:M.Pairwise fun p q=>p.1<q.1):Zbu ps M<=ZX ps:=by
 induction ps with
 |nil=>simp[ZfF,ZX]
 | cons q r ih=>
  have h1:=(ZlJ q r M (by have:=hp q (by simp);omega) hr).1;have h2:=ih (fun x hx=>hp x (by simp[hx]));simp only[ZX];omega
theorem Zfw{ps M:List (Int×Int)}(h:∀p∈M,p.2=wOf ps p.1):ZX M=Zbu ps M:=by
 induction M with
 |nil=>rfl
 |cons p M ih=>simp only[ZX,Zbu];rw[h p (by simp),ih (fun x hx=>h x (by simp[hx]))]
theorem Zex{ps:List (Int×Int)}(hp:∀p∈ps,p.2<=1000):ZX ps<=1000*ps.length:=by
 induction ps with
 |nil=>simp[ZX]
 | cons q r ih=>
  have h1:=hp q (by simp);have h2:=ih (fun x hx=>hp x (by simp[hx]));simp only[ZX,List.length_cons];omega
theorem ZkT(z:Int):1<=ZbJ z/\ZbJ z<=1000:=by unfold ZbJ;split<;>omega
theorem ZkS(z:Int): -1000000000<=Zaz z/\Zaz z<=1000000000:=by unfold Zaz;split<;>(try split)<;>omega
theorem ZbW{vs ws:List Int}{p:Int×Int}(h:p∈Zj vs ws):(1<=p.2/\p.2<=1000)/\(-1000000000<=p.1/\p.1<=1000000000)/\∃z∈vs,p.1=Zaz z:=by unfold Zj at h;obtain⟨q,hq,rfl⟩:=List.mem_map.1 h;exact⟨ZkT _,ZkS _,q.1,(List.of_mem_zip hq).1,rfl⟩
theorem Yo.good{vs ws:List Int}{M:List (Int×Int)}(h:Yo (Zj vs ws) M)(hl:vs.length<=2097152):Zy (ZP 0 M):=by have hp:∀p∈Zj vs ws,1<=p.2:=fun p hp=>(ZbW hp).1.1;refine Zlt ?_ h.rise ?_ ?_;intro p hpM;obtain⟨q,hq,e⟩:=h.sub p hpM;rw[h.wt p hpM,<- e];exact Zoq hp q hq;intro p hpM;obtain⟨q,hq,e⟩:=h.sub p hpM;have:=(ZbW hq).2.1;omega;have h1:=ZkD hp h.rise;have h2:=Zex (fun p hp=>(ZbW hp).1.2:∀p∈Zj vs ws,p.2<=1000);rw[Zfw h.wt];have h3:(Zj vs ws).length<=2097152:=(by rw[ZaT];omega);omega
def e0:Zm:=⟨0,0,0,0⟩
def Zc(L:List Zm):Int:=if L.length=0 then 0 else(L.getD (L.length-1) e0).hi
def Yd(L:List Zm)(j:Nat):Int:=if j=0 then 0 else(L.getD (j-1) e0).lo+(L.getD (j-1) e0).wt
def Yt(L:List Zm)(j:Nat):Int:=if j=L.length then Zc L else(L.getD j e0).hi-(L.getD j e0).wt
def seen(o:List Zm)(j:Nat)(e:Zm):Zm:=⟨e.v,e.lo+Yd o j,e.hi+Yt o j,e.wt⟩
def Zac(e f:Zm):Zm:=⟨e.v,e.lo+f.lo,e.hi+f.hi,e.wt+f.wt⟩
def Yx(a b:List Zm):Nat->Nat->Nat->List Zm
 |0,_,_=>[]
 | n+1,i,j=>
  if i<a.length/\(j<b.length->(a.getD i e0).v<(b.getD j e0).v) then seen b j (a.getD i e0)::Yx a b n (i+1) j
  else if j<b.length/\(i<a.length->(b.getD j e0).v<(a.getD i e0).v) then seen a i (b.getD j e0)::Yx a b n i (j+1)
  else if i<a.length/\j<b.length then Zac (a.getD i e0) (b.getD j e0)::Yx a b n (i+1) (j+1)
  else[]
def Zv(a b:List Zm):List Zm:=Yx a b (a.length+b.length) 0 0
theorem Zbo(a b:List Zm):∀n m i j,a.length-i+(b.length-j)<=n->a.length-i+(b.length-j)<=m->Yx a b n i j=Yx a b m i j
 |0,0,_,_,_,_=>rfl
 |0,m+1,i,j,h,_=>by simp only[Yx];rw[if_neg (by omega),if_neg (by omega),if_neg (by omega)]
 |n+1,0,i,j,_,h=>by simp only[Yx];rw[if_neg (by omega),if_neg (by omega),if_neg (by omega)]
 |n+1,m+1,i,j,h,h'=>by simp only[Yx];split;rw[Zbo a b n m (i+1) j (by omega) (by omega)];split;rw[Zbo a b n m i (j+1) (by omega) (by omega)];split;rw[Zbo a b n m (i+1) (j+1) (by omega) (by omega)];rfl
def ZaV(a b:List Zm)(i j:Nat):List Zm:=Yx a b (a.length-i+(b.length-j)) i j
theorem ZjF(a b:List Zm):ZaV a b 0 0=Zv a b:=by unfold ZaV Zv;simp
theorem ZnP{a b:List Zm}{i j:Nat}(hi:i<a.length)(h:j<b.length->(a.getD i e0).v<(b.getD j e0).v):ZaV a b i j=seen b j (a.getD i e0)::ZaV a b (i+1) j:=by unfold ZaV;rw[show a.length-i+(b.length-j)=(a.length-(i+1)+(b.length-j))+1 by omega];simp only[Yx];rw[if_pos ⟨hi,h⟩]
theorem ZnQ{a b:List Zm}{i j:Nat}(hj:j<b.length)(h:i<a.length->(b.getD j e0).v<(a.getD i e0).v):ZaV a b i j=seen a i (b.getD j e0)::ZaV a b i (j+1):=by unfold ZaV;rw[show a.length-i+(b.length-j)=(a.length-i+(b.length-(j+1)))+1 by omega];simp only[Yx];rw[if_neg (fun hc=>by have h1:=hc.2 hj;have h2:=h hc.1;omega),if_pos ⟨hj,h⟩]
theorem ZmO{a b:List Zm}{i j:Nat}(hi:i<a.length)(hj:j<b.length)(h:(a.getD i e0).v=(b.getD j e0).v):ZaV a b i j=Zac (a.getD i e0) (b.getD j e0)::ZaV a b (i+1) (j+1):=by unfold ZaV;rw[show a.length-i+(b.length-j)=(a.length-(i+1)+(b.length-(j+1))+1)+1 by omega];simp only[Yx];rw[if_neg (fun hc=>by have h1:=hc.2 hj;omega),if_neg (fun hc=>by have h1:=hc.2 hi;omega),if_pos ⟨hi,hj⟩];congr 1;exact Zbo a b (a.length-(i+1)+(b.length-(j+1))+1) (a.length-(i+1)+(b.length-(j+1))) (i+1) (j+1) (by omega) (by omega)
theorem ZgB{a b:List Zm}{i j:Nat}(hi:¬i<a.length)(hj:¬j<b.length):ZaV a b i j=[]:=by unfold ZaV;rw[show a.length-i+(b.length-j)=0 by omega];rfl
theorem Zc1{L:List Zm}{i:Nat}(h:i<L.length):L.getD i e0∈L:=by simp[List.getD,h]
theorem Zy.at{L:List Zm}(g:Zy L){i:Nat}(h:i<L.length):0<=(L.getD i e0).lo/\1<=(L.getD i e0).wt/\(L.getD i e0).lo+(L.getD i e0).wt<=(L.getD i e0).hi/\(L.getD i e0).hi<=1000000000000/\ -1000000000<=(L.getD i e0).v/\(L.getD i e0).v<=1000000000:=g.each _ (Zc1 h)
theorem Zy.lt{L:List Zm}(g:Zy L){i j:Nat}(hij:i<j)(h:j<L.length):(L.getD i e0).v<(L.getD j e0).v/\(L.getD i e0).lo+(L.getD i e0).wt<=(L.getD j e0).lo/\(L.getD i e0).hi<=(L.getD j e0).hi-(L.getD j e0).wt:=by have:=List.pairwise_iff_getElem.1 g.step i j (by omega) h hij;have e1:L.getD i e0=L[i]'(by omega):=(by simp[List.getD,show i<L.length by omega]);have e2:L.getD j e0=L[j]:=(by simp[List.getD,h]);rw[e1,e2];exact this
theorem QU{L:List Zm}(g:Zy L){i:Nat}(h:i<L.length):(L.getD i e0).hi<=Yt L (i+1)/\Yt L i<=Yt L (i+1)/\Yt L i=(L.getD i e0).hi-(L.getD i e0).wt:=by
 have a:=g.at h;have e:Yt L i=(L.getD i e0).hi-(L.getD i e0).wt:=by unfold Yt;rw[if_neg (by omega)]
 have k:(L.getD i e0).hi<=Yt L (i+1):=(by unfold Yt;split;unfold Zc;rw[if_neg (by omega)];rw[show L.length-1=i by omega];exact Int.le_refl _;exact(g.lt (show i<i+1 by omega) (by omega)).2.2);exact⟨k,by omega,e⟩
theorem Zay{L:List Zm}(g:Zy L){i:Nat}(h:i<L.length):Yd L i<=(L.getD i e0).lo/\Yd L (i+1)=(L.getD i e0).lo+(L.getD i e0).wt:=by refine⟨?_,by unfold Yd;simp⟩;unfold Yd;split;exact(g.at h).1;exact(g.lt (show i-1<i by omega) h).2.1
theorem Zbi{L:List Zm}(g:Zy L){i:Nat}(h:i<L.length):(L.getD i e0).hi<=Zc L:=by
 unfold Zc;rw[if_neg (by omega)]
 by_cases e:i=L.length-1
 rw[e];exact Int.le_refl _;have h1:=(g.lt (show i<L.length-1 by omega) (by omega)).2.2;have h2:=g.at (show L.length-1<L.length by omega);omega
theorem Zhh{L:List Zm}(g:Zy L){j:Nat}(h:j<=L.length):Yt L j<=Zc L/\0<=Yd L j/\Yd L j<=Yt L j:=by
 by_cases e:j=L.length
 have hp:Yt L j=Zc L:=(by unfold Yt;rw[if_pos e]);rw[hp];refine⟨Int.le_refl _,?_,?_⟩;unfold Yd;split;omega;have:=g.at (show j-1<L.length by omega);omega;unfold Yd Zc;split;rw[if_pos (by omega)];omega;have:=g.at (show j-1<L.length by omega);rw[if_neg (by omega),<- e];omega;have hj:j<L.length:=(by omega);have h1:=QU g hj;have h2:=Zbi g hj;have h3:=g.at hj;have h4:=Zay g hj;refine⟨by omega,?_,?_⟩;unfold Yd;split;omega;have:=g.at (show j-1<L.length by omega);omega;unfold Yd;split;omega;have:=g.lt (show j-1<j by omega) hj;have:=g.at (show j-1<L.length by omega);omega
structure Zj2(a b:List Zm)(i j:Nat)(f:Zm):Prop where
 lo:Yd a i+Yd b j<=f.lo
 hi:Yt a i+Yt b j<=f.hi-f.wt
 top:f.hi<=Zc a+Zc b
 wt:1<=f.wt
 rng:f.lo+f.wt<=f.hi
 va:0<i->(a.getD (i-1) e0).v<f.v
 vb:0<j->(b.getD (j-1) e0).v<f.v
 from_:(∃e∈a,e.v=f.v)∨∃e∈b,e.v=f.v
theorem Zj2.back{a b:List Zm}(ga:Zy a)(gb:Zy b){i j i' j':Nat}{f:Zm}(h:Zj2 a b i' j' f)(hi:i<=i')(hj:j<=j')(hi2:i'<=i+1)(hj2:j'<=j+1)(hil:i'<=a.length)(hjl:j'<=b.length):Zj2 a b i j f:=by
 have ka:Yd a i<=Yd a i'/\Yt a i<=Yt a i'/\(0<i->(a.getD (i-1) e0).v<f.v):=by
  by_cases e:i'=i
  subst e;exact⟨Int.le_refl _,Int.le_refl _,h.va⟩;obtain rfl:i'=i+1:=(by omega);have h1:=Zay ga (show i<a.length by omega);have h2:=QU ga (show i<a.length by omega);have h3:=ga.at (show i<a.length by omega);refine⟨by omega,by omega,fun h0=>?_⟩;have h4:=(ga.lt (show i-1<i by omega) (by omega)).1;have h5:=h.va (by omega);simp only[Nat.add_sub_cancel] at h5;omega
 have kb:Yd b j<=Yd b j'/\Yt b j<=Yt b j'/\(0<j->(b.getD (j-1) e0).v<f.v):=by
  by_cases e:j'=j
  subst e;exact⟨Int.le_refl _,Int.le_refl _,h.vb⟩;obtain rfl:j'=j+1:=(by omega);have h1:=Zay gb (show j<b.length by omega);have h2:=QU gb (show j<b.length by omega);have h3:=gb.at (show j<b.length by omega);refine⟨by omega,by omega,fun h0=>?_⟩;have h4:=(gb.lt (show j-1<j by omega) (by omega)).1;have h5:=h.vb (by omega);simp only[Nat.add_sub_cancel] at h5;omega
 have h1:=h.lo;have h2:=h.hi;exact⟨by omega,by omega,h.top,h.wt,h.rng,ka.2.2,kb.2.2,h.from_⟩
def Zj6(e f:Zm):Prop:=e.v<f.v/\e.lo+e.wt<=f.lo/\e.hi<=f.hi-f.wt
theorem Q2{a b:List Zm}(ga:Zy a)(gb:Zy b):∀n i j,i<=a.length->j<=b.length->(i<a.length->0<j->(b.getD (j-1) e0).v<(a.getD i e0).v)->(j<b.length->0<i->(a.getD (i-1) e0).v<(b.getD j e0).v)->(∀f∈Yx a b n i j,Zj2 a b i j f)/\(Yx a b n i j).Pairwise Zj6
 |0,i,j,_,_,_,_=>by simp[Yx]
 | n + 1,i,j,hi,hj,hva,hvb=>by
  simp only[Yx];split
  ·rename_i h;have a1:=ga.at h.1;have a2:=Zay ga h.1;have a3:=QU ga h.1;have a4:=Zbi ga h.1;have b1:=Zhh gb hj;have ih:=Q2 ga gb n (i+1) j (by omega) hj (fun h1 h0=>by have:=hva h.1 h0;have:=(ga.lt (show i<i+1 by omega) h1).1;omega) (fun h1 _=>by simpa using h.2 h1);refine⟨fun f hf=>?_,?_⟩
   ·rcases List.mem_cons.1 hf with rfl|hf
    refine⟨?_,?_,?_,a1.2.1,?_,?_,fun h0=>hva h.1 h0,.inl ⟨_,Zc1 h.1,rfl⟩⟩;simp only[seen];omega;simp only[seen];omega;simp only[seen];omega;simp only[seen];omega;intro h0;exact(ga.lt (show i-1<i by omega) h.1).1;exact(ih.1 f hf).back ga gb (by omega) (by omega) (by omega) (by omega) (by omega) hj
   rw[List.pairwise_cons];refine⟨fun f hf=>?_,ih.2⟩;have c:=ih.1 f hf;have c1:=c.lo;have c2:=c.hi;have c3:=c.va (by omega);simp only[Nat.add_sub_cancel] at c3;unfold Zj6;simp only[seen];omega
  split
  ·rename_i _ h;have a1:=gb.at h.1;have a2:=Zay gb h.1;have a3:=QU gb h.1;have a4:=Zbi gb h.1;have b1:=Zhh ga hi;have ih:=Q2 ga gb n i (j+1) hi (by omega) (fun h1 _=>by simpa using h.2 h1) (fun h1 h0=>by have:=hvb h.1 h0;have:=(gb.lt (show j<j+1 by omega) h1).1;omega);refine⟨fun f hf=>?_,?_⟩
   ·rcases List.mem_cons.1 hf with rfl|hf
    refine⟨?_,?_,?_,a1.2.1,?_,fun h0=>hvb h.1 h0,?_,.inr ⟨_,Zc1 h.1,rfl⟩⟩;simp only[seen];omega;simp only[seen];omega;simp only[seen];omega;simp only[seen];omega;intro h0;exact(gb.lt (show j-1<j by omega) h.1).1;exact(ih.1 f hf).back ga gb (by omega) (by omega) (by omega) (by omega) hi (by omega)
   rw[List.pairwise_cons];refine⟨fun f hf=>?_,ih.2⟩;have c:=ih.1 f hf;have c1:=c.lo;have c2:=c.hi;have c3:=c.vb (by omega);simp only[Nat.add_sub_cancel] at c3;unfold Zj6;simp only[seen];omega
  split
  ·rename_i hA hB h;have he:(a.getD i e0).v=(b.getD j e0).v:=(by have h1:¬(a.getD i e0).v<(b.getD j e0).v:=fun hc=>hA ⟨h.1,fun _=>hc⟩;have h2:¬(b.getD j e0).v<(a.getD i e0).v:=fun hc=>hB ⟨h.2,fun _=>hc⟩;omega);have a1:=ga.at h.1;have a2:=Zay ga h.1;have a3:=QU ga h.1;have a4:=Zbi ga h.1;have b1:=gb.at h.2;have b2:=Zay gb h.2;have b3:=QU gb h.2;have b4:=Zbi gb h.2;have ih:=Q2 ga gb n (i+1) (j+1) (by omega) (by omega) (fun h1 _=>by have:=(ga.lt (show i<i+1 by omega) h1).1;simp only[Nat.add_sub_cancel];omega) (fun h1 _=>by have:=(gb.lt (show j<j+1 by omega) h1).1;simp only[Nat.add_sub_cancel];omega);refine⟨fun f hf=>?_,?_⟩
   ·rcases List.mem_cons.1 hf with rfl|hf
    refine⟨?_,?_,?_,?_,?_,?_,?_,.inl ⟨_,Zc1 h.1,rfl⟩⟩;simp only[Zac];omega;simp only[Zac];omega;simp only[Zac];omega;simp only[Zac];omega;simp only[Zac];omega;intro h0;exact(ga.lt (show i-1<i by omega) h.1).1;intro h0;have:=(gb.lt (show j-1<j by omega) h.2).1;simp only[Zac];omega;exact(ih.1 f hf).back ga gb (by omega) (by omega) (by omega) (by omega) (by omega) (by omega)
   rw[List.pairwise_cons];refine⟨fun f hf=>?_,ih.2⟩;have c:=ih.1 f hf;have c1:=c.lo;have c2:=c.hi;have c3:=c.va (by omega);simp only[Nat.add_sub_cancel] at c3;unfold Zj6;simp only[Zac];omega
  simp
theorem QT{a b:List Zm}(ga:Zy a)(gb:Zy b)(ht:Zc a+Zc b<=1000000000000):Zy (Zv a b):=by
 have h:=Q2 ga gb (a.length+b.length) 0 0 (by omega) (by omega) (fun _ h=>absurd h (by omega)) (fun _ h=>absurd h (by omega));refine⟨fun f hf=>?_,h.2⟩;have c:=h.1 f hf;have c1:=c.lo;have c4:=c.top;have c5:=c.wt;have c6:=c.rng;have:Yd a 0=0:=rfl;have:Yd b 0=0:=rfl
 rcases c.from_ with⟨e,he,ev⟩|⟨e,he,ev⟩
 have:=ga.each e he;omega;have:=gb.each e he;omega
theorem Ze4{a b:List Zm}(ga:Zy a)(gb:Zy b):∀f∈Zv a b,(∃e∈a,e.v=f.v)∨∃e∈b,e.v=f.v:=by have h:=Q2 ga gb (a.length+b.length) 0 0 (by omega) (by omega) (fun _ h=>absurd h (by omega)) (fun _ h=>absurd h (by omega));exact fun f hf=>(h.1 f hf).from_
def Zc9(L:List Zm)(i:Nat):Int:=(L.getD i e0).lo+(L.getD i e0).hi
def Zda(L:List Zm)(s:Nat)(k i:Nat):Bool:=decide ((Zc9 L i+Zc9 L (i+1))*((s:Int)-1)<4*(k:Int)*Zc L)
def Y9(C:Nat->Bool):Nat->Nat->Nat
 |0,i=>i
 |f+1,i=>if C i=true then Y9 C f (i+1) else i
theorem ZbN(C:Nat->Bool):∀f i,i<=Y9 C f i/\Y9 C f i<=i+f/\(∀j,i<=j->j<Y9 C f i->C j=true)/\(Y9 C f i=i+f∨C (Y9 C f i)=false)
 |0,i=>by simp[Y9];omega
 | f + 1,i=>by
  have ih:=ZbN C f (i+1);simp only[Y9]
  by_cases h:C i=true
  ·rw[if_pos h];refine⟨by omega,by omega,fun j h1 h2=>?_,?_⟩
   ·by_cases e:j=i
    rw[e];exact h;exact ih.2.2.1 j (by omega) h2
   rcases ih.2.2.2 with e|e
   left;omega;right;exact e
  rw[if_neg h];exact⟨Nat.le_refl _,by omega,fun j h1 h2=>by omega,.inr (by simpa using h)⟩
def QY(L:List Zm)(s k:Nat):Nat:=Y9 (Zda L s k) (L.length-3) 1
structure Zhu(L:List Zm)(s k r:Nat):Prop where
 pos:1<=r
 le:r+2<=L.length
 yes:∀i,1<=i->i<r->Zda L s k i=true
 no:r+2=L.length∨Zda L s k r=false
theorem QB (L:List Zm) (s k:Nat) (h:3<=L.length):Zhu L s k (QY L s k):=by
  have:=ZbN (Zda L s k) (L.length-3) 1;unfold QY
  exact ⟨this.1, by omega, this.2.2.1, by rcases this.2.2.2 with e|e; · left;omega
                                          right;exact e⟩
theorem Zhu.unique{L:List Zm}{s k r q:Nat}(hr:Zhu L s k r)(hq:Zhu L s k q):r=q:=by
 rcases Nat.lt_trichotomy r q with h|h|h
 ·have h1:=hq.yes r hr.pos h
  rcases hr.no with e|e
  have:=hq.le;omega;rw[h1] at e;cases e
 exact h;have h1:=hr.yes q hq.pos h
 rcases hq.no with e|e
 have:=hr.le;omega;rw[h1] at e;cases e
theorem YL{L:List Zm}(g:Zy L):0<=Zc L/\Zc L<=1000000000000:=by unfold Zc;split;omega;have:=g.at (show L.length-1<L.length by omega);omega
theorem Zgx{L:List Zm}(g:Zy L){s k i:Nat}(h:Zda L s k i=true):Zda L s (k+1) i=true:=by unfold Zda at *;have ht:=(YL g).1;rw[decide_eq_true_eq] at *;have:4*(k:Int)*Zc L<=4*((k+1:Nat):Int)*Zc L:=Int.mul_le_mul_of_nonneg_right (by omega) ht;omega
theorem ZkL{L:List Zm}(g:Zy L)(s k:Nat)(h:3<=L.length):QY L s k<=QY L s (k+1):=by
 have h1:=QB L s k h;have h2:=QB L s (k+1) h
 by_cases hc:QY L s k<=QY L s (k+1)
 exact hc;have h3:=Zgx g (h1.yes (QY L s (k+1)) h2.pos (by omega))
 rcases h2.no with e|e
 have:=h1.le;omega;rw[h3] at e;cases e
def ZaU(L:List Zm)(s k:Nat):Nat:=if k=0 then 0 else QY L s k
def Yz(L:List Zm)(s:Nat):Nat->List Zm
 |0=>[L.getD 0 e0]
 |k+1=>if QY L s (k+1)=ZaU L s k then Yz L s k else Yz L s k++[L.getD (QY L s (k+1)) e0]
def YE(L:List Zm)(size:Int):List Zm:=
 if(L.length:Int)<=max size 2 then L else Yz L (max size 2).toNat ((max size 2).toNat-2)++[L.getD (L.length-1) e0]
theorem Zbt(L:List Zm){r:Nat}(h:r<L.length):L.take (r+1)=L.take r++[L.getD r e0]:=by rw[List.take_succ_eq_append_getElem h];simp[List.getD,h]
theorem Zh2{L:List Zm}(g:Zy L)(s:Nat)(h:3<=L.length):∀k,(Yz L s k).Sublist (L.take (ZaU L s k+1))/\ZaU L s k+2<=L.length/\ZaU L s k<=QY L s (k+1)
 |0=>by have:=(QB L s 1 h).pos;refine⟨?_,by simp[ZaU];omega,by simp[ZaU]⟩;have e:=Zbt L (show 0<L.length by omega);simp only[ZaU,if_true,Yz];rw[e];simp
 |k+1=>by have ih:=Zh2 g s h k;have hb:=QB L s (k+1) h;have hp:ZaU L s (k+1)=QY L s (k+1):=(by simp[ZaU]);rw[hp];refine⟨?_,hb.le,ZkL g s (k+1) h⟩;simp only[Yz];split;rename_i e;rw[e];exact ih.1;rename_i e;rw[Zbt L (show QY L s (k+1)<L.length by have:=hb.le;omega)];refine List.Sublist.append ?_ (List.Sublist.refl _);refine ih.1.trans ?_;exact List.take_sublist_take_left (by omega)
theorem QZ{L:List Zm}(g:Zy L)(size:Int):(YE L size).Sublist L:=by
 unfold YE;split;exact List.Sublist.refl _;rename_i h;have h3:3<=L.length:=(by omega);have ks:=Zh2 g (max size 2).toNat h3 ((max size 2).toNat-2);have e:L=L.take (L.length-1+1):=by rw[List.take_of_length_le (by omega)]
 conv=>rhs;rw[e]
 rw[Zbt L (show L.length-1<L.length by omega)];refine List.Sublist.append (ks.1.trans ?_) (List.Sublist.refl _);exact List.take_sublist_take_left (by omega)
theorem Zmo{x whole rest parts tot:Int}(hp:0<parts)(hr:0<=rest)(hlt:rest<parts)(he:whole*parts+rest=tot):x<(if 0<rest then whole+1 else whole)↔x*parts<tot:=by constructor;intro h;split at h;have:x*parts<=whole*parts:=Int.mul_le_mul_of_nonneg_right (by omega) (by omega);omega;have:x*parts<whole*parts:=Int.mul_lt_mul_of_pos_right h hp;omega;intro h;split;have h2:x*parts<(whole+1)*parts:=(by rw[Int.add_mul];omega);exact Int.lt_of_mul_lt_mul_right h2 (by omega);have h2:x*parts<whole*parts:=(by omega);exact Int.lt_of_mul_lt_mul_right h2 (by omega)
theorem Zmp{L:List Zm}{U:List Int}(hp:L.Pairwise fun e f=>e.v<f.v/\e.lo+e.wt<=f.lo/\e.hi<=f.hi-f.wt)(hU:∀e∈L,e.v∈U):L.length<=U.length:=by
 induction L generalizing U with
 |nil=>simp
 | cons e L ih=>
  rw[List.pairwise_cons] at hp;have h1:e.v∈U:=hU e (by simp)
  have h2:=ih (U:=U.erase e.v) hp.2 (fun f hf=>by
   have hne:f.v≠e.v:=by have:=(hp.1 f hf).1;omega
   exact(List.mem_erase_of_ne hne).2 (hU f (by simp[hf])))
  rw[List.length_erase_of_mem h1] at h2;have:0<U.length:=List.length_pos_of_mem h1;simp;omega
theorem Zy.len{L:List Zm}(g:Zy L){U:List Int}(hU:∀e∈L,e.v∈U):L.length<=U.length:=Zmp g.step hU
def Zle:List (Int×Int)->Int->Int
  |[],_=>0
  |p::r,x=>(if p.1<x then p.2 else 0)+Zle r x
structure ZgL(ps:List (Int×Int))(L:List Zm):Prop where
 each:∀e∈L,e.lo<=Zle ps e.v/\Zle ps e.v+wOf ps e.v<=e.hi/\e.wt<=wOf ps e.v
 least:∀q∈ps,∃e∈L,e.v<=q.1
 most:∀q∈ps,∃e∈L,q.1<=e.v
 total:Zc L=ZX ps
theorem Zb8(a b:List Zm):∀n i j,a.length-i+(b.length-j)<=n->(∀k,i<=k->k<a.length->∃f∈Yx a b n i j,f.v=(a.getD k e0).v)/\(∀k,j<=k->k<b.length->∃f∈Yx a b n i j,f.v=(b.getD k e0).v)
 |0,i,j,h=>⟨fun k h1 h2=>by omega,fun k h1 h2=>by omega⟩
 | n + 1,i,j,h=>by
  simp only[Yx];split
  ·rename_i c;obtain⟨p,q⟩:=Zb8 a b n (i+1) j (by omega);refine⟨fun k h1 h2=>?_,fun k h1 h2=>?_⟩
   ·by_cases e:k=i
    subst e;exact⟨_,List.mem_cons_self,rfl⟩;obtain⟨f,hf,e⟩:=p k (by omega) h2;exact⟨f,by simp[hf],e⟩
   obtain⟨f,hf,e⟩:=q k h1 h2;exact⟨f,by simp[hf],e⟩
  rename_i c;split
  ·rename_i d;obtain⟨p,q⟩:=Zb8 a b n i (j+1) (by omega);refine⟨fun k h1 h2=>?_,fun k h1 h2=>?_⟩;obtain⟨f,hf,e⟩:=p k h1 h2;exact⟨f,by simp[hf],e⟩
   by_cases e:k=j
   subst e;exact⟨_,List.mem_cons_self,rfl⟩;obtain⟨f,hf,e⟩:=q k (by omega) h2;exact⟨f,by simp[hf],e⟩
  rename_i d;split
  ·rename_i m
   have hv:(a.getD i e0).v=(b.getD j e0).v:=by
    rcases Int.lt_trichotomy (a.getD i e0).v (b.getD j e0).v with h|h|h
    exact absurd ⟨m.1,fun _=>h⟩ c;exact h;exact absurd ⟨m.2,fun _=>h⟩ d
   obtain⟨p,q⟩:=Zb8 a b n (i+1) (j+1) (by omega);refine⟨fun k h1 h2=>?_,fun k h1 h2=>?_⟩
   ·by_cases e:k=i
    subst e;exact⟨_,List.mem_cons_self,rfl⟩;obtain⟨f,hf,e⟩:=p k (by omega) h2;exact⟨f,by simp[hf],e⟩
   by_cases e:k=j
   subst e;exact⟨_,List.mem_cons_self,hv⟩;obtain⟨f,hf,e⟩:=q k (by omega) h2;exact⟨f,by simp[hf],e⟩
  rename_i m;refine⟨fun k h1 h2=>?_,fun k h1 h2=>?_⟩
  ·exfalso;have hi:i<a.length:=by omega
   by_cases hj:j<b.length
   exact m ⟨hi,hj⟩;exact c ⟨hi,fun x=>absurd x hj⟩
  exfalso;have hj:j<b.length:=by omega
  by_cases hi:i<a.length
  exact m ⟨hi,hj⟩;exact d ⟨hj,fun x=>absurd x hi⟩
theorem ZfG(e f:Zm)(L:List Zm):Zc (e::f::L)=Zc (f::L):=by unfold Zc;simp[List.getD]
theorem ZgG(e:Zm):Zc [e]=e.hi:=by simp[Zc]
theorem ZdW(a b:List Zm):∀n i j,i<=a.length->j<=b.length->a.length-i+(b.length-j)<=n->(i<a.length∨j<b.length)->Zc (Yx a b n i j)=Zc a+Zc b
 |0,i,j,_,_,h,h'=>by omega
 | n + 1,i,j,hi,hj,h,h'=>by
  have step:∀(f:Zm) (i' j':Nat),i'<=a.length->j'<=b.length->a.length-i'+(b.length-j')<=n->(i'=a.length->j'=b.length->f.hi=Zc a+Zc b)->Zc (f::Yx a b n i' j')=Zc a+Zc b:=fun f i' j' q1 q2 q3 q4=>by
   by_cases e:i'<a.length∨j'<b.length
   ·have ih:=ZdW a b n i' j' q1 q2 q3 e
    cases hJ:Yx a b n i' j' with
    | nil=>
     exfalso;obtain⟨p,q⟩:=Zb8 a b n i' j' q3
     rcases e with e|e
     obtain⟨f,hf,_⟩:=p i' (Nat.le_refl _) e;rw[hJ] at hf;cases hf;obtain⟨f,hf,_⟩:=q j' (Nat.le_refl _) e;rw[hJ] at hf;cases hf
    | cons g R=>
     rw[hJ] at ih;rw[ZfG];exact ih
   have hnil:Yx a b n i' j'=[]:=by
    cases n with
    |zero=>rfl
    | succ n=>
     simp only[Yx];rw[if_neg (by omega),if_neg (by omega),if_neg (by omega)]
   rw[hnil,ZgG];exact q4 (by omega) (by omega)
  simp only[Yx];split;rename_i c;refine step _ _ _ (by omega) hj (by omega) (fun e1 e2=>?_);have:Zc a=(a.getD i e0).hi:=(by unfold Zc;rw[if_neg (by omega),show a.length-1=i by omega]);simp only[seen,Yt];rw[if_pos e2,this];rename_i c;split;rename_i d;refine step _ _ _ hi (by omega) (by omega) (fun e1 e2=>?_);have:Zc b=(b.getD j e0).hi:=(by unfold Zc;rw[if_neg (by omega),show b.length-1=j by omega]);simp only[seen,Yt];rw[if_pos e1,this];omega;rename_i d;split;rename_i m;refine step _ _ _ (by omega) (by omega) (by omega) (fun e1 e2=>?_);have t1:Zc a=(a.getD i e0).hi:=(by unfold Zc;rw[if_neg (by omega),show a.length-1=i by omega]);have t2:Zc b=(b.getD j e0).hi:=(by unfold Zc;rw[if_neg (by omega),show b.length-1=j by omega]);simp only[Zac];rw[t1,t2];rename_i m;exfalso
  rcases h' with e|e
  ·by_cases hj:j<b.length
   exact m ⟨e,hj⟩;exact c ⟨e,fun x=>absurd x hj⟩
  by_cases hi:i<a.length
  exact m ⟨hi,e⟩;exact d ⟨e,fun x=>absurd x hi⟩
theorem ZmB{L:List Zm}{e:Zm}(h:e∈L):∃k,k<L.length/\L.getD k e0=e:=by obtain⟨k,hk,rfl⟩:=List.getElem_of_mem h;exact⟨k,hk,by simp[List.getD,hk]⟩
theorem ZjV(A:List Zm)(e:Zm):Zc (A++[e])=e.hi:=by unfold Zc;rw[if_neg (by simp)];simp[List.getD]
theorem ZiD{M:List (Int×Int)}(hr:M.Pairwise fun p q=>p.1<q.1)(q:Int×Int)(r:List (Int×Int)):Zbu (q::r) M=Zbu r M+(if ∃p∈M,p.1=q.1 then q.2 else 0):=by
 induction M with
 |nil=>simp[Zbu]
 | cons p N ih=>
  rw[List.pairwise_cons] at hr;have:=ih hr.2;simp only[Zbu,wOf];rw[this]
  by_cases e:q.1=p.1
  rw[if_pos e];have h1:¬∃x∈N,x.1=q.1:=(by rintro⟨x,hx,hv⟩;have:=hr.1 x hx;omega);have h2:∃x∈p::N,x.1=q.1:=⟨p,by simp,e.symm⟩;rw[if_neg h1,if_pos h2];omega;rw[if_neg e]
  by_cases h1:∃x∈N,x.1=q.1
  have h2:∃x∈p::N,x.1=q.1:=(by obtain⟨x,hx,hv⟩:=h1;exact⟨x,by simp[hx],hv⟩);rw[if_pos h1,if_pos h2];omega
  have h2:¬∃x∈p::N,x.1=q.1:=by
   rintro⟨x,hx,hv⟩
   rcases List.mem_cons.1 hx with rfl|hx
   exact e hv.symm;exact h1 ⟨x,hx,hv⟩
  rw[if_neg h1,if_neg h2];omega
theorem ZkF{M:List (Int×Int)}(hr:M.Pairwise fun p q=>p.1<q.1)(x:Int):∀ps:List (Int×Int),(∀q∈ps,∃p∈M,p.1=q.1)->Zbu ps (M.filter fun p=>decide (p.1<x))=Zle ps x
 |[],_=>by simp[Zle,ZfF]
 | q::r,h=>by
  rw[ZiD (hr.sublist List.filter_sublist),ZkF hr x r (fun y hy=>h y (by simp[hy]))];simp only[Zle]
  by_cases c:q.1<x
  rw[if_pos c,if_pos ?_];omega;obtain⟨p,hp,e⟩:=h q (by simp);exact⟨p,by simp[hp];omega,e⟩;rw[if_neg c,if_neg ?_];omega;rintro⟨p,hp,e⟩;simp at hp;omega
theorem ZkE{M:List (Int×Int)}(hr:M.Pairwise fun p q=>p.1<q.1):∀ps:List (Int×Int),(∀q∈ps,∃p∈M,p.1=q.1)->Zbu ps M=ZX ps
 |[],_=>by simp[ZX,ZfF]
 |q::r,h=>by rw[ZiD hr,ZkE hr r (fun y hy=>h y (by simp[hy])),if_pos (h q (by simp))];simp only[ZX];omega
theorem Zit{x:Int}:∀(M:List (Int×Int)) (low:Int),M.Pairwise (fun p q=>p.1<q.1)->∀e∈ZP low M,e.lo=low+ZX (M.filter fun p=>decide (p.1<e.v))
 |[],_,_=>by simp[ZP]
 | p ::r,low,hr=>by
  rw[List.pairwise_cons] at hr;intro e he;simp only[ZP] at he
  rcases List.mem_cons.1 he with rfl|he
  ·have:(p::r).filter (fun q=>decide (q.1<p.1))=[]:=by
    rw[List.filter_eq_nil_iff];intro q hq
    rcases List.mem_cons.1 hq with rfl|hq
    simp;have:=hr.1 q hq;simp;omega
   show low=low+ZX ((p::r).filter fun q=>decide (q.1<p.1));rw[this];simp[ZX]
  have h1:=Zit (x:=x) r (low+p.2) hr.2 e he
  have h2:p.1<e.v:=by
   have:∀(N:List (Int×Int)) (l:Int) (e:Zm),e∈ZP l N->∃q∈N,q.1=e.v:=by
    intro N
    induction N with
    |nil=>intro l e he;simp[ZP] at he
    | cons q N ih=>
     intro l e he;simp only[ZP] at he
     rcases List.mem_cons.1 he with rfl|he
     exact⟨q,by simp,rfl⟩;obtain⟨y,hy,e'⟩:=ih _ e he;exact⟨y,by simp[hy],e'⟩
   obtain⟨q,hq,e'⟩:=this r _ e he;have:=hr.1 q hq;omega
  rw[h1,List.filter_cons_of_pos (by simpa using h2)];simp only[ZX];omega
theorem Zce:∀(M:List (Int×Int)) (low:Int),(∀e∈ZP low M,∃p∈M,p.1=e.v/\p.2=e.wt/\e.hi=e.lo+e.wt)/\(∀p∈M,∃e∈ZP low M,e.v=p.1)/\(M≠[]->Zc (ZP low M)=low+ZX M)
  |[],low=>by simp[ZP]
  | p ::r,low=>by
    obtain⟨h1,h2,h3⟩:=Zce r (low+p.2);refine⟨fun e he=>?_,fun q hq=>?_,fun _=>?_⟩
    · simp only[ZP] at he
      rcases List.mem_cons.1 he with rfl|he
      exact⟨p,by simp,rfl,rfl,rfl⟩;obtain⟨q,hq,k⟩:=h1 e he;exact⟨q,by simp[hq],k⟩
    · simp only[ZP]
      rcases List.mem_cons.1 hq with rfl|hq
      exact⟨_,List.mem_cons_self,rfl⟩;obtain⟨e,he,k⟩:=h2 q hq;exact⟨e,by simp[he],k⟩
    cases r with
    |nil=>simp[ZP,ZgG,ZX]
    | cons q r=>
      have:=h3 (by simp);simp only[ZP] at this ⊢;rw[ZfG,this];simp only[ZX];omega
theorem ZgL.of_sum{ps M:List (Int×Int)}(h:Yo ps M):ZgL ps (ZP 0 M):=by
 obtain⟨r1,r2,r3⟩:=Zce M 0;have hw:∀N:List (Int×Int),(∀p∈N,p∈M)->ZX N=Zbu ps N:=fun N hN=>Zfw (fun p hp=>h.wt p (hN p hp));refine⟨fun e he=>?_,fun q hq=>?_,fun q hq=>?_,?_⟩;obtain⟨p,hp,ev,ew,eh⟩:=r1 e he;have el:=Zit (x:=0) M 0 h.rise e he;rw[hw _ (fun p hp=>(List.mem_filter.1 hp).1),ZkF h.rise e.v ps h.all] at el;have:=h.wt p hp;rw[ev] at this;omega;obtain⟨p,hp,e⟩:=h.all q hq;obtain⟨f,hf,k⟩:=r2 p hp;exact⟨f,hf,by omega⟩;obtain⟨p,hp,e⟩:=h.all q hq;obtain⟨f,hf,k⟩:=r2 p hp;exact⟨f,hf,by omega⟩
 by_cases e:M=[]
 ·subst e
  have:ps=[]:=by
   cases ps with
   |nil=>rfl
   |cons q r=>obtain⟨p,hp,_⟩:=h.all q (by simp);cases hp
  subst this;rfl
 rw[r3 e,hw M (fun _ x=>x),ZkE h.rise ps h.all];omega
end Go.Proofs.YtfcgnpchbcmdeaaGreat
