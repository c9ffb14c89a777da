import Derived.Test.YtfcgnpchbcmdeaaGreatZfbh
import Derived.Sort.LotA
namespace Go.Proofs.YtfcgnpchbcmdeaaGreat
set_option linter.unusedSimpArgs false
open Go.RowKit Go.Sort
theorem Zl1(m:Nat)(Os:List (List Bool)):(ZbE m Os).Perm (List.range (m+1)):=by
 obtain⟨h1,_,h3⟩:=(insertionSort_holds (lt:=ltOf (ZcD (m:=m+1) Os)) (Zo4 Os) (Zbl m) 0 (m+1) (Qg _) (by simp[Zbl])).1;have e1:(insertionSort (ltOf (ZcD (m:=m+1) Os)) (Zbl m) 0 (m+1)).extract 0 (m+1)=insertionSort (ltOf (ZcD (m:=m+1) Os)) (Zbl m) 0 (m+1):=(by apply Array.extract_eq_self_of_le;rw[h1];simp[Zbl]);have e2:(Zbl m).extract 0 (m+1)=Zbl m:=(by apply Array.extract_eq_self_of_le;simp[Zbl]);rw[e1,e2] at h3;have h4:=h3.map (fun x=>x.val);unfold ZbE;refine h4.trans ?_
 have:(Zbl m).toList.map (fun x=>x.val)=List.range (m+1):=by
  apply List.ext_getElem?;intro i;unfold Zbl;rw[List.getElem?_map,Array.getElem?_toList,Array.getElem?_ofFn]
  by_cases h:i<m+1
  rw[dif_pos h,List.getElem?_range h];rfl;rw[dif_neg h,List.getElem?_eq_none (by simp;omega)];rfl
 rw[this]
def Zba(Gs:List GS):List Nat:=Gs.flatMap (fun G=>G.fs)
theorem Zea{α β:Type}(g:α->List β):∀(L:List α) (i:Nat) (y:α) (h:i<L.length) (t:List β),g y=g L[i]++t->((L.set i y).flatMap g).Perm (L.flatMap g++t)
 |[],i,y,h,t,e=>by simp at h
 |a::L,0,y,h,t,e=>by simp only[List.set_cons_zero,List.flatMap_cons];have e':g y=g a++t:=e;rw[e',List.append_assoc,List.append_assoc];exact List.Perm.append_left _ List.perm_append_comm
 |a::L,i+1,y,h,t,e=>by simp only[List.set_cons_succ,List.flatMap_cons,List.append_assoc];exact List.Perm.append_left _ (Zea g L i y (by simpa using h) t e)
theorem ZiB(Ks:List KS)(Os:List (List Bool))(n budget:Nat)(Gs:List GS)(f:Nat):(Zba (ZE Ks Os n budget Gs f)).Perm (Zba Gs++[f]):=by
 unfold ZE Zba;split
 ·rename_i h
  exact Zea (fun G:GS=>G.fs) Gs _ _ h [f] (by
   rw[Qc,Qd h]
   rfl)
 rw[List.flatMap_append];simp[Zbt,Zau]
theorem Zk3(Ks:List KS)(Os:List (List Bool))(n budget:Nat):∀(fs:List Nat) (Gs:List GS),(Zba (fs.foldl (ZE Ks Os n budget) Gs)).Perm (Zba Gs++fs)
 |[],Gs=>by simp
 |f::fs,Gs=>by simp only[List.foldl_cons];refine(Zk3 Ks Os n budget fs _).trans ?_;refine((ZiB Ks Os n budget Gs f).append_right fs).trans ?_;simp
theorem Zfn(m:Nat)(Ks:List KS)(Os:List (List Bool))(n budget:Nat):(Zba (Zat m Ks Os n budget)).Perm (List.range (m+1)):=by
 unfold Zat;refine(Zk3 Ks Os n budget _ _).trans ?_
 simpa [Zba] using Zl1 m Os
theorem ZjV(m:Nat)(Ks:List KS)(Os:List (List Bool))(n budget:Nat):(Zba (Zat m Ks Os n budget)).Nodup:=(Zfn m Ks Os n budget).nodup_iff.2 List.nodup_range
theorem ZiD(Ks:List KS)(Os:List (List Bool))(n budget:Nat)(Gs:List GS)(f:Nat)(h:∀G∈Gs,0<G.fs.length):∀G∈ZE Ks Os n budget Gs f,0<G.fs.length:=by
 intro G hG;unfold ZE at hG;split at hG
 ·rcases List.mem_or_eq_of_mem_set hG with hin|e
  exact h G hin;subst e;simp[Zbt]
 rcases List.mem_append.1 hG with hin|e
 exact h G hin;simp only[List.mem_cons,List.not_mem_nil,or_false] at e;subst e;simp[Zbt]
theorem Zk5(Ks:List KS)(Os:List (List Bool))(n budget:Nat):∀(fs:List Nat) (Gs:List GS),(∀G∈Gs,0<G.fs.length)->∀G∈fs.foldl (ZE Ks Os n budget) Gs,0<G.fs.length
 |[],_,h=>h
 |f::fs,Gs,h=>Zk5 Ks Os n budget fs _ (ZiD Ks Os n budget Gs f h)
theorem Zm6(m:Nat)(Ks:List KS)(Os:List (List Bool))(n budget:Nat):∀G∈Zat m Ks Os n budget,0<G.fs.length:=Zk5 Ks Os n budget _ _ (by simp)
def ZbL(L:List XS):Prop:=L.Pairwise (fun x y=>x.row≠y.row∨x.f≠y.f)
theorem Zdx(f:Nat)(O:List Bool)(B N:List Nat):∀k,∀x∈Y7 f O B N k,x.f=f/\x.row<k/\x.bin=B.getD x.row 0
 |0,x,h=>by simp[Y7] at h
 | k+1,x,h=>by
  rw[Y7,List.mem_append] at h
  rcases h with h|h
  have:=Zdx f O B N k x h;exact⟨this.1,by omega,this.2.2⟩;unfold Zmc at h;split at h;simp at h;subst h;exact⟨rfl,by simp,rfl⟩;simp at h
theorem ZgT(f:Nat)(O:List Bool)(B N:List Nat):∀k,ZbL (Y7 f O B N k)
 |0=>by simp[Y7,ZbL]
 |k+1=>by unfold ZbL;rw[Y7,List.pairwise_append];refine⟨ZgT f O B N k,by unfold Zmc;split<;>simp,fun x hx y hy=>?_⟩;have h1:=(Zdx f O B N k x hx).2.1;unfold Zmc at hy;split at hy;simp at hy;subst hy;left;simp;omega;simp at hy
theorem Zdg(Ks:List KS)(Os:List (List Bool))(Bb:List (List Nat))(n:Nat):∀(fs done:List Nat) (s:CS),ZbL s.xs->(∀x∈s.xs,x.f∈done)->(done++fs).Nodup->ZbL (fs.foldl (Zi Ks Os Bb n) s).xs/\∀x∈(fs.foldl (Zi Ks Os Bb n) s).xs,x.f∈done++fs
 |[],done,s,h1,h2,_=>⟨h1,by simpa using h2⟩
 | f::fs,done,s,h1,h2,h3=>by
  simp only[List.foldl_cons];have e:done++f::fs=(done++[f])++fs:=(by simp);rw[e] at h3 ⊢;refine Zdg Ks Os Bb n fs (done++[f]) _ ?_ ?_ h3;show ZbL (s.xs++Y7 f _ _ _ _);unfold ZbL;rw[List.pairwise_append];refine⟨h1,ZgT _ _ _ _ _,fun x hx y hy=>.inr ?_⟩;rw[(Zdx _ _ _ _ _ y hy).1];intro he;have hm:=h2 x hx;rw[he] at hm;have:=(List.nodup_append.1 (List.nodup_append.1 h3).1).2.2;exact this f hm f (by simp) rfl;intro x hx
  rcases List.mem_append.1 hx with hx|hx
  exact List.mem_append_left _ (h2 x hx);rw[(Zdx _ _ _ _ _ x hx).1];simp
theorem Zgs(Os:List (List Bool))(Bb:List (List Nat))(n:Nat):∀(Gs:List GS) (done:List Nat) (D:DSS),ZbL D.xs->(∀x∈D.xs,x.f∈done)->(done++Zba Gs).Nodup->ZbL (Gs.foldl (ZaE Os Bb n) D).xs
 |[],done,D,h1,_,_=>h1
 |G::Gs,done,D,h1,h2,h3=>by simp only[List.foldl_cons];have e:done++Zba (G::Gs)=(done++G.fs)++Zba Gs:=(by simp[Zba]);rw[e] at h3;obtain⟨a,b⟩:=Zdg D.ks Os Bb n G.fs done ⟨List.replicate n 0,D.xs,1⟩ h1 h2 (List.nodup_append.1 h3).1;exact Zgs Os Bb n Gs (done++G.fs) _ a b h3
theorem Zj1(m n budget:Nat)(es:List ES)(Bb:List (List Nat)):ZbL (Z2 m n budget es Bb).xs:=
 Zgs _ _ _ _ [] _ (by simp[ZbL]) (by simp) (by simpa using ZjV m _ _ n budget)
end Go.Proofs.YtfcgnpchbcmdeaaGreat
namespace Go.Proofs.YtfcgnpchbcmdeaaGreat
set_option linter.unusedSimpArgs false
open Go.RowKit
theorem Zon(off h:Nat)(O:List Bool)(B N:List Nat)(k:Nat)(hN:∀x∈N,x<off)(h0:0<off)(hB:∀r,B.getD r 0<h):∀x∈putN off O B N k,x<off+h:=by
 intro x hx;unfold putN at hx
 have hg:∀r,N.getD r 0<off:=fun r=>by
  rw[Qc]
  rcases Nat.lt_or_ge r N.length with h1|h1
  rw[Qd h1];exact hN _ (Qf h1);rw[List.getElem?_eq_none h1];exact h0
 rcases List.mem_append.1 hx with hx|hx
 obtain⟨r,_,rfl⟩:=List.mem_map.1 hx;unfold ZdB;split;have:=hB r;omega;have:=hg r;omega;have:=hN x (List.mem_of_mem_drop hx);omega
structure Zmy(n:Nat)(s:CS):Prop where
 len:s.N.length=n
 pos:0<s.off
 lt:∀x∈s.N,x<s.off
theorem ZeZ{Ks:List KS}{Os:List (List Bool)}{Bb:List (List Nat)}{n:Nat}:∀(fs:List Nat) (s:CS),(∀f∈fs,∀r,(Bb.getD f []).getD r 0<(Ks.getD f ZK).many)->Zmy n s->Zmy n (fs.foldl (Zi Ks Os Bb n) s)
 |[],s,_,h=>h
 |f::fs,s,hb,h=>by simp only[List.foldl_cons];refine ZeZ fs _ (fun g hg=>hb g (by simp[hg])) ⟨?_,?_,?_⟩;show(putN _ _ _ _ n).length=n;rw[ZfE _ _ _ _ (by rw[h.len];exact Qa _)];exact h.len;show 0<s.off+_;have:=h.pos;omega;exact Zon _ _ _ _ _ _ h.lt h.pos (hb f (by simp))
theorem ZkQ{Ks:List KS}{Os:List (List Bool)}{Bb:List (List Nat)}{n:Nat}{xs:List XS}{fs:List Nat}(hb:∀f∈fs,∀r,(Bb.getD f []).getD r 0<(Ks.getD f ZK).many):Zmy n (QQ Ks Os Bb n xs fs):=
 ZeZ fs _ hb ⟨by simp,by simp,by intro x hx;simp at hx;simp[hx.2]⟩
structure BOk(Ks:List KS)(n:Nat)(b:BS):Prop where
 len:b.N.length=n
 le:∀x∈b.N,x<=b.g
 sum:b.g=ZaM Ks b.fs
theorem Zg9{Os:List (List Bool)}{Bb:List (List Nat)}{n:Nat}{Ks:List KS}:∀(Gs:List GS) (D:DSS),D.ks=Ks->(∀G∈Gs,∀f∈G.fs,∀r,(Bb.getD f []).getD r 0<(Ks.getD f ZK).many)->(∀b∈D.bs,BOk Ks n b)->(∀b∈(Gs.foldl (ZaE Os Bb n) D).bs,BOk Ks n b)/\(Gs.foldl (ZaE Os Bb n) D).bs.map (fun b=>b.fs)=D.bs.map (fun b=>b.fs)++Gs.map (fun G=>G.fs)
 |[],D,_,_,h=>⟨h,by simp⟩
 | G ::Gs,D,hk,hb,h=>by
  simp only[List.foldl_cons]
  obtain⟨a,b⟩:=Zg9 (Os:=Os) Gs (ZaE Os Bb n D G) hk (fun g hg=>hb g (by simp[hg])) (fun b hb2=>by
   rcases List.mem_append.1 hb2 with h1|h1
   exact h b h1;simp only[List.mem_cons,List.not_mem_nil,or_false] at h1;subst h1;have hc:Zmy n (QQ D.ks Os Bb n D.xs G.fs):=ZkQ (by rw[hk];exact hb G (by simp));refine⟨hc.len,fun x hx=>?_,?_⟩;have:=hc.lt x hx;show x<=_-1;omega;show _-1=ZaM Ks G.fs
   rw[ZeY,hk];omega)
  refine⟨a,?_⟩;rw[b];simp[ZaE]
def ZX(D:DSS)(f:Nat):Nat:=D.bs.findIdx (fun b=>decide (f∈b.fs))
def ZdD(D:DSS)(f:Nat):Nat:=(D.bs.getD (ZX D f) ZH).fs.idxOf f
theorem Zor{D:DSS}{f:Nat}(hall:∃b∈D.bs,f∈b.fs)(hfl:∀b∈D.bs,b.fs.length<=100)(hfk:∀b∈D.bs,∀x∈b.fs,x<D.ks.length)(hmn:∀i,i<D.ks.length->(D.ks.getD i ZK).many<=100):ZbU D f (ZX D f) (ZdD D f):=by
 obtain⟨b,hb,hf⟩:=hall;have hlt:ZX D f<D.bs.length:=List.findIdx_lt_length_of_exists ⟨b,hb,by simpa using hf⟩
 have hg:∀i (h:i<D.bs.length),D.bs.getD i ZH=D.bs[i]:=fun i h=>by rw[Qc,Qd h];rfl
 have hin:f∈(D.bs.getD (ZX D f) ZH).fs:=(by rw[hg _ hlt];have:=List.findIdx_getElem (p:=fun b:BS=>decide (f∈b.fs)) (w:=hlt);exact of_decide_eq_true this);have hpl:ZdD D f<(D.bs.getD (ZX D f) ZH).fs.length:=List.idxOf_lt_length_of_mem hin;refine⟨hlt,hpl,?_,?_,?_,?_,hmn⟩;rw[Qc,Qd hpl];exact List.getElem_idxOf hpl
 ·intro i j hi hj hor
  rcases hor with h1|h1
  have h2:=List.not_of_lt_findIdx (p:=fun b:BS=>decide (f∈b.fs)) (xs:=D.bs) h1;intro e;refine absurd ?_ (of_decide_eq_false h2);rw[hg i (by omega)] at e hj;rw[Qc,Qd hj] at e;exact Eq.subst (motive:=fun z=>z∈_) e (Qf _)
  rcases Nat.lt_or_ge i (ZX D f) with h3|h3
  have h2:=List.not_of_lt_findIdx (p:=fun b:BS=>decide (f∈b.fs)) (xs:=D.bs) h3;intro e;refine absurd ?_ (of_decide_eq_false h2);rw[hg i (by omega)] at e hj;rw[Qc,Qd hj] at e;exact Eq.subst (motive:=fun z=>z∈_) e (Qf _);have e:i=ZX D f:=(by omega);subst e;intro e2;rw[Qc,Qd hj] at e2;have h4:=List.not_of_lt_findIdx (p:=(· ==f)) (xs:=(D.bs.getD (ZX D f) ZH).fs) (i:=j) h1;simp only[beq_eq_false_iff_ne] at h4;exact h4 e2
 intro i hi;rw[hg i (by omega)];exact hfl _ (Qf _);intro i j hi hj;rw[hg i (by omega)] at hj ⊢;rw[Qc,Qd hj];exact hfk _ (Qf _) _ (Qf _)
def XIn(Bb:List (List Nat))(n:Nat)(fs:List Nat)(x:XS):Prop:=x.row<n/\x.f∈fs/\x.bin=(Bb.getD x.f []).getD x.row 0
theorem Ze0(Ks:List KS)(Os:List (List Bool))(Bb:List (List Nat))(n:Nat):∀(fs done:List Nat) (s:CS),(∀x∈s.xs,XIn Bb n done x)->(fs.foldl (Zi Ks Os Bb n) s).xs.length<=s.xs.length+fs.length*n/\∀x∈(fs.foldl (Zi Ks Os Bb n) s).xs,XIn Bb n (done++fs) x
 |[],done,s,h=>⟨by simp,by simpa using h⟩
 | f ::fs,done,s,h=>by
  simp only[List.foldl_cons]
  obtain⟨a,b⟩:=Ze0 Ks Os Bb n fs (done++[f]) (Zi Ks Os Bb n s f) (fun x hx=>by
   rcases List.mem_append.1 hx with hx|hx
   obtain⟨h1,h2,h3⟩:=h x hx;exact⟨h1,List.mem_append_left _ h2,h3⟩;obtain⟨h1,h2,h3⟩:=Zdx _ _ _ _ _ x hx
   exact⟨h2,by rw[h1];simp,by rw[h1];exact h3⟩)
  refine⟨?_,by rw[show done++f::fs=(done++[f])++fs by simp];exact b⟩;have h1:(Zi Ks Os Bb n s f).xs.length<=s.xs.length+n:=(by show(s.xs++Y7 _ _ _ _ _).length<=_;rw[Qe];have:=Zdy f (Os.getD f []) (Bb.getD f []) s.N n;omega);rw[List.length_cons,Nat.succ_mul];omega
theorem ZkG(Os:List (List Bool))(Bb:List (List Nat))(n:Nat):∀(Gs:List GS) (done:List Nat) (D:DSS),(∀x∈D.xs,XIn Bb n done x)->(Gs.foldl (ZaE Os Bb n) D).xs.length<=D.xs.length+(Zba Gs).length*n/\∀x∈(Gs.foldl (ZaE Os Bb n) D).xs,XIn Bb n (done++Zba Gs) x
 |[],done,D,h=>⟨by simp,by simpa [Zba] using h⟩
 |G::Gs,done,D,h=>by simp only[List.foldl_cons];obtain⟨a,b⟩:=Ze0 D.ks Os Bb n G.fs done ⟨List.replicate n 0,D.xs,1⟩ h;obtain⟨c,d⟩:=ZkG Os Bb n Gs (done++G.fs) (ZaE Os Bb n D G) b;have e:Zba (G::Gs)=G.fs++Zba Gs:=rfl;refine⟨?_,by rw[e,<- List.append_assoc];exact d⟩;have h1:(ZaE Os Bb n D G).xs.length<=D.xs.length+G.fs.length*n:=a;rw[e,Qe,Nat.add_mul];omega
structure Zc7(n:Nat)(D:DSS):Prop where
 n2:n<=200
 k0:0<D.ks.length
 k4:D.ks.length<=4
 b0:0<D.bs.length
 b4:D.bs.length<=4
 bok:∀b∈D.bs,BOk D.ks n b
 g40:∀b∈D.bs,b.g<=40
 f0:∀b∈D.bs,0<b.fs.length
 f4:∀b∈D.bs,b.fs.length<=4
 fk:∀b∈D.bs,∀f∈b.fs,f<D.ks.length
 all:∀f,f<D.ks.length->∃b∈D.bs,f∈b.fs
 mn:∀i,i<D.ks.length->(D.ks.getD i ZK).many<=18
 dn:∀i,i<D.ks.length->(D.ks.getD i ZK).d<(D.ks.getD i ZK).many
 edg:∀i,i<D.ks.length->ZcI (D.ks.getD i ZK).e
 keys:ZbL D.xs
 xl:D.xs.length<=800
 xin:∀x∈D.xs,x.row<n/\x.f<D.ks.length/\x.bin<18
theorem Zfr{m n budget:Nat}{es:List ES}{Bb:List (List Nat)}(hm:m+1<=4)(hn:n<=200)(hk:Zd4 m n es Bb):Zc7 n (Z2 m n budget es Bb):=by
 have hks:(Z2 m n budget es Bb).ks=YN es Bb (m+1):=ZbV _ _ _ _ _;have hkl:(YN es Bb (m+1)).length=m+1:=YK es Bb (m+1)
 have hma:∀i,i<m+1->((YN es Bb (m+1)).getD i ZK).many=(es.getD i e0S).cnt+2:=fun i hi=>by rw[QT es Bb hi];rfl
 have hma18:∀i,i<m+1->((YN es Bb (m+1)).getD i ZK).many<=18:=fun i hi=>by rw[hma i hi];have:=hk.cn i hi;omega
 have hO:∀i,i<m+1->((QZ es Bb (m+1)).getD i []).length=n:=fun i hi=>by rw[Zdv es Bb hi];unfold oF ZbF;rw[List.length_map];exact hk.lb i hi
 have hbin:∀f,f<m+1->∀r,(Bb.getD f []).getD r 0<((YN es Bb (m+1)).getD f ZK).many:=fun f hf r=>by
  rw[hma f hf,Qc]
  rcases Nat.lt_or_ge r (Bb.getD f []).length with h1|h1
  rw[Qd h1];exact hk.bin f hf _ (Qf h1);rw[List.getElem?_eq_none h1];simp
 obtain⟨hfit,hgl⟩:=ZiA (budget:=budget) hO (fun i hi=>Nat.le_trans (hma18 i hi) (by decide));have hall:=Zfn m (YN es Bb (m+1)) (QZ es Bb (m+1)) n budget;have hpos:=Zm6 m (YN es Bb (m+1)) (QZ es Bb (m+1)) n budget;obtain⟨hbo,hbf⟩:=Zg9 (Os:=QZ es Bb (m+1)) (Bb:=Bb) (n:=n) (Ks:=YN es Bb (m+1)) (Zat m (YN es Bb (m+1)) (QZ es Bb (m+1)) n budget) ⟨YN es Bb (m+1),[],[]⟩ rfl (fun G hG f hf=>hbin f ((hfit G hG).fs f hf)) (by simp);obtain⟨hxl,hxi⟩:=ZkG (QZ es Bb (m+1)) Bb n (Zat m (YN es Bb (m+1)) (QZ es Bb (m+1)) n budget) [] ⟨YN es Bb (m+1),[],[]⟩ (by simp);have hbo':∀b∈(Z2 m n budget es Bb).bs,BOk (YN es Bb (m+1)) n b:=hbo
 have hbf':(Z2 m n budget es Bb).bs.map (fun b=>b.fs)=(Zat m (YN es Bb (m+1)) (QZ es Bb (m+1)) n budget).map (fun G=>G.fs):=(by rw[show(Z2 m n budget es Bb).bs=_ from rfl];exact hbf);have hxl':(Z2 m n budget es Bb).xs.length<=0+(Zba (Zat m (YN es Bb (m+1)) (QZ es Bb (m+1)) n budget)).length*n:=hxl;have hxi':∀x∈(Z2 m n budget es Bb).xs,XIn Bb n ([]++Zba (Zat m (YN es Bb (m+1)) (QZ es Bb (m+1)) n budget)) x:=hxi;have hkeys:=Zj1 m n budget es Bb;clear hbo hbf hxl hxi;generalize Z2 m n budget es Bb=D at *;generalize Zat m (YN es Bb (m+1)) (QZ es Bb (m+1)) n budget=Gs at *
 have hbl:D.bs.length=Gs.length:=by have:=congrArg List.length hbf';simpa using this
 have hGb:∀b∈D.bs,∃G∈Gs,G.fs=b.fs:=fun b hb=>by have:b.fs∈D.bs.map (fun b=>b.fs):=List.mem_map.2 ⟨b,hb,rfl⟩;rw[hbf'] at this;obtain⟨G,hG,e⟩:=List.mem_map.1 this;exact⟨G,hG,e⟩
 have hbG:∀G∈Gs,∃b∈D.bs,b.fs=G.fs:=fun G hG=>by have:G.fs∈Gs.map (fun G=>G.fs):=List.mem_map.2 ⟨G,hG,rfl⟩;rw[<- hbf'] at this;obtain⟨b,hb,e⟩:=List.mem_map.1 this;exact⟨b,hb,e⟩
 have hin:∀f,f<m+1->∃G∈Gs,f∈G.fs:=fun f hf=>by have:f∈Zba Gs:=hall.mem_iff.2 (List.mem_range.2 hf);exact List.mem_flatMap.1 this
 have hal:(Zba Gs).length=m+1:=(by rw[hall.length_eq,List.length_range]);constructor;exact hn;rw[hks,hkl];omega;rw[hks,hkl];exact hm;rw[hbl];obtain⟨G,hG,_⟩:=hin 0 (by omega);exact List.length_pos_of_mem hG;rw[hbl];omega;rw[hks];exact hbo';intro b hb;obtain⟨G,hG,e⟩:=hGb b hb;rw[(hbo' b hb).sum,<- e,<- (hfit G hG).sum];exact(hfit G hG).bins;intro b hb;obtain⟨G,hG,e⟩:=hGb b hb;rw[<- e];exact hpos G hG;intro b hb;obtain⟨G,hG,e⟩:=hGb b hb;rw[<- e];have:=(hfit G hG).len;omega;intro b hb f hf;obtain⟨G,hG,e⟩:=hGb b hb;rw[hks,hkl];exact(hfit G hG).fs f (by rw[e];exact hf);intro f hf;rw[hks,hkl] at hf;obtain⟨G,hG,hfG⟩:=hin f hf;obtain⟨b,hb,e⟩:=hbG G hG;exact⟨b,hb,by rw[e];exact hfG⟩;intro i hi;rw[hks] at hi ⊢;rw[hkl] at hi;exact hma18 i hi
 intro i hi;rw[hks] at hi ⊢;rw[hkl] at hi;rw[hma i hi,QT es Bb hi];show Zhl _ _<_;have:=ZiK (Bb.getD i []) (show 0<(es.getD i e0S).cnt+2 by omega);rw[ZkV] at this;omega;intro i hi;rw[hks] at hi ⊢;rw[hkl] at hi;rw[QT es Bb hi];exact hk.ok i hi;exact hkeys;rw[hal] at hxl';have:(m+1)*n<=4*200:=Nat.mul_le_mul hm hn;omega;intro x hx;obtain⟨h1,h2,h3⟩:=hxi' x hx;have hf:x.f<m+1:=List.mem_range.1 (hall.mem_iff.1 (by simpa using h2));refine⟨h1,by rw[hks,hkl];exact hf,?_⟩;rw[h3];exact Qh (hbin x.f hf x.row) (hma18 x.f hf)
theorem ZiX(off:Nat)(O:List Bool)(B N:List Nat){n r:Nat}(hr:r<n):(putN off O B N n).getD r 0=ZdB off O B N r:=by unfold putN;rw[Qc,List.getElem?_append_left (by simpa using hr)];simp[List.getElem?_range hr]
theorem ZiJ(f:Nat)(O:List Bool)(B N:List Nat):∀(k:Nat) (x:XS),x∈Y7 f O B N k↔x.f=f/\x.row<k/\O.getD x.row false=true/\N.getD x.row 0≠0/\x.bin=B.getD x.row 0
 |0,x=>by simp[Y7]
 | k+1,x=>by
  rw[Y7,List.mem_append,ZiJ f O B N k];obtain⟨xr,xf,xb⟩:=x;simp only[Zmc];constructor;rintro(⟨h1,h2,h3⟩|h);exact⟨h1,by omega,h3⟩;split at h;rename_i hc;simp only[List.mem_singleton,XS.mk.injEq] at h;obtain⟨rfl,rfl,rfl⟩:=h;exact⟨rfl,by omega,hc.1,hc.2,rfl⟩;simp at h;rintro⟨h1,h2,h3,h4,h5⟩
  rcases Nat.lt_or_ge xr k with h|h
  exact .inl ⟨h1,h,h3,h4,h5⟩;have e:xr=k:=(by omega);subst e;right;rw[if_pos ⟨h3,h4⟩];simp[h1,h5]
section
variable {Ks:List KS} {Os:List (List Bool)} {Bb:List (List Nat)} {n:Nat}
theorem Zgv:∀(fs:List Nat) (s:CS),0<s.off->∀r,r<n->(s.N.getD r 0≠0->(fs.foldl (Zi Ks Os Bb n) s).N.getD r 0=s.N.getD r 0)/\(s.N.getD r 0=0->(fs.foldl (Zi Ks Os Bb n) s).N.getD r 0=0∨s.off<=(fs.foldl (Zi Ks Os Bb n) s).N.getD r 0)
 |[],s,_,r,_=>⟨fun _=>rfl,fun h=>.inl h⟩
 | f::fs,s,h0,r,hr=>by
  simp only[List.foldl_cons];have hg:(Zi Ks Os Bb n s f).N.getD r 0=ZdB s.off (Os.getD f []) (Bb.getD f []) s.N r:=ZiX _ _ _ _ hr;have ho:(Zi Ks Os Bb n s f).off=s.off+(Ks.getD f ZK).many:=rfl;obtain⟨a,b⟩:=Zgv fs (Zi Ks Os Bb n s f) (by rw[ho];omega) r hr;constructor;intro h;have e:(Zi Ks Os Bb n s f).N.getD r 0=s.N.getD r 0:=(by rw[hg];unfold ZdB;rw[if_neg (fun hc=>h hc.2)]);rw[a (by rw[e];exact h),e];intro h
  by_cases hO:(Os.getD f []).getD r false=true
  have e:(Zi Ks Os Bb n s f).N.getD r 0=s.off+(Bb.getD f []).getD r 0:=(by rw[hg];unfold ZdB;rw[if_pos ⟨hO,h⟩]);right;rw[a (by rw[e];omega),e];omega;have e:(Zi Ks Os Bb n s f).N.getD r 0=0:=by rw[hg];unfold ZdB;rw[if_neg (fun hc=>hO hc.1)];exact h
  rcases b e with h1|h1
  exact .inl h1;right;rw[ho] at h1;omega
theorem ZmP:∀(fs:List Nat) (s t:CS),s.N=t.N->s.off=t.off->(fs.foldl (Zi Ks Os Bb n) s).N=(fs.foldl (Zi Ks Os Bb n) t).N/\(fs.foldl (Zi Ks Os Bb n) s).off=(fs.foldl (Zi Ks Os Bb n) t).off
 |[],_,_,h1,h2=>⟨h1,h2⟩
 |f::fs,s,t,h1,h2=>by simp only[List.foldl_cons];refine ZmP fs _ _ ?_ ?_;show putN _ _ _ _ _=putN _ _ _ _ _;rw[h1,h2];show s.off+_=t.off+_;rw[h2]
def Zdf(Ks:List KS)(Os:List (List Bool))(Bb:List (List Nat))(n:Nat)(fs:List Nat):List Nat:=(QQ Ks Os Bb n [] fs).N
theorem ZmO(xs:List XS)(fs:List Nat):(QQ Ks Os Bb n xs fs).N=Zdf Ks Os Bb n fs:=(ZmP fs ⟨List.replicate n 0,xs,1⟩ ⟨List.replicate n 0,[],1⟩ rfl rfl).1
theorem Zk7:∀(fs:List Nat) (s:CS) (x:XS),x∈(fs.foldl (Zi Ks Os Bb n) s).xs↔x∈s.xs∨∃A C,fs=A++x.f::C/\x.row<n/\(Os.getD x.f []).getD x.row false=true/\(A.foldl (Zi Ks Os Bb n) s).N.getD x.row 0≠0/\x.bin=(Bb.getD x.f []).getD x.row 0
 |[],s,x=>by simp
 | f ::fs,s,x=>by
  simp only[List.foldl_cons];rw[Zk7 fs (Zi Ks Os Bb n s f) x];have e:x∈(Zi Ks Os Bb n s f).xs↔x∈s.xs∨x∈Y7 f (Os.getD f []) (Bb.getD f []) s.N n:=List.mem_append;rw[e,ZiJ];constructor;rintro((h|⟨rfl,h⟩)|⟨A,C,rfl,h⟩);exact .inl h;exact .inr ⟨[],fs,rfl,h⟩;exact .inr ⟨f::A,C,rfl,h⟩;rintro(h|⟨A,C,h1,h⟩);exact .inl (.inl h)
  cases A with
  | nil=>
   simp only[List.nil_append,List.cons.injEq] at h1;obtain⟨rfl,rfl⟩:=h1;exact .inl (.inr ⟨rfl,h⟩)
  | cons g A=>
   simp only[List.cons_append,List.cons.injEq] at h1;obtain⟨rfl,rfl⟩:=h1;exact .inr ⟨A,C,rfl,h⟩
theorem ZiI:∀(Gs:List GS) (D:DSS) (x:XS),D.ks=Ks->(x∈(Gs.foldl (ZaE Os Bb n) D).xs↔x∈D.xs∨∃G∈Gs,∃A C,G.fs=A++x.f::C/\x.row<n/\(Os.getD x.f []).getD x.row false=true/\(Zdf Ks Os Bb n A).getD x.row 0≠0/\x.bin=(Bb.getD x.f []).getD x.row 0)
 |[],D,x,_=>by simp
 | G::Gs,D,x,hk=>by
  simp only[List.foldl_cons];rw[ZiI Gs (ZaE Os Bb n D G) x hk];have e:x∈(ZaE Os Bb n D G).xs↔x∈(G.fs.foldl (Zi Ks Os Bb n) ⟨List.replicate n 0,D.xs,1⟩).xs:=(by rw[<- hk];rfl);rw[e,Zk7];have eN:∀A,(A.foldl (Zi Ks Os Bb n) ⟨List.replicate n 0,D.xs,1⟩).N=Zdf Ks Os Bb n A:=fun A=>ZmO D.xs A;constructor;rintro((h|⟨A,C,h1,h2,h3,h4,h5⟩)|⟨G',hG,h⟩);exact .inl h;exact .inr ⟨G,by simp,A,C,h1,h2,h3,by rw[eN] at h4;exact h4,h5⟩;exact .inr ⟨G',by simp[hG],h⟩;rintro(h|⟨G',hG,A,C,h1,h2,h3,h4,h5⟩);exact .inl (.inl h)
  rcases List.mem_cons.1 hG with rfl|hG
  exact .inl (.inr ⟨A,C,h1,h2,h3,by rw[eN];exact h4,h5⟩);exact .inr ⟨G',hG,A,C,h1,h2,h3,h4,h5⟩
theorem ZmF:∀(Gs:List GS) (D:DSS),D.ks=Ks->(∀b∈D.bs,b.N=Zdf Ks Os Bb n b.fs)->∀b∈(Gs.foldl (ZaE Os Bb n) D).bs,b.N=Zdf Ks Os Bb n b.fs
 |[],_,_,h=>h
 | G::Gs,D,hk,h=>by
  simp only[List.foldl_cons];refine ZmF Gs (ZaE Os Bb n D G) hk (fun b hb=>?_)
  rcases List.mem_append.1 hb with h1|h1
  exact h b h1;simp only[List.mem_cons,List.not_mem_nil,or_false] at h1;subst h1;show(QQ D.ks Os Bb n D.xs G.fs).N=_;rw[hk];exact ZmO _ _
end
theorem Zc7.seat{n:Nat}{D:DSS}(h:Zc7 n D){f:Nat}(hf:f<D.ks.length):ZbU D f (ZX D f) (ZdD D f):=
 Zor (h.all f hf) (fun b hb=>Nat.le_trans (h.f4 b hb) (by decide)) h.fk (fun i hi=>Nat.le_trans (h.mn i hi) (by decide))
theorem Zm8{m n budget:Nat}{es:List ES}{Bb:List (List Nat)}(hm:m+1<=4)(hn:n<=200)(hk:Zd4 m n es Bb){X:List XS}(hX:X.Perm (Z2 m n budget es Bb).xs){f row:Nat}(hf:f<m+1)(hr:row<n):Zdp (Z2 m n budget es Bb) X f (ZX (Z2 m n budget es Bb) f) (ZdD (Z2 m n budget es Bb) f) row=(Bb.getD f []).getD row 0:=by
 have hd:=Zfr (budget:=budget) hm hn hk;have hks:(Z2 m n budget es Bb).ks=YN es Bb (m+1):=ZbV _ _ _ _ _;have hkl:(YN es Bb (m+1)).length=m+1:=YK es Bb (m+1);have hs:=hd.seat (f:=f) (by rw[hks,hkl];exact hf)
 have hbin:∀g,g<m+1->∀r,(Bb.getD g []).getD r 0<((YN es Bb (m+1)).getD g ZK).many:=fun g hg r=>by
  rw[QT es Bb hg];show _<(es.getD g e0S).cnt+2;rw[Qc]
  rcases Nat.lt_or_ge r (Bb.getD g []).length with h1|h1
  rw[Qd h1];exact hk.bin g hg _ (Qf h1);rw[List.getElem?_eq_none h1];simp
 have hmem:∀x,x∈(Z2 m n budget es Bb).xs↔_:=fun x=>ZiI (Ks:=YN es Bb (m+1)) (Os:=QZ es Bb (m+1)) (Bb:=Bb) (n:=n) (Zat m (YN es Bb (m+1)) (QZ es Bb (m+1)) n budget) ⟨YN es Bb (m+1),[],[]⟩ x rfl;have hN:∀b∈(Z2 m n budget es Bb).bs,b.N=Zdf (YN es Bb (m+1)) (QZ es Bb (m+1)) Bb n b.fs:=ZmF (Zat m (YN es Bb (m+1)) (QZ es Bb (m+1)) n budget) ⟨YN es Bb (m+1),[],[]⟩ rfl (by simp)
 have hbf:(Z2 m n budget es Bb).bs.map (fun b=>b.fs)=(Zat m (YN es Bb (m+1)) (QZ es Bb (m+1)) n budget).map (fun G=>G.fs):=by have h1:=(Zg9 (Os:=QZ es Bb (m+1)) (Bb:=Bb) (n:=n) (Ks:=YN es Bb (m+1)) (Zat m (YN es Bb (m+1)) (QZ es Bb (m+1)) n budget) ⟨YN es Bb (m+1),[],[]⟩ rfl (fun G hG g hg=>hbin g (List.mem_range.1 ((Zfn m (YN es Bb (m+1)) (QZ es Bb (m+1)) n budget).mem_iff.1 (List.mem_flatMap.2 ⟨G,hG,hg⟩)))) (by simp)).2;rw[show(Z2 m n budget es Bb).bs=_ from rfl];exact h1
 have hO:((QZ es Bb (m+1)).getD f []).getD row false=decide ((Bb.getD f []).getD row 0≠((YN es Bb (m+1)).getD f ZK).d):=(by rw[Zdv es Bb hf,QT es Bb hf];have hl:row<(Bb.getD f []).length:=(by rw[hk.lb f hf];exact hr);unfold oF ZbF;rw[Qc,List.getElem?_map,Qd hl,Qc (l:=Bb.getD f []),Qd hl];rfl);have hfk:=hd.fk;clear hd;generalize Z2 m n budget es Bb=D at *;generalize Zat m (YN es Bb (m+1)) (QZ es Bb (m+1)) n budget=Gs at *;rw[hks] at hfk;generalize ZX D f=bi at *;generalize ZdD D f=p at *;have hbm:D.bs.getD bi ZH∈D.bs:=(by rw[Qc,Qd hs.hb];exact Qf _);have hNb:=hN _ hbm
 have hsp:(D.bs.getD bi ZH).fs=(D.bs.getD bi ZH).fs.take p++f::(D.bs.getD bi ZH).fs.drop (p+1):=(by have h1:=hs.at_;rw[Qc (l:=(D.bs.getD bi ZH).fs),Qd hs.hp] at h1;simp only[Option.getD_some] at h1;have h2:=List.take_append_drop p (D.bs.getD bi ZH).fs;rw[List.drop_eq_getElem_cons hs.hp,h1] at h2;exact h2.symm);have hoff:QG D bi p=1+ZaM (YN es Bb (m+1)) ((D.bs.getD bi ZH).fs.take p):=(by unfold QG;rw[hks]);have hfsb:=hfk _ hbm;rw[hkl] at hfsb;have hG:∃G∈Gs,G.fs=(D.bs.getD bi ZH).fs:=by have:(D.bs.getD bi ZH).fs∈D.bs.map (fun b=>b.fs):=List.mem_map.2 ⟨_,hbm,rfl⟩;rw[hbf] at this;obtain⟨G,hG,e⟩:=List.mem_map.1 this;exact⟨G,hG,e⟩
 unfold Zdp;rw[hNb,hoff,hks];generalize (D.bs.getD bi ZH).fs=fs at *;generalize fs.take p=A at *;generalize fs.drop (p+1)=C at *;subst hsp;have hcol:Zmy n (QQ (YN es Bb (m+1)) (QZ es Bb (m+1)) Bb n [] A):=ZkQ (fun g hg=>hbin g (hfsb g (List.mem_append_left _ hg)));have hcoff:=ZeY (YN es Bb (m+1)) (QZ es Bb (m+1)) Bb n [] A;have hlt:(Zdf (YN es Bb (m+1)) (QZ es Bb (m+1)) Bb n A).getD row 0<1+ZaM (YN es Bb (m+1)) A:=by rw[<- hcoff,Qc];have hl:row<(Zdf (YN es Bb (m+1)) (QZ es Bb (m+1)) Bb n A).length:=(by unfold Zdf;rw[hcol.len];exact hr);rw[Qd hl];exact hcol.lt _ (Qf _)
 have hfin:Zdf (YN es Bb (m+1)) (QZ es Bb (m+1)) Bb n (A++f::C)=(C.foldl (Zi (YN es Bb (m+1)) (QZ es Bb (m+1)) Bb n) (Zi (YN es Bb (m+1)) (QZ es Bb (m+1)) Bb n (QQ (YN es Bb (m+1)) (QZ es Bb (m+1)) Bb n [] A) f)).N:=(by unfold Zdf QQ;rw[List.foldl_append,List.foldl_cons]);have hso:(Zi (YN es Bb (m+1)) (QZ es Bb (m+1)) Bb n (QQ (YN es Bb (m+1)) (QZ es Bb (m+1)) Bb n [] A) f).off=1+ZaM (YN es Bb (m+1)) A+((YN es Bb (m+1)).getD f ZK).many:=by show(QQ _ _ _ _ _ _).off+_=_;rw[hcoff]
 have hsn:(Zi (YN es Bb (m+1)) (QZ es Bb (m+1)) Bb n (QQ (YN es Bb (m+1)) (QZ es Bb (m+1)) Bb n [] A) f).N.getD row 0=ZdB (1+ZaM (YN es Bb (m+1)) A) ((QZ es Bb (m+1)).getD f []) (Bb.getD f []) (Zdf (YN es Bb (m+1)) (QZ es Bb (m+1)) Bb n A) row:=(by rw[<- hcoff];exact ZiX _ _ _ _ hr);obtain⟨la,lb⟩:=Zgv (Ks:=YN es Bb (m+1)) (Os:=QZ es Bb (m+1)) (Bb:=Bb) (n:=n) C _ (by rw[hso];omega) row hr;rw[<- hfin,hso,hsn] at lb;rw[<- hfin,hsn] at la;have hbf2:=hbin f hf row
 have hxin:∀x∈X,atX row f x->(((QZ es Bb (m+1)).getD f []).getD row false=true/\x.bin=(Bb.getD f []).getD row 0):=fun x hx ha=>by
  rcases(hmem x).1 (hX.subset hx) with h1|⟨G,_,A',C',_,_,h3,_,h5⟩
  simp at h1;rw[ha.1,ha.2] at h3 h5;exact⟨h3,h5⟩
 generalize (Zdf (YN es Bb (m+1)) (QZ es Bb (m+1)) Bb n (A++f::C)).getD row 0=x at *;generalize hna:(Zdf (YN es Bb (m+1)) (QZ es Bb (m+1)) Bb n A).getD row 0=na at *;unfold ZdB at la lb;rw[hna] at la lb;generalize 1+ZaM (YN es Bb (m+1)) A=off at *
 by_cases hOt:((QZ es Bb (m+1)).getD f []).getD row false=true
 ·by_cases hz:na=0
  rw[if_pos ⟨hOt,hz⟩] at la lb;have hx:x=off+(Bb.getD f []).getD row 0:=la (by omega);rw[if_pos (by omega)];omega;rw[if_neg (fun hc=>hz hc.2)] at la lb;have hx:x=na:=la hz;rw[if_neg (by omega)];obtain⟨G,hGm,hGf⟩:=hG;have hex:(⟨row,f,(Bb.getD f []).getD row 0⟩:XS)∈D.xs:=(hmem _).2 (.inr ⟨G,hGm,A,C,hGf,hr,hOt,by rw[hna];exact hz,rfl⟩);have hexX:=hX.symm.subset hex;unfold xbF
  cases hfd:X.find? (fun y=>decide (atX row f y)) with
  | none=>
   rw[List.find?_eq_none] at hfd;exact absurd (decide_eq_true (show atX row f ⟨row,f,(Bb.getD f []).getD row 0⟩ from⟨rfl,rfl⟩)) (hfd _ hexX)
  | some y=>
   have h1:=List.find?_some hfd;exact(hxin y (List.mem_of_find?_eq_some hfd) (of_decide_eq_true h1)).2
 rw[if_neg (fun hc=>hOt hc.1)] at la lb
 have hnin:¬(off<=x/\x<off+((YN es Bb (m+1)).getD f ZK).many):=by
  intro hc
  by_cases hz:na=0
  ·rcases lb hz with h1|h1<;>omega
  have:=la hz;omega
 rw[if_neg hnin]
 have hdef:(Bb.getD f []).getD row 0=((YN es Bb (m+1)).getD f ZK).d:=by
  rw[hO] at hOt
  simpa using hOt
 unfold xbF
 cases hfd:X.find? (fun y=>decide (atX row f y)) with
 |none=>exact hdef.symm
 | some y=>
  have h1:=List.find?_some hfd;exact absurd (hxin y (List.mem_of_find?_eq_some hfd) (of_decide_eq_true h1)).1 hOt
end Go.Proofs.YtfcgnpchbcmdeaaGreat
