import Derived.Test.YtfcgnpchbcmdeaaGreatZpbh
import Derived.Sort.LotA
namespace Go.Proofs.YtfcgnpchbcmdeaaGreat
set_option linter.unusedSimpArgs false
open Go.RowKit Go.Sort
theorem Zlm(m:Nat)(Os:List (List Bool)):(Zbq m Os).Perm (List.range (m+1)):=by
 obtain⟨h1,_,h3⟩:=(insertionSort_holds (lt:=ltOf (Zcj (m:=m+1) Os)) (Zon Os) (Zbe m) 0 (m+1) (Qg _) (by simp[Zbe])).1;have e1:(insertionSort (ltOf (Zcj (m:=m+1) Os)) (Zbe m) 0 (m+1)).extract 0 (m+1)=insertionSort (ltOf (Zcj (m:=m+1) Os)) (Zbe m) 0 (m+1):=(by apply Array.extract_eq_self_of_le;rw[h1];simp[Zbe]);have e2:(Zbe m).extract 0 (m+1)=Zbe m:=(by apply Array.extract_eq_self_of_le;simp[Zbe]);rw[e1,e2] at h3;have h4:=h3.map (fun x=>x.val);unfold Zbq;refine h4.trans ?_
 have:(Zbe m).toList.map (fun x=>x.val)=List.range (m+1):=by
  apply List.ext_getElem?;intro i;unfold Zbe;rw[List.getElem?_map,Array.getElem?_toList,Array.getElem?_ofFn]
  by_cases h:i<m+1
  rw[dif_pos h,List.getElem?_range h];rfl;rw[dif_neg h,List.getElem?_eq_none (by simp;omega)];rfl
 rw[this]
def Za2(Gs:List GS):List Nat:=Gs.flatMap (fun G=>G.fs)
theorem ZdS{α β:Type}(g:α->List β):∀(L:List α) (i:Nat) (y:α) (h:i<L.length) (t:List β),g y=g L[i]++t->((L.set i y).flatMap g).Perm (L.flatMap g++t)
 |[],i,y,h,t,e=>by simp at h
 |a::L,0,y,h,t,e=>by simp only[List.set_cons_zero,List.flatMap_cons];have e':g y=g a++t:=e;rw[e',List.append_assoc,List.append_assoc];exact List.Perm.append_left _ List.perm_append_comm
 |a::L,i+1,y,h,t,e=>by simp only[List.set_cons_succ,List.flatMap_cons,List.append_assoc];exact List.Perm.append_left _ (ZdS g L i y (by simpa using h) t e)
theorem Zh4(Ks:List KS)(Os:List (List Bool))(n budget:Nat)(Gs:List GS)(f:Nat):(Za2 (ZD Ks Os n budget Gs f)).Perm (Za2 Gs++[f]):=by
 unfold ZD Za2;split
 ·rename_i h
  exact ZdS (fun G:GS=>G.fs) Gs _ _ h [f] (by
   rw[Qc,Qd h]
   rfl)
 rw[List.flatMap_append];simp[Zbj,Zal]
theorem Zks(Ks:List KS)(Os:List (List Bool))(n budget:Nat):∀(fs:List Nat) (Gs:List GS),(Za2 (fs.foldl (ZD Ks Os n budget) Gs)).Perm (Za2 Gs++fs)
 |[],Gs=>by simp
 |f::fs,Gs=>by simp only[List.foldl_cons];refine(Zks Ks Os n budget fs _).trans ?_;refine((Zh4 Ks Os n budget Gs f).append_right fs).trans ?_;simp
theorem Zfb(m:Nat)(Ks:List KS)(Os:List (List Bool))(n budget:Nat):(Za2 (Zak m Ks Os n budget)).Perm (List.range (m+1)):=by
 unfold Zak;refine(Zks Ks Os n budget _ _).trans ?_
 simpa [Za2] using Zlm m Os
theorem Zjm(m:Nat)(Ks:List KS)(Os:List (List Bool))(n budget:Nat):(Za2 (Zak m Ks Os n budget)).Nodup:=(Zfb m Ks Os n budget).nodup_iff.2 List.nodup_range
theorem Zh6(Ks:List KS)(Os:List (List Bool))(n budget:Nat)(Gs:List GS)(f:Nat)(h:∀G∈Gs,0<G.fs.length):∀G∈ZD Ks Os n budget Gs f,0<G.fs.length:=by
 intro G hG;unfold ZD at hG;split at hG
 ·rcases List.mem_or_eq_of_mem_set hG with hin|e
  exact h G hin;subst e;simp[Zbj]
 rcases List.mem_append.1 hG with hin|e
 exact h G hin;simp only[List.mem_cons,List.not_mem_nil,or_false] at e;subst e;simp[Zbj]
theorem Zku(Ks:List KS)(Os:List (List Bool))(n budget:Nat):∀(fs:List Nat) (Gs:List GS),(∀G∈Gs,0<G.fs.length)->∀G∈fs.foldl (ZD Ks Os n budget) Gs,0<G.fs.length
 |[],_,h=>h
 |f::fs,Gs,h=>Zku Ks Os n budget fs _ (Zh6 Ks Os n budget Gs f h)
theorem Zmu(m:Nat)(Ks:List KS)(Os:List (List Bool))(n budget:Nat):∀G∈Zak m Ks Os n budget,0<G.fs.length:=Zku Ks Os n budget _ _ (by simp)
def Za9(L:List XS):Prop:=L.Pairwise (fun x y=>x.row≠y.row∨x.f≠y.f)
theorem Zde(f:Nat)(O:List Bool)(B N:List Nat):∀k,∀x∈Y5 f O B N k,x.f=f/\x.row<k/\x.bin=B.getD x.row 0
 |0,x,h=>by simp[Y5] at h
 | k+1,x,h=>by
  rw[Y5,List.mem_append] at h
  rcases h with h|h
  have:=Zde f O B N k x h;exact⟨this.1,by omega,this.2.2⟩;unfold Zlx at h;split at h;simp at h;subst h;exact⟨rfl,by simp,rfl⟩;simp at h
theorem Zgy(f:Nat)(O:List Bool)(B N:List Nat):∀k,Za9 (Y5 f O B N k)
 |0=>by simp[Y5,Za9]
 |k+1=>by unfold Za9;rw[Y5,List.pairwise_append];refine⟨Zgy f O B N k,by unfold Zlx;split<;>simp,fun x hx y hy=>?_⟩;have h1:=(Zde f O B N k x hx).2.1;unfold Zlx at hy;split at hy;simp at hy;subst hy;left;simp;omega;simp at hy
theorem ZcY(Ks:List KS)(Os:List (List Bool))(Bb:List (List Nat))(n:Nat):∀(fs done:List Nat) (s:CS),Za9 s.xs->(∀x∈s.xs,x.f∈done)->(done++fs).Nodup->Za9 (fs.foldl (Zi Ks Os Bb n) s).xs/\∀x∈(fs.foldl (Zi Ks Os Bb n) s).xs,x.f∈done++fs
 |[],done,s,h1,h2,_=>⟨h1,by simpa using h2⟩
 | f::fs,done,s,h1,h2,h3=>by
  simp only[List.foldl_cons];have e:done++f::fs=(done++[f])++fs:=(by simp);rw[e] at h3 ⊢;refine ZcY Ks Os Bb n fs (done++[f]) _ ?_ ?_ h3;show Za9 (s.xs++Y5 f _ _ _ _);unfold Za9;rw[List.pairwise_append];refine⟨h1,Zgy _ _ _ _ _,fun x hx y hy=>.inr ?_⟩;rw[(Zde _ _ _ _ _ y hy).1];intro he;have hm:=h2 x hx;rw[he] at hm;have:=(List.nodup_append.1 (List.nodup_append.1 h3).1).2.2;exact this f hm f (by simp) rfl;intro x hx
  rcases List.mem_append.1 hx with hx|hx
  exact List.mem_append_left _ (h2 x hx);rw[(Zde _ _ _ _ _ x hx).1];simp
theorem Zge(Os:List (List Bool))(Bb:List (List Nat))(n:Nat):∀(Gs:List GS) (done:List Nat) (D:QX),Za9 D.xs->(∀x∈D.xs,x.f∈done)->(done++Za2 Gs).Nodup->Za9 (Gs.foldl (Zaw Os Bb n) D).xs
 |[],done,D,h1,_,_=>h1
 |G::Gs,done,D,h1,h2,h3=>by simp only[List.foldl_cons];have e:done++Za2 (G::Gs)=(done++G.fs)++Za2 Gs:=(by simp[Za2]);rw[e] at h3;obtain⟨a,b⟩:=ZcY D.ks Os Bb n G.fs done ⟨List.replicate n 0,D.xs,1⟩ h1 h2 (List.nodup_append.1 h3).1;exact Zge Os Bb n Gs (done++G.fs) _ a b h3
theorem Zjq(m n budget:Nat)(es:List ES)(Bb:List (List Nat)):Za9 (ZJ m n budget es Bb).xs:=
 Zge _ _ _ _ [] _ (by simp[Za9]) (by simp) (by simpa using Zjm m _ _ n budget)
theorem ZjM{L X Y:List XS}(hk:Za9 L)(h1:X.Perm L)(h2:Zaj X)(h3:Y.Perm L)(h4:Zaj Y):X=Y:=by
 refine List.Perm.eq_of_pairwise (le:=fun x y:XS=>x.row<y.row∨x.row=y.row/\x.f<=y.f) (fun a b ha hb hab hba=>?_) h2 h4 (h1.trans h3.symm);have ka:a∈L:=h1.subset ha;have kb:b∈L:=h3.subset hb;obtain⟨i,hi,rfl⟩:=List.getElem_of_mem ka;obtain⟨j,hj,rfl⟩:=List.getElem_of_mem kb
 rcases Nat.lt_trichotomy i j with h|h|h
 have:=List.pairwise_iff_getElem.1 hk i j hi hj h;omega;subst h;rfl;have:=List.pairwise_iff_getElem.1 hk j i hj hi h;omega
end Go.Proofs.YtfcgnpchbcmdeaaGreat
namespace Go.Proofs.YtfcgnpchbcmdeaaGreat
set_option linter.unusedSimpArgs false
open Go.RowKit
theorem ZnN(off h:Nat)(O:List Bool)(B N:List Nat)(k:Nat)(hN:∀x∈N,x<off)(h0:0<off)(hB:∀r,B.getD r 0<h):∀x∈putN off O B N k,x<off+h:=by
 intro x hx;unfold putN at hx
 have hg:∀r,N.getD r 0<off:=fun r=>by
  rw[Qc]
  rcases Nat.lt_or_ge r N.length with h1|h1
  rw[Qd h1];exact hN _ (Qf h1);rw[List.getElem?_eq_none h1];exact h0
 rcases List.mem_append.1 hx with hx|hx
 obtain⟨r,_,rfl⟩:=List.mem_map.1 hx;unfold Zdi;split;have:=hB r;omega;have:=hg r;omega;have:=hN x (List.mem_of_mem_drop hx);omega
structure ZlV(n:Nat)(s:CS):Prop where
 len:s.N.length=n
 pos:0<s.off
 lt:∀x∈s.N,x<s.off
theorem ZeK{Ks:List KS}{Os:List (List Bool)}{Bb:List (List Nat)}{n:Nat}:∀(fs:List Nat) (s:CS),(∀f∈fs,∀r,(Bb.getD f []).getD r 0<(Ks.getD f ZN).many)->ZlV n s->ZlV n (fs.foldl (Zi Ks Os Bb n) s)
 |[],s,_,h=>h
 |f::fs,s,hb,h=>by simp only[List.foldl_cons];refine ZeK fs _ (fun g hg=>hb g (by simp[hg])) ⟨?_,?_,?_⟩;show(putN _ _ _ _ n).length=n;rw[Zfn _ _ _ _ (by rw[h.len];exact Qa _)];exact h.len;show 0<s.off+_;have:=h.pos;omega;exact ZnN _ _ _ _ _ _ h.lt h.pos (hb f (by simp))
theorem Zki{Ks:List KS}{Os:List (List Bool)}{Bb:List (List Nat)}{n:Nat}{xs:List XS}{fs:List Nat}(hb:∀f∈fs,∀r,(Bb.getD f []).getD r 0<(Ks.getD f ZN).many):ZlV n (QF Ks Os Bb n xs fs):=
 ZeK fs _ hb ⟨by simp,by simp,by intro x hx;simp at hx;simp[hx.2]⟩
structure BOk(Ks:List KS)(n:Nat)(b:BS):Prop where
 len:b.N.length=n
 le:∀x∈b.N,x<=b.g
 sum:b.g=ZaG Ks b.fs
theorem ZgM{Os:List (List Bool)}{Bb:List (List Nat)}{n:Nat}{Ks:List KS}:∀(Gs:List GS) (D:QX),D.ks=Ks->(∀G∈Gs,∀f∈G.fs,∀r,(Bb.getD f []).getD r 0<(Ks.getD f ZN).many)->(∀b∈D.bs,BOk Ks n b)->(∀b∈(Gs.foldl (Zaw Os Bb n) D).bs,BOk Ks n b)/\(Gs.foldl (Zaw Os Bb n) D).bs.map (fun b=>b.fs)=D.bs.map (fun b=>b.fs)++Gs.map (fun G=>G.fs)
 |[],D,_,_,h=>⟨h,by simp⟩
 | G ::Gs,D,hk,hb,h=>by
  simp only[List.foldl_cons]
  obtain⟨a,b⟩:=ZgM (Os:=Os) Gs (Zaw Os Bb n D G) hk (fun g hg=>hb g (by simp[hg])) (fun b hb2=>by
   rcases List.mem_append.1 hb2 with h1|h1
   exact h b h1;simp only[List.mem_cons,List.not_mem_nil,or_false] at h1;subst h1;have hc:ZlV n (QF D.ks Os Bb n D.xs G.fs):=Zki (by rw[hk];exact hb G (by simp));refine⟨hc.len,fun x hx=>?_,?_⟩;have:=hc.lt x hx;show x<=_-1;omega;show _-1=ZaG Ks G.fs
   rw[ZeJ,hk];omega)
  refine⟨a,?_⟩;rw[b];simp[Zaw]
def ZW(D:QX)(f:Nat):Nat:=D.bs.findIdx (fun b=>decide (f∈b.fs))
def Zdk(D:QX)(f:Nat):Nat:=(D.bs.getD (ZW D f) ZE).fs.idxOf f
theorem ZnR{D:QX}{f:Nat}(hall:∃b∈D.bs,f∈b.fs)(hfl:∀b∈D.bs,b.fs.length<=100)(hfk:∀b∈D.bs,∀x∈b.fs,x<D.ks.length)(hmn:∀i,i<D.ks.length->(D.ks.getD i ZN).many<=100):ZbE D f (ZW D f) (Zdk D f):=by
 obtain⟨b,hb,hf⟩:=hall;have hlt:ZW D f<D.bs.length:=List.findIdx_lt_length_of_exists ⟨b,hb,by simpa using hf⟩
 have hg:∀i (h:i<D.bs.length),D.bs.getD i ZE=D.bs[i]:=fun i h=>by rw[Qc,Qd h];rfl
 have hin:f∈(D.bs.getD (ZW D f) ZE).fs:=(by rw[hg _ hlt];have:=List.findIdx_getElem (p:=fun b:BS=>decide (f∈b.fs)) (w:=hlt);exact of_decide_eq_true this);have hpl:Zdk D f<(D.bs.getD (ZW D f) ZE).fs.length:=List.idxOf_lt_length_of_mem hin;refine⟨hlt,hpl,?_,?_,?_,?_,hmn⟩;rw[Qc,Qd hpl];exact List.getElem_idxOf hpl
 ·intro i j hi hj hor
  rcases hor with h1|h1
  have h2:=List.not_of_lt_findIdx (p:=fun b:BS=>decide (f∈b.fs)) (xs:=D.bs) h1;intro e;refine absurd ?_ (of_decide_eq_false h2);rw[hg i (by omega)] at e hj;rw[Qc,Qd hj] at e;exact Eq.subst (motive:=fun z=>z∈_) e (Qf _)
  rcases Nat.lt_or_ge i (ZW D f) with h3|h3
  have h2:=List.not_of_lt_findIdx (p:=fun b:BS=>decide (f∈b.fs)) (xs:=D.bs) h3;intro e;refine absurd ?_ (of_decide_eq_false h2);rw[hg i (by omega)] at e hj;rw[Qc,Qd hj] at e;exact Eq.subst (motive:=fun z=>z∈_) e (Qf _);have e:i=ZW D f:=(by omega);subst e;intro e2;rw[Qc,Qd hj] at e2;have h4:=List.not_of_lt_findIdx (p:=(· ==f)) (xs:=(D.bs.getD (ZW D f) ZE).fs) (i:=j) h1;simp only[beq_eq_false_iff_ne] at h4;exact h4 e2
 intro i hi;rw[hg i (by omega)];exact hfl _ (Qf _);intro i j hi hj;rw[hg i (by omega)] at hj ⊢;rw[Qc,Qd hj];exact hfk _ (Qf _) _ (Qf _)
def XIn(Bb:List (List Nat))(n:Nat)(fs:List Nat)(x:XS):Prop:=x.row<n/\x.f∈fs/\x.bin=(Bb.getD x.f []).getD x.row 0
theorem ZeL(Ks:List KS)(Os:List (List Bool))(Bb:List (List Nat))(n:Nat):∀(fs done:List Nat) (s:CS),(∀x∈s.xs,XIn Bb n done x)->(fs.foldl (Zi Ks Os Bb n) s).xs.length<=s.xs.length+fs.length*n/\∀x∈(fs.foldl (Zi Ks Os Bb n) s).xs,XIn Bb n (done++fs) x
 |[],done,s,h=>⟨by simp,by simpa using h⟩
 | f ::fs,done,s,h=>by
  simp only[List.foldl_cons]
  obtain⟨a,b⟩:=ZeL Ks Os Bb n fs (done++[f]) (Zi Ks Os Bb n s f) (fun x hx=>by
   rcases List.mem_append.1 hx with hx|hx
   obtain⟨h1,h2,h3⟩:=h x hx;exact⟨h1,List.mem_append_left _ h2,h3⟩;obtain⟨h1,h2,h3⟩:=Zde _ _ _ _ _ x hx
   exact⟨h2,by rw[h1];simp,by rw[h1];exact h3⟩)
  refine⟨?_,by rw[show done++f::fs=(done++[f])++fs by simp];exact b⟩;have h1:(Zi Ks Os Bb n s f).xs.length<=s.xs.length+n:=(by show(s.xs++Y5 _ _ _ _ _).length<=_;rw[Qe];have:=Zdf f (Os.getD f []) (Bb.getD f []) s.N n;omega);rw[List.length_cons,Nat.succ_mul];omega
theorem Zj9(Os:List (List Bool))(Bb:List (List Nat))(n:Nat):∀(Gs:List GS) (done:List Nat) (D:QX),(∀x∈D.xs,XIn Bb n done x)->(Gs.foldl (Zaw Os Bb n) D).xs.length<=D.xs.length+(Za2 Gs).length*n/\∀x∈(Gs.foldl (Zaw Os Bb n) D).xs,XIn Bb n (done++Za2 Gs) x
 |[],done,D,h=>⟨by simp,by simpa [Za2] using h⟩
 |G::Gs,done,D,h=>by simp only[List.foldl_cons];obtain⟨a,b⟩:=ZeL D.ks Os Bb n G.fs done ⟨List.replicate n 0,D.xs,1⟩ h;obtain⟨c,d⟩:=Zj9 Os Bb n Gs (done++G.fs) (Zaw Os Bb n D G) b;have e:Za2 (G::Gs)=G.fs++Za2 Gs:=rfl;refine⟨?_,by rw[e,<- List.append_assoc];exact d⟩;have h1:(Zaw Os Bb n D G).xs.length<=D.xs.length+G.fs.length*n:=a;rw[e,Qe,Nat.add_mul];omega
structure Zbx(n:Nat)(D:QX):Prop where
 n2:n<=200
 k0:0<D.ks.length
 k4:D.ks.length<=4
 b0:0<D.bs.length
 b4:D.bs.length<=4
 bok:∀b∈D.bs,BOk D.ks n b
 g40:∀b∈D.bs,b.g<=40
 f0:∀b∈D.bs,0<b.fs.length
 f4:∀b∈D.bs,b.fs.length<=4
 fk:∀b∈D.bs,∀f∈b.fs,f<D.ks.length
 all:∀f,f<D.ks.length->∃b∈D.bs,f∈b.fs
 mn:∀i,i<D.ks.length->(D.ks.getD i ZN).many<=18
 dn:∀i,i<D.ks.length->(D.ks.getD i ZN).d<(D.ks.getD i ZN).many
 edg:∀i,i<D.ks.length->Zco (D.ks.getD i ZN).e
 keys:Za9 D.xs
 xl:D.xs.length<=800
 xin:∀x∈D.xs,x.row<n/\x.f<D.ks.length/\x.bin<18
theorem Zc8{m n budget:Nat}{es:List ES}{Bb:List (List Nat)}(hm:m+1<=4)(hn:n<=200)(hk:ZcN m n es Bb):Zbx n (ZJ m n budget es Bb):=by
 have hks:(ZJ m n budget es Bb).ks=YG es Bb (m+1):=Zax _ _ _ _ _;have hkl:(YG es Bb (m+1)).length=m+1:=YA es Bb (m+1)
 have hma:∀i,i<m+1->((YG es Bb (m+1)).getD i ZN).many=(es.getD i e0S).cnt+2:=fun i hi=>by rw[QL es Bb hi];rfl
 have hma18:∀i,i<m+1->((YG es Bb (m+1)).getD i ZN).many<=18:=fun i hi=>by rw[hma i hi];have:=hk.cn i hi;omega
 have hO:∀i,i<m+1->((QS es Bb (m+1)).getD i []).length=n:=fun i hi=>by rw[Zdc es Bb hi];unfold oF Zbr;rw[List.length_map];exact hk.lb i hi
 have hbin:∀f,f<m+1->∀r,(Bb.getD f []).getD r 0<((YG es Bb (m+1)).getD f ZN).many:=fun f hf r=>by
  rw[hma f hf,Qc]
  rcases Nat.lt_or_ge r (Bb.getD f []).length with h1|h1
  rw[Qd h1];exact hk.bin f hf _ (Qf h1);rw[List.getElem?_eq_none h1];simp
 obtain⟨hfit,hgl⟩:=Zh3 (budget:=budget) hO (fun i hi=>Nat.le_trans (hma18 i hi) (by decide));have hall:=Zfb m (YG es Bb (m+1)) (QS es Bb (m+1)) n budget;have hpos:=Zmu m (YG es Bb (m+1)) (QS es Bb (m+1)) n budget;obtain⟨hbo,hbf⟩:=ZgM (Os:=QS es Bb (m+1)) (Bb:=Bb) (n:=n) (Ks:=YG es Bb (m+1)) (Zak m (YG es Bb (m+1)) (QS es Bb (m+1)) n budget) ⟨YG es Bb (m+1),[],[]⟩ rfl (fun G hG f hf=>hbin f ((hfit G hG).fs f hf)) (by simp);obtain⟨hxl,hxi⟩:=Zj9 (QS es Bb (m+1)) Bb n (Zak m (YG es Bb (m+1)) (QS es Bb (m+1)) n budget) [] ⟨YG es Bb (m+1),[],[]⟩ (by simp);have hbo':∀b∈(ZJ m n budget es Bb).bs,BOk (YG es Bb (m+1)) n b:=hbo
 have hbf':(ZJ m n budget es Bb).bs.map (fun b=>b.fs)=(Zak m (YG es Bb (m+1)) (QS es Bb (m+1)) n budget).map (fun G=>G.fs):=(by rw[show(ZJ m n budget es Bb).bs=_ from rfl];exact hbf);have hxl':(ZJ m n budget es Bb).xs.length<=0+(Za2 (Zak m (YG es Bb (m+1)) (QS es Bb (m+1)) n budget)).length*n:=hxl;have hxi':∀x∈(ZJ m n budget es Bb).xs,XIn Bb n ([]++Za2 (Zak m (YG es Bb (m+1)) (QS es Bb (m+1)) n budget)) x:=hxi;have hkeys:=Zjq m n budget es Bb;clear hbo hbf hxl hxi;generalize ZJ m n budget es Bb=D at *;generalize Zak m (YG es Bb (m+1)) (QS es Bb (m+1)) n budget=Gs at *
 have hbl:D.bs.length=Gs.length:=by have:=congrArg List.length hbf';simpa using this
 have hGb:∀b∈D.bs,∃G∈Gs,G.fs=b.fs:=fun b hb=>by have:b.fs∈D.bs.map (fun b=>b.fs):=List.mem_map.2 ⟨b,hb,rfl⟩;rw[hbf'] at this;obtain⟨G,hG,e⟩:=List.mem_map.1 this;exact⟨G,hG,e⟩
 have hbG:∀G∈Gs,∃b∈D.bs,b.fs=G.fs:=fun G hG=>by have:G.fs∈Gs.map (fun G=>G.fs):=List.mem_map.2 ⟨G,hG,rfl⟩;rw[<- hbf'] at this;obtain⟨b,hb,e⟩:=List.mem_map.1 this;exact⟨b,hb,e⟩
 have hin:∀f,f<m+1->∃G∈Gs,f∈G.fs:=fun f hf=>by have:f∈Za2 Gs:=hall.mem_iff.2 (List.mem_range.2 hf);exact List.mem_flatMap.1 this
 have hal:(Za2 Gs).length=m+1:=(by rw[hall.length_eq,List.length_range]);constructor;exact hn;rw[hks,hkl];omega;rw[hks,hkl];exact hm;rw[hbl];obtain⟨G,hG,_⟩:=hin 0 (by omega);exact List.length_pos_of_mem hG;rw[hbl];omega;rw[hks];exact hbo';intro b hb;obtain⟨G,hG,e⟩:=hGb b hb;rw[(hbo' b hb).sum,<- e,<- (hfit G hG).sum];exact(hfit G hG).bins;intro b hb;obtain⟨G,hG,e⟩:=hGb b hb;rw[<- e];exact hpos G hG;intro b hb;obtain⟨G,hG,e⟩:=hGb b hb;rw[<- e];have:=(hfit G hG).len;omega;intro b hb f hf;obtain⟨G,hG,e⟩:=hGb b hb;rw[hks,hkl];exact(hfit G hG).fs f (by rw[e];exact hf);intro f hf;rw[hks,hkl] at hf;obtain⟨G,hG,hfG⟩:=hin f hf;obtain⟨b,hb,e⟩:=hbG G hG;exact⟨b,hb,by rw[e];exact hfG⟩;intro i hi;rw[hks] at hi ⊢;rw[hkl] at hi;exact hma18 i hi
 intro i hi;rw[hks] at hi ⊢;rw[hkl] at hi;rw[hma i hi,QL es Bb hi];show ZgT _ _<_;have:=Zid (Bb.getD i []) (show 0<(es.getD i e0S).cnt+2 by omega);rw[Zkl] at this;omega;intro i hi;rw[hks] at hi ⊢;rw[hkl] at hi;rw[QL es Bb hi];exact hk.ok i hi;exact hkeys;rw[hal] at hxl';have:(m+1)*n<=4*200:=Nat.mul_le_mul hm hn;omega;intro x hx;obtain⟨h1,h2,h3⟩:=hxi' x hx;have hf:x.f<m+1:=List.mem_range.1 (hall.mem_iff.1 (by simpa using h2));refine⟨h1,by rw[hks,hkl];exact hf,?_⟩;rw[h3];exact Qh (hbin x.f hf x.row) (hma18 x.f hf)
theorem Zir(off:Nat)(O:List Bool)(B N:List Nat){n r:Nat}(hr:r<n):(putN off O B N n).getD r 0=Zdi off O B N r:=by unfold putN;rw[Qc,List.getElem?_append_left (by simpa using hr)];simp[List.getElem?_range hr]
theorem Zic(f:Nat)(O:List Bool)(B N:List Nat):∀(k:Nat) (x:XS),x∈Y5 f O B N k↔x.f=f/\x.row<k/\O.getD x.row false=true/\N.getD x.row 0≠0/\x.bin=B.getD x.row 0
 |0,x=>by simp[Y5]
 | k+1,x=>by
  rw[Y5,List.mem_append,Zic f O B N k];obtain⟨xr,xf,xb⟩:=x;simp only[Zlx];constructor;rintro(⟨h1,h2,h3⟩|h);exact⟨h1,by omega,h3⟩;split at h;rename_i hc;simp only[List.mem_singleton,XS.mk.injEq] at h;obtain⟨rfl,rfl,rfl⟩:=h;exact⟨rfl,by omega,hc.1,hc.2,rfl⟩;simp at h;rintro⟨h1,h2,h3,h4,h5⟩
  rcases Nat.lt_or_ge xr k with h|h
  exact .inl ⟨h1,h,h3,h4,h5⟩;have e:xr=k:=(by omega);subst e;right;rw[if_pos ⟨h3,h4⟩];simp[h1,h5]
section
variable {Ks:List KS} {Os:List (List Bool)} {Bb:List (List Nat)} {n:Nat}
theorem Zgg:∀(fs:List Nat) (s:CS),0<s.off->∀r,r<n->(s.N.getD r 0≠0->(fs.foldl (Zi Ks Os Bb n) s).N.getD r 0=s.N.getD r 0)/\(s.N.getD r 0=0->(fs.foldl (Zi Ks Os Bb n) s).N.getD r 0=0∨s.off<=(fs.foldl (Zi Ks Os Bb n) s).N.getD r 0)
 |[],s,_,r,_=>⟨fun _=>rfl,fun h=>.inl h⟩
 | f::fs,s,h0,r,hr=>by
  simp only[List.foldl_cons];have hg:(Zi Ks Os Bb n s f).N.getD r 0=Zdi s.off (Os.getD f []) (Bb.getD f []) s.N r:=Zir _ _ _ _ hr;have ho:(Zi Ks Os Bb n s f).off=s.off+(Ks.getD f ZN).many:=rfl;obtain⟨a,b⟩:=Zgg fs (Zi Ks Os Bb n s f) (by rw[ho];omega) r hr;constructor;intro h;have e:(Zi Ks Os Bb n s f).N.getD r 0=s.N.getD r 0:=(by rw[hg];unfold Zdi;rw[if_neg (fun hc=>h hc.2)]);rw[a (by rw[e];exact h),e];intro h
  by_cases hO:(Os.getD f []).getD r false=true
  have e:(Zi Ks Os Bb n s f).N.getD r 0=s.off+(Bb.getD f []).getD r 0:=(by rw[hg];unfold Zdi;rw[if_pos ⟨hO,h⟩]);right;rw[a (by rw[e];omega),e];omega;have e:(Zi Ks Os Bb n s f).N.getD r 0=0:=by rw[hg];unfold Zdi;rw[if_neg (fun hc=>hO hc.1)];exact h
  rcases b e with h1|h1
  exact .inl h1;right;rw[ho] at h1;omega
theorem Zmd:∀(fs:List Nat) (s t:CS),s.N=t.N->s.off=t.off->(fs.foldl (Zi Ks Os Bb n) s).N=(fs.foldl (Zi Ks Os Bb n) t).N/\(fs.foldl (Zi Ks Os Bb n) s).off=(fs.foldl (Zi Ks Os Bb n) t).off
 |[],_,_,h1,h2=>⟨h1,h2⟩
 |f::fs,s,t,h1,h2=>by simp only[List.foldl_cons];refine Zmd fs _ _ ?_ ?_;show putN _ _ _ _ _=putN _ _ _ _ _;rw[h1,h2];show s.off+_=t.off+_;rw[h2]
def ZcX(Ks:List KS)(Os:List (List Bool))(Bb:List (List Nat))(n:Nat)(fs:List Nat):List Nat:=(QF Ks Os Bb n [] fs).N
theorem Zmc(xs:List XS)(fs:List Nat):(QF Ks Os Bb n xs fs).N=ZcX Ks Os Bb n fs:=(Zmd fs ⟨List.replicate n 0,xs,1⟩ ⟨List.replicate n 0,[],1⟩ rfl rfl).1
theorem Zkv:∀(fs:List Nat) (s:CS) (x:XS),x∈(fs.foldl (Zi Ks Os Bb n) s).xs↔x∈s.xs∨∃A C,fs=A++x.f::C/\x.row<n/\(Os.getD x.f []).getD x.row false=true/\(A.foldl (Zi Ks Os Bb n) s).N.getD x.row 0≠0/\x.bin=(Bb.getD x.f []).getD x.row 0
 |[],s,x=>by simp
 | f ::fs,s,x=>by
  simp only[List.foldl_cons];rw[Zkv fs (Zi Ks Os Bb n s f) x];have e:x∈(Zi Ks Os Bb n s f).xs↔x∈s.xs∨x∈Y5 f (Os.getD f []) (Bb.getD f []) s.N n:=List.mem_append;rw[e,Zic];constructor;rintro((h|⟨rfl,h⟩)|⟨A,C,rfl,h⟩);exact .inl h;exact .inr ⟨[],fs,rfl,h⟩;exact .inr ⟨f::A,C,rfl,h⟩;rintro(h|⟨A,C,h1,h⟩);exact .inl (.inl h)
  cases A with
  | nil=>
   simp only[List.nil_append,List.cons.injEq] at h1;obtain⟨rfl,rfl⟩:=h1;exact .inl (.inr ⟨rfl,h⟩)
  | cons g A=>
   simp only[List.cons_append,List.cons.injEq] at h1;obtain⟨rfl,rfl⟩:=h1;exact .inr ⟨A,C,rfl,h⟩
theorem Zib:∀(Gs:List GS) (D:QX) (x:XS),D.ks=Ks->(x∈(Gs.foldl (Zaw Os Bb n) D).xs↔x∈D.xs∨∃G∈Gs,∃A C,G.fs=A++x.f::C/\x.row<n/\(Os.getD x.f []).getD x.row false=true/\(ZcX Ks Os Bb n A).getD x.row 0≠0/\x.bin=(Bb.getD x.f []).getD x.row 0)
 |[],D,x,_=>by simp
 | G::Gs,D,x,hk=>by
  simp only[List.foldl_cons];rw[Zib Gs (Zaw Os Bb n D G) x hk];have e:x∈(Zaw Os Bb n D G).xs↔x∈(G.fs.foldl (Zi Ks Os Bb n) ⟨List.replicate n 0,D.xs,1⟩).xs:=(by rw[<- hk];rfl);rw[e,Zkv];have eN:∀A,(A.foldl (Zi Ks Os Bb n) ⟨List.replicate n 0,D.xs,1⟩).N=ZcX Ks Os Bb n A:=fun A=>Zmc D.xs A;constructor;rintro((h|⟨A,C,h1,h2,h3,h4,h5⟩)|⟨G',hG,h⟩);exact .inl h;exact .inr ⟨G,by simp,A,C,h1,h2,h3,by rw[eN] at h4;exact h4,h5⟩;exact .inr ⟨G',by simp[hG],h⟩;rintro(h|⟨G',hG,A,C,h1,h2,h3,h4,h5⟩);exact .inl (.inl h)
  rcases List.mem_cons.1 hG with rfl|hG
  exact .inl (.inr ⟨A,C,h1,h2,h3,by rw[eN];exact h4,h5⟩);exact .inr ⟨G',hG,A,C,h1,h2,h3,h4,h5⟩
theorem Zl3:∀(Gs:List GS) (D:QX),D.ks=Ks->(∀b∈D.bs,b.N=ZcX Ks Os Bb n b.fs)->∀b∈(Gs.foldl (Zaw Os Bb n) D).bs,b.N=ZcX Ks Os Bb n b.fs
 |[],_,_,h=>h
 | G::Gs,D,hk,h=>by
  simp only[List.foldl_cons];refine Zl3 Gs (Zaw Os Bb n D G) hk (fun b hb=>?_)
  rcases List.mem_append.1 hb with h1|h1
  exact h b h1;simp only[List.mem_cons,List.not_mem_nil,or_false] at h1;subst h1;show(QF D.ks Os Bb n D.xs G.fs).N=_;rw[hk];exact Zmc _ _
end
theorem Zbx.seat{n:Nat}{D:QX}(h:Zbx n D){f:Nat}(hf:f<D.ks.length):ZbE D f (ZW D f) (Zdk D f):=
 ZnR (h.all f hf) (fun b hb=>Nat.le_trans (h.f4 b hb) (by decide)) h.fk (fun i hi=>Nat.le_trans (h.mn i hi) (by decide))
theorem Zmx{m n budget:Nat}{es:List ES}{Bb:List (List Nat)}(hm:m+1<=4)(hn:n<=200)(hk:ZcN m n es Bb){X:List XS}(hX:X.Perm (ZJ m n budget es Bb).xs){f row:Nat}(hf:f<m+1)(hr:row<n):Zc6 (ZJ m n budget es Bb) X f (ZW (ZJ m n budget es Bb) f) (Zdk (ZJ m n budget es Bb) f) row=(Bb.getD f []).getD row 0:=by
 have hd:=Zc8 (budget:=budget) hm hn hk;have hks:(ZJ m n budget es Bb).ks=YG es Bb (m+1):=Zax _ _ _ _ _;have hkl:(YG es Bb (m+1)).length=m+1:=YA es Bb (m+1);have hs:=hd.seat (f:=f) (by rw[hks,hkl];exact hf)
 have hbin:∀g,g<m+1->∀r,(Bb.getD g []).getD r 0<((YG es Bb (m+1)).getD g ZN).many:=fun g hg r=>by
  rw[QL es Bb hg];show _<(es.getD g e0S).cnt+2;rw[Qc]
  rcases Nat.lt_or_ge r (Bb.getD g []).length with h1|h1
  rw[Qd h1];exact hk.bin g hg _ (Qf h1);rw[List.getElem?_eq_none h1];simp
 have hmem:∀x,x∈(ZJ m n budget es Bb).xs↔_:=fun x=>Zib (Ks:=YG es Bb (m+1)) (Os:=QS es Bb (m+1)) (Bb:=Bb) (n:=n) (Zak m (YG es Bb (m+1)) (QS es Bb (m+1)) n budget) ⟨YG es Bb (m+1),[],[]⟩ x rfl;have hN:∀b∈(ZJ m n budget es Bb).bs,b.N=ZcX (YG es Bb (m+1)) (QS es Bb (m+1)) Bb n b.fs:=Zl3 (Zak m (YG es Bb (m+1)) (QS es Bb (m+1)) n budget) ⟨YG es Bb (m+1),[],[]⟩ rfl (by simp)
 have hbf:(ZJ m n budget es Bb).bs.map (fun b=>b.fs)=(Zak m (YG es Bb (m+1)) (QS es Bb (m+1)) n budget).map (fun G=>G.fs):=by have h1:=(ZgM (Os:=QS es Bb (m+1)) (Bb:=Bb) (n:=n) (Ks:=YG es Bb (m+1)) (Zak m (YG es Bb (m+1)) (QS es Bb (m+1)) n budget) ⟨YG es Bb (m+1),[],[]⟩ rfl (fun G hG g hg=>hbin g (List.mem_range.1 ((Zfb m (YG es Bb (m+1)) (QS es Bb (m+1)) n budget).mem_iff.1 (List.mem_flatMap.2 ⟨G,hG,hg⟩)))) (by simp)).2;rw[show(ZJ m n budget es Bb).bs=_ from rfl];exact h1
 have hO:((QS es Bb (m+1)).getD f []).getD row false=decide ((Bb.getD f []).getD row 0≠((YG es Bb (m+1)).getD f ZN).d):=(by rw[Zdc es Bb hf,QL es Bb hf];have hl:row<(Bb.getD f []).length:=(by rw[hk.lb f hf];exact hr);unfold oF Zbr;rw[Qc,List.getElem?_map,Qd hl,Qc (l:=Bb.getD f []),Qd hl];rfl);have hfk:=hd.fk;clear hd;generalize ZJ m n budget es Bb=D at *;generalize Zak m (YG es Bb (m+1)) (QS es Bb (m+1)) n budget=Gs at *;rw[hks] at hfk;generalize ZW D f=bi at *;generalize Zdk D f=p at *;have hbm:D.bs.getD bi ZE∈D.bs:=(by rw[Qc,Qd hs.hb];exact Qf _);have hNb:=hN _ hbm
 have hsp:(D.bs.getD bi ZE).fs=(D.bs.getD bi ZE).fs.take p++f::(D.bs.getD bi ZE).fs.drop (p+1):=(by have h1:=hs.at_;rw[Qc (l:=(D.bs.getD bi ZE).fs),Qd hs.hp] at h1;simp only[Option.getD_some] at h1;have h2:=List.take_append_drop p (D.bs.getD bi ZE).fs;rw[List.drop_eq_getElem_cons hs.hp,h1] at h2;exact h2.symm);have hoff:Qy D bi p=1+ZaG (YG es Bb (m+1)) ((D.bs.getD bi ZE).fs.take p):=(by unfold Qy;rw[hks]);have hfsb:=hfk _ hbm;rw[hkl] at hfsb;have hG:∃G∈Gs,G.fs=(D.bs.getD bi ZE).fs:=by have:(D.bs.getD bi ZE).fs∈D.bs.map (fun b=>b.fs):=List.mem_map.2 ⟨_,hbm,rfl⟩;rw[hbf] at this;obtain⟨G,hG,e⟩:=List.mem_map.1 this;exact⟨G,hG,e⟩
 unfold Zc6;rw[hNb,hoff,hks];generalize (D.bs.getD bi ZE).fs=fs at *;generalize fs.take p=A at *;generalize fs.drop (p+1)=C at *;subst hsp;have hcol:ZlV n (QF (YG es Bb (m+1)) (QS es Bb (m+1)) Bb n [] A):=Zki (fun g hg=>hbin g (hfsb g (List.mem_append_left _ hg)));have hcoff:=ZeJ (YG es Bb (m+1)) (QS es Bb (m+1)) Bb n [] A;have hlt:(ZcX (YG es Bb (m+1)) (QS es Bb (m+1)) Bb n A).getD row 0<1+ZaG (YG es Bb (m+1)) A:=by rw[<- hcoff,Qc];have hl:row<(ZcX (YG es Bb (m+1)) (QS es Bb (m+1)) Bb n A).length:=(by unfold ZcX;rw[hcol.len];exact hr);rw[Qd hl];exact hcol.lt _ (Qf _)
 have hfin:ZcX (YG es Bb (m+1)) (QS es Bb (m+1)) Bb n (A++f::C)=(C.foldl (Zi (YG es Bb (m+1)) (QS es Bb (m+1)) Bb n) (Zi (YG es Bb (m+1)) (QS es Bb (m+1)) Bb n (QF (YG es Bb (m+1)) (QS es Bb (m+1)) Bb n [] A) f)).N:=(by unfold ZcX QF;rw[List.foldl_append,List.foldl_cons]);have hso:(Zi (YG es Bb (m+1)) (QS es Bb (m+1)) Bb n (QF (YG es Bb (m+1)) (QS es Bb (m+1)) Bb n [] A) f).off=1+ZaG (YG es Bb (m+1)) A+((YG es Bb (m+1)).getD f ZN).many:=by show(QF _ _ _ _ _ _).off+_=_;rw[hcoff]
 have hsn:(Zi (YG es Bb (m+1)) (QS es Bb (m+1)) Bb n (QF (YG es Bb (m+1)) (QS es Bb (m+1)) Bb n [] A) f).N.getD row 0=Zdi (1+ZaG (YG es Bb (m+1)) A) ((QS es Bb (m+1)).getD f []) (Bb.getD f []) (ZcX (YG es Bb (m+1)) (QS es Bb (m+1)) Bb n A) row:=(by rw[<- hcoff];exact Zir _ _ _ _ hr);obtain⟨la,lb⟩:=Zgg (Ks:=YG es Bb (m+1)) (Os:=QS es Bb (m+1)) (Bb:=Bb) (n:=n) C _ (by rw[hso];omega) row hr;rw[<- hfin,hso,hsn] at lb;rw[<- hfin,hsn] at la;have hbf2:=hbin f hf row
 have hxin:∀x∈X,atX row f x->(((QS es Bb (m+1)).getD f []).getD row false=true/\x.bin=(Bb.getD f []).getD row 0):=fun x hx ha=>by
  rcases(hmem x).1 (hX.subset hx) with h1|⟨G,_,A',C',_,_,h3,_,h5⟩
  simp at h1;rw[ha.1,ha.2] at h3 h5;exact⟨h3,h5⟩
 generalize (ZcX (YG es Bb (m+1)) (QS es Bb (m+1)) Bb n (A++f::C)).getD row 0=x at *;generalize hna:(ZcX (YG es Bb (m+1)) (QS es Bb (m+1)) Bb n A).getD row 0=na at *;unfold Zdi at la lb;rw[hna] at la lb;generalize 1+ZaG (YG es Bb (m+1)) A=off at *
 by_cases hOt:((QS es Bb (m+1)).getD f []).getD row false=true
 ·by_cases hz:na=0
  rw[if_pos ⟨hOt,hz⟩] at la lb;have hx:x=off+(Bb.getD f []).getD row 0:=la (by omega);rw[if_pos (by omega)];omega;rw[if_neg (fun hc=>hz hc.2)] at la lb;have hx:x=na:=la hz;rw[if_neg (by omega)];obtain⟨G,hGm,hGf⟩:=hG;have hex:(⟨row,f,(Bb.getD f []).getD row 0⟩:XS)∈D.xs:=(hmem _).2 (.inr ⟨G,hGm,A,C,hGf,hr,hOt,by rw[hna];exact hz,rfl⟩);have hexX:=hX.symm.subset hex;unfold xbF
  cases hfd:X.find? (fun y=>decide (atX row f y)) with
  | none=>
   rw[List.find?_eq_none] at hfd;exact absurd (decide_eq_true (show atX row f ⟨row,f,(Bb.getD f []).getD row 0⟩ from⟨rfl,rfl⟩)) (hfd _ hexX)
  | some y=>
   have h1:=List.find?_some hfd;exact(hxin y (List.mem_of_find?_eq_some hfd) (of_decide_eq_true h1)).2
 rw[if_neg (fun hc=>hOt hc.1)] at la lb
 have hnin:¬(off<=x/\x<off+((YG es Bb (m+1)).getD f ZN).many):=by
  intro hc
  by_cases hz:na=0
  ·rcases lb hz with h1|h1<;>omega
  have:=la hz;omega
 rw[if_neg hnin]
 have hdef:(Bb.getD f []).getD row 0=((YG es Bb (m+1)).getD f ZN).d:=by
  rw[hO] at hOt
  simpa using hOt
 unfold xbF
 cases hfd:X.find? (fun y=>decide (atX row f y)) with
 |none=>exact hdef.symm
 | some y=>
  have h1:=List.find?_some hfd;exact absurd (hxin y (List.mem_of_find?_eq_some hfd) (of_decide_eq_true h1)).1 hOt
end Go.Proofs.YtfcgnpchbcmdeaaGreat
