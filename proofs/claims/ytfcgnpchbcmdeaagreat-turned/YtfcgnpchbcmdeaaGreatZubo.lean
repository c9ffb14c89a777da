import Derived.Test.YtfcgnpchbcmdeaaGreatZubn
import Derived.Sort.LotA
namespace Go.Proofs.YtfcgnpchbcmdeaaGreat
set_option linter.unusedSimpArgs false
open Go.RowKit Go.Sort
theorem Zni(m:Nat)(Os:List (List Bool)):(Zb3 m Os).Perm (List.range (m+1)):=by
 obtain⟨h1,_,h3⟩:=(insertionSort_holds (lt:=ltOf (Zc2 (m:=m+1) Os)) (Zqm Os) (ZbK m) 0 (m+1) (Qg _) (by simp[ZbK])).1;have e1:(insertionSort (ltOf (Zc2 (m:=m+1) Os)) (ZbK m) 0 (m+1)).extract 0 (m+1)=insertionSort (ltOf (Zc2 (m:=m+1) Os)) (ZbK m) 0 (m+1):=(by apply Array.extract_eq_self_of_le;rw[h1];simp[ZbK]);have e2:(ZbK m).extract 0 (m+1)=ZbK m:=(by apply Array.extract_eq_self_of_le;simp[ZbK]);rw[e1,e2] at h3;have h4:=h3.map (fun x=>x.val);unfold Zb3;refine h4.trans ?_
 have:(ZbK m).toList.map (fun x=>x.val)=List.range (m+1):=by
  apply List.ext_getElem?;intro i;unfold ZbK;rw[List.getElem?_map,Array.getElem?_toList,Array.getElem?_ofFn]
  by_cases h:i<m+1
  rw[dif_pos h,List.getElem?_range h];rfl;rw[dif_neg h,List.getElem?_eq_none (by simp;omega)];rfl
 rw[this]
def Zbs(Gs:List GS):List Nat:=Gs.flatMap (fun G=>G.fs)
theorem ZeX{α β:Type}(g:α->List β):∀(L:List α) (i:Nat) (y:α) (h:i<L.length) (t:List β),g y=g L[i]++t->((L.set i y).flatMap g).Perm (L.flatMap g++t)
 |[],i,y,h,t,e=>by simp at h
 |a::L,0,y,h,t,e=>by simp only[List.set_cons_zero,List.flatMap_cons];have e':g y=g a++t:=e;rw[e',List.append_assoc,List.append_assoc];exact List.Perm.append_left _ List.perm_append_comm
 |a::L,i+1,y,h,t,e=>by simp only[List.set_cons_succ,List.flatMap_cons,List.append_assoc];exact List.Perm.append_left _ (ZeX g L i y (by simpa using h) t e)
theorem Zjy(Ks:List KS)(Os:List (List Bool))(n budget:Nat)(Gs:List GS)(f:Nat):(Zbs (ZI Ks Os n budget Gs f)).Perm (Zbs Gs++[f]):=by
 unfold ZI Zbs;split
 ·rename_i h
  exact ZeX (fun G:GS=>G.fs) Gs _ _ h [f] (by
   rw[Qc,Qd h]
   rfl)
 rw[List.flatMap_append];simp[ZbP,ZaK]
theorem Zme(Ks:List KS)(Os:List (List Bool))(n budget:Nat):∀(fs:List Nat) (Gs:List GS),(Zbs (fs.foldl (ZI Ks Os n budget) Gs)).Perm (Zbs Gs++fs)
 |[],Gs=>by simp
 |f::fs,Gs=>by simp only[List.foldl_cons];refine(Zme Ks Os n budget fs _).trans ?_;refine((Zjy Ks Os n budget Gs f).append_right fs).trans ?_;simp
theorem Zjw(m:Nat)(Ks:List KS)(Os:List (List Bool))(n budget:Nat):(Zbs (Zb1 m Ks Os n budget)).Perm (List.range (m+1)):=by
 unfold Zb1;refine(Zme Ks Os n budget _ _).trans ?_
 simpa [Zbs] using Zni m Os
theorem ZkT(m:Nat)(Ks:List KS)(Os:List (List Bool))(n budget:Nat):(Zbs (Zb1 m Ks Os n budget)).Nodup:=(Zjw m Ks Os n budget).nodup_iff.2 List.nodup_range
theorem ZjA(Ks:List KS)(Os:List (List Bool))(n budget:Nat)(Gs:List GS)(f:Nat)(h:∀G∈Gs,0<G.fs.length):∀G∈ZI Ks Os n budget Gs f,0<G.fs.length:=by
 intro G hG;unfold ZI at hG;split at hG
 ·rcases List.mem_or_eq_of_mem_set hG with hin|e
  exact h G hin;subst e;simp[ZbP]
 rcases List.mem_append.1 hG with hin|e
 exact h G hin;simp only[List.mem_cons,List.not_mem_nil,or_false] at e;subst e;simp[ZbP]
theorem Zmg(Ks:List KS)(Os:List (List Bool))(n budget:Nat):∀(fs:List Nat) (Gs:List GS),(∀G∈Gs,0<G.fs.length)->∀G∈fs.foldl (ZI Ks Os n budget) Gs,0<G.fs.length
 |[],_,h=>h
 |f::fs,Gs,h=>Zmg Ks Os n budget fs _ (ZjA Ks Os n budget Gs f h)
theorem Zop(m:Nat)(Ks:List KS)(Os:List (List Bool))(n budget:Nat):∀G∈Zb1 m Ks Os n budget,0<G.fs.length:=Zmg Ks Os n budget _ _ (by simp)
def ZbE(L:List XS):Prop:=L.Pairwise (fun x y=>x.row≠y.row∨x.f≠y.f)
theorem Zec(f:Nat)(O:List Bool)(B N:List Nat):∀k,∀x∈QT f O B N k,x.f=f/\x.row<k/\x.bin=B.getD x.row 0
 |0,x,h=>by simp[QT] at h
 | k+1,x,h=>by
  rw[QT,List.mem_append] at h
  rcases h with h|h
  have:=Zec f O B N k x h;exact⟨this.1,by omega,this.2.2⟩;unfold ZoP at h;split at h;simp at h;subst h;exact⟨rfl,by simp,rfl⟩;simp at h
theorem ZhU(f:Nat)(O:List Bool)(B N:List Nat):∀k,ZbE (QT f O B N k)
 |0=>by simp[QT,ZbE]
 |k+1=>by unfold ZbE;rw[QT,List.pairwise_append];refine⟨ZhU f O B N k,by unfold ZoP;split<;>simp,fun x hx y hy=>?_⟩;have h1:=(Zec f O B N k x hx).2.1;unfold ZoP at hy;split at hy;simp at hy;subst hy;left;simp;omega;simp at hy
theorem ZdV(Ks:List KS)(Os:List (List Bool))(Bb:List (List Nat))(n:Nat):∀(fs done:List Nat) (s:CS),ZbE s.xs->(∀x∈s.xs,x.f∈done)->(done++fs).Nodup->ZbE (fs.foldl (Zz Ks Os Bb n) s).xs/\∀x∈(fs.foldl (Zz Ks Os Bb n) s).xs,x.f∈done++fs
 |[],done,s,h1,h2,_=>⟨h1,by simpa using h2⟩
 | f::fs,done,s,h1,h2,h3=>by
  simp only[List.foldl_cons];have e:done++f::fs=(done++[f])++fs:=(by simp);rw[e] at h3 ⊢;refine ZdV Ks Os Bb n fs (done++[f]) _ ?_ ?_ h3;show ZbE (s.xs++QT f _ _ _ _);unfold ZbE;rw[List.pairwise_append];refine⟨h1,ZhU _ _ _ _ _,fun x hx y hy=>.inr ?_⟩;rw[(Zec _ _ _ _ _ y hy).1];intro he;have hm:=h2 x hx;rw[he] at hm;have:=(List.nodup_append.1 (List.nodup_append.1 h3).1).2.2;exact this f hm f (by simp) rfl;intro x hx
  rcases List.mem_append.1 hx with hx|hx
  exact List.mem_append_left _ (h2 x hx);rw[(Zec _ _ _ _ _ x hx).1];simp
theorem ZhC(Os:List (List Bool))(Bb:List (List Nat))(n:Nat):∀(Gs:List GS) (done:List Nat) (D:QV),ZbE D.xs->(∀x∈D.xs,x.f∈done)->(done++Zbs Gs).Nodup->ZbE (Gs.foldl (Zce Os Bb n) D).xs
 |[],done,D,h1,_,_=>h1
 |G::Gs,done,D,h1,h2,h3=>by simp only[List.foldl_cons];have e:done++Zbs (G::Gs)=(done++G.fs)++Zbs Gs:=(by simp[Zbs]);rw[e] at h3;obtain⟨a,b⟩:=ZdV D.ks Os Bb n G.fs done ⟨List.replicate n 0,D.xs,1⟩ h1 h2 (List.nodup_append.1 h3).1;exact ZhC Os Bb n Gs (done++G.fs) _ a b h3
theorem ZkX(m n budget:Nat)(es:List ES)(Bb:List (List Nat)):ZbE (Qp m n budget es Bb).xs:=
 ZhC _ _ _ _ [] _ (by simp[ZbE]) (by simp) (by simpa using ZkT m _ _ n budget)
theorem Zlr{L X Y:List XS}(hk:ZbE L)(h1:X.Perm L)(h2:ZaF X)(h3:Y.Perm L)(h4:ZaF Y):X=Y:=by
 refine List.Perm.eq_of_pairwise (le:=fun x y:XS=>x.row<y.row∨x.row=y.row/\x.f<=y.f) (fun a b ha hb hab hba=>?_) h2 h4 (h1.trans h3.symm);have ka:a∈L:=h1.subset ha;have kb:b∈L:=h3.subset hb;obtain⟨i,hi,rfl⟩:=List.getElem_of_mem ka;obtain⟨j,hj,rfl⟩:=List.getElem_of_mem kb
 rcases Nat.lt_trichotomy i j with h|h|h
 have:=List.pairwise_iff_getElem.1 hk i j hi hj h;omega;subst h;rfl;have:=List.pairwise_iff_getElem.1 hk j i hj hi h;omega
end Go.Proofs.YtfcgnpchbcmdeaaGreat
namespace Go.Proofs.YtfcgnpchbcmdeaaGreat
set_option linter.unusedSimpArgs false
open Go.RowKit
theorem ZpL(off h:Nat)(O:List Bool)(B N:List Nat)(k:Nat)(hN:∀x∈N,x<off)(h0:0<off)(hB:∀r,B.getD r 0<h):∀x∈putN off O B N k,x<off+h:=by
 intro x hx;unfold putN at hx
 have hg:∀r,N.getD r 0<off:=fun r=>by
  rw[Qc]
  rcases Nat.lt_or_ge r N.length with h1|h1
  rw[Qd h1];exact hN _ (Qf h1);rw[List.getElem?_eq_none h1];exact h0
 rcases List.mem_append.1 hx with hx|hx
 obtain⟨r,_,rfl⟩:=List.mem_map.1 hx;unfold Zlk;split;have:=hB r;omega;have:=hg r;omega;have:=hN x (List.mem_of_mem_drop hx);omega
structure Zo6(n:Nat)(s:CS):Prop where
 len:s.N.length=n
 pos:0<s.off
 lt:∀x∈s.N,x<s.off
theorem Zf2{Ks:List KS}{Os:List (List Bool)}{Bb:List (List Nat)}{n:Nat}:∀(fs:List Nat) (s:CS),(∀f∈fs,∀r,(Bb.getD f []).getD r 0<(Ks.getD f ZD).many)->Zo6 n s->Zo6 n (fs.foldl (Zz Ks Os Bb n) s)
 |[],s,_,h=>h
 |f::fs,s,hb,h=>by simp only[List.foldl_cons];refine Zf2 fs _ (fun g hg=>hb g (by simp[hg])) ⟨?_,?_,?_⟩;show(putN _ _ _ _ n).length=n;rw[ZgG _ _ _ _ (by rw[h.len];exact Qa _)];exact h.len;show 0<s.off+_;have:=h.pos;omega;exact ZpL _ _ _ _ _ _ h.lt h.pos (hb f (by simp))
theorem Zph{Ks:List KS}{Os:List (List Bool)}{Bb:List (List Nat)}{n:Nat}{xs:List XS}{fs:List Nat}(hb:∀f∈fs,∀r,(Bb.getD f []).getD r 0<(Ks.getD f ZD).many):Zo6 n (Zbv Ks Os Bb n xs fs):=
 Zf2 fs _ hb ⟨by simp,by simp,by intro x hx;simp at hx;simp[hx.2]⟩
structure BOk(Ks:List KS)(n:Nat)(b:BS):Prop where
 len:b.N.length=n
 le:∀x∈b.N,x<=b.g
 sum:b.g=ZbC Ks b.fs
theorem ZlS{Os:List (List Bool)}{Bb:List (List Nat)}{n:Nat}{Ks:List KS}:∀(Gs:List GS) (D:QV),D.ks=Ks->(∀G∈Gs,∀f∈G.fs,∀r,(Bb.getD f []).getD r 0<(Ks.getD f ZD).many)->(∀b∈D.bs,BOk Ks n b)->(∀b∈(Gs.foldl (Zce Os Bb n) D).bs,BOk Ks n b)/\(Gs.foldl (Zce Os Bb n) D).bs.map (fun b=>b.fs)=D.bs.map (fun b=>b.fs)++Gs.map (fun G=>G.fs)
 |[],D,_,_,h=>⟨h,by simp⟩
 | G ::Gs,D,hk,hb,h=>by
  simp only[List.foldl_cons]
  obtain⟨a,b⟩:=ZlS (Os:=Os) Gs (Zce Os Bb n D G) hk (fun g hg=>hb g (by simp[hg])) (fun b hb2=>by
   rcases List.mem_append.1 hb2 with h1|h1
   exact h b h1;simp only[List.mem_cons,List.not_mem_nil,or_false] at h1;subst h1;have hc:Zo6 n (Zbv D.ks Os Bb n D.xs G.fs):=Zph (by rw[hk];exact hb G (by simp));refine⟨hc.len,fun x hx=>?_,?_⟩;have:=hc.lt x hx;show x<=_-1;omega;show _-1=ZbC Ks G.fs
   rw[Zje,hk];omega)
  refine⟨a,?_⟩;rw[b];simp[Zce]
def Yd(D:QV)(f:Nat):Nat:=D.bs.findIdx (fun b=>decide (f∈b.fs))
def Zdm(D:QV)(f:Nat):Nat:=(D.bs.getD (Yd D f) Z6).fs.idxOf f
theorem ZpP{D:QV}{f:Nat}(hall:∃b∈D.bs,f∈b.fs)(hfl:∀b∈D.bs,b.fs.length<=100)(hfk:∀b∈D.bs,∀x∈b.fs,x<D.ks.length)(hmn:∀i,i<D.ks.length->(D.ks.getD i ZD).many<=100):Zch D f (Yd D f) (Zdm D f):=by
 obtain⟨b,hb,hf⟩:=hall;have hlt:Yd D f<D.bs.length:=List.findIdx_lt_length_of_exists ⟨b,hb,by simpa using hf⟩
 have hg:∀i (h:i<D.bs.length),D.bs.getD i Z6=D.bs[i]:=fun i h=>by rw[Qc,Qd h];rfl
 have hin:f∈(D.bs.getD (Yd D f) Z6).fs:=(by rw[hg _ hlt];have:=List.findIdx_getElem (p:=fun b:BS=>decide (f∈b.fs)) (w:=hlt);exact of_decide_eq_true this);have hpl:Zdm D f<(D.bs.getD (Yd D f) Z6).fs.length:=List.idxOf_lt_length_of_mem hin;refine⟨hlt,hpl,?_,?_,?_,?_,hmn⟩;rw[Qc,Qd hpl];exact List.getElem_idxOf hpl
 ·intro i j hi hj hor
  rcases hor with h1|h1
  have h2:=List.not_of_lt_findIdx (p:=fun b:BS=>decide (f∈b.fs)) (xs:=D.bs) h1;intro e;refine absurd ?_ (of_decide_eq_false h2);rw[hg i (by omega)] at e hj;rw[Qc,Qd hj] at e;exact Eq.subst (motive:=fun z=>z∈_) e (Qf _)
  rcases Nat.lt_or_ge i (Yd D f) with h3|h3
  have h2:=List.not_of_lt_findIdx (p:=fun b:BS=>decide (f∈b.fs)) (xs:=D.bs) h3;intro e;refine absurd ?_ (of_decide_eq_false h2);rw[hg i (by omega)] at e hj;rw[Qc,Qd hj] at e;exact Eq.subst (motive:=fun z=>z∈_) e (Qf _);have e:i=Yd D f:=(by omega);subst e;intro e2;rw[Qc,Qd hj] at e2;have h4:=List.not_of_lt_findIdx (p:=(· ==f)) (xs:=(D.bs.getD (Yd D f) Z6).fs) (i:=j) h1;simp only[beq_eq_false_iff_ne] at h4;exact h4 e2
 intro i hi;rw[hg i (by omega)];exact hfl _ (Qf _);intro i j hi hj;rw[hg i (by omega)] at hj ⊢;rw[Qc,Qd hj];exact hfk _ (Qf _) _ (Qf _)
def XIn(Bb:List (List Nat))(n:Nat)(fs:List Nat)(x:XS):Prop:=x.row<n/\x.f∈fs/\x.bin=(Bb.getD x.f []).getD x.row 0
theorem Zf3(Ks:List KS)(Os:List (List Bool))(Bb:List (List Nat))(n:Nat):∀(fs done:List Nat) (s:CS),(∀x∈s.xs,XIn Bb n done x)->(fs.foldl (Zz Ks Os Bb n) s).xs.length<=s.xs.length+fs.length*n/\∀x∈(fs.foldl (Zz Ks Os Bb n) s).xs,XIn Bb n (done++fs) x
 |[],done,s,h=>⟨by simp,by simpa using h⟩
 | f ::fs,done,s,h=>by
  simp only[List.foldl_cons]
  obtain⟨a,b⟩:=Zf3 Ks Os Bb n fs (done++[f]) (Zz Ks Os Bb n s f) (fun x hx=>by
   rcases List.mem_append.1 hx with hx|hx
   obtain⟨h1,h2,h3⟩:=h x hx;exact⟨h1,List.mem_append_left _ h2,h3⟩;obtain⟨h1,h2,h3⟩:=Zec _ _ _ _ _ x hx
   exact⟨h2,by rw[h1];simp,by rw[h1];exact h3⟩)
  refine⟨?_,by rw[show done++f::fs=(done++[f])++fs by simp];exact b⟩;have h1:(Zz Ks Os Bb n s f).xs.length<=s.xs.length+n:=(by show(s.xs++QT _ _ _ _ _).length<=_;rw[Qe];have:=Zed f (Os.getD f []) (Bb.getD f []) s.N n;omega);rw[List.length_cons,Nat.succ_mul];omega
theorem ZlT(Os:List (List Bool))(Bb:List (List Nat))(n:Nat):∀(Gs:List GS) (done:List Nat) (D:QV),(∀x∈D.xs,XIn Bb n done x)->(Gs.foldl (Zce Os Bb n) D).xs.length<=D.xs.length+(Zbs Gs).length*n/\∀x∈(Gs.foldl (Zce Os Bb n) D).xs,XIn Bb n (done++Zbs Gs) x
 |[],done,D,h=>⟨by simp,by simpa [Zbs] using h⟩
 |G::Gs,done,D,h=>by simp only[List.foldl_cons];obtain⟨a,b⟩:=Zf3 D.ks Os Bb n G.fs done ⟨List.replicate n 0,D.xs,1⟩ h;obtain⟨c,d⟩:=ZlT Os Bb n Gs (done++G.fs) (Zce Os Bb n D G) b;have e:Zbs (G::Gs)=G.fs++Zbs Gs:=rfl;refine⟨?_,by rw[e,<- List.append_assoc];exact d⟩;have h1:(Zce Os Bb n D G).xs.length<=D.xs.length+G.fs.length*n:=a;rw[e,Qe,Nat.add_mul];omega
structure ZhA(n:Nat)(D:QV):Prop where
 n2:n<=200
 k0:0<D.ks.length
 k4:D.ks.length<=4
 b0:0<D.bs.length
 b4:D.bs.length<=4
 bok:∀b∈D.bs,BOk D.ks n b
 g40:∀b∈D.bs,b.g<=40
 f0:∀b∈D.bs,0<b.fs.length
 f4:∀b∈D.bs,b.fs.length<=4
 fk:∀b∈D.bs,∀f∈b.fs,f<D.ks.length
 all:∀f,f<D.ks.length->∃b∈D.bs,f∈b.fs
 mn:∀i,i<D.ks.length->(D.ks.getD i ZD).many<=18
 dn:∀i,i<D.ks.length->(D.ks.getD i ZD).d<(D.ks.getD i ZD).many
 edg:∀i,i<D.ks.length->Zdb (D.ks.getD i ZD).e
 keys:ZbE D.xs
 xl:D.xs.length<=800
 xin:∀x∈D.xs,x.row<n/\x.f<D.ks.length/\x.bin<18
theorem Zou{m n budget:Nat}{es:List ES}{Bb:List (List Nat)}(hm:m+1<=4)(hn:n<=200)(hk:ZiP m n es Bb):ZhA n (Qp m n budget es Bb):=by
 have hks:(Qp m n budget es Bb).ks=ksF es Bb (m+1):=ZfR _ _ _ _ _;have hkl:(ksF es Bb (m+1)).length=m+1:=QA es Bb (m+1)
 have hma:∀i,i<m+1->((ksF es Bb (m+1)).getD i ZD).many=(es.getD i e0S).cnt+2:=fun i hi=>by rw[ZaX es Bb hi];rfl
 have hma18:∀i,i<m+1->((ksF es Bb (m+1)).getD i ZD).many<=18:=fun i hi=>by rw[hma i hi];have:=hk.cn i hi;omega
 have hO:∀i,i<m+1->((osF es Bb (m+1)).getD i []).length=n:=fun i hi=>by rw[ZgD es Bb hi];unfold oF Zcx;rw[List.length_map];exact hk.lb i hi
 have hbin:∀f,f<m+1->∀r,(Bb.getD f []).getD r 0<((ksF es Bb (m+1)).getD f ZD).many:=fun f hf r=>by
  rw[hma f hf,Qc]
  rcases Nat.lt_or_ge r (Bb.getD f []).length with h1|h1
  rw[Qd h1];exact hk.bin f hf _ (Qf h1);rw[List.getElem?_eq_none h1];simp
 obtain⟨hfit,hgl⟩:=Zjx (budget:=budget) hO (fun i hi=>Nat.le_trans (hma18 i hi) (by decide));have hall:=Zjw m (ksF es Bb (m+1)) (osF es Bb (m+1)) n budget;have hpos:=Zop m (ksF es Bb (m+1)) (osF es Bb (m+1)) n budget;obtain⟨hbo,hbf⟩:=ZlS (Os:=osF es Bb (m+1)) (Bb:=Bb) (n:=n) (Ks:=ksF es Bb (m+1)) (Zb1 m (ksF es Bb (m+1)) (osF es Bb (m+1)) n budget) ⟨ksF es Bb (m+1),[],[]⟩ rfl (fun G hG f hf=>hbin f ((hfit G hG).fs f hf)) (by simp);obtain⟨hxl,hxi⟩:=ZlT (osF es Bb (m+1)) Bb n (Zb1 m (ksF es Bb (m+1)) (osF es Bb (m+1)) n budget) [] ⟨ksF es Bb (m+1),[],[]⟩ (by simp);have hbo':∀b∈(Qp m n budget es Bb).bs,BOk (ksF es Bb (m+1)) n b:=hbo
 have hbf':(Qp m n budget es Bb).bs.map (fun b=>b.fs)=(Zb1 m (ksF es Bb (m+1)) (osF es Bb (m+1)) n budget).map (fun G=>G.fs):=(by rw[show(Qp m n budget es Bb).bs=_ from rfl];exact hbf);have hxl':(Qp m n budget es Bb).xs.length<=0+(Zbs (Zb1 m (ksF es Bb (m+1)) (osF es Bb (m+1)) n budget)).length*n:=hxl;have hxi':∀x∈(Qp m n budget es Bb).xs,XIn Bb n ([]++Zbs (Zb1 m (ksF es Bb (m+1)) (osF es Bb (m+1)) n budget)) x:=hxi;have hkeys:=ZkX m n budget es Bb;clear hbo hbf hxl hxi;generalize Qp m n budget es Bb=D at *;generalize Zb1 m (ksF es Bb (m+1)) (osF es Bb (m+1)) n budget=Gs at *
 have hbl:D.bs.length=Gs.length:=by have:=congrArg List.length hbf';simpa using this
 have hGb:∀b∈D.bs,∃G∈Gs,G.fs=b.fs:=fun b hb=>by have:b.fs∈D.bs.map (fun b=>b.fs):=List.mem_map.2 ⟨b,hb,rfl⟩;rw[hbf'] at this;obtain⟨G,hG,e⟩:=List.mem_map.1 this;exact⟨G,hG,e⟩
 have hbG:∀G∈Gs,∃b∈D.bs,b.fs=G.fs:=fun G hG=>by have:G.fs∈Gs.map (fun G=>G.fs):=List.mem_map.2 ⟨G,hG,rfl⟩;rw[<- hbf'] at this;obtain⟨b,hb,e⟩:=List.mem_map.1 this;exact⟨b,hb,e⟩
 have hin:∀f,f<m+1->∃G∈Gs,f∈G.fs:=fun f hf=>by have:f∈Zbs Gs:=hall.mem_iff.2 (List.mem_range.2 hf);exact List.mem_flatMap.1 this
 have hal:(Zbs Gs).length=m+1:=(by rw[hall.length_eq,List.length_range]);constructor;exact hn;rw[hks,hkl];omega;rw[hks,hkl];exact hm;rw[hbl];obtain⟨G,hG,_⟩:=hin 0 (by omega);exact List.length_pos_of_mem hG;rw[hbl];omega;rw[hks];exact hbo';intro b hb;obtain⟨G,hG,e⟩:=hGb b hb;rw[(hbo' b hb).sum,<- e,<- (hfit G hG).sum];exact(hfit G hG).bins;intro b hb;obtain⟨G,hG,e⟩:=hGb b hb;rw[<- e];exact hpos G hG;intro b hb;obtain⟨G,hG,e⟩:=hGb b hb;rw[<- e];have:=(hfit G hG).len;omega;intro b hb f hf;obtain⟨G,hG,e⟩:=hGb b hb;rw[hks,hkl];exact(hfit G hG).fs f (by rw[e];exact hf);intro f hf;rw[hks,hkl] at hf;obtain⟨G,hG,hfG⟩:=hin f hf;obtain⟨b,hb,e⟩:=hbG G hG;exact⟨b,hb,by rw[e];exact hfG⟩;intro i hi;rw[hks] at hi ⊢;rw[hkl] at hi;exact hma18 i hi
 intro i hi;rw[hks] at hi ⊢;rw[hkl] at hi;rw[hma i hi,ZaX es Bb hi];show Zij _ _<_;have:=ZjE (Bb.getD i []) (show 0<(es.getD i e0S).cnt+2 by omega);rw[Zl4] at this;omega;intro i hi;rw[hks] at hi ⊢;rw[hkl] at hi;rw[ZaX es Bb hi];exact hk.ok i hi;exact hkeys;rw[hal] at hxl';have:(m+1)*n<=4*200:=Nat.mul_le_mul hm hn;omega;intro x hx;obtain⟨h1,h2,h3⟩:=hxi' x hx;have hf:x.f<m+1:=List.mem_range.1 (hall.mem_iff.1 (by simpa using h2));refine⟨h1,by rw[hks,hkl];exact hf,?_⟩;rw[h3];exact Qh (hbin x.f hf x.row) (hma18 x.f hf)
section
variable {Ks:List KS} {Os:List (List Bool)} {Bb:List (List Nat)} {n:Nat}
end
end Go.Proofs.YtfcgnpchbcmdeaaGreat
