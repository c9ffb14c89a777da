import Derived.Test.YtfcgnpchbcmdeaaGreatZlbh
import Derived.Sort.LotA
namespace Go.Proofs.YtfcgnpchbcmdeaaGreat
open Go.RowKit Go.Sort
theorem ZoE(m:Nat)(Os:List (List Bool)):(Zcp m Os).Perm (List.range (m+1)):=by
 obtain⟨h1,_,h3⟩:=(insertionSort_holds (lt:=ltOf (Zdz (m:=m+1) Os)) (Zsb Os) (Zb4 m) 0 (m+1) (Qg _) (by simp[Zb4])).1;have e1:(insertionSort (ltOf (Zdz (m:=m+1) Os)) (Zb4 m) 0 (m+1)).extract 0 (m+1)=insertionSort (ltOf (Zdz (m:=m+1) Os)) (Zb4 m) 0 (m+1):=(by apply Array.extract_eq_self_of_le;rw[h1];simp[Zb4]);have e2:(Zb4 m).extract 0 (m+1)=Zb4 m:=(by apply Array.extract_eq_self_of_le;simp[Zb4]);rw[e1,e2] at h3;have h4:=h3.map (fun x=>x.val);unfold Zcp;refine h4.trans ?_
 have:(Zb4 m).toList.map (fun x=>x.val)=List.range (m+1):=by
  apply List.ext_getElem?;intro i;unfold Zb4;rw[List.getElem?_map,Array.getElem?_toList,Array.getElem?_ofFn]
  by_cases h:i<m+1
  rw[dif_pos h,List.getElem?_range h];rfl;rw[dif_neg h,List.getElem?_eq_none (by simp;omega)];rfl
 rw[this]
def Zbr(Gs:List GS):List Nat:=Gs.flatMap (fun G=>G.fs)
theorem Zft{α β:Type}(g:α->List β):∀(L:List α) (i:Nat) (y:α) (h:i<L.length) (t:List β),g y=g L[i]++t->((L.set i y).flatMap g).Perm (L.flatMap g++t)
 |[],i,y,h,t,e=>by simp at h
 |a::L,0,y,h,t,e=>by simp only[List.set_cons_zero,List.flatMap_cons];have e':g y=g a++t:=e;rw[e',List.append_assoc,List.append_assoc];exact List.Perm.append_left _ List.perm_append_comm
 |a::L,i+1,y,h,t,e=>by simp only[List.set_cons_succ,List.flatMap_cons,List.append_assoc];exact List.Perm.append_left _ (Zft g L i y (by simpa using h) t e)
theorem Zkp(Ks:List KS)(Os:List (List Bool))(n budget:Nat)(Gs:List GS)(f:Nat):(Zbr (ZL Ks Os n budget Gs f)).Perm (Zbr Gs++[f]):=by
 unfold ZL Zbr;split
 ·rename_i h
  exact Zft (fun G:GS=>G.fs) Gs _ _ h [f] (by
   rw[Qc,Qd h]
   rfl)
 rw[List.flatMap_append];simp[Zcc,Za4]
theorem Znp(Ks:List KS)(Os:List (List Bool))(n budget:Nat):∀(fs:List Nat) (Gs:List GS),(Zbr (fs.foldl (ZL Ks Os n budget) Gs)).Perm (Zbr Gs++fs)
 |[],Gs=>by simp
 |f::fs,Gs=>by simp only[List.foldl_cons];refine(Znp Ks Os n budget fs _).trans ?_;refine((Zkp Ks Os n budget Gs f).append_right fs).trans ?_;simp
theorem ZgX(m:Nat)(Ks:List KS)(Os:List (List Bool))(n budget:Nat):(Zbr (Za2 m Ks Os n budget)).Perm (List.range (m+1)):=by
 unfold Za2;refine(Znp Ks Os n budget _ _).trans ?_
 simpa [Zbr] using ZoE m Os
theorem ZgY(m:Nat)(Ks:List KS)(Os:List (List Bool))(n budget:Nat):(Zbr (Za2 m Ks Os n budget)).Nodup:=(ZgX m Ks Os n budget).nodup_iff.2 List.nodup_range
theorem Zkr(Ks:List KS)(Os:List (List Bool))(n budget:Nat)(Gs:List GS)(f:Nat)(h:∀G∈Gs,0<G.fs.length):∀G∈ZL Ks Os n budget Gs f,0<G.fs.length:=by
 intro G hG;unfold ZL at hG;split at hG
 ·rcases List.mem_or_eq_of_mem_set hG with hin|e
  exact h G hin;subst e;simp[Zcc]
 rcases List.mem_append.1 hG with hin|e
 exact h G hin;simp only[List.mem_cons,List.not_mem_nil,or_false] at e;subst e;simp[Zcc]
theorem Znr(Ks:List KS)(Os:List (List Bool))(n budget:Nat):∀(fs:List Nat) (Gs:List GS),(∀G∈Gs,0<G.fs.length)->∀G∈fs.foldl (ZL Ks Os n budget) Gs,0<G.fs.length
 |[],_,h=>h
 |f::fs,Gs,h=>Znr Ks Os n budget fs _ (Zkr Ks Os n budget Gs f h)
theorem Zp2(m:Nat)(Ks:List KS)(Os:List (List Bool))(n budget:Nat):∀G∈Za2 m Ks Os n budget,0<G.fs.length:=Znr Ks Os n budget _ _ (by simp)
def Zbt(L:List XS):Prop:=L.Pairwise (fun x y=>x.row≠y.row∨x.f≠y.f)
theorem ZeG(f:Nat)(O:List Bool)(B N:List Nat):∀k,∀x∈QE f O B N k,x.f=f/\x.row<k/\x.bin=B.getD x.row 0
 |0,x,h=>by simp[QE] at h
 | k+1,x,h=>by
  rw[QE,List.mem_append] at h
  rcases h with h|h
  have:=ZeG f O B N k x h;exact⟨this.1,by omega,this.2.2⟩;unfold ZoU at h;split at h;simp at h;subst h;exact⟨rfl,by simp,rfl⟩;simp at h
theorem ZiG(f:Nat)(O:List Bool)(B N:List Nat):∀k,Zbt (QE f O B N k)
 |0=>by simp[QE,Zbt]
 |k+1=>by unfold Zbt;rw[QE,List.pairwise_append];refine⟨ZiG f O B N k,by unfold ZoU;split<;>simp,fun x hx y hy=>?_⟩;have h1:=(ZeG f O B N k x hx).2.1;unfold ZoU at hy;split at hy;simp at hy;subst hy;left;simp;omega;simp at hy
theorem Zeq(Ks:List KS)(Os:List (List Bool))(Bb:List (List Nat))(n:Nat):∀(fs done:List Nat) (s:CS),Zbt s.xs->(∀x∈s.xs,x.f∈done)->(done++fs).Nodup->Zbt (fs.foldl (Zi Ks Os Bb n) s).xs/\∀x∈(fs.foldl (Zi Ks Os Bb n) s).xs,x.f∈done++fs
 |[],done,s,h1,h2,_=>⟨h1,by simpa using h2⟩
 | f::fs,done,s,h1,h2,h3=>by
  simp only[List.foldl_cons];have e:done++f::fs=(done++[f])++fs:=(by simp);rw[e] at h3 ⊢;refine Zeq Ks Os Bb n fs (done++[f]) _ ?_ ?_ h3;show Zbt (s.xs++QE f _ _ _ _);unfold Zbt;rw[List.pairwise_append];refine⟨h1,ZiG _ _ _ _ _,fun x hx y hy=>.inr ?_⟩;rw[(ZeG _ _ _ _ _ y hy).1];intro he;have hm:=h2 x hx;rw[he] at hm;have:=(List.nodup_append.1 (List.nodup_append.1 h3).1).2.2;exact this f hm f (by simp) rfl;intro x hx
  rcases List.mem_append.1 hx with hx|hx
  exact List.mem_append_left _ (h2 x hx);rw[(ZeG _ _ _ _ _ x hx).1];simp
theorem Zif(Os:List (List Bool))(Bb:List (List Nat))(n:Nat):∀(Gs:List GS) (done:List Nat) (D:QP),Zbt D.xs->(∀x∈D.xs,x.f∈done)->(done++Zbr Gs).Nodup->Zbt (Gs.foldl (Zbc Os Bb n) D).xs
 |[],done,D,h1,_,_=>h1
 |G::Gs,done,D,h1,h2,h3=>by simp only[List.foldl_cons];have e:done++Zbr (G::Gs)=(done++G.fs)++Zbr Gs:=(by simp[Zbr]);rw[e] at h3;obtain⟨a,b⟩:=Zeq D.ks Os Bb n G.fs done ⟨List.replicate n 0,D.xs,1⟩ h1 h2 (List.nodup_append.1 h3).1;exact Zif Os Bb n Gs (done++G.fs) _ a b h3
theorem Zl5(m n budget:Nat)(es:List ES)(Bb:List (List Nat)):Zbt (YD m n budget es Bb).xs:=
 Zif _ _ _ _ [] _ (by simp[Zbt]) (by simp) (by simpa using ZgY m _ _ n budget)
theorem Zmz{L X Y:List XS}(hk:Zbt L)(h1:X.Perm L)(h2:ZaE X)(h3:Y.Perm L)(h4:ZaE Y):X=Y:=by
 refine List.Perm.eq_of_pairwise (le:=fun x y:XS=>x.row<y.row∨x.row=y.row/\x.f<=y.f) (fun a b ha hb hab hba=>?_) h2 h4 (h1.trans h3.symm);have ka:a∈L:=h1.subset ha;have kb:b∈L:=h3.subset hb;obtain⟨i,hi,rfl⟩:=List.getElem_of_mem ka;obtain⟨j,hj,rfl⟩:=List.getElem_of_mem kb
 rcases Nat.lt_trichotomy i j with h|h|h
 have:=List.pairwise_iff_getElem.1 hk i j hi hj h;omega;subst h;rfl;have:=List.pairwise_iff_getElem.1 hk j i hj hi h;omega
end Go.Proofs.YtfcgnpchbcmdeaaGreat
namespace Go.Proofs.YtfcgnpchbcmdeaaGreat
open Go.RowKit
theorem Zrn(off h:Nat)(O:List Bool)(B N:List Nat)(k:Nat)(hN:∀x∈N,x<off)(h0:0<off)(hB:∀r,B.getD r 0<h):∀x∈putN off O B N k,x<off+h:=by
 intro x hx;unfold putN at hx
 have hg:∀r,N.getD r 0<off:=fun r=>by
  rw[Qc]
  rcases Nat.lt_or_ge r N.length with h1|h1
  rw[Qd h1];exact hN _ (Qf h1);rw[List.getElem?_eq_none h1];exact h0
 rcases List.mem_append.1 hx with hx|hx
 obtain⟨r,_,rfl⟩:=List.mem_map.1 hx;unfold Zef;split;have:=hB r;omega;have:=hg r;omega;have:=hN x (List.mem_of_mem_drop hx);omega
structure Zph(n:Nat)(s:CS):Prop where
 len:s.N.length=n
 pos:0<s.off
 lt:∀x∈s.N,x<s.off
theorem Zgw{Ks:List KS}{Os:List (List Bool)}{Bb:List (List Nat)}{n:Nat}:∀(fs:List Nat) (s:CS),(∀f∈fs,∀r,(Bb.getD f []).getD r 0<(Ks.getD f ZB).many)->Zph n s->Zph n (fs.foldl (Zi Ks Os Bb n) s)
 |[],s,_,h=>h
 |f::fs,s,hb,h=>by simp only[List.foldl_cons];refine Zgw fs _ (fun g hg=>hb g (by simp[hg])) ⟨?_,?_,?_⟩;show(putN _ _ _ _ n).length=n;rw[Zhc _ _ _ _ (by rw[h.len];exact Qa _)];exact h.len;show 0<s.off+_;have:=h.pos;omega;exact Zrn _ _ _ _ _ _ h.lt h.pos (hb f (by simp))
theorem Znb{Ks:List KS}{Os:List (List Bool)}{Bb:List (List Nat)}{n:Nat}{xs:List XS}{fs:List Nat}(hb:∀f∈fs,∀r,(Bb.getD f []).getD r 0<(Ks.getD f ZB).many):Zph n (Zap Ks Os Bb n xs fs):=
 Zgw fs _ hb ⟨by simp,by simp,by intro x hx;simp at hx;simp[hx.2]⟩
structure BOk(Ks:List KS)(n:Nat)(b:BS):Prop where
 len:b.N.length=n
 le:∀x∈b.N,x<=b.g
 sum:b.g=QO Ks b.fs
theorem Zi2{Os:List (List Bool)}{Bb:List (List Nat)}{n:Nat}{Ks:List KS}:∀(Gs:List GS) (D:QP),D.ks=Ks->(∀G∈Gs,∀f∈G.fs,∀r,(Bb.getD f []).getD r 0<(Ks.getD f ZB).many)->(∀b∈D.bs,BOk Ks n b)->(∀b∈(Gs.foldl (Zbc Os Bb n) D).bs,BOk Ks n b)/\(Gs.foldl (Zbc Os Bb n) D).bs.map (fun b=>b.fs)=D.bs.map (fun b=>b.fs)++Gs.map (fun G=>G.fs)
 |[],D,_,_,h=>⟨h,by simp⟩
 | G ::Gs,D,hk,hb,h=>by
  simp only[List.foldl_cons]
  obtain⟨a,b⟩:=Zi2 (Os:=Os) Gs (Zbc Os Bb n D G) hk (fun g hg=>hb g (by simp[hg])) (fun b hb2=>by
   rcases List.mem_append.1 hb2 with h1|h1
   exact h b h1;simp only[List.mem_cons,List.not_mem_nil,or_false] at h1;subst h1;have hc:Zph n (Zap D.ks Os Bb n D.xs G.fs):=Znb (by rw[hk];exact hb G (by simp));refine⟨hc.len,fun x hx=>?_,?_⟩;have:=hc.lt x hx;show x<=_-1;omega;show _-1=QO Ks G.fs
   rw[Zgv,hk];omega)
  refine⟨a,?_⟩;rw[b];simp[Zbc]
def Z1(D:QP)(f:Nat):Nat:=D.bs.findIdx (fun b=>decide (f∈b.fs))
def ZaY(D:QP)(f:Nat):Nat:=(D.bs.getD (Z1 D f) Z0).fs.idxOf f
theorem Znz{D:QP}{f:Nat}(hall:∃b∈D.bs,f∈b.fs)(hfl:∀b∈D.bs,b.fs.length<=100)(hfk:∀b∈D.bs,∀x∈b.fs,x<D.ks.length)(hmn:∀i,i<D.ks.length->(D.ks.getD i ZB).many<=100):Zcb D f (Z1 D f) (ZaY D f):=by
 obtain⟨b,hb,hf⟩:=hall;have hlt:Z1 D f<D.bs.length:=List.findIdx_lt_length_of_exists ⟨b,hb,by simpa using hf⟩
 have hg:∀i (h:i<D.bs.length),D.bs.getD i Z0=D.bs[i]:=fun i h=>by rw[Qc,Qd h];rfl
 have hin:f∈(D.bs.getD (Z1 D f) Z0).fs:=(by rw[hg _ hlt];have:=List.findIdx_getElem (p:=fun b:BS=>decide (f∈b.fs)) (w:=hlt);exact of_decide_eq_true this);have hpl:ZaY D f<(D.bs.getD (Z1 D f) Z0).fs.length:=List.idxOf_lt_length_of_mem hin;refine⟨hlt,hpl,?_,?_,?_,?_,hmn⟩;rw[Qc,Qd hpl];exact List.getElem_idxOf hpl
 ·intro i j hi hj hor
  rcases hor with h1|h1
  have h2:=List.not_of_lt_findIdx (p:=fun b:BS=>decide (f∈b.fs)) (xs:=D.bs) h1;intro e;refine absurd ?_ (of_decide_eq_false h2);rw[hg i (by omega)] at e hj;rw[Qc,Qd hj] at e;exact Eq.subst (motive:=fun z=>z∈_) e (Qf _)
  rcases Nat.lt_or_ge i (Z1 D f) with h3|h3
  have h2:=List.not_of_lt_findIdx (p:=fun b:BS=>decide (f∈b.fs)) (xs:=D.bs) h3;intro e;refine absurd ?_ (of_decide_eq_false h2);rw[hg i (by omega)] at e hj;rw[Qc,Qd hj] at e;exact Eq.subst (motive:=fun z=>z∈_) e (Qf _);have e:i=Z1 D f:=(by omega);subst e;intro e2;rw[Qc,Qd hj] at e2;have h4:=List.not_of_lt_findIdx (p:=(· ==f)) (xs:=(D.bs.getD (Z1 D f) Z0).fs) (i:=j) h1;simp only[beq_eq_false_iff_ne] at h4;exact h4 e2
 intro i hi;rw[hg i (by omega)];exact hfl _ (Qf _);intro i j hi hj;rw[hg i (by omega)] at hj ⊢;rw[Qc,Qd hj];exact hfk _ (Qf _) _ (Qf _)
def XIn(Bb:List (List Nat))(n:Nat)(fs:List Nat)(x:XS):Prop:=x.row<n/\x.f∈fs/\x.bin=(Bb.getD x.f []).getD x.row 0
theorem Zgx(Ks:List KS)(Os:List (List Bool))(Bb:List (List Nat))(n:Nat):∀(fs done:List Nat) (s:CS),(∀x∈s.xs,XIn Bb n done x)->(fs.foldl (Zi Ks Os Bb n) s).xs.length<=s.xs.length+fs.length*n/\∀x∈(fs.foldl (Zi Ks Os Bb n) s).xs,XIn Bb n (done++fs) x
 |[],done,s,h=>⟨by simp,by simpa using h⟩
 | f ::fs,done,s,h=>by
  simp only[List.foldl_cons]
  obtain⟨a,b⟩:=Zgx Ks Os Bb n fs (done++[f]) (Zi Ks Os Bb n s f) (fun x hx=>by
   rcases List.mem_append.1 hx with hx|hx
   obtain⟨h1,h2,h3⟩:=h x hx;exact⟨h1,List.mem_append_left _ h2,h3⟩;obtain⟨h1,h2,h3⟩:=ZeG _ _ _ _ _ x hx
   exact⟨h2,by rw[h1];simp,by rw[h1];exact h3⟩)
  refine⟨?_,by rw[show done++f::fs=(done++[f])++fs by simp];exact b⟩;have h1:(Zi Ks Os Bb n s f).xs.length<=s.xs.length+n:=(by show(s.xs++QE _ _ _ _ _).length<=_;rw[Qe];have:=ZeH f (Os.getD f []) (Bb.getD f []) s.N n;omega);rw[List.length_cons,Nat.succ_mul];omega
theorem ZmY(Os:List (List Bool))(Bb:List (List Nat))(n:Nat):∀(Gs:List GS) (done:List Nat) (D:QP),(∀x∈D.xs,XIn Bb n done x)->(Gs.foldl (Zbc Os Bb n) D).xs.length<=D.xs.length+(Zbr Gs).length*n/\∀x∈(Gs.foldl (Zbc Os Bb n) D).xs,XIn Bb n (done++Zbr Gs) x
 |[],done,D,h=>⟨by simp,by simpa [Zbr] using h⟩
 |G::Gs,done,D,h=>by simp only[List.foldl_cons];obtain⟨a,b⟩:=Zgx D.ks Os Bb n G.fs done ⟨List.replicate n 0,D.xs,1⟩ h;obtain⟨c,d⟩:=ZmY Os Bb n Gs (done++G.fs) (Zbc Os Bb n D G) b;have e:Zbr (G::Gs)=G.fs++Zbr Gs:=rfl;refine⟨?_,by rw[e,<- List.append_assoc];exact d⟩;have h1:(Zbc Os Bb n D G).xs.length<=D.xs.length+G.fs.length*n:=a;rw[e,Qe,Nat.add_mul];omega
structure Zfo(n:Nat)(D:QP):Prop where
 n2:n<=200
 k0:0<D.ks.length
 k4:D.ks.length<=4
 b0:0<D.bs.length
 b4:D.bs.length<=4
 bok:∀b∈D.bs,BOk D.ks n b
 g40:∀b∈D.bs,b.g<=40
 f0:∀b∈D.bs,0<b.fs.length
 f4:∀b∈D.bs,b.fs.length<=4
 fk:∀b∈D.bs,∀f∈b.fs,f<D.ks.length
 all:∀f,f<D.ks.length->∃b∈D.bs,f∈b.fs
 mn:∀i,i<D.ks.length->(D.ks.getD i ZB).many<=18
 dn:∀i,i<D.ks.length->(D.ks.getD i ZB).d<(D.ks.getD i ZB).many
 edg:∀i,i<D.ks.length->ZdI (D.ks.getD i ZB).e
 keys:Zbt D.xs
 xl:D.xs.length<=800
 xin:∀x∈D.xs,x.row<n/\x.f<D.ks.length/\x.bin<18
theorem Zky{m n budget:Nat}{es:List ES}{Bb:List (List Nat)}(hm:m+1<=4)(hn:n<=200)(hk:Zid m n es Bb):Zfo n (YD m n budget es Bb):=by
 have hks:(YD m n budget es Bb).ks=Qn es Bb (m+1):=ZcI _ _ _ _ _;have hkl:(Qn es Bb (m+1)).length=m+1:=Qu es Bb (m+1)
 have hma:∀i,i<m+1->((Qn es Bb (m+1)).getD i ZB).many=(es.getD i e0S).cnt+2:=fun i hi=>by rw[Zae es Bb hi];rfl
 have hma18:∀i,i<m+1->((Qn es Bb (m+1)).getD i ZB).many<=18:=fun i hi=>by rw[hma i hi];have:=hk.cn i hi;omega
 have hO:∀i,i<m+1->((osF es Bb (m+1)).getD i []).length=n:=fun i hi=>by rw[ZeE es Bb hi];unfold oF Zcq;rw[List.length_map];exact hk.lb i hi
 have hbin:∀f,f<m+1->∀r,(Bb.getD f []).getD r 0<((Qn es Bb (m+1)).getD f ZB).many:=fun f hf r=>by
  rw[hma f hf,Qc]
  rcases Nat.lt_or_ge r (Bb.getD f []).length with h1|h1
  rw[Qd h1];exact hk.bin f hf _ (Qf h1);rw[List.getElem?_eq_none h1];simp
 obtain⟨hfit,hgl⟩:=Zko (budget:=budget) hO (fun i hi=>Nat.le_trans (hma18 i hi) (by decide));have hall:=ZgX m (Qn es Bb (m+1)) (osF es Bb (m+1)) n budget;have hpos:=Zp2 m (Qn es Bb (m+1)) (osF es Bb (m+1)) n budget;obtain⟨hbo,hbf⟩:=Zi2 (Os:=osF es Bb (m+1)) (Bb:=Bb) (n:=n) (Ks:=Qn es Bb (m+1)) (Za2 m (Qn es Bb (m+1)) (osF es Bb (m+1)) n budget) ⟨Qn es Bb (m+1),[],[]⟩ rfl (fun G hG f hf=>hbin f ((hfit G hG).fs f hf)) (by simp);obtain⟨hxl,hxi⟩:=ZmY (osF es Bb (m+1)) Bb n (Za2 m (Qn es Bb (m+1)) (osF es Bb (m+1)) n budget) [] ⟨Qn es Bb (m+1),[],[]⟩ (by simp);have hbo':∀b∈(YD m n budget es Bb).bs,BOk (Qn es Bb (m+1)) n b:=hbo
 have hbf':(YD m n budget es Bb).bs.map (fun b=>b.fs)=(Za2 m (Qn es Bb (m+1)) (osF es Bb (m+1)) n budget).map (fun G=>G.fs):=(by rw[show(YD m n budget es Bb).bs=_ from rfl];exact hbf);have hxl':(YD m n budget es Bb).xs.length<=0+(Zbr (Za2 m (Qn es Bb (m+1)) (osF es Bb (m+1)) n budget)).length*n:=hxl;have hxi':∀x∈(YD m n budget es Bb).xs,XIn Bb n ([]++Zbr (Za2 m (Qn es Bb (m+1)) (osF es Bb (m+1)) n budget)) x:=hxi;have hkeys:=Zl5 m n budget es Bb;clear hbo hbf hxl hxi;generalize YD m n budget es Bb=D at *;generalize Za2 m (Qn es Bb (m+1)) (osF es Bb (m+1)) n budget=Gs at *
 have hbl:D.bs.length=Gs.length:=by have:=congrArg List.length hbf';simpa using this
 have hGb:∀b∈D.bs,∃G∈Gs,G.fs=b.fs:=fun b hb=>by have:b.fs∈D.bs.map (fun b=>b.fs):=List.mem_map.2 ⟨b,hb,rfl⟩;rw[hbf'] at this;obtain⟨G,hG,e⟩:=List.mem_map.1 this;exact⟨G,hG,e⟩
 have hbG:∀G∈Gs,∃b∈D.bs,b.fs=G.fs:=fun G hG=>by have:G.fs∈Gs.map (fun G=>G.fs):=List.mem_map.2 ⟨G,hG,rfl⟩;rw[<- hbf'] at this;obtain⟨b,hb,e⟩:=List.mem_map.1 this;exact⟨b,hb,e⟩
 have hin:∀f,f<m+1->∃G∈Gs,f∈G.fs:=fun f hf=>by have:f∈Zbr Gs:=hall.mem_iff.2 (List.mem_range.2 hf);exact List.mem_flatMap.1 this
 have hal:(Zbr Gs).length=m+1:=(by rw[hall.length_eq,List.length_range]);constructor;exact hn;rw[hks,hkl];omega;rw[hks,hkl];exact hm;rw[hbl];obtain⟨G,hG,_⟩:=hin 0 (by omega);exact List.length_pos_of_mem hG;rw[hbl];omega;rw[hks];exact hbo';intro b hb;obtain⟨G,hG,e⟩:=hGb b hb;rw[(hbo' b hb).sum,<- e,<- (hfit G hG).sum];exact(hfit G hG).bins;intro b hb;obtain⟨G,hG,e⟩:=hGb b hb;rw[<- e];exact hpos G hG;intro b hb;obtain⟨G,hG,e⟩:=hGb b hb;rw[<- e];have:=(hfit G hG).len;omega;intro b hb f hf;obtain⟨G,hG,e⟩:=hGb b hb;rw[hks,hkl];exact(hfit G hG).fs f (by rw[e];exact hf);intro f hf;rw[hks,hkl] at hf;obtain⟨G,hG,hfG⟩:=hin f hf;obtain⟨b,hb,e⟩:=hbG G hG;exact⟨b,hb,by rw[e];exact hfG⟩;intro i hi;rw[hks] at hi ⊢;rw[hkl] at hi;exact hma18 i hi
 intro i hi;rw[hks] at hi ⊢;rw[hkl] at hi;rw[hma i hi,Zae es Bb hi];show Zjd _ _<_;have:=Zg8 (Bb.getD i []) (show 0<(es.getD i e0S).cnt+2 by omega);rw[Zje] at this;omega;intro i hi;rw[hks] at hi ⊢;rw[hkl] at hi;rw[Zae es Bb hi];exact hk.ok i hi;exact hkeys;rw[hal] at hxl';have:(m+1)*n<=4*200:=Nat.mul_le_mul hm hn;omega;intro x hx;obtain⟨h1,h2,h3⟩:=hxi' x hx;have hf:x.f<m+1:=List.mem_range.1 (hall.mem_iff.1 (by simpa using h2));refine⟨h1,by rw[hks,hkl];exact hf,?_⟩;rw[h3];exact Qh (hbin x.f hf x.row) (hma18 x.f hf)
theorem ZkO(off:Nat)(O:List Bool)(B N:List Nat){n r:Nat}(hr:r<n):(putN off O B N n).getD r 0=Zef off O B N r:=by unfold putN;rw[Qc,List.getElem?_append_left (by simpa using hr)];simp[List.getElem?_range hr]
theorem ZkB(f:Nat)(O:List Bool)(B N:List Nat):∀(k:Nat) (x:XS),x∈QE f O B N k↔x.f=f/\x.row<k/\O.getD x.row false=true/\N.getD x.row 0≠0/\x.bin=B.getD x.row 0
 |0,x=>by simp[QE]
 | k+1,x=>by
  rw[QE,List.mem_append,ZkB f O B N k];obtain⟨xr,xf,xb⟩:=x;simp only[ZoU];constructor;rintro(⟨h1,h2,h3⟩|h);exact⟨h1,by omega,h3⟩;split at h;rename_i hc;simp only[List.mem_singleton,XS.mk.injEq] at h;obtain⟨rfl,rfl,rfl⟩:=h;exact⟨rfl,by omega,hc.1,hc.2,rfl⟩;simp at h;rintro⟨h1,h2,h3,h4,h5⟩
  rcases Nat.lt_or_ge xr k with h|h
  exact .inl ⟨h1,h,h3,h4,h5⟩;have e:xr=k:=(by omega);subst e;right;rw[if_pos ⟨h3,h4⟩];simp[h1,h5]
section
variable {Ks:List KS} {Os:List (List Bool)} {Bb:List (List Nat)} {n:Nat}
theorem Ze2:∀(fs:List Nat) (s:CS),0<s.off->∀r,r<n->(s.N.getD r 0≠0->(fs.foldl (Zi Ks Os Bb n) s).N.getD r 0=s.N.getD r 0)/\(s.N.getD r 0=0->(fs.foldl (Zi Ks Os Bb n) s).N.getD r 0=0∨s.off<=(fs.foldl (Zi Ks Os Bb n) s).N.getD r 0)
 |[],s,_,r,_=>⟨fun _=>rfl,fun h=>.inl h⟩
 | f::fs,s,h0,r,hr=>by
  simp only[List.foldl_cons];have hg:(Zi Ks Os Bb n s f).N.getD r 0=Zef s.off (Os.getD f []) (Bb.getD f []) s.N r:=ZkO _ _ _ _ hr;have ho:(Zi Ks Os Bb n s f).off=s.off+(Ks.getD f ZB).many:=rfl;obtain⟨a,b⟩:=Ze2 fs (Zi Ks Os Bb n s f) (by rw[ho];omega) r hr;constructor;intro h;have e:(Zi Ks Os Bb n s f).N.getD r 0=s.N.getD r 0:=(by rw[hg];unfold Zef;rw[if_neg (fun hc=>h hc.2)]);rw[a (by rw[e];exact h),e];intro h
  by_cases hO:(Os.getD f []).getD r false=true
  have e:(Zi Ks Os Bb n s f).N.getD r 0=s.off+(Bb.getD f []).getD r 0:=(by rw[hg];unfold Zef;rw[if_pos ⟨hO,h⟩]);right;rw[a (by rw[e];omega),e];omega;have e:(Zi Ks Os Bb n s f).N.getD r 0=0:=by rw[hg];unfold Zef;rw[if_neg (fun hc=>hO hc.1)];exact h
  rcases b e with h1|h1
  exact .inl h1;right;rw[ho] at h1;omega
theorem ZpH:∀(fs:List Nat) (s t:CS),s.N=t.N->s.off=t.off->(fs.foldl (Zi Ks Os Bb n) s).N=(fs.foldl (Zi Ks Os Bb n) t).N/\(fs.foldl (Zi Ks Os Bb n) s).off=(fs.foldl (Zi Ks Os Bb n) t).off
 |[],_,_,h1,h2=>⟨h1,h2⟩
 |f::fs,s,t,h1,h2=>by simp only[List.foldl_cons];refine ZpH fs _ _ ?_ ?_;show putN _ _ _ _ _=putN _ _ _ _ _;rw[h1,h2];show s.off+_=t.off+_;rw[h2]
def Zb0(Ks:List KS)(Os:List (List Bool))(Bb:List (List Nat))(n:Nat)(fs:List Nat):List Nat:=(Zap Ks Os Bb n [] fs).N
theorem ZpG(xs:List XS)(fs:List Nat):(Zap Ks Os Bb n xs fs).N=Zb0 Ks Os Bb n fs:=(ZpH fs ⟨List.replicate n 0,xs,1⟩ ⟨List.replicate n 0,[],1⟩ rfl rfl).1
theorem Zns:∀(fs:List Nat) (s:CS) (x:XS),x∈(fs.foldl (Zi Ks Os Bb n) s).xs↔x∈s.xs∨∃A C,fs=A++x.f::C/\x.row<n/\(Os.getD x.f []).getD x.row false=true/\(A.foldl (Zi Ks Os Bb n) s).N.getD x.row 0≠0/\x.bin=(Bb.getD x.f []).getD x.row 0
 |[],s,x=>by simp
 | f ::fs,s,x=>by
  simp only[List.foldl_cons];rw[Zns fs (Zi Ks Os Bb n s f) x];have e:x∈(Zi Ks Os Bb n s f).xs↔x∈s.xs∨x∈QE f (Os.getD f []) (Bb.getD f []) s.N n:=List.mem_append;rw[e,ZkB];constructor;rintro((h|⟨rfl,h⟩)|⟨A,C,rfl,h⟩);exact .inl h;exact .inr ⟨[],fs,rfl,h⟩;exact .inr ⟨f::A,C,rfl,h⟩;rintro(h|⟨A,C,h1,h⟩);exact .inl (.inl h)
  cases A with
  | nil=>
   simp only[List.nil_append,List.cons.injEq] at h1;obtain⟨rfl,rfl⟩:=h1;exact .inl (.inr ⟨rfl,h⟩)
  | cons g A=>
   simp only[List.cons_append,List.cons.injEq] at h1;obtain⟨rfl,rfl⟩:=h1;exact .inr ⟨A,C,rfl,h⟩
theorem Zkz:∀(Gs:List GS) (D:QP) (x:XS),D.ks=Ks->(x∈(Gs.foldl (Zbc Os Bb n) D).xs↔x∈D.xs∨∃G∈Gs,∃A C,G.fs=A++x.f::C/\x.row<n/\(Os.getD x.f []).getD x.row false=true/\(Zb0 Ks Os Bb n A).getD x.row 0≠0/\x.bin=(Bb.getD x.f []).getD x.row 0)
 |[],D,x,_=>by simp
 | G::Gs,D,x,hk=>by
  simp only[List.foldl_cons];rw[Zkz Gs (Zbc Os Bb n D G) x hk];have e:x∈(Zbc Os Bb n D G).xs↔x∈(G.fs.foldl (Zi Ks Os Bb n) ⟨List.replicate n 0,D.xs,1⟩).xs:=(by rw[<- hk];rfl);rw[e,Zns];have eN:∀A,(A.foldl (Zi Ks Os Bb n) ⟨List.replicate n 0,D.xs,1⟩).N=Zb0 Ks Os Bb n A:=fun A=>ZpG D.xs A;constructor;rintro((h|⟨A,C,h1,h2,h3,h4,h5⟩)|⟨G',hG,h⟩);exact .inl h;exact .inr ⟨G,by simp,A,C,h1,h2,h3,by rw[eN] at h4;exact h4,h5⟩;exact .inr ⟨G',by simp[hG],h⟩;rintro(h|⟨G',hG,A,C,h1,h2,h3,h4,h5⟩);exact .inl (.inl h)
  rcases List.mem_cons.1 hG with rfl|hG
  exact .inl (.inr ⟨A,C,h1,h2,h3,by rw[eN];exact h4,h5⟩);exact .inr ⟨G',hG,A,C,h1,h2,h3,h4,h5⟩
theorem Zps:∀(Gs:List GS) (D:QP),D.ks=Ks->(∀b∈D.bs,b.N=Zb0 Ks Os Bb n b.fs)->∀b∈(Gs.foldl (Zbc Os Bb n) D).bs,b.N=Zb0 Ks Os Bb n b.fs
 |[],_,_,h=>h
 | G::Gs,D,hk,h=>by
  simp only[List.foldl_cons];refine Zps Gs (Zbc Os Bb n D G) hk (fun b hb=>?_)
  rcases List.mem_append.1 hb with h1|h1
  exact h b h1;simp only[List.mem_cons,List.not_mem_nil,or_false] at h1;subst h1;show(Zap D.ks Os Bb n D.xs G.fs).N=_;rw[hk];exact ZpG _ _
end
theorem Zfo.seat{n:Nat}{D:QP}(h:Zfo n D){f:Nat}(hf:f<D.ks.length):Zcb D f (Z1 D f) (ZaY D f):=
 Znz (h.all f hf) (fun b hb=>Nat.le_trans (h.f4 b hb) (by decide)) h.fk (fun i hi=>Nat.le_trans (h.mn i hi) (by decide))
end Go.Proofs.YtfcgnpchbcmdeaaGreat
