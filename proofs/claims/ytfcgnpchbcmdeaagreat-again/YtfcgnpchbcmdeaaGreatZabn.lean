import Derived.Test.YtfcgnpchbcmdeaaGreatZabi
import Derived.Sort.LotA
namespace Go.Proofs.YtfcgnpchbcmdeaaGreat
set_option linter.unusedSimpArgs false
open Go.RowKit Go.Sort
theorem Znx(m:Nat)(Os:List (List Bool)):(Zcp m Os).Perm (List.range (m+1)):=by
 obtain⟨h1,_,h3⟩:=(insertionSort_holds (lt:=ltOf (ZdD (m:=m+1) Os)) (ZrC Os) (Zb6 m) 0 (m+1) (Qg _) (by simp[Zb6])).1;have e1:(insertionSort (ltOf (ZdD (m:=m+1) Os)) (Zb6 m) 0 (m+1)).extract 0 (m+1)=insertionSort (ltOf (ZdD (m:=m+1) Os)) (Zb6 m) 0 (m+1):=(by apply Array.extract_eq_self_of_le;rw[h1];simp[Zb6]);have e2:(Zb6 m).extract 0 (m+1)=Zb6 m:=(by apply Array.extract_eq_self_of_le;simp[Zb6]);rw[e1,e2] at h3;have h4:=h3.map (fun x=>x.val);unfold Zcp;refine h4.trans ?_
 have:(Zb6 m).toList.map (fun x=>x.val)=List.range (m+1):=by
  apply List.ext_getElem?;intro i;unfold Zb6;rw[List.getElem?_map,Array.getElem?_toList,Array.getElem?_ofFn]
  by_cases h:i<m+1
  rw[dif_pos h,List.getElem?_range h];rfl;rw[dif_neg h,List.getElem?_eq_none (by simp;omega)];rfl
 rw[this]
def Zbv(Gs:List GS):List Nat:=Gs.flatMap (fun G=>G.fs)
theorem Zfs{α β:Type}(g:α->List β):∀(L:List α) (i:Nat) (y:α) (h:i<L.length) (t:List β),g y=g L[i]++t->((L.set i y).flatMap g).Perm (L.flatMap g++t)
 |[],i,y,h,t,e=>by simp at h
 |a::L,0,y,h,t,e=>by simp only[List.set_cons_zero,List.flatMap_cons];have e':g y=g a++t:=e;rw[e',List.append_assoc,List.append_assoc];exact List.Perm.append_left _ List.perm_append_comm
 |a::L,i+1,y,h,t,e=>by simp only[List.set_cons_succ,List.flatMap_cons,List.append_assoc];exact List.Perm.append_left _ (Zfs g L i y (by simpa using h) t e)
theorem ZkC(Ks:List KS)(Os:List (List Bool))(n budget:Nat)(Gs:List GS)(f:Nat):(Zbv (ZP Ks Os n budget Gs f)).Perm (Zbv Gs++[f]):=by
 unfold ZP Zbv;split
 ·rename_i h
  exact Zfs (fun G:GS=>G.fs) Gs _ _ h [f] (by
   rw[Qc,Qd h]
   rfl)
 rw[List.flatMap_append];simp[Zcm,Za5]
theorem Zm8(Ks:List KS)(Os:List (List Bool))(n budget:Nat):∀(fs:List Nat) (Gs:List GS),(Zbv (fs.foldl (ZP Ks Os n budget) Gs)).Perm (Zbv Gs++fs)
 |[],Gs=>by simp
 |f::fs,Gs=>by simp only[List.foldl_cons];refine(Zm8 Ks Os n budget fs _).trans ?_;refine((ZkC Ks Os n budget Gs f).append_right fs).trans ?_;simp
theorem Zej(m:Nat)(Ks:List KS)(Os:List (List Bool))(n budget:Nat):(Zbv (Zau m Ks Os n budget)).Perm (List.range (m+1)):=by
 unfold Zau;refine(Zm8 Ks Os n budget _ _).trans ?_
 simpa [Zbv] using Znx m Os
theorem ZgT(m:Nat)(Ks:List KS)(Os:List (List Bool))(n budget:Nat):(Zbv (Zau m Ks Os n budget)).Nodup:=(Zej m Ks Os n budget).nodup_iff.2 List.nodup_range
theorem ZkV(Ks:List KS)(Os:List (List Bool))(n budget:Nat)(Gs:List GS)(f:Nat)(h:∀G∈Gs,0<G.fs.length):∀G∈ZP Ks Os n budget Gs f,0<G.fs.length:=by
 intro G hG;unfold ZP at hG;split at hG
 ·rcases List.mem_or_eq_of_mem_set hG with hin|e
  exact h G hin;subst e;simp[Zcm]
 rcases List.mem_append.1 hG with hin|e
 exact h G hin;simp only[List.mem_cons,List.not_mem_nil,or_false] at e;subst e;simp[Zcm]
theorem ZmL(Ks:List KS)(Os:List (List Bool))(n budget:Nat):∀(fs:List Nat) (Gs:List GS),(∀G∈Gs,0<G.fs.length)->∀G∈fs.foldl (ZP Ks Os n budget) Gs,0<G.fs.length
 |[],_,h=>h
 |f::fs,Gs,h=>ZmL Ks Os n budget fs _ (ZkV Ks Os n budget Gs f h)
theorem Zp8(m:Nat)(Ks:List KS)(Os:List (List Bool))(n budget:Nat):∀G∈Zau m Ks Os n budget,0<G.fs.length:=ZmL Ks Os n budget _ _ (by simp)
def ZbH(L:List XS):Prop:=L.Pairwise (fun x y=>x.row≠y.row∨x.f≠y.f)
theorem Zep(f:Nat)(O:List Bool)(B N:List Nat):∀k,∀x∈QL f O B N k,x.f=f/\x.row<k/\x.bin=B.getD x.row 0
 |0,x,h=>by simp[QL] at h
 | k+1,x,h=>by
  rw[QL,List.mem_append] at h
  rcases h with h|h
  have:=Zep f O B N k x h;exact⟨this.1,by omega,this.2.2⟩;unfold Zn0 at h;split at h;simp at h;subst h;exact⟨rfl,by simp,rfl⟩;simp at h
theorem Zie(f:Nat)(O:List Bool)(B N:List Nat):∀k,ZbH (QL f O B N k)
 |0=>by simp[QL,ZbH]
 |k+1=>by unfold ZbH;rw[QL,List.pairwise_append];refine⟨Zie f O B N k,by unfold Zn0;split<;>simp,fun x hx y hy=>?_⟩;have h1:=(Zep f O B N k x hx).2.1;unfold Zn0 at hy;split at hy;simp at hy;subst hy;left;simp;omega;simp at hy
theorem Zeg(Ks:List KS)(Os:List (List Bool))(Bb:List (List Nat))(n:Nat):∀(fs done:List Nat) (s:CS),ZbH s.xs->(∀x∈s.xs,x.f∈done)->(done++fs).Nodup->ZbH (fs.foldl (Zh Ks Os Bb n) s).xs/\∀x∈(fs.foldl (Zh Ks Os Bb n) s).xs,x.f∈done++fs
 |[],done,s,h1,h2,_=>⟨h1,by simpa using h2⟩
 | f::fs,done,s,h1,h2,h3=>by
  simp only[List.foldl_cons];have e:done++f::fs=(done++[f])++fs:=(by simp);rw[e] at h3 ⊢;refine Zeg Ks Os Bb n fs (done++[f]) _ ?_ ?_ h3;show ZbH (s.xs++QL f _ _ _ _);unfold ZbH;rw[List.pairwise_append];refine⟨h1,Zie _ _ _ _ _,fun x hx y hy=>.inr ?_⟩;rw[(Zep _ _ _ _ _ y hy).1];intro he;have hm:=h2 x hx;rw[he] at hm;have:=(List.nodup_append.1 (List.nodup_append.1 h3).1).2.2;exact this f hm f (by simp) rfl;intro x hx
  rcases List.mem_append.1 hx with hx|hx
  exact List.mem_append_left _ (h2 x hx);rw[(Zep _ _ _ _ _ x hx).1];simp
theorem Zh8(Os:List (List Bool))(Bb:List (List Nat))(n:Nat):∀(Gs:List GS) (done:List Nat) (D:YZ),ZbH D.xs->(∀x∈D.xs,x.f∈done)->(done++Zbv Gs).Nodup->ZbH (Gs.foldl (Zbo Os Bb n) D).xs
 |[],done,D,h1,_,_=>h1
 |G::Gs,done,D,h1,h2,h3=>by simp only[List.foldl_cons];have e:done++Zbv (G::Gs)=(done++G.fs)++Zbv Gs:=(by simp[Zbv]);rw[e] at h3;obtain⟨a,b⟩:=Zeg D.ks Os Bb n G.fs done ⟨List.replicate n 0,D.xs,1⟩ h1 h2 (List.nodup_append.1 h3).1;exact Zh8 Os Bb n Gs (done++G.fs) _ a b h3
theorem Zk9(m n budget:Nat)(es:List ES)(Bb:List (List Nat)):ZbH (ZH m n budget es Bb).xs:=
 Zh8 _ _ _ _ [] _ (by simp[ZbH]) (by simp) (by simpa using ZgT m _ _ n budget)
theorem Zl9{L X Y:List XS}(hk:ZbH L)(h1:X.Perm L)(h2:Qo X)(h3:Y.Perm L)(h4:Qo Y):X=Y:=by
 refine List.Perm.eq_of_pairwise (le:=fun x y:XS=>x.row<y.row∨x.row=y.row/\x.f<=y.f) (fun a b ha hb hab hba=>?_) h2 h4 (h1.trans h3.symm);have ka:a∈L:=h1.subset ha;have kb:b∈L:=h3.subset hb;obtain⟨i,hi,rfl⟩:=List.getElem_of_mem ka;obtain⟨j,hj,rfl⟩:=List.getElem_of_mem kb
 rcases Nat.lt_trichotomy i j with h|h|h
 have:=List.pairwise_iff_getElem.1 hk i j hi hj h;omega;subst h;rfl;have:=List.pairwise_iff_getElem.1 hk j i hj hi h;omega
end Go.Proofs.YtfcgnpchbcmdeaaGreat
namespace Go.Proofs.YtfcgnpchbcmdeaaGreat
set_option linter.unusedSimpArgs false
open Go.RowKit
theorem ZqD(off h:Nat)(O:List Bool)(B N:List Nat)(k:Nat)(hN:∀x∈N,x<off)(h0:0<off)(hB:∀r,B.getD r 0<h):∀x∈putN off O B N k,x<off+h:=by
 intro x hx;unfold putN at hx
 have hg:∀r,N.getD r 0<off:=fun r=>by
  rw[Qc]
  rcases Nat.lt_or_ge r N.length with h1|h1
  rw[Qd h1];exact hN _ (Qf h1);rw[List.getElem?_eq_none h1];exact h0
 rcases List.mem_append.1 hx with hx|hx
 obtain⟨r,_,rfl⟩:=List.mem_map.1 hx;unfold ZcM;split;have:=hB r;omega;have:=hg r;omega;have:=hN x (List.mem_of_mem_drop hx);omega
structure Znv(n:Nat)(s:CS):Prop where
 len:s.N.length=n
 pos:0<s.off
 lt:∀x∈s.N,x<s.off
theorem Zgq{Ks:List KS}{Os:List (List Bool)}{Bb:List (List Nat)}{n:Nat}:∀(fs:List Nat) (s:CS),(∀f∈fs,∀r,(Bb.getD f []).getD r 0<(Ks.getD f Zp).many)->Znv n s->Znv n (fs.foldl (Zh Ks Os Bb n) s)
 |[],s,_,h=>h
 |f::fs,s,hb,h=>by simp only[List.foldl_cons];refine Zgq fs _ (fun g hg=>hb g (by simp[hg])) ⟨?_,?_,?_⟩;show(putN _ _ _ _ n).length=n;rw[Zgt _ _ _ _ (by rw[h.len];exact Qa _)];exact h.len;show 0<s.off+_;have:=h.pos;omega;exact ZqD _ _ _ _ _ _ h.lt h.pos (hb f (by simp))
theorem Zjb{Ks:List KS}{Os:List (List Bool)}{Bb:List (List Nat)}{n:Nat}{xs:List XS}{fs:List Nat}(hb:∀f∈fs,∀r,(Bb.getD f []).getD r 0<(Ks.getD f Zp).many):Znv n (QQ Ks Os Bb n xs fs):=
 Zgq fs _ hb ⟨by simp,by simp,by intro x hx;simp at hx;simp[hx.2]⟩
structure BOk(Ks:List KS)(n:Nat)(b:BS):Prop where
 len:b.N.length=n
 le:∀x∈b.N,x<=b.g
 sum:b.g=Qn Ks b.fs
theorem ZfZ{Os:List (List Bool)}{Bb:List (List Nat)}{n:Nat}{Ks:List KS}:∀(Gs:List GS) (D:YZ),D.ks=Ks->(∀G∈Gs,∀f∈G.fs,∀r,(Bb.getD f []).getD r 0<(Ks.getD f Zp).many)->(∀b∈D.bs,BOk Ks n b)->(∀b∈(Gs.foldl (Zbo Os Bb n) D).bs,BOk Ks n b)/\(Gs.foldl (Zbo Os Bb n) D).bs.map (fun b=>b.fs)=D.bs.map (fun b=>b.fs)++Gs.map (fun G=>G.fs)
 |[],D,_,_,h=>⟨h,by simp⟩
 | G ::Gs,D,hk,hb,h=>by
  simp only[List.foldl_cons]
  obtain⟨a,b⟩:=ZfZ (Os:=Os) Gs (Zbo Os Bb n D G) hk (fun g hg=>hb g (by simp[hg])) (fun b hb2=>by
   rcases List.mem_append.1 hb2 with h1|h1
   exact h b h1;simp only[List.mem_cons,List.not_mem_nil,or_false] at h1;subst h1;have hc:Znv n (QQ D.ks Os Bb n D.xs G.fs):=Zjb (by rw[hk];exact hb G (by simp));refine⟨hc.len,fun x hx=>?_,?_⟩;have:=hc.lt x hx;show x<=_-1;omega;show _-1=Qn Ks G.fs
   rw[Zeo,hk];omega)
  refine⟨a,?_⟩;rw[b];simp[Zbo]
def Zu(D:YZ)(f:Nat):Nat:=D.bs.findIdx (fun b=>decide (f∈b.fs))
def Q0(D:YZ)(f:Nat):Nat:=(D.bs.getD (Zu D f) ZA).fs.idxOf f
theorem ZmH{D:YZ}{f:Nat}(hall:∃b∈D.bs,f∈b.fs)(hfl:∀b∈D.bs,b.fs.length<=100)(hfk:∀b∈D.bs,∀x∈b.fs,x<D.ks.length)(hmn:∀i,i<D.ks.length->(D.ks.getD i Zp).many<=100):Zbs D f (Zu D f) (Q0 D f):=by
 obtain⟨b,hb,hf⟩:=hall;have hlt:Zu D f<D.bs.length:=List.findIdx_lt_length_of_exists ⟨b,hb,by simpa using hf⟩
 have hg:∀i (h:i<D.bs.length),D.bs.getD i ZA=D.bs[i]:=fun i h=>by rw[Qc,Qd h];rfl
 have hin:f∈(D.bs.getD (Zu D f) ZA).fs:=(by rw[hg _ hlt];have:=List.findIdx_getElem (p:=fun b:BS=>decide (f∈b.fs)) (w:=hlt);exact of_decide_eq_true this);have hpl:Q0 D f<(D.bs.getD (Zu D f) ZA).fs.length:=List.idxOf_lt_length_of_mem hin;refine⟨hlt,hpl,?_,?_,?_,?_,hmn⟩;rw[Qc,Qd hpl];exact List.getElem_idxOf hpl
 ·intro i j hi hj hor
  rcases hor with h1|h1
  have h2:=List.not_of_lt_findIdx (p:=fun b:BS=>decide (f∈b.fs)) (xs:=D.bs) h1;intro e;refine absurd ?_ (of_decide_eq_false h2);rw[hg i (by omega)] at e hj;rw[Qc,Qd hj] at e;exact Eq.subst (motive:=fun z=>z∈_) e (Qf _)
  rcases Nat.lt_or_ge i (Zu D f) with h3|h3
  have h2:=List.not_of_lt_findIdx (p:=fun b:BS=>decide (f∈b.fs)) (xs:=D.bs) h3;intro e;refine absurd ?_ (of_decide_eq_false h2);rw[hg i (by omega)] at e hj;rw[Qc,Qd hj] at e;exact Eq.subst (motive:=fun z=>z∈_) e (Qf _);have e:i=Zu D f:=(by omega);subst e;intro e2;rw[Qc,Qd hj] at e2;have h4:=List.not_of_lt_findIdx (p:=(· ==f)) (xs:=(D.bs.getD (Zu D f) ZA).fs) (i:=j) h1;simp only[beq_eq_false_iff_ne] at h4;exact h4 e2
 intro i hi;rw[hg i (by omega)];exact hfl _ (Qf _);intro i j hi hj;rw[hg i (by omega)] at hj ⊢;rw[Qc,Qd hj];exact hfk _ (Qf _) _ (Qf _)
def XIn(Bb:List (List Nat))(n:Nat)(fs:List Nat)(x:XS):Prop:=x.row<n/\x.f∈fs/\x.bin=(Bb.getD x.f []).getD x.row 0
theorem Zgg(Ks:List KS)(Os:List (List Bool))(Bb:List (List Nat))(n:Nat):∀(fs done:List Nat) (s:CS),(∀x∈s.xs,XIn Bb n done x)->(fs.foldl (Zh Ks Os Bb n) s).xs.length<=s.xs.length+fs.length*n/\∀x∈(fs.foldl (Zh Ks Os Bb n) s).xs,XIn Bb n (done++fs) x
 |[],done,s,h=>⟨by simp,by simpa using h⟩
 | f ::fs,done,s,h=>by
  simp only[List.foldl_cons]
  obtain⟨a,b⟩:=Zgg Ks Os Bb n fs (done++[f]) (Zh Ks Os Bb n s f) (fun x hx=>by
   rcases List.mem_append.1 hx with hx|hx
   obtain⟨h1,h2,h3⟩:=h x hx;exact⟨h1,List.mem_append_left _ h2,h3⟩;obtain⟨h1,h2,h3⟩:=Zep _ _ _ _ _ x hx
   exact⟨h2,by rw[h1];simp,by rw[h1];exact h3⟩)
  refine⟨?_,by rw[show done++f::fs=(done++[f])++fs by simp];exact b⟩;have h1:(Zh Ks Os Bb n s f).xs.length<=s.xs.length+n:=(by show(s.xs++QL _ _ _ _ _).length<=_;rw[Qe];have:=ZeA f (Os.getD f []) (Bb.getD f []) s.N n;omega);rw[List.length_cons,Nat.succ_mul];omega
theorem ZmM(Os:List (List Bool))(Bb:List (List Nat))(n:Nat):∀(Gs:List GS) (done:List Nat) (D:YZ),(∀x∈D.xs,XIn Bb n done x)->(Gs.foldl (Zbo Os Bb n) D).xs.length<=D.xs.length+(Zbv Gs).length*n/\∀x∈(Gs.foldl (Zbo Os Bb n) D).xs,XIn Bb n (done++Zbv Gs) x
 |[],done,D,h=>⟨by simp,by simpa [Zbv] using h⟩
 |G::Gs,done,D,h=>by simp only[List.foldl_cons];obtain⟨a,b⟩:=Zgg D.ks Os Bb n G.fs done ⟨List.replicate n 0,D.xs,1⟩ h;obtain⟨c,d⟩:=ZmM Os Bb n Gs (done++G.fs) (Zbo Os Bb n D G) b;have e:Zbv (G::Gs)=G.fs++Zbv Gs:=rfl;refine⟨?_,by rw[e,<- List.append_assoc];exact d⟩;have h1:(Zbo Os Bb n D G).xs.length<=D.xs.length+G.fs.length*n:=a;rw[e,Qe,Nat.add_mul];omega
structure ZbE(n:Nat)(D:YZ):Prop where
 n2:n<=200
 k0:0<D.ks.length
 k4:D.ks.length<=4
 b0:0<D.bs.length
 b4:D.bs.length<=4
 bok:∀b∈D.bs,BOk D.ks n b
 g40:∀b∈D.bs,b.g<=40
 f0:∀b∈D.bs,0<b.fs.length
 f4:∀b∈D.bs,b.fs.length<=4
 fk:∀b∈D.bs,∀f∈b.fs,f<D.ks.length
 all:∀f,f<D.ks.length->∃b∈D.bs,f∈b.fs
 mn:∀i,i<D.ks.length->(D.ks.getD i Zp).many<=18
 dn:∀i,i<D.ks.length->(D.ks.getD i Zp).d<(D.ks.getD i Zp).many
 edg:∀i,i<D.ks.length->ZdU (D.ks.getD i Zp).e
 keys:ZbH D.xs
 xl:D.xs.length<=800
 xin:∀x∈D.xs,x.row<n/\x.f<D.ks.length/\x.bin<18
theorem ZbZ{m n budget:Nat}{es:List ES}{Bb:List (List Nat)}(hm:m+1<=4)(hn:n<=200)(hk:ZdW m n es Bb):ZbE n (ZH m n budget es Bb):=by
 have hks:(ZH m n budget es Bb).ks=Z8 es Bb (m+1):=Zax _ _ _ _ _;have hkl:(Z8 es Bb (m+1)).length=m+1:=YJ es Bb (m+1)
 have hma:∀i,i<m+1->((Z8 es Bb (m+1)).getD i Zp).many=(es.getD i e0S).cnt+2:=fun i hi=>by rw[QG es Bb hi];rfl
 have hma18:∀i,i<m+1->((Z8 es Bb (m+1)).getD i Zp).many<=18:=fun i hi=>by rw[hma i hi];have:=hk.cn i hi;omega
 have hO:∀i,i<m+1->((Qs es Bb (m+1)).getD i []).length=n:=fun i hi=>by rw[ZcP es Bb hi];unfold oF ZbU;rw[List.length_map];exact hk.lb i hi
 have hbin:∀f,f<m+1->∀r,(Bb.getD f []).getD r 0<((Z8 es Bb (m+1)).getD f Zp).many:=fun f hf r=>by
  rw[hma f hf,Qc]
  rcases Nat.lt_or_ge r (Bb.getD f []).length with h1|h1
  rw[Qd h1];exact hk.bin f hf _ (Qf h1);rw[List.getElem?_eq_none h1];simp
 obtain⟨hfit,hgl⟩:=Zj7 (budget:=budget) hO (fun i hi=>Nat.le_trans (hma18 i hi) (by decide));have hall:=Zej m (Z8 es Bb (m+1)) (Qs es Bb (m+1)) n budget;have hpos:=Zp8 m (Z8 es Bb (m+1)) (Qs es Bb (m+1)) n budget;obtain⟨hbo,hbf⟩:=ZfZ (Os:=Qs es Bb (m+1)) (Bb:=Bb) (n:=n) (Ks:=Z8 es Bb (m+1)) (Zau m (Z8 es Bb (m+1)) (Qs es Bb (m+1)) n budget) ⟨Z8 es Bb (m+1),[],[]⟩ rfl (fun G hG f hf=>hbin f ((hfit G hG).fs f hf)) (by simp);obtain⟨hxl,hxi⟩:=ZmM (Qs es Bb (m+1)) Bb n (Zau m (Z8 es Bb (m+1)) (Qs es Bb (m+1)) n budget) [] ⟨Z8 es Bb (m+1),[],[]⟩ (by simp);have hbo':∀b∈(ZH m n budget es Bb).bs,BOk (Z8 es Bb (m+1)) n b:=hbo
 have hbf':(ZH m n budget es Bb).bs.map (fun b=>b.fs)=(Zau m (Z8 es Bb (m+1)) (Qs es Bb (m+1)) n budget).map (fun G=>G.fs):=(by rw[show(ZH m n budget es Bb).bs=_ from rfl];exact hbf);have hxl':(ZH m n budget es Bb).xs.length<=0+(Zbv (Zau m (Z8 es Bb (m+1)) (Qs es Bb (m+1)) n budget)).length*n:=hxl;have hxi':∀x∈(ZH m n budget es Bb).xs,XIn Bb n ([]++Zbv (Zau m (Z8 es Bb (m+1)) (Qs es Bb (m+1)) n budget)) x:=hxi;have hkeys:=Zk9 m n budget es Bb;clear hbo hbf hxl hxi;generalize ZH m n budget es Bb=D at *;generalize Zau m (Z8 es Bb (m+1)) (Qs es Bb (m+1)) n budget=Gs at *
 have hbl:D.bs.length=Gs.length:=by have:=congrArg List.length hbf';simpa using this
 have hGb:∀b∈D.bs,∃G∈Gs,G.fs=b.fs:=fun b hb=>by have:b.fs∈D.bs.map (fun b=>b.fs):=List.mem_map.2 ⟨b,hb,rfl⟩;rw[hbf'] at this;obtain⟨G,hG,e⟩:=List.mem_map.1 this;exact⟨G,hG,e⟩
 have hbG:∀G∈Gs,∃b∈D.bs,b.fs=G.fs:=fun G hG=>by have:G.fs∈Gs.map (fun G=>G.fs):=List.mem_map.2 ⟨G,hG,rfl⟩;rw[<- hbf'] at this;obtain⟨b,hb,e⟩:=List.mem_map.1 this;exact⟨b,hb,e⟩
 have hin:∀f,f<m+1->∃G∈Gs,f∈G.fs:=fun f hf=>by have:f∈Zbv Gs:=hall.mem_iff.2 (List.mem_range.2 hf);exact List.mem_flatMap.1 this
 have hal:(Zbv Gs).length=m+1:=(by rw[hall.length_eq,List.length_range]);constructor;exact hn;rw[hks,hkl];omega;rw[hks,hkl];exact hm;rw[hbl];obtain⟨G,hG,_⟩:=hin 0 (by omega);exact List.length_pos_of_mem hG;rw[hbl];omega;rw[hks];exact hbo';intro b hb;obtain⟨G,hG,e⟩:=hGb b hb;rw[(hbo' b hb).sum,<- e,<- (hfit G hG).sum];exact(hfit G hG).bins;intro b hb;obtain⟨G,hG,e⟩:=hGb b hb;rw[<- e];exact hpos G hG;intro b hb;obtain⟨G,hG,e⟩:=hGb b hb;rw[<- e];have:=(hfit G hG).len;omega;intro b hb f hf;obtain⟨G,hG,e⟩:=hGb b hb;rw[hks,hkl];exact(hfit G hG).fs f (by rw[e];exact hf);intro f hf;rw[hks,hkl] at hf;obtain⟨G,hG,hfG⟩:=hin f hf;obtain⟨b,hb,e⟩:=hbG G hG;exact⟨b,hb,by rw[e];exact hfG⟩;intro i hi;rw[hks] at hi ⊢;rw[hkl] at hi;exact hma18 i hi
 intro i hi;rw[hks] at hi ⊢;rw[hkl] at hi;rw[hma i hi,QG es Bb hi];show ZiQ _ _<_;have:=ZgB (Bb.getD i []) (show 0<(es.getD i e0S).cnt+2 by omega);rw[Zi8] at this;omega;intro i hi;rw[hks] at hi ⊢;rw[hkl] at hi;rw[QG es Bb hi];exact hk.ok i hi;exact hkeys;rw[hal] at hxl';have:(m+1)*n<=4*200:=Nat.mul_le_mul hm hn;omega;intro x hx;obtain⟨h1,h2,h3⟩:=hxi' x hx;have hf:x.f<m+1:=List.mem_range.1 (hall.mem_iff.1 (by simpa using h2));refine⟨h1,by rw[hks,hkl];exact hf,?_⟩;rw[h3];exact Qh (hbin x.f hf x.row) (hma18 x.f hf)
theorem Zgy(off:Nat)(O:List Bool)(B N:List Nat){n r:Nat}(hr:r<n):(putN off O B N n).getD r 0=ZcM off O B N r:=by unfold putN;rw[Qc,List.getElem?_append_left (by simpa using hr)];simp[List.getElem?_range hr]
theorem ZjZ(f:Nat)(O:List Bool)(B N:List Nat):∀(k:Nat) (x:XS),x∈QL f O B N k↔x.f=f/\x.row<k/\O.getD x.row false=true/\N.getD x.row 0≠0/\x.bin=B.getD x.row 0
 |0,x=>by simp[QL]
 | k+1,x=>by
  rw[QL,List.mem_append,ZjZ f O B N k];obtain⟨xr,xf,xb⟩:=x;simp only[Zn0];constructor;rintro(⟨h1,h2,h3⟩|h);exact⟨h1,by omega,h3⟩;split at h;rename_i hc;simp only[List.mem_singleton,XS.mk.injEq] at h;obtain⟨rfl,rfl,rfl⟩:=h;exact⟨rfl,by omega,hc.1,hc.2,rfl⟩;simp at h;rintro⟨h1,h2,h3,h4,h5⟩
  rcases Nat.lt_or_ge xr k with h|h
  exact .inl ⟨h1,h,h3,h4,h5⟩;have e:xr=k:=(by omega);subst e;right;rw[if_pos ⟨h3,h4⟩];simp[h1,h5]
section
variable {Ks:List KS} {Os:List (List Bool)} {Bb:List (List Nat)} {n:Nat}
theorem Zdh:∀(fs:List Nat) (s:CS),0<s.off->∀r,r<n->(s.N.getD r 0≠0->(fs.foldl (Zh Ks Os Bb n) s).N.getD r 0=s.N.getD r 0)/\(s.N.getD r 0=0->(fs.foldl (Zh Ks Os Bb n) s).N.getD r 0=0∨s.off<=(fs.foldl (Zh Ks Os Bb n) s).N.getD r 0)
 |[],s,_,r,_=>⟨fun _=>rfl,fun h=>.inl h⟩
 | f::fs,s,h0,r,hr=>by
  simp only[List.foldl_cons];have hg:(Zh Ks Os Bb n s f).N.getD r 0=ZcM s.off (Os.getD f []) (Bb.getD f []) s.N r:=Zgy _ _ _ _ hr;have ho:(Zh Ks Os Bb n s f).off=s.off+(Ks.getD f Zp).many:=rfl;obtain⟨a,b⟩:=Zdh fs (Zh Ks Os Bb n s f) (by rw[ho];omega) r hr;constructor;intro h;have e:(Zh Ks Os Bb n s f).N.getD r 0=s.N.getD r 0:=(by rw[hg];unfold ZcM;rw[if_neg (fun hc=>h hc.2)]);rw[a (by rw[e];exact h),e];intro h
  by_cases hO:(Os.getD f []).getD r false=true
  have e:(Zh Ks Os Bb n s f).N.getD r 0=s.off+(Bb.getD f []).getD r 0:=(by rw[hg];unfold ZcM;rw[if_pos ⟨hO,h⟩]);right;rw[a (by rw[e];omega),e];omega;have e:(Zh Ks Os Bb n s f).N.getD r 0=0:=by rw[hg];unfold ZcM;rw[if_neg (fun hc=>hO hc.1)];exact h
  rcases b e with h1|h1
  exact .inl h1;right;rw[ho] at h1;omega
theorem ZpN:∀(fs:List Nat) (s t:CS),s.N=t.N->s.off=t.off->(fs.foldl (Zh Ks Os Bb n) s).N=(fs.foldl (Zh Ks Os Bb n) t).N/\(fs.foldl (Zh Ks Os Bb n) s).off=(fs.foldl (Zh Ks Os Bb n) t).off
 |[],_,_,h1,h2=>⟨h1,h2⟩
 |f::fs,s,t,h1,h2=>by simp only[List.foldl_cons];refine ZpN fs _ _ ?_ ?_;show putN _ _ _ _ _=putN _ _ _ _ _;rw[h1,h2];show s.off+_=t.off+_;rw[h2]
def Zav(Ks:List KS)(Os:List (List Bool))(Bb:List (List Nat))(n:Nat)(fs:List Nat):List Nat:=(QQ Ks Os Bb n [] fs).N
theorem Zp4(xs:List XS)(fs:List Nat):(QQ Ks Os Bb n xs fs).N=Zav Ks Os Bb n fs:=(ZpN fs ⟨List.replicate n 0,xs,1⟩ ⟨List.replicate n 0,[],1⟩ rfl rfl).1
theorem Znn:∀(fs:List Nat) (s:CS) (x:XS),x∈(fs.foldl (Zh Ks Os Bb n) s).xs↔x∈s.xs∨∃A C,fs=A++x.f::C/\x.row<n/\(Os.getD x.f []).getD x.row false=true/\(A.foldl (Zh Ks Os Bb n) s).N.getD x.row 0≠0/\x.bin=(Bb.getD x.f []).getD x.row 0
 |[],s,x=>by simp
 | f ::fs,s,x=>by
  simp only[List.foldl_cons];rw[Znn fs (Zh Ks Os Bb n s f) x];have e:x∈(Zh Ks Os Bb n s f).xs↔x∈s.xs∨x∈QL f (Os.getD f []) (Bb.getD f []) s.N n:=List.mem_append;rw[e,ZjZ];constructor;rintro((h|⟨rfl,h⟩)|⟨A,C,rfl,h⟩);exact .inl h;exact .inr ⟨[],fs,rfl,h⟩;exact .inr ⟨f::A,C,rfl,h⟩;rintro(h|⟨A,C,h1,h⟩);exact .inl (.inl h)
  cases A with
  | nil=>
   simp only[List.nil_append,List.cons.injEq] at h1;obtain⟨rfl,rfl⟩:=h1;exact .inl (.inr ⟨rfl,h⟩)
  | cons g A=>
   simp only[List.cons_append,List.cons.injEq] at h1;obtain⟨rfl,rfl⟩:=h1;exact .inr ⟨A,C,rfl,h⟩
theorem ZgY:∀(Gs:List GS) (D:YZ) (x:XS),D.ks=Ks->(x∈(Gs.foldl (Zbo Os Bb n) D).xs↔x∈D.xs∨∃G∈Gs,∃A C,G.fs=A++x.f::C/\x.row<n/\(Os.getD x.f []).getD x.row false=true/\(Zav Ks Os Bb n A).getD x.row 0≠0/\x.bin=(Bb.getD x.f []).getD x.row 0)
 |[],D,x,_=>by simp
 | G::Gs,D,x,hk=>by
  simp only[List.foldl_cons];rw[ZgY Gs (Zbo Os Bb n D G) x hk];have e:x∈(Zbo Os Bb n D G).xs↔x∈(G.fs.foldl (Zh Ks Os Bb n) ⟨List.replicate n 0,D.xs,1⟩).xs:=(by rw[<- hk];rfl);rw[e,Znn];have eN:∀A,(A.foldl (Zh Ks Os Bb n) ⟨List.replicate n 0,D.xs,1⟩).N=Zav Ks Os Bb n A:=fun A=>Zp4 D.xs A;constructor;rintro((h|⟨A,C,h1,h2,h3,h4,h5⟩)|⟨G',hG,h⟩);exact .inl h;exact .inr ⟨G,by simp,A,C,h1,h2,h3,by rw[eN] at h4;exact h4,h5⟩;exact .inr ⟨G',by simp[hG],h⟩;rintro(h|⟨G',hG,A,C,h1,h2,h3,h4,h5⟩);exact .inl (.inl h)
  rcases List.mem_cons.1 hG with rfl|hG
  exact .inl (.inr ⟨A,C,h1,h2,h3,by rw[eN];exact h4,h5⟩);exact .inr ⟨G',hG,A,C,h1,h2,h3,h4,h5⟩
theorem Zld:∀(Gs:List GS) (D:YZ),D.ks=Ks->(∀b∈D.bs,b.N=Zav Ks Os Bb n b.fs)->∀b∈(Gs.foldl (Zbo Os Bb n) D).bs,b.N=Zav Ks Os Bb n b.fs
 |[],_,_,h=>h
 | G::Gs,D,hk,h=>by
  simp only[List.foldl_cons];refine Zld Gs (Zbo Os Bb n D G) hk (fun b hb=>?_)
  rcases List.mem_append.1 hb with h1|h1
  exact h b h1;simp only[List.mem_cons,List.not_mem_nil,or_false] at h1;subst h1;show(QQ D.ks Os Bb n D.xs G.fs).N=_;rw[hk];exact Zp4 _ _
end
theorem ZbE.seat{n:Nat}{D:YZ}(h:ZbE n D){f:Nat}(hf:f<D.ks.length):Zbs D f (Zu D f) (Q0 D f):=
 ZmH (h.all f hf) (fun b hb=>Nat.le_trans (h.f4 b hb) (by decide)) h.fk (fun i hi=>Nat.le_trans (h.mn i hi) (by decide))
theorem Zpl{m n budget:Nat}{es:List ES}{Bb:List (List Nat)}(hm:m+1<=4)(hn:n<=200)(hk:ZdW m n es Bb){X:List XS}(hX:X.Perm (ZH m n budget es Bb).xs){f row:Nat}(hf:f<m+1)(hr:row<n):Zes (ZH m n budget es Bb) X f (Zu (ZH m n budget es Bb) f) (Q0 (ZH m n budget es Bb) f) row=(Bb.getD f []).getD row 0:=by
 have hd:=ZbZ (budget:=budget) hm hn hk;have hks:(ZH m n budget es Bb).ks=Z8 es Bb (m+1):=Zax _ _ _ _ _;have hkl:(Z8 es Bb (m+1)).length=m+1:=YJ es Bb (m+1);have hs:=hd.seat (f:=f) (by rw[hks,hkl];exact hf)
 have hbin:∀g,g<m+1->∀r,(Bb.getD g []).getD r 0<((Z8 es Bb (m+1)).getD g Zp).many:=fun g hg r=>by
  rw[QG es Bb hg];show _<(es.getD g e0S).cnt+2;rw[Qc]
  rcases Nat.lt_or_ge r (Bb.getD g []).length with h1|h1
  rw[Qd h1];exact hk.bin g hg _ (Qf h1);rw[List.getElem?_eq_none h1];simp
 have hmem:∀x,x∈(ZH m n budget es Bb).xs↔_:=fun x=>ZgY (Ks:=Z8 es Bb (m+1)) (Os:=Qs es Bb (m+1)) (Bb:=Bb) (n:=n) (Zau m (Z8 es Bb (m+1)) (Qs es Bb (m+1)) n budget) ⟨Z8 es Bb (m+1),[],[]⟩ x rfl;have hN:∀b∈(ZH m n budget es Bb).bs,b.N=Zav (Z8 es Bb (m+1)) (Qs es Bb (m+1)) Bb n b.fs:=Zld (Zau m (Z8 es Bb (m+1)) (Qs es Bb (m+1)) n budget) ⟨Z8 es Bb (m+1),[],[]⟩ rfl (by simp)
 have hbf:(ZH m n budget es Bb).bs.map (fun b=>b.fs)=(Zau m (Z8 es Bb (m+1)) (Qs es Bb (m+1)) n budget).map (fun G=>G.fs):=by have h1:=(ZfZ (Os:=Qs es Bb (m+1)) (Bb:=Bb) (n:=n) (Ks:=Z8 es Bb (m+1)) (Zau m (Z8 es Bb (m+1)) (Qs es Bb (m+1)) n budget) ⟨Z8 es Bb (m+1),[],[]⟩ rfl (fun G hG g hg=>hbin g (List.mem_range.1 ((Zej m (Z8 es Bb (m+1)) (Qs es Bb (m+1)) n budget).mem_iff.1 (List.mem_flatMap.2 ⟨G,hG,hg⟩)))) (by simp)).2;rw[show(ZH m n budget es Bb).bs=_ from rfl];exact h1
 have hO:((Qs es Bb (m+1)).getD f []).getD row false=decide ((Bb.getD f []).getD row 0≠((Z8 es Bb (m+1)).getD f Zp).d):=(by rw[ZcP es Bb hf,QG es Bb hf];have hl:row<(Bb.getD f []).length:=(by rw[hk.lb f hf];exact hr);unfold oF ZbU;rw[Qc,List.getElem?_map,Qd hl,Qc (l:=Bb.getD f []),Qd hl];rfl);have hfk:=hd.fk;clear hd;generalize ZH m n budget es Bb=D at *;generalize Zau m (Z8 es Bb (m+1)) (Qs es Bb (m+1)) n budget=Gs at *;rw[hks] at hfk;generalize Zu D f=bi at *;generalize Q0 D f=p at *;have hbm:D.bs.getD bi ZA∈D.bs:=(by rw[Qc,Qd hs.hb];exact Qf _);have hNb:=hN _ hbm
 have hsp:(D.bs.getD bi ZA).fs=(D.bs.getD bi ZA).fs.take p++f::(D.bs.getD bi ZA).fs.drop (p+1):=(by have h1:=hs.at_;rw[Qc (l:=(D.bs.getD bi ZA).fs),Qd hs.hp] at h1;simp only[Option.getD_some] at h1;have h2:=List.take_append_drop p (D.bs.getD bi ZA).fs;rw[List.drop_eq_getElem_cons hs.hp,h1] at h2;exact h2.symm);have hoff:Y6 D bi p=1+Qn (Z8 es Bb (m+1)) ((D.bs.getD bi ZA).fs.take p):=(by unfold Y6;rw[hks]);have hfsb:=hfk _ hbm;rw[hkl] at hfsb;have hG:∃G∈Gs,G.fs=(D.bs.getD bi ZA).fs:=by have:(D.bs.getD bi ZA).fs∈D.bs.map (fun b=>b.fs):=List.mem_map.2 ⟨_,hbm,rfl⟩;rw[hbf] at this;obtain⟨G,hG,e⟩:=List.mem_map.1 this;exact⟨G,hG,e⟩
 unfold Zes;rw[hNb,hoff,hks];generalize (D.bs.getD bi ZA).fs=fs at *;generalize fs.take p=A at *;generalize fs.drop (p+1)=C at *;subst hsp;have hcol:Znv n (QQ (Z8 es Bb (m+1)) (Qs es Bb (m+1)) Bb n [] A):=Zjb (fun g hg=>hbin g (hfsb g (List.mem_append_left _ hg)));have hcoff:=Zeo (Z8 es Bb (m+1)) (Qs es Bb (m+1)) Bb n [] A;have hlt:(Zav (Z8 es Bb (m+1)) (Qs es Bb (m+1)) Bb n A).getD row 0<1+Qn (Z8 es Bb (m+1)) A:=by rw[<- hcoff,Qc];have hl:row<(Zav (Z8 es Bb (m+1)) (Qs es Bb (m+1)) Bb n A).length:=(by unfold Zav;rw[hcol.len];exact hr);rw[Qd hl];exact hcol.lt _ (Qf _)
 have hfin:Zav (Z8 es Bb (m+1)) (Qs es Bb (m+1)) Bb n (A++f::C)=(C.foldl (Zh (Z8 es Bb (m+1)) (Qs es Bb (m+1)) Bb n) (Zh (Z8 es Bb (m+1)) (Qs es Bb (m+1)) Bb n (QQ (Z8 es Bb (m+1)) (Qs es Bb (m+1)) Bb n [] A) f)).N:=(by unfold Zav QQ;rw[List.foldl_append,List.foldl_cons]);have hso:(Zh (Z8 es Bb (m+1)) (Qs es Bb (m+1)) Bb n (QQ (Z8 es Bb (m+1)) (Qs es Bb (m+1)) Bb n [] A) f).off=1+Qn (Z8 es Bb (m+1)) A+((Z8 es Bb (m+1)).getD f Zp).many:=by show(QQ _ _ _ _ _ _).off+_=_;rw[hcoff]
 have hsn:(Zh (Z8 es Bb (m+1)) (Qs es Bb (m+1)) Bb n (QQ (Z8 es Bb (m+1)) (Qs es Bb (m+1)) Bb n [] A) f).N.getD row 0=ZcM (1+Qn (Z8 es Bb (m+1)) A) ((Qs es Bb (m+1)).getD f []) (Bb.getD f []) (Zav (Z8 es Bb (m+1)) (Qs es Bb (m+1)) Bb n A) row:=(by rw[<- hcoff];exact Zgy _ _ _ _ hr);obtain⟨la,lb⟩:=Zdh (Ks:=Z8 es Bb (m+1)) (Os:=Qs es Bb (m+1)) (Bb:=Bb) (n:=n) C _ (by rw[hso];omega) row hr;rw[<- hfin,hso,hsn] at lb;rw[<- hfin,hsn] at la;have hbf2:=hbin f hf row
 have hxin:∀x∈X,atX row f x->(((Qs es Bb (m+1)).getD f []).getD row false=true/\x.bin=(Bb.getD f []).getD row 0):=fun x hx ha=>by
  rcases(hmem x).1 (hX.subset hx) with h1|⟨G,_,A',C',_,_,h3,_,h5⟩
  simp at h1;rw[ha.1,ha.2] at h3 h5;exact⟨h3,h5⟩
 generalize (Zav (Z8 es Bb (m+1)) (Qs es Bb (m+1)) Bb n (A++f::C)).getD row 0=x at *;generalize hna:(Zav (Z8 es Bb (m+1)) (Qs es Bb (m+1)) Bb n A).getD row 0=na at *;unfold ZcM at la lb;rw[hna] at la lb;generalize 1+Qn (Z8 es Bb (m+1)) A=off at *
 by_cases hOt:((Qs es Bb (m+1)).getD f []).getD row false=true
 ·by_cases hz:na=0
  rw[if_pos ⟨hOt,hz⟩] at la lb;have hx:x=off+(Bb.getD f []).getD row 0:=la (by omega);rw[if_pos (by omega)];omega;rw[if_neg (fun hc=>hz hc.2)] at la lb;have hx:x=na:=la hz;rw[if_neg (by omega)];obtain⟨G,hGm,hGf⟩:=hG;have hex:(⟨row,f,(Bb.getD f []).getD row 0⟩:XS)∈D.xs:=(hmem _).2 (.inr ⟨G,hGm,A,C,hGf,hr,hOt,by rw[hna];exact hz,rfl⟩);have hexX:=hX.symm.subset hex;unfold xbF
  cases hfd:X.find? (fun y=>decide (atX row f y)) with
  | none=>
   rw[List.find?_eq_none] at hfd;exact absurd (decide_eq_true (show atX row f ⟨row,f,(Bb.getD f []).getD row 0⟩ from⟨rfl,rfl⟩)) (hfd _ hexX)
  | some y=>
   have h1:=List.find?_some hfd;exact(hxin y (List.mem_of_find?_eq_some hfd) (of_decide_eq_true h1)).2
 rw[if_neg (fun hc=>hOt hc.1)] at la lb
 have hnin:¬(off<=x/\x<off+((Z8 es Bb (m+1)).getD f Zp).many):=by
  intro hc
  by_cases hz:na=0
  ·rcases lb hz with h1|h1<;>omega
  have:=la hz;omega
 rw[if_neg hnin]
 have hdef:(Bb.getD f []).getD row 0=((Z8 es Bb (m+1)).getD f Zp).d:=by
  rw[hO] at hOt
  simpa using hOt
 unfold xbF
 cases hfd:X.find? (fun y=>decide (atX row f y)) with
 |none=>exact hdef.symm
 | some y=>
  have h1:=List.find?_some hfd;exact absurd (hxin y (List.mem_of_find?_eq_some hfd) (of_decide_eq_true h1)).1 hOt
end Go.Proofs.YtfcgnpchbcmdeaaGreat
