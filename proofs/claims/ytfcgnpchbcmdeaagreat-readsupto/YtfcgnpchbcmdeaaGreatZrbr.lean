import Derived.Test.YtfcgnpchbcmdeaaGreatZrbk
import Derived.Test.YtfcgnpchbcmdeaaGreatZrbo
namespace Go.Proofs.YtfcgnpchbcmdeaaGreat
set_option linter.all false
open Go.RowKit
theorem Zi6 z:wrg z≠0:=by unfold wrg;split<;>omega
def ZlB S k (h:(Mc S k 0 2 false).2.2.2=0):1<=(Mc S k 0 2 false).1:=by grind [Mc,Bw,Zi6,Ib,Nn]
def Zeu S n wd sc:∀f i L k,(Sr S n wd sc f i L k).2.2=0->(Sr S n wd sc f i L k).1.length=L.length+f
 |0,i,L,k,_=>rfl
 | f+1,i,L,k,h=>by
  unfold Sr at h ⊢;simp only at h ⊢
  by_cases e:(bz S k (wd i) (sc i).toNat (Eg i n)).2.2=0
  rw[if_pos e] at h ⊢;rw[Zeu S n wd sc f (i+1) _ _ h,Qe,List.length_singleton];omega
  grind
theorem ZiF S n a b k (h:(Zv S n a b k).2.2.2=0):1<=(Zv S n a b k).1/\(Zv S n a b k).2.1.length=n:=by
 unfold Zv at h ⊢;simp only at h ⊢
 by_cases e:Ng S (Mc S k 0 2 false).2.2.1 (Mc S k 0 2 false).2.2.2 44=0
 rw[if_pos e] at h ⊢;have c:(Mc S k 0 2 false).2.2.2=0:=(by grind [Ng,Zi6]);refine⟨ZlB S k c,?_⟩;rw[Zeu S n a b n 0 [] _ h];simp
 grind
def ZbQ S n wd sc:∀f L k,(∀p∈L,1<=p.1/\p.2.length=n)->∀p∈(Jd S n wd sc f L k).1,1<=p.1/\p.2.length=n
 |0,L,k,hL=>hL
 | f + 1,L,k,hL=>by
  unfold Jd
  by_cases h1:k<S.size
  ·rw[if_pos h1]
   by_cases h2:L.length=200
   ·grind
   rw[if_neg h2];simp only
   by_cases h3:(Zv S n wd sc k).2.2.2=0
   ·rw[if_pos h3];refine ZbQ S n _ _ f _ _ (λp hp=>?_)
    grind [ZiF]
   grind
  grind
def Zf9{m d b T s L}(c:∀i,i<m+1->d i=false->0<=b i/\b i<=3)(h:Ca (m+1) d b RS.start (Aq T) 0=.ok s)(j:L=(Jd T (m+1) d b (T.size+1) [] 0).1)(e:Zd6 (m+1) s L):Yj L/\∀p∈L,p.2.length=m+1:=by
 have g:∀p∈L,1<=p.1/\p.2.length=m+1:=(by rw[j];exact ZbQ T _ _ _ _ _ 0 s_);have f:=Rz.takes o_ c _ (Rz.start _) (Ht.start (show 1<=m+1 by omega)) h;refine⟨λr hr=>⟨⟨(g r hr).1,?_⟩,λv hv=>?_⟩,λp hp=>(g p hp).2⟩;exact(f.ws _ (by rw[e.1];grind)).2;obtain⟨i,k,rfl⟩:=List.getElem_of_mem hv;have a:i<m+1:=w_;refine f.col i a _ ?_;rw[e.2 i a]
 grind
end Go.Proofs.YtfcgnpchbcmdeaaGreat
