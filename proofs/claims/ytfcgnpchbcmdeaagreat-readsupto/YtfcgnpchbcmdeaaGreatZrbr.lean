import Derived.Test.YtfcgnpchbcmdeaaGreatZrbk
import Derived.Test.YtfcgnpchbcmdeaaGreatZrbo
namespace Go.Proofs.YtfcgnpchbcmdeaaGreat
set_option linter.all false
open Go.RowKit
def Zi4 z:wrg z≠0:=by unfold wrg;split<;>omega
def Zlw S k (h:(Md S k 0 2 false).2.2.2=0):1<=(Md S k 0 2 false).1:=by grind [Md,Bw,Zi4,Ib,No]
def Zeu S n wd sc:∀f i L k,(St S n wd sc f i L k).2.2=0->(St S n wd sc f i L k).1.length=L.length+f
 |0,i,L,k,_=>rfl
 | f+1,i,L,k,h=>by
  unfold St at h ⊢;simp only at h ⊢
  by_cases e:(br S k (wd i) (sc i).toNat (Eg i n)).2.2=0
  rw[if_pos e] at h ⊢;rw[Zeu S n wd sc f (i+1) _ _ h,Qe,List.length_singleton];omega
  grind
def ZiD S n a b k (h:(Zu S n a b k).2.2.2=0):1<=(Zu S n a b k).1/\(Zu S n a b k).2.1.length=n:=by
 unfold Zu at h ⊢;simp only at h ⊢
 by_cases e:Ni S (Md S k 0 2 false).2.2.1 (Md S k 0 2 false).2.2.2 44=0
 rw[if_pos e] at h ⊢;have c:(Md S k 0 2 false).2.2.2=0:=(by grind [Ni,Zi4]);refine⟨Zlw S k c,?_⟩;rw[Zeu S n a b n 0 [] _ h];simp
 grind
def ZbQ S n wd sc:∀f L k,(∀p∈L,1<=p.1/\p.2.length=n)->∀p∈(Je S n wd sc f L k).1,1<=p.1/\p.2.length=n
 |0,L,k,hL=>hL
 | f + 1,L,k,hL=>by
  unfold Je
  by_cases h1:k<S.size
  ·rw[if_pos h1]
   by_cases h2:L.length=200
   ·grind
   rw[if_neg h2];simp only
   by_cases h3:(Zu S n wd sc k).2.2.2=0
   ·rw[if_pos h3];refine ZbQ S n _ _ f _ _ (λp hp=>?_)
    grind [ZiD]
   grind
  grind
def Zf8{m d b T s L}(c:∀i,i<m+1->d i=false->0<=b i/\b i<=3)(j:Ca (m+1) d b RS.start (Aq T) 0=.ok s)(h:L=(Je T (m+1) d b (T.size+1) [] 0).1)(f:Zd6 (m+1) s L):Yi L/\∀p∈L,p.2.length=m+1:=by
 have g:∀p∈L,1<=p.1/\p.2.length=m+1:=(by rw[h];exact ZbQ T _ _ _ _ _ 0 s_);have e:=Sb.takes o_ c _ (Sb.start _) (Ht.start (show 1<=m+1 by omega)) j;refine⟨λr hr=>⟨⟨(g r hr).1,?_⟩,λv hv=>?_⟩,λp hp=>(g p hp).2⟩;exact(e.ws _ (by rw[f.1];grind)).2;obtain⟨i,k,rfl⟩:=List.getElem_of_mem hv;have a:i<m+1:=w_;refine e.col i a _ ?_;rw[f.2 i a]
 grind
end Go.Proofs.YtfcgnpchbcmdeaaGreat
