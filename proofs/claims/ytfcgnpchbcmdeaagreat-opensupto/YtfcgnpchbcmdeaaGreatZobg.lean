import Derived.Test.YtfcgnpchbcmdeaaGreatZobf
import Derived.Test.YtfcgnpchbcmdeaaGreatZobe
namespace Go.Proofs.YtfcgnpchbcmdeaaGreat
set_option linter.all false
open Go.RowKit List Nat World Go.Proofs.Tryz Value IntKind Lib Region
theorem Zfv{e}{d}:∀b c,Yn e b c=some d->d.1∈b
 |[],c,a=>by simp[Yn] at a
 | f::b,c,a=>by
  unfold Yn at a;split at a
  ·grind
  exact mem_cons_of_mem _ (Zfv _ _ a)
theorem Zi7{b c a}(e:c ∉ a) d:Lk c (Yn b a d)=none:=by
 cases f:Yn b a d with
 |none=>rfl
 | some g=>
  grind [Zfv,Lk]
theorem ZeX{b c f}(i:c ∉ f):∀a d,c ∉ a->Lk c (Yn b (a++c::f) d)=if Bj b a<=d/\d<Bj b a+(b.getD c Ai).a then some (d-Bj b a) else none
 | [],d,_=>by
  simp only[nil_append,Yn,Bj,map_nil,sum_nil,Qg,true_and,Nat.zero_add,Nat.sub_zero]
  grind [Lk,Zi7]
 | e::a,d,l=>by
  have j:¬e=c:=w_;have h:c ∉ a:=w_;have k:Bj b (e::a)=(b.getD e Ai).a+Bj b a:=(by simp[Bj]);simp only[cons_append,Yn];rw[k]
  by_cases g:d<(b.getD e Ai).a
  rw[aD g,aC O];simp[Lk,j];rw[aC g,ZeX i a _ h]
  grind
theorem Zi9{b d a e}(g:d ∉ a)(h:d ∉ e) c:Lk d (Nj b (a++d::e) c)=if 1+Bj b a<=c/\c<1+Bj b a+(b.getD d Ai).a then some (c-(1+Bj b a)) else none:=by
 unfold Nj
 by_cases f:c=0
 rw[aD f,aC O];rfl
 grind [ZeX]
theorem Zi8{c a b}(e:a ∉ b) d:Lk a (Nj c b d)=none:=by unfold Nj;split;rfl;exact Zi7 e _
def Zho{c d e f a b A C}(j:b<d.length)(k:d.getD b []=A++a::C)(h:a ∉ A)(i:a ∉ C)(l:∀g,g<d.length->g≠b->a ∉ d.getD g []):Ir c d e f a=if 1+Bj c A<=(e.getD b []).getD f 0/\(e.getD b []).getD f 0<1+Bj c A+(c.getD a Ai).a then(e.getD b []).getD f 0-(1+Bj c A) else(c.getD a Ai).d:=by grind [Gn,Zi8,Zi9,ZbX,ts]
section
variable {Ks:List KS} {Os:List (List Bool)} {Bb:List (List Nat)} {n:Nat}
def Zks{b e c a}(h:a<n)(j:∀f∈b++c::e,∀a,(Bb.getD f []).getD a 0<(Ks.getD f Ai).a)(p:(Os.getD c []).getD a false=true↔(Bb.getD c []).getD a 0≠(Ks.getD c Ai).d):((if 1+Bj Ks b<=(Jy Ks Os Bb n (b++c::e)).getD a 0/\(Jy Ks Os Bb n (b++c::e)).getD a 0<1+Bj Ks b+(Ks.getD c Ai).a then(Jy Ks Os Bb n (b++c::e)).getD a 0-(1+Bj Ks b) else(Ks.getD c Ai).d)≠(Bb.getD c []).getD a 0)↔((Os.getD c []).getD a false=true/\(Jy Ks Os Bb n b).getD a 0≠0):=by
 have o:Zfz n ⟨replicate n 0,[],1⟩:=⟨s_,Nat.one_pos,λv t=>w_⟩;have i:=Vm (Os:=Os) b _ (λf g=>j f (by simp[g])) o;have s:(b.foldl (Ak _ _ _ n) ⟨replicate n 0,[],1⟩).off=1+_:=Sc Ks Os Bb n b _;have l:(Jy _ _ Bb n b).getD a 0=(b.foldl (Ak Ks Os _ n) _).N.getD a 0:=rfl;have k:(Jy Ks Os Bb n (b++c::e)).getD a 0=(e.foldl (Ak Ks Os Bb n) (Ak Ks Os Bb n (b.foldl (Ak Ks Os Bb n) ⟨replicate n 0,[],1⟩) c)).N.getD a 0:=(by unfold Jy Jm;grind);rw[l,k];generalize b.foldl (Ak Ks Os Bb n) ⟨replicate n 0,[],1⟩=d at *;have g:(Ak Ks Os Bb n d c).N.getD a 0=_:=Xz _ _ _ _ h;unfold mh at g;have r:(Ak Ks Os Bb n d c).off=_+_:=rfl
 have q:d.N.getD a 0<d.off:=(by have m:a<d.N.length:=i.len ▸ h;have:d.N.getD a 0∈d.N:=(by simp[getD,m]);exact i.lt _ this);have⟨m,u⟩:=Ze (Ks:=Ks) (Os:=Os) (Bb:=Bb) e (Ak Ks Os Bb n d c) O a h
 grind
end
def exC(d:Nat->Nat->Bool)(c:Nat->Nat->Nat)(b a:Nat):List XS:=if d b a=true then[⟨b,a,c b a⟩] else[]
def vh(c:Nat->Nat->Bool)(a:Nat->Nat->Nat)(d:Nat):Nat->List XS
 |0=>[]
 |b+1=>vh c a d b++exC c a d b
def gn(c:Nat->Nat->Bool)(b:Nat->Nat->Nat)(a:Nat):Nat->List XS
 |0=>[]
 |d+1=>gn c b a d++vh c b d a
theorem Xs{d c b}{x}:∀a,x∈vh d c b a↔x.row=b/\x.f<a/\d b x.f=true/\x.i=c b x.f
 |0=>by simp[vh]
 | a+1=>by
  simp only[vh,mem_append,Xs a,exC];obtain⟨g,f,e⟩:=x
  grind
theorem gy{d c b}{x}:∀a,x∈gn d c b a↔x.row<a/\x.f<b/\d x.row x.f=true/\x.i=c x.row x.f
 |0=>by simp[gn]
 | a+1=>by
  simp only[gn,mem_append,gy a,Xs]
  grind
abbrev upX(x a:XS):Prop:=x.row<a.row∨x.row=a.row/\x.f<a.f
def Zao c b d:∀a,(vh c b d a).Pairwise upX
 |0=>Pairwise.nil
 | a+1=>by
  simp only[vh];refine pairwise_append.2 ⟨Zao c b d a,?_,λg e h f=>?_⟩;unfold exC;split<;>simp
  grind [Xs,exC]
def jn d c b:∀a,(gn d c b a).Pairwise upX
 |0=>Pairwise.nil
 | a+1=>by
  simp only[gn];refine pairwise_append.2 ⟨jn d c b a,Zao d c a b,λg e h f=>?_⟩
  grind [gy,Xs]
def ZiJ{p b a c d}(g:Nk d)(h:∀x,x∈d↔x.row<c/\x.f<a/\p x.row x.f=true/\x.i=b x.row x.f):(gn p b a c).Perm d/\Eh (gn p b a c):=by refine⟨(perm_ext_iff_of_nodup ?_ ?_).2 (λx=>by rw[h,gy]),(jn p b a c).imp (λe=>O)⟩;exact(jn p b a c).imp (λe f=>w_);exact g.imp (λe f=>w_)
def ms{b}:∀a,b∈Gy a->(Gy a).Nodup->∃g e f,g<a.length/\(a.getD g Fj).fs=e++b::f/\b ∉ e/\b ∉ f/\∀d,d<a.length->d≠g->b ∉ (a.getD d Fj).fs
 |[],c,_=>by simp[Gy] at c
 | k ::a,c,n=>by
  have p:Gy (k::a)=k.fs++Gy a:=(by simp[Gy]);rw[p] at c n;have⟨o,u,w⟩:=nodup_append.1 n
  rcases mem_append.1 c with c|c
  ·have⟨e,f,h⟩:=append_of_mem c;rw[h] at o;have⟨v,s,t⟩:=nodup_append.1 o;refine⟨0,e,f,s_,by simpa using h,λj=>t b j b s_ rfl,(nodup_cons.1 s).1,λd m r l=>?_⟩;obtain⟨i,rfl⟩:∃i,d=i+1:=⟨d-1,O⟩
   have q:i<a.length:=by simpa using m
   have:b∈Gy a:=by unfold Gy;rw[mem_flatMap];exact⟨a.getD i _,by simp[getD,q],by simpa using l⟩
   grind
  have⟨g,e,f,q,h,j,i,s⟩:=ms a c u;refine⟨g+1,e,f,by simpa using q,by simpa using h,j,i,λd m r l=>?_⟩
  grind
section
variable {m n:Nat} {Ks:List KS} {Os:List (List Bool)} {Bb:List (List Nat)} {Gs:List GS}
def gg Os Bb n (Ks:List KS):∀Gs a,(Gs.foldl (Lh Os Bb n) a).g.map BS.fs=a.g.map BS.fs++Gd Gs
 |[],a=>by simp[Gd]
 |b::Gs,a=>by simp only[foldl_cons];rw[gg Os Bb n Ks Gs];simp[Lh,Gd]
def zg(p:∀g∈Gs,∀a∈g.fs,a<Ks.length)(m:∀f,f<Ks.length->∀b,(Bb.getD f []).getD b 0<(Ks.getD f Ai).a)(l:∀b,b<n->∀d,d<Ks.length->(Os.getD d []).getD b false=sO Ks Bb d b):(Fl Os Bb n Ks Gs).g.map BS.N=(Gd Gs).map (λc=>Hi Ks Bb c n):=by
 have k:=Zcn (Ks:=Ks) (Os:=Os) (Bb:=Bb) (n:=n) Gs ⟨Ks,[],[]⟩ rfl s_;have e:=gg Os Bb n Ks Gs ⟨Ks,[],[]⟩;simp only[map_nil,nil_append] at e;unfold Fl;rw[<- e,map_map];refine map_congr_left λc h=>?_
 have j:∀a∈c.fs,a<Ks.length:=λa i=>by
  have:c.fs∈Gd Gs:=(by rw[<- e];exact mem_map.2 ⟨c,h,rfl⟩);have⟨g,q,o⟩:=mem_map.1 this
  grind
 rw[k c h];refine(Ziu l j ?_).s;exact(gi (xs:=[]) (λa i=>m a (j a i))).len
def zh(F:Ks.length=m+1)(w:(Gy Gs).Perm (range (m+1)))(B:(Gy Gs).Nodup)(y:∀s,s<m+1->∀c,(Bb.getD s []).getD c 0<(Ks.getD s Ai).a)(v:∀c,c<n->∀e,e<Ks.length->(Os.getD e []).getD c false=sO Ks Bb e c) x:x∈(Fl Os Bb n Ks Gs).q↔x.row<n/\x.f<m+1/\decide (Ir Ks (Gd Gs) ((Gd Gs).map (λh=>Hi Ks Bb h n)) x.row x.f≠(Bb.getD x.f []).getD x.row 0)=true/\x.i=(Bb.getD x.f []).getD x.row 0:=by
 have A:=λl o a i=>by
  have:a∈Gy Gs:=by unfold Gy;rw[mem_flatMap];exact⟨l,o,i⟩
  simpa using w.mem_iff.1 this
 have Z:∀{a c b g d},c<n->a<m+1->d<Gs.length->(Gs.getD d Fj).fs=b++a::g->a ∉ b->a ∉ g->(∀f,f<Gs.length->f≠d->a ∉ (Gs.getD f Fj).fs)->(Ir Ks (Gd Gs) ((Gd Gs).map (λh=>Hi Ks Bb h n)) c a≠(Bb.getD a []).getD c 0↔((Os.getD a []).getD c false=true/\(Jy Ks Os Bb n b).getD c 0≠0)):=by
  intro a c b g d p i q k t u D;have L:(Gd Gs).length=Gs.length:=by simp[Gd]
  have M:∀f,f<Gs.length->(Gd Gs).getD f []=(Gs.getD f Fj).fs:=λf r=>by simp[Gd,getD,r]
  have G:Gs.getD d Fj∈Gs:=w_;have z:=λe j=>A _ G e (k ▸ j);have H:((Gd Gs).map (λh=>Hi Ks Bb h n)).getD d []=Jy Ks Os Bb n (b++a::g):=(by have E:((Gd Gs).map (λh=>Hi Ks Bb h n)).getD d []=Hi Ks Bb (b++a::g) n:=w_;rw[E];exact Ziu v (λe j=>w_) (gi (xs:=[]) (λe j=>y e (z e j))).len);rw[Zho (b:=d) (A:=b) (C:=g) (L ▸ q) w_ t u (λf r h=>w_),H];apply Zks p (λe j=>y e (z e j));rw[v c p a (F ▸ i)];unfold sO
  grind
 rw[show(Fl Os Bb n Ks Gs).q=(Gs.foldl (Lh Os Bb n) ⟨Ks,[],[]⟩).q from rfl,kz (Ks:=Ks) Gs ⟨Ks,[],[]⟩ x rfl];simp only[not_mem_nil,false_or,decide_eq_true_eq];constructor
 ·rintro⟨l,o,b,g,k,p,z,E,R⟩;have i:=A l o x.f (by rw[k];simp);have H:x.f∈Gy Gs:=w_;have⟨d,h,t,q,L,S,U,D⟩:=ms Gs H B;have⟨f,r,P⟩:=aM o;have W:f=d:=w_;have u:Gs.getD d Fj=l:=w_
  have T:b=h:=by
   rw[u,k] at L
   have X:x.f ∉ b:=λQ=>by grind [Gy]
   have M:(b++x.f::g).takeWhile (λj=>j !=x.f)=b:=(by rw[takeWhile_append_of_pos (λj G=>w_)];simp);have N:(h++x.f::t).takeWhile (λj=>j !=x.f)=h:=by rw[takeWhile_append_of_pos (λj G=>w_)];simp
   grind
  grind
 rintro⟨p,i,z,E⟩;obtain⟨d,b,g,q,k,t,u,D⟩:=ms Gs (w.mem_iff.2 (by simpa using i)) B
 grind
end
end Go.Proofs.YtfcgnpchbcmdeaaGreat
