import Derived.Test.YtfcgnpchbcmdeaaGreatZsah
import Derived.Test.YtfcgnpchbcmdeaaGreatRows
open _root_ renaming Nat->H,Int->E,List->U,Bool->ZG,ByteArray->ZC,Option->Y0,rfl->X
open Int renaming toNat->ZL
open Bool renaming false->ZZ,true->Z0
open List renaming length->F,getD->Z,drop->ZF,take->ZU,replicate->Y6
open ByteArray renaming size->ZK
open Decidable renaming decide->ZE
open Option renaming some->T,none->ZP,some->Z2
open Or renaming inl->ZM,inr->ZJ
open Go renaming strOfNums->ZB,Value->ZY,World->ZT,maxLen->Y2
open Go.World renaming ownsRow->ZD,cell?->ZV,frozen?->YT,alloc->ZN,setCell->ZO,grownBy->Y3
open Go.Value renaming ownBlock->ZW,slice->ZH,int->ZX,agg->Y9,bool->ZR,pointer->Y7,tuple->Y5
open Array renaming size->B
open Go.IntKind renaming i64->ZQ
open Go.Ending renaming returned->ZI
open Go.Proofs.Tryz renaming prog->Y8
namespace Go.Proofs.YtfcgnpchbcmdeaaGreat
set_option linter.all false
set_option maxRecDepth 100000
set_option maxHeartbeats 4000000
open Go.RowKit List Nat Go.World Go.Proofs.Tryz Go.Value Go.IntKind Go.Lib Go.Region
def Vv(e:ZC)(f:H)(h:H->ZG)(g:H->E):H->H->U VS->H->U VS×H×E
 |0,_,b,d=>(b,d,0)
 | i+1,c,b,d=>
  let a:=jn e d (h c) (ZL (g c)) (El c f)
  if a.2.2=0 then Vv e f h g i (c+1) (b++[a.1]) a.2.1 else(b++[a.1],a.2.1,a.2.2)
def iq(b:ZC)(e:H)(i:H->ZG)(h:H->E)(g:H):E×U VS×H×E:=
 let a:=Oh b g 0 2 ZZ
 let d:=Pa b a.2.2.1 a.2.2.2 44
 let f:=Pt b a.2.2.1 a.2.2.2 44
 if f=0 then let c:=Vv b e i h e 0 [] d;(a.1,c.1,c.2.1,c.2.2) else(a.1,[],d,f)
def Kr(d:ZC)(e:H)(g:H->ZG)(f:H->E):H->U (E×U VS)->H->U (E×U VS)×H×E
 |0,a,b=>(a,b,0)
 | h + 1,a,b=>
  if b<ZK d then
   if F a=200 then(a,b,3)
   else
    let c:=iq d e g f b
    if c.2.2.2=0 then Kr d e g f h (a++[(c.1,c.2.1)]) c.2.2.1 else(a,c.2.2.1,c.2.2.2)
  else(a,b,0)
section
variable {S:ZC}
theorem Zgh{a z b}(c:0<=b)(e:a<=ZK S):a<=Pa S a z b/\Pa S a z b<=ZK S:=by unfold Pa;split;rename_i d;have:=Hq c d;omega;omega
def ZfN{a c}(b:Ji S a c=Z0):a<ZK S:=(yn b).1
theorem Zn6 e f:∀d b c a,a<=ZK S->a<=(Py S e f d b c a).2.2/\(Py S e f d b c a).2.2<=ZK S
 |0,b,c,a,g=>by simp only[Py];omega
 | d+1,b,c,a,g=>by
  unfold Py;split;rename_i i;have h:=ZfN i.1;have:=Zn6 e f d (b+1) (10*c+(Eh S a-48)) (a+1) h;omega
  grind
def ZkX{a} d c b (e:a<=ZK S):a<=(Oh S a d c b).2.2.1/\(Oh S a d c b).2.2.1<=ZK S:=by grind [Oh,Zn6]
theorem ZnX d:∀c b a,a<=ZK S->a<=(Ym S d c b a).2.2/\(Ym S d c b a).2.2<=ZK S
 |0,b,a,e=>by simp only[Ym];omega
 | c+1,b,a,e=>by
  unfold Ym;split;rename_i g;have f:=ZfN g;have:=ZnX d c (10*b+(Eh S a-48)) (a+1) f;omega
  grind
theorem Zp0{a} b c (d:a<=ZK S):a<=(jk S a b c).2.1/\(jk S a b c).2.1<=ZK S:=by
 unfold jk;simp only;have e:a<=(if _=_ then _ else a)/\(if _=_ then _ else a)<=_:=Zgh (z:=b) (b:=45) C d;generalize (if Bp S a b 45=Z0 then a+1 else a)=g at *;have i:=ZkX b 5 Z0 e.2;generalize Oh S g b 5 Z0=h at *;unfold ptF;split
 ·rename_i f;have j:=Hq C f.1
  grind [ZnX]
 grind
def Zld:∀(c:H)(b:U E)(a:H),a<=ZK S->a<=(ij S c b a).2.1/\(ij S c b a).2.1<=ZK S
 |0,b,a,f=>by simp only[ij];omega
 | c +1,b,a,f=>by
  unfold ij;split
  ·rename_i h;have e:=Hq C h;split;rename_i d;have g:=Hq C d.1;have:=Zld c (b++[34]) (a+2) g;omega
   grind
  split;rename_i d;have e:=jr d.1;have:=Zld c (b++[Eh S a]) (a+1) e;omega
  grind
def ZkK:∀(c:H)(b:U E)(a:H),a<=ZK S->a<=(Nj S c b a).2/\(Nj S c b a).2<=ZK S
 |0,b,a,d=>by simp only[Nj];omega
 |c+1,b,a,d=>by unfold Nj;split;rename_i f;have e:=jr (by unfold pu;rw[f];rfl);have:=ZkK c (b++[Eh S a]) (a+1) e;omega;omega
theorem Zqo{a}(b:a<=ZK S):a<=(iy S a).2.1/\(iy S a).2.1<=ZK S:=by unfold iy;split;rename_i d;have c:=Hq C d;have:=Zld 9 [] (a+1) c;omega;exact ZkK 8 _ a b
def ZnW{a} d c {b}(e:0<=b)(g:a<=ZK S):a<=(jn S a d c b).2.1/\(jn S a d c b).2.1<=ZK S:=by
 unfold jn;split;rename_i f;have:=Hq e f;simp only;omega
 grind [Zqo,Zgh,Zp0]
def dv a b:0<=El a b:=by unfold El;split<;>decide
theorem ZnY d f e:∀g a c b,b<=ZK S->b<=(Vv S d f e g a c b).2.1/\(Vv S d f e g a c b).2.1<=ZK S
 |0,a,c,b,h=>by simp only[Vv];omega
 |g+1,a,c,b,h=>by have i:=ZnW (f a) (ZL (e a)) (dv a d) h;unfold Vv;simp only;split;have:=ZnY d f e g (a+1) (c++[(jn S b (f a) (ZL (e a)) (El a d)).1]) _ i.2;omega;exact i
def Zoa b d c {a}(e:a<=ZK S):(a<=(iq S b d c a).2.2.1/\(iq S b d c a).2.2.1<=ZK S)/\((iq S b d c a).2.2.2=0->a<(iq S b d c a).2.2.1):=by
 have f:=ZkX 0 2 ZZ e
 grind [iq,Zgh,ZnY,Pa,Pt,wrg]
end
theorem Nc a b:Ji a b 0=Cc (Eh a b):=by unfold Ji Cc;simp
theorem Zel a b:Yx a b 0=Fz (Eh a b):=by unfold Yx Fz;simp
theorem Hp a c b:Bp a c 0 b=ZE (Eh a c=b):=by unfold Bp;simp
def Zlv{a b}(c:Eh a b≠34):pu a b=Gh (Eh a b):=by grind [pu,Gh,Zel,Hp]
def te(c:ZC)(g:ZG)(f:E):H->Cm->U E->H->Y0 (Cm×U E)
 |0,b,a,_=>T (b,a)
 | h+1,b,a,d=>match As g f b a (Eh c d) with
  |some e=>te c g f h e.1 e.2 (d+1)
  |none=>ZP
def Gc(c:ZC)(j:ZG)(i:E)(g:Cm)(d:U E)(a:H)(h:Cm)(e:U E)(f:H):Prop:=∃b,f=a+b/\te c j i b g d a=T (h,e)
section
variable {S:ZC} {wd:ZG} {u:E} {p b f:Cm} {bs a c:U E} {k d e:H}
def Gc.refl:Gc S wd u p bs k p bs k:=⟨0,X,X⟩
def Zcu:∀(a b:H) (p:Cm) (bs:U E) (k:H),te S wd u (a+b) p bs k=(te S wd u a p bs k).bind (λc=>te S wd u b c.1 c.2 (k+a))
 |0,b,p,bs,k=>by simp[te]
 | a +1,b,p,bs,k=>by
  rw[show a+1+b=(a+b)+1 by omega];simp only[te]
  cases As wd u p bs (Eh S k) with
  |none=>rfl
  | some c=>
   simp only;rw[Zcu a b c.1 c.2 (k+1),show k+1+a=k+(a+1) by omega]
def Gc.T(h:Gc S wd u p bs k b a d)(g:Gc S wd u b a d f c e):Gc S wd u p bs k f c e:=by obtain⟨i,rfl,h⟩:=h;obtain⟨j,rfl,g⟩:=g;exact⟨i+j,O,by rw[Zcu,h];exact g⟩
def Gc.x(c:As wd u p bs (Eh S k)=Z2 (b,a)):Gc S wd u p bs k b a (k+1):=⟨1,X,by simp[te,c]⟩
end
def pD(c e:ZG)(a d:E)(b:H):Cm:=⟨if e=Z0 then 2 else 3,c,b,a,d*a,N_⟩
def Zgk d g j c:∀f a e b,1<=a->f+a=5->(c=Z0->a=1)->Gc d ZZ g (pD j c g e a) [] b (pD j c g (Py d 0 c f a e b).1 (Py d 0 c f a e b).2.1) [] (Py d 0 c f a e b).2.2/\1<=(Py d 0 c f a e b).2.1/\(c=Z0->(Py d 0 c f a e b).2.1=1)/\(c=Z0∨(Py d 0 c f a e b).2.1=5∨Cc (Eh d (Py d 0 c f a e b).2.2)=ZZ)
 |0,a,e,b,h,m,i=>by simp only[Py];exact⟨.refl,h,i,ZJ (ZM O)⟩
 | f +1,a,e,b,h,m,i=>by
  unfold Py;split
  ·rename_i k;have n:c=ZZ:=w_;subst n;have l:=Zgk d g j ZZ f (a+1) (10*e+(Eh d b-48)) (b+1) O O s_;refine⟨Gc.T (Gc.x ?_) l.1,l.2⟩;have o:Cc (Eh d b)=Z0:=(by rw[<- Nc];exact k.1);unfold As Do pD Lt
   grind
  rename_i k;simp only;refine⟨.refl,h,i,?_⟩
  grind [Nc]
def p1(a:ZG):Cm:=if a=Z0 then {part0 with n:=1,neg:=Z0} else part0
def Zhh{a d c b}(e:Cc (Eh a b)=Z0):As ZZ d (p1 c) [] (Eh a b)=T (pD c (ZE (Eh a b=48)) d (Eh a b-48) 1,[]):=by
 have f:=Mm e
 grind [As,Do,p1,part0,Rg,Io,pD]
def Znj{b g f a}:(Cc (Eh b a)=Z0/\(Oh b a 0 5 Z0).2.2.2=0/\∃c,Gc b ZZ g (p1 f) [] a (pD f c g (Oh b a 0 5 Z0).1 (Oh b a 0 5 Z0).2.1) [] (Oh b a 0 5 Z0).2.2.1/\(c=Z0∨(Oh b a 0 5 Z0).2.1=5∨Cc (Eh b (Oh b a 0 5 Z0).2.2.1)=ZZ))∨(Cc (Eh b a)=ZZ/\Oh b a 0 5 Z0=(0,0,a,2)):=by
 have c:Oh b a 0 5 Z0=(_,_,_,_):=aC s_
 cases e:Cc (Eh b a) with
 | true=>
  have d:Py b 0 (Bp b a 0 48) 5 0 0 a=Py b 0 (Bp b a 0 48) 4 1 (Eh b a-48) (a+1):=by
   conv=>lhs;unfold Py
   rw[aD ⟨by rw[Nc];exact e,s_⟩];simp
  rw[d] at c;have⟨h,j,k,i⟩:=Zgk b g f (Bp b a 0 48) 4 1 (Eh b a-48) (a+1) O O (λ_=>X);rw[c];refine ZM ⟨X,aC O,Bp b a 0 _,Gc.T (Gc.x ?_) h,i⟩;rw[Hp];exact Zhh e
 | false=>
  have d:Py b 0 (Bp b a 0 48) 5 0 0 a=(0,0,a):=(by unfold Py;rw[aC (λh=>by rw[Nc,e] at h;grind)]);rw[d] at c;exact ZJ ⟨X,c⟩
theorem eh:∀a,Ch a=10^a
 |0=>X
 |a+1=>by rw[Ch,eh a,Int.pow_succ]
def pF(d:ZG)(b:H)(e:E)(a:H)(c:E):Cm:=⟨e,d,b,10^a,c*10^a,N_⟩
def ZeH{a}(c:0<a):(10:E)^a≠1:=by obtain⟨a,rfl⟩:∃b,a=b+1:=⟨a-1,O⟩;omega
def ZfU b j h g:∀d c a e,(e=4∨e=5)->∃f,(f=5∨f=e/\(Ym b 0 d c a).2.2=a)/\Gc b ZZ j (pF h g e d c) [] a (pF h g f (Ym b 0 d c a).2.1 (Ym b 0 d c a).1) [] (Ym b 0 d c a).2.2/\((Ym b 0 d c a).2.1=0∨Cc (Eh b (Ym b 0 d c a).2.2)=ZZ)
 |0,c,a,e,n=>⟨e,ZJ ⟨X,X⟩,.refl,ZM X⟩
 | d +1,c,a,e,n=>by
  unfold Ym;split
  ·rename_i i;have p:Cc (Eh b a)=Z0:=(by rw[<- Nc];exact i);have⟨f,o,k,l⟩:=ZfU b j h g d (10*c+(Eh b a-48)) (a+1) 5 (ZJ X);refine⟨5,ZM X,?_,l⟩;have m:f=5:=O;subst m;refine Gc.T (Gc.x ?_) k;unfold As Do pF Je
   grind
  rename_i i;exact⟨e,ZJ ⟨X,X⟩,.refl,ZJ (by rw[<- Nc];grind)⟩
theorem Zkf c e:∀d b a,a<=(Ym c e d b a).2.2
 |0,b,a=>x_
 | d+1,b,a=>by
  unfold Ym;split;have:=Zkf c e d (10*b+(Eh c a-48)) (a+1);omega
  grind
def Zke d a c b:Ym d 2 a c b=(c,a,b):=by
 cases a with
 |zero=>rfl
 |succ a=>unfold Ym;rw[aC (by unfold Ji;simp)]
def Zpb a {f e c} g d {b}(h:e=Z0∨d=5∨Cc (Eh a b)=ZZ)(i:¬(Eh a b=46/\c≠1)):As ZZ c (pD f e c g d) [] (Eh a b)=ZP:=by grind [As,Do,pD,Lt,Nl]
def Zk6 b {e h a} f c {d}(i:Eh b d=46)(g:0<a):As ZZ (Ch a) (pD e h (Ch a) f c) [] (Eh b d)=T (pF e c 4 a f,[]):=by
 have j:=ZeH g;unfold As Do pD pF
 grind [eh,Lt,Cc,Nl]
def ZmD a b c:∃f,Gc a ZZ (Ch c) part0 [] b f [] (jk a b 0 c).2.1/\As ZZ (Ch c) f [] (Eh a (jk a b 0 c).2.1)=ZP/\(((jk a b 0 c).2.2=0/\Et f.n=Z0/\f.n≠0/\Tm f=(jk a b 0 c).1)∨((jk a b 0 c).2.2=2/\(Et f.n=ZZ∨(jk a b 0 c).2.1=b))):=by
 have m:Gc a ZZ (Ch c) part0 [] b (p1 (Bp a b 0 45)) [] (if Bp a b 0 45=Z0 then b+1 else b):=by
  cases d:Bp a b 0 45 with
  |false=>exact .refl
  | true=>
   rw[Hp] at d;apply Gc.x;rw[(of_decide_eq_true d)];rfl
 have A:Bp a b 0 _=ZZ->(if Bp a b 0 _=Z0 then b+1 else b)=b/\Eh a b≠45:=λd=>⟨by rw[d];rfl,λg=>by rw[Hp,aF g] at d;cases d⟩;unfold jk;simp only;generalize Bp a b 0 45=k at *;generalize (if k=Z0 then b+1 else b)=r at *
 rcases Znj with⟨_,q,t,n,p⟩|⟨j,g⟩
 ·generalize Oh a r 0 5 Z0=u at *;obtain⟨l,o,i,L⟩:=u;simp only at q n p;subst q;unfold ptF;split
  ·rename_i e;rw[Hp,decide_eq_true_eq] at e;have s:=(m.T n).T (Gc.x (Zk6 a l o e.1 e.2))
   cases j:Cc (Eh a (i+1)) with
   | true=>
    have h:Ji a (i+1) 0=Z0:=(by rw[Nc];exact j);simp only[h,if_true];have⟨z,x,y,G⟩:=ZfU a (Ch c) k o c l (i+1) 4 (ZM X)
    have v:z=5:=by
     rcases x with d|⟨_,d⟩
     exact d;exfalso;obtain⟨D,rfl⟩:∃w,c=w+1:=⟨c-1,O⟩
     grind [Ym,Zkf]
    subst v;generalize Ym a 0 c l (i+1)=w at *;refine⟨_,s.T y,?_,ZM ⟨by trivial,X,by simp[pF],?_⟩⟩
    ·grind [As,Do,pF,Je]
    unfold Tm pF
    cases k<;>rfl
   | false=>
    have h:Ji a (i+1) 0=ZZ:=(by rw[Nc,j]);simp only[h,Bool.false_eq_true,if_false];rw[show wrg 0=2 from X,Zke];refine⟨_,s,?_,ZJ ⟨by trivial,ZM X⟩⟩;unfold As Do pF Je;simp[j]
  rename_i e;rw[Hp,decide_eq_true_eq] at e;refine⟨_,m.T n,Zpb a l o p (λd=>e ⟨d.1,Nat.pos_of_ne_zero λg=>d.2 (by rw[g];rfl)⟩),ZM ⟨X,?_,?_,?_⟩⟩
  ·cases t<;>rfl
  ·cases t<;>simp[pD]
  grind [Tm,pD,eh]
 rw[g];simp only;have h:ptF a r 2 c 0=_:=aC (λd=>by unfold Bp at d;simp at d);rw[h];refine⟨_,m,?_,ZJ ⟨X,?_⟩⟩
 ·grind [As,Do,p1,part0,Rg,Io]
 cases k
 ·grind
 exact ZM X
def pW(a:E):Cm:={part0 with n:=a}
def qu{a f st b c o}(e:Cq st b (Eh a c)=o):As Z0 f (pW st) b (Eh a c)=o.map (λd=>(pW d.1,d.2)):=by unfold As;rw[aD X];show(Cq st b (Eh a c)).map _=_;rw[e];rfl
theorem Zm1{a c b}(d:F b=8∨Fz (Eh a c)=ZZ):Mf b (Eh a c)=ZP:=aC λe=>w_
theorem ZhB{a}(b:Fz a=Z0):a≠34:=λc=>by rw[c] at b;exact absurd b C
def ZbF c i:∀e a b d,(d=0∨d=6)->F a+e=8->∃g,(g=6∨g=d/\(Nj c e a b).2=b)/\Gc c Z0 i (pW d) a b (pW g) (Nj c e a b).1 (Nj c e a b).2/\(F (Nj c e a b).1=8∨Fz (Eh c (Nj c e a b).2)=ZZ)
 |0,a,b,d,m,h=>⟨d,ZJ ⟨X,X⟩,.refl,ZM (by simpa [Nj] using h)⟩
 |e+1,a,b,d,m,h=>by unfold Nj;split;rename_i f;rw[Zel] at f;have⟨g,o,j,k⟩:=ZbF c i e (a++[Eh c b]) (b+1) 6 (ZJ X) t_;have l:g=6:=O;subst l;refine⟨6,ZM X,Gc.T (Gc.x ?_) j,k⟩;have p:Mf a _=_:=aD ⟨f,O⟩;have n:Cq d a (Eh c b)=T (6,a++[Eh c b]):=(by grind [Cq,ZhB]);exact qu n;rename_i f;rw[Zel] at f;exact⟨d,ZJ ⟨X,X⟩,.refl,ZJ (Bool.eq_false_iff.2 f)⟩
def zx c h:∀d a b,F a+d=9->F a<=8->∃e,Gc c Z0 h (pW 7) a b (pW e) (ij c d a b).1 (ij c d a b).2.1/\Cq e (ij c d a b).1 (Eh c (ij c d a b).2.1)=ZP/\(((ij c d a b).2.2=0/\e=8)∨((ij c d a b).2.2=2/\e=7))
 |0,a,b,m,l=>O
 | d + 1,a,b,m,l=>by
  unfold ij;split
  ·rename_i f;rw[Hp,decide_eq_true_eq] at f;have n:Gc c _ h (pW 7) _ b (pW 8) a _:=Gc.x (qu (o:=T (8,a)) (by rw[f];rfl));split
   ·rename_i g;rw[Hp,decide_eq_true_eq] at g;have⟨e,i,j,k⟩:=zx c h d (a++[34]) (b+2) t_ t_;refine⟨e,n.T (Gc.T (Gc.x (k:=b+1) (qu (o:=T (7,a++[34])) ?_)) i),j,k⟩
    grind [Cq,Ok]
   grind [Hp,Cq,Ok]
  rename_i f;rw[Hp,decide_eq_true_eq] at f;split
  ·rename_i g;rw[Zlv f] at g;have⟨e,i,j,k⟩:=zx c h d (a++[Eh c b]) (b+1) t_ t_;refine⟨e,Gc.T (Gc.x (qu (o:=T (7,a++[Eh c b])) ?_)) i,j,k⟩
   grind [Cq,fz]
  rename_i g;rw[Zlv f] at g;refine⟨7,.refl,?_,ZJ ⟨X,X⟩⟩
  grind [Cq,fz]
def ZnH a b f:∃c,Gc a Z0 f part0 [] b (pW c) (iy a b).1 (iy a b).2.1/\As Z0 f (pW c) (iy a b).1 (Eh a (iy a b).2.1)=ZP/\(((iy a b).2.2=0/\Et c=Z0/\(c≠0∨(iy a b).2.1=b))∨((iy a b).2.2=2/\Et c=ZZ)):=by
 unfold iy;split
 ·rename_i e;rw[Hp,decide_eq_true_eq] at e;have⟨c,g,h,i⟩:=zx a f 9 [] (b+1) X s_;refine⟨c,Gc.T (Gc.x (qu (st:=0) (o:=T _) (by rw[e];rfl))) g,qu (o:=ZP) h,?_⟩
  rcases i with⟨d,rfl⟩|⟨d,rfl⟩
  exact ZM ⟨d,X,ZM C⟩;exact ZJ ⟨d,X⟩
 rename_i e;rw[Hp,decide_eq_true_eq] at e;have⟨c,g,h,i⟩:=ZbF a f 8 [] b 0 (ZM X) X;refine⟨c,h,qu (o:=ZP) ?_,ZM ⟨X,?_,?_⟩⟩
 ·grind [Zm1,Cq]
 ·rcases g with rfl|⟨rfl,d⟩<;>rfl
 grind
def dr(c:ZC)(d:H)(f:H->ZG)(e:H->E):H->RS->H->Except (E×H) RS
 |0,b,_=>.ok b
 | g+1,b,a=>match Cv d f e b (Eh c a) with
  |.error i=>.error (i,a)
  |.ok h=>dr c d f e g h (a+1)
def Jb(c:ZC)(e:H)(i:H->ZG)(h:H->E)(f:RS)(a:H)(g:RS)(d:H):Prop:=∃b,d=a+b/\dr c e i h b f a=.ok g
section
variable {S:ZC} {n:H} {wd:H->ZG} {sc:H->E} {s s' c:RS} {k a b:H}
def Jb.refl:Jb S n wd sc s k s k:=⟨0,X,X⟩
def pj:∀(a b:H) (s:RS) (k:H),dr S n wd sc (a+b) s k=match dr S n wd sc a s k with
  |.error c=>.error c
  |.ok s'=>dr S n wd sc b s' (k+a)
 |0,b,s,k=>by simp[dr]
 | a +1,b,s,k=>by
  rw[show a+1+b=(a+b)+1 by omega];simp only[dr]
  cases Cv n wd sc s (Eh S k) with
  |error c=>rfl
  | ok d=>
   simp only;rw[pj a b d (k+1),show k+1+a=k+(a+1) by omega]
def Jb.T(e:Jb S n wd sc s k s' a)(d:Jb S n wd sc s' a c b):Jb S n wd sc s k c b:=by obtain⟨f,rfl,e⟩:=e;obtain⟨g,rfl,d⟩:=d;exact⟨f+g,O,by rw[pj,e];exact d⟩
def Jb.x(a:Cv n wd sc s (Eh S k)=.ok s'):Jb S n wd sc s k s' (k+1):=⟨1,X,by simp[dr,a]⟩
def Zlr{b c a}(f:F s.k≠200)(e:s.A=Z0)(d:As (wd (F s.M)) (Ch (ZL (sc (F s.M)))) s.p s.f b=T (c,a)):Cv n wd sc s b=.ok {s with p:=c,f:=a}:=by grind [Cv]
def dq{a}(f:F s.k≠200)(d:s.A=Z0)(b:As (wd (F s.M)) (Ch (ZL (sc (F s.M)))) s.p s.f a=ZP)(c:a=El (F s.M) n)(e:Et s.p.n=Z0):Cv n wd sc s a=.ok (Hm n s (s.M++[Hw s.p s.f])):=by grind [Cv]
theorem Ux{a}(e:F s.k≠200)(d:s.A=Z0)(b:As (wd (F s.M)) (Ch (ZL (sc (F s.M)))) s.p s.f a=ZP)(c:a≠El (F s.M) n∨Et s.p.n=ZZ):Cv n wd sc s a=.error 2:=by grind [Cv]
def Gc.d{h d}(g:F s.k≠200)(e:s.A=Z0)(b:Gc S (wd (F s.M)) (Ch (ZL (sc (F s.M)))) s.p s.f k h d a):Jb S n wd sc s k {s with p:=h,f:=d} a:=by
 obtain⟨c,rfl,b⟩:=b
 induction c generalizing s k with
 | zero=>
  simp only[te,Option.some.injEq,Prod.mk.injEq] at b;obtain⟨rfl,rfl⟩:=b;exact .refl
 | succ c m=>
  simp only[te] at b
  cases f:As (wd (F s.M)) (Ch (ZL (sc (F s.M)))) s.p s.f (Eh S k) with
  |none=>grind
  | some i=>
   rw[f] at b;have j:=Jb.x (Zlr (n:=n) g e f);have l:=m (s:={s with p:=i.1,f:=i.2}) (k:=k+1) g e b;rw[show k+(c+1)=k+1+c by omega];exact j.T l
def fy{c b a}:Hm n {s with p:=c,f:=b} a=Hm n s a:=by unfold Hm;split<;>rfl
theorem cq{b}:Pa S k 2 b=k/\Pt S k 2 b=2:=by have a:Bp S k 2 b=ZZ:=(by unfold Bp;simp);unfold Pa Pt;rw[a];exact⟨X,X⟩
def Zes{b}:(Eh S k=b/\Pa S k 0 b=k+1/\Pt S k 0 b=0)∨(Eh S k≠b/\Pa S k 0 b=k/\Pt S k 0 b=2):=by
 unfold Pa Pt;rw[Hp]
 by_cases a:Eh S k=b
 ·grind
 rw[aE a];exact ZJ ⟨a,X,X⟩
def ZmM(l:F s.k≠200)(g:s.A=Z0)(i:s.p=part0)(q:s.f=[]):((jn S k (wd (F s.M)) (ZL (sc (F s.M))) (El (F s.M) n)).2.2=0/\Jb S n wd sc s k (Hm n s (s.M++[(jn S k (wd (F s.M)) (ZL (sc (F s.M))) (El (F s.M) n)).1])) (jn S k (wd (F s.M)) (ZL (sc (F s.M))) (El (F s.M) n)).2.1)∨((jn S k (wd (F s.M)) (ZL (sc (F s.M))) (El (F s.M) n)).2.2=2/\∃s',Jb S n wd sc s k s' (jn S k (wd (F s.M)) (ZL (sc (F s.M))) (El (F s.M) n)).2.1/\s'.g=s.g/\Cv n wd sc s' (Eh S (jn S k (wd (F s.M)) (ZL (sc (F s.M))) (El (F s.M) n)).2.1)=.error 2):=by
 have w:El (F s.M) n=10∨El (F s.M) n=44:=(by unfold El;omega);unfold jn;split
 ·rename_i j;rw[Hp,decide_eq_true_eq] at j;refine ZM ⟨X,Jb.x ?_⟩
  have b:As (wd (F s.M)) (Ch (ZL (sc (F s.M)))) s.p s.f (Eh S k)=ZP:=by
   rw[i,q,j]
   cases wd (F s.M)<;>rcases w with a|a<;>rw[a]<;>rfl
  rw[dq l g b j (by rw[i];rfl),i,q];rfl
 rename_i j;rw[Hp,decide_eq_true_eq] at j;split
 ·rename_i a;have⟨o,r,f,p⟩:=ZnH S k (Ch (ZL (sc (F s.M))));generalize iy S k=b at *;have u:Jb S n wd _ s k _ _:=Gc.d l g (by rw[i,q,a];exact r);rw[<- a] at f
  rcases p with⟨m,h,p⟩|⟨m,h⟩
  ·rw[m]
   rcases Zes (S:=S) (k:=b.2.1) (b:=El (F s.M) n) with⟨c,d,e⟩|⟨c,d,e⟩
   ·rw[d,e];have t:o≠0:=w_
    refine ZM ⟨X,u.T (Jb.x ?_)⟩;rw[dq (s:={s with p:=pW o,f:=b.1}) l g f c h,fy];have v:Hw (pW o) b.1=⟨ZZ,0,ZB b.1⟩:=by unfold Hw;rw[show(pW o).n=o from X,aE t];rfl
    grind
   grind [Ux]
  grind [cq,Ux,pW]
 rename_i a;have a:=Bool.eq_false_iff.2 a;have⟨o,r,f,p⟩:=ZmD S k (ZL (sc (F s.M)));generalize jk S k 0 (ZL (sc (F s.M)))=b at *;have u:Jb S n wd _ s k _ _:=Gc.d l g (by rw[i,q,a];exact r);rw[<- a] at f
 rcases p with⟨m,h,t,v⟩|⟨m,h⟩
 ·rw[m]
  rcases Zes (S:=S) (k:=b.2.1) (b:=El (F s.M) n) with⟨c,d,e⟩|⟨c,d,e⟩
  rw[d,e];refine ZM ⟨X,u.T (Jb.x ?_)⟩;rw[dq (s:={s with p:=o,f:=[]}) l g f c h,fy];simp only[Hw,aE t,v];rfl
  grind [Ux]
 grind [cq,Ux]
def ZmI(n:H)(s:RS)(b:U VS):RS:=⟨s.k++[s.g],λa=>if a<n then s.a a++[Z b a Ax] else s.a a,0,ZZ,[],part0,[]⟩
def ZfW:∀(a:H)(s:RS)(k:H),F s.k≠200->s.A=Z0->s.p=part0->s.f=[]->F s.M+(a+1)=n->((Vv S n wd sc (a+1) (F s.M) s.M k).2.2=0/\Jb S n wd sc s k (ZmI n s (Vv S n wd sc (a+1) (F s.M) s.M k).1) (Vv S n wd sc (a+1) (F s.M) s.M k).2.1)∨((Vv S n wd sc (a+1) (F s.M) s.M k).2.2=2/\∃s',Jb S n wd sc s k s' (Vv S n wd sc (a+1) (F s.M) s.M k).2.1/\s'.g=s.g/\Cv n wd sc s' (Eh S (Vv S n wd sc (a+1) (F s.M) s.M k).2.1)=.error 2)
 | a,s,k,h,g,r,p,q=>by
  have o:=ZmM (S:=S) (n:=n) (wd:=wd) (sc:=sc) (k:=k) h g r p;unfold Vv;simp only;generalize jn S k (wd (F s.M)) (ZL (sc (F s.M))) (El (F s.M) n)=c at *
  rcases o with⟨i,b⟩|⟨i,s',b,t,u⟩
  ·rw[aD i]
   cases a with
   | zero=>
    refine ZM ⟨X,?_⟩;have d:Hm n s _=ZmI n s (_++[c.1]):=aD (by rw[Qe];simpa using q);rw[d] at b;exact b
   | succ a=>
    have d:Hm n s (s.M++[c.1])=_:=aC w_;rw[d] at b;have j:=ZfW a {s with M:=s.M++[c.1],p:=part0,f:=[]} c.2.1 h g X X t_;simp only[Qe,length_singleton] at j
    rcases j with⟨e,f⟩|⟨e,s',f,l,m⟩
    exact ZM ⟨e,b.T f⟩;exact ZJ ⟨e,s',b.T f,l,m⟩
  grind
theorem Ts{a}(d:F s.k≠200)(c:s.A=ZZ):Cv n wd sc s a=match Ar s.g a with
  |none=>.error 2
  |some ZP=>.ok {s with A:=Z0}
  |some (T b)=>.ok {s with g:=b}:=by
 grind [Cv]
def Znh S k s (o:F s.k≠200)(m:s.A=ZZ)(i:s.g=0):((Oh S k 0 2 ZZ).2.2.2=0/\1<=(Oh S k 0 2 ZZ).1/\Jb S n wd sc s k {s with g:=(Oh S k 0 2 ZZ).1} (Oh S k 0 2 ZZ).2.2.1/\(Eh S (Oh S k 0 2 ZZ).2.2.1≠44->Cv n wd sc {s with g:=(Oh S k 0 2 ZZ).1} (Eh S (Oh S k 0 2 ZZ).2.2.1)=.error 2))∨
  (Oh S k 0 2 ZZ=(0,0,k,2)/\Cv n wd sc s (Eh S k)=.error 2):=by
 by_cases a:Cc (Eh S k)=Z0/\Eh S k≠48
 ·have c:=Mm a.1;have e:Bp S k 0 48=ZZ:=(by rw[Hp,aE a.2]);have f:Ji S k 0=Z0:=by rw[Nc];exact a.1
  have h:Jb S n wd sc s k {s with g:=Eh S k-48} (k+1):=Jb.x (by grind [Ts,Ar])
  cases b:Cc (Eh S (k+1)) with
  | true=>
   have l:=Mm b;have g:Ji S (k+1) 0=Z0:=by rw[Nc];exact b
   have d:Oh S k 0 2 ZZ=(10*(Eh S k-48)+(Eh S (k+1)-48),2,k+2,0):=(by unfold Oh;rw[e,aC s_];simp[Py,f,g]);rw[d];refine ZM ⟨X,by simp only;omega,h.T (Jb.x ?_),λj=>?_⟩
   ·grind [Ts,Ar]
   grind [Ts,Ar]
  | false=>
   grind [Ji,Oh,Py,Cv,Cc,Ar]
 refine ZJ ⟨?_,?_⟩
 ·unfold Oh;rw[Hp]
  by_cases b:Eh S k=48
  rw[aD ⟨aF b,X⟩];rfl
  have c:Ji S k 0=ZZ:=by
   rw[Nc,Bool.eq_false_iff]
   grind
  rw[aC (by simp[b])];simp[Py,c];rfl
 grind [Ts,Ar,Cc]
end
structure Bnd(a:RS):Prop where
 A:a.A=ZZ
 g:a.g=0
 M:a.M=[]
 p:a.p=part0
 f:a.f=[]
section
variable {S:ZC} {n:H} {wd:H->ZG} {sc:H->E}
def ZnA(P:1<=n) b a (m:F b.k≠200)(D:Bnd b):((iq S n wd sc a).2.2.2=0/\Jb S n wd sc b a (ZmI n {b with g:=(iq S n wd sc a).1} (iq S n wd sc a).2.1) (iq S n wd sc a).2.2.1)∨
  ((iq S n wd sc a).2.2.2=2/\∃c,Jb S n wd sc b a c (iq S n wd sc a).2.2.1/\Cv n wd sc c (Eh S (iq S n wd sc a).2.2.1)=.error 2/\((iq S n wd sc a).2.2.1=a∨c.g≠0)):=by
 obtain⟨i,d,a0,L,W,R,G⟩:=b;obtain⟨p,q,r,s,t⟩:=D;simp only at p q r s t m;subst p q r s t;unfold iq;simp only
 rcases Znh (n:=n) (wd:=wd) (sc:=sc) S a ⟨i,d,0,ZZ,[],part0,[]⟩ m X X with⟨l,u,v,N⟩|⟨l,u⟩
 ·generalize Oh S a 0 2 ZZ=y at *;obtain⟨o,Q,g,a1⟩:=y;simp only at *;subst l
  rcases Zes (S:=S) (k:=g) (b:=44) with⟨z,e,f⟩|⟨z,e,f⟩
  ·rw[e,f,aD X];have x:Jb S n wd sc ⟨i,d,o,ZZ,[],part0,[]⟩ g ⟨i,d,o,Z0,[],part0,[]⟩ (g+1):=Jb.x (by grind [Ts,Ar]);obtain⟨h,rfl⟩:∃h,n=h+1:=⟨n-1,O⟩;have w:=ZfW (S:=S) (n:=h+1) (wd:=wd) (sc:=sc) h ⟨i,d,o,Z0,[],part0,[]⟩ (g+1) m X X X s_;simp only[length_nil] at w
   rcases w with⟨j,k⟩|⟨j,c,k,M,A⟩
   exact ZM ⟨j,(v.T x).T k⟩;exact ZJ ⟨j,c,(v.T x).T k,A,ZJ O⟩
  grind
 rw[l];have⟨e,f⟩:=cq (S:=S) (k:=a) (b:=44);simp only[e,f];rw[aC C];exact ZJ ⟨X,_,.refl,u,ZM X⟩
def Zfr(n:H)(c:RS)(b:U (E×U VS)):Prop:=c.k=b.map Prod.fst/\∀a,a<n->c.a a=b.map (λd=>Z d.2 a Ax)
def Zgr(s:1<=n):∀e b a d,Bnd d->Zfr n d b->F b<=200->a<=ZK S->ZK S+1<=e+a->((Kr S n wd sc e b a).2.2=0/\(Kr S n wd sc e b a).2.1=ZK S/\∃c,Jb S n wd sc d a c (ZK S)/\Bnd c/\Zfr n c (Kr S n wd sc e b a).1)∨((Kr S n wd sc e b a).2.2=2/\(Kr S n wd sc e b a).2.1=ZK S/\∃c,Jb S n wd sc d a c (ZK S)/\c.g≠0)∨((Kr S n wd sc e b a).2.2≠0/\(Kr S n wd sc e b a).2.1<ZK S/\∃c,Jb S n wd sc d a c (Kr S n wd sc e b a).2.1/\Cv n wd sc c (Eh S (Kr S n wd sc e b a).2.1)=.error (Kr S n wd sc e b a).2.2)
 |0,b,a,d,o,l,w,q,x=>O
 | e + 1,b,a,d,o,l,w,q,x=>by
  have D:F d.k=F b:=(by rw[l.1,length_map]);unfold Kr;split
  ·rename_i r;split
   ·rename_i v;refine ZJ (ZJ ⟨s_,r,d,.refl,?_⟩)
    grind [Cv]
   rename_i v;have g:=ZnA (S:=S) (wd:=wd) (sc:=sc) s d a O o;have u:=Zoa (S:=S) n wd sc q;simp only;generalize iq S n wd sc a=f at *
   rcases g with⟨t,g⟩|⟨t,c,g,z,A⟩
   ·rw[aD t];have y:=Zgr s e (b++[(f.1,f.2.1)]) f.2.2.1 (ZmI n {d with g:=f.1} f.2.1) ⟨X,X,X,X,X⟩ ⟨?_,λm p=>?_⟩ t_ u.1.2 O
    ·rcases y with⟨h,i,c,j,k⟩|⟨h,i,c,j,k⟩|⟨h,i,c,j,k⟩
     exact ZM ⟨h,i,c,g.T j,k⟩;exact ZJ (ZM ⟨h,i,c,g.T j,k⟩);exact ZJ (ZJ ⟨h,i,c,g.T j,k⟩)
    show d.k++[f.1]=_;rw[l.1,map_append];rfl;show(if m<n then d.a m++[Z f.2.1 m Ax] else d.a m)=_;rw[aD p,l.2 m p,map_append];rfl
   grind
  rename_i r;have c:a=ZK S:=O;exact ZM ⟨X,c,d,by rw[<- c];exact .refl,o,l⟩
def Za1{a}(b:a<ZK S):ZF a (Ab S)=Eh S a::ZF (a+1) (Ab S):=by have c:a<F (Ab S):=(by unfold Ab;rw[length_map];exact b);rw[aN c,aq b];congr 1;simp only[Ab,getElem_map];rfl
def wm:∀(c:H)(b:RS)(a:H),a+c=ZK S->Bt n wd sc b (ZF a (Ab S)) a=dr S n wd sc c b a
 |0,b,a,d=>by have:ZF a (Ab S)=[]:=drop_eq_nil_of_le (by unfold Ab;rw[length_map];show ZK S<=a;omega);rw[this];rfl
 | c+1,b,a,d=>by
  rw[Za1 O];simp only[Bt,dr]
  cases Cv n wd sc b (Eh S a) with
  |error f=>rfl
  |ok e=>exact wm c _ _ O
def Zco(m:1<=n):(∃a,Bt n wd sc RS.h (Ab S) 0=.ok a/\a.g=0/\(Kr S n wd sc (ZK S+1) [] 0).2.2=0/\(Kr S n wd sc (ZK S+1) [] 0).2.1=ZK S/\Zfr n a (Kr S n wd sc (ZK S+1) [] 0).1)∨(∃a,Bt n wd sc RS.h (Ab S) 0=.ok a/\a.g≠0/\(Kr S n wd sc (ZK S+1) [] 0).2.2=2/\(Kr S n wd sc (ZK S+1) [] 0).2.1=ZK S)∨(Bt n wd sc RS.h (Ab S) 0=.error ((Kr S n wd sc (ZK S+1) [] 0).2.2,(Kr S n wd sc (ZK S+1) [] 0).2.1)/\(Kr S n wd sc (ZK S+1) [] 0).2.2≠0/\(Kr S n wd sc (ZK S+1) [] 0).2.1<ZK S):=by
 have g:=wm (S:=S) (n:=n) (wd:=wd) (sc:=sc) (ZK S) RS.h 0 O;rw[drop_zero] at g
 rcases Zgr (S:=S) (wd:=wd) (sc:=sc) m (ZK S+1) [] 0 RS.h ⟨X,X,X,X,X⟩ ⟨X,λ_ _=>X⟩ s_ v_ O with⟨b,c,i,⟨a,f,d⟩,e,k⟩|⟨b,c,i,⟨a,f,d⟩,e⟩|⟨b,c,i,⟨a,f,d⟩,e⟩
 have:a=ZK S:=O;subst this;exact ZM ⟨i,by rw[g,d],e.g,b,c,k⟩
 ·grind
 refine ZJ (ZJ ⟨?_,b,c⟩);obtain⟨h,l⟩:∃h,ZK S=a+(h+1):=⟨ZK S-a-1,O⟩;have j:dr S n wd sc (ZK S) RS.h 0=dr S n wd sc (a+(h+1)) RS.h 0:=(by rw[<- l]);rw[g,j,pj,d];simp only[dr];rw[<- f,e]
end
def mi{d}:∀(e:U (U ZY)) a,(∀f∈e,F f=d)->a<F e->∀b,b<d->e.flatten[a*d+b]? =(Z e a [])[b]?
 |[],a,_,c=>by simp at c
 |h::i,0,g,_=>λb j=>w_
 |h::i,a+1,g,c=>λb j=>by have k:=g h s_;rw[flatten_cons,getElem?_append_right w_,show(a+1)*d+b-F h=a*d+b by grind];exact mi i a (λf c=>g f (by simp[c])) (by simpa using c) b j
def fi{d}:∀(b:U (U ZY)),(∀a∈b,F a=d)->F b.flatten=F b*d
 |[],_=>s_
 |g::e,c=>by rw[flatten_cons,Qe,fi e (λa f=>c a (by simp[f])),c g s_,length_cons,Nat.add_mul];omega
def Yk{b}:∀(c:U (U ZY)) a,(∀e∈c,F e=b)->a<=F c->(ZU a c).flatten=ZU (a*b) c.flatten
 |[],a,_,d=>s_
 |f::g,0,_,_=>s_
 |f::g,a+1,h,d=>by have i:=h f s_;rw[take_succ_cons,flatten_cons,flatten_cons,Yk g a (λe d=>h e (by simp[d])) (by simpa using d),take_append,aI (l:=f) w_,i,show(a+1)*b-b=a*b by grind]
structure Xr(g:ZT)(c e b:H)(f)(a:U (U ZY)):Prop where
 M:ZD g c e b f (F a) a.flatten
 h:∀d∈a,F d=b
section
variable {w w':ZT} {base ty b:H} {v v':ZY} {a:U (U ZY)}
def Xr.nil{w} base {ty b}:Xr w base ty b (N_) []:=⟨rn_,s_⟩
def Xr.p{K}(c:Xr w base ty b v a)(f:Aa K w w')(e:∀d,ZW v=T d->¬K d):Xr w' base ty b v a:=⟨f.M c.M e,c.h⟩
def Xr.q(c:Xr w base ty b v a)(d:E_ w w'):Xr w' base ty b v a:=c.p (.a (S:=λ_=>False) d) (λ_ _=>id)
def Xr.d(e:Xr w base ty b v a):∃c d,v=ZH c (F a) d:=by
 rcases e.M.2 with⟨rfl,i⟩|⟨h,f,g,rfl,_⟩
 ·grind
 grind
def Xr.at(e:Xr w base ty b v a){i}(m:i<F a):∃d g,v=L_ d (F a) g/\F a<=g/\base<=d/\d<B w.1/\(∀c,YT w (J d c)=ZZ)/\∀c,c<b->∀f,(Z a i [])[c]? =T f->ZV w (J d (i*b+c))=T f:=by
 rcases e.M.2 with⟨_,r⟩|⟨k,j,q,rfl,l,h,n,_⟩
 omega;refine⟨k,j,X,n,l,(Qb h).1,λc=>R_ c _ _ h,λc o f p=>?_⟩;rw[World.ownsRow.cellAt e.M (i*b+c) (gh_ (aK b (show i+1<=F a by omega))),mi a i e.h m c o];exact p
def Xr.P{x}(e:Xr w base ty b v a)(h:ZD w' base ty b v' (F a+1) (a.flatten++x))(g:F x=b):Xr w' base ty b v' (a++[x]):=by
 refine⟨?_,λd f=>?_⟩
 ·grind
 rcases mem_append.1 f with c|c
 exact e.h d c
 grind
def Xr.upto{g r c d}(e:Xr w base ty b (V g r c) a)(f:d<=F a):Xr w base ty b (V g d c) (ZU d a):=by
 have i:∀c∈ZU d a,_:=λc m=>e.h c (aL m);refine⟨⟨fi _ i,?_⟩,i⟩;rw[length_take,Nat.min_eq_left f]
 rcases e.M.2 with⟨h,t⟩|⟨k,s,j,h,l,n,u,o,p,q⟩
 ·grind
 injection h with e1 e2 e3;subst e1 e3;refine ZJ ⟨k,c,j,X,l,n,O,o,p,?_⟩;rw[Yk a d e.h f,<- q,take_take,Nat.min_eq_left (aK _ f)]
end
theorem ut{d}:∀e b,F d-b<=e->Ef d [] e b 0=ZF b d
 |0,b,a=>by rw[drop_eq_nil_of_le O];rfl
 | e+1,b,a=>by
  by_cases c:b<F d
  simp only[Ef];rw[aD ⟨c,λa=>by simp at a⟩,ut e (b+1) O,aN c];congr 1;simp[seen,Co,Dz,Ae,Z,c];simp only[Ef];rw[aC (λa=>c a.1),aC (λa=>by simp at a),aC (λa=>c a.1),drop_eq_nil_of_le O]
def Zhw a:Bf a []=a:=by grind [Bf,ut]
def Zg6{a b}(c:a.length<=b):Ep a b=a:=by
 unfold Ep
 grind
def Vk:H->U (U Cd)->U (H×U Cd)
  |_,[]=>[]
  |a,b::c=>if F b=0 then Vk (a+1) c else(a,b)::Vk (a+1) c
def skT(e:E):H->U Cd->U (H×U Cd)->U (H×U Cd)
 |a,b,[]=>[(a,b)]
 |a,b,c::d=>if c.1=a then skT e (a+1) (Ep (Bf c.2 b) e) d else(a,b)::c::d
def zl:∀(e:U (U Cd)) (a:H),∀c∈Vk a e,a<=c.1
  |[],a=>by simp[Vk]
  | f::d,a=>λc b=>by
    unfold Vk at b;split at b;have:=zl d (a+1) c b;omega
    rcases mem_cons.1 b with rfl|b
    omega;have:=zl d (a+1) c b;omega
theorem Yw{a}(b:0<Ae a):F a≠0:=λc=>by unfold Ae at b;omega
def uz{i}:∀e b a,(∀d∈e,0<=Ae d)->0<Ae b->Vk a (Av i e b)=skT i a b (Vk a e)
 |[],b,a,h,f=>by grind [Av,Vk,Yw,skT]
 | l ::c,b,a,h,f=>by
  have j:∀d∈c,_:=λd k=>h d (by simp[k])
  by_cases g:F l=0
  ·simp only[Av,aD g,Vk,aC (Yw f)];have m:=zl c (a+1)
   cases n:Vk (a+1) c with
   |nil=>rfl
   | cons o p=>
    grind [skT]
  simp only[Av,aC g,Vk,length_nil,if_true,skT];apply uz c _ _ j;rw[Gn,Fc]
  grind
def skF(b:E):U Cd->U (H×U Cd)->U Cd
 |a,[]=>a
 |a,c::d=>skF b (Ep (Bf a c.2) b) d
def pz{size}(d:2<=size):∀e b a,a.length<=size->Fw size a e=skF size a (Vk b e)
 |[],b,a,c=>rfl
 | i::g,b,a,c=>by
  by_cases f:i.length=0
  have h:=eq_nil_of_length_eq_zero f;subst h;simp only[Fw,Vk,length_nil,if_true];rw[Zhw,Zg6 c];exact pz d g _ _ c;simp only[Fw,Vk,aC f,skF];exact pz d g _ _ (Jh _ d)
def skB(a:H):H->U (H×U Cd)->U E->U E->U (H×U Cd)
 |0,b,_,_=>b
 |e+1,b,c,d=>if F c=0 then b else skB a e (skT a 0 (Ko (ZU a c) (ZU a d)) b) (ZF a c) (ZF a d)
def Zs:∀(a:U (E×E)),(∀b∈a,1<=b.2)->0<=Bv a
  |[],_=>by simp[Bv]
  | b::a,c=>by
    have:=Zs a (λe d=>c e (by simp[d]))
    grind [Bv]
def ZlE{a b}(j:F a≠0)(n:F b≠0):0<Ae (Ko a b):=by
 have e:=(jf.a (Tw (Ao a b))).e;unfold Ko;rw[e];have c:∀d∈Ao a b,_:=λd c=>(Jm c).1.1;have m:=Lh a b
 cases f:Ao a b with
 |nil=>grind
 | cons d i=>
  rw[f] at c;have k:=c d s_;have l:=Zs i λh g=>c h (by simp[g]);simp only[Bv];omega
def qi{j}:∀e c,(∀a∈e,0<=Ae a)->0<=Ae c->∀a∈Av j e c,0<=Ae a
 |[],c,d,f=>by simp[Av];exact f
 | i::g,c,d,f=>by
  have h:∀a∈g,_:=λa b=>d a (by simp[b]);have k:=d i s_;intro a b;simp only[Av] at b;split at b
  ·grind
  rcases mem_cons.1 b with rfl|b
  exact Int.le_refl _;exact qi g _ h (by rw[Gn,Fc];omega) a b
def py{size}(i:0<size):∀d b a c,(∀e∈b,0<=Ae e)->F a=F c->skB size d (Vk 0 b) a c=Vk 0 (Dv size d b a c)
 |0,b,a,c,e,g=>X
 | d+1,b,a,c,e,g=>by
  unfold skB Dv
  by_cases f:F a=0
  ·grind
  rw[aC f,aC f];have h:0<Ae (Ko (ZU size a) (ZU size c)):=ZlE w_ w_;rw[<- uz b _ 0 e h];exact py i d _ _ _ (qi _ _ e O) w_
def Zir{a:H}(g:2<=a) b c (f:F b=F c):skF a [] (skB a (F b) [] b c)=Dw a b c:=by have d:=py (size:=a) O (F b) [] _ _ s_ f;have e:=pz (size:=(a:E)) O (Dv a (F b) [] b c) 0 [] s_;unfold Dw;rw[e,<- d];rfl
def Zbg(x:Cd) a c b e (g:0<=x.t/\0<=x.h/\x.t<=1000000000000/\x.h<=1000000000000)(f:0<=a/\a<=2097152)(i:0<=c/\c<=1000000000000)(h:2<=b/\b<=2097152):C_ 177 #[Y9 #[I x.v,I x.t,I x.h,I x.g],I a,I c,I b] e λd j=>d=ZI (ZX ZQ (if(x.t+x.h)*(b-1)-2*a*c<0 then -((x.t+x.h)*(b-1)-2*a*c) else(x.t+x.h)*(b-1)-2*a*c))/\j=ZN e (O_ #[I x.v,I x.t,I x.h,I x.g] 98):=by
 obtain⟨j,k,l,m⟩:=g;obtain⟨n,o⟩:=f;obtain⟨v,w⟩:=i;obtain⟨t,u⟩:=h;have p:0<=(x.t+x.h)*(b-1):=Int.mul_nonneg O O;have q:(x.t+x.h)*(b-1)<=2000000000000*2097152:=Int.mul_le_mul O O O O;have r:0<=2*a*c:=Int.mul_nonneg O O;have s:2*a*c<=4194304*_:=Int.mul_le_mul O O O O
 by_cases d:(x.t+x.h)*(b-1)-2*a*c<0
 all_goals
  first|rw[aD d]|rw[aC d]
  refine dl_ ?_;go_enter func177,ntmps177;go_wp2;go_ret;exact⟨X,X⟩
def Zp7:(prog.info? 4).map (λa=>(a.zero,a.size,a.bytes))=T (T (ZR ZZ),1,1):=k_
def Ai.f{d f c e a j g}(h:Ai d f c e)(i:d.rowIs a 4 j g):ZW c≠T a:=by
 intro b;obtain⟨k,o,_⟩:=i
 rcases h.2 with⟨rfl,_⟩|⟨n,l,m,rfl,_,p,_⟩
 simp[ZW] at b;simp[ZW] at b
 grind
def Xb{W} a {b2} u {h}(b4:Cj h W a)(b3:Bc a)(b7:W=ZP->b2=0)(e6:F a<=2097152):C_ 121 #[V W (F a) b2,I u] h λf g=>∃c,f=ZI c/\Ai g (B h.1) c (Ep a u)/\E_ h g:=by
 have⟨o,p⟩:=Y_ b4 b3;obtain⟨b,c8⟩:∃b:H,max u 2=b:=⟨ZL (max u 2),O⟩;have c9:2<=b:=O
 have w:K (Ep a u=if F a<=b then a else Fd a b (b-2)++[Z a (F a-1) e0]):=show _=_ by grind [Ep]
 refine dl_ ?_;go_enter func121,ntmps121;go_upto_if 12 with fail
 go_cut [1] (λc d=>c=ZX ZQ b/\d=h)
 case first=>
  by_cases c:u<2<;>(go_wp2;go_meet;grind)
 obtain⟨rfl,d1⟩:=hcut;obtain rfl:=d1.s;clear c8 b4 b3
 by_cases b6:F a<=b
 ·rw[aD b6] at w;go_wp2_with (at_builtin;apply ZpT o b7)
  intro d e c;refine wr_ ?_;exact⟨_,X,by rw[w];exact c.1,c.2⟩
 rw[aC b6] at w;have b5:3<=F a:=O;obtain⟨d6,f0,rfl,a0,a1,a2,a3,e3⟩:=o.at (i:=0) O;simp only[Nat.zero_mul,Nat.add_zero] at a0 a1 a2 a3;have c6:=run_make_row' (P:=Y8) 101 4 _ 1 underlying101 Zp7 X ZQ ZQ (F a) O O;have c0:K (Fd a b 0=[_]):=rfl;generalize (Z a) 0 e0=n at *;have d7:0<F a:=O;go_wp2_with (at_builtin;refine ap_ [I n.v,I n.t,I n.h,I n.g] (ownsRow_nil _ (B h.1) 98 4) ?_)
 intro d4 m G;have q:=r_.grown G.2.1 s_ (λg t=>by simp[ZW] at t);have a9:K (Ai m (B h.1) d4 [n]):=Ai.P (L:=[]) G.1;clear G a0 a1 a2 a3 b7;go_wp2_with fail
 apply (Zas a (o.q (q.alloc q.size _))).m;rintro f f3 ⟨rfl,rfl⟩;have f1:=(Dk p).1;have f2:=(Dk p).2;have c3:=q.size;have b0:K ((ZN m _).rowIs _ 4 _ (λi=>ZR (Kp a b 0 i))):=rowIs_made _ (ZR _) (F a) 4;generalize Q:Ae a=b8 at *;replace Q:=Y Q;clear c6;go_wp2_with fail
 go_loopw [5,8] (λg d e=>∃c:H,c<=b-2/\d=ZX ZQ ((c:E)+1)/\K (Ai e (B h.1) g (Fd a b c)/\e.rowIs (B m.1) 4 (F a) (λi=>ZR (Kp a b c i)))/\E_ h e) (λ_ d _=>b-ZL (intOf d))
 case atStart=>exact⟨0,v_,X,⟨c0 ▸ (a9.alloc _),b0⟩,q.alloc q.size _⟩
 clear a9 b0 q;obtain⟨c,e8,rfl,x,D⟩:=hrel
 rename ZT=>wo
 have d0:=D.size;have e5:=nc (L:=a) b c
 by_cases c7:c<b-2
 case neg=>
  have d:¬c+1<=(b:E)-2:=O;obtain⟨g,t⟩:∃g,F a=g+1:=⟨F a-1,O⟩;rw[show b-2=c by omega,show F a-1=g by omega] at w;obtain⟨_,_,⟨⟩,a4,a5,a6,a7,_⟩:=(o.q D).at (i:=g) O;generalize (Z a) g e0=j,Fd a b c=d3 at *;clear c7;go_wp2_with (at_builtin;refine ap_ [I j.v,I j.t,I j.h,I j.g] (x.1.alloc _) ?_)
  intro d5 b9 k;have a8:=(D.alloc d0 _).grown k.2.1 t_ (λg t=>(x.1.lt g t).1);have N:=Y (Ai.P k.1);clear k a4 a5 a6 a7;refine wr_ ?_;exact⟨_,X,w ▸ N,a8⟩
 have e7:c+1<=(b:E)-2:=O;have v:=Y (Gi a b (c+1) b5);go_wp2_with fail
 go_loopw [9,10] (λg e j=>∃i d:H,2<=i/\i+1<=F a/\e=ZX ZQ i/\g=ZX ZQ d/\K (d=min (i-1) (Cy a b (c+1)))/\1<=d/\d+2<=F a/\E_ wo j) (λ_ e _=>F a-ZL (intOf e))
 case atStart=>exact⟨2,1,x_,O,X,X,by have:=v.f;show _=_;omega,O,O,y_⟩
 obtain⟨i,d,c4,e4,rfl,rfl,M,e1,e2,s⟩:=hrel;have y:=bt_ D s;have e9:=y.size;have d8:=F_ d (F a);obtain⟨_,_,⟨⟩,a4,a5,a6,a7,_⟩:=(o.q y).at (i:=d) O
 by_cases c5:i+1<F a
 ·have L:=p.at (show i<F a by omega);have N:=p.at (show d<F a by omega);obtain⟨_,_,⟨⟩,a0,a1,a2,a3,b9⟩:=(o.q y).at (i:=i) O
  have j:K (∀e,0<=(Z a e e0).t/\0<=(Z a e e0).h/\(Z a e e0).t<=1000000000000/\(Z a e e0).h<=1000000000000->∀k:ZT,C_ 177 #[Y9 #[I (Z a e e0).v,I (Z a e e0).t,I (Z a e e0).h,I (Z a e e0).g],I (c+1),I b8,I b] k λf g=>f=ZI (ZX ZQ (Vq a b (c+1) e))/\_):=λe P k=>by have:=Zbg (Z a e e0) (c+1) b8 b k P O O O;unfold Vq;rw[Q];exact this
  have⟨r,t⟩:=Y_ (j i O) (j d O)
  have l:K ((if _<Vq a b _ d then i else d)=min i _):=show _=_ by rw[M];exact Zdq p c9 c4 c5
  have c2:=v.k;have d2:=v.f;clear L N j v M;generalize Vq a b (c+1) i=z,Vq a b (c+1) d=A,Z a i e0=R,Z a d e0=S,Cy a b (c+1)=b1 at *;have a8:=F_ i (F a);have c1:i<(F a:E)-1:=O;go_wp2_with fail
  go_region_with (first|(go_at_call_of 177 (R.v);apply (r _).m;rintro f g ⟨rfl,rfl⟩)|(go_at_call_of 177 (S.v);apply (t _).m;rintro f g ⟨rfl,rfl⟩))
  all_goals by_cases g:z<A
  all_goals go_wp2
  all_goals
   go_roundw;case rel=>exact⟨i+1,_,O,O,g_,X,by first|exact(aD g).s.T l|exact(aC g).s.T l,O,O,((s.alloc s.size _).alloc (by have:=s.size;simp;omega) _).drew⟩
   case measure=>exact z_
 have L:K (d=Cy a b (c+1)):=(by have:=M.out;have:=v.k;show _=_;omega);have l:=K_ (x.1.q s) (x.2.of_block (s.block _ x.2.lt));have A:=l.2.cell (show d<F a by omega);have d9:=l.2.frozen d;have R:K (Kp a b c d=ZE (d=Jy a b c)):=(by show _=_;rw[L];exact ZiE p b c b5);rw[R] at A;have c1:¬i<(F a:E)-1:=O
 have b1:K (∀e,Kp a b _ e=_):=λe=>by rw[Zfa,<- L]
 have z:K (Fd a b (c+1)=if d=Jy a b c then Fd a b c else Fd a b c++[Z a d e0]):=by show _=_;rw[L];rfl
 by_cases r:d=Jy a b c
 ·rw[aD r] at z;rw[aF r] at A R
  have g:K (∀e,Kp a b (c+1) e=Kp a b c e):=λe=>by
   rw[b1]
   by_cases f:d=e
   rw[<- f,R,Bool.true_or];simp[f]
  clear r;refine J_ ?_;exact⟨c+1,O,g_,⟨z ▸ l.1,l.2.congr (λe _=>by rw[g])⟩,y⟩
 rw[aC r] at z;rw[aE r] at A;clear r;generalize (Z a) d e0=j,Fd a b c=d3 at *;have P:K (Ai (ZO wr _ (ZR Z0)) _ _ _):=l.1.kept (Aq (Ay) d) (l.1.f l.2)
 have S:K ((ZO wr (J (B m.1) d) (ZR Z0)).rowIs (B m.1) 4 (F a) (λe=>ZR (Kp a b (c+1) e))):=(l.2.set _ _).congr (λe _=>by
  rw[b1]
  by_cases f:e=d
  rw[aD f,f];simp
  rw[aC f,aO (λn=>f n.s),Bool.or_false])
 have c2:Below _ h (ZO wr (J (B m.1) d) (ZR Z0)):=y.setCell c3 _;go_wp2_with (at_builtin;refine ap_ [I j.v,I j.t,I j.h,I j.g] (P.alloc _) ?_)
 intro d5 b9 k;have a8:=(c2.alloc t_ _).grown k.2.1 t_ (λg t=>(P.lt g t).1);have N:=Y (Ai.P k.1);have g:K (b9.rowIs (B m.1) 4 (F a) (λe=>ZR (Kp a b (c+1) e))):=(by have d2:=P.f S;have t:=S.lt;refine(S.alloc _).of_block (k.2.1.block _ ?_ (λf=>d2 f.s));simp at t ⊢;omega);clear k a4 a5 a6 a7 A;refine J_ ?_;exact⟨c+1,O,g_,⟨z ▸ N,g⟩,a8⟩
def Ai.d{g d b a}(f:Ai g d b a):∃c e,b=ZH c (F a) e:=by
 rcases f.2 with⟨rfl,k⟩|⟨j,h,i,rfl,_⟩
 ·grind
 grind
structure Hy where
 n:H
 L:U Cd
 v:ZY
def Hy.o(a:Hy):H×U Cd:=(a.n,a.L)
def Uh(a:Hy):U ZY:=[I a.n,a.v]
structure jc(d)(b)(e)(a:U Hy):Prop where
 M:Xr d b 399 2 e (a.map Uh)
 j:∀c∈a,Ai d b c.v c.L
def jc.nil{b a}:jc b a (N_) []:=⟨Xr.nil _,s_⟩
def jc.q{e w' base d a}(b:jc e base d a)(c:E_ e w'):jc w' base d a:=⟨b.M.q c,λg f=>(b.j g f).q c⟩
def jc.a{d b c a}(e:jc d b c a):ZD d b 399 2 c (F a) (a.map Uh).flatten:=by
 have:=e.M.M
 grind
def jc.d{g e d a}(f:jc g e d a):∃b c,d=ZH b (F a) c:=by
 have⟨b,c,h⟩:=f.M.d
 grind
def jc.upto{g d c i e b a}(f:jc g d (V c i e) a)(k:b<=F a):jc g d (V c b e) (ZU b a):=
 ⟨map_take ▸ (f.M.upto w_),λj h=>f.j j (aL h)⟩
def Vi:Hy:=⟨0,[],N_⟩
def jc.at{e g f a}(h:jc e g f a){i}(l:i<F a):∃b c,f=L_ b (F a) c/\F a<=c/\ZV e (J b (i*2))=T (I (Z a i Vi).n)/\ZV e (J b (i*2+1))=T (Z a i Vi).v/\Z a i Vi∈a:=by have⟨b,c,k,m,_,_,_,d⟩:=h.M.at (i:=i) w_;have j:Z (a.map Uh) i []=Uh (Z a i Vi):=w_;rw[j] at d;exact⟨b,c,w_,w_,d 0 O _ X,d 1 O _ X,w_⟩
def jc.P{c f a h v' b p}(d:jc c a h b)(l:Ai c a p.v p.L)(i:Y3 c f (ZW h))(m:ZD f a 399 2 v' (F b+1) ((b.map Uh).flatten++Uh p)):jc f a v' (b++[p]):=by
 refine⟨?_,λe j=>?_⟩;rw[map_append];exact d.M.P w_ X
 have k:Ai c a e.v e.L:=by
  rcases mem_append.1 j with g|g
  exact d.j e g
  grind
 exact Ai.grown k d.M.M C i
def LvB(d:ZT)(b a:H)(c:ZY):Prop:=d.1[b]? =T (O_ #[I a,c] 399)
def LvB.cells{b a d e}(c:LvB b a d e):ZV b (J a 0)=T (I d)/\ZV b (J a 1)=T e/\YT b (J a 0)=ZZ/\YT b (J a 1)=ZZ/\a<B b.1:=
 ⟨M_ 0 _ 399 (0,0) c,M_ 1 _ 399 (0,0) c,R_ 0 _ 399 c,R_ 1 _ 399 c,(Qb c).1⟩
def LvB.c{c a d M g b}(e:LvB c a d g):LvB (ZO (ZO c (J a 0) (I (M:H))) (J a 1) b) a M b:=by have f:=hs_ c _ 0 _ _ (I (M:H)) e;exact ht_ 1 _ _ b f
def LvB.a{c a d e}:Aa (λb=>b=a) c (ZO (ZO c (J a 0) d) (J a 1) e):=((Aa.refl (λb=>b=a) _).setCell (p:=(J a 0)) (λ_=>X) _).setCell (p:=(J a 1)) (λ_=>X) _
def LvB.D{a h c f i g n b}(k:LvB a f i n)(d:Ai a c g b)(m:Aa (λe=>e=f) a h):Ai h c g b:=m.M d (λe l j=>Ag d l k C j)
def jc.b{c i e a j b p d}(f:jc c e b d)(k:LvB c a j p)(h:Aa (λn=>n=a) c i)(m:∀g,ZW b=T g->g≠a):jc i e b d:=⟨f.M.p h m,λo l=>k.D (f.j o l) h⟩
def Ku:∀(b a:U (U Cd)),Aw (b++a)=Aw b+Aw a
 |[],a=>by simp[Aw]
 |c::b,a=>by simp only[cons_append,Aw,Ku b a];omega
structure Xn(c)(a:U Hy):Prop where
 e:a.Pairwise λb d=>d.n<b.n
 ok:Gt (a.map Hy.L)
 l:∀b∈a,b.n<=c
def Xn.nil{a}:Xn a []:=⟨Pairwise.nil,Gt.nil,s_⟩
def Xn.take{d c}(a:Xn d c) g:Xn d (ZU g c):=
 ⟨a.e.sublist (take_sublist _ _),⟨λb e=>a.ok.j b w_,λb e=>a.ok.y b w_⟩,λh f=>a.l h (aL f)⟩
def Xn.P{i f e}{p:Hy}(d:Xn i e)(o:Bc p.L)(q:F p.L<=32)(r:∀h∈e,p.n<h.n)(n:i<=f)(s:p.n<=f):Xn f (e++[p]):=by
 refine⟨pairwise_append.2 ⟨d.e,pairwise_singleton _ _,λk l b m=>?_⟩,⟨λg c=>?_,λg c=>?_⟩,λh j=>?_⟩
 ·grind
 ·rw[map_append] at c
  rcases mem_append.1 c with a|a
  exact d.ok.j g a
  grind
 ·rw[map_append] at c
  rcases mem_append.1 c with a|a
  exact d.ok.y g a
  grind
 rcases mem_append.1 j with a|a
 have:=d.l h a;omega
 grind
def Xn.at{e b}(c:Xn e b){a}(d:a∈b):Bc a.L/\F a.L<=32:=⟨c.ok.j _ (mem_map.2 ⟨a,d,X⟩),c.ok.y _ (mem_map.2 ⟨a,d,X⟩)⟩
def eg{a:U Hy}{b}(c:b<F a):ZU (b+1) a=ZU b a++[Z a b Vi]:=by rw[Qi c];grind
structure SkI(h:H)(f)(e)(i)(a)(g b)(c):Prop where
 ok:Xn f a
 p:∀d∈a,b<=d.n
 j:Bc c
 y:F c<=32
 q:Aw (a.map Hy.L)+Ae c=i
 k:g<=F a
 o:(g=F a/\e=skT h b c (a.map Hy.o).reverse)∨((∀d∈a,b<d.n)/\e=(b,c)::(a.map Hy.o).reverse)
 l:b<=f+1
def SkI.c{i f e j b c d h}(a:SkI i f e j b (c+1) d h)(p:(Z b c Vi).n≠d):SkI i f e j b c d h:=by
 refine⟨a.ok,a.p,a.j,a.y,a.q,p_ a.k,ZJ ?_,a.l⟩
 rcases a.o with⟨k,g⟩|g
 ·have l:Z b c Vi∈b:=w_;have o:=a.p _ l;have m:b=ZU c b++[Z b c Vi]:=(by rw[<- eg O,k,take_length]);refine⟨λr q=>?_,?_⟩
  ·have n:=a.ok.e
   grind
  grind [skT,Hy.o]
 exact g
def SkI.b{d j i h b a f e}(c:SkI d j i h b (a+1) f e)(r:(Z b a Vi).n=f)(u:2<=d)(v:d<=32)(w:h<=1000000000000):SkI d j i h (ZU a b) a (f+1) (Ep (Bf (Z b a Vi).L e) d)/\Bc (Bf (Z b a Vi).L e):=by
 have s:=c.k;have k:Z b a Vi∈b:=w_;have⟨n,x⟩:=c.ok.at k
 rcases c.o with⟨m,p⟩|p
 ·have o:b=ZU a b++[Z b a Vi]:=(by rw[<- eg O,m,take_length]);have l:=c.q;rw[o,map_append,Ku] at l;simp only[map_cons,map_nil,Aw] at l;have A:=Gb (Ls:=(ZU a b).map _) (λq g=>(c.ok.take a).ok.j q g);have g:=Fy n c.j O;have y:=Jh (Bf (Z b a Vi).L e) (size:=(d:E)) O;refine⟨⟨c.ok.take a,λz t=>?_,g.e (Ge g _),O,?_,w_,ZM ⟨w_,?_⟩,?_⟩,g⟩
  ·have q:=c.ok.e
   grind
  rw[Gn,Fc];omega
  ·grind [skT,Hy.o]
  have:=c.ok.l _ k;omega
 grind
def SkI.a{i g d j a b e}(h:SkI i g d j a 0 b e):(∀c∈a,b<c.n)/\d=(b,e)::(a.map Hy.o).reverse:=by
 rcases h.o with⟨f,c⟩|c
 have:a=[]:=eq_nil_of_length_eq_zero f.s;subst this;exact⟨s_,c⟩;exact c
def bJ(c a b:E):E->U Cd->U E
 |_,[]=>[]
 |f,d::e=>if f<=min (Bz a c d.h) b then d.v::bJ c a b (min (Bz a c d.h) b+1) e else bJ c a b f e
theorem Xs c a b f d e:bJ c a b f (d::e)=if f<=min (Bz a c d.h) b then d.v::bJ c a b (min (Bz a c d.h) b+1) e else bJ c a b f e:=rfl
theorem jh{g e c}:∀d a,c<a->bJ g e c a d=[]
 |[],a,b=>X
 |h::f,a,b=>by unfold bJ;rw[aC O];exact jh f a b
def Zjl{tot bins j}:∀b a,(∀c∈b,Bz bins tot c.h<=j)->bJ tot bins j a b=Fu tot bins a b
 |[],a,d=>X
 | c::e,a,d=>by
  have f:=d c s_;have g:=Zjl (tot:=tot) (bins:=bins) (j:=j) e
  grind [Xs,Fu]
def xy c b d:∀e f,f<=d+1->e.Pairwise (λa g=>a.v<g.v)->bJ c b (d+1) f e=if e.findIdx (λa=>ZE (d+1<=Bz b c a.h))<F e/\(bJ c b d f e).getLast?≠T (Z e (e.findIdx (λa=>ZE (d+1<=Bz b c a.h))) e0).v then bJ c b d f e++[(Z e (e.findIdx (λa=>ZE (d+1<=Bz b c a.h))) e0).v] else bJ c b d f e
 |[],f,j,h=>by simp[bJ]
 | a ::g,f,j,h=>by
  have i:=pairwise_cons.1 h
  by_cases m:d+1<=Bz b c a.h
  ·grind [Xs,jh]
  have k:(a::g).findIdx (λa=>ZE (d+1<=Bz b c a.h))=g.findIdx (λa=>ZE (d+1<=Bz b c a.h))+1:=(by simp[findIdx_cons,m]);rw[k];have l:Z (a::g) (g.findIdx (λa=>ZE (d+1<=Bz b c a.h))+1) e0=Z g _ e0:=rfl;rw[l];have p:min (Bz b c a.h) (d+1)=Bz b c a.h:=O;have q:min (Bz b c a.h) d=Bz b c a.h:=O
  by_cases o:f<=Bz b c a.h
  ·have n:=xy c b d g (Bz b c a.h+1) O i.2
   grind [Xs]
  have n:=xy c b d g f j i.2
  grind [Xs]
def Fv(b:U Cd)(c:E)(a:H):U Cd:=Y6 a (Lz c)++ZF a b
def fd{a c b}(d:b<=F a):F (Fv a c b)=F a:=by simp[Fv];omega
def ZdY{b c a}(d:a<F b):Fv b c a=Y6 a (Lz c)++Z b a e0::ZF (a+1) b:=by unfold Fv;grind [drop_eq_getElem_cons]
def yv c b a:Fv c b (a+1)=Y6 a (Lz b)++⟨b,0,0,0⟩::ZF (a+1) c:=by unfold Fv;rw[replicate_succ'];simp[Lz]
def Zhk{a b}{x:Cd}{d}(e:F a=d) c:(flat (a++x::b)).set (d*4) (I c)=flat (a++⟨c,x.t,x.h,x.g⟩::b):=by have:=Yi (B:=b) (x:=x) e (show 0<4 by omega) (I c);rw[Nat.add_zero] at this;rw[this,Cb];rfl
def zh{g h} b c {j k a}(p:Cj a g b)(q:Cj a h c)(l:Bc b)(m:Bc c):C_ 20 #[V g (F b) j,V h (F c) k] a λi e=>∃d,i=ZI d/\Ai e (B a.1) d (Bf b c)/\E_ a e:=by
 refine q_ ?_;go_wp2_with fail
 apply (mz _ _ p q l m).m;rintro i e ⟨d,rfl,n,o⟩;have f:=K_ n o;go_wp2;go_ret;exact⟨_,X,f.1,f.2⟩
def Zbs{c} a {g} i {b}(k:Cj b c a)(j:Bc a)(n:c=ZP->g=0):C_ 21 #[V c (F a) g,I i] b λh e=>∃d,h=ZI d/\Ai e (B b.1) d (Ep a i)/\E_ b e:=by
 refine q_ ?_;go_wp2_with fail
 apply (ym _ k j n).m;rintro h e ⟨d,rfl,l,m⟩;have f:=K_ l m;go_wp2;go_ret;exact⟨_,X,f.1,f.2⟩
def ir{j k} b {l m} f (c:Cj f j b)(d:Cj f k b):C_ 173 #[V j (F b) l,V k (F b) m] f (U_ (ZR Z0) f):=by
 have A:=c.1;have⟨h,i⟩:=Y_ c d;clear c d;refine q_ ?_;go_wp2_with fail
 go_loopw [5] (λe g=>∃a:H,a<=F b/\e=I a/\E_ f g) (m1_ (F b))
 exact⟨0,v_,X,y_⟩;obtain⟨a,z,rfl,g⟩:=hrel
 by_cases e:a<F b
 ·rcases h.out.q g with⟨_,n|⟨s,D,rfl,c⟩⟩;omega;rcases i.out.q g with⟨_,n|⟨t,G,rfl,d⟩⟩;omega;have o:=c.v a e;have p:=c.t a e;have q:=c.h a e;have r:=c.g a e;have v:=d.v a e;have w:=d.t a e;have x:=d.h a e;have y:=d.g a e;clear c d h i;generalize (Z b) a e0=L at *;have u:=F_ a _;go_wp2_with fail
  go_big_quiet (fail);refine J_ ?_;exact⟨a+1,O,g_,by grind [below_drewN]⟩
 have n:¬a<(F b:E):=O;go_wp2;go_ret;exact⟨X,g⟩
def Zij{c a h d f e k j i b}(r:a<=Y2)(o:Ed b c a k j i)(q:Ih a d f e k j i=ZZ):C_ 31 #[Y9 #[V c a h,I d,I f,I e]] b (U_ (Y5 #[Y7 ZP,ZX ZQ 1]) b):=by
 have g:K (Below _ b (ZN b (O_ #[V c a h,I d,I f,I e] 37))):=r_;have⟨n,m⟩:=Y_ (o.q g) q;refine dl_ ?_;go_enter func31,ntmps31;go_wp2_with fail
 generalize (ZN b) (O_ #[V c a h,I d,I f,I e] 37)=t at *;apply (Qu r n).m;rintro s u ⟨rfl,p⟩;rw[m];have l:=Y (g.T (p.m g.size));go_wp2;go_ret2
 exact⟨X,l⟩
def aa:U E->H
 |[]=>0
 |b::a=>ZL b+256*aa a
def bp:∀b:U E,(∀a∈b,0<=a/\a<256)->aa b<256^F b
 |[],_=>by simp[aa]
 |f::e,c=>by have:=bp e (λa d=>c a (by simp[d]));have:=c f s_;simp only[aa,length_cons,Nat.pow_succ];omega
def Qq c:∀a∈Ab c,0<=a/\a<256:=λa b=>by simp only[Ab,mem_map] at b;obtain⟨d,_,rfl⟩:=b;have:=d.toNat_lt;omega
def ua{a:ZC}{b}(c:b<ZK a):ZF b (Ab a)=((a[b]'c).toNat:E)::ZF (b+1) (Ab a):=by
 have d:b<F (Ab a):=by simpa [Ab] using c
 rw[aN d];simp[Ab];rfl
def Uu a i (r:a.size<=7):C_ 181 #[Q_ a] i (V_ (.int .i64 (aa (Ab a):Nat)) i):=by
 refine dl_ ?_;go_enter func181,ntmps181;go_wp2_with fail
 go_loopw [3,4] (λe b f=>∃(c d:Nat),e=I c/\b=I ((d:Int)-1)/\d<=a.size/\K (c=aa ((Ab a).drop d))/\K (i=f)) (λ_ b _=>(intOf b+1).toNat)
 case atStart=>exact⟨0,a.size,rfl,g_,x_,by show _=_;rw[drop_of_length_le (by simp[Ab])];rfl,rfl⟩
 obtain⟨c,d,rfl,rfl,q,e,k⟩:=hrel;have m:=k.out;subst m;clear k
 cases d with
 | zero=>
  have b:¬((0:Nat):Int)-1≥0:=O;go_wp2;go_ret;exact⟨by rw[e];rfl,rfl⟩
 | succ b=>
  have h:b<a.size:=O;have s:c<256^6:=(by have:=bp ((Ab a).drop (b+1)) (λf g=>Qq a f (mem_of_mem_drop g));rw[e];refine Qh this (Nat.pow_le_pow_right C ?_);rw[length_drop];simp[Ab];omega);have j:K (aa ((Ab a).drop b)=(a[b]'h).toNat+256*c):=(by show _=_;rw[ua h,e];simp[aa]);have⟨f,g⟩:=Z_ ((a[b]'h).toNat);rw[g] at j;have p:f<256:=(by rw[<- g];exact UInt8.toNat_lt _);have l:((b+1:Nat):Int)-1=b:=O;rw[l];have n:(b:Int)≥0:=O;have o:=F_ b _;clear e;go_upto_region 5 with fail;refine J_ ?_;exact⟨f+256*c,b,g_,g_,O,j.s,True.intro⟩
def En(a:ZC):ZG:=(Ab a).all Gh&&ZE (ZK a<=8)
def Zh9(b:ZC){h}(u:ZK b<=1000000):C_ 243 #[Q_ b] h (V_ (ZR (En b)) h):=by
 refine dl_ ?_;go_enter func243,ntmps243;go_wp2_with fail
 go_loopw [3] (λa d=>∃c:H,a=I c/\c<=ZK b/\K (En b=((ZF c (Ab b)).all Gh&&ZE (ZK b<=8)))/\K (h=d)) (m1_ (ZK b))
 case atStart=>exact⟨0,X,v_,X,X⟩
 obtain⟨c,rfl,t,g,n⟩:=hrel;have p:=n.out;subst p;clear n
 by_cases l:c<ZK b
 ·have q:=F_ c _;have j:=ua l;obtain⟨a,k⟩:=Z_ ((b[c]'l).toNat);have f:K (En b=(Gh a&&((ZF (c+1) (Ab b)).all Gh&&ZE (ZK b<=8)))):=(by show _=_;rw[g,j,k,all_cons,Bool.and_assoc]);clear j g;go_upto_region 5 with fail;clear k
  cases e:Gh a
  ·obtain⟨m,y,z,A,D⟩:¬(97<=a/\a<=122)/\¬a=32/\¬a=44/\¬a=10/\¬a=34:=(by simp[Gh,Fz] at e;omega);have d:K (En b=ZZ):=(by rw[f,e];rfl);have s:((a:E) !=32)=Z0:=t_;have v:((a:E) !=44)=Z0:=t_;have w:((a:E) !=10)=Z0:=t_;have x:((a:E) !=34)=Z0:=t_;clear e f
   by_cases r:a<97
   ·have i:(a:E)<97:=O;go_wp2;go_ret;exact⟨by rw[d];rfl,X⟩
   have i:¬(a:E)<97:=O;have o:(a:E)>122:=O;go_wp2;go_ret;exact⟨by rw[d];rfl,X⟩
  have d:K (En b=((ZF (c+1) (Ab b)).all Gh&&ZE (ZK b<=8))):=(by rw[f,e];rfl);have m:(97<=a/\a<=122)∨a=32∨a=44∨a=10∨a=34:=(by simp[Gh,Fz] at e;omega);clear e f
  rcases m with⟨r,s⟩|rfl|rfl|rfl|rfl
  ·have i:¬(a:E)<97:=O;have o:¬(a:E)>122:=O;refine J_ ?_;exact⟨c+1,g_,O,d,True.intro⟩
  all_goals
   refine J_ ?_;exact⟨c+1,g_,O,d,True.intro⟩
 have a:¬c<(ZK b:E):=O;have d:K (En b=ZE ((ZK b:E)<=8)):=(by show _=_;rw[g,drop_of_length_le (by simp[Ab];omega)];simp;omega);clear g;go_wp2;go_ret;exact⟨by rw[d];rfl,X⟩
end Go.Proofs.YtfcgnpchbcmdeaaGreat
namespace Go.Proofs.YtfcgnpchbcmdeaaGreat
set_option linter.all false
set_option maxRecDepth 100000
set_option maxHeartbeats 4000000
open Go.ChangeShapes Go.WideShapes Go.ChangeAt Go.RowKit List Nat Go.World Go.Proofs.Tryz Go.Value Go.IntKind Go.Lib Go.Region
open Go.Deep
def ZfF:prog.cellsOf 93=12:=k_
def ZfD:prog.cellsOf 37=4:=k_
def ZfE:prog.cellsOf 51=3:=k_
def ZfB:prog.cellsOf 25=1:=k_
def ZfC:prog.cellsOf 35=1:=k_
def au:prog.cellsOf 3=1:=k_
def Zos:prog.cellsOf 4=1:=k_
def ZjD:prog.cellsOf 9=1:=k_
def ji{b:ZT}{a d}(c:ZV b a=T d):a.block<B b.1:=by
 unfold ZV at c
 grind
def Zp8{f:Type}{a:U f}(e:F a=3):∃b c d,a=[b,c,d]:=by
 match a,e with
 |[b,c,d],_=>grind
def Zn0{g:Type}{a:U g}(f:F a=4):∃b c d e,a=[b,c,d,e]:=by
 match a,f with
 |[b,c,d,e],_=>grind
def Zn1{l:Type}{a:U l}(k:F a=9):∃b c d e f g h i j,a=[b,c,d,e,f,g,h,i,j]:=by
 match a,k with
 |[b,c,d,e,f,g,h,i,j],_=>grind
def ZoS{o:Type}{a:U o}(n:F a=12):∃b c d e f g h i j k l m,a=[b,c,d,e,f,g,h,i,j,k,l,m]:=by
 match a,n with
 |[b,c,d,e,f,g,h,i,j,k,l,m],_=>grind
section
variable {H:Type} {enc:TypeId×ZY->H} {w:ZT} {a:ZG}
def ZbV{o f x}(h:DataW.trod enc Y8 w 0 (λ_=>Z0) a o 25 f=T x):∃c b d e,f=[V c b d]/\b<=Y2/\Ck w c b e/\(c=ZP->b=0/\d=0):=by
 rcases open_ints underlying25 underlying3 au h with⟨rfl,_⟩|⟨c,b,d,e,rfl,_,s,t,m,_,k,l⟩
 exact⟨ZP,0,0,[],X,O,⟨X,s_,ZM X⟩,λ_=>⟨X,X⟩⟩;simp only[if_true] at m;refine⟨T c,b,d,ZU b e,X,O,⟨t_,λq n=>l q (aL n),?_⟩,s_⟩
 by_cases i:b=0
 exact ZM i;right;obtain⟨g,p,rfl,j⟩:=ints_at k O;refine⟨g,p,X,ji (j 0 O),λu r=>?_⟩
 grind
def Zk1{k e x}(j:DataW.trod enc Y8 w 0 (λ_=>Z0) a k 51 e=T x):∃b c d,e=[ZR b,I c,I d]:=by
 obtain⟨s,t,u,o,_,i,f,g,h⟩:=trod_struct3 underlying51 j;rw[ZfE] at i;obtain⟨p,q,r,rfl⟩:=Zp8 i;simp only[au,Zos,drop_zero,drop_succ_cons,take_succ_cons,take_zero] at f g h;obtain⟨b,l,_⟩:=DataW.trod_bool underlying4 f;obtain⟨c,m,_⟩:=DataW.trod_int underlying3 g;obtain⟨d,n,_⟩:=DataW.trod_int underlying3 h
 grind
def ZhR{s j x}(o:DataW.trod enc Y8 w 0 (λ_=>Z0) a s 35 j=T x):∃c e i f b d,j=[V c e i]/\e<=Y2/\Ed w c e f b d:=by
 rcases open_slice underlying35 o with⟨rfl,_⟩|⟨c,e,i,m,D,v,y,rfl,_,z,A,k,_,l⟩
 exact⟨ZP,0,0,λ_=>ZZ,λ_=>0,λ_=>0,X,O,ZM X⟩;simp only[if_true] at k;subst k;rw[ZfE] at l
 have r:∀b,b<m->∃h:ZG×E×E,ZV w (c.add (b*3))=T (ZR h.1)/\ZV w (c.add (b*3+1))=T (I h.2.1)/\ZV w (c.add (b*3+2))=T (I h.2.2):=by
  intro b f;obtain⟨u,g,n⟩:=l b f;obtain⟨p,q,t,rfl⟩:=Zk1 n;obtain⟨_,_,d⟩:=cells?_some g;refine⟨(p,q,t),?_,?_,?_⟩
  ·have:=d 0 O;rw[add_add] at this;simpa using this
  ·have:=d 1 O;rw[add_add] at this;simpa using this
  have:=d 2 O;rw[add_add] at this;simpa using this
 obtain⟨g,d⟩:=choose_lt r;refine⟨T c,e,m,λb=>(g b).1,λb=>(g b).2.1,λb=>(g b).2.2,X,O,?_⟩
 by_cases p:e=0
 exact ZM p;right;obtain⟨n,t,u⟩:=c
 have q:u=ZP:=by simpa [Addr.add] using cell?_spot (d 0 O).1
 subst q;simp only[add_plain] at d;exact⟨n,t,X,O,λ_=>ji (d 0 O).1,λb f=>(d b O).1,λb f=>(d b O).2.1,λb f=>(d b O).2.2⟩
def Zo6{b6 d x}(a4:DataW.trod enc Y8 w 0 (λ_=>Z0) a b6 93 d=T x):∃b:OpD,d=[I b.a,I b.l,I b.t,V b.g b.A b.e,I b.k,I b.size,I b.b,V b.i b.vl b.h,V b.c b.d b.j,Q_ b.n,I b.x,I b.y]/\OpR w b:=by
 obtain⟨f2,c9,_,_,D,a7,b⟩:=DataW.trod_struct underlying93 a4;rw[ZfF] at D;obtain⟨d1,d2,d5,d6,d7,d8,d9,e0,e1,e2,d3,d4,rfl⟩:=ZoS D;obtain⟨e3,e4,e5,e6,e7,e8,e9,f0,f1,rfl⟩:=Zn1 a7;have q:=b 0 ⟨ "Kind",3,0,ZZ, "", "",0⟩ X;have r:=b 1 ⟨ "At",3,1,ZZ, "", "",8⟩ X;have s:=b 2 ⟨ "B",3,2,ZZ, "", "",16⟩ X;have t:=b 3 ⟨ "C",37,3,ZZ, "", "",24⟩ X;have u:=b 4 ⟨ "V",25,7,ZZ, "", "",72⟩ X;have v:=b 5 ⟨ "W",25,8,ZZ, "", "",96⟩ X;have y:=b 6 ⟨ "S",9,9,ZZ, "", "",120⟩ X;have z:=b 7 ⟨ "X",3,10,ZZ, "", "",136⟩ X;have A:=b 8 ⟨ "Y",3,11,ZZ, "", "",144⟩ X;simp only[au,ZfD,ZfB,ZjD,drop_zero,drop_succ_cons,take_succ_cons,take_zero,getElem?_cons_zero,getElem?_cons_succ] at q r s t u v y z A
 obtain⟨b5,e,_⟩:=DataW.trod_int underlying3 q;obtain⟨b7,f,_⟩:=DataW.trod_int underlying3 r;obtain⟨P,i,_⟩:=DataW.trod_int underlying3 s;obtain⟨c2,c4,c3,c5,n,b0,a9,b1⟩:=ZbV u;obtain⟨c6,c7,wc,c8,o,b3,b2,b4⟩:=ZbV v;obtain⟨c1,p,_⟩:=DataW.trod_string underlying9 y;obtain⟨b8,g,_⟩:=DataW.trod_int underlying3 z;obtain⟨b9,h,_⟩:=DataW.trod_int underlying3 A;obtain⟨f7,d0,_,_,_,a8,c⟩:=DataW.trod_struct underlying37 t;obtain⟨f3,f4,f5,f6,rfl⟩:=Zn0 a8;have G:=c 0 ⟨ "Features",35,0,ZZ, "", "",0⟩ X;have L:=c 1 ⟨ "Bins",3,1,ZZ, "", "",24⟩ X;have M:=c 2 ⟨ "Size",3,2,ZZ, "", "",32⟩ X;have N:=c 3 ⟨ "Budget",3,3,ZZ, "", "",40⟩ X
 simp only[au,ZfC,drop_zero,drop_succ_cons,take_succ_cons,take_zero,getElem?_cons_zero,getElem?_cons_succ] at G L M N;obtain⟨S,a0,W,a3,a1,a2,j,a6,a5⟩:=ZhR G;obtain⟨Q,k,_⟩:=DataW.trod_int underlying3 L;obtain⟨c0,l,_⟩:=DataW.trod_int underlying3 M;obtain⟨R,m,_⟩:=DataW.trod_int underlying3 N;simp only[List.cons.injEq,and_true] at e f i j k l m n o p g h;subst e f i j k l m n o p g h;exact⟨⟨b5,b7,P,S,a0,W,Q,c0,R,c2,c4,c3,c6,c7,wc,c1,b8,b9,a3,a1,a2,c5,c8⟩,X,⟨a6,b0,b3,a5,a9,b2,b1,b4⟩⟩
end
end Go.Proofs.YtfcgnpchbcmdeaaGreat
