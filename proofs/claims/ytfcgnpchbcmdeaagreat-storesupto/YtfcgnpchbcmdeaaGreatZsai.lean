import Derived.Shelf.SlSortCmp.NoneTotal
import Derived.Test.YtfcgnpchbcmdeaaGreatZsah
open Option renaming some->T,none->ZP
open Go.Proofs.Tryz renaming prog->Y8
open _root_ renaming Int->E,List->U,rfl->X,Nat->H,Bool->ZG
open Go renaming Value->ZY,madeCells->YV,World->ZT,maxLen->Y2
open Go.Value renaming int->ZX,agg->Y9,tuple->Y5,func->YX,slice->ZH,bool->ZR
open Go.IntKind renaming i64->ZQ
open Go.Ending renaming returned->ZI
open Go.World renaming drewN->Y1,grownBy->Y3,alloc->ZN,ownsRow->ZD
open Decidable renaming decide->ZE
open Array renaming size->B,toList->Y4
open List renaming replicate->Y6,length->F,take->ZU,getD->Z,drop->ZF
open Or renaming inl->ZM,inr->ZJ
open Int renaming toNat->ZL
open Go.Proofs renaming intOf->ZA
open Go.Obj renaming cells->YU
open Bool renaming true->Z0,false->ZZ
namespace Go.Proofs.YtfcgnpchbcmdeaaGreat
set_option linter.all false
set_option maxRecDepth 100000
set_option maxHeartbeats 4000000
open Go.Shelf Go.RowKit Go.Lib Go.Sort List Nat Go.World Go.Proofs.Tryz Go.Value Go.IntKind Go.Lib Go.Region
def Zis:Go.Shelf.Ren:=⟨fun|6=>81|15=>150|14=>149|28=>201|29=>202|20=>193|21=>194|22=>195|23=>196|24=>197|25=>198|26=>199|27=>200|46=>247|47=>248|48=>249|49=>250|50=>251|57=>293|a=>a,fun|22=>29|24=>98|25=>146|3=>3|39=>243|0=>0|53=>185|55=>306|4=>4|46=>299|45=>298|50=>238|5=>5|9=>9|66=>342|70=>346|76=>374|77=>294|a=>a,λa=>a⟩
def Zqh:SlLaysF0.n6 Y8 Zis:={
 mixed:=k_,
 f6:=⟨f81.name,C,func81.T (congrArg T k_)⟩,
 f14:=⟨f149.name,C,func149.T (congrArg T k_)⟩,
 f15:=func150.T (congrArg T k_),
 f20:=⟨f193.name,C,func193.T (congrArg T k_)⟩,
 f21:=⟨f194.name,C,func194.T (congrArg T k_)⟩,
 f22:=⟨f195.name,C,func195.T (congrArg T k_)⟩,
 f23:=⟨f196.name,C,func196.T (congrArg T k_)⟩,
 f24:=⟨f197.name,C,func197.T (congrArg T k_)⟩,
 f25:=⟨f198.name,C,func198.T (congrArg T k_)⟩,
 f26:=⟨f199.name,C,func199.T (congrArg T k_)⟩,
 f27:=⟨f200.name,C,func200.T (congrArg T k_)⟩,
 f28:=func201.T (congrArg T k_),
 f29:=func202.T (congrArg T k_),
 f46:=⟨f247.name,C,func247.T (congrArg T k_)⟩,
 f47:=func248.T (congrArg T k_),
 f48:=func249.T (congrArg T k_),
 f49:=⟨f250.name,C,func250.T (congrArg T k_)⟩,
 f50:=⟨f251.name,C,func251.T (congrArg T k_)⟩,
 f57:=⟨f293.name,C,func293.T (congrArg T k_)⟩,
 t0:=underlying0,
 a0:=isAgg0,
 z0:=sizeOf0,
 v0:=zeroValue0,
 t3:=underlying3,
 a3:=isAgg3,
 z3:=sizeOf3,
 v3:=zeroValue3,
 t4:=underlying4,
 a4:=isAgg4,
 z4:=sizeOf4,
 v4:=zeroValue4,
 t5:=underlying5,
 a5:=isAgg5,
 z5:=sizeOf5,
 v5:=zeroValue5,
 t9:=underlying9,
 a9:=isAgg9,
 z9:=sizeOf9,
 v9:=zeroValue9,
 t22:=underlying29,
 a22:=isAgg29,
 z22:=sizeOf29,
 v22:=zeroValue29,
 t25:=underlying146,
 a25:=isAgg146,
 z25:=sizeOf146,
 v25:=zeroValue146,
 t39:=underlying243,
 a39:=isAgg243,
 z39:=sizeOf243,
 v39:=zeroValue243,
 t45:=underlying298,
 a45:=isAgg298,
 z45:=sizeOf298,
 v45:=zeroValue298,
 t46:=underlying299,
 a46:=isAgg299,
 z46:=sizeOf299,
 v46:=zeroValue299,
 t50:=underlying238,
 a50:=isAgg238,
 z50:=sizeOf238,
 v50:=zeroValue238,
 t53:=underlying185,
 a53:=isAgg185,
 z53:=sizeOf185,
 v53:=zeroValue185,
 t55:=underlying306,
 a55:=isAgg306,
 z55:=sizeOf306,
 v55:=zeroValue306,
 t66:=underlying342,
 a66:=isAgg342,
 z66:=sizeOf342,
 v66:=zeroValue342,
 t70:=underlying346,
 a70:=isAgg346,
 z70:=sizeOf346,
 v70:=zeroValue346,
 t76:=underlying374,
 a76:=isAgg374,
 z76:=sizeOf374,
 v76:=zeroValue374,
 t77:=underlying294,
 a77:=isAgg294,
 z77:=sizeOf294,
 v77:=zeroValue294}
def hn(x:E×E):U ZY:=[I x.1,I 0,I 0,I x.2]
def Za8 x b c:C_ 151 #[I x,I b] c (V_ (ZX ZQ (compareInt x b)) c):=by
 unfold compareInt
 rcases Int.lt_trichotomy x b with a|a|a
 ·rw[aD a];refine q_ ?_;go_wp2
  all_goals go_ret
  all_goals exact⟨X,X⟩
 ·subst a;rw[aC (Int.lt_irrefl _),aC (Int.lt_irrefl _)];refine q_ ?_;go_wp2
  all_goals go_ret
  all_goals exact⟨X,X⟩
 have d:¬x<b:=O;rw[aC d,aD a];refine q_ ?_;go_wp2
 all_goals go_ret
 all_goals exact⟨X,X⟩
def ZaZ{x a:E×E}{b}:C_ 82 #[Y9 #[I x.1,I 0,I 0,I x.2],Y9 #[I a.1,I 0,I 0,I a.2]] b λc e=>c=ZI (ZX ZQ (compareInt x.1 a.1))/\∃i h,e=grow (Y1 b i) h:=by
 have d:=λg=>Za8 x.1 a.1 g;generalize compareInt x.1 a.1=j at d ⊢;have f:=Y d;refine q_ ?_;go_wp2_with (go_at_call 151;apply (f _).m;rintro c e ⟨rfl,rfl⟩)
 go_ret;exact⟨X,0,_,by rw[alloc_eq_grow,alloc_eq_grow,grow_grow];rfl⟩
def ZjH{c d e f}:CmpLays Y8 82 #[] hn 4 (λa b=>compareInt a.1 b.1) c d e f:=
 λ_ _ _ _ a b=>ZaZ
def Zm6 x a:ltOf (λx a:E×E=>compareInt x.1 a.1) x a=ZE (x.1<a.1):=by
 unfold ltOf compareInt
 grind
def Zql:SWO (ltOf λa b:E×E=>compareInt a.1 b.1) where
  irrefl a:=by rw[Zm6];simp
  trans a b e c d:=by rw[Zm6] at *;simp at *;omega
  ntrans a b e c d:=by rw[Zm6] at *;simp at *;omega
def Zlw{c} f {a b}(h:HoldsK hn 4 b c 0 a)(i:c<B b.1)(j:B a<4611686018427387904):C_ 81 #[L_ c (B a) f,YX (.func 82) #[] #[]] b λg m=>g=ZI (Y5 #[])/\∃d k l,PermIn 0 (B a) a d/\SortedIn (ltOf λe n:E×E=>compareInt e.1 n.1) 0 (B a) d/\m=sortWorldK hn 4 b c 0 k d l:=by have g:∀_ b,(callFunc 82 _).run _ b=_:=enters_of func82 k_ X;exact AnyQ.slices_SortFunc Zqh 4 isAgg98 sizeOf98 _ (λ_=>X) (λe k d=>by simp[hn] at d;rcases d with rfl|rfl|rfl|rfl<;>rfl) _ Zql _ _ _ 0 _ a b g (ZjH) h i j
end Go.Proofs.YtfcgnpchbcmdeaaGreat
namespace Go.Proofs.YtfcgnpchbcmdeaaGreat
set_option linter.all false
set_option maxRecDepth 100000
set_option maxHeartbeats 4000000
open Go.RowKit List Nat Go.World Go.Proofs.Tryz Go.Value Go.IntKind Go.Lib Go.Region
def Zkd a:Y6 (a*4) (I 0)=flat (Y6 a e0):=by
 induction a with
 |zero=>rfl
 | succ a b=>
  rw[replicate_succ,show(a+1)*4=a*4+4 by omega];show _=Es e0++flat (Y6 a e0);rw[<- b];rfl
theorem ve{a}:Y4 (YV #[I 0,I 0,I 0,I 0] (a*4))=flat (Y6 a e0):=by
 have b:Y4 (YV #[I 0,I 0,I 0,I 0] (a*4))=Y6 (a*4) (I 0):=by
  apply ext_getElem;simp[YV];intro d b c;simp[YV]
  grind
 rw[b,Zkd]
def Ul{a b}{x:Cd}{d}(e:F a=d){c}:(flat (a++x::b)).set (d*4) (I c)=flat (a++⟨c,x.t,x.h,x.g⟩::b):=by have:=Yi (B:=b) (x:=x) e (show 0<4 by omega) (I c);rw[Nat.add_zero] at this;rw[this,Cb];rfl
def Tb(a:U (E×E))(b:H):U Cd:=(ZU b a).map Kq++Y6 (F a-b) e0
def Zhc{a b}(c:b<=F a):F (Tb a b)=F a:=by simp[Tb];omega
def vm{b c a} d:(Ao b c)[a]=(Ey (Z b a 0),Kd (Z c a 0)):=by grind [Ao]
def Ck.q{e w' b d f}(i:Ck e b d f)(c:E_ e w'):Ck w' b d f:=by
 obtain⟨j,k,a⟩:=i;refine⟨j,k,?_⟩
 rcases a with a|⟨g,p,h,n,l⟩
 exact ZM a;exact ZJ ⟨g,p,h,Qh n c.size,λo m=>T_ c (l o m)⟩
def Zbl b:∀a c,a<F b->c<4->(flat b)[a*4+c]? =(Es (Z b a e0))[c]?:=by
 induction b with
 |nil=>grind
 | cons d b g=>
  intro a c e f
  cases a with
  |zero=>grind [flat,Es]
  | succ a=>
   grind [flat,Es]
theorem mf(b:U (E×E)):Y4 (Go.Sort.flatK hn 4 b.toArray)=flat (b.map Kq):=by
 apply ext_getElem?;intro a
 by_cases f:a<F b*4
 ·have c:=Zbl (b.map Kq) (a/4) (a%4) t_ O;rw[show a/4*4+a%4=a by omega] at c;rw[c,Array.getElem?_toList];have e:a/4<F b:=O;have d:Z (b.map Kq) (a/4) e0=Kq b[a/4]:=w_;rw[d];simp only[Go.Sort.flatK];rw[Array.getElem?_map];simp[f,e,hn,Es,Kq]
  grind
 rw[getElem?_eq_none t_,getElem?_eq_none (by rw[Cg];simp;omega)]
theorem qm b a (e:a.size<=b.size):(Go.Sort.putCells id 0 a b).toList.take a.size=a.toList:=by
 apply ext_getElem?;intro d
 by_cases c:d<a.size
 rw[getElem?_take_of_lt c,Array.getElem?_toList,Array.getElem?_toList];simp[Go.Sort.putCells,c,show d<b.size by omega]
 grind
def ZeD{e g a f m os}{d b:U (E×E)}(i:F b=F d)(k:Ai e g (L_ a (F d) f) (d.map Kq)):Ai (Go.Proofs.sortWorldK hn 4 e a 0 m b.toArray os) g (L_ a (F d) f) (b.map Kq)/\Y3 e (Go.Proofs.sortWorldK hn 4 e a 0 m b.toArray os) (T a):=by
 rcases k.2 with⟨c,_⟩|⟨v,u,j,c,l,h,x,n,o,y⟩
 simp at c;simp only[slice.injEq,Option.some.injEq,Addr.mk.injEq,and_true] at c;obtain⟨rfl,_,rfl⟩:=c;have p:=(Qb h).1;have w:B (Go.Sort.flatK hn 4 b.toArray)=F d*4:=by simp[i]
 have q:(Go.Proofs.sortWorldK hn 4 e a 0 m b.toArray os).1[a]? =T (O_ (Go.Sort.putCells id 0 (Go.Sort.flatK hn 4 b.toArray) j) 98):=(by unfold Go.Proofs.sortWorldK Go.Sort.putRowK;rw[Go.Sort.heap_grow_old _ _ (by simpa using p)];simp[Go.Sort.putRow,Go.Sort.mapBlock,Go.Sort.ahead,Array.getElem?_modify,h,Go.Sort.onCells]);refine⟨⟨by rw[Cg],ZJ ⟨a,f,_,by simp[i],l,q,w_,n,by simp[Go.Sort.putCells,o],?_⟩⟩,⟨X,X,X,?_,λt r s=>?_⟩⟩
 ·grind [mf,qm]
 unfold Go.Proofs.sortWorldK Go.Sort.putRowK;simp;unfold Go.Proofs.sortWorldK Go.Sort.putRowK;rw[Go.Sort.heap_grow_old _ _ (by simpa using r)];have:a≠t:=λc=>s (by rw[c]);simp[Go.Sort.putRow,Go.Sort.mapBlock,Go.Sort.ahead,Array.getElem?_modify,this]
def ZhW{d e b f}{a:U (E×E)}(h:Ai d e (L_ b (F a) f) (a.map Kq)):Go.Sort.HoldsK hn 4 d b 0 a.toArray:=by
 intro c i
 have j:c<F a*4:=by simpa using i
 have g:Ai d e (L_ b (F (a.map Kq)) f) (a.map Kq):=by simpa using h
 refine⟨?_,?_⟩
 ·rw[Nat.zero_add,World.ownsRow.cellAt g c (by simpa using j),<- mf]
  grind
 rw[Nat.zero_add];exact World.ownsRow.frozenAt g c
def ZkY{a8 a9 o c3 p wc c e} d (D:Ck d a8 o c)(G:Ck d a9 p e)(d0:o<=2097152)(d1:p<=2097152):C_ 45 #[V a8 o c3,V a9 p wc] d λg l=>∃b n,g=ZI b/\Ej (Ao c e) n/\Ai l (B d.1) b (Bo 0 n)/\E_ d l:=by
 have x:=Lh c e;rw[D.1,G.1] at x;have⟨a,A⟩:=W_ (min o p);have c1:∀v:ZT,(Instr.makeSlice 29 (I a) (I a)).run Y8 v=.ok (L_ (B v.1) a a) (ZN v (O_ (YV #[I 0,I 0,I 0,I 0] (a*4)) 98)):=λ_=>mk_ 4;have⟨f,b6,b7⟩:=y3_ (x.T A.s) D G
 have L:K (Ai (ZN d (O_ (YV #[I 0,I 0,I 0,I 0] (a*4)) 98)) (B d.1) (L_ (B d.1) a a) (Tb (Ao c e) 0)):=by
  have:=ownsRow_lit (base:=B d.1) (size:=4) (e:=98) d (YV #[I 0,I 0,I 0,I 0] (a*4)) a x_ (by unfold Y2;omega) (size_madeCells _ _)
  grind [ve,Tb,Ai]
 have c8:a<=o:=O;have c9:a<=p:=O;have b2:=Y A;clear D G x A;refine q_ ?_;go_upto_region 1 with fail;go_cut [5] (λb g=>b=ZH (T ⟨B d.1,0,ZP⟩) a a/\g=ZN d (YU (YV #[ZX ZQ 0,ZX ZQ 0,ZX ZQ 0,ZX ZQ 0] (a*4)) 98))
 case first=>
  have b:min (o:E) p=a:=p_ b2.out;go_wp2;go_meet
  grind
 obtain⟨rfl,rfl⟩:=hcut;clear c1;go_wp2_with fail
 go_loopw [15] (λg h=>∃b:H,b<=a/\g=ZX ZQ b/\K (Ai h (B d.1) (ZH (T ⟨B d.1,0,ZP⟩) a a) (Tb (Ao c e) b))/\E_ d h) (λg _=>a-ZL (ZA g))
 exact⟨0,v_,X,L,r_⟩;clear L;obtain⟨b,c5,rfl,M,r⟩:=hrel
 by_cases c0:b<a
 ·have s:b<F (Ao c e):=f ▸ c0;have t:Tb (Ao c e) b=(ZU b (Ao c e)).map Kq++e0::Y6 (a-(b+1)) e0:=(by unfold Tb;rw[f,show a-b=a-(b+1)+1 by omega,replicate_succ]);have m:F ((ZU b (Ao c e)).map Kq)=b:=t_;have j:=M.out;have h:=Zhc (show b<=F (Ao c e) by omega);rw[t] at j h;rw[f] at h;have⟨N,P,Q,R,a7⟩:=j.at h.s m;have⟨w,k,i⟩:=y3_ j h.s m
  have u:K (Tb (Ao c e) (b+1)=(ZU b (Ao c e)).map Kq++⟨Ey (Z c b 0),0,0,Kd (Z e b 0)⟩::Y6 (a-(b+1)) e0):=show _=_ by unfold Tb;rw[f,Qi s,vm _];simp[Kq]
  rcases b6.out with⟨S,W,n|⟨a2,b3,rfl,y,n⟩⟩;omega;rcases b7.out with⟨a0,a1,q|⟨a3,b4,rfl,z,q⟩⟩;omega;have b0:=T_ r (n b O);have b1:=T_ r (q b O);simp only[e0] at N P Q R;have a4:=F_ b a;have a5:b<(o:E):=O;have a6:b<(p:E):=O;clear t m j h S W n a0 a1 q s;generalize (Z c) b 0=b5,Z e b 0=b8 at *;go_wp2_with fail
  go_region_with (first|(go_at_call 79;apply (al).m;rintro g l ⟨rfl,rfl⟩)|(go_at_call 80;apply (Xw).m;rintro g l ⟨rfl,rfl⟩))
  all_goals go_wp2
  all_goals
   go_roundw
   case rel=>
    refine⟨b+1,O,g_,?_,?_⟩;rw[u];exact((((w.b k s_ (Ul i)).b (k.T s_) s_ (Mn i _)).b (k.T s_) s_ (Mo i _)).b (k.T s_) s_ (Mp i _));exact((((r.setCell x_ _).setCell x_ _).setCell x_ _).setCell x_ _).drew
   exact z_
 have c6:b=a:=O;have j:Ai wr (B d.1) (L_ (B d.1) (F (Ao c e)) a) ((Ao c e).map Kq):=(by have g:Tb (Ao c e) b=(Ao c e).map Kq:=(by unfold Tb;rw[aI (by rw[f];omega),f,show a-b=0 by omega];simp);rw[<- g,f];exact M);have c7:¬b<(a:E):=O;have c2:=r.size;have a7:∀k∈Ao c e,_:=λk s=>(Jm s).1;have t:=Y a7;have a6:=(B_ j (B d.1) X).2
 have a5:C_ 81 #[L_ (B d.1) a a,YX (.func 82) #[] #[]] wr λg l=>g=ZI (Y5 #[])/\∃m:U (E×E),m.Perm (Ao c e)/\(m.Pairwise λk i=>k.1<=i.1)/\Ai l (B d.1) (L_ (B d.1) (F m) a) (m.map Kq)/\Y3 wr l (T (B d.1)):=by
  have n:=Zlw a (ZhW j) a6 (by simp[f.out];omega);rw[show B (Ao c e).toArray=a by simp[f.out]] at n;apply n.m;rintro g l ⟨rfl,h,W,a0,N,Q,rfl⟩;obtain⟨P,_,a1⟩:=N;have u:B h=a:=(by rw[P];simp[f.out]);have q:F (Y4 h)=F (Ao c e):=O;have i:=ZeD (m:=W) (os:=a0) q j;rw[show(Y4 h).toArray=h by simp] at i;refine⟨X,Y4 h,?_,?_,?_,i.2⟩
  ·have w:h.extract 0 a=h:=by rw[<- u];simp
   grind
  ·rw[pairwise_iff_getElem];intro R S w z y;simp at w z;have:=Q R S v_ y O;rw[Zm6] at this
   grind
  grind
 have b5:=Y a5;clear j a7 a6 a5;go_wp2_with fail
 apply (show Calls _ _ _ _ _ from b5).m;rintro g d2 ⟨rfl,m,u,R,Q,P⟩;have b8:F m=a:=(by rw[u.length_eq,f]);have y:=r.grown P c2 (λi h=>by simp at h;omega);have w:=ny a m Q R (λk s=>t k (u.mem_iff.1 s)) O;rw[b8] at w;have⟨b1,b0⟩:=Y_ w u;clear w u R Q P;go_wp2_with fail
 apply (show Calls _ _ _ _ _ from b1).m;rintro g d3 ⟨n,rfl,S,c4,W,a0⟩;have z:=y.grown a0 y.size (λi h=>by simp at h;omega);have q:=S.n b0
 have a1:∀k∈n,0<=k.2:=λk s=>by rw[q.g k s];exact Zv (λi h=>(t i h).1) _
 have a2:Bv n<=1000000000000:=(by have a3:=Zar (ps:=Ao _ _) (λi h=>(t i h).1) q.f;have N:=Uz (ps:=Ao _ _) (λi h=>(t i h).2);rw[Zt q.g];rw[f] at N;omega);have b3:=Y q;have N:=Zlg a n W a1 a2 O;have b4:=Y N;clear N S W a0 q a1 a2;go_wp2_with fail
 apply (show Calls _ _ _ _ _ from b4).m;rintro g d4 ⟨rfl,a3,a4⟩;have b9:=z.grown a4 z.size (λi h=>by simp at h;omega);have h:=Y a3;clear a3 a4;go_wp2;go_ret;exact⟨_,n,X,b3,h,b9⟩
def ZcL{i k e t g wc j l a}(p:Ck a i e j)(q:Ck a k g l)(r:e<=2097152)(s:g<=2097152):C_ 19 #[V i e t,V k g wc] a λh f=>∃d b,h=ZI d/\Ej (Ao j l) b/\Ai f (B a.1) d (Bo 0 b)/\E_ a f:=by
 refine q_ ?_;go_wp2_with fail
 apply (ZkY a p q r s).m;rintro h f ⟨d,b,rfl,m,n,o⟩;have c:=x3_ m n o;go_wp2;go_ret;exact⟨_,b,X,c.1,c.2.1,c.2.2⟩
def Zo1:Zjb:=λf j h g k wc i l e a b c d=>ZkY e a b c d
def Kz(c:ZG)(a b:H):H:=if c=Z0 then b else a
def Uj a e f b g c h d:C_ 169 #[Y9 #[ZR a,V e b g,V f c h]] d (U_ (ZX ZQ (Kz a b c:H)) d):=by
 cases a
 all_goals
  refine er_ ?_;exact⟨X,r_⟩
def fu{c} d e {a} f {b} g h (m:Kz c a b<=1000000):C_ 191 #[Y9 #[ZR c,V d a f,V e b g]] h (U_ (ZX ZQ ((Kz c a b:H)+1)) h):=by
 have i:=Y (λj=>Uj c d e a f b g j);generalize Kz c a b=n at *;refine q_ ?_;go_wp2_with fail
 apply (i _).m;rintro l o ⟨rfl,j⟩;have k:=r_.T (j.m s_);go_wp2;go_ret;exact⟨X,k⟩
def Fq c d e a f b g h (k:Kz c a b<=1000000):C_ 146 #[Y9 #[ZR c,V d a f,V e b g]] h (U_ (ZX ZQ ((Kz c a b:H)+2)) h):=by
 have i:=Y (λj=>fu d e f g j k);generalize Kz c a b=n at *;refine q_ ?_;go_wp2_with fail
 apply (i _).m;rintro m o ⟨rfl,j⟩;have l:=r_.T (j.m s_);go_wp2;go_ret;exact⟨by rw[Int.add_assoc];rfl,l⟩
def Bd:U VS->U E->U (E×E)
 |[],_=>[]
 |_::_,[]=>[]
 |b::a,d::c=>if b.a=Z0 then Bd a c else(b.num,d)::Bd a c
def Fb(a:U VS)(b:U E)(c:E)(d:H):U E:=Bm (Dw d ((Bd a b).map Prod.fst) ((Bd a b).map Prod.snd)) c
def Ki:∀(a:U VS) (b:U E),F (Bd a b)<=F a
 |[],_=>by simp[Bd]
 |_::_,[]=>by simp[Bd]
 | c::a,d::b=>by
  have:=Ki a b
  grind [Bd]
def Ti:∀(a:U VS) (c:U E),∀b∈Bd a c,(∃d∈a,d.num=b.1)/\b.2∈c
 |[],_=>by simp[Bd]
 |_::_,[]=>by simp[Bd]
 | d::a,g::c=>λb e=>by
  have f:=Ti a c b
  grind [Bd]
def Wu:∀(c:U VS) (e:U E) (a:VS) (b:E),F c=F e->Bd (c++[a]) (e++[b])=Bd c e++(if a.a=Z0 then[] else[(a.num,b)])
 |[],[],a,b,_=>by simp only[Bd,nil_append]
 | f::c,g::e,a,b,d=>by
  have h:=Wu c _ a b (by simpa using d)
  grind [Bd]
 |[],g::e,a,b,d=>by simp at d
 |f::c,[],a,b,d=>by simp at d
def qn{a:U VS}{b}(c:b<F a):ZU (b+1) a=ZU b a++[Z a b Ax]:=by grind [Qi]
def Ze8{a:U E}{b}(c:b<F a):ZU (b+1) a=ZU b a++[Z a b 0]:=by grind [Qi]
def ZlT{a}(b: -1000000000000<=a)(c:a<=1000000000000):(Lit.int ZQ a).wf=Z0:=by simp[Lit.wf,IntKind.min,IntKind.max,IntKind.bits,signed];omega
theorem Ad.e{j k i b}(g:Ad j k i b)(d:∀a∈b,-1000000000000<=a/\a<=1000000000000):∃e f,i=ZH e (F b) f/\Ck j e (F b) b/\F b<=f/\(e=ZP->f=0):=by
 have o:=g
 rcases g.2 with⟨rfl,h⟩|⟨n,l,s,rfl,_,p,q,_⟩
 exact⟨ZP,0,by rw[h],⟨X,λa c=>ZlT (d a c).1 (d a c).2,ZM h⟩,O,λ_=>X⟩;refine⟨_,l,X,⟨X,λa c=>ZlT (d a c).1 (d a c).2,ZJ ⟨n,0,X,(Qb p).1,λr t=>?_⟩⟩,q,λm=>by cases m⟩;rw[Nat.zero_add,World.ownsRow.cellAt o r O]
 grind
def ZqR(e:ZT)(b:H)(d:ZY)(c:U E):Prop:=∃a,d=Y9 #[ZR ZZ,a,N_]/\Ad e b a c
def Ad.m{e b b' d a}(c:Ad e b' d a)(j:b<=b'):Ad e b d a:=by
 refine⟨c.1,?_⟩
 rcases c.2 with l|⟨i,f,g,h,k,m⟩
 exact ZM l;exact ZJ ⟨i,f,g,h,aG j k,m⟩
def Am{b:ZT}{f d o n a j e:H}{p u q g}(c:ZD b f d o p n q)(i:H_ b a g e)(l:d≠e):=
 ((Aa.refl (λm=>m=a) b).setCell (p:=(J a j)) (λ_=>X) u).M c (λ_ k h=>Ag c k i l h)
def Wn{a}(i:2<=a)(j:a<=32):∀e c b d,Gt c->Aw c+1000*F b<=1000000000000->F b<=2097152->Gt (Dv a e c b d)/\Aw (Dv a e c b d)<=Aw c+1000*F b
 |0,c,b,d,f,k,h=>⟨f,by simp only[Dv];omega⟩
 | e+1,c,b,d,f,k,h=>by
  simp only[Dv];split
  ·grind
  have g:=kc (vs:=ZU a b) (ws:=ZU a d) t_;have m:F (ZU a b)+F (ZF a b)=F b:=t_;have n:F (ZU a b)<=a:=t_;have⟨l,q⟩:=Va (size:=(a:E)) O O f g.1 O O;have⟨o,p⟩:=Wn i j e _ (ZF a b) (ZF a d) l O O
  grind
def mj{b}(l:2<=b)(o:b<=32):∀c a,Gt c->Bc a->F a<=32->Ae a+Aw c<=1000000000000->Bc (Fw b a c)/\F (Fw b a c)<=32
 |[],a,d,f,j,m=>⟨f,j⟩
 |e::n,a,d,f,j,m=>by have k:Gt n:=⟨λh g=>d.j h (by simp[g]),λh g=>d.y h (by simp[g])⟩;have q:=Gb k.j;simp only[Aw] at m;have i:=Fy f (d.j e s_) O;have p:=Jh (Bf a e) l;have r:Ae (Ep (Bf a e) b)=Ae a+Ae e:=(by rw[Gn,Fc]);simp only[Fw];exact mj l o n _ k (i.e (Ge i _)) O O
def Tg{b}(g:2<=b)(h:b<=32) a c (f:F a<=2097152):Bc (Dw b a c)/\F (Dw b a c)<=32:=by have⟨d,e⟩:=Wn g h (F a) [] a c Gt.nil (by simp[Aw];omega) f;exact mj O O _ _ d Bc.nil s_ (by simp[Ae,Aw] at e ⊢;omega)
def ia{c0 c3}(g:H){c1:H}(d4:H){h:H}{i} b {c} d (x:Ky d 0 (V c0 g c1) b)(a3:Ck d c3 g c)(a9:F b=g)(e2:g<=200)(b4:∀l∈b,-1000000000<=l.num/\l.num<=1000000000)(o:∀k∈c,0<=k/\k<=99)(b5:2<=h)(b6:h<=32)(c8:2<=i)(c9:i<=16):C_ 217 #[V c0 g c1,V c3 g d4,I i,I h] d λe a=>∃l,e=ZI l/\ZqR a (B d.1) l (Fb b c i h)/\E_ d a:=by
 have⟨c4,c5⟩:=Y_ x a3;have t:=K_ a9 a3.1;have a5:=K_ b4 o;clear x a3 a9 b4 o;refine dl_ ?_;go_enter func217,ntmps217;go_wp2_with fail
 go_loopw [15,9,10] (λe j m f=>∃a:H,e=I a/\a<=g/\K (Ad f (B d.1+1) j ((Bd (ZU a b) (ZU a c)).map Prod.fst)/\Ad f (B d.1+1) m ((Bd (ZU a b) (ZU a c)).map Prod.snd)/\Bl j m)/\Below (B d.1+1) (ZN d (O_ #[ZR ZZ,N_,N_] 170)) f) (λe _ _ _=>g-ZL (ZA e))
 case atStart=>exact⟨0,X,v_,⟨Ad.nil,Ad.nil,ZM X⟩,y_⟩
 obtain⟨a,rfl,v,f,n⟩:=hrel;have d2:=n.size;simp at d2
 by_cases b3:a<g
 ·have b2:a<F b:=t.1 ▸ b3;obtain⟨y,rfl,a2,a7,S,W⟩:=c4.at b2;rcases c5.out with⟨_,_,c7|⟨R,b7,rfl,d0,b1⟩⟩;omega;have u:=r_.T (n.m O);have a6:=(u.cell (p:=(J y (a*3))) a2).T a7;have P:=(u.cell (p:=(J y (a*3+1))) a2).T S;have Q:=(u.cell (p:=(J y (a*3+2))) a2).T W;have a8:=(u.cell (p:=(J R (b7+a))) d0).T (b1 a b3);have d1:a<F c:=O;have j:=Wu (ZU a b) (ZU a c) (Z b a Ax) (Z c a 0) w_;rw[<- qn b2,<- Ze8 d1] at j;have a0:=Ki (ZU a b) (ZU a c);have d7:F (Bd (ZU a b) (ZU a c))<=200:=w_;clear a0 b1 a7 S W;generalize (Z b) a Ax=d5,Z c a 0=k at *;obtain⟨d6,q,a4⟩:=d5;simp only at a6 P Q j
  cases d6 with
  | true=>
   have N:K (Bd (ZU (a+1) b) (ZU (a+1) c)=Bd (ZU a b) (ZU a c)):=(by show _=_;rw[j];simp);clear j;have m:K (Ad (ZN wr (O_ #[ZR Z0,I q,Q_ a4] 308)) (B d.1+1) u9 ((Bd (ZU (a+1) b) (ZU (a+1) c)).map Prod.fst)/\Ad (ZN wr (O_ #[ZR Z0,I q,Q_ a4] 308)) (B d.1+1) u10 ((Bd (ZU (a+1) b) (ZU (a+1) c)).map Prod.snd)/\Bl u9 u10):=(by rw[N];exact⟨(f.1.alloc _),(f.2.1.alloc _),f.2.2⟩);clear f;refine J_ ?_;exact⟨a+1,g_,O,m,n.T (y_.alloc O _)⟩
  | false=>
   have N:K (Bd (ZU (a+1) b) (ZU (a+1) c)=Bd (ZU a b) (ZU a c)++[(q,k)]):=(by show _=_;rw[j];simp);clear j;generalize Bd (ZU a b) (ZU a c)=d8 at *;have⟨D,G,z⟩:=y3_ f.1 f.2.1 f.2.2;clear f;go_wp2_with (at_builtin;refine By X (.tmp 23) _ X _ _ _ q X ((D.alloc _).alloc _) _ 1 X ?_ ?_ ?_ ?_)
   ·simp[go_sem]
   simp;omega;simp;omega;intro b8 d9 r;have w:=r.2.1;have d3:=w.size;simp at d3;have⟨L,M⟩:=Y_ r.1 (Ad.kept ((G.alloc _).alloc _) w z.a)
   have A:=Y (Bl.b z ((G.alloc (O_ #[ZR ZZ,I q,Q_ a4] 308)).alloc (O_ #[I q] 3)) (by
    rcases r.out.2.2 with e|e
    exact ZM e
    exact ZJ (by simpa using e.1)))
   have b0:=((y_.alloc O _).alloc t_ _).grown w t_ (λa v=>(D.lt a v).1);have c6:=(b0.cell (p:=(J R (b7+a))) (by show R<_;omega)).T a8;clear r w D G z a8 a6 P Q;go_wp2_with (at_builtin;refine By X (.tmp 28) _ X _ _ _ k X (M.alloc _) _ 1 X ?_ ?_ ?_ ?_)
   ·simp[go_sem]
   simp;omega;simp;omega;intro b9 c2 s;have a1:=s.2.1
   have m:K (Ad c2 (B d.1+1) b8 ((Bd (ZU (a+1) b) (ZU (a+1) c)).map Prod.fst)/\Ad c2 (B d.1+1) b9 ((Bd (ZU (a+1) b) (ZU (a+1) c)).map Prod.snd)/\Bl b8 b9):=by
    rw[N];simp only[map_append,map_cons,map_nil];refine⟨Ad.kept (L.alloc _) a1 A.s.a,s.1,?_⟩
    exact(Bl.b A.s (L.alloc (O_ #[I k] 3)) (by
     rcases s.out.2.2 with e|e
     exact ZM e
     exact ZJ (by simpa using e.1))).s
   have e:=(y_.alloc O _).grown a1 t_ (λa v=>(M.lt a v).1);clear s a1 L M A c6;refine J_ ?_;exact⟨a+1,g_,O,m,n.T (b0.T e)⟩
 have e3:¬a<(g:E):=O;have a2:Bd (ZU a b) (ZU a c)=Bd b c:=(by rw[aI (p_ t.out),aI (p_ t.out)]);rw[a2] at f;have a0:=Ki b c;rw[t.1] at a0;obtain⟨a4,a6,_⟩:=f
 obtain⟨P,S,rfl,w,s,_⟩:=a4.e (λk o=>by
  obtain⟨p,j,rfl⟩:=mem_map.1 o;have⟨⟨l,x,e⟩,_⟩:=Ti b c p j
  have:=a5.1 l x;omega)
 obtain⟨Q,W,rfl,z,u,_⟩:=a6.e (λk o=>by
  obtain⟨p,j,rfl⟩:=mem_map.1 o;have⟨_,e⟩:=Ti b c p j
  have:=a5.2 _ e;omega)
 have a7:F ((Bd b c).map Prod.fst)=F (Bd b c):=s_;have a8:F ((Bd b c).map Prod.snd)=F (Bd b c):=s_;rw[a7] at w s ⊢;rw[a8] at z u ⊢;have L:=Y (zi Zo1 w z O s u b5 b6);have D:=Tg b5 b6 ((Bd b c).map Prod.fst) ((Bd b c).map Prod.snd) t_;have r:K (_/\_/\Fb b c i h=Bm _ _):=⟨D.1,D.2,X⟩;clear a4 a6 w z s u a7 a8 a2 D;generalize Dw h ((Bd b c).map Prod.fst) ((Bd b c).map Prod.snd)=b7,F (Bd b c)=e6 at *;go_wp2_with fail
 apply L.m;rintro e e8 ⟨e7,rfl,b1,A⟩;have e4:=A.size;obtain⟨d5,d6,rfl,M,d0,a1⟩:=b1.e (p_ r.2.1);have G:=Y (Zdw M r.1 a1 c8 c9);clear b1 M d0 a1 L;generalize (F b7)=e5 at *;go_wp2_with fail
 apply G.m;rintro e d3 ⟨b2,rfl,b0,R⟩;have N:=(A.m O).T (R.m O);have m:K (Ad d3 (B d.1) b2 (Fb b c i h)):=r.2.2 ▸ (b0.m O);have j:=((n.T N).block _ O).T hn_
 obtain⟨b9,c6,d1⟩:∃b8 c2,b2=ZH b8 (F (Fb b c i h)) c2:=by
  rcases m.out.2 with⟨rfl,c7⟩|⟨y,p,q,rfl,_⟩
  ·grind
  grind
 subst d1;have c7:=n_ 0 j;have d7:=n_ 1 j;have d8:=n_ 2 j;have d9:=R_ 0 _ _ j;have e0:=R_ 1 _ _ j;have e1:=R_ 2 _ _ j;have q:=Y j;clear b0 R A G j;generalize (F (Fb b c i h))=y at *;go_wp2;apply bodyPost_ret (v:=Y9 #[ZR ZZ,V b9 y c6,N_]) (by simp[results,results217,go_sem, *]) X;refine⟨_,X,⟨_,X,?_⟩,?_⟩;exact((Am (Am (Am m q C) (by exact ht_ _ _ _ _ q) C) (by exact ht_ _ _ _ _ (ht_ _ _ _ _ q)) C));exact(((Y (r_.T ((n.T N).m O))).setCell x_ _).setCell x_ _).setCell x_ _
end Go.Proofs.YtfcgnpchbcmdeaaGreat
