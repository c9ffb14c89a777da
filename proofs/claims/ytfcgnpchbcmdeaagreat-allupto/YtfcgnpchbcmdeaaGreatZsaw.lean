import Derived.Test.YtfcgnpchbcmdeaaGreatZsat
import Derived.Sort.KeysCollected
import Derived.Test.YtfcgnpchbcmdeaaGreatZsau
open _root_ renaming Int->E,ByteArray->ZC,rfl->X,List->U,Nat->H,Bool->ZG,Option->Y0,Nat->Z8,Array->YZ
open Array renaming toList->Y4,size->B,setIfInBounds->YS
open Bool renaming false->ZZ,true->Z0
open Go.Value renaming bool->ZR,int->ZX,agg->Y9,tuple->Y5,func->YX,ownBlock->ZW,slice->ZH,string->YW
open Decidable renaming decide->ZE
open Go.IntKind renaming i64->ZQ
open Go renaming World->ZT,Value->ZY,maxLen->Y2
open Go.World renaming alloc->ZN,ownsRow->ZD,grownBy->Y3,cell?->ZV,setCell->ZO,drew->YY
open Go.Ending renaming returned->ZI
open Go.Proofs.Tryz renaming prog->Y8
open List renaming length->F,getD->Z,take->ZU
open Option renaming some->T,none->ZP
open Or renaming inr->ZJ,inl->ZM
open Int renaming toNat->ZL
open ByteArray renaming size->ZK
open Go.Proofs renaming intOf->ZA
open Go.Obj renaming cells->YU
namespace Go.Proofs.YtfcgnpchbcmdeaaGreat
set_option linter.all false
set_option maxRecDepth 100000
set_option maxHeartbeats 8000000
open Go.RowKit Go.Lib Go.Sort List Nat Go.World Go.Proofs.Tryz Go.Value Go.IntKind Go.Lib Go.Region
structure WS where
 a:ZC
 g:E
abbrev Jx(a b:ZC):Prop:=Y4 a.data<Y4 b.data
def yi(a b:ZC):E:=if Jx a b then -1 else if Jx b a then 1 else 0
def Zec x a:C_ 343 #[Q_ x] a (V_ (ZR ZZ) a):=by refine er_ ?_;exact⟨s_,X⟩
def zk a b:Op.bytesLess a.toList b.toList=ZE (Jx a b):=by rw[bytesLess_eq,toList_data,toList_data];try rfl
def ZjW{a b}(c:¬Jx a b)(d:¬Jx b a):a=b:=by
 unfold Jx at c d;have:=List.le_antisymm (List.not_lt.1 d) (List.not_lt.1 c)
 cases a;cases b
 grind
def yj{a b g}:C_ 314 #[Q_ a,Q_ b] g (V_ (ZX ZQ (yi a b)) g):=by
 have j:=zk a b;have d:=Zec
 by_cases f:Jx a b
 ·have c:K (yi a b=_):=aD f;refine q_ ?_;go_wp2_with (go_at_call 343;apply (d _ _).m;rintro e h ⟨rfl,rfl⟩)
  go_ret;exact⟨by rw[c];rfl,X⟩
 have k:Op.bytesLess a.toList b.toList=ZZ:=w_
 by_cases i:Jx b a
 ·have c:K (yi a b=1):=(by show _=_;unfold yi;grind);have l:(a.toList==b.toList)=ZZ:=(by grind [toList_data]);refine q_ ?_;go_wp2_with (go_at_call 343;apply (d _ _).m;rintro e h ⟨rfl,rfl⟩)
  go_ret;exact⟨by rw[c];rfl,X⟩
 obtain rfl:=ZjW f i;have c:K (yi a a=0):=(by show _=_;unfold yi;grind);refine q_ ?_;go_wp2_with (go_at_call 343;apply (d _ _).m;rintro e h ⟨rfl,rfl⟩)
 go_ret;exact⟨by rw[c];rfl,X⟩
def Za5(x a:WS):E:=orI (compareInt a.g x.g) (yi x.a a.a)
def Yp{x f a}:C_ 265 #[Y9 #[Q_ x.a,I x.g],Y9 #[Q_ f.a,I f.g]] a λg c=>g=ZI (ZX ZQ (Za5 x f))/\Gr a c:=by
 have n:K (Za5 x f=orI _ _):=rfl;have l:K (∀b:_,Calls _ _ #[ZX _ f.g,ZX _ x.g] b λg _=>_):=λb=>Tryz.cmp_Compare_int _ _ b;have m:K (∀b:_,Calls _ _ #[Q_ x.a,Q_ f.a] b λg _=>_):=λb=>yj;obtain⟨h,i⟩:=x;obtain⟨j,k⟩:=f;simp only at n l m ⊢;generalize Za5 ⟨h,i⟩ ⟨j,k⟩=A,compareInt k i=u,yi h j=v at *;refine q_ ?_;go_upto_region 1 with fail;generalize e:ZN (ZN a (O_ #[Q_ h,I i] 358)) (O_ #[Q_ j,I k] 358)=d;have z:B d.1=B a.1+1+1:=(by rw[<- e];simp);have p:K (Gr a d):=(by show Gr _ _;rw[<- e];exact((Gr.refl).alloc _).alloc _);have q:D_ d (B a.1) 0 (Q_ h):=(by rw[<- e];simp[go_sem]);have r:D_ d (B a.1) 1 (I i):=(by rw[<- e];simp[go_sem]);have s:D_ d (B a.1+1) 0 (Q_ j):=by rw[<- e];simp[go_sem]
 have t:D_ d (B a.1+1) 1 (I k):=(by rw[<- e];simp[go_sem]);clear e z
 have o:K (∀b:ZT,D_ b (B d.1) 0 (I u)->D_ b (B d.1) 1 (I v)->C_ 192 #[L_ (B d.1) 2 2] b (V_ (ZX ZQ A) b)):=λb w y=>by rw[n];exact Zk2 w y
 go_region_held3 (λc=>D_ c (B a.1) 0 (Q_ h)/\D_ c (B a.1) 1 (I i)/\D_ c (B a.1+1) 0 (Q_ j)/\D_ c (B a.1+1) 1 (I k)) (exact⟨X_ q,X_ r,X_ s,X_ t⟩) (first|(go_at_call 151;apply (l _).m;rintro g c ⟨rfl,rfl⟩)|(go_at_call 314;apply (m _).m;rintro g c ⟨rfl,rfl⟩)|(go_at_call 192;apply (o _ (by simp[go_sem]) (by simp[go_sem])).m;rintro g c ⟨rfl,rfl⟩))
 go_wp2;go_ret;exact⟨X,(p.alloc _).drew⟩
def Sg(x:WS):U ZY:=[Q_ x.a,I x.g]
def w0W:WS:=⟨⟨#[]⟩,0⟩
theorem ltW x a:ltOf Za5 x a=ZE (a.g<x.g∨x.g=a.g/\Jx x.a a.a):=by
 obtain⟨b,c⟩:=x;obtain⟨d,e⟩:=a;unfold ltOf Za5 orI compareInt yi
 grind
def Zq5:SWO (ltOf Za5) where
  irrefl a:=by rw[ltW];simp
  trans a d e b c:=by grind [ltW]
  ntrans a d e b c:=by grind [ltW]
section
variable [Inhabited WS]
def ZjI{a b c d}:CmpLays Y8 265 #[] Sg 2 Za5 a b c d:=
 λ_ _ _ _ e f=>Yp
def Zit c e {a} b (g:HoldsK Sg 2 b c 0 a)(h:c<B b.1)(i:B a<4611686018427387904):C_ 264 #[L_ c (B a) e,YX (.func 265) #[] #[]] b λf l=>f=ZI (Y5 #[])/\∃d j k,PermIn 0 (B a) a d/\SortedIn (ltOf Za5) 0 (B a) d/\l=sortWorldK Sg 2 b c 0 j d k:=by exact AnyQ.slices_SortFunc Tryz.y 2 isAgg358 sizeOf358 _ (λ_=>X) (λj f d=>by simp[Sg] at d;rcases d with rfl|rfl<;>rfl) _ Zq5 _ _ _ 0 _ a b (enters_of func265 k_ X) (ZjI) g h i
def ZeU{c b a}:C_ 264 #[V c 0 b,YX (.func 265) #[] #[]] a (V_ (Y5 #[]) a):=AnyF.slices_SortFunc_none {Tryz.y with} c b _ a
end
def Jj:U WS->U ZY
 |[]=>[]
 |b::a=>Sg b++Jj a
def mh a:F (Jj a)=F a*2:=by
 induction a with
 |nil=>rfl
 |cons c a b=>simp[Jj,Sg,b];omega
theorem rz a b:Jj (a++b)=Jj a++Jj b:=by
 induction a with
 |nil=>rfl
 |cons d a c=>simp[Jj,c]
def Hb(d:ZT)(b:H)(c:ZY)(a:U WS):Prop:=ZD d b 358 2 c (F a) (Jj a)
def Wq b:∀a c,a<F b->c<2->(Jj b)[a*2+c]? =(Sg (Z b a w0W))[c]?:=by
 induction b with
 |nil=>grind
 | cons d b g=>
  intro a c e f
  cases a with
  |zero=>grind [Jj,Sg]
  | succ a=>
   grind [Jj,Sg]
section
variable [Inhabited WS]
theorem ZfR b:Y4 (Go.Sort.flatK Sg 2 b.toArray)=Jj b:=by
 apply ext_getElem?;intro a
 by_cases d:a<F b*2
 ·have c:=Wq b (a/2) (a%2) O O;rw[show a/2*2+a%2=a by omega] at c;rw[c,Array.getElem?_toList];simp only[Go.Sort.flatK]
  grind [Sg]
 rw[getElem?_eq_none t_,getElem?_eq_none (by rw[mh];omega)]
def ZbW{e g a f m os d b}(i:F b=F d)(k:Hb e g (L_ a (F d) f) d):Hb (Go.Proofs.sortWorldK Sg 2 e a 0 m b.toArray os) g (L_ a (F d) f) b/\Y3 e (Go.Proofs.sortWorldK Sg 2 e a 0 m b.toArray os) (T a):=by
 rcases k.2 with⟨c,_⟩|⟨u,t,j,c,l,h,w,n,o,x⟩
 simp at c;simp only[slice.injEq,Option.some.injEq,Addr.mk.injEq,and_true,true_and] at c;obtain⟨rfl,rfl⟩:=c;have v:B (Go.Sort.flatK Sg 2 b.toArray)=F d*2:=by simp[i]
 have p:(Go.Proofs.sortWorldK Sg 2 e a 0 m b.toArray os).1[a]? =T (O_ (Go.Sort.putCells id 0 (Go.Sort.flatK Sg 2 b.toArray) j) 358):=(by unfold Go.Proofs.sortWorldK Go.Sort.putRowK;rw[Go.Sort.heap_grow_old _ _ (by simpa using ((Qb h).1))];simp[Go.Sort.putRow,Go.Sort.mapBlock,Go.Sort.ahead,Array.getElem?_modify,h,Go.Sort.onCells]);refine⟨⟨by rw[mh],ZJ ⟨a,f,_,by simp[i],l,p,O,n,by simp[Go.Sort.putCells,o],?_⟩⟩,⟨X,X,X,?_,λs q r=>?_⟩⟩
 ·grind [ZfR,qm]
 unfold Go.Proofs.sortWorldK Go.Sort.putRowK;simp;unfold Go.Proofs.sortWorldK Go.Sort.putRowK;rw[Go.Sort.heap_grow_old _ _ (by simpa using q)];have:a≠s:=λc=>r (by rw[c]);simp[Go.Sort.putRow,Go.Sort.mapBlock,Go.Sort.ahead,Array.getElem?_modify,this]
def Zez{e f c g a}(d:Hb e f (L_ c (F a) g) a):Go.Sort.HoldsK Sg 2 e c 0 a.toArray:=by
 intro b h
 have i:b<F a*2:=by simpa using h
 refine⟨?_,?_⟩
 ·rw[Nat.zero_add,World.ownsRow.cellAt d b i,<- ZfR]
  grind
 rw[Nat.zero_add];exact World.ownsRow.frozenAt d b
end
abbrev leW(x a:WS):Prop:=¬(x.g<a.g∨a.g=x.g/\Jx a.a x.a)
def ZcC{d a h e}(g:Hb e h d a)(D:F a<=1000000):C_ 264 #[d,YX (.func 265) #[] #[]] e λc f=>c=ZI (Y5 #[])/\(∃b:U WS,b.Perm a/\b.Pairwise leW/\Hb f h d b)/\Y3 e f (ZW d):=by
 haveI:Inhabited WS:=⟨w0W⟩
 have i:=g
 rcases g.2 with⟨rfl,n⟩|⟨m,l,A,rfl,_,p,_⟩
 have c:=length_eq_zero_iff.1 n;subst c;apply (ZeU).m;rintro c f ⟨rfl,rfl⟩;exact⟨X,⟨[],List.Perm.refl _,Pairwise.nil,g⟩,Ay⟩;have k:=Zit m l e (Zez i) (Qb p).1 t_;rw[show B a.toArray=F a by simp] at k;apply k.m;rintro c f ⟨rfl,b,y,z,t,v,rfl⟩;obtain⟨u,_,G⟩:=t;have o:B b=F a:=(by rw[u];simp);have j:=ZbW (m:=y) (os:=z) O i;rw[show(Y4 b).toArray=b by simp] at j;refine⟨X,⟨Y4 b,?_,?_,?_⟩,j.2⟩
 ·have q:b.extract 0 (F a)=b:=by rw[<- o];simp
  grind
 ·rw[pairwise_iff_getElem];intro w x q s r;simp at q s;have:=v w x v_ r O;rw[ltW] at this
  grind
 grind
end Go.Proofs.YtfcgnpchbcmdeaaGreat
namespace Go.Proofs.YtfcgnpchbcmdeaaGreat
set_option linter.all false
set_option maxRecDepth 100000
set_option maxHeartbeats 8000000
open Go.RowKit Go.Maps List Nat Go.World Go.Proofs.Tryz Go.Value Go.IntKind Go.Lib Go.Region
def Tf(a:VS)(x:U UInt8):ZG:=!a.a&&ZE (Y4 a.f.data=x)
def Lk(b:U (VS×E))(x:U UInt8):E:=(b.map λa=>if Tf a.1 x=Z0 then a.2 else 0).sum
def Vm(b:U (VS×E))(x:U UInt8):ZG:=b.any λa=>Tf a.1 x
def qv b a x:Lk (b++[a]) x=Lk b x+(if Tf a.1 x=Z0 then a.2 else 0):=by simp[Lk]
def wu b a x:Vm (b++[a]) x=(Vm b x||Tf a.1 x):=by simp[Vm]
def ZlS{ps}(b:∀a∈ps,0<=a.2/\a.2<=99) x:0<=Lk ps x/\Lk ps x<=99*F ps:=by
 induction ps with
 |nil=>simp[Lk]
 | cons a g d=>
  have f:=d (λe c=>b e (by simp[c]))
  grind [Lk]
def Ny(b:DataW Unit)(c:U (VS×E)):Prop:=IsMap b/\∀a,has b (.string a)=Vm c a/\b.atKey (.string a) (.lit (.int ZQ 0))=.lit (.int ZQ (Lk c a))
def Ny.h:Ny (.map []) []:=⟨isMap_empty,λ_=>⟨X,X⟩⟩
def Ny.a{d e}(a:Ny d e){b:VS}{h}(g:b.a=Z0):Ny d (e++[(b,h)]):=by refine⟨a.1,λc=>?_⟩;have f:Tf b c=ZZ:=(by simp[Tf,g]);rw[wu,qv];simp[f,(a.2 c).1,(a.2 c).2]
def Ny.put{f e}(a:Ny f e){v:VS}{h}(g:v.a=ZZ):Ny (f.put (.string (Y4 v.f.data)) (.lit (.int ZQ (Lk e (Y4 v.f.data)+h)))) (e++[(v,h)]):=by
 refine⟨a.1.put _ _,λb=>?_⟩;rw[wu,qv]
 by_cases d:Y4 v.f.data=b
 have c:Tf v b=Z0:=(by simp[Tf,g,d]);subst d;rw[has_put_same a.1 (show WideAt.IsKeyLit (.string _) from trivial),atKey_put_same a.1 (show WideAt.IsKeyLit (.string _) from trivial)];simp[c];have c:Tf v b=ZZ:=(by simp[Tf,g,d]);rw[has_put_other w_,atKey_put_other w_];simp[c,(a.2 b).1,(a.2 b).2]
def Ys:U (VS×E)->U ZC
  |[]=>[]
  |b::a=>if b.1.a=Z0 then Ys a else if Vm a (Y4 b.1.f.data)=Z0 then Ys a else b.1.f::Ys a
theorem Ut a:∀e,a∈Ys e↔Vm e (Y4 a.data)=Z0
 |[]=>by simp[Ys,Vm]
 | c ::d=>by
  have i:=Ut a d;have g:Vm (c::d) (Y4 a.data)=(Tf c.1 (Y4 a.data)||Vm d (Y4 a.data)):=by simp[Vm]
  have h:Y4 c.1.f.data=Y4 a.data↔a=c.1.f:=by
   constructor
   ·intro b
    cases a;cases f:c.1.f
    rw[f] at b;simp at b;rw[b]
   intro b;rw[b]
  grind [Ys,Tf]
theorem Of:∀d,(Ys d).Nodup
 |[]=>nodup_nil
 |e::a=>by unfold Ys;split;exact Of a;split;exact Of a;rename_i b;exact nodup_cons.2 ⟨λc=>b ((Ut _ a).1 c),Of a⟩
def Nh(b:U (VS×E))(c:E):U WS:=((Ys b).map λa=>⟨a,Lk b (Y4 a.data)⟩).filter λd=>ZE (c<=d.g)
def Ra(a:U VS)(d:U E)(c b:E):ES:=⟨Z0,[],(ZU (ZL b) ((Nh (a.zip d) c).mergeSort λe f=>ZE (leW e f))).map WS.a⟩
def Ww{a b x}:x∈Nh a b↔Vm a (Y4 x.a.data)=Z0/\x.g=Lk a (Y4 x.a.data)/\b<=x.g:=by
 unfold Nh;rw[mem_filter,mem_map];constructor
 ·grind [Ut]
 rintro⟨c,d,e⟩;refine⟨⟨x.a,(Ut _ _).2 c,?_⟩,by simpa using e⟩;rw[<- d]
def Yq{b a}:(Nh b a).Nodup:=by grind [Nh,Of]
def uv{x a b}(c:leW x a)(d:leW a b):leW x b:=w_
theorem Yv{x a}(c:leW x a)(d:leW a x):x=a:=by
 unfold leW at *;simp only[not_or,not_and] at c d;have b:x.g=a.g:=O;have e:=ZjW (d.2 b) (c.2 b.s)
 cases x;cases a
 grind
def ZeW{a d c b}(k:c.Nodup)(j:∀x,x∈c↔Vm a (Y4 x.a.data)=Z0/\x.g=Lk a (Y4 x.a.data)/\d<=x.g)(l:b.Perm c)(m:b.Pairwise leW):b=(Nh a d).mergeSort λx g=>ZE (leW x g):=by refine List.Perm.eq_of_pairwise (le:=leW) (λh i _ _ e f=>Yv e f) m ((pairwise_mergeSort (le:=λx g=>ZE (leW x g)) (λh i n e f=>aF (uv (of_decide_eq_true e) (of_decide_eq_true f))) (λh i=>w_) (Nh a d)).imp λe=>of_decide_eq_true e) ((l.T ((perm_ext_iff_of_nodup k (Yq)).2 λx=>by rw[j,Ww])).T (mergeSort_perm _ _).s)
structure Ql(b:DataW Unit)(e:Lit->ZG)(d)(c:U WS):Prop where
 g:c.Nodup
 f:∀a:WS,a∈c↔(has b (.string (Y4 a.a.data))=Z0/\e (.string (Y4 a.a.data))=ZZ/\b.atKey (.string (Y4 a.a.data)) (.lit (.int ZQ 0))=.lit (.int ZQ a.g)/\d<=a.g)
def Ql.h a {b}:Ql a (has a) b []:=⟨nodup_nil,λc=>w_⟩
def Zlt a b:(Lit.string a).sameKey (.string b)=ZE (a=b):=by
 by_cases c:a=b
 subst c;simp[Lit.sameKey]
 grind [sameKey_ne]
def Ql.i{d g c e}(f:Ql d g c e){x b}(q:g (.string x)=Z0)(k:∀n,d.atKey (.string x) n=.lit (.int ZQ b)):Ql d (λa=>g a&&!a.sameKey (.string x)) c (if c<=b then e++[⟨⟨x.toArray⟩,b⟩] else e):=by
 have m:∀a:WS,(has d (.string (Y4 a.a.data))=Z0/\(g (.string (Y4 a.a.data))&&!(Lit.string (Y4 a.a.data)).sameKey (.string x))=ZZ/\d.atKey (.string (Y4 a.a.data)) (.lit (.int ZQ 0))=.lit (.int ZQ a.g)/\c<=a.g)↔(a∈e∨(Y4 a.a.data=x/\a.g=b/\c<=b)):=by
  intro a;rw[Zlt]
  by_cases i:Y4 a.a.data=x
  ·rw[i];simp only[(has_true_of_atKey k),k,decide_true,Bool.not_true,Bool.and_false,true_and]
   have j:a ∉ e:=λh=>by
    have:=((f.f a).1 h).2.1
    grind
   grind
  simp only[i,decide_false,Bool.not_false,Bool.and_true,false_and,or_false];exact(f.f a).s
 by_cases l:c<=b
 ·rw[aD l];refine⟨?_,λa=>?_⟩
  ·refine nodup_append.2 ⟨f.g,s_,λh i o j p=>?_⟩;simp only[mem_singleton] at j;have:=((f.f h).1 i).2.1
   grind
  rw[m a,mem_append,mem_singleton];constructor
  ·grind
  rintro(h|⟨i,j,_⟩);exact ZM h;right;obtain⟨⟨o⟩,p⟩:=a;simp only at i j;rw[<- i,j]
 rw[aC l];refine⟨f.g,λa=>?_⟩
 grind
def Ql.a{b f d c a}(g:Ql b f d c)(e:Ny b a)(h:∀i,f i=ZZ) x:x∈c↔Vm a (Y4 x.a.data)=Z0/\x.g=Lk a (Y4 x.a.data)/\d<=x.g:=by
 rw[g.f x,h,(e.2 _).1,(e.2 _).2]
 grind
def zv{g:ZT}{d a b}{c:ZY->Y0 (DataW Unit×U MemPlace)}(e:g.ownsMap Y8 9 c d a b):Maps.size b<=a:=by
 obtain⟨i,h,_,_,f,rfl⟩:=e;show F (foldr DataW.insert [] _)<=a;rw[length_sorted]
 simpa using f
def Zcr{d:ZT}{b c m h g i n l:H}{e k}{f:ZY->Y0 (DataW Unit×U MemPlace)}{a o}(j:d.ranges Y8 9 f b c m e k h)(v:ZD d g i n a l o):ZW a≠T c/\ZW a≠T b:=by
 obtain⟨s,r,A,z,q,u,p,x,t,w,y⟩:=j
 grind [Ac]
def Hb.P{c a b L}{x:WS}(d:ZD c a 358 2 b (F L+1) (Jj L++[Q_ x.a,I x.g])):Hb c a b (L++[x]):=by grind [Hb,rz,Jj,Sg]
def Hb.d{h f e a}(g:Hb h f e a):∃b c,e=ZH b (F a) c/\((b=ZP/\F a=0/\c=0)∨∃d,b=T ⟨d,0,ZP⟩/\F a<=c):=by
 rcases g.2 with⟨rfl,k⟩|⟨d,i,j,rfl,_,l,m,_⟩
 ·grind
 grind
def Hb.cells{c h g l j a}(d:Hb c h (L_ g l j) a){i}(f:i<F a):g<B c.1/\ZV c (J g (i*2))=T (Q_ (Z a i w0W).a)/\ZV c (J g (i*2+1))=T (I (Z a i w0W).g):=by
 have e:=d
 rcases d.2 with⟨b,_⟩|⟨o,m,n,b,_,k,_⟩
 ·cases b
 simp only[slice.injEq,Option.some.injEq,Addr.mk.injEq,and_true] at b;obtain⟨rfl,rfl,rfl⟩:=b;refine⟨(Qb k).1,?_,?_⟩;rw[World.ownsRow.cellAt e (i*2) O];have:=Wq a i 0 f O;rw[Nat.add_zero] at this;rw[this];rfl;rw[World.ownsRow.cellAt e (i*2+1) O,Wq a i 1 f O];rfl
def ZoN:(prog.info? 9).map (λa=>(a.zero,a.size,a.bytes))=T (T (Q_ ⟨#[]⟩),1,16):=k_
def Bj.b{g d b a}(f:Bj g d b a):∃c e,b=ZH c (F a) e:=by
 rcases f.2 with⟨rfl,k⟩|⟨j,h,i,rfl,_⟩
 ·grind
 grind
def Ze9{a:U WS}{b}(c:b<F a):ZU (b+1) a=ZU b a++[Z a b w0W]:=by grind [Qi]
def Bj.c{f c d e b}(a:Bj f d e b)(n:c<=d):Bj f c e b:=by
 obtain⟨k,l⟩:=a;refine⟨k,?_⟩
 rcases l with a|⟨j,g,h,i,o,m⟩
 exact ZM a;exact ZJ ⟨j,g,h,i,O,m⟩
def ZmY:Keyed Y8 9:=string_keyed underlying9
def Zqr{a}:(zeroValue 3).run Y8 a=.ok (I 0) a:=k_
def Zq8{f g:Type}(b:U f){c a}(h:a<F b)(i:a<F c) d (e:g):ZU (a+1) (b.zip c)=ZU a (b.zip c)++[(Z b a d,Z c a e)]:=by grind [Qi]
def nj{g4 g6} p {g5} k8 s {j} f {k} d (N:Ky d 0 (ZH g4 p g5) f)(g0:Ck d g6 p k)(j1:F f=p)(m2:p<=200)(k6:∀y∈k,0<=y/\y<=99)(k4:∀v∈f,ZK v.f<=8)(l5:2<=j)(l6:j<=16):C_ 211 #[ZH g4 p g5,ZH g6 p k8,ZX ZQ s,ZX ZQ j] d λo b=>∃v,o=ZI v/\Wf b (B d.1) v (Ra f k s j)/\Below (B d.1) d b:=by
 have⟨i5,i6⟩:=Y_ N g0;have a9:=K_ j1 g0.1;have⟨f0,i7⟩:=Y_ k6 k4;have m1:= @run_makeMap Y8;have⟨e,d3⟩:=W_ (ZN d (YU #[ZR ZZ,ZH ZP 0 0,ZH ZP 0 0] 170));have d2:B e.1=B d.1+1:=(by rw[d3];simp);have⟨b1,R⟩:=Y_ d2 d3;clear d2 d3;go_enter func211,ntmps211;go_wp2_with fail
 go_loopw [21] (λb c=>∃(a:Z8) (i:DataW Unit),b=ZX ZQ a/\a<=p/\K (c.ownsMap Y8 9 (plainElem Y8 3) (B d.1+1) a i/\Ny i (ZU a (f.zip k)))/\K (E_ e c)) (λb _=>p-ZL (ZA b))
 case atStart=>
  refine⟨0,.map _,X,v_,⟨?_,Ny.h⟩,?_⟩;have:=ownsMap_made (H:=Unit) e Y8 9 (plainElem Y8 3);rw[b1,R] at this;exact this;rw[R];exact r_
 obtain⟨a,i,rfl,b4,r,h⟩:=hrel;have k3:=h.size
 by_cases c8:a<p
 ·have W:a<F f:=a9.out.1 ▸ c8;have b7:a<F k:=a9.2 ▸ c8;obtain⟨d5,rfl,c6,a7,a8,b0⟩:=i5.at W;rcases i6.out with⟨_,_,M|⟨c3,c7,rfl,c5,b5⟩⟩;omega;have L:E_ d wr:=(by have m:E_ d e:=R ▸ r_;exact m.T (h.m (p_ b1.out)));have⟨a4,a5,a6,b2⟩:=k4_ L a7 a8 b0 (b5 a c8);have t:=Y (Zq8 f W b7 Ax 0);have a1:K (ZK (Z f a Ax).f<=8):=i7 _ w_;have a3:K (0<=Z k a 0/\_):=f0 _ w_;generalize (Z f) a Ax=n,Z k a 0=y at *;obtain⟨c1,z,g⟩:=n;simp only at a4 a5 a6
  cases c1 with
  | true=>
   have D:K ((ZN wr (YU #[ZR Z0,I z,YW g] 308)).ownsMap Y8 9 (plainElem Y8 3) (B d.1+1) (a+1) i/\Ny i (ZU (a+1) (f.zip k))):=(by rw[t];exact⟨(r.1.alloc _).m O,r.2.a X⟩);refine J_ ?_;exact⟨a+1,i,g_,O,D,h.T (y_.alloc O _)⟩
  | false=>
   go_upto_region 6 with fail;have b9:ZK g<=8:=a1.out;have l:keyOf _ 9 (YW g)=_:=WideMaps.keyOf_string_mk underlying9 (by unfold Y2;omega);have⟨q,o⟩:=W_ (ZN wr (YU #[ZR ZZ,I z,YW g] 308));have u:q.ownsMap Y8 9 (plainElem Y8 3) (B d.1+1) a i:=o ▸ (r.1.alloc _);have G:ZV q (J (B wr.1) 2)=T (YW g):=o ▸ (M_ 2 _ _ _ hn_);have x:E_ wr q:=o ▸ r_;have b3:=T_ x b2;rw[<- o];have⟨c,b8,A,_⟩:=(show(YY q).ownsMap Y8 9 (plainElem Y8 3) (B d.1+1) a i from u).lookup_int ZmY underlying355 underlying3 (Zqr) l
   have a2:c=Lk (ZU a (f.zip k)) (Y4 g.data):=by
    have m:=(r.2.2 (Y4 g.data)).2
    grind
   have Q:=ZlS (ps:=ZU a (f.zip _)) (λm b=>f0 _ (of_mem_zip (aL b)).2) (Y4 g.data);rw[<- a2] at Q;have b6:F (ZU a (f.zip k))<=200:=w_;have c0:=a3.out;have c9:_=c+y:=Au O O;have⟨a0,c4,P,S⟩:=(show(YY q).ownsMap Y8 9 (plainElem Y8 3) (B d.1+1) a i from u).update ZmY underlying355 (by unfold Y2;omega) l (plainElem_int (H:=Unit) underlying3 (show(Lit.int ZQ (c+y)).wf=Z0 by simp[Lit.wf,IntKind.min,IntKind.max,IntKind.bits,signed];omega));have D:K (a0.ownsMap Y8 9 (plainElem Y8 3) (B d.1+1) (a+1) (i.put (.string (Y4 g.data)) (.lit (.int ZQ (c+y))))/\Ny (i.put (.string (Y4 g.data)) (.lit (.int ZQ (c+y)))) (ZU (a+1) (f.zip k))):=by refine⟨P,?_⟩;rw[t,a2];exact r.2.put (v:=⟨ZZ,z,g⟩) X
   have c2:K (E_ e a0):=by have m:=h.T (x.m k3);have w:=m.drew;exact w.grown S w.size (λb hj=>by injection hj with hj;have:=b1.out;omega)
   clear u P S a2 Q b6 c0 A l o x r h t b9;refine Af (λb=>ZV b _=T _/\ZV b _=T _/\(Instr.lookup 355 _ _ _).run _ b=.ok _ b) 9 k_ ⟨G,b3,b8⟩ (λhHeld=>?_);refine G_ ?_;refine le_ ?_;go_wp2;go_roundw;case rel=>grind
   case measure=>exact z_
 have j7:a=p:=O;subst j7;have e5:=Y r.1;have h7:K (Ny i (f.zip k)):=(by have:=r.2;rwa [(aI (by rw[length_zip,a9.1,a9.2];omega))] at this);generalize wr=g7 at *;go_wp2_with (first|(at_range;apply wpList_range_own _ X _ _ X 9 3 ZmY underlying355 _ _ a i X e5;intro b k0 j5 d2)|go_in)
 try go_frame
 have⟨i2,h1,i4⟩:=y3_ k0 (h.grown j5 h.size (λb hj=>by cases hj)) (zv e5);go_loopw [12] (λc b=>∃(d4:Lit->ZG) (c4:Z8) (u:U WS),K (b.ranges Y8 9 (plainElem Y8 3) (B d.1+1) (B g7.1) a i d4 c4)/\K (Hb b (B e.1) c u)/\K (Ql i d4 s u)/\F u+c4<=a/\K (E_ e b)) (λ_ b=>b.rangeLeft (B d.1+1) (B g7.1))
 case atStart=>exact⟨_,_,[],i2,rn_,Ql.h i,by simpa using i4.out,h1⟩
 obtain⟨d4,c4,u,b0,Q,b8,j3,h⟩:=hrel;go_wp2_with (first|(at_next;refine wpList_next_ranges _ X _ X 9 ZmY _ _ _ (λc b6 b4=>by obtain⟨n,b,_⟩:=Maps.keyOf_str underlying9 b4;exact⟨n,b⟩) (λv g N=>by obtain⟨c,rfl,_⟩:=plainElem_int_inv underlying3 N;exact⟨c,X⟩) _ _ a i _ _ X b0 ?_ ?_)|go_in)
 ·intro l7 c9;have⟨h4,h8⟩:=Y_ (λn=>b8.a h7 c9 n) b8.g;have j0:F u<=200:=O;obtain⟨d7,a7,rfl,k2⟩:=Q.d;have e7:=Y k2;have e8:=ZcC Q O;have e0:=Y (λb hj=>(B_ Q b hj).1);have⟨q,b3⟩:=W_ (F u);have h5:=Y b3;rw[<- b3] at e7 e8 e0 j0 j3;rw[<- b3];clear b3;go_wp2_with fail
  apply e8.m;rintro o d8 ⟨rfl,⟨l,f9,k1,j9⟩,j6⟩;have h2:=Y (ZeW h8 h4 f9 k1);have e1:K (F l=q):=(by show _=_;rw[f9.length_eq,h5]);have⟨e3,a8⟩:=Y_ j9 (h.grown j6 h.size e0);obtain⟨c,f8⟩:∃c:Z8,c=min q (ZL j):=⟨_,X⟩;have z:=Y f8;clear f8;have b9:K (c<=q/\c<=j/\c<=200):=⟨p_ z.out,p_ z.out,p_ z.out⟩;have⟨b7,a4⟩:=W_ (ZN d8 (YU #[ZR Z0,ZH ZP 0 0,ZH ZP 0 0] 170));have e2:K (b7.1[B d8.1]? =T (YU #[ZR Z0,ZH ZP 0 0,ZH ZP 0 0] 170 (0,0))):=(by show _=_;rw[a4];exact hn_);have h9:K (Hb b7 (B e.1) (ZH d7 q a7) l):=(by show Hb _ _ _ _;rw[a4];exact ra_ e3 _);have h0:K (E_ e b7):=(by show Below _ _ _;rw[a4];exact a8.alloc a8.size _);have f7:=a8.size;go_upto_region 16 with fail;rw[<- a4];clear a4 e3 a8
  go_cut [63,64,65] (λv b g m=>g=ZX ZQ 0/\∃d6 g2,v=ZH d6 c g2/\b=ZX ZQ (c:Z8)/\K (0<c->∃w,d6=T ⟨w,0,ZP⟩/\d7=T ⟨w,0,ZP⟩)/\m=b7)
  case first=>
   rcases e7.out with⟨rfl,M,rfl⟩|⟨w,rfl,x⟩
   ·subst M;have b:c=0:=p_ b9.out;subst b;have t:¬j<0:=O;have g:min 0 j=0:=O;go_wp2;go_meet
    grind
   by_cases A:(q:E)<=j
   ·have b:c=q:=p_ z.out;subst b;have t:¬j<c:=O;have g:min (c:E) j=c:=O;have m:0<=(c:E):=O;have n:c<=(a7:E):=O;go_wp2;go_meet
    exact⟨X,_,_,X,X,λ_=>⟨w,X,X⟩,X⟩
   have b:c=j:=p_ z.out;have g:min (q:E) j=c:=O;have m:0<=(c:E):=O;have n:c<=(a7:E):=O;subst b;go_wp2;go_meet
   exact⟨X,_,_,X,X,λ_=>⟨w,X,X⟩,X⟩
  obtain⟨rfl,d6,g2,rfl,rfl,i3,k5⟩:=hcut;obtain rfl:=k5.s;have i1:K (e.1[B d.1]? =T (YU #[ZR ZZ,ZH ZP 0 0,ZH ZP 0 0] 170 (0,0))):=(by show _=_;rw[R];exact ha_ d _);have c9:B d.1<B e.1:=p_ b1.out;have⟨a0,f5⟩:=W_ (B d8.1);rw[<- f5] at e2 f7 ⊢;clear f5;go_wp2_with fail
  go_loopw [65] (λm g=>∃(b:Z8) (b6:ZY),m=ZX ZQ b/\b<=c/\K (g.1[a0]? =T (YU #[ZR Z0,ZH ZP 0 0,b6] 170 (0,0)))/\K (Bj g (B e.1) b6 ((ZU b l).map WS.a))/\K (Hb g (B e.1) (ZH d7 q a7) l)/\K (E_ e g)) (λm _=>c-ZL (ZA m))
  case atStart=>exact⟨0,_,X,v_,e2,rn_,h9,h0⟩
  obtain⟨b,b6,rfl,hj,P,c1,c0,h⟩:=hrel;have j4:=(Qb P).1
  by_cases l9:b<c
  ·obtain⟨w,rfl,rfl⟩:=i3 O;have f6:b<F l:=(by rw[e1];have:=b9.out;omega);have⟨l8,g8,g9⟩:=c0.cells f6;have a3:F ((ZU b l).map WS.a)=b:=w_;obtain⟨A,D,rfl⟩:=c1.b;have⟨c2,e9⟩:=Y_ c1 (Ze9 f6);have G:=n_ 2 P;rw[a3] at c2 G;generalize (Z l) b w0W=n at *;obtain⟨g,k9⟩:=n;simp only at g8 g9;have m0:b<=200:=p_ b9.out;have⟨t,a5⟩:=W_ (ZN wr (YU #[YW g,I k9] 358));have M:E_ wr t:=a5 ▸ r_;have m4:ZV t (J (B wr.1) 0)=T (YW g):=a5 ▸ (M_ 0 _ _ _ hn_);have l3:=T_ M G;have h3:K (t.1[a0]? =T (YU #[ZR Z0,ZH ZP 0 0,ZH A b D] 170 (0,0))):=(by have:=P.out;rw[a3] at this;exact(M.block _ j4).T this);have e4:K (Bj t (B e.1) (ZH A b D) ((ZU b l).map WS.a)):=by have m:=c2.out;exact m.q M
   have i0:K (Hb _ _ _ _):=(Aa.a (S:=λ_=>False) M).M c0 (λ_ _=>id);have d9:=Y (h.T (M.m h.size));have m3:B wr.1<B t.1:=(by rw[a5];simp);go_upto_region 19 with fail;rw[<- a5];clear a5 M g8 g9 G P c2 c1 c0 h
   have d1:ZD t (B e.1) 9 1 (ZH A b D) b (((ZU b l).map WS.a).map YW):=by
    have m:=e4.out;unfold Bj at m
    grind
   have⟨c3,c7⟩:=W_ ((ZU b l).map WS.a);have i9:K ((ZU (b+1) l).map WS.a=c3++[g]):=(by show _=_;rw[e9,map_append,c7];rfl);rw[<- c7] at d1 a3;have⟨h6,e6⟩:=Y_ a3 d1;clear d1 a3 c7 e9 e4;go_wp2_with (at_builtin;refine ap_ [YW g] (ra_ e6 _) ?_)
   rintro g3 x ⟨b5,L,f2,_,_⟩;have c5:Bj x (B e.1) g3 (c3++[g]):=(by unfold Bj;rw[Qe,h6,map_append];exact b5);obtain⟨S,W,rfl⟩:=c5.b;have⟨a6,j8⟩:=W_ (F (c3++[g]));rw[<- j8] at b5 f2 c5 ⊢;have⟨k7,g1⟩:=W_ (ZN t (YU #[YW g] 9));rw[<- g1] at L f2;have b2:E_ t k7:=g1 ▸ r_;have f1:=(Aa.refl _ _).grown L (λa b4 _=>b4);have f3:=(b2.block _ O).T h3;have c6:=(Aa.a (S:=λ_=>False) b2).M e6 (λ_ _=>id);have f4:Hb _ _ _ _:=(Aa.a (S:=λ_=>False) b2).M i0 (λ_ _=>id);have a1:=f1.g f3 (λo=>Ag c6 o f3 C X)
   have j2:Hb x (B e.1) (L_ w q a7) l:=f1.M f4 (λd5 d0 o=>by
    have⟨m,a2⟩:=Ac f4 d0
    exact Ag c6 o a2 C X)
   have l4:=n_ 2 a1;have m5:=R_ 2 _ _ a1;have l0:K ((ZO x _ _).1[a0]? =T (YU #[_,_,(ZH S a6 W)] 170 _)):=ht_ 2 _ _ _ a1;have l2:K (Bj (ZO x (J a0 2) (ZH S a6 W)) (B e.1) (ZH S a6 W) ((ZU (b+1) l).map WS.a)):=(by rw[i9];exact Am c5 a1 C);have l1:K (Hb (ZO x ⟨_,2,_⟩ (ZH S a6 W)) _ _ _):=Am j2 a1 C;have a2:K (E_ e (ZO x (J a0 2) (ZH S a6 W))):=by have m:=d9.T (b2.m d9.size);exact(m.grown L m.size (λd5 d0=>(B_ c6 d5 d0).1)).setCell f7 _
   go_wp2;go_roundw;case rel=>grind
   case measure=>exact z_
  have M:b=c:=O;subst M
  have a2:(ZU b l).map WS.a=(Ra f k s j).c:=by
   show _=(ZU (ZL j) ((Nh (f.zip k) s).mergeSort λn g=>ZE (leW n g))).map WS.a;rw[<- h2];congr 1;have m:=z.out;have w:=e1.out
   grind
  have w:K (Bj wr (B e.1) b6 (Ra f k s j).c):=w_;obtain⟨A,D,rfl⟩:=w.b;have t:=P.out;have S:=n_ 0 t;have W:=n_ 1 t;have G:=n_ 2 t;have g:=(h.block _ c9).T i1;have n:=Y g;have a3:=n_ 0 g;have a5:=n_ 1 g;have a6:=n_ 2 g;have b2:=R_ 0 _ _ g;have b5:=R_ 1 _ _ g;have c2:=R_ 2 _ _ g;generalize a1:F (Ra f k s j).c=x at *;go_wp2;apply bodyPost_ret (v:=Y9 #[ZR Z0,ZH ZP 0 0,ZH A x D]) (by simp[results,results211,go_sem, *]) X;have L:E_ d wr:=by have m:E_ d e:=R ▸ r_;exact m.T (h.m O)
  refine⟨_,X,⟨ZH ZP 0 0,ZH A x D,X,rn_,?_⟩,((L.setCell x_ _).setCell x_ _).setCell x_ _⟩;exact Am (Am (Am (w.c O) n C) (by exact ht_ _ _ _ _ n) C) (by exact ht_ _ _ _ _ (ht_ _ _ _ _ n)) C
 intro n c b6 b9 c3 q P l a1 N A a5 a3 G b2 c0;obtain⟨b7,W,rfl,c2⟩:=Maps.keyOf_str underlying9 l;obtain rfl:n=b7:=encStr_inj W;have⟨a8,S,a6,_⟩:=plainElem_int_inv underlying3 N;obtain rfl:c=a8:=(by injection S);have b3:b9=.lit (.int ZQ c):=(by injection a6);subst b3;have m:=b8.i a1 A;have z:=Y a5;have w:K (Hb _ _ _ _):=World.ownsRow.kept Q G (ZJ (Zcr b0 Q).1);have⟨g,t⟩:=Y_ (h.grown G h.size (λb hj=>w_)) a3;clear b2 a5 G l N A a1 W S a6 a3
 by_cases a0:s<=c
 ·rw[aD a0] at m;have D:=Y m;have c1:=g.size;go_wp2_with (at_builtin;refine ap_ [encStr n,I c] (ra_ w _) ?_ (h1:=by intro o b;simp at b;rcases b with rfl|rfl<;>rfl))
  rintro g3 x ⟨b5,L,_⟩;have a7:K (Hb _ _ _ (_++[⟨_,c⟩])):=Hb.P b5;have a4:=Zcr z w;have⟨M,a2⟩:=Y_ ((z.alloc _).kept L (λo=>a4.2 o.s) (λo=>a4.1 o.s)) ((g.alloc g.size _).grown L (by have:=g.size;simp;omega) (λb hj=>(B_ w b hj).1));go_wp2;go_roundw;case rel=>exact⟨_,P,_,M,a7,D,by rw[Qe];have:=t.out;simp;omega,a2⟩
  case measure=>rw[M.left_eq,b0.left_eq];exact t
 rw[aC a0] at m;have D:=Y m;go_wp2;go_roundw;case rel=>exact⟨_,P,u,z,w,D,p_ t.out,g⟩
 case measure=>rw[z.left_eq,b0.left_eq];exact t
end Go.Proofs.YtfcgnpchbcmdeaaGreat
namespace Go.Proofs.YtfcgnpchbcmdeaaGreat
set_option linter.all false
set_option maxRecDepth 100000
set_option maxHeartbeats 8000000
open Go.RowKit List Nat Go.World Go.Proofs.Tryz Go.Value Go.IntKind Go.Lib Go.Region
def La{h e:ZT}{a i f k b m u n':H}{l:YZ ZY}{g d:ZY}{x r:U ZY}(n:H_ h a l f)(s:ZD h k b m g u x)(o:Y3 h e (ZW g))(v:ZD e k b m d n' r)(q:b≠f):e.1[a]? =T (O_ l f)/\(ZO e (J a i) d).1[a]? =T (O_ (YS l i d) f)/\ZD (ZO e (J a i) d) k b m d n' r/\Aa (λc=>c=a∨ZW g=T c) h (ZO e (J a i) d):=by have w:Aa (λc=>c=a∨_) _ _:=(Aa.refl _ _).grown o (λt c _=>ZJ c);have j:H_ _ a _ _:=((Aa.refl _ _).grown o (λt c _=>c)).g (S:=λc=>ZW g=T c) n (λb=>Ag s b n q X);exact⟨j,hs_ _ a i _ _ _ j,Am v j q,w.setCell (p:=(J a i)) (λ_=>ZM X) _⟩
def Hr{c:Type}(a:Cu×c->Cu×c)(b:Cu×c):H->Cu×c
 |0=>b
 |d+1=>if(Hr a b d).1.z then Hr a b d else a (Hr a b d)
def Ld{a:Type}{f:Cu×a->Cu×a}{s:Cu×a}{k:H}(b:(Hr f s k).1.z=ZZ):Hr f s (k+1)=f (Hr f s k):=aC (by rw[b];decide)
def Yr{e:Type}{b:Cu×e->Cu×e}{d:Cu×e}{c a:H}(f:(Hr b d c).1.z=Z0)(g:c<=a):Hr b d a=Hr b d c:=by
 induction a with
 |zero=>grind
 | succ a h=>
  grind [Hr]
end Go.Proofs.YtfcgnpchbcmdeaaGreat
