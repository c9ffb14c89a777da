import Derived.Shelf.SlSortCmp.NoneTotal
import Derived.Test.YtfcgnpchbcmdeaaGreatZoal
namespace Go.Proofs.YtfcgnpchbcmdeaaGreat
set_option linter.all false
set_option maxRecDepth 100000
set_option maxHeartbeats 4000000
open Go.Shelf Go.RowKit Go.Lib Go.Sort List Nat World Go.Proofs.Tryz Value IntKind Lib Region
def Zg9:Go.Shelf.Ren:=⟨fun|6=>81|15=>150|14=>149|28=>201|29=>202|20=>193|21=>194|22=>195|23=>196|24=>197|25=>198|26=>199|27=>200|46=>247|47=>248|48=>249|49=>250|50=>251|57=>293|a=>a,fun|22=>29|24=>98|25=>146|3=>3|39=>243|0=>0|53=>185|55=>306|4=>4|46=>299|45=>298|50=>238|5=>5|9=>9|66=>342|70=>346|76=>374|77=>294|a=>a,λa=>a⟩
def ZoE:SlLaysF0.n6 prog Zg9:={
 mixed:=k_,
 f6:=⟨f81.name,C,func81.T (congrArg some k_)⟩,
 f14:=⟨f149.name,C,func149.T (congrArg some k_)⟩,
 f15:=func150.T (congrArg some k_),
 f20:=⟨f193.name,C,func193.T (congrArg some k_)⟩,
 f21:=⟨f194.name,C,func194.T (congrArg some k_)⟩,
 f22:=⟨f195.name,C,func195.T (congrArg some k_)⟩,
 f23:=⟨f196.name,C,func196.T (congrArg some k_)⟩,
 f24:=⟨f197.name,C,func197.T (congrArg some k_)⟩,
 f25:=⟨f198.name,C,func198.T (congrArg some k_)⟩,
 f26:=⟨f199.name,C,func199.T (congrArg some k_)⟩,
 f27:=⟨f200.name,C,func200.T (congrArg some k_)⟩,
 f28:=func201.T (congrArg some k_),
 f29:=func202.T (congrArg some k_),
 f46:=⟨f247.name,C,func247.T (congrArg some k_)⟩,
 f47:=func248.T (congrArg some k_),
 f48:=func249.T (congrArg some k_),
 f49:=⟨f250.name,C,func250.T (congrArg some k_)⟩,
 f50:=⟨f251.name,C,func251.T (congrArg some k_)⟩,
 f57:=⟨f293.name,C,func293.T (congrArg some k_)⟩,
 t0:=underlying0,
 a0:=isAgg0,
 z0:=sizeOf0,
 v0:=zeroValue0,
 t3:=underlying3,
 a3:=isAgg3,
 z3:=sizeOf3,
 v3:=zeroValue3,
 t4:=underlying4,
 a4:=isAgg4,
 z4:=sizeOf4,
 v4:=zeroValue4,
 t5:=underlying5,
 a5:=isAgg5,
 z5:=sizeOf5,
 v5:=zeroValue5,
 t9:=underlying9,
 a9:=isAgg9,
 z9:=sizeOf9,
 v9:=zeroValue9,
 t22:=underlying29,
 a22:=isAgg29,
 z22:=sizeOf29,
 v22:=zeroValue29,
 t25:=underlying146,
 a25:=isAgg146,
 z25:=sizeOf146,
 v25:=zeroValue146,
 t39:=underlying243,
 a39:=isAgg243,
 z39:=sizeOf243,
 v39:=zeroValue243,
 t45:=underlying298,
 a45:=isAgg298,
 z45:=sizeOf298,
 v45:=zeroValue298,
 t46:=underlying299,
 a46:=isAgg299,
 z46:=sizeOf299,
 v46:=zeroValue299,
 t50:=underlying238,
 a50:=isAgg238,
 z50:=sizeOf238,
 v50:=zeroValue238,
 t53:=underlying185,
 a53:=isAgg185,
 z53:=sizeOf185,
 v53:=zeroValue185,
 t55:=underlying306,
 a55:=isAgg306,
 z55:=sizeOf306,
 v55:=zeroValue306,
 t66:=underlying342,
 a66:=isAgg342,
 z66:=sizeOf342,
 v66:=zeroValue342,
 t70:=underlying346,
 a70:=isAgg346,
 z70:=sizeOf346,
 v70:=zeroValue346,
 t76:=underlying374,
 a76:=isAgg374,
 z76:=sizeOf374,
 v76:=zeroValue374,
 t77:=underlying294,
 a77:=isAgg294,
 z77:=sizeOf294,
 v77:=zeroValue294}
def et(x:Int×Int):List Value:=[I x.1,I 0,I 0,I x.2]
def Zaf x b c:C_ 151 #[I x,I b] c (V_ (.int .i64 (compareInt x b)) c):=by
 unfold compareInt
 rcases Int.lt_trichotomy x b with a|a|a
 ·rw[aD a];refine v_ ?_;go_wp2
  all_goals go_ret
  all_goals exact⟨rfl,rfl⟩
 ·subst a;rw[aC (Int.lt_irrefl _),aC (Int.lt_irrefl _)];refine v_ ?_;go_wp2
  all_goals go_ret
  all_goals exact⟨rfl,rfl⟩
 have d:¬x<b:=O;rw[aC d,aD a];refine v_ ?_;go_wp2
 all_goals go_ret
 all_goals exact⟨rfl,rfl⟩
def zw(x a:Int×Int) b:C_ 82 #[.agg #[I x.1,I 0,I 0,I x.2],.agg #[I a.1,I 0,I 0,I a.2]] b λc e=>c=.returned (.int .i64 (compareInt x.1 a.1))/\∃i h,e=grow (b.drewN i) h:=by
 have d:=λg=>Zaf x.1 a.1 g;generalize compareInt x.1 a.1=j at d ⊢;have f:=Y d;refine v_ ?_;go_wp2_with (go_at_call 151;apply (f _).m;rintro c e ⟨rfl,rfl⟩)
 go_ret;exact⟨rfl,0,_,by rw[alloc_eq_grow,alloc_eq_grow,grow_grow];rfl⟩
def Zio c d e f:CmpLays prog 82 #[] et 4 (λa b=>compareInt a.1 b.1) c d e f:=
 λ_ _ _ _ a b=>zw a b _
def ZlH x a:ltOf (λx a:Int×Int=>compareInt x.1 a.1) x a=decide (x.1<a.1):=by
 unfold ltOf compareInt
 grind
def ZoI:SWO (ltOf λa b:Int×Int=>compareInt a.1 b.1) where
  irrefl a:=by rw[ZlH];simp
  trans a b e c d:=by rw[ZlH] at *;simp at *;omega
  ntrans a b e c d:=by rw[ZlH] at *;simp at *;omega
def Zka c f b a (h:HoldsK et 4 a c 0 b)(i:c<a.1.size)(j:b.size<4611686018427387904):C_ 81 #[L_ c b.size f,.func (.func 82) #[] #[]] a λg m=>g=.returned (.tuple #[])/\∃d k l,PermIn 0 b.size b d/\SortedIn (ltOf λe n:Int×Int=>compareInt e.1 n.1) 0 b.size d/\m=sortWorldK et 4 a c 0 k d l:=by have g:∀_ a,(callFunc 82 _).run _ a=_:=enters_of func82 k_ rfl;exact AnyQ.slices_SortFunc ZoE 4 isAgg98 sizeOf98 _ (λ_=>rfl) (λe k d=>by simp[et] at d;rcases d with rfl|rfl|rfl|rfl<;>rfl) _ ZoI _ _ _ 0 _ b a g (Zio _ 0 _ a) h i j
end Go.Proofs.YtfcgnpchbcmdeaaGreat
namespace Go.Proofs.YtfcgnpchbcmdeaaGreat
set_option linter.all false
set_option maxRecDepth 100000
set_option maxHeartbeats 4000000
open Go.RowKit List Nat World Go.Proofs.Tryz Value IntKind Lib Region
def ZiU a:replicate (a*4) (I 0)=flat (replicate a e0):=by
 induction a with
 |zero=>rfl
 | succ a b=>
  rw[replicate_succ,show(a+1)*4=a*4+4 by omega];show _=En e0++flat (replicate a e0);rw[<- b];rfl
theorem Zgq a:(madeCells #[I 0,I 0,I 0,I 0] (a*4)).toList=flat (replicate a e0):=by
 have b:(madeCells #[I 0,I 0,I 0,I 0] (a*4)).toList=replicate (a*4) (I 0):=by
  apply ext_getElem;simp[madeCells];intro d b c;simp[madeCells]
  grind
 rw[b,ZiU]
def Zf8{a b}{x:Cm}{d}(e:a.length=d) c:(flat (a++x::b)).set (d*4) (I c)=flat (a++⟨c,x.y,x.g,x.h⟩::b):=by have:=Xa (B:=b) (x:=x) e (show 0<4 by omega) (I c);rw[Nat.add_zero] at this;rw[this,Cq];rfl
def Sf(a:List (Int×Int))(b:Nat):List Cm:=(a.take b).map Kj++replicate (a.length-b) e0
def ZfZ a {b}(c:b<=a.length):(Sf a b).length=a.length:=by simp[Sf];omega
def te{b c a} d:(Ap b c)[a]=(Gj (b.getD a 0),Jx (c.getD a 0)):=by grind [Ap]
def Cn.below{e f b d g}(j:Cn e b d g)(c:E_ e f):Cn f b d g:=by
 obtain⟨k,l,a⟩:=j;refine⟨k,l,?_⟩
 rcases a with a|⟨h,q,i,o,m⟩
 exact .inl a;exact .inr ⟨h,q,i,Qh o c.size,λp n=>W_ c (m p n)⟩
def Zas b:∀a c,a<b.length->c<4->(flat b)[a*4+c]? =(En (b.getD a e0))[c]?:=by
 induction b with
 |nil=>grind
 | cons d b g=>
  intro a c e f
  cases a with
  |zero=>grind [flat,En]
  | succ a=>
   grind [flat,En]
theorem jr(b:List (Int×Int)):(Go.Sort.flatK et 4 b.toArray).toList=flat (b.map Kj):=by
 apply ext_getElem?;intro a
 by_cases f:a<b.length*4
 ·have c:=Zas (b.map Kj) (a/4) (a%4) t_ O;rw[show a/4*4+a%4=a by omega] at c;rw[c,Array.getElem?_toList];have e:a/4<b.length:=O;have d:(b.map Kj).getD (a/4) e0=Kj b[a/4]:=w_;rw[d];simp only[Go.Sort.flatK];rw[Array.getElem?_map];simp[f,e,et,En,Kj]
  grind
 rw[getElem?_eq_none t_,getElem?_eq_none (by rw[Es];simp;omega)]
theorem od b a (e:a.size<=b.size):(Go.Sort.putCells id 0 a b).toList.take a.size=a.toList:=by
 apply ext_getElem?;intro d
 by_cases c:d<a.size
 rw[getElem?_take_of_lt c,Array.getElem?_toList,Array.getElem?_toList];simp[Go.Sort.putCells,c,show d<b.size by omega]
 grind
def ZdC{e g a f m os}{d b:List (Int×Int)}(i:b.length=d.length)(k:Am e g (L_ a d.length f) (d.map Kj)):Am (Go.Proofs.sortWorldK et 4 e a 0 m b.toArray os) g (L_ a d.length f) (b.map Kj)/\e.grownBy (Go.Proofs.sortWorldK et 4 e a 0 m b.toArray os) (some a):=by
 rcases k.2 with⟨c,_⟩|⟨v,u,j,c,l,h,x,n,o,y⟩
 simp at c;simp only[slice.injEq,Option.some.injEq,Addr.mk.injEq,and_true] at c;obtain⟨rfl,_,rfl⟩:=c;have p:=(Qb h).1;have w:(Go.Sort.flatK et 4 b.toArray).size=d.length*4:=by simp[i]
 have q:(Go.Proofs.sortWorldK et 4 e a 0 m b.toArray os).1[a]? =some (O_ (Go.Sort.putCells id 0 (Go.Sort.flatK et 4 b.toArray) j) 98):=(by unfold Go.Proofs.sortWorldK Go.Sort.putRowK;rw[Go.Sort.heap_grow_old _ _ (by simpa using p)];simp[Go.Sort.putRow,Go.Sort.mapBlock,Go.Sort.ahead,Array.getElem?_modify,h,Go.Sort.onCells]);refine⟨⟨by rw[Es],.inr ⟨a,f,_,by simp[i],l,q,w_,n,by simp[Go.Sort.putCells,o],?_⟩⟩,⟨rfl,rfl,rfl,?_,λt r s=>?_⟩⟩
 ·grind [jr,od]
 unfold Go.Proofs.sortWorldK Go.Sort.putRowK;simp;unfold Go.Proofs.sortWorldK Go.Sort.putRowK;rw[Go.Sort.heap_grow_old _ _ (by simpa using r)];have:a≠t:=λc=>s (by rw[c]);simp[Go.Sort.putRow,Go.Sort.mapBlock,Go.Sort.ahead,Array.getElem?_modify,this]
def ZgH{d e b f}{a:List (Int×Int)}(h:Am d e (L_ b a.length f) (a.map Kj)):Go.Sort.HoldsK et 4 d b 0 a.toArray:=by
 intro c i
 have j:c<a.length*4:=by simpa using i
 have g:Am d e (L_ b (a.map Kj).length f) (a.map Kj):=by simpa using h
 refine⟨?_,?_⟩
 ·rw[Nat.zero_add,World.ownsRow.cellAt g c (by simpa using j),<- jr]
  grind
 rw[Nat.zero_add];exact World.ownsRow.frozenAt g c
def ZjB a0 a1 o b5 p wc c e d (B:Cn d a0 o c)(D:Cn d a1 p e)(c2:o<=2097152)(c3:p<=2097152):C_ 45 #[V a0 o b5,V a1 p wc] d λg l=>∃b n,g=.returned b/\Ef (Ap c e) n/\Am l d.1.size b (Bo 0 n)/\E_ d l:=by
 have x:=Kz c e;rw[B.1,D.1] at x;have⟨a,A⟩:=M_ (min o p);have b3:∀v:World,(Instr.makeSlice 29 (I a) (I a)).run prog v=.ok (L_ v.1.size a a) (v.alloc (O_ (madeCells #[I 0,I 0,I 0,I 0] (a*4)) 98)):=λ_=>mk_ 4;have⟨f,a8,a9⟩:=y3_ (x.T A.s) B D
 have E:K (Am (d.alloc (O_ (madeCells #[I 0,I 0,I 0,I 0] (a*4)) 98)) d.1.size (L_ d.1.size a a) (Sf (Ap c e) 0)):=by
  have:=ownsRow_lit (base:=d.1.size) (size:=4) (e:=98) d (madeCells #[I 0,I 0,I 0,I 0] (a*4)) a x_ m_ (size_madeCells _ _)
  grind [Zgq,Sf,Am]
 have c0:a<=o:=O;have c1:a<=p:=O;have a4:=Y A;clear B D x A;refine v_ ?_;go_upto_region 1 with fail;go_cut [5] (λb g=>b=.slice (some ⟨d.1.size,0,none⟩) a a/\g=d.alloc (.cells (madeCells #[.int .i64 0,.int .i64 0,.int .i64 0,.int .i64 0] (a*4)) 98))
 case first=>
  have b:min (o:Int) p=a:=p_ a4.out;go_wp2;go_meet
  grind
 obtain⟨rfl,rfl⟩:=hcut;clear b3;go_wp2_with fail
 go_loopw [15] (λg h=>∃b:Nat,b<=a/\g=.int .i64 b/\K (Am h d.1.size (.slice (some ⟨d.1.size,0,none⟩) a a) (Sf (Ap c e) b))/\E_ d h) (λg _=>a-(intOf g).toNat)
 exact⟨0,r_,rfl,E,q_⟩;clear E;obtain⟨b,b7,rfl,F,r⟩:=hrel
 by_cases b2:b<a
 ·have s:b<(Ap c e).length:=f ▸ b2;have t:Sf (Ap c e) b=((Ap c e).take b).map Kj++e0::replicate (a-(b+1)) e0:=(by unfold Sf;rw[f,show a-b=a-(b+1)+1 by omega,replicate_succ]);have m:(((Ap c e).take b).map Kj).length=b:=t_;have j:=F.out;have h:=ZfZ _ (show b<=(Ap c e).length by omega);rw[t] at j h;rw[f] at h;have⟨G,H,L,M,Z⟩:=j.at h.s m;have⟨w,k,i⟩:=y3_ j h.s m
  have u:K (Sf (Ap c e) (b+1)=((Ap c e).take b).map Kj++⟨Gj (c.getD b 0),0,0,Jx (e.getD b 0)⟩::replicate (a-(b+1)) e0):=show _=_ by unfold Sf;rw[f,Qi s,te _];simp[Kj]
  rcases a8.out with⟨N,P,n|⟨S,a5,rfl,y,n⟩⟩;omega;rcases a9.out with⟨Q,R,q|⟨T,a6,rfl,z,q⟩⟩;omega;have a2:=W_ r (n b O);have a3:=W_ r (q b O);simp only[e0] at G H L M;have U:=F_ b a;have W:b<(o:Int):=O;have X:b<(p:Int):=O;clear t m j h N P n Q R q s;generalize c.getD b 0=a7,e.getD b 0=b0 at *;go_wp2_with fail
  go_region_with (first|(go_at_call 79;apply (Zb _ _).m;rintro g l ⟨rfl,rfl⟩)|(go_at_call 80;apply (Wq _ _).m;rintro g l ⟨rfl,rfl⟩))
  all_goals go_wp2
  all_goals
   go_roundw
   case rel=>
    refine⟨b+1,O,g_,?_,?_⟩;rw[u];exact((((w.store k s_ (Zf8 i _)).store (k.T s_) s_ (Zl i _)).store (k.T s_) s_ (Zm i _)).store (k.T s_) s_ (Zn i _));exact((((r.setCell x_ _).setCell x_ _).setCell x_ _).setCell x_ _).drew
   exact z_
 have b8:b=a:=O;have j:Am wr d.1.size (L_ d.1.size (Ap c e).length a) ((Ap c e).map Kj):=(by have g:Sf (Ap c e) b=(Ap c e).map Kj:=(by unfold Sf;rw[aI (by rw[f];omega),f,show a-b=0 by omega];simp);rw[<- g,f];exact F);have b9:¬b<(a:Int):=O;have b4:=r.size;have Z:∀k∈Ap c e,_:=λk s=>(Jg s).1;have t:=Y Z;have X:=(B_ j d.1.size rfl).2
 have W:C_ 81 #[L_ d.1.size a a,.func (.func 82) #[] #[]] wr λg l=>g=.returned (.tuple #[])/\∃m:List (Int×Int),m.Perm (Ap c e)/\(m.Pairwise λk i=>k.1<=i.1)/\Am l d.1.size (L_ d.1.size m.length a) (m.map Kj)/\wr.grownBy l (some d.1.size):=by
  have n:=Zka _ a _ _ (ZgH j) X (by simp[f.out];omega);rw[show(Ap c e).toArray.size=a by simp[f.out]] at n;apply n.m;rintro g l ⟨rfl,h,P,Q,G,L,rfl⟩;obtain⟨H,_,R⟩:=G;have u:h.size=a:=(by rw[H];simp[f.out]);have q:h.toList.length=(Ap c e).length:=O;have i:=ZdC (m:=P) (os:=Q) q j;rw[show h.toList.toArray=h by simp] at i;refine⟨rfl,h.toList,?_,?_,?_,i.2⟩
  ·have w:h.extract 0 a=h:=by rw[<- u];simp
   grind
  ·rw[pairwise_iff_getElem];intro M N w z y;simp at w z;have:=L M N r_ y O;rw[ZlH] at this
   grind
  grind
 have a7:=Y W;clear j Z X W;go_wp2_with fail
 apply (show Calls _ _ _ _ _ from a7).m;rintro g c4 ⟨rfl,m,u,M,L,H⟩;have b0:m.length=a:=(by rw[u.length_eq,f]);have y:=r.grown H b4 (λi h=>by simp at h;omega);have w:=la _ a m _ _ L M (λk s=>t k (u.mem_iff.1 s)) O;rw[b0] at w;have⟨a3,a2⟩:=Z_ w u;clear w u M L H;go_wp2_with fail
 apply (show Calls _ _ _ _ _ from a3).m;rintro g c5 ⟨n,rfl,N,b6,P,Q⟩;have z:=y.grown Q y.size (λi h=>by simp at h;omega);have q:=N.n a2
 have R:∀k∈n,0<=k.2:=λk s=>by rw[q.h k s];exact Yo (λi h=>(t i h).1) _
 have S:Bv n<=1000000000000:=(by have T:=yk (ps:=Ap _ _) (λi h=>(t i h).1) q.e;have G:=Ub (ps:=Ap _ _) (λi h=>(t i h).2);rw[Ym q.h];rw[f] at G;omega);have a5:=Y q;have G:=ZjT _ a n _ _ P R S O;have a6:=Y G;clear G N P Q q R S;go_wp2_with fail
 apply (show Calls _ _ _ _ _ from a6).m;rintro g c6 ⟨rfl,T,U⟩;have b1:=z.grown U z.size (λi h=>by simp at h;omega);have h:=Y T;clear T U;go_wp2;go_ret;exact⟨_,n,rfl,a5,h,b1⟩
def ZbT i k e t g wc j l a (p:Cn a i e j)(q:Cn a k g l)(r:e<=2097152)(s:g<=2097152):C_ 19 #[V i e t,V k g wc] a λh f=>∃d b,h=.returned d/\Ef (Ap j l) b/\Am f a.1.size d (Bo 0 b)/\E_ a f:=by
 refine v_ ?_;go_wp2_with fail
 apply (ZjB _ _ _ _ _ _ _ _ a p q r s).m;rintro h f ⟨d,b,rfl,m,n,o⟩;have c:=x3_ m n o;go_wp2;go_ret;exact⟨_,b,rfl,c.1,c.2.1,c.2.2⟩
def Zny:ZhT:=λe j g f k wc h l i a b c d=>ZjB e j g f k wc h l i a b c d
def Kr(c:Bool)(a b:Nat):Nat:=if c=true then b else a
def Tm a e f b g c h d:C_ 169 #[.agg #[.bool a,V e b g,V f c h]] d (U_ (.int .i64 (Kr a b c:Nat)) d):=by
 cases a
 all_goals
  refine er_ ?_;exact⟨rfl,q_⟩
def dr c d e a f b g h (m:Kr c a b<=1000000):C_ 191 #[.agg #[.bool c,V d a f,V e b g]] h (U_ (.int .i64 ((Kr c a b:Nat)+1)) h):=by
 have i:=Y (λj=>Tm c d e a f b g j);generalize Kr c a b=n at *;refine v_ ?_;go_wp2_with fail
 apply (i _).m;rintro l o ⟨rfl,j⟩;have k:=q_.T (j.m s_);go_wp2;go_ret;exact⟨rfl,k⟩
def Fm c d e a f b g h (k:Kr c a b<=1000000):C_ 146 #[.agg #[.bool c,V d a f,V e b g]] h (U_ (.int .i64 ((Kr c a b:Nat)+2)) h):=by
 have i:=Y (λj=>dr _ d e _ f _ g j k);generalize Kr c a b=n at *;refine v_ ?_;go_wp2_with fail
 apply (i _).m;rintro m o ⟨rfl,j⟩;have l:=q_.T (j.m s_);go_wp2;go_ret;exact⟨by rw[Int.add_assoc];rfl,l⟩
def Ba:List VS->List Int->List (Int×Int)
 |[],_=>[]
 |_::_,[]=>[]
 |b::a,d::c=>if b.a=true then Ba a c else(b.num,d)::Ba a c
def Ey(a:List VS)(b:List Int)(c:Int)(d:Nat):List Int:=Bm (Ds d ((Ba a b).map Prod.fst) ((Ba a b).map Prod.snd)) c
def Kb:∀(a:List VS) (b:List Int),(Ba a b).length<=a.length
 |[],_=>by simp[Ba]
 |_::_,[]=>by simp[Ba]
 | c::a,d::b=>by
  have:=Kb a b
  grind [Ba]
def Sn:∀(a:List VS) (c:List Int),∀b∈Ba a c,(∃d∈a,d.num=b.1)/\b.2∈c
 |[],_=>by simp[Ba]
 |_::_,[]=>by simp[Ba]
 | d::a,g::c=>λb e=>by
  have f:=Sn a c b
  grind [Ba]
def Vs:∀(c:List VS) (e:List Int) (a:VS) (b:Int),c.length=e.length->Ba (c++[a]) (e++[b])=Ba c e++(if a.a=true then[] else[(a.num,b)])
 |[],[],a,b,_=>by simp only[Ba,nil_append]
 | f::c,g::e,a,b,d=>by
  have h:=Vs c _ a b (by simpa using d)
  grind [Ba]
 |[],g::e,a,b,d=>by simp at d
 |f::c,[],a,b,d=>by simp at d
def oe(a:List VS){b}(c:b<a.length):a.take (b+1)=a.take b++[a.getD b Aw]:=by grind [Qi]
def Zd7(a:List Int){b}(c:b<a.length):a.take (b+1)=a.take b++[a.getD b 0]:=by grind [Qi]
def Zky{a}(b: -1000000000000<=a)(c:a<=1000000000000):(Lit.int .i64 a).wf=true:=by simp[Lit.wf,IntKind.min,IntKind.max,IntKind.bits,signed];omega
theorem Ad.d{j k i b}(g:Ad j k i b)(d:∀a∈b,-1000000000000<=a/\a<=1000000000000):∃e f,i=.slice e b.length f/\Cn j e b.length b/\b.length<=f/\(e=none->f=0):=by
 have o:=g
 rcases g.2 with⟨rfl,h⟩|⟨n,l,s,rfl,_,p,q,_⟩
 exact⟨none,0,by rw[h],⟨rfl,λa c=>Zky (d a c).1 (d a c).2,.inl h⟩,O,λ_=>rfl⟩;refine⟨_,l,rfl,⟨rfl,λa c=>Zky (d a c).1 (d a c).2,.inr ⟨n,0,rfl,(Qb p).1,λr t=>?_⟩⟩,q,λm=>by cases m⟩;rw[Nat.zero_add,World.ownsRow.cellAt o r O]
 grind
def Zpa(e:World)(b:Nat)(d:Value)(c:List Int):Prop:=∃a,d=.agg #[.bool false,a,N_]/\Ad e b a c
def Ad.m{e b b' d a}(c:Ad e b' d a)(j:b<=b'):Ad e b d a:=by
 refine⟨c.1,?_⟩
 rcases c.2 with l|⟨i,f,g,h,k,m⟩
 exact .inl l;exact .inr ⟨i,f,g,h,aG j k,m⟩
def Al{b:World}{f d o n a j e:Nat}{p u q g}(c:b.ownsRow f d o p n q)(i:H_ b a g e)(l:d≠e):=
 ((Aa.refl (λm=>m=a) b).setCell (p:=(J a j)) (λ_=>rfl) u).row c (λ_ k h=>Ah c k i l h)
def Vl{a}(i:2<=a)(j:a<=32):∀e c b d,Gk c->Av c+1000*b.length<=1000000000000->b.length<=2097152->Gk (Dr a e c b d)/\Av (Dr a e c b d)<=Av c+1000*b.length
 |0,c,b,d,f,k,h=>⟨f,by simp only[Dr];omega⟩
 | e+1,c,b,d,f,k,h=>by
  simp only[Dr];split
  ·grind
  have g:=ic (vs:=b.take a) (ws:=d.take a) t_;have m:(b.take a).length+(b.drop a).length=b.length:=t_;have n:(b.take a).length<=a:=t_;have⟨l,q⟩:=Uc (size:=(a:Int)) O O f g.1 O O;have⟨o,p⟩:=Vl i j e _ (b.drop a) (d.drop a) l O O
  grind
def jv{b}(l:2<=b)(o:b<=32):∀c a,Gk c->Be a->a.length<=32->Ae a+Av c<=1000000000000->Be (Fq b a c)/\(Fq b a c).length<=32
 |[],a,d,f,j,m=>⟨f,j⟩
 |e::n,a,d,f,j,m=>by have k:Gk n:=⟨λh g=>d.j h (by simp[g]),λh g=>d.len h (by simp[g])⟩;have q:=Fv k.j;simp only[Av] at m;have i:=Hb f (d.j e s_) O;have p:=Ja (Bf a e) l;have r:Ae (Eo (Bf a e) b)=Ae a+Ae e:=(by rw[Gg,Fa]);simp only[Fq];exact jv l o n _ k (i.sub (Hz i _)) O O
def Sl{b}(g:2<=b)(h:b<=32) a c (f:a.length<=2097152):Be (Ds b a c)/\(Ds b a c).length<=32:=by have⟨d,e⟩:=Vl g h a.length [] a c Gk.nil (by simp[Av];omega) f;exact jv O O _ _ d Be.nil s_ (by simp[Ae,Av] at e ⊢;omega)
def ey b2 b5 (g b3 c6 h:Nat) i b c d (y:Kq d 0 (V b2 g b3) b)(U:Cn d b5 g c)(a1:b.length=g)(d4:g<=200)(a6:∀l∈b,-1000000000<=l.num/\l.num<=1000000000)(q:∀k∈c,0<=k/\k<=99)(a7:2<=h)(a8:h<=32)(c0:2<=i)(c1:i<=16):C_ 217 #[V b2 g b3,V b5 g c6,I i,I h] d λe a=>∃l,e=.returned l/\Zpa a d.1.size l (Ey b c i h)/\E_ d a:=by
 have⟨b6,b7⟩:=Z_ y U;have u:=T_ a1 U.1;have W:=T_ a6 q;clear y U a1 a6 q;refine dl_ ?_;go_enter func217,ntmps217;go_wp2_with fail
 go_loopw [15,9,10] (λe j m f=>∃a:Nat,e=I a/\a<=g/\K (Ad f (d.1.size+1) j ((Ba (b.take a) (c.take a)).map Prod.fst)/\Ad f (d.1.size+1) m ((Ba (b.take a) (c.take a)).map Prod.snd)/\Bl j m)/\Below (d.1.size+1) (d.alloc (O_ #[.bool false,N_,N_] 170)) f) (λe _ _ _=>g-(intOf e).toNat)
 case atStart=>exact⟨0,rfl,r_,⟨Ad.nil _ _,Ad.nil _ _,.inl rfl⟩,y_⟩
 obtain⟨a,rfl,w,f,n⟩:=hrel;have c4:=n.size;simp at c4
 by_cases a5:a<g
 ·have a4:a<b.length:=u.1 ▸ a5;obtain⟨z,rfl,T,Z,P,Q⟩:=b6.at a4;rcases b7.out with⟨_,_,b9|⟨N,a9,rfl,c2,a3⟩⟩;omega;have v:=q_.T (n.m O);have X:=(v.cell (p:=(J z (a*3))) T).T Z;have L:=(v.cell (p:=(J z (a*3+1))) T).T P;have M:=(v.cell (p:=(J z (a*3+2))) T).T Q;have a0:=(v.cell (p:=(J N (a9+a))) c2).T (a3 a a5);have c3:a<c.length:=O;have o:=Vs (b.take a) (c.take a) (b.getD a Aw) (c.getD a 0) w_;rw[<- oe b a4,<- Zd7 c c3] at o;have R:=Kb (b.take a) (c.take a);have c9:(Ba (b.take a) (c.take a)).length<=200:=w_;clear R a3 Z P Q;generalize b.getD a Aw=c7,c.getD a 0=k at *;obtain⟨c8,j,r⟩:=c7;simp only at X L M o
  cases c8 with
  | true=>
   have H:K (Ba (b.take (a+1)) (c.take (a+1))=Ba (b.take a) (c.take a)):=(by show _=_;rw[o];simp);clear o;have m:K (Ad (wr.alloc (O_ #[.bool true,I j,Q_ r] 308)) (d.1.size+1) u9 ((Ba (b.take (a+1)) (c.take (a+1))).map Prod.fst)/\Ad (wr.alloc (O_ #[.bool true,I j,Q_ r] 308)) (d.1.size+1) u10 ((Ba (b.take (a+1)) (c.take (a+1))).map Prod.snd)/\Bl u9 u10):=(by rw[H];exact⟨(f.1.alloc (O_ #[.bool true,I j,Q_ r] 308)),(f.2.1.alloc (O_ #[.bool true,I j,Q_ r] 308)),f.2.2⟩);clear f;refine J_ ?_;exact⟨a+1,g_,O,m,n.T (y_.alloc O _)⟩
  | false=>
   have H:K (Ba (b.take (a+1)) (c.take (a+1))=Ba (b.take a) (c.take a)++[(j,k)]):=(by show _=_;rw[o];simp);clear o;generalize Ba (b.take a) (c.take a)=d0 at *;have⟨D,E,A⟩:=y3_ f.1 f.2.1 f.2.2;clear f;go_wp2_with (at_builtin;refine Bx rfl (.tmp 23) _ rfl _ _ _ j rfl ((D.alloc _).alloc _) _ 1 rfl ?_ ?_ ?_ ?_)
   ·simp[go_sem]
   simp;omega;simp;omega;intro b0 d1 s;have x:=s.2.1;have c5:=x.size;simp at c5;have⟨F,G⟩:=Z_ s.1 (Ad.kept ((E.alloc _).alloc _) x A.a)
   have B:=Y (Bl.b A ((E.alloc (O_ #[.bool false,I j,Q_ r] 308)).alloc (O_ #[I j] 3)) (by
    rcases s.out.2.2 with e|e
    exact .inl e
    exact .inr (by simpa using e.1)))
   have a2:=((y_.alloc O _).alloc t_ _).grown x t_ (λa w=>(D.lt a w).1);have b8:=(a2.cell (p:=(J N (a9+a))) (by show N<_;omega)).T a0;clear s x D E A a0 X L M;go_wp2_with (at_builtin;refine Bx rfl (.tmp 28) _ rfl _ _ _ k rfl (G.alloc _) _ 1 rfl ?_ ?_ ?_ ?_)
   ·simp[go_sem]
   simp;omega;simp;omega;intro b1 b4 t;have S:=t.2.1
   have m:K (Ad b4 (d.1.size+1) b0 ((Ba (b.take (a+1)) (c.take (a+1))).map Prod.fst)/\Ad b4 (d.1.size+1) b1 ((Ba (b.take (a+1)) (c.take (a+1))).map Prod.snd)/\Bl b0 b1):=by
    rw[H];simp only[map_append,map_cons,map_nil];refine⟨Ad.kept (F.alloc _) S B.s.a,t.1,?_⟩
    exact(Bl.b B.s (F.alloc (O_ #[I k] 3)) (by
     rcases t.out.2.2 with e|e
     exact .inl e
     exact .inr (by simpa using e.1))).s
   have e:=(y_.alloc O _).grown S t_ (λa w=>(G.lt a w).1);clear t S F G B b8;refine J_ ?_;exact⟨a+1,g_,O,m,n.T (a2.T e)⟩
 have d5:¬a<(g:Int):=O;have T:Ba (b.take a) (c.take a)=Ba b c:=(by rw[aI (p_ u.out),aI (p_ u.out)]);rw[T] at f;have R:=Kb b c;rw[u.1] at R;obtain⟨X,Z,_⟩:=f
 obtain⟨L,P,rfl,v,s,_⟩:=X.d (λk q=>by
  obtain⟨p,j,rfl⟩:=mem_map.1 q;have⟨⟨l,y,e⟩,_⟩:=Sn b c p j
  have:=W.1 l y;omega)
 obtain⟨M,Q,rfl,x,t,_⟩:=Z.d (λk q=>by
  obtain⟨p,j,rfl⟩:=mem_map.1 q;have⟨_,e⟩:=Sn b c p j
  have:=W.2 _ e;omega)
 have a0:((Ba b c).map Prod.fst).length=(Ba b c).length:=s_;have a2:((Ba b c).map Prod.snd).length=(Ba b c).length:=s_;rw[a0] at v s ⊢;rw[a2] at x t ⊢;have E:=Y (wg Zny _ _ _ _ _ _ _ _ _ v x O s t a7 a8);have B:=Sl a7 a8 ((Ba b c).map Prod.fst) ((Ba b c).map Prod.snd) t_;have r:K (_/\_/\Ey b c i h=Bm _ _):=⟨B.1,B.2,rfl⟩;clear X Z v x s t a0 a2 T B;generalize Ds h ((Ba b c).map Prod.fst) ((Ba b c).map Prod.snd)=F,(Ba b c).length=d8 at *;go_wp2_with fail
 apply E.m;rintro e e0 ⟨d9,rfl,a4,A⟩;have d6:=A.size;obtain⟨c7,c8,rfl,G,c2,S⟩:=a4.d (p_ r.2.1);have D:=Y (ZcA _ F _ _ _ G r.1 S c0 c1);clear a4 G c2 S E;generalize F.length=d7 at *;go_wp2_with fail
 apply D.m;rintro e c5 ⟨a9,rfl,a3,N⟩;have H:=(A.m O).T (N.m O);have m:K (Ad c5 d.1.size a9 (Ey b c i h)):=r.2.2 ▸ (a3.m O);have j:=((n.T H).block _ O).T hn_
 obtain⟨b1,b8,c3⟩:∃b0 b4,a9=.slice b0 (Ey b c i h).length b4:=by
  rcases m.out.2 with⟨rfl,b9⟩|⟨z,p,o,rfl,_⟩
  ·grind
  grind
 subst c3;have b9:=n_ 0 j;have c9:=n_ 1 j;have d0:=n_ 2 j;have d1:=R_ 0 _ _ j;have d2:=R_ 1 _ _ j;have d3:=R_ 2 _ _ j;have o:=Y j;clear a3 N A D j;generalize (Ey b c i h).length=z at *;go_wp2;apply bodyPost_ret (v:=.agg #[.bool false,V b1 z b8,N_]) (by simp[results,results217,go_sem, *]) rfl;refine⟨_,rfl,⟨_,rfl,?_⟩,?_⟩;exact((Al (Al (Al m o C) (by exact ht_ _ _ _ _ o) C) (by exact ht_ _ _ _ _ (ht_ _ _ _ _ o)) C));exact(((Y (q_.T ((n.T H).m O))).setCell x_ _).setCell x_ _).setCell x_ _
end Go.Proofs.YtfcgnpchbcmdeaaGreat
