import Derived.Test.YtfcgnpchbcmdeaaGreatZsav
import Derived.Test.YtfcgnpchbcmdeaaGreatZsaw
open _root_ renaming Int->E,List->U,ByteArray->ZC,rfl->X,Nat->H,Bool->ZG,Option->Y0,Array->YZ
open Bool renaming true->Z0,false->ZZ
open Array renaming size->B,toList->Y4,setIfInBounds->YS
open Go renaming World->ZT,maxLen->Y2,strOfNums->ZB,Value->ZY,madeCells->YV
open Go.Ending renaming returned->ZI
open Go.Value renaming tuple->Y5,int->ZX,ownBlock->ZW,bool->ZR,string->YW,agg->Y9,slice->ZH,func->YX,pointer->Y7
open Go.World renaming alloc->ZN,ownsRow->ZD,cell?->ZV,frozen?->YT,setCell->ZO,grownBy->Y3,drew->YY
open Or renaming inr->ZJ,inl->ZM
open List renaming length->F,getD->Z,take->ZU,drop->ZF,replicate->Y6
open Option renaming some->T,none->ZP
open Go.IntKind renaming i64->ZQ
open Decidable renaming decide->ZE
open Int renaming toNat->ZL
open ByteArray renaming size->ZK
open Go.Proofs renaming intOf->ZA
open Go.Proofs.Tryz renaming prog->Y8
open Go.Obj renaming cells->YU
namespace Go.Proofs.YtfcgnpchbcmdeaaGreat
set_option linter.all false
set_option maxRecDepth 100000
set_option maxHeartbeats 16000000
open Go.RowKit List Nat Go.World Go.Proofs.Tryz Go.Value Go.IntKind Go.Lib Go.Region
def bdI(a:ES):U E:=if a.a=Z0 then[] else a.f
def bdS(a:ES):U ZC:=if a.a=Z0 then a.c else[]
structure ZpE(a b:ZT)(d e)(c):Prop where
 x:Ad b (B a.1) d (bdI c)
 z:Bj b (B a.1) e (bdS c)
 A:E_ a b
def ZqI(d:ZT)(c:ES)(x:Ending)(e:ZT):Prop:=∃a b,x=ZI (Y5 #[a,b])/\ZpE d e a b c
def Zjt{p:Prop}(h:p:=by
 go_wp2;go_ret2
 have d:=length_eq_zero_iff.1 j.2;have e:(ZN a (O_ #[] 9)).1[_]? =_:=hn_;have g:ZD (ZN a _) (B c.1) 9 1 _ 0 []:=⟨X,ZJ ⟨B a.1,0,#[],X,O,e,x_,C,X,X⟩⟩;refine⟨_,_,X,?_,?_,n.alloc O _⟩;rw[f.1];exact ownsRow_nil _ _ 3 1
 rw[f.2,d];exact g):p:=h
def Zju{p:Prop}(h:p:=by
 go_wp2;go_ret2
 have d:=length_eq_zero_iff.1 j.1;have e:(ZN a (O_ #[] 3)).1[_]? =_:=hn_;have g:ZD (ZN a _) (B c.1) 3 1 _ 0 []:=⟨X,ZJ ⟨B a.1,0,#[],X,O,e,x_,C,X,X⟩⟩;refine⟨_,_,X,?_,?_,n.alloc O _⟩;rw[f.1,d];exact g
 rw[f.2];exact Bj.nil):p:=h
def yp{b1 m d1 d0 d2 c7 c3 c1 l c}(P:Ph c b1 d1 d0 d2 c7 c3 c1 l)(c4:m<F l.g)(d6:F (Z l.g m Aj).e.f<=1000)(d9:F (Z l.g m Aj).e.c<=1000):C_ 53 #[P_ b1,I m] c λd a=>ZqI c (Z l.g m Aj).e d a:=by
 have⟨e1,d5,o,u,p,v,c5,d8,R,b6,b7,b8,b2,b3⟩:=P.w.at c4;subst c5;have b0:=n_ 0 P.v.r;have d7:=(Qb P.v.r).1;have⟨b9,c0⟩:=Y_ b2 b3;have d4:=F_ m _;clear P b2 b3;generalize (F l.g)=e0 at *;generalize (Z l.g m Aj).d=N at *;generalize (Z l.g m Aj).e=b at *;generalize b4:F b.f=h at *;generalize b5:F b.c=i at *;have j:=K_ b4 b5;clear b4 b5
 cases Q:b.a
 ·rw[Q] at R;have f:K (bdI b=b.f/\bdS b=[]):=(by show _/\_;unfold bdI bdS;grind);clear Q;refine dl_ ?_;go_enter func53,ntmps53;go_upto_region 4 with fail;generalize r:ZN c (O_ #[ZR ZZ,V o h u,V p i v,I (N:H)] 172)=a;have q:E_ c a:=(by rw[<- r];exact r_);have s:H_ a (B c.1) #[ZR ZZ,V o h u,V p i v,I N] 172:=(by rw[<- r];exact hn_);have c6:=(Qb s).1;have d3:=n_ 1 s;have n:=Y q;clear r s R b6 b7 b8 b0;have G:ZD a 0 3 1 (V o h u) h (b.f.map (ZX ZQ)):=(by have g:=(Aa.a (S:=λ_=>False) q).M b9 (λ_ _=>id);rw[j.1] at g;exact g);have k:=Y G;clear q G
  by_cases D:h=0
  ·subst D
   rcases o with _|t
   exact Zju;exact Zju
  have a2:∃e,o=T ⟨e,0,ZP⟩:=by
   rcases k.out.2 with⟨d,g⟩|⟨x,t,w,d,_⟩
   exact absurd g D
   grind
  obtain⟨e,rfl⟩:=a2;have⟨a8,a1,a5,a6,a7⟩:=info_parts ZoK
  have a3:e<B a.1:=by
   rcases k.out.2 with⟨d,_⟩|⟨x,t,w,d,_,g,_⟩
   ·cases d
   grind
  have z:K (ZD (ZN a _) (B c.1) 3 1 _ 0 []):=⟨X,ZJ ⟨B a.1,0,#[],X,O,hn_,x_,C,X,X⟩⟩;have y:K (F (b.f.map (ZX ZQ))=h*1):=by show _=_;rw[length_map,j.1,Nat.mul_one]
  have w:K (∀d g,(b.f.map (ZX ZQ))[d]? =T g->ZV (ZN a (O_ #[] 3)) (((J e 0):Addr).add d)=T g):=λd g t=>by have A:d<h*1:=(by rw[<- y];grind);have x:((J e 0):Addr).add d=(J e d):=(by unfold Addr.add;split<;>simp_all);rw[x];rw[((br_ (B a.1) a).alloc x_ (O_ #[] 3)).cell (p:=(J e d)) a3];rw[World.ownsRow.cellAt k d A];exact t
  have S:K (∀g∈b.f.map (ZX ZQ),g.oneCell'=Z0):=λg t=>by obtain⟨x,_,rfl⟩:=mem_map.1 t;rfl
  go_wp2_with (at_builtin;refine Dl X (.tmp 22) (.tmp 25) 25 X _ 3 a8 _ 1 8 underlying25 a1 a5 a6 a7 X C _ 0 [] X z _ h u _ X y w S O (by unfold Y2;omega) O t_ ?_)
  rintro a9 M ⟨L,A,W,_,c9,c8,a4⟩;have x:K (ZD M (B c.1) 3 1 a9 h (b.f.map (ZX ZQ))/\E_ c M):=(by refine⟨L,?_⟩;exact(n.alloc O _).grown A t_ (by intro c2 a0;simp[ZW] at a0;omega));subst a4;clear L A W k z w;go_wp2;go_ret2
  have a0:=x.1;refine⟨_,_,X,?_,?_,x.2⟩;rw[f.1];unfold Ad;rw[j.1];exact(by simpa using a0);rw[f.2];exact Bj.nil
 rw[Q] at R;have f:K (bdI b=[]/\bdS b=b.c):=(by show _/\_;unfold bdI bdS;grind);clear Q;go_enter func53,ntmps53;go_upto_region 3 with fail;generalize r:ZN c (O_ #[ZR Z0,V o h u,V p i v,I (N:H)] 172)=a;have q:E_ c a:=(by rw[<- r];exact r_);have s:H_ a (B c.1) #[ZR Z0,V o h u,V p i v,I N] 172:=(by rw[<- r];exact hn_);have c6:=(Qb s).1;have d3:=n_ 2 s;have n:=Y q;clear r s R b6 b7 b8 b0;have G:ZD a 0 9 1 (V p i v) i (b.c.map YW):=(by have g:=(Aa.a (S:=λ_=>False) q).M c0 (λ_ _=>id);rw[j.2] at g;exact g);have k:=Y G;clear q G
 by_cases D:i=0
 ·subst D
  rcases p with _|t
  exact Zjt;exact Zjt
 have a2:∃e,p=T ⟨e,0,ZP⟩:=by
  rcases k.out.2 with⟨d,g⟩|⟨x,t,w,d,_⟩
  exact absurd g D
  grind
 obtain⟨e,rfl⟩:=a2;have⟨a8,a1,a5,a6,a7⟩:=info_parts ZoN
 have a3:e<B a.1:=by
  rcases k.out.2 with⟨d,_⟩|⟨x,t,w,d,_,g,_⟩
  ·cases d
  grind
 have z:K (ZD (ZN a _) (B c.1) 9 1 _ 0 []):=⟨X,ZJ ⟨B a.1,0,#[],X,O,hn_,x_,C,X,X⟩⟩;have y:K (F (b.c.map YW)=i*1):=by show _=_;rw[length_map,j.2,Nat.mul_one]
 have w:K (∀d g,(b.c.map YW)[d]? =T g->ZV (ZN a (O_ #[] 9)) (((J e 0):Addr).add d)=T g):=λd g t=>by have A:d<i*1:=(by rw[<- y];grind);have x:((J e 0):Addr).add d=(J e d):=(by unfold Addr.add;split<;>simp_all);rw[x];rw[((br_ (B a.1) a).alloc x_ (O_ #[] 9)).cell (p:=(J e d)) a3];rw[World.ownsRow.cellAt k d A];exact t
 have S:K (∀g∈b.c.map YW,g.oneCell'=Z0):=λg t=>by obtain⟨x,_,rfl⟩:=mem_map.1 t;rfl
 go_wp2_with (at_builtin;refine Dl X (.tmp 17) _ 47 X _ 9 a8 _ 1 16 underlying47 a1 a5 a6 a7 X C _ 0 [] X z _ i v _ X y w S O (by unfold Y2;omega) O t_ ?_)
 rintro a9 M ⟨L,A,W,_,c9,c8,a4⟩;have x:K (ZD M (B c.1) 9 1 a9 i (b.c.map YW)/\E_ c M):=(by refine⟨L,?_⟩;exact(n.alloc O _).grown A t_ (by intro c2 a0;simp[ZW] at a0;omega));subst a4;clear L A W k z w;go_wp2;go_ret2
 have a0:=x.1;refine⟨_,_,X,?_,?_,x.2⟩;rw[f.1];exact ownsRow_nil _ _ 3 1;rw[f.2];unfold Bj;rw[j.2];exact(by simpa using a0)
def ZqJ(d:ZT)(c:ES)(x:Ending)(e:ZT):Prop:=∃a b,x=ZI (Y5 #[a,b,I 0])/\ZpE d e a b c
def Zbo f p a b c (d:Pi c f p b)(k:F b.g<=1000)(j:a<F b.g)(i:F (Z b.g a Aj).e.f<=1000)(l:F (Z b.g a Aj).e.c<=1000):C_ 27 #[P_ f,I a] c λe g=>ZqJ c (Z b.g a Aj).e e g:=by
 have u:=n_ 0 d.f;have o:C_ 52 #[P_ f,I a] c (V_ (ZR Z0) c):=(by have e:=Jk _ _ b (a:E) c d k;have g:ZE (0<=(a:E)/\a<=(F b.g:E)-1)=Z0:=t_;rw[g] at e;exact e);have⟨x,w,y,v,s,r,h⟩:=d.g;have n:=yp h j i l;clear d h k j i l;generalize (Z b.g a Aj).e=t at *;refine dl_ ?_;go_enter func27,ntmps27;go_wp2_with fail
 apply o.m;rintro e D ⟨rfl,q⟩;obtain rfl:=q.s;go_wp2_with fail
 apply n.m;rintro e G ⟨z,A,rfl,g⟩;have m:=Y g;clear g;go_wp2;go_ret3
 exact⟨_,_,X,m⟩
def ZoV:Zi7 Ra:=by
 intro b1 b5 R b3 a0 a8 a9 f h e k d c u q t w v o p P Q r s;have l:=Y (λb a=>nj R a0 f e b ((Aa.a (S:=λ_=>False) a).M c (λ_ _=>id)) (u.q a) q t w v r s);have G:ZV (ZN d (O_ #[ZR ZZ,N_,N_] 170)) _=_:=T_ r_ o;have L:ZV (ZN d (O_ #[ZR ZZ,N_,N_] 170)) _=_:=T_ r_ p;have n:K ((Ra e k f h).a=Z0/\(Ra e k f h).f=[]):=⟨X,X⟩;clear c u q t w v r s;go_enter func210,ntmps210;go_wp2_with fail
 apply (l _ r_).m;rintro a4 W ⟨b0,rfl,⟨b2,b4,c,g,i⟩,j⟩;rw[n.1] at c;rw[n.2] at g;obtain⟨y,A,rfl⟩:=g.d;have⟨z,D,M⟩:=i.b;subst M;subst c;have a:W.1[B d.1]? =T (O_ _ 170 _):=(j.block _ s_).T hn_;have a1:=n_ 0 a;have a2:=n_ 1 a;have a3:=n_ 2 a;have a5:=R_ 0 _ _ a;have a6:=R_ 1 _ _ a;have a7:=R_ 2 _ _ a;have x:=Y (r_.T (j.m s_));have m:K (Bj _ (B d.1) _ _/\Ad _ (B d.1) _ _):=⟨i.c s_,g.m s_⟩;have b:=Y a;clear j i g a l o p P Q G L;generalize N:F (Ra e k f h).c=S at *;clear N;go_wp2;apply bodyPost_ret (v:=Y9 #[ZR Z0,V y 0 A,V z S D]) (by simp[results,results210,go_sem, *]) X
 refine⟨_,X,⟨V _ 0 _,V _ _ _,X,?_,?_⟩,((x.setCell x_ _).setCell x_ _).setCell x_ _⟩;exact Am (Am (Am m.2 b C) (by exact ht_ _ _ _ _ b) C) (by exact ht_ _ _ _ _ (ht_ _ _ _ _ b)) C;exact Am (Am (Am m.1 b C) (by exact ht_ _ _ _ _ b) C) (by exact ht_ _ _ _ _ (ht_ _ _ _ _ b)) C
def ZkL:Zi6 Ra:=by
 refine⟨ZoV,λa d c b h i j=>?_⟩
 have e:F (Ra a d c b).c<=16:=by
  show F ((ZU (ZL b) ((Nh (a.zip d) c).mergeSort λf g=>ZE (leW f g))).map WS.a)<=16
  grind
 refine⟨⟨Pairwise.nil,by simp[Ra],O⟩,X,?_⟩;show Kz Z0 0 (F (Ra a d c b).c)<=16;simp only[Kz,if_true];exact e
def Sw{c f d ct b e n g}(m:∀a,a<c+1->f a=ZZ->0<=d a/\d a<=3)(i:2<=b)(j:b<=16)(k:2<=e)(l:e<=32)(h:Bt (c+1) f d RS.h n 0=.ok g):xg Ra c f ct b e g:=Za3 (λ_=>ZkL) m i j k l h
theorem Tv(a:ZC):ZB (Ab a)=a:=by
 cases a with
 | mk b=>
  unfold ZB Ab;congr 1;apply Array.ext';simp[map_map,Function.comp_def]
structure Cn(d:ZT)(c:H)(b:U E):Prop where
 r:∃a:ZC,d.1[c]? =T (O_ #[Q_ a] 180)/\Ab a=b/\ZK a<=140737488355328
def Cn.p{c w':ZT}{a:H}{b:U E}{K:H->Prop}(d:Cn c a b)(i:Aa K c w')(h:¬K a):Cn w' a b:=by have⟨S,e,f,g⟩:=d.r;exact⟨S,i.g e h,f,g⟩
def Cn.q{c w':ZT}{b:H}{a:U E}(d:Cn c b a)(e:E_ c w'):Cn w' b a:=d.p (K:=λ_=>False) (.a e) id
def Cn.lt{b:ZT}{a:H}{d:U E}(c:Cn b a d):a<B b.1:=by
 have⟨e,f,_⟩:=c.r
 grind
def Cn.a{g:ZT}{e:H}{c:U E}(d:Cn g e c):∀a∈c,0<=a/\a<=255:=λa b=>by obtain⟨h,_,rfl,_⟩:=d.r;unfold Ab at b;obtain⟨f,_,rfl⟩:=mem_map.1 b;have:=f.toNat_lt;omega
def Cn.y{e:ZT}{d:H}{a:U E}(b:Cn e d a):F a<=140737488355328:=by obtain⟨f,_,rfl,c⟩:=b.r;rw[Ci];exact c
def ZdA{a:ZC}(c:ZK a=0):a=⟨#[]⟩:=by
 cases a with
 | mk b=>
  have:B b=0:=c
  grind
def Eg(b:H)(d:U E)(e:ZT)(f:Cn e b d):C_ 165 #[P_ b] e λc a=>c=ZI (ZX ZQ (d.headD 0))/\Cn a b d.tail/\Aa (λi=>i=b) e a:=by
 have⟨a,g,h,q⟩:=f.r;have n:=n_ 0 g;have p:YT e (J b 0)=ZZ:=R_ 0 _ 180 g
 by_cases j:ZK a=0
 ·have i:=ZdA j;subst i;have c:d=[]:=(by rw[<- h];rfl);subst c;refine dl_ ?_;go_enter func165,ntmps165;go_wp2;go_ret;exact⟨X,f,Aa.refl _ _⟩
 have c:0<ZK a:=O
 have s:a.toList.isEmpty=ZZ:=by
  rw[toList_data]
  cases i:Y4 a.data with
  | nil=>
   have:ZK a=F (Y4 a.data):=by rw[Array.length_toList];rfl
   grind
  |cons m l=>rfl
 have k:K (d=((a[0]'c).toNat:E)::Ab (a.extract 1 (ZK a))):=by
  show _=_;rw[<- h,Ff,aI (by rw[Ci];omega),drop_one];have i:0<F (Ab a):=(by rw[Ci];omega);have o:(Ab a)[0]'i=((a[0]'c).toNat:E):=getElem_map (λl:UInt8=>(l.toNat:E)) (l:=Y4 a.data) (i:=0) (h:=i)
  cases r:Ab a with
  |nil=>grind
  | cons m l=>
   grind
 have m:=(a[0]'c).toNat_lt;have o:wrap64 ((a[0]'c).toNat:E)=((a[0]'c).toNat:E):=(by simp[wrap64];omega);have l:(1:E)<=(ZK a:E):=O;clear f h j;go_enter func165,ntmps165;go_wp2;go_ret;rw[k];refine⟨?_,⟨a.extract 1 (ZK a),hs_ _ b 0 _ 180 _ g,X,?_⟩,(Aa.refl (λi=>i=b) _).setCell (p:=(J b 0)) (λ_=>X) _⟩;rfl;rw[ByteArray.size_extract];omega
def Lf(b:U E):H->H
 |0=>0
 |a+1=>Lf b a+ZL (Z b a 0)*2^(8*a)
def Iu{a:U E}(c:∀x∈a,0<=x/\x<=255)(b:H):0<=Z a b 0/\Z a b 0<=255:=by grind [Qf]
def zn{b:U E}(c:∀x∈b,0<=x/\x<=255):∀a,Lf b a<2^(8*a)
 |0=>by simp[Lf]
 | a+1=>by
  have f:=zn c a;have e:=Iu c a;have d:ZL (Z b a 0)*2^(8*a)<=255*2^(8*a):=aK _ O
  grind [Lf]
def Zfh(a:E)(b:0<=a)(c:a<2^40):i64.wrap a=a:=Au O O
def Zjq{a b:H}(c:a<2^40)(d:b<2^40):bits .or ZQ a b=((a|||b:H):E):=(bits_nat ZQ 40 C Zfh a b c d).2
def Fx(b:U E)(a:H):(ZF a b).headD 0=Z b a 0:=by rw[headD_eq_head?_getD,head?_drop,Qc]
def Iq{b:U E}{a:H}:(ZF a b).tail=ZF (a+1) b:=by rw[tail_drop]
def qa(d c:H)(b:U E)(h:ZT)(r:Cn h d b)(M:c<=4):C_ 233 #[P_ d,I (c:H)] h λq a=>q=ZI (ZX ZQ (Lf b c:H))/\Cn a d (ZF c b)/\Aa (λe=>e=d) h a:=by
 have p:=Y r.a;refine q_ ?_;go_wp2_with fail
 go_loopw [5,8] (λi f g=>∃a:H,a<=c/\f=ZX ZQ a/\i=ZX ZQ (Lf b a:H)/\K (Cn g d (ZF a b)/\Aa (λe=>e=d) h g)) (λ_ f _=>c-ZL (ZA f))
 exact⟨0,v_,X,X,r,Aa.refl _ _⟩;obtain⟨a,G,rfl,rfl,j⟩:=hrel
 by_cases L:a<c
 ·have l:=zn p a;have x:=Iu p a;have g:K (Lf b (a+1)=Lf b a+ZL (Z b a 0)*2^(8*a)):=rfl;have k:=Eg d _ wr j.1;rw[Fx,Iq] at k;obtain⟨e,v⟩:∃e:H,Z b a 0=(e:E):=⟨ZL (Z b a 0),O⟩;rw[v] at k x;have w:ZL (Z b a 0)=e:=O;rw[w] at g;generalize Lf b a=o at *;have⟨f,s⟩:=W_ (8*a);rw[<- s] at l g;have t:(2:H)^f<=2^24:=Nat.pow_le_pow_right C O;have⟨i,n⟩:=W_ (e*2^f);have A:e*2^f<=255*2^24:=Nat.mul_le_mul O t;have N:(8:E)*(a:E)=(f:E):=O
  have P:i64.wrap ((e:E)*2^f)=(i:E):=(by grind [Au]);have D:bits BinOp.or ZQ (o:E) (i:E)=((o+i:H):E):=(by rw[Zjq O O,n,Zey l]);have⟨Q,m⟩:=W_ (o+i);rw[<- n,<- m] at g;rw[<- m] at D;clear A l t n m s;go_wp2_with fail
  apply k.m;rintro q R ⟨rfl,y,z⟩;have u:=K_ y (j.2.T z);go_wp2;go_roundw;exact⟨a+1,O,g_,by rw[g],u⟩;exact z_
 have f:¬(a:E)<(c:E):=O;have e:a=c:=O;subst e;go_wp2;go_ret;exact⟨X,j⟩
def pw(a:U E):E:=i32.wrap (Lf a 4:H)
def Zai(a:U E): -2147483648<=pw a/\pw a<=2147483647:=by unfold pw;simp[wrap,IntKind.bits,signed];omega
def tg{b:H}{a:U E}{c:ZT}(f:Cn c b a):C_ 277 #[P_ b] c λd e=>d=ZI (ZX ZQ (pw a))/\Cn e b (ZF 4 a)/\Aa (λg=>g=b) c e:=by
 have e:=qa b 4 a c f x_;have h:=Zai a;have j:i32.wrap (Lf a 4:H)=pw a:=rfl;generalize pw a=l at *;generalize Lf a 4=i at *;refine q_ ?_;go_wp2_with fail
 apply e.m;rintro d k ⟨rfl,g⟩;go_wp2;go_ret;exact⟨X,g⟩
def Zg1(a:ZC)(b:ZT)(e:ZK a<=281474976710656):C_ 223 #[Q_ a] b (U_ (YW a) b):=by
 have c:=Tryz.stringslite_Clone a b e;refine dl_ ?_;go_enter func223,ntmps223;go_wp2_with fail
 apply c.m;rintro f g ⟨rfl,d⟩;clear c;go_wp2;go_ret;exact⟨X,d⟩
def ga(c d:H)(e:U E)(g:ZT)(h:Cn g c e):C_ 164 #[P_ c,I (d:H)] g λn f=>(∃a,n=ZI (YW a)/\Ab a=ZU d e)/\Cn f c (ZF d e)/\Aa (λb=>b=c) g f:=by
 have⟨a,o,f,A⟩:=h.r;have v:=h.lt;clear h;have t:=n_ 0 o;have⟨b,q⟩:=W_ (min d (ZK a));have D:min (d:E) (ZK a:E)=(b:E):=O;have l:=λs=>Zg1 (a.extract 0 b) s (by rw[ByteArray.size_extract];omega);have w:(0:E)<=(b:E):=O;have x:(b:E)<=(ZK a:E):=O;have u:F e=ZK a:=by rw[<- f];exact Ci a
 have m:K (Ab (a.extract 0 b)=ZU d e/\Ab (a.extract b (ZK a))=ZF d e):=by
  constructor
  ·rw[Ff,drop_zero,f,q,<- u]
   grind
  rw[Ff,aI w_,f]
  grind [drop_eq_nil_of_le]
 clear q f;refine dl_ ?_;go_enter func164,ntmps164;go_wp2_with fail
 apply (l _).m;clear l;rintro n k ⟨rfl,j⟩;have i:H_ k c #[Q_ a] 180:=(j.block c v).T o;have y:=n_ 0 i;have z:YT k (J c 0)=ZZ:=R_ 0 _ 180 i;have r:K (Aa (λb=>b=c) g k):=Aa.a j;clear j t;go_wp2;go_ret;refine⟨⟨a.extract 0 b,X,m.1⟩,⟨a.extract b (ZK a),hs_ _ c 0 _ 180 _ i,m.2,?_⟩,r.setCell (p:=(J c 0)) (λ_=>X) _⟩;rw[ByteArray.size_extract];omega
def Sb(b:U E)(c:H):ZG:=(range c).all λa=>ZE (Z b a 0<Z b (a+1) 0)
def Sa(a:U E):ZG:=Sb a (F a-1)
def ZeS(b:U E)(a:H):Sb b (a+1)=(Sb b a&&ZE (Z b a 0<Z b (a+1) 0)):=by unfold Sb;grind
def Zcq{c:U E}{a b:H}(d:Sb c a=ZZ)(e:a<=b):Sb c b=ZZ:=by grind [Sb]
def Zlo{h:Y0 Addr}{c i m:H}{b:U E}{f:ZT}(p:Ad f m (V h c i) b)(j:F b=c)(w:c<=1000000):C_ 278 #[V h c i] f (U_ (ZR (Sa b)) f):=by
 have k:K (∀g,E_ f g->Ad g m (V h c i) b):=λg q=>p.q q;refine q_ ?_;go_wp2_with fail
 go_loopw [3] (λd e=>∃a:H,d=ZX ZQ ((a:E)+1)/\(a=0∨a+1<=c)/\K (Sb b a=Z0)/\K (E_ f e)) (λd _=>c+1-ZL (ZA d))
 exact⟨0,X,ZM X,X,y_⟩;obtain⟨a,rfl,v,o,d⟩:=hrel
 by_cases s:a+1<c
 ·obtain⟨y,rfl,_,_,A,_⟩:=(k wr d).b j (show a<c by omega);have⟨z,G,_,_,D,_⟩:=(k wr d).b j s;injection G with G;injection G with G;subst G;have l:=Y (ZeS b a);have n:K (Sb b (a+1)=ZZ->Sa b=ZZ):=λr=>Zcq r (p_ j);generalize (Z b) a 0=t at *;generalize (Z b) (a+1) 0=u at *
  by_cases x:u<=t
  ·have e:=Y (n (by rw[l,aE O];simp));go_upto_region 4 with fail;go_big_quiet (fail);go_wp2;go_ret;exact⟨by rw[e];rfl,below_drewN d _⟩
  have e:K (Sb b (a+1)=Z0):=(by show _=_;rw[l,o,aF O];rfl);go_upto_region 4 with fail;go_big_quiet (fail);go_wp2;go_roundw;exact⟨a+1,g_,ZJ O,e,below_drewN d _⟩;exact z_
 have l:¬(a:E)+1<(c:E):=O
 have e:K (Sa b=Z0):=by
  unfold Sa
  grind
 go_wp2;go_ret;exact⟨by rw[e];rfl,d⟩
def Zed{a:ZC}{i:ZT}(s:ZK a<=200000000000000):C_ 321 #[Q_ a] i (V_ (ZR (En a)) i):=by
 have j:K (∀f e,C_ 312 #[ZX .u8 f] e (V_ (ZR (Gh f)) e)):=λf e=>mx f e;refine q_ ?_;go_wp2_with fail
 go_loopw [6] (λc d=>∃b:H,c=ZX ZQ b/\b<=ZK a/\K ((ZU b (Ab a)).all Gh=Z0)/\d=i) (λc _=>ZK a-ZL (ZA c))
 exact⟨0,X,v_,X,X⟩;obtain⟨b,rfl,r,k,n⟩:=hrel;subst n
 by_cases d:b<ZK a
 ·have⟨p,q⟩:=F_ b (ZK a);have m:ZU (b+1) (Ab a)=ZU b (Ab a)++[((a[b]'d).toNat:E)]:=by rw[Qi (by rw[Ci];exact d)];congr 2;simp only[Ab,getElem_map];rfl
  cases g:Gh ((a[b]'d).toNat:E) with
  | true=>
   have c:K ((ZU (b+1) (Ab a)).all Gh=Z0):=w_;go_wp2_with fail
   apply (j _ _).m;rintro l o ⟨rfl,h⟩;obtain rfl:=h.s;rw[g];go_wp2;go_roundw;exact⟨b+1,g_,O,c,trivial⟩;exact z_
  | false=>
   have c:K (En a=ZZ):=(by unfold En;have:(Ab a).all Gh=ZZ:=(by rw[all_eq_false];refine⟨((a[b]'d).toNat:E),?_,by simp[g]⟩;have:((a[b]'d).toNat:E)∈ZU (b+1) (Ab a):=(by rw[m];simp);exact aL this);rw[this];rfl);go_wp2_with fail
   apply (j _ _).m;rintro l o ⟨rfl,h⟩;obtain rfl:=h.s;rw[g];go_wp2;go_ret;exact⟨by rw[c];rfl,X⟩
 have h:¬(b:E)<(ZK a:E):=O
 have c:K (En a=ZE ((ZK a:E)<=8)):=by
  show _=_;have g:=k.out
  grind [Ci,En]
 go_wp2;go_ret;exact⟨by rw[c];rfl,X⟩
def Is(b:U ZC)(c:H):ZG:=(range c).all λa=>En (Z b a ⟨#[]⟩)&&!Lib.containsS (ZU a b) (Z b a ⟨#[]⟩)
def Di(a:U ZC):ZG:=Is a (F a)
def gn(b:U ZC)(a:H):Is b (a+1)=(Is b a&&(En (Z b a ⟨#[]⟩)&&!Lib.containsS (ZU a b) (Z b a ⟨#[]⟩))):=by unfold Is;grind
def Zau{c:U ZC}{a b:H}(d:Is c a=ZZ)(e:a<=b):Is c b=ZZ:=by grind [Is]
def Bj.f{h:ZT}{e:H}{d:Y0 Addr}{a c:H}{b:U ZC}(g:Bj h e (V d a c) b)(m:F b=a):a<=c:=by
 rcases g.2 with⟨f,l⟩|⟨k,i,j,f,_,_,n,_⟩
 omega
 grind
def xw{r:Y0 Addr}{c h x:H}{b:U ZC}{j:ZT}(m:Bj j x (V r c h) b)(t:F b=c)(R:c<=1000000)(D:∀M∈b,ZK M<=200000000000000):C_ 279 #[V r c h] j (V_ (ZR (Di b)) j):=by
 have g:=Y t;have S:=m.f t;have v:K (∀f,f<c->∀q,C_ 321 #[Q_ (Z b f ⟨#[]⟩)] q _):=λf A q=>Zed (D _ w_);refine q_ ?_;go_wp2_with fail
 go_loopw [7] (λd e=>∃a:H,d=ZX ZQ a/\a<=c/\K (Is b a=Z0)/\e=j) (λd _=>c-ZL (ZA d))
 exact⟨0,X,v_,X,X⟩;obtain⟨a,rfl,Q,w,G⟩:=hrel;subst G
 by_cases s:a<c
 ·obtain⟨u,rfl,_,a0⟩:=m.d g s _
  have o:K (C_ 322 #[L_ u a h,Q_ (Z b a ⟨#[]⟩)] wr (V_ (ZR (containsS (ZU a b) (Z b a ⟨#[]⟩))) wr)):=Tryz.slices_Contains_string u 0 a h _ _ _ (p_ g) O (λf A=>by
   have⟨e,d,_,i⟩:=m.d g (show f<c by omega) ByteArray.empty
   grind)
  have n:=v a s wr;have l:=Y (gn b a);have p:K (Is b (a+1)=ZZ->Di b=ZZ):=λz=>Zau z (p_ g);generalize containsS (ZU a b) (Z b a ⟨#[]⟩)=y at *;generalize En (Z b a ⟨#[]⟩)=L at *;generalize (Z b) a ⟨#[]⟩=W at *;have⟨N,P⟩:=F_ a c
  cases L with
  | false=>
   have e:=Y (p (by rw[l];simp));go_wp2_with fail
   apply n.m;rintro i k ⟨rfl,d⟩;obtain rfl:=d.s;go_wp2;go_ret;exact⟨by rw[e];rfl,X⟩
  | true=>
   cases y with
   | true=>
    have e:=Y (p (by rw[l];simp));go_wp2_with fail
    apply n.m;rintro i k ⟨rfl,d⟩;obtain rfl:=d.s;go_wp2_with fail
    apply o.m;rintro i k ⟨rfl,d⟩;obtain rfl:=d.s;go_wp2;go_ret;exact⟨by rw[e];rfl,X⟩
   | false=>
    have e:K (Is b (a+1)=Z0):=(by show _=_;rw[l,w];rfl);go_wp2_with fail
    apply n.m;rintro i k ⟨rfl,d⟩;obtain rfl:=d.s;go_wp2_with fail
    apply o.m;rintro i k ⟨rfl,d⟩;obtain rfl:=d.s;go_wp2;go_roundw;exact⟨a+1,g_,O,e,trivial⟩;exact z_
 have d:¬(a:E)<(c:E):=O
 have e:K (Di b=Z0):=by
  unfold Di
  grind
 go_wp2;go_ret;exact⟨by rw[e];rfl,X⟩
def ci(a:ES):ZG:=ZE (a.b<=16)&&Sa a.f&&Di a.c
def ZhJ{a:ES}{h i:Y0 Addr}{f j g k z:H}{d:ZT}(P:Ad d z (V h f j) a.f)(S:Bj d z (V i g k) a.c)(Q:F a.f=f)(R:F a.c=g)(c:f<=1000000)(W:g<=1000000)(a1:∀a4∈a.c,ZK a4<=200000000000000):C_ 225 #[Y9 #[ZR a.a,V h f j,V i g k]] d (U_ (ZR (ci a)) d):=by
 have⟨G,o⟩:=W_ (ZN d (O_ #[ZR a.a,V h f j,V i g k] 170));have D:H_ _ _ _ _:=o ▸ (ha_ d _);have A:E_ d _:=o ▸ r_
 have e:K (∀b,E_ G b->E_ d b/\D_ b (B d.1) 0 (ZR a.a)/\D_ b (B d.1) 1 (V h f j)/\D_ b (B d.1) 2 (V i g k)):=λb l=>by have m:=(l.block _ ((Qb D).1)).T D;exact⟨A.T (l.m A.size),M_ 0 _ _ _ m,M_ 1 _ _ _ m,M_ 2 _ _ _ m⟩
 have y:=Y (λb l=>Zlo (P.q (e b l).1) Q c);have M:=Y (λb l=>xw (S.q (e b l).1) R W a1)
 have r:K (∀b,C_ 169 #[Y9 #[ZR a.a,V h f j,V i g k]] b (U_ (ZX ZQ (a.b:H)) b)):=λb=>by
  have:=Uj a.a h i f j g k b;unfold ES.b
  grind
 have a5:K (ci a=(_&&_)):=rfl;generalize ci a=s at *;generalize Sa a.f=a2 at *;generalize Di a.c=a3 at *;generalize a.b=t at *;generalize a.a=a8 at *;have⟨_,u,v,w⟩:=e G y_
 by_cases a6:t<=16
 ·have N:ZE ((t:E)<=16)=Z0:=t_
  cases a2 with
  | false=>
   have n:K (s=ZZ):=w_;refine q_ ?_;go_wp2_with fail
   rw[<- o];apply (r _).m;rintro p q ⟨rfl,c⟩;have⟨_,u,v,w⟩:=e q c;go_wp2_with fail
   apply (y _ c).m;rintro p L ⟨rfl,x⟩;have m:=Y (c.T (x.m c.size));go_wp2;go_ret;exact⟨by rw[n];rfl,(e _ m).1⟩
  | true=>
   have n:K (s=a3):=w_;refine q_ ?_;go_wp2_with fail
   rw[<- o];apply (r _).m;rintro p q ⟨rfl,c⟩;have⟨_,u,v,w⟩:=e q c;go_wp2_with fail
   apply (y _ c).m;rintro p L ⟨rfl,x⟩;have m:=Y (c.T (x.m c.size));have⟨_,u,v,w⟩:=e L m;go_wp2_with fail
   apply (M _ m).m;rintro p a7 ⟨rfl,a0⟩;obtain rfl:=a0.s;go_wp2;go_ret;exact⟨by rw[n];rfl,(e _ m).1⟩
 have N:ZE ((t:E)<=16)=ZZ:=t_;have n:K (s=ZZ):=w_;refine q_ ?_;go_wp2_with fail
 rw[<- o];apply (r _).m;rintro p q ⟨rfl,c⟩;go_wp2;go_ret;exact⟨by rw[n];rfl,(e _ c).1⟩
def Oy(b:ES)(a:E):ZG:=ZE (a<(b.b:E)+2)
def Ws(a:ES)(d e:Y0 Addr){b:H}(g:H){c:H}(h:H){l:E}(f:E)(i:ZT)(o:F a.f=b)(p:F a.c=c)(r:a.b<=1000000):C_ 226 #[Y9 #[ZR a.a,V d b g,V e c h,I l],I f] i (U_ (ZR (Oy a f)) i):=by
 have n:Kz a.a b c=a.b:=by unfold ES.b;rw[o,p]
 have j:=Y (λk=>by
  have:=Fq a.a d e b g c h k O;rw[n] at this
  exact this)
 unfold Oy;generalize a.b=q at *;generalize a.a=t at *;refine q_ ?_;go_wp2_with fail
 apply (j _).m;rintro u s ⟨rfl,k⟩;have m:=r_.T (k.m s_);go_wp2;go_ret;exact⟨X,m⟩
def Tn(c:U E)(b:H):U E:=(range b).map λa=>pw (ZF (4*a) c)
def Zew(b:U E)(a:H):Tn b (a+1)=Tn b a++[pw (ZF (4*a) b)]:=by simp[Tn,range_succ]
def cr(b:U E)(a:H):F (Tn b a)=a:=by simp[Tn]
structure Zy(a wr:ZT)(b:H)(d:U E)(g:ZG)(e f:ZY)(c:E):Prop where
 w:wr.1[B a.1+1]? =T (O_ #[ZR g,e,f,I c] 172)
 o:wr.1[B a.1]? =T (O_ #[ZR ZZ,N_,N_,I 0] 172)
 u:Cn wr b d
 lt:b<B a.1
 t:Aa (λk=>k=b) a wr
section
variable {w wr w2:ZT} {a:H} {l b:U E} {wd:ZG} {vb vw:ZY} {d:E}
def Zy.i(c:Zy w wr a l wd vb vw d)(g:Cn w2 a b)(e:Aa (λh=>h=a) wr w2):Zy w w2 a b wd vb vw d:=
 ⟨e.g c.w (λf=>p_ c.lt),e.g c.o (λf=>p_ c.lt),g,c.lt,c.t.T e⟩
def Zy.q(b:Zy w wr a l wd vb vw d)(c:E_ wr w2):=
 b.i (b.u.q c) (.a c)
def Zy.put(b:Zy w wr a l wd vb vw d)(c:H)(v:ZY){i:ZG}{g h:ZY}{e:E}(j:YS (#[ZR wd,vb,vw,I d]:YZ ZY) c v=#[ZR i,g,h,I e]):Zy w (ZO wr ⟨B w.1+1,c,ZP⟩ v) a l i g h e:=by have f:Aa _ _ (ZO wr ⟨_,c,_⟩ v):=(Aa.refl (λk=>k=B w.1+1) _).setCell (p:=J _ c) (λ_=>X) v;refine⟨?_,f.g b.o O,b.u.p f (p_ b.lt),b.lt,b.t.setCell (p:=J _ c) (λm=>by simp at m;omega) v⟩;rw[ht_ c _ 172 _ b.w,j]
def Zy.grown(b:Zy w wr a l wd vb vw d){f s p:H}{m:ZY}{t:U ZY}(e:ZD wr (B w.1) f s m p t)(i:f≠172)(o:f≠180)(h:Y3 wr w2 (ZW m)):Zy w w2 a l wd vb vw d:=by have g:=(Aa.refl _ _).grown h (λj c _=>c);have⟨n,k,q,r⟩:=b.u.r;exact⟨g.g b.w (λc=>Ag e c b.w i X),g.g b.o (λc=>Ag e c b.o i X),⟨n,g.g k (λc=>Ag e c k o X),q,r⟩,b.lt,b.t.grown h (λj c u=>absurd (B_ e j c).1 O)⟩
def Zy.cell(b:Zy w wr a l wd vb vw d):ZV wr (J (B w.1+1) 0)=T (ZR wd)/\ZV wr (J (B w.1+1) 1)=T vb/\ZV wr (J (B w.1+1) 2)=T vw/\ZV wr (J (B w.1+1) 3)=T (I d)/\∀c,YT wr ⟨B w.1+1,c,ZP⟩=ZZ:=
 ⟨M_ 0 _ 172 (0,0) b.w,M_ 1 _ 172 (0,0) b.w,M_ 2 _ 172 (0,0) b.w,M_ 3 _ 172 (0,0) b.w,λc=>R_ c _ 172 b.w⟩
def Zy.ab(c:Zy w wr a l wd vb vw d):C_ 165 #[P_ a] wr λe f=>e=ZI (ZX ZQ (l.headD 0))/\K (Zy w f a l.tail wd vb vw d):=(Eg a l wr c.u).m λ_ _ b=>⟨b.1,c.i b.2.1 b.2.2⟩
def Zy.r(b:Cn w a l):Zy w (ZN (ZN w (O_ #[ZR ZZ,N_,N_,I 0] 172)) (O_ #[ZR ZZ,N_,N_,I 0] 172)) a l ZZ (N_) (N_) 0:=by have c:E_ w (ZN (ZN w (O_ #[ZR ZZ,N_,N_,I 0] 172)) (O_ #[ZR ZZ,N_,N_,I 0] 172)):=r_.alloc s_ _;refine⟨by simpa using ha_ (ZN w _) _,?_,b.q c,b.lt,.a c⟩;rw[hc_ s_];exact ha_ w _
def Zy.M{c h:H}{j:ZY}{k:U ZY}(f:Zy w wr a l wd vb vw d)(e:ZD wr (B w.1) c 1 j h k)(i:Aa (λb=>b=a) wr w2):=i.M e (λb g c=>oj_ (B_ e b g).1 f.lt)
def Zy.e(b:Zy w wr a l wd vb vw d):ZV wr (J (B w.1) 0)=T (ZR ZZ)/\ZV wr (J (B w.1) 1)=T (N_)/\ZV wr (J (B w.1) 2)=T (N_)/\ZV wr (J (B w.1) 3)=T (I 0)/\∀c,YT wr (J (B w.1) c)=ZZ:=⟨n_ 0 b.o,n_ 1 b.o,n_ 2 b.o,n_ 3 b.o,λc=>R_ c _ 172 b.o⟩
def Zy.c{e k:H}{m:ZY}{n:U ZY}(h:Zy w wr a l wd vb vw d)(j:ZD wr (B w.1) e 1 m k n)(q:e≠172){v0 v1 v2 v3:ZY}{g:ZT}(o:g=ZO (ZO (ZO (ZO wr (J (B w.1) 0) v0) (J (B w.1) 1) v1) (J (B w.1) 2) v2) (J (B w.1) 3) v3):ZD g (B w.1) e 1 m k n/\Cn g a l/\Aa (λf=>f=a) w g:=by have b:=o ▸ (Aa.h _ _ _ _ _ _);have r:=h.lt;refine⟨b.M j (λf i e=>Ag j i h.o q e),h.u.p b O,?_⟩;have c:=h.t;exact⟨b.os.T c.os,b.tape.T c.tape,b.output.T c.output,aG c.size b.size,λf i p=>(b.block f (Qh i c.size) O).T (c.block f i p)⟩
end
def Zlh(a:U E):a.tail.headD 0=Z a 1 0/\a.tail.tail.headD 0=Z a 2 0/\a.tail.tail.tail=ZF 3 a:=by rcases a with _|⟨c,_|⟨d,_|⟨e,b⟩⟩⟩<;>simp
def ta{o:H}{c:U E}{e:ZT}(q:Cn e o c)(z:c.headD 0≠119):Calls Y8 224 #[P_ o] e λn p=>∃a,n=ZI (Y9 #[ZR ZZ,a,ZH ZP 0 0,ZX ZQ (Z c 1 0)])/\Ad p (B e.1) a (Tn (ZF 3 c) (ZL (Z c 2 0)))/\Cn p o (ZF (4*ZL (Z c 2 0)) (ZF 3 c))/\Aa (λb=>b=o) e p:=by
 have P:=Iu q.a 2;obtain⟨g,x⟩:∃g:H,Z c 2 0=(g:E):=⟨ZL (Z c 2 0),O⟩;have R:=aO z;have⟨m,a⟩:=Y_ (Zlh c) (Zy.r q);have f:=a.ab;have a3:=q.lt;rw[x] at P m ⊢;clear q z x;generalize c.headD 0=a8,Z c 1 0=t,ZF 3 c=v at *;refine q_ ?_;go_upto_region 2 with fail;generalize (ZN (ZN e (O_ #[ZR ZZ,N_,N_,I 0] 172))) (O_ #[ZR ZZ,N_,N_,I 0] 172)=a5 at *;go_wp2_with fail
 apply f.m;rintro n S ⟨rfl,a⟩;have⟨h,i,j,k,l⟩:=a.cell;go_wp2_with fail
 replace a:=Y (a.put 0 (ZR ZZ) X);generalize (ZO S) (J (B e.1+1) 0) (ZR ZZ)=a6 at *;clear h i j k l;have f:=a.ab;rw[m.1] at f;apply f.m;rintro n L ⟨rfl,a⟩;have⟨h,i,j,k,l⟩:=a.cell;go_wp2_with fail
 replace a:=Y (a.put 3 (I t) X);generalize (ZO L) (J (B e.1+1) 3) (I t)=a7 at *;clear h i j k l;have f:=a.ab;rw[m.2.1,m.2.2] at f;apply f.m;rintro n W ⟨rfl,a⟩;clear f m R;go_wp2_with fail
 go_loopw [15] (λd p=>∃(b:H) (r:Y0 Addr) (s:H),d=ZX ZQ b/\b<=g/\K (Zy e p o (ZF (4*b) v) ZZ (ZH r b s) (ZH ZP 0 0) t)/\K (ZD p (B e.1) 3 1 (ZH r b s) b ((Tn v b).map (ZX ZQ)))) (λd _=>g-ZL (ZA d))
 case atStart=>exact⟨0,ZP,0,X,v_,a,Ad.nil⟩
 clear a;obtain⟨b,r,s,rfl,a1,a,d⟩:=hrel
 by_cases a2:b<g
 case neg=>
  obtain rfl:b=g:=O;have⟨A,D,G,M,y⟩:=a.e;have⟨h,i,j,k,l⟩:=a.cell;have p:=Y (λv0 v1 v2 v3=>a.c d C (v0:=v0) (v1:=v1) (v2:=v2) (v3:=v3) X);clear a d;go_wp2;apply bodyPost_ret (v:=Y9 #[ZR ZZ,V r b s,N_,I t]) (by simp[results,results224,go_sem, *]) X;obtain⟨u,w⟩:=p _ _ _ _;exact⟨_,X,by unfold Ad;rw[cr];exact u,w⟩
 have⟨h,i,j,k,l⟩:=a.cell;go_upto_region 8 with fail;clear h j k l;refine Af (λp=>ZV p _=T _) 9 k_ i (λhHeld=>?_);refine G_ ?_;refine on_ 4 λKK hK=>?_;go_simp;replace a:=a.q y_.drew;replace d:ZD (YY wr) _ 3 1 (V _ b _) b _:=World.ownsRow.drew d;apply (tg a.u).m;rintro n L ⟨rfl,y,u⟩;replace d:=Y (a.M d u);replace a:=a.i y u;rw[drop_drop,show 4*b+4=4*(b+1) by omega] at a;have p:=a.cell.2.1;replace a:=Y a;have Q:=(Qb a.w).1;clear y u;go_simp;refine hK _ _ p (λhHeld=>?_);clear hK KK;try simp only[Act.put,tA_,tB_,tC_]
 refine on_ 5 λKK hK=>?_;go_simp;refine hK _ _ (X_ p) (λhHeld=>?_);clear hK KK;try simp only[Act.put,tA_,tB_,tC_]
 refine on_ 6 λKK hK=>?_;refine aq_ [I (pw (ZF (4*b) v))] (ra_ d _) ?_;rintro a4 W ⟨G,w,_,_,D,A,rfl⟩;replace a:=(a.q r_).grown (ra_ d _) C C w;have N:=a.cell.2.1;have a0:=a.cell.2.2.2.2;have M:=Y (Am G a.w C (j:=1) (u:=L_ D (b+1) A));rw[<- map_singleton,<- map_append,<- Zew] at M;replace a:=Y (a.put 1 (L_ D (b+1) A) X);clear G w d p Q;refine hK _ _ N (λhHeld=>?_);clear hK KK;refine G_ ?_;refine le_ ?_;go_wp2;go_roundw;case rel=>grind
 case measure=>exact z_
def vi(a:U E):U E:=ZF (ZL (a.headD 0)) a.tail
def restW(a:U E):H->U E
 |0=>a
 |b+1=>vi (restW a b)
def gm(a:U E):ZC:=ZB (ZU (ZL (a.headD 0)) a.tail)
def We(c:U E)(b:H):U ZC:=(range b).map λa=>gm (restW c a)
def Zfi(b:U E)(a:H):We b (a+1)=We b a++[gm (restW b a)]:=by simp[We,range_succ]
def ek(b:U E)(a:H):F (We b a)=a:=by simp[We]
def ZlW{a:U E}(c:∀x∈a,0<=x/\x<=255):∃b:H,K (a.headD 0=(b:E))/\K (ZB (ZU b a.tail)=gm a/\ZF b a.tail=vi a):=by have e:=Iu c 0;have d:a.headD 0=Z a 0 0:=(by cases a<;>rfl);exact⟨ZL (a.headD 0),by show _=_;omega,X,X⟩
def pf{h:H}{c:U E}{f:ZT}(u:Cn f h c)(D:c.headD 0=119):Calls Y8 224 #[P_ h] f λn g=>∃a,n=ZI (Y9 #[ZR Z0,ZH ZP 0 0,a,ZX ZQ (Z c 1 0)])/\Bj g (B f.1) a (We (ZF 3 c) (ZL (Z c 2 0)))/\Cn g h (restW (ZF 3 c) (ZL (Z c 2 0)))/\Aa (λb=>b=h) f g:=by
 have a0:=Iu u.a 2;obtain⟨i,A⟩:∃i:H,Z c 2 0=(i:E):=⟨ZL (Z c 2 0),O⟩;have a3:=beq_iff_eq.2 D;have⟨q,a⟩:=Y_ (Zlh c) (Zy.r u);have d:=a.ab;have b0:=u.lt;rw[A] at a0 q ⊢;clear u D A;generalize c.headD 0=b4,Z c 1 0=v,ZF 3 c=p at *;refine q_ ?_;go_upto_region 2 with fail;generalize (ZN (ZN f (O_ #[ZR ZZ,N_,N_,I 0] 172))) (O_ #[ZR ZZ,N_,N_,I 0] 172)=b2 at *;go_wp2_with fail
 apply d.m;rintro n a4 ⟨rfl,a⟩;have⟨j,k,l,m,o⟩:=a.cell;go_wp2_with fail
 replace a:=Y (a.put 0 (ZR Z0) X);generalize (ZO a4) (J (B f.1+1) 0) (ZR Z0)=b3 at *;clear j k l m o;have d:=a.ab;rw[q.1] at d;apply d.m;rintro n N ⟨rfl,a⟩;have⟨j,k,l,m,o⟩:=a.cell;go_wp2_with fail
 replace a:=Y (a.put 3 (I v) X);generalize (ZO N) (J (B f.1+1) 3) (I v)=a5 at *;clear j k l m o;have d:=a.ab;rw[q.2.1,q.2.2] at d;apply d.m;rintro n a6 ⟨rfl,a⟩;clear d q a3;go_wp2_with fail
 go_loopw [15] (λe g=>∃(b:H) (s:Y0 Addr) (t:H),e=ZX ZQ b/\b<=i/\K (Zy f g h (restW p b) Z0 (ZH ZP 0 0) (ZH s b t) v)/\K (ZD g (B f.1) 9 1 (ZH s b t) b ((We p b).map YW))) (λe _=>i-ZL (ZA e))
 case atStart=>exact⟨0,ZP,0,X,v_,a,Bj.nil⟩
 clear a;obtain⟨b,s,t,rfl,a8,a,e⟩:=hrel
 by_cases a9:b<i
 case neg=>
  obtain rfl:b=i:=O;have⟨y,z,G,L,x⟩:=a.e;have⟨j,k,l,m,o⟩:=a.cell;have g:K (∀v0 v1 v2 v3,_):=λv0 v1 v2 v3=>a.c e C (v0:=v0) (v1:=v1) (v2:=v2) (v3:=v3) X;clear a e;go_wp2;apply bodyPost_ret (v:=Y9 #[ZR Z0,N_,V s b t,I v]) (by simp[results,results224,go_sem, *]) X;obtain⟨r,w⟩:=g _ _ _ _;exact⟨_,X,by unfold Bj;rw[ek];exact r,w⟩
 have⟨j,k,l,m,o⟩:=a.cell;have⟨a2,P,x⟩:=ZlW a.u.a;go_upto_region 7 with fail;clear j k m o;refine Af (λg=>ZV g _=T _) 11 k_ l (λhHeld=>?_);refine G_ ?_;refine on_ 5 λKK hK=>?_;go_simp;replace a:=a.q y_.drew;replace e:ZD (YY wr) (B f.1) 9 1 (V s b t) b _:=World.ownsRow.drew e;have d:=Eg h _ _ a.u;rw[P] at d;apply d.m;rintro n N ⟨rfl,r,g⟩;replace e:=Y (a.M e g);replace a:=Y (a.i r g);have y:=a.cell.2.2.1;clear r g d;go_simp;refine hK _ _ y (λhHeld=>?_);clear hK KK;try simp only[Act.put,tA_,tB_,tC_]
 refine on_ 6 λKK hK=>?_;go_simp;apply (ga h a2 _ _ a.u).m;rintro n a5 ⟨⟨R,rfl,W⟩,r,g⟩;obtain rfl:R=gm (restW p b):=(by rw[<- x.1,<- W,Tv]);replace e:=Y (a.M e g);replace a:=a.i r g;rw[x.2,<- show restW p (b+1)=vi (restW p b) from X] at a;have w:=a.cell.2.2.1;replace a:=Y a;have a1:=(Qb a.w).1;clear r g y;go_simp;refine hK _ _ w (λhHeld=>?_);clear hK KK;try simp only[Act.put,tA_,tB_,tC_]
 refine on_ 7 λKK hK=>?_;go_simp;refine hK _ _ (X_ w) (λhHeld=>?_);clear hK KK;try simp only[Act.put,tA_,tB_,tC_]
 refine on_ 8 λKK hK=>?_;refine aq_ [Q_ (gm (restW p b))] (ra_ e _) ?_;rintro b1 a6 ⟨M,z,_,_,L,G,rfl⟩;replace a:=(a.q r_).grown (ra_ e _) C C z;have S:=a.cell.2.2.1;have a7:=a.cell.2.2.2.2;have Q:=Y (Am M a.w C (j:=2) (u:=L_ L (b+1) G));rw[<- map_singleton,<- map_append,<- Zfi] at Q;replace a:=Y (a.put 2 (L_ L (b+1) G) X);clear M z e w a1;refine hK _ _ S (λhHeld=>?_);clear hK KK;refine G_ ?_;refine le_ ?_;go_wp2;go_roundw;case rel=>grind
 case measure=>exact z_
def Zl(a:U E):ES:=if a.headD 0=119 then⟨Z0,[],We (ZF 3 a) (ZL (Z a 2 0))⟩ else⟨ZZ,Tn (ZF 3 a) (ZL (Z a 2 0)),[]⟩
def rdR(a:U E):U E:=if a.headD 0=119 then restW (ZF 3 a) (ZL (Z a 2 0)) else ZF (4*ZL (Z a 2 0)) (ZF 3 a)
def rdD(a:U E):H:=ZL (Z a 1 0)
theorem qf(a:U E):ZK (ZB a)=F a:=by show B (ZB a).data=_;simp[ZB]
theorem vx(b:U E):∀a,F (restW b a)<=F b
 |0=>x_
 |a+1=>by have:=vx b a;simp only[restW,vi,length_drop,length_tail];omega
def Zif{a:U E}(f:F a<=140737488355328)(c:∀x∈a,0<=x/\x<=255):F (Zl a).f<=255/\F (Zl a).c<=255/\∀b∈(Zl a).c,ZK b<=200000000000000:=by
 have e:=Iu c 2;unfold Zl;split
 ·refine⟨s_,by rw[ek];omega,λb d=>?_⟩;obtain⟨g,_,rfl⟩:=mem_map.1 d
  grind [vx,gm,qf]
 refine⟨by rw[cr];omega,s_,s_⟩
def sy{e:H}(a:U E){d:ZT}(i:Cn d e a):Calls Y8 224 #[P_ e] d λh c=>∃f g,h=ZI (Y9 #[ZR (Zl a).a,f,g,ZX ZQ (rdD a:H)])/\Ad c (B d.1) f (Zl a).f/\Bj c (B d.1) g (Zl a).c/\Cn c e (rdR a)/\Aa (λb=>b=e) d c:=by
 have n:((rdD a:H):E)=Z a 1 0:=(by have:=Iu i.a 1;unfold rdD;omega);rw[n]
 by_cases b:a.headD 0=119
 unfold Zl rdR;rw[aD b,aD b];apply (pf i b).m;rintro h c ⟨g,j,k,l,m⟩;exact⟨N_,g,j,Ad.nil,k,l,m⟩;unfold Zl rdR;rw[aC b,aC b];apply (ta i b).m;rintro h c ⟨f,j,k,l,m⟩;exact⟨f,N_,j,k,Bj.nil,l,m⟩
def Xh(b:U E):H->Y0 (U KS×U E)
 |0=>T ([],b)
 | d+1=>match Xh b d with
  |none=>ZP
  |some (c,a)=>if(ci (Zl a)&&Oy (Zl a) (rdD a:H))=Z0 then T (c++[⟨Zl a,rdD a⟩],rdR a) else ZP
def Zki(a:U E){k n:H}(d:Xh a k=ZP)(e:k<=n):Xh a n=ZP:=by
 induction n with
 |zero=>grind
 | succ n b=>
  by_cases c:k=n+1
  ·grind
  simp only[Xh,b O]
def Jq.P{g l:ZT}{c:H}{q v' h i:ZY}{f:U (ZY×ZY)}{a:U KS}{K:KS}(d:Jq c g q f a)(w:Ad g c h K.e.f)(x:Bj g c i K.e.c)(s:Y3 g l (ZW q))(v:ZD l 0 172 4 v' (F a+1) (Hg a f++Bs K (h,i))):Jq c l v' (f++[(h,i)]) (a++[K]):=by
 have p:=(Aa.refl _ g).grown s (λo b _=>b)
 have t:∀{k:ZY} {m:U E},Ad g c k m->Ad l c k m:=λj=>p.M j (λo b e=>by
  have⟨r,n⟩:=Ac j b
  exact Ag d.M e n C X)
 have u:∀{k:ZY} {m:U ZC},Bj g c k m->Bj l c k m:=λj=>p.M j (λo b e=>by
  have⟨r,n⟩:=Ac j b
  exact Ag d.M e n C X)
 refine⟨?_,by simp[d.y],λb o=>?_⟩;rw[Ow _ _ _ _ d.y,Qe];exact v;rw[Qe] at o;simp at o
 by_cases e:b<F a
 have n:Z (f++[(h,i)]) b Lm=Z f b Lm:=(by simp[Z,getElem?_append_left (show b<F f by rw[d.y];exact e)]);have r:Z (a++[K]) b Aj=Z a b Aj:=w_;rw[n,r];exact⟨t (d.j b e).1,u (d.j b e).2⟩
 have r:b=F a:=O;subst r;have n:Z (f++[(h,i)]) (F a) Lm=(h,i):=by simp[Z,d.y.s]
 grind
structure FtS(c wr:ZT)(d e:H)(h:U E)(b:ZY)(g:U (ZY×ZY))(f:U KS):Prop where
 r:wr.1[d]? =T (O_ #[b,N_,N_] 168)
 w:Jq (B c.1) wr b g f
 u:Cn wr e h
 t:Aa (λa=>a=e∨a=d) c wr
 z:∀a,ZW b=T a->B c.1<=a
section
variable {w wr w2:ZT} {db a:H} {l c:U E} {b:ZY} {kvs:U (ZY×ZY)} {Ks:U KS}
def FtS.i(d:FtS w wr db a l b kvs Ks)(h:Cn w2 a c)(g:Aa (λf=>f=a) wr w2):FtS w w2 db a c b kvs Ks:=by
 have⟨S,n,_⟩:=d.u.r;refine⟨g.g d.r (λe=>?_),d.w.p g (λf i o k m e=>?_),h,d.t.T (g.m (λf _ e=>ZM e)),d.z⟩
 ·have j:=d.r
  grind
 grind
def FtS.q(c:FtS w wr db a l b kvs Ks)(d:E_ wr w2):=c.i (c.u.q d) (.a d)
def FtS.cell(c:FtS w wr db a l b kvs Ks):ZV wr (J db 0)=T b:=M_ 0 _ 168 (0,0) c.r
end
structure KbX(e:ZT)(b:H)(f:ZG)(c d:ZY)(a:H):Prop where
 r:e.1[b]? =T (O_ #[ZR f,c,d,I (a:H)] 172)
section
variable {w w2:ZT} {a d:H} {wd:ZG} {vb vw:ZY}
def KbX.q(b:KbX w a wd vb vw d)(c:E_ w w2):KbX w2 a wd vb vw d:=⟨(c.block _ (Qb b.r).1).T b.r⟩
def KbX.t(b:KbX w a wd vb vw d):ZV w (J a 0)=T (ZR wd):=M_ 0 _ 172 (0,0) b.r
def KbX.D(b:KbX w a wd vb vw d):ZV w (J a 1)=T vb:=M_ 1 _ 172 (0,0) b.r
def KbX.G(b:KbX w a wd vb vw d):ZV w (J a 2)=T vw:=M_ 2 _ 172 (0,0) b.r
def KbX.e(b:KbX w a wd vb vw d):ZV w (J a 3)=T (I (d:H)):=M_ 3 _ 172 (0,0) b.r
end
structure FtT(b wr:ZT)(i l:H)(k:U E)(d:ZY)(j:U (ZY×ZY))(g:U KS)(c:H)(a:ES)(h:H)(e f:ZY):Prop where
 u:FtS b wr i l k d j g
 v:Ad wr (B b.1) e a.f
 os:Bj wr (B b.1) f a.c
 n:KbX wr c a.a e f h
 o:¬ZW d=T c
section
variable {w wr w2 w3:ZT} {db c b d:H} {l f:U E} {a vb vw v6:ZY} {kvs:U (ZY×ZY)} {Ks:U KS} {e:ES}
def FtT.q(f:FtT w wr db c l a kvs Ks b e d vb vw)(g:E_ wr w2):FtT w w2 db c l a kvs Ks b e d vb vw:=⟨f.u.q g,f.v.q g,f.os.q g,f.n.q g,f.o⟩
def FtT.cells(f:FtT w wr db c l a kvs Ks b e d vb vw):ZV wr (J db 0)=T a/\ZV wr (J b 0)=T (ZR e.a)/\ZV wr (J b 1)=T vb/\ZV wr (J b 2)=T vw/\ZV wr (J b 3)=T (I d):=⟨f.u.cell,f.n.t,f.n.D,f.n.G,f.n.e⟩
def FtT.h(b:FtS w wr db c l a kvs Ks)(h:Ad w2 (B wr.1) vb e.f)(i:Bj w2 (B wr.1) vw e.c)(j:Cn w2 c f)(m:Aa (λk=>k=c) wr w2):FtT w (ZN w2 (O_ #[ZR e.a,vb,vw,I d] 172)) db c f a kvs Ks (B w2.1) e d vb vw:=
 have g:=b.i j m
 ⟨g.q r_,Ad.q (Da h b.t.size) r_,Bj.q (Da i b.t.size) r_,⟨hn_⟩,λe=>Nat.lt_irrefl _ (B_ g.w.M _ e).2⟩
def FtT.P(f:FtT w wr db c l a kvs Ks b e d vb vw)(i:Y3 wr w3 (ZW a))(p:ZD w3 0 172 4 v6 (F Ks+1) (Hg Ks kvs++[ZR e.a,vb,vw,I d]))(u:ZW v6=ZW a∨ZW v6=T (B wr.1)):w3.1[db]? =T (O_ #[a,N_,N_] 168)/\KbX w3 b e.a vb vw d/\Hid (FtS w (ZO w3 (J db 0) v6) db c l v6 (kvs++[(vb,vw)]) (Ks++[⟨e,d⟩])):=by
 have j:=(Aa.refl _ _).grown i (λg h _=>h);have hK:=f.u.w.P (K:=⟨e,d⟩) f.v f.os i p;have k:=j.g f.u.r (λe=>Ag f.u.w.M e f.u.r C X);have⟨o,m,q,r⟩:=f.u.u.r;have s:=j.g m (λe=>Ag f.u.w.M e m C X);have n:Aa _ _ (ZO w3 _ v6):=(Aa.refl (λg=>g=db) _).setCell (p:=J _ 0) (λ_=>X) _;refine⟨k,⟨j.g f.n.r f.o⟩,⟨hs_ _ db 0 _ 168 _ k,hK.p n (λg t y h x e=>?_),⟨o,n.g s (λe=>?_),q,r⟩,(f.u.t.grown i (λg h v=>absurd (f.u.z g h) O)).setCell (p:=J db 0) (λ_=>ZJ X) _,λg h=>?_⟩⟩
 ·grind
 ·grind
 have:=f.u.z g;have:=f.u.t.size
 grind
end
def Zkh{d c b a}(e:Xh d c=T (b,a)):Xh d (c+1)=if(ci (Zl a)&&Oy (Zl a) (rdD a:H))=Z0 then T (b++[⟨Zl a,rdD a⟩],rdR a) else ZP:=by simp only[Xh,e]
def FtE(e f:ZT)(a d:H)(i:Y0 (U KS×U E))(b:Ending):Prop:=match i with
 |none=>b=ZI (ZR ZZ)/\Aa (λc=>c=d∨c=a) e f
 |some (g,j)=>b=ZI (ZR Z0)/\∃k h,FtS e f a d j k h g
def dl(p s c:H)(e:U E)(l:ZT)(q:Cn l s e)(S:l.1[p]? =T (O_ #[N_,N_,N_] 168))(b2:c<=1000):Calls Y8 166 #[P_ p,P_ s,I (c:H)] l λQ m=>FtE l m p s (Xh e c) Q:=by
 have a:Hid (FtS l l _ _ e _ [] []):=⟨S,⟨rn_,X,s_⟩,q,Aa.refl _ _,by simp[ZW]⟩;clear q S;refine q_ ?_;go_wp2_with fail
 go_loopw [9] (λb f=>∃(d:H) (o:U KS) (k:U E) (a3:ZY) (a1:U (ZY×ZY)),b=ZX ZQ d/\d<=c/\F o<=d/\Hid (Xh e d=T (o,k))/\Hid (FtS l f p s k a3 a1 o)) (λb _=>c-ZL (ZA b))
 case atStart=>exact⟨0,[],e,_,_,X,v_,x_,X,a⟩
 clear a;obtain⟨d,o,k,a3,a1,rfl,b3,b4,K,a⟩:=hrel
 by_cases a5:d<c
 case neg=>
  obtain rfl:d=c:=O;go_wp2;go_ret;show FtE _ _ _ _ (Xh e d) _;rw[K];exact⟨X,_,_,a⟩
 have⟨c6,c7,a8⟩:=Zif a.u.y a.u.a;have⟨u,v⟩:=Y_ (Zkh K) (λq=>Zki e (k:=d+1) (n:=c) q a5);have L:=sy k a.u;obtain⟨b5,b7,rfl⟩:=(a.w.m v_).a;clear K;generalize Zl k=b,rdD k=n,rdR k=b0 at *;have a4:b.b<=1000000:=(by unfold ES.b Kz;split<;>omega);go_wp2_with fail
 apply L.m;rintro Q w2 ⟨c1,c2,rfl,D,G,W,a0⟩;obtain⟨w,y,rfl⟩:=D.d;obtain⟨x,z,rfl⟩:=G.b;go_upto_region 4 with fail;replace a:=Y (FtT.h (d:=n) a D G W a0);clear D G W a0 L;generalize (ZN w2) (O_ #[ZR b.a,V w (F b.f) y,V x (F b.c) z,I n] 172)=c3,B w2.1=b6 at *;have⟨f,g,h,i,j⟩:=a.cells;go_wp2_with fail
 apply (ZhJ a.v a.os X X O O a8).m;rintro a7 c4 ⟨rfl,M⟩;replace a:=Y (a.q M);clear M f g h i j;have⟨f,g,h,i,j⟩:=a.cells
 cases r:ci b
 ·have m:=v (by rw[u,r];simp);go_wp2;go_ret;show FtE _ _ _ _ (Xh e c) _;rw[m];exact⟨X,a.u.t⟩
 go_wp2_with fail
 apply (Ws b _ _ _ _ _ _ X X a4).m;rintro a7 a6 ⟨rfl,N⟩;replace a:=Y (a.q N);clear N f g h i j
 cases A:Oy b n
 ·have m:=v (by rw[u,r,A];simp);go_wp2;go_ret;show FtE _ _ _ _ (Xh e c) _;rw[m];exact⟨X,a.u.t⟩
 rw[r,A] at u;clear v r A;have⟨f,g,h,i,j⟩:=a.cells;go_upto_region 6 with fail;refine Af (λm=>ZV m _=T _/\ZV m _=T _/\ZV m _=T _/\ZV m _=T _/\ZV m _=T _) 10 k_ ⟨f,g,h,i,j⟩ (λhHeld=>?_);refine G_ ?_;refine on_ 6 λKK hK=>?_;go_simp;refine hK _ _ ⟨X_ f,X_ g,X_ h,X_ i,X_ j⟩ (λhHeld=>?_);clear hK KK f g h i j;try simp only[Act.put,tA_,tB_,tC_]
 refine on_ 7 λKK hK=>?_;replace a:=Y (a.q (w2:=YY (ZN a6 (O_ #[ZR b.a,V w (F b.f) y,V x (F b.c) z,I n] 172))) r_.drew);refine aq_ [ZR b.a,V w (F b.f) y,V x (F b.c) z,I n] (Da a.u.w.M v_) ?_;rintro c0 c5 ⟨a2,R,P,_,b9,b8,rfl⟩;have⟨t,m,a9⟩:=a.P R a2 (P.imp id And.left);have b1:=R_ 0 _ _ t;refine hK _ _ ⟨n_ 0 t,m.t,m.D,m.G,m.e⟩ (λhHeld=>?_);clear hK KK a2 R P a t m;refine G_ ?_;refine le_ ?_;go_wp2;go_roundw;case rel=>grind
 case measure=>exact z_
def lstK(a:U E):U E:=(range (ZL (a.headD 0))).map λb=>Z a.tail b 0
def lstR(a:U E):U E:=ZF (ZL (a.headD 0)) a.tail
def Zad{d:H}(a:U E){e:ZT}(q:Cn e d a):C_ 227 #[P_ d] e λf c=>∃b,f=ZI b/\Ad c (B e.1) b (lstK a)/\Cn c d (lstR a)/\Aa (λk=>k=d) e c:=by
 have a1:=Iu q.a 0;have a2:a.headD 0=Z a 0 0:=(by have:=Fx a 0;grind);obtain⟨b,L⟩:∃b:H,a.headD 0=(b:E):=⟨ZL (a.headD 0),O⟩;have a4:b<=255:=O
 have p:K (lstK a=Ct (λg=>Z a.tail g 0) b b/\lstR a=ZF b a.tail):=by have f:ZL (a.headD 0)=b:=O;exact⟨by rw[Im];unfold lstK;rw[f],by unfold lstR;rw[f]⟩
 have t:K (∀(i:ZT) (a:U E) (s:E),a.headD 0=s->Cn i d a->C_ 165 #[P_ d] i λf c=>f=ZI (ZX ZQ s)/\Cn c d a.tail/\Aa (λk=>k=d) i c):=λi a s Q A=>by rw[<- Q];exact Eg d a i A
 have j:=t e a (b:E) L q;have a3:=Gm b O;have a5:=q.lt;have⟨c,G⟩:=Z_ a.tail;rw[G] at p j;generalize lstK a=R at *;generalize lstR a=S at *;refine q_ ?_;go_wp2_with fail
 apply j.m;rintro f h ⟨rfl,M,P⟩;have l:=K_ M P;go_wp2_with fail
 go_loopw [10] (λm n=>∃k:H,m=ZX ZQ k/\k<=b/\K (Ad n (B e.1) (ZH (T ⟨B h.1,0,ZP⟩) b b) (Ct (λg=>Z c g 0) b k))/\K (Cn n d (ZF k c)/\Aa (λk=>k=d) e n)) (λm _=>b-ZL (ZA m))
 case atStart=>
  refine⟨0,X,v_,?_,?_,?_⟩;rw[In];exact Gl b h (B e.1) O l.2.size;exact l.1.q r_;exact l.2.alloc _
 obtain⟨k,rfl,D,n,o⟩:=hrel
 by_cases w:k<b
 ·have⟨W,a0⟩:=F_ k b;have j:=t wr (ZF k c) (Z c k 0) (Fx c k) o.1;rw[Iq] at j;go_wp2_with fail
  apply j.m;rintro f m ⟨rfl,N,x⟩;have u:Ad m (B e.1) (L_ (B h.1) b b) (Ct (λg=>Z c g 0) b k):=x.M n (λr g f=>p_ (B_ n r g).1);have v:=Fg (λg=>Z c g 0) D;have⟨a8,a9⟩:=u.c v.s w;have⟨y,a7⟩:=u.put (k:=k) v.s (Z c k 0);rw[Kg (λg=>Z c g 0) w] at y;have a6:=l.2.size;have z:K (Cn (ZO m (J (B h.1) k) (I (Z c k 0))) d (ZF (k+1) c)/\Aa (λk=>k=d) e (ZO m (J (B h.1) k) (I (Z c k 0)))):=(by exact⟨N.p ((Aa.refl (λr=>r=B h.1) m).setCell (p:=(J (B h.1) k)) (λ_=>X) _) O,(o.2.T x).setCell (p:=(J (B h.1) k)) (λg=>by simp at g;omega) _⟩);generalize (Z c) k 0=g at *;go_wp2;go_roundw;exact⟨k+1,g_,O,y,z⟩;exact z_
 have m:¬(k:E)<(b:E):=O;have g:k=b:=O;subst g;go_wp2;go_ret;rw[p.1,p.2];exact⟨_,X,n,o⟩
def Dn(b:U E):ZG:=b.all λa=>ZE (a=1)
def Zdi{g:Y0 Addr}(c h o:H)(b:U E)(d:ZT)(p:Ad d o (V g c h) b)(k:F b=c)(y:c<=1000000):C_ 232 #[V g c h] d (V_ (ZR (Dn b)) d):=by
 refine q_ ?_;go_wp2_with fail
 go_loopw [7] (λe f=>∃a:H,e=ZX ZQ a/\a<=c/\K (Dn (ZU a b)=Z0)/\f=d) (λe _=>c-ZL (ZA e))
 exact⟨0,X,v_,X,X⟩;obtain⟨a,rfl,w,n,s⟩:=hrel;subst s
 by_cases j:a<c
 ·obtain⟨z,rfl,_,_,A,_⟩:=p.b k j;have r:a<F b:=k ▸ j;have q:ZU (a+1) b=ZU a b++[Z b a 0]:=(by rw[Qi r];grind);have x:Z b a 0∈b:=w_
  have m:K (Z b a 0=1->Dn (ZU (a+1) b)=Z0):=λi=>by unfold Dn;rw[q,all_append,i];have:=n.out;unfold Dn at this;rw[this];rfl
  have l:K (¬Z b a 0=1->Dn b=ZZ):=λi=>by grind [Dn]
  have⟨u,v⟩:=F_ a c;generalize (Z b) a 0=t at *
  by_cases f:t=1
  ·have e:=m f;subst f;go_wp2;go_roundw;exact⟨a+1,g_,O,e,trivial⟩;exact z_
  have e:=Y (l f);go_wp2;go_ret;exact⟨by rw[e];rfl,X⟩
 have f:¬(a:E)<(c:E):=O;have e:K (Dn b=Z0):=w_;go_wp2;go_ret;exact⟨by rw[e];rfl,X⟩
structure DkX(a:ZT)(b:H)(c:ZY)(e:U (ZY×ZY))(d:U KS):Prop where
 t:ZV a (J b 0)=T c
 lt:b<B a.1
 w:ZgN a c e d
def DkX.q{g w':ZT}{d:H}{f:ZY}{e:U (ZY×ZY)}{c:U KS}(a:DkX g d f e c)(b:E_ g w'):DkX w' d f e c:=
 ⟨T_ b a.t,Qh a.lt b.size,a.w.q b⟩
def Dc(a:U KS)(c:U E):H:=(c.map λb=>(Z a (ZL b) Aj).e.b+2).sum
def Zdr(c:U KS){a:U E}{b:H}(e:b<F a):Dc c (ZU (b+1) a)=Dc c (ZU b a)+((Z c (ZL (Z a b 0)) Aj).e.b+2):=by have d:ZU (b+1) a=ZU b a++[Z a b 0]:=(by rw[Qi e];grind);unfold Dc;rw[d];simp
def ZaR{c:U KS}(e:∀K∈c,K.e.b<=16):∀a:U E,(∀b∈a,0<=b/\b<F c)->Dc c a<=18*F a
 |[],_=>by simp[Dc]
 | b::a,d=>by
  have h:=ZaR e a (λg f=>d g (by simp[f]));have f:=d b s_
  grind [Dc]
def kz{r f q:H}(L:H)(p:Y0 Addr)(a5:ZY){a3:U (ZY×ZY)}{a:U KS}(d:U E){g:ZT}(Q:DkX g r a5 a3 a)(P:Ad g L (V p f q) d)(v:F d=f)(b8:f<=1000)(j:∀b∈d,0<=b/\b<F a)(t:∀K∈a,K.e.b<=16):C_ 230 #[P_ r,V p f q] g (U_ (ZX ZQ (Dc a d:H)) g):=by
 have z:Hid (∀e,E_ g e->_):=λe m=>Q.q m;have A:Hid (∀e,E_ g e->_):=λe m=>P.q m;have o:=Y j;refine q_ ?_;go_wp2_with fail
 go_loopw [5,10] (λi h k=>∃c:H,h=ZX ZQ c/\c<=f/\i=ZX ZQ (Dc a (ZU c d):H)/\Hid (E_ g k)) (λ_ h _=>f-ZL (ZA h))
 exact⟨0,X,v_,X,y_⟩;obtain⟨c,rfl,b6,rfl,h⟩:=hrel
 by_cases j:c<f
 ·have a1:=v ▸ j;obtain⟨c3,rfl,_,_,a6,_⟩:=(A wr h).b v j;have a2:Z d c 0∈d:=w_;have R:=o _ a2;have i:=Y (Zdr a a1);have a0:=ZaR t (ZU c d) (λx k=>o x (aL k));rw[length_take] at a0;obtain⟨b,S⟩:∃b:H,Z d c 0=(b:E):=⟨ZL (Z d c 0),O⟩;rw[S] at a6 R i;have W:b<F a:=O;rw[Int.toNat_natCast] at i;have u:=z _ h;obtain⟨c0,b9,D,M,G,N,rfl,b7,b2,b3,b4,_,_,_⟩:=u.w.at W;have b5:=t (Z a b Aj) w_;have b1:=u.t;have n:Hid (∀e,C_ 146 _ e (U_ (ZX ZQ (((Z a b Aj).e.b:H)+2)) e)):=λe=>Fq _ D G _ M _ N e (by show(Z a b Aj).e.b<=_;omega);have⟨a7,a8⟩:=F_ c f;have⟨a9,b0⟩:=F_ b (F a);generalize (F (Z a b Aj).e.f)=c1 at *;generalize (F (Z a b Aj).e.c)=c2 at *
  generalize (Z a b Aj).e.a=c6 at *;generalize (Z a b Aj).e.b=l at *;generalize Dc a (ZU c d)=k at *;go_wp2_with fail
  apply (n _).m;rintro x c5 ⟨rfl,s⟩;have y:=Y (h.T (s.m h.size));have a4:i64.wrap ((k:E)+((l:E)+2))=((k+(l+2):H):E):=(by rw[Au O O];omega);have⟨c4,w⟩:=W_ (k+(l+2));rw[<- w] at a4 i;clear s w h n;go_wp2;go_roundw;exact⟨c+1,g_,O,by rw[i],y⟩;exact z_
 have k:¬(c:E)<(f:E):=O;have i:Hid (Dc a (ZU c d)=Dc a d):=w_;go_wp2;go_ret;rw[<- i];exact⟨X,h⟩
def Vj(b:U KS)(a:U E):ZG:=(a.all λc=>ZE (c<F b))&&(ZE (0<F a)&&ZE (Dc b a<=40))
def Zep(p:H){d:H}(o x:H)(j:Y0 Addr)(N:ZY)(M:U (ZY×ZY))(c:U KS)(a:U E)(f:ZT)(k:DkX f p N M c)(q:Ad f x (V j d o) a)(l:F a=d)(G:d<=1000)(g:∀e∈a,0<=e)(D:∀K∈c,K.e.b<=16):C_ 228 #[P_ p,V j d o] f (U_ (ZR (Vj c a)) f):=by
 have v:=Y g;have u:=Y (λs=>kz _ j _ _ k q l G s D);obtain⟨a0,a1,rfl⟩:=k.w.a;have P:=k.t;generalize R:F c=h at *;refine q_ ?_;go_wp2_with fail
 go_loopw [9] (λi m=>∃b:H,i=ZX ZQ b/\b<=d/\Hid (((ZU b a).all λe=>ZE (e<F c))=Z0)/\m=f) (λi _=>d-ZL (ZA i))
 exact⟨0,X,v_,X,X⟩;obtain⟨b,rfl,s,w,L⟩:=hrel;subst L
 by_cases g:b<d
 ·have y:=l ▸ g;obtain⟨a2,rfl,_,_,a3,_⟩:=q.b l g;have S:Z a b 0∈a:=w_;have Q:ZU (b+1) a=ZU b a++[Z a b 0]:=(by rw[Qi y];grind);have t:Hid (Z a b 0<(h:E)->((ZU (b+1) a).all λe=>ZE (e<F c))=Z0):=w_
  have r:Hid (¬Z a b 0<(h:E)->Vj c a=ZZ):=λm=>by grind [Vj]
  have⟨z,A⟩:=F_ b d;generalize (Z a) b 0=n at *
  by_cases m:n<(h:E)
  ·have i:=Y (t m);have W:¬(h:E)<=n:=O;go_wp2;go_roundw;exact⟨b+1,g_,O,i,trivial⟩;exact z_
  have i:=Y (r m);go_wp2;go_ret;exact⟨by rw[i];rfl,y_⟩
 have S:¬(b:E)<(d:E):=O
 have Q:(a.all λe=>ZE (e<F c))=Z0:=by
  have:=w.out
  grind
 have m:Hid (Vj c a=(ZE (0<d)&&ZE (Dc c a<=40))):=(by show _=_;unfold Vj;grind);have z:=u (λe i=>⟨v e i,w_⟩);generalize Dc c a=t at *
 by_cases r:0<d
 ·have y:ZE ((0:E)<(d:E))=Z0:=t_
  have i:Hid (Vj c a=ZE ((t:E)<=40)):=by
   show _=_;rw[m,aF r,Bool.true_and]
   grind
  go_wp2_with fail
  apply z.m;rintro n W ⟨rfl,A⟩;go_wp2;go_ret;exact⟨by rw[i];rfl,A⟩
 have y:ZE ((0:E)<(d:E))=ZZ:=t_;have i:Hid (Vj c a=ZZ):=(by show _=_;rw[m,aE r];rfl);go_wp2;go_ret;exact⟨by rw[i];rfl,y_⟩
def Wx(c:ES)(b:H)(a:E):ZG:=Oy c a&&!decide (a=(b:E))
def Wb{a:ES}(j k:Y0 Addr){h:H}(l:H){o:H}(m c:H)(b:E)(d:ZT)(w:F a.f=h)(x:F a.c=o)(v:a.b<=1000000):C_ 284 #[Y9 #[ZR a.a,V j h l,V k o m,I (c:H)],I b] d (U_ (ZR (Wx a c b)) d):=by
 have⟨y,g⟩:=W_ (ZN d (O_ #[ZR a.a,V j h l,V k o m,I (c:H)] 172));have s:KbX _ _ _ _ _ c:=⟨g ▸ (ha_ d _)⟩;have e:K (E_ d y):=(by show Below _ _ _;rw[g];exact r_);have p:K (∀i,C_ 226 #[Y9 #[ZR a.a,V j h l,_,I (c:H)],I b] i _):=λi=>Ws a _ k _ m b i w x v;have D:K (Wx a c b=(_&&_)):=rfl;generalize Wx a c b=q at *;generalize Oy a b=u at *;generalize a.a=L at *
 cases u with
 | false=>
  have r:K (q=ZZ):=w_;refine q_ ?_;go_wp2_with fail
  rw[<- g];apply (p _).m;rintro A z ⟨rfl,f⟩;have n:=e.T (f.m e.size);go_wp2;go_ret;exact⟨by rw[r];rfl,n⟩
 | true=>
  refine q_ ?_;go_wp2_with fail
  rw[<- g];apply (p _).m;rintro A z ⟨rfl,f⟩;have n:=e.T (f.m e.size);have t:=s.q f;have G:=t.e;have r:K (q=(b !=(c:E))):=w_;go_wp2;go_ret;exact⟨by rw[r];rfl,n⟩
def Ii(a:U KS):U E->E->ZG
 |[],_=>ZZ
 |b::d,c=>if Oy (Z a (ZL b) Aj).e c=Z0 then Wx (Z a (ZL b) Aj).e (Z a (ZL b) Aj).d c else Ii a d (c-(((Z a (ZL b) Aj).e.b:H)+2))
def Zcw(P g N b3:H)(M:Y0 Addr)(d4:ZY)(d0:U (ZY×ZY))(a:U KS)(f:U E)(x:E)(h:ZT)(b7:DkX h P d4 d0 a)(b4:Ad h b3 (V M g N) f)(A:F f=g)(f1:g<=1000)(t:∀b∈f,0<=b/\b<F a)(b6:∀K∈a,K.e.b<=16)(f3:1<=x)(f4:x<=1000):C_ 283 #[P_ P,V M g N,I x] h (U_ (ZR (Ii a f (x-1))) h):=by
 have a6:Hid (∀c,E_ h c->_):=λc y=>b7.q y;have b1:Hid (∀c,E_ h c->_):=λc y=>b4.q y;have a9:=Y t;have⟨o,R⟩:=Z_ (Ii a f (x-1));rw[R];refine q_ ?_;go_wp2_with fail
 go_loopw [7,15] (λj i k=>∃(e:H) (d:E),i=ZX ZQ e/\e<=g/\j=ZX ZQ d/\0<=d/\d<=1000/\Hid (Ii a (ZF e f) d=o)/\Hid (E_ h k)) (λ_ i _=>g-ZL (ZA i))
 exact⟨0,x-1,X,v_,g_,O,O,R,y_⟩;obtain⟨e,d,rfl,e9,rfl,e6,e7,G,j⟩:=hrel
 by_cases t:e<g
 ·have c2:=A ▸ t;obtain⟨f7,rfl,_,_,d6,_⟩:=(b1 wr j).b A t;have c3:Z f e 0∈f:=w_;have b9:=a9 _ c3;have b8:ZF e f=Z f e 0::ZF (e+1) f:=(by rw[aN c2];grind);have l:=G.out;rw[b8] at l;simp only[Ii] at l;obtain⟨b,c0⟩:∃b:H,Z f e 0=(b:E):=⟨ZL (Z f e 0),O⟩;rw[c0] at d6 b9 l;rw[Int.toNat_natCast] at l;have c1:b<F a:=O;have a0:=a6 _ j;obtain⟨f6,f5,p,r,q,s,rfl,f0,e2,e3,e4,e5,_,_⟩:=a0.w.at c1;have e8:=b6 (Z a b Aj) w_;have e1:=a0.t;have a7:Hid (∀c,C_ 226 #[Y9 #[ZR (Z a b Aj).e.a,_,_,I ((Z a b Aj).d:H)],I d] c _):=λc=>Ws _ p q r s d c X X O;have b2:Hid (∀c,C_ 284 _ c (U_ (ZR (Wx (Z a b Aj).e (Z a b Aj).d d)) c)):=λc=>Wb p q r s _ d c X X O
  have a8:Hid (∀c,C_ 146 _ c (U_ (ZX ZQ (((Z a b Aj).e.b:H)+2)) c)):=λc=>Fq _ p q _ r _ s c (by show(Z a b Aj).e.b<=_;omega)
  have b0:Hid (Oy (Z a b Aj).e d=ZZ->((Z a b Aj).e.b:E)+2<=d):=λa1=>by unfold Oy at a1;simpa using a1
  have L:=Y l;have⟨d7,d8⟩:=F_ e g;have⟨d9,e0⟩:=F_ b (F a);generalize (F (Z a b Aj).e.f)=d1 at *;generalize (F (Z a b Aj).e.c)=d2 at *;generalize (Z a b Aj).e.a=a4 at *;generalize (Z a b Aj).e.b=w at *;generalize (Z a b Aj).d=Q at *;generalize Oy (Z a b Aj).e d=b5 at *;generalize Wx (Z a b Aj).e Q d=d3 at *;go_upto_region 6 with fail;generalize S:ZN wr (O_ #[ZR a4,V p d1 r,V q d2 s,I (Q:H)] 172)=a3;have k:Hid (KbX a3 _ a4 _ _ _):=⟨by rw[<- S];exact hn_⟩;have D:Hid (E_ h a3):=(by show Below _ _ _;rw[<- S];exact j.alloc j.size _);have c6:=k.t;have c7:=k.D;have c8:=k.G;have c9:=k.e;go_wp2_with fail
  apply (a7 _).m;rintro a5 f9 ⟨rfl,W⟩;have⟨m,n⟩:=Y_ (D.T (W.m D.size)) (k.q W);have c6:=n.t;have c7:=n.D;have c8:=n.G;have c9:=n.e
  cases b5 with
  | true=>
   have i:Hid (d3=o):=(by have:=L.out;rw[aD X] at this;exact this);go_wp2_with fail
   apply (b2 _).m;rintro a5 d5 ⟨rfl,z⟩;have v:=Y (m.T (z.m m.size));go_wp2;go_ret;rw[<- i];exact⟨X,v⟩
  | false=>
   have i:Hid (Ii a (ZF (e+1) f) (d-((w:E)+2))=o):=(by have:=L.out;rw[aC s_] at this;exact this);have f2:=b0 X;go_wp2_with fail
   apply (a8 _).m;rintro a5 d5 ⟨rfl,z⟩;have v:=Y (m.T (z.m m.size));have⟨u,a2⟩:=W_ (d-((w:E)+2));have f8:i64.wrap (d-((w:E)+2))=u:=a2 ▸ (Au O O);rw[<- a2] at i;have c4:0<=u:=O;have c5:u<=1000:=O;go_wp2;go_roundw;exact⟨e+1,u,g_,O,w_,c4,c5,i,v⟩;exact z_
 have k:¬(e:E)<(g:E):=O;have i:Hid (ZZ=o):=(by have:=G.out;rw[drop_eq_nil_of_le (p_ A)] at this;exact this);go_wp2;go_ret;rw[<- i];exact⟨X,j⟩
def Pz(c:U E)(b:U E):H->E×U E
 |0=>(-1,c)
 |a+1=>((Pz c b a).1+Z b (2*a) 0,if 0<=(Pz c b a).1+Z b (2*a) 0/\(Pz c b a).1+Z b (2*a) 0<F c then(Pz c b a).2.set (ZL ((Pz c b a).1+Z b (2*a) 0)) (Z b (2*a+1) 0) else(Pz c b a).2)
theorem Uy(a c:U E):∀b,F (Pz a c b).2=F a
 |0=>X
 | b+1=>by
  have:=Uy a c b;simp only[Pz]
  grind
def Zgy{c:U E}(d:∀x∈c,0<=x/\x<=255)(b:U E):∀a,-1<=(Pz b c a).1/\(Pz b c a).1<=255*(a:E)
 |0=>by simp[Pz]
 |a+1=>by have:=Zgy d b a;have:=Iu d (2*a);simp only[Pz];omega
structure Mb(i wr:ZT)(e b a h f:H)(g d:U E):Prop where
 u:Cn wr b g
 D:Ad wr e (L_ a h f) d
 t:Aa (λc=>c=b∨c=a) i wr
 o:b≠a
section
variable {w wr w2:ZT} {base a g n c:H} {l b N:U E}
def Mb.i(d:Mb w wr base a g n c l N)(j:Cn w2 a b)(i:Aa (λf=>f=a) wr w2):Mb w w2 base a g n c b N:=
 ⟨j,i.M d.D (λf h e=>by simp[ZW] at h;exact d.o (e.s.T h.s)),d.t.T (i.m (λf _ e=>ZM e)),d.o⟩
def Mb.q(b:Mb w wr base a g n c l N)(d:E_ wr w2):=b.i (b.u.q d) (.a d)
def Mb.put(b:Mb w wr base a g n c l N)(e:n=F N)(k:H)(d:E):Mb w (ZO wr (J g k) (I d)) base a g n c l (N.set k d):=by exact⟨b.u.p ((Aa.refl (λf=>f=g) wr).setCell (p:=(J g k)) (λ_=>X) _) b.o,(b.D.put (k:=k) e d).1,b.t.setCell (p:=(J g k)) (λ_=>ZJ X) _,b.o⟩
end
def Zjv{p:Prop}(h:p:=by
 have s:K (Mb k A p e m f o (ZF (2*(a+1)) b) (Pz c b (a+1)).2):=by
  have:=t.out;rw[n]
  grind
 have r:K ((Pz c b (a+1)).1=i):=(by show _=_;rw[n]);go_wp2;go_roundw;exact⟨a+1,g_,O,by rw[r],s⟩
 exact z_):p:=h
theorem pg(p e m f o:H)(d c:U E)(k:ZT)(u:Mb k k p e m f o d c)(R:F c=f):C_ 280 #[YX (.func 165) #[P_ e] #[],L_ m f o] k λl i=>l=ZI (Y5 #[])/\Mb k i p e m f o (ZF (2*ZL (d.headD 0)) d.tail) (Pz c d.tail (ZL (d.headD 0))).2:=by
 have b7:=Iu u.u.a 0;have b8:d.headD 0=Z d 0 0:=(by have:=Fx d 0;grind);obtain⟨h,a7⟩:∃h:H,d.headD 0=(h:E):=⟨ZL (d.headD 0),O⟩;have c1:h<=255:=O
 have w:K (∀(g:ZT) (d:U E) (j:E),d.headD 0=j->Cn g e d->C_ 165 #[P_ e] g λl i=>l=ZI (ZX ZQ j)/\Cn i e d.tail/\Aa (λa=>a=e) g i):=λg d j v a5=>by rw[<- v];exact Eg e d g a5
 have N:=w k d (h:E) a7 u.u;have a4:ZL (d.headD 0)=h:=O;rw[a4];have⟨b,P⟩:=Z_ d.tail;rw[P] at N ⊢;have D:K (∀j∈b,0<=j/\j<=255):=λj v=>u.u.a j (by rw[<- P] at v;exact mem_of_mem_tail v);refine q_ ?_;go_wp2_with fail
 apply N.m;rintro l c5 ⟨rfl,a8,b1⟩;have a1:=Y (u.i a8 b1);go_wp2_with fail
 go_loopw [4,8] (λn i q=>∃a:H,i=ZX ZQ a/\a<=h/\n=ZX ZQ (Pz c b a).1/\K (Mb k q p e m f o (ZF (2*a) b) (Pz c b a).2)) (λ_ i _=>h-ZL (ZA i))
 exact⟨0,X,v_,X,a1⟩;obtain⟨a,rfl,b9,rfl,x⟩:=hrel
 by_cases c0:a<h
 ·have b6:(a:E)<(h:E):=O;have c2:=Zgy D c a;have c3:=Iu D (2*a);have y:=Uy c b a;rw[R] at y;have n:K (Pz c b (a+1)=((Pz c b a).1+Z b (2*a) 0,if 0<=(Pz c b a).1+Z b (2*a) 0/\(Pz c b a).1+Z b (2*a) 0<(f:E) then(Pz c b a).2.set (ZL ((Pz c b a).1+Z b (2*a) 0)) (Z b (2*a+1) 0) else(Pz c b a).2)):=(by show _=_;rw[<- R];rfl);have M:=w wr (ZF (2*a) b) _ (Fx b (2*a)) x.u;rw[Iq] at M
  have a0:K (∀g,Cn g e (ZF (2*a+1) b)->C_ 165 #[P_ e] g λl i=>l=ZI (ZX ZQ (Z b (2*a+1) 0))/\Cn i e (ZF (2*(a+1)) b)/\Aa (λa=>a=e) g i):=λg a6=>by have:=w g (ZF (2*a+1) b) _ (Fx b (2*a+1)) a6;rw[Iq] at this;exact this
  generalize (Z b) (2*a) 0=j at *;generalize (Z b) (2*a+1) 0=W at *;generalize (Pz c b a).1=S at *;generalize (Pz c b a).2=b5 at *;have⟨i,z⟩:=W_ (S+j);have c4:i64.wrap (S+j)=i:=z ▸ (Au O O);rw[<- z] at n;clear z;go_wp2_with fail
  apply M.m;rintro l c6 ⟨rfl,a9,b2⟩;have G:=Y (x.i a9 b2);go_wp2_with fail
  apply (a0 _ G.u).m;rintro l A ⟨rfl,b0,b3⟩;have t:=Y (G.i b0 b3)
  by_cases L:0<=i
  ·have a2:ZE ((0:E)<=i)=Z0:=by simp[L]
   by_cases Q:i<(f:E)
   ·have a3:ZE (i<(f:E))=Z0:=(by simp[Q]);obtain⟨q,rfl⟩:∃q:H,i=(q:E):=⟨ZL i,O⟩;have b4:q<f:=O;have⟨c7,c8⟩:=t.D.c y.s b4;have s:K (Mb k (ZO A (J m q) (I W)) p e m f o (ZF (2*(a+1)) b) (Pz c b (a+1)).2):=(by have:=t.put y.s q W;rw[n];rw[aD ⟨L,Q⟩,Int.toNat_natCast];exact this);have r:K ((Pz c b (a+1)).1=(q:E)):=(by show _=_;rw[n]);go_wp2;go_roundw;exact⟨a+1,g_,O,by rw[r],s⟩;exact z_
   have a3:ZE (i<(f:E))=ZZ:=t_;exact Zjv
  have a2:ZE ((0:E)<=i)=ZZ:=t_;exact Zjv
 have n:¬(a:E)<(h:E):=O;have i:a=h:=O;subst i;go_wp2;go_end0;exact⟨X,x⟩
def Vf(b:U E)(a:H):H:=ZL (Z b (a/8) 0)/2^(a%8)%2
def ZfA(b:U E):∀a,Vf b a<=1:=λa=>by unfold Vf;omega
theorem vd(c:U E)(b:H):∀a,a<=8->Hk (Vf c) (8*b) a=ZL (Z c b 0)%2^a
 |0,_=>by simp[Hk,mod_one]
 | a+1,d=>by
  show Hk (Vf c) (8*b) a+Vf c (8*b+a)*2^a=_;rw[(vd c b a O),Nat.pow_succ,mod_mul]
  grind [Vf]
def ZeG{c:U E}(e:∀x∈c,0<=x/\x<=255)(a:H):Bg (Vf c) a (8*a)=Ct (λb=>Z c b 0) a a:=by
 rw[Im];unfold Bg;refine map_congr_left λb d=>?_;have d:=mem_range.1 d;have:=Iu e b
 grind [Hf,vd]
def ZhX{b:H->H}(a:H)(c:H->E):Bg b a 0=Ct c a 0:=by rw[In];unfold Bg;refine eq_replicate_iff.2 ⟨s_,λf d=>?_⟩;obtain⟨e,_,rfl⟩:=mem_map.1 d;unfold Hf;rw[show min 8 (0-8*e)=0 by omega];rfl
def Zpo{x:E}(a:0<=x/\x<=255):IntKind.u8.wrap x=x:=by simp[wrap,IntKind.bits,signed];omega
section
variable {w w':ZT} {base dd a n d:H} {bs:U E}
def Oo.p{S:H->Prop}(b:Oo w base dd a n d bs)(c:Aa S w w')(e:¬S dd)(h:¬S a):Oo w' base dd a n d bs:=
 ⟨c.g b.r e,c.M b.M (λi f g=>by simp[ZW] at f;grind)⟩
def Oo.q(b:Oo w base dd a n d bs)(c:E_ w w'):Oo w' base dd a n d bs:=b.p (S:=λ_=>False) (.a c) id id
def Oo.G(c:Oo w base dd a n d bs){b:H}(e:F bs=b):ZV w (J dd 2)=T (L_ a b b):=by
 have:=M_ 2 _ 396 (0,0) c.r
 grind
end
def Az.d{c:ZT}{d:H}{b:ZY}{a:U E}(e:Az c d b a):Az c 0 b a:=by
 obtain⟨f,g⟩:=e;refine⟨f,?_⟩
 grind
def cv(b:H->E)(c:U E)(a:H):U E:=(range a).map b++ZF a c
def ZhV(b:H->E)(a:U E):cv b a 0=a:=by simp[cv]
def ZhU(c:H->E){b:U E}{a:H}(d:F b=a):cv c b a=(range a).map c:=by simp[cv,drop_eq_nil_of_le (show F b<=a by omega)]
def Zk3(c:H->E)(a:U E){b:H}(d:b<=F a):F (cv c a b)=F a:=by simp[cv];omega
def Zk4(b:H->E){c:U E}{a:H}(d:a<F c):(cv b c a).set a (b a)=cv b c (a+1):=by unfold cv;rw[aN d,set_append_right _ _ s_,length_map,length_range,Nat.sub_self,set_cons_zero,range_succ,map_append,append_assoc];rfl
def dnN(b:U E)(c a:H):U E:=(range c).map λd=>((Hk (Vf b) (d*a) a:H):E)
def sx(t m h b o e:H)(d k:U E)(i:ZT)(A:Mb i i t m h b o d k)(z:F k=b)(a1:b<=200)(G:e<=6)(b9:h<B i.1):C_ 281 #[YX (.func 165) #[P_ m] #[],L_ h b o,I (e:H)] i λq c=>q=ZI (Y5 #[])/\Mb i c t m h b o (ZF ((b*e+7)/8) d) (dnN d b e):=by
 have W:=Zb b e 0 0 [] i (by exact Ad.nil) X v_ a1 G;have⟨g,N⟩:=W_ ((b*e+7)/8);rw[Nat.zero_mul,<- N] at W;rw[<- N];have c1:=Nat.mul_le_mul a1 G;have c0:g<=151:=O;have b7:b*e<=8*g:=O;have R:=Y A.u.a;have c3:=A.u.lt;clear N;refine q_ ?_;go_wp2_with fail
 apply W.m;rintro q c5 ⟨c4,rfl,⟨u,f,rfl,b8,D⟩,b0⟩;rw[ZhX g (λc=>Z d c 0)] at D;have a6:=Y (A.q b0);have b6:=D.G (Fg _ v_);go_wp2_with fail
 go_loopw [19] (λn j=>∃a:H,n=ZX ZQ a/\a<=g/\K (Oo j (B i.1) u f b e (Ct (λc=>Z d c 0) g a))/\K (Mb i j t m h b o (ZF a d) k)) (λn _=>g-ZL (ZA n))
 exact⟨0,X,v_,D,a6⟩;obtain⟨a,rfl,M,l,s⟩:=hrel
 by_cases a0:a<g
 ·have⟨a8,a9⟩:=F_ a g
  have Q:=Y (λc j=>by
   have:=Eg m (ZF a d) c j;rw[Fx,Iq] at this
   exact this)
  have b1:=Zpo (Iu R a);have S:=Y (Kg (λc=>Z d c 0) a0);have⟨r,a7⟩:=Z_ (Z d a 0);rw[a7] at b1 S Q;go_upto_region 4 with fail;refine Af (λc=>D_ c _ 2 _) 9 k_ (l.G (Fg _ M)) (λhHeld=>?_);refine G_ ?_;refine on_ 6 λKK hK=>?_;go_simp;apply (Q _ (s.q y_.drew).u).m;rintro q v ⟨rfl,a5,a2⟩;have x:=Y ((s.q y_.drew).i a5 a2)
  have j:=Y ((l.q y_.drew).p a2 O (λa4=>by
   have:=(B_ l.M f X).1
   omega))
  have L:=Fg (λc=>Z d c 0) M;have w:=j.M;rw[L] at w;have⟨b4,b5⟩:=w.c L.s a0;go_simp;refine hK _ _ (j.G (Fg _ M)) (λhHeld=>?_);refine G_ ?_;refine la1_ λKK hK=>?_;go_simp;apply hK _ _;refine Fr k_ ?_ _;have a3:K (Oo (ZO v (J f a) (ZX .u8 r)) (B i.1) u f b e (Ct (λc=>Z d c 0) g (a+1))):=by have w:=j.M;have P:=(Az.put (k:=a) w X r).1;rw[S] at P;have y:F (Ct (λc=>Z d c 0) g (a+1))=F (Ct (λc=>Z d c 0) g a):=(by rw[Fg _ O,L]);have c:Aa _ v (ZO v _ (ZX .u8 r)):=(Aa.refl (λn=>n=f) _).setCell (p:=(J f a)) (λ_=>X) _;refine⟨?_,y ▸ P⟩;rw[y];exact c.g j.r (λq=>Ag w (k:=f) X j.r C q.s)
  have y:K (Mb i (ZO v (J f a) (ZX .u8 r)) t m h b o (ZF (a+1) d) k):=(by have a4:=(B_ j.M f X).1;have c:Aa _ v (ZO v _ (ZX .u8 r)):=(Aa.refl (λn=>n=f) _).setCell (p:=(J f a)) (λ_=>X) _;exact⟨x.u.p c O,c.M x.D (λn P q=>by simp[ZW] at P;omega),x.t.setCell (p:=(J f a)) (λP=>by simp at P;omega) _,x.o⟩);go_wp2;go_roundw;exact⟨a+1,g_,O,a3,y⟩;exact z_
 have c2:¬(a:E)<(g:E):=O;have b1:a=g:=O;subst b1;have v:K (Oo wr 0 u f b e (Bg (Vf d) a (8*a))):=(by have:=l.out;rw[<- ZeG R a] at this;exact⟨this.r,this.M.d⟩);have⟨w,a3⟩:=Y_ s.out ((B_ l.M f X).1);go_wp2_with fail
 obtain⟨j,Q⟩:∃j:H->E,j=λc=>((Hk (Vf d) (c*e) e:H):E):=⟨_,X⟩
 have a5:K (∀c,j c=_):=λc=>by rw[Q]
 have a4:K (dnN d b e=cv j k b):=(by show _=_;rw[ZhU j z,Q];rfl);go_loopw [34] (λn r=>∃c:H,n=ZX ZQ c/\c<=b/\K (Oo r 0 u f b e (Bg (Vf d) a (8*a)))/\K (Mb i r t m h b o (ZF a d) (cv j k c))) (λn _=>b-ZL (ZA n))
 exact⟨0,X,v_,v,by rw[ZhV];exact w⟩;obtain⟨c,rfl,b2,l,s⟩:=hrel
 by_cases x:c<b
 ·have⟨a8,a9⟩:=F_ c b
  have b3:c*e+e<=8*a:=by
   have:(c+1)*e<=b*e:=aK e x
   grind
  have P:=Oe u f b e a c wr l (ZfA d) G b3 x_ O;rw[<- a5 c] at P;have a7:=Y (Zk4 j (z ▸ x));have a2:F (cv j k c)=b:=(by rw[Zk3 j k (z ▸ b2),z]);generalize j c=n at *;go_wp2_with fail
  apply P.m;rintro q L ⟨rfl,S⟩;have y:=Y (s.q S);have⟨b4,b5⟩:=y.D.c a2.s x;have w:K (Mb i (ZO L (J h c) (I n)) t m h b o (ZF a d) (cv j k (c+1))):=(by have:=y.put a2.s c n;rw[a7] at this;exact this);have v:K (Oo (ZO L (J h c) (I n)) 0 u f b e (Bg (Vf d) a (8*a))):=(by exact(l.q S).p ((Aa.refl (λr=>r=h) L).setCell (p:=(J h c)) (λ_=>X) _) O (p_ a3.out));go_wp2;go_roundw;exact⟨c+1,g_,O,v,w⟩;exact z_
 have r:¬(c:E)<(b:E):=O;have n:c=b:=O;subst n;go_wp2;go_end0;rw[a4];exact⟨X,s⟩
def Hl(a:U E)(b c:H):U E:=if a.headD 0=115 then(Pz (Y6 b 0) a.tail.tail (ZL (a.tail.headD 0))).2 else dnN a.tail b (Lib.bitLen c)
def rdColR(a:U E)(c b:H):U E:=if a.headD 0=115 then ZF (2*ZL (a.tail.headD 0)) a.tail.tail else ZF ((c*Lib.bitLen b+7)/8) a.tail
def Ix(b:U E)(c a:H):U H:=(Hl b c a).map ZL
theorem ZeZ{e:U E}(d:∀x∈e,0<=x/\x<=255){f:H}:∀b,∀x∈(Pz (Y6 f 0) e b).2,0<=x/\x<=255
 |0=>λx a=>p_ (eq_of_mem_replicate a)
 | b +1=>λx a=>by
  simp only[Pz] at a;split at a
  ·rcases mem_or_eq_of_mem_set a with c|c
   exact ZeZ d b x c;rw[c];exact Iu d _
  exact ZeZ d b x a
def ZoA{c:U E}{f:H}{a:H}(d:a<=6):∀b∈dnN c f a,0<=b/\b<=255:=λb e=>by obtain⟨g,_,rfl⟩:=mem_map.1 e;have h:=Qz (ZfA c) (g*a) a;have i:(2:H)^a<=2^6:=Nat.pow_le_pow_right C d;omega
def Uw{b:U E}(e:∀x∈b,0<=x/\x<=255)(c:H){a:H}(d:a<64):F (Hl b c a)=c/\∀x∈Hl b c a,0<=x/\x<=255:=by
 unfold Hl;split
 ·grind [Uy,ZeZ,mem_of_mem_tail]
 exact⟨by simp[dnN],ZoA (Gj d)⟩
def Zeu{a:U E}(b:∀x∈a,0<=x/\x<=255):An (a.map ZL)=a:=by
 unfold An;rw[map_map]
 conv=>rhs;rw[<- map_id a]
 grind [map_congr_left]
def di{c:U E}(d:∀x∈c,0<=x/\x<=255)(a:H){b:H}(e:b<64):F (Ix c a b)=a:=by unfold Ix;rw[length_map];exact(Uw d a e).1
def Za7(f a c:H)(e:U E)(b:ZT)(q:Cn b f e)(R:a<=200)(s:c<64):C_ 229 #[YX (.func 165) #[P_ f] #[],I (a:H),I (c:H)] b λg j=>∃i,g=ZI i/\Id j (B b.1) i (Ix e a c) c/\Cn j f (rdColR e a c)/\Aa (λl=>l=f) b j:=by
 have a7:=Gm a O;have a8:=q.lt;have⟨z,y⟩:=W_ (ZN b (O_ (YV #[I 0] a) 3));have a1:Ad z (B b.1) (L_ (B b.1) a a) (Y6 a 0):=y ▸ (Gl a b (B b.1) O x_);have Q:E_ b z:=y ▸ r_;have P:=Eg f e z (q.q Q);have M:=K_ a1 Q;have⟨a6,a2⟩:=Uw q.a a s;have N:K (∀d,Ad d 0 (L_ (B b.1) a a) (Hl e a c)->C_ 257 #[L_ (B b.1) a a,I (c:H)] d λg j=>∃i,g=ZI i/\Id j (B d.1) i (Ix e a c) c/\E_ d j):=λd m=>ue a a c (Ix e a c) d (by unfold Ix;rw[Zeu a2];exact m) (di q.a a s) R s
 have W:K (∀d h,Mb d d (B b.1) f (B b.1) a a e.tail (Y6 a 0)->e.headD 0=h->h=115->C_ 280 #[YX (.func 165) #[P_ f] #[],L_ (B b.1) a a] d λg j=>g=ZI (Y5 #[])/\Mb d j (B b.1) f (B b.1) a a (rdColR e a c) (Hl e a c)):=λd h m o r=>by grind [pg,rdColR,Hl]
 have a0:K (∀d h,Mb d d (B b.1) f (B b.1) a a e.tail (Y6 a 0)->e.headD 0=h->¬h=115->C_ 281 #[YX (.func 165) #[P_ f] #[],L_ (B b.1) a a,I (Lib.bitLen c:H)] d λg j=>g=ZI (Y5 #[])/\Mb d j (B b.1) f (B b.1) a a (rdColR e a c) (Hl e a c)):=λd h m o r=>by
  have:=sx (B b.1) f (B b.1) a a (Lib.bitLen c) e.tail (Y6 a 0) d m s_ R (Gj s) ((B_ m.D (B b.1) X).2)
  grind [rdColR,Hl]
 have⟨h,o⟩:=Z_ (e.headD 0);rw[o] at P;generalize Hl e a c=a5 at *;generalize rdColR e a c=G at *;generalize Ix e a c=D at *;refine q_ ?_;go_wp2_with fail
 rw[<- y];apply P.m;rintro g t ⟨rfl,a3,S⟩;have L:K (Mb t t (B b.1) f (B b.1) a a e.tail (Y6 a 0)):=⟨a3,S.M M.1 (λl i g=>by simp[ZW] at i;omega),Aa.refl _ _,O⟩;have p:=Y ((Aa.a M.2).T S)
 by_cases r:h=115
 ·have w:=W t h L o r;go_wp2_with fail
  apply w.m;rintro g A ⟨rfl,j⟩;have v:=N A (j.D.m v_);go_wp2_with fail
  apply v.m;rintro g k ⟨i,rfl,x,n⟩;have u:K (Id k (B b.1) i D c/\Cn k f G/\Aa (λl=>l=f) b k):=(by refine⟨x.m (aG p.size j.t.size),j.u.q n,?_⟩;exact(p.c j.t (λl g=>O)).q n);go_wp2;go_ret;exact⟨i,X,u⟩
 have w:=a0 t h L o r;have a9:(h==115)=ZZ:=w_;go_wp2_with fail
 apply ((λd=>ld c d O) _).m;rintro g b0 ⟨rfl,a4⟩;obtain rfl:=a4.s;go_wp2_with fail
 apply w.m;rintro g A ⟨rfl,j⟩;have v:=N A (j.D.m v_);go_wp2_with fail
 apply v.m;rintro g k ⟨i,rfl,x,n⟩;have u:K (Id k (B b.1) i D c/\Cn k f G/\Aa (λl=>l=f) b k):=(by refine⟨x.m (aG p.size j.t.size),j.u.q n,?_⟩;exact(p.c j.t (λl g=>O)).q n);go_wp2;go_ret;exact⟨i,X,u⟩
def Dx(b:U KS)(d:U E)(c:U H):ZG:=c.all λa=>ZE (a=0)||Ii b d ((a:E)-1)
def nr {t k p z g l s h A:H} {o:Y0 Addr} {S:ZY} {R:U (ZY×ZY)} {d:U KS} {e:U E} {c:U H} {f:ZT} (b8:DkX f t S R d) (a8:Ad f z (V o k p) e) (c1:F e=k) (c2:k<=1000) (b9:∀G∈e,0<=G/\G<F d) (b7:∀K∈d,K.e.b<=16) (b1:F c=h) (d5:h<=200) (b2:∀x∈c,x<=255) (c6:l=382/\s=323∨l=380/\s=371) (d4:∀a:ZT,(method 535 l (P_ g) "At").run Y8 a=.ok (s,P_ g) a) (c5:∀a:ZT,E_ f a->(method 535 l (P_ g) "Rows").run Y8 a=.ok (299,Y9 #[I (h:H),I (A:H)]) a) (b0:∀a:ZT,E_ f a->∀b,b<h->C_ s #[P_ g,I (b:H)] a (U_ (ZX ZQ (c.getD b 0:H)) a)):C_ 231 #[P_ t,Y9 #[V o k p,.iface l (P_ g)]] f (U_ (ZR (Dx d e c)) f):=by
 have⟨m,u⟩:=W_ (ZN f (O_ #[V o k p,.iface l (P_ g)] 163));have N:H_ m (B f.1) #[V o k p,.iface l (P_ g)] 163:=u ▸ (ha_ f _);have M:E_ f m:=u ▸ r_
 have i:Hid (∀a,E_ m a->E_ f a/\D_ a (B f.1) 0 (V o k p)/\D_ a (B f.1) 1 (.iface l (P_ g))):=λa j=>by have n:=(j.block _ ((Qb N).1)).T N;exact⟨M.T (j.m M.size),M_ 0 _ 163 (0,0) n,M_ 1 _ 163 (0,0) n⟩
 have a2:Hid (∀a:ZT,E_ m a->(method 535 l (P_ g) "Rows").run Y8 a=.ok (299,Y9 #[I (h:H),I (A:H)]) a):=λa j=>c5 a (i a j).1;have a0:Hid (∀a:ZT,E_ m a->∀b,b<h->C_ s #[P_ g,I (b:H)] a (U_ (ZX ZQ (c.getD b 0:H)) a)):=λa j b P=>b0 a (i a j).1 b P;have a5:Hid (∀a:ZT,E_ m a->∀x:H,1<=x->x<=255->C_ 283 #[P_ t,V o k p,I (x:H)] a (U_ (ZR (Ii d e ((x:E)-1))) a)):=λa j x L d2=>Zcw t k p z o S R d e x a (b8.q (i a j).1) (a8.q (i a j).1) c1 c2 b9 b7 O O;have⟨_,v,w⟩:=i m y_;have c4:=a2 m y_;refine q_ ?_;rw[u] at c4 v w;go_wp2_with fail
 rw[<- u];apply (Wa _ _ _).m;rintro D d7 ⟨rfl,b4⟩;go_wp2_with fail
 go_loopw [10] (λn q=>∃b:H,n=ZX ZQ b/\b<=h/\Hid (Dx d e (ZU b c)=Z0)/\Hid (E_ m q)) (λn _=>h-ZL (ZA n))
 exact⟨0,X,v_,X,b4⟩;obtain⟨b,rfl,P,a7,q⟩:=hrel
 by_cases Q:b<h
 ·have c0:b<F c:=b1 ▸ Q;have c3:c.getD b 0∈c:=w_;have d3:ZU (b+1) c=ZU b c++[c.getD b 0]:=(by rw[Qi c0];grind);have c9:=b2 _ c3
  have a3:Hid ((ZE (c.getD b 0=0)||Ii d e ((c.getD b 0:E)-1))=Z0->Dx d e (ZU (b+1) c)=Z0):=λc7=>by
   have L:=a7.out;unfold Dx at L ⊢
   grind
  have d1:Hid ((ZE (c.getD b 0=0)||Ii d e ((c.getD b 0:E)-1))=ZZ->Dx d e c=ZZ):=λc7=>by
   unfold Dx
   grind
  have⟨_,v,w⟩:=i wr q;have a9:=a0 wr q b Q;generalize c.getD b 0=x at *;have a6:=Y c6
  rcases a6.out with⟨rfl,rfl⟩|⟨rfl,rfl⟩
  all_goals
   go_wp2_with fail
   apply a9.m;rintro D W ⟨rfl,b5⟩;have r:=Y (q.T (b5.m q.size));have⟨_,v,w⟩:=i W r
   by_cases c8:x=0
   ·subst c8;have n:=Y (a3 s_);go_wp2;go_roundw;exact⟨b+1,g_,O,n,r⟩;exact z_
   have d6:((x:E)==0)=ZZ:=w_;have b3:=a5 W r x O c9;have a4:Hid (Ii d e ((x:E)-1)=Z0->Dx d e (ZU (b+1) c)=Z0):=w_;have a1:Hid (Ii d e ((x:E)-1)=ZZ->Dx d e c=ZZ):=w_;generalize Ii d e ((x:E)-1)=d0 at *;go_wp2_with fail
   apply b3.m;rintro D d8 ⟨rfl,b6⟩;have y:=Y (r.T (b6.m r.size))
   cases d0 with
   | true=>
    have n:=Y (a4 X);go_wp2;go_roundw;exact⟨b+1,g_,O,n,y⟩;exact z_
   | false=>
    have n:=Y (a1 X);go_wp2;go_ret;exact⟨by rw[n];rfl,(i _ y).1⟩
 have r:¬(b:E)<(h:E):=O;have n:Hid (Dx d e c=Z0):=w_;go_wp2;go_ret;exact⟨by rw[n];rfl,(i _ q).1⟩
def et(c:H->Prop)(f:ZT)(d:H):Prop:=∀a e b,f.1[a]? =T (O_ e b)->c a->b=d
section
variable {S:H->Prop} {w w':ZT} {a:H}
def et.M(f:et S w a){e c m l:H}{d:ZY}{n:U ZY}(j:ZD w e c m d l n)(i:c≠a):∀b,ZW d=T b->¬S b:=λb h k=>by have⟨o,g⟩:=Ac j h;exact i (f b _ c g k)
def et.at(d:et S w a){k b:H}{c:YZ ZY}(e:H_ w k c b)(f:b≠a):¬S k:=λg=>f (d k c b e g)
def et.x{a b:H}{c:YZ ZY}(f:H_ w a c b):et (λk=>k=a) w b:=λk d h g e=>w_
def et.D{d a h g:H}{c:ZY}{i:U ZY}(f:ZD w d a h c g i):et (λb=>ZW c=T b) w a:=λb j n m e=>by
 have⟨k,l⟩:=Ac f e
 grind
def Id.f{k:H}{m:ZY}{j:U H}{l:H}(o:Id w k m j l)(d:Aa S w w')(c:et S w a)(p:403≠a)(q:396≠a)(r:405≠a)(s:5≠a):Id w' k m j l:=by
 rcases o with⟨e,i,f,u,v,g,h,b⟩|⟨e,i,f,n,t,g,h,b⟩
 exact ZM ⟨e,i,f,u,v,g,h,d.g b.r (c.at b.r p),d.M b.M (c.M b.M r)⟩;exact ZJ ⟨e,i,f,n,t,g,h,d.g b.r (c.at b.r q),d.M b.M (c.M b.M s)⟩
def Pe.f{j:H}{h:ZY}{i:U (ZY×ZY)}{e:U BS}(d:Pe j w h i e)(g:Aa S w w')(q:et S w a)(k:403≠a)(l:396≠a)(m:405≠a)(n:5≠a)(p:∀c,ZW h=T c->¬S c)(o:∀b,b<F e->∀c,ZW (Z i b Lm).1=T c->¬S c):Pe j w' h i e:=
 ⟨g.M d.M p,d.y,λb f=>⟨g.M (d.j b f).1 (o b f),(d.j b f).2.f g q k l m n⟩⟩
def Jq.f{h:H}{k:ZY}{g:U (ZY×ZY)}{e:U KS}(c:Jq h w k g e)(f:Aa S w w')(i:et S w a)(l:172≠a)(m:9≠a)(n:∀b,b<F e->∀j,ZW (Z g b Lm).1=T j->¬S j):Jq h w' k g e:=
 ⟨f.M c.M (i.M c.M l),c.y,λb d=>⟨f.M (c.j b d).1 (n b d),f.M (c.j b d).2 (i.M (c.j b d).2 m)⟩⟩
end
structure iz(h:H)(f wr:ZT)(k m c d:H)(p:U E)(o e:ZY)(l:U (ZY×ZY))(g:U KS)(j:U (ZY×ZY))(i:U BS)(n:U E):Prop where
 r:wr.1[k]? =T (O_ #[o,e,N_] 168)
 w:Jq h wr o l g
 v:Pe h wr e j i
 u:Cn wr m p
 G:Ad wr 0 (L_ c d d) n
 L:F n=d
 t:Aa (λb=>b=m∨b=k) f wr
 z:∀b,ZW e=T b->B f.1<=b
 A:B f.1<=c
 y:∀a,a<F i->ZW (Z j a Lm).1≠T c
 x:∀a,a<F g->ZW (Z l a Lm).1≠T c
section
variable {c:H} {w wr w2:ZT} {db d a f:H} {l b:U E} {e vB:ZY} {kvs:U (ZY×ZY)} {Ks:U KS} {bvs:U (ZY×ZY)} {bs:U BS} {st:U E}
def iz.i(g:iz c w wr db d a f l e vB kvs Ks bvs bs st)(n:Cn w2 d b)(i:Aa (λm=>m=d) wr w2):iz c w w2 db d a f b e vB kvs Ks bvs bs st:=by have⟨S,o,_⟩:=g.u.r;have h:=et.x o;exact⟨i.g g.r (h.at g.r C),g.w.f i h C C (λk j=>h.M (g.w.j k j).1 C),g.v.f i h C C C C (h.M g.v.M C) (λk j=>h.M (g.v.j k j).1 C),n,i.M g.G (h.M g.G C),g.L,g.t.T (i.m (λm _ j=>ZM j)),g.z,g.A,g.y,g.x⟩
def iz.q(b:iz c w wr db d a f l e vB kvs Ks bvs bs st)(g:E_ wr w2):iz c w w2 db d a f l e vB kvs Ks bvs bs st:=b.i (b.u.q g) (.a g)
def iz.put(b:iz c w wr db d a f l e vB kvs Ks bvs bs st)(k:H)(m:E):iz c w (ZO wr (J a k) (I m)) db d a f l e vB kvs Ks bvs bs (st.set k m):=by have j:Aa _ wr (ZO wr _ (I m)):=(Aa.refl (λq=>q=a) _).setCell (p:=(J _ k)) (λ_=>X) _;have⟨v,s⟩:=Ac b.G (k:=a) X;have h:=et.x s;have⟨S,r,t,u⟩:=b.u.r;refine⟨j.g b.r (h.at b.r C),b.w.f j h C C (λi o q g n=>b.x i o (by rw[g,n])),b.v.f j h C C C C (h.M b.v.M C) (λi o q g n=>b.y i o (by rw[g,n])),⟨S,j.g r (h.at r C),t,u⟩,(b.G.put (k:=k) b.L.s m).1,by rw[length_set];exact b.L,b.t.setCell (p:=(J a k)) (λg=>by have:=b.A;simp at g;omega) _,b.z,b.A,b.y,b.x⟩
def iz.h{h:H}{r:YZ ZY}(b:iz c w wr db d a f l e vB kvs Ks bvs bs st)(t:H_ wr h r 163)(u:ZW vB≠T h)(y:B w.1<=h)(m:H){o:ZY}:iz c w (ZO wr (J h m) o) db d a f l e vB kvs Ks bvs bs st:=by have i:Aa _ _ (ZO wr _ o):=(Aa.refl (λk=>k=h) _).setCell (p:=(J _ m)) (λ_=>X) _;have g:=et.x t;have⟨q,n,v,x⟩:=b.u.r;exact⟨i.g b.r (g.at b.r C),b.w.f i g C C (λk j=>g.M (b.w.j k j).1 C),b.v.f i g C C C C (λk j s=>u (by rw[j,s])) (λk j=>g.M (b.v.j k j).1 C),⟨q,i.g n (g.at n C),v,x⟩,i.M b.G (g.M b.G C),b.L,b.t.setCell (p:=(J h m)) (λj=>by simp at j;omega) _,b.z,b.A,b.y,b.x⟩
def iz.j(b:iz c w wr db d a f l e vB kvs Ks bvs bs st):DkX wr db e kvs Ks:=⟨M_ 0 _ 168 (0,0) b.r,(Qb b.r).1,b.w.m v_⟩
def iz.D(b:iz c w wr db d a f l e vB kvs Ks bvs bs st):ZV wr (J db 1)=T vB:=M_ 1 _ 168 (0,0) b.r
def iz.P{t:ZT}{q j m:ZY}{b:BS}(g:iz c w wr db d a f l e vB kvs Ks bvs bs st)(A:Y3 wr t (ZW vB))(Q:ZD t 0 163 2 q (F bs+1) (Ov bvs++[j,m]))(N:ZW q=ZW vB∨ZW q=T (B wr.1))(D:Ad wr c j (An b.fs))(W:ZW j≠T a)(P:Id wr c m b.N b.g):iz c w (ZO t (J db 1) q) db d a f l e q kvs Ks (bvs++[(j,m)]) (bs++[b]) st:=by
 have n:=(Aa.refl _ _).grown A (λs hk _=>hk);have k:=et.D g.v.M;have⟨M,u,R,S⟩:=g.u.r;have z:=n.g g.r (k.at g.r C);have v:Aa _ _ (ZO t _ q):=(Aa.refl (λs=>s=db) _).setCell (p:=(J _ 1)) (λ_=>X) _;have p:=et.x z;have G:=g.w.f n k C C (λh i=>k.M (g.w.j h i).1 C);have L:=n.M g.G (k.M g.G C)
 have x:Pe c t q (bvs++[(j,m)]) (bs++[b]):=by
  refine⟨by rw[Qe,Vs];exact Q,by simp[g.v.y],λh i=>?_⟩;rw[Qe] at i;simp at i
  by_cases o:h<F bs
  have r:Z (bvs++[(j,m)]) h Lm=Z bvs h Lm:=(by simp[Z,getElem?_append_left (show h<F bvs by rw[g.v.y];exact o)]);have s:Z (bs++[b]) h Df=Z bs h Df:=w_;rw[r,s];exact⟨n.M (g.v.j h o).1 (k.M (g.v.j h o).1 C),(g.v.j h o).2.f n k C C C C⟩;have y:h=F bs:=O;subst y;have r:Z (bvs++[(j,m)]) (F bs) Lm=(j,m):=(by simp[Z,g.v.y.s]);have s:Z (bs++[b]) (F bs) Df=b:=(by simp[Z]);rw[r,s];exact⟨(n.M D (k.M D C)),(P.f n k C C C C)⟩
 refine⟨?_,G.f v p C C (λh i=>p.M (G.j h i).1 C),x.f v p C C C C (p.M x.M C) (λh i=>p.M (x.j h i).1 C),⟨M,v.g (n.g u (k.at u C)) (p.at (n.g u (k.at u C)) C),R,S⟩,v.M L (p.M L C),g.L,(g.t.grown A (λs hk h=>absurd (g.z s hk) O)).setCell (p:=(J db 1)) (λ_=>ZJ X) _,λs hk=>?_,g.A,λh i=>?_,g.x⟩;rw[hs_ _ db 1 _ 168 _ z];rfl
 ·rcases N with o|o
  rw[o] at hk;exact g.z s hk;rw[o] at hk;injection hk with hk;have:=g.t.size;omega
 rw[Qe] at i;simp at i
 by_cases o:h<F bs
 have r:Z (bvs++[(j,m)]) h Lm=Z bvs h Lm:=(by simp[Z,getElem?_append_left (show h<F bvs by rw[g.v.y];exact o)]);rw[r];exact g.y h o
 have y:h=F bs:=O;subst y;have r:Z (bvs++[(j,m)]) (F bs) Lm=(j,m):=by simp[Z,g.v.y.s]
 grind
end
def Jz(a c:U E):H->U E
 |0=>c
 |b+1=>(Jz a c b).set (ZL (Z a b 0)) (Z (Jz a c b) (ZL (Z a b 0)) 0+1)
def du{c b:U E}:∀a,F (Jz c b a)=F b
 |0=>X
 |a+1=>by simp only[Jz,length_set];exact du a
def pq{fs f:U E}{c:E}(e:∀a∈f,0<=a/\a<=c)(h:0<=c):∀b:H,∀a∈Jz fs f b,0<=a/\a<=c+b
 |0,a,d=>p_ (e a d)
 | b+1,a,d=>by
  have i:=pq (fs:=fs) e h b
  rcases mem_or_eq_of_mem_set d with g|g
  ·grind
  grind [Qf]
def Xg(a:U H)(b:H):U H:=if 4*nzN a<F a then a else a.map (· %2^Lib.bitLen b)
def Zen(q:H){j:H}(p G d:H)(o:Y0 Addr)(a3:ZY){D:ZY}(a0:U (ZY×ZY))(h:U KS)(i:U E){c:U H}(f:ZT)(w:DkX f q a3 a0 h)(s:Ad f G (V o j p) i)(z:F i=j)(A:j<=1000)(y:∀r∈i,0<=r/\r<F h)(v:∀K∈h,K.e.b<=16)(m:F c<=200)(t:∀x∈c,x<=255)(P:d<64)(S:Id f 0 D c d):C_ 231 #[P_ q,Y9 #[V o j p,D]] f (U_ (ZR (Dx h i (Xg c d))) f):=by
 rcases S with⟨l,a1,rfl,a6,a7,rfl,N,g⟩|⟨l,a1,rfl,L,a2,rfl,N,g⟩
 ·have e:∀a,_->ku a 0 _ _ _ _ _:=λa b=>⟨(b.block _ (Qb g.r).1).T g.r,(Aa.a (S:=λ_=>False) b).M g.M (λ_ _=>id)⟩;unfold Xg;rw[aD l]
  exact nr w s z A y v X m t (ZJ ⟨X,X⟩) (λa=>k_)
   (λa b=>vy (M_ 0 _ 403 (0,0) (e a b).r) (M_ 1 _ 403 (0,0) (e a b).r))
   (λa b k n=>Ri k c a (e a b) n O)
 have u:=Gj P;have e:∀a,E_ f a->_:=λa b=>g.q b;have a4:=Nat.mul_le_mul m u;unfold Xg;rw[aC l]
 refine nr w s z A y v s_ m (λx W=>?_) (ZM ⟨X,X⟩) (λa=>k_)
  (λa b=>we (M_ 0 _ 396 (0,0) (e a b).r) (M_ 1 _ 396 (0,0) (e a b).r))
  (λa b k n=>?_)
 obtain⟨Q,M,rfl⟩:=mem_map.1 W;exact aG (mod_le _ _) (t Q M);have R:k*Lib.bitLen d+Lib.bitLen d<=F c*Lib.bitLen d:=(by rw[<- succ_mul];exact aK _ n);have M:=Oe L a2 _ _ _ k a (e a b) (λQ=>Jf _ _ Q) u R O O;rw[Ni _ _ (Lib.bitLen d) (λa5 Q=>Mz c Q)] at M
 grind
def Zz(b:U KS)(c:H)(d:U E):H->Y0 (U BS×U E×U E)
 |0=>T ([],Y6 (F b) 0,d)
 | f+1=>match Zz b c d f with
  |none=>ZP
  |some (e,g,a)=>if(Vj b (lstK a)&&Dx b (lstK a) (Xg (Ix (lstR a) c (Dc b (lstK a))) (Dc b (lstK a))))=Z0 then T (e++[⟨(lstK a).map ZL,Ix (lstR a) c (Dc b (lstK a)),Dc b (lstK a)⟩],Jz (lstK a) g (F (lstK a)),rdColR (lstR a) c (Dc b (lstK a))) else ZP
def Zjn(a:U KS)(c:H)(b:U E){k m:H}(f:Zz a c b k=ZP)(g:k<=m):Zz a c b m=ZP:=by
 induction m with
 |zero=>grind
 | succ m d=>
  by_cases e:k=m+1
  ·grind
  simp only[Zz,d O]
structure BbX(d:ZT)(a:H)(c b:ZY):Prop where
 r:d.1[a]? =T (O_ #[c,b] 163)
section
variable {w w2:ZT} {bb c d:H} {b a:ZY}
def BbX.t(c:BbX w bb b a):ZV w (J bb 0)=T b:=M_ 0 _ 163 (0,0) c.r
def BbX.D(c:BbX w bb b a):ZV w (J bb 1)=T a:=M_ 1 _ 163 (0,0) c.r
def BbX.p{S:H->Prop}{c:H}(d:BbX w bb b a)(f:Aa S w w2)(g:et S w c)(e:163≠c):BbX w2 bb b a:=⟨f.g d.r (g.at d.r e)⟩
end
def Zgi{a:U E}(b:∀x∈a,0<=x):An (a.map ZL)=a:=by
 unfold An;rw[map_map]
 conv=>rhs;rw[<- map_id a]
 grind [map_congr_left]
def BdE(i:H)(a h:ZT)(c f:H)(p:ZY)(l:U (ZY×ZY))(b:U KS)(m:Y0 (U BS×U E×U E))(d:Ending):Prop:=match m with
 |none=>d=ZI (ZR ZZ)/\Aa (λe=>e=f∨e=c) a h
 |some (j,g,n)=>d=ZI (ZR (Dn g))/\∃o k,iz i a h c f (B a.1) (F b) n p o l b k j g
structure BdT(d:H)(a wr:ZT)(i m l:H)(k:U E)(o e:ZY)(j:U (ZY×ZY))(f:U KS)(h:U (ZY×ZY))(g:U BS)(n:U E)(b:H)(c p:ZY)(fs:U E):Prop where
 r:iz d a wr i m (B a.1) l k o e j f h g n
 fs:Ad wr d c fs
 t:BbX wr b c p
 x:ZW e≠T b
 v:B a.1<=b
 y:ZW c≠T (B a.1)
section
variable {b:H} {w wr w2:ZT} {db a d bb:H} {l g fs:U E} {e vB c f:ZY} {kvs:U (ZY×ZY)} {Ks:U KS} {bvs:U (ZY×ZY)} {bs:U BS} {st:U E}
def BdT.i(h:BdT b w wr db a d l e vB kvs Ks bvs bs st bb c f fs)(k:Cn w2 a g)(i:Aa (λm=>m=a) wr w2):BdT b w w2 db a d g e vB kvs Ks bvs bs st bb c f fs:=by have⟨S,n,_⟩:=h.r.u.r;have j:=et.x n;exact⟨h.r.i k i,i.M h.fs (j.M h.fs C),h.t.p i j C,h.x,h.v,h.y⟩
def BdT.q(g:BdT b w wr db a d l e vB kvs Ks bvs bs st bb c f fs)(h:E_ wr w2):=g.i (g.r.u.q h) (.a h)
def BdT.h{bv r}(f:iz b w wr db a (B w.1) d l e vB kvs Ks bvs bs st)(i:Ad w2 (B wr.1) c r)(m:Cn w2 a g)(j:Aa (λn=>n=a) wr w2)(o:b<=B w.1)(k:bb=B w2.1):BdT b w (ZN w2 (O_ #[c,bv] 163)) db a d g e vB kvs Ks bvs bs st bb c bv r:=by have p:=f.t.size;have q:=j.size;subst k;exact⟨(f.i m j).q r_,(i.m O).q r_,⟨hn_⟩,λh=>p_ (B_ f.v.M _ h).2,O,λh=>oj_ (B_ i _ h).1 (B_ f.G (B w.1) X).2⟩
def BdT.put(g:BdT b w wr db a d l e vB kvs Ks bvs bs st bb c f fs)(h:H)(i:E):BdT b w (ZO wr ⟨B w.1,h,ZP⟩ (I i)) db a d l e vB kvs Ks bvs bs (st.set h i) bb c f fs:=by have j:Aa _ wr (ZO wr ⟨_,h,_⟩ (I i)):=(Aa.refl (λk=>k=B w.1) _).setCell (p:=J (B w.1) h) (λ_=>X) _;have⟨p,n⟩:=Ac g.r.G (k:=B w.1) X;exact⟨g.r.put h i,j.M g.fs (λk o m=>g.y (by rw[o,m])),g.t.p j (et.x n) C,g.x,g.v,g.y⟩
def BdT.j(g:BdT b w wr db a d l e vB kvs Ks bvs bs st bb c f fs){h i j}(n:Id wr b h i j):BdT b w (ZO wr ⟨bb,1,ZP⟩ h) db a d l e vB kvs Ks bvs bs st bb c h fs/\Id (ZO wr ⟨bb,1,ZP⟩ h) b h i j:=by have k:Aa _ _ (ZO wr ⟨_,1,_⟩ h):=(Aa.refl (λm=>m=bb) _).setCell (p:=J _ 1) (λ_=>X) _;have m:=et.x g.t.r;exact⟨⟨g.r.h g.t.r g.x g.v 1,k.M g.fs (m.M g.fs C),⟨ht_ 1 _ _ _ g.t.r⟩,g.x,g.v,g.y⟩,n.f k m C C C C⟩
end
def Zm5{a:U E}(c:∀x∈a,0<=x/\x<=255):F (lstK a)<=255/\∀b∈lstK a,0<=b:=by
 have d:=Iu c 0;have e:a.headD 0=Z a 0 0:=by cases a<;>rfl
 grind [lstK]
def Zjm{b c f e d g a}(h:Zz b c f e=T (d,g,a)):Zz b c f (e+1)=if(Vj b (lstK a)&&Dx b (lstK a) (Xg (Ix (lstR a) c (Dc b (lstK a))) (Dc b (lstK a))))=Z0 then T (d++[⟨(lstK a).map ZL,Ix (lstR a) c (Dc b (lstK a)),Dc b (lstK a)⟩],Jz (lstK a) g (F (lstK a)),rdColR (lstR a) c (Dc b (lstK a))) else ZP:=by simp only[Zz,h]
def ZmZ{c a}(d:Vj c a=Z0)(e:∀b∈a,0<=b):(∀b∈a,0<=b/\b<F c)/\Dc c a<=40:=by grind [Vj]
def Zlu{a st:U E}{c d:H}(g:c<F a)(e:∀b∈a,0<=b/\b<d):∃b:H,Z a c 0=b/\b<d/\Jz a st (c+1)=(Jz a st c).set b (Z (Jz a st c) b 0+1):=by have f:=e (Z a c 0) w_;exact⟨ZL (Z a c 0),O,O,X⟩
def io(q r w h:H)(i:U E)(s:ZY)(v:U (ZY×ZY))(d:U KS)(e:ZT)(A:Cn e w i)(a1:H_ e r #[s,ZH ZP 0 0,ZH ZP 0 0] 168)(P:Jq q e s v d)(d3:q<=B e.1)(g0:F d<=1000)(d4:∀K∈d,K.e.b<=16)(e1:h<=200):Calls Y8 167 #[Y7 (T ⟨r,0,ZP⟩),Y7 (T ⟨w,0,ZP⟩),ZX ZQ (h:H)] e λn m=>BdE q e m r w s v d (Zz d h i.tail (ZL (i.headD 0))) n:=by
 have f7:=Iu A.a 0;have f9:i.headD 0=Z i 0 0:=(by cases i<;>rfl);obtain⟨k,d9⟩:∃k:H,i.headD 0=(k:E):=⟨ZL (i.headD 0),O⟩;have h2:k<=255:=O;rw[show ZL (i.headD 0)=k by omega];have⟨a5,S⟩:=ez_ (F d);have e0:=Gm (F d) O;have⟨g3,Q⟩:=W_ (ZN e (YU (YV #[I 0] (F d)) 3));have M:E_ e _:=Q ▸ r_;have f:Hid (iz q e g3 r w (B e.1) (F d) i s (ZH ZP 0 0) v d [] [] (Y6 (F d) 0)):=by refine⟨(M.block _ (Qb a1).1).T a1,P.q M,⟨rn_,X,s_⟩,A.q M,Q ▸ (Gl _ e 0 O v_),s_,.a M,by simp[ZW],x_,s_,λg d5 n=>?_⟩;have:=(B_ (P.j g d5).1 _ n).2;omega
 have a9:=Y d4;have h3:=A.lt;have⟨g1,g2,e8⟩:=(P.m v_).a;have d1:ZV e ⟨r,0,ZP⟩=T (ZH g1 (F d) g2):=(by rw[<- e8];exact n_ 0 a1);rw[S] at e0 f d1 g0 Q;have b2:=Eg _ i _ f.u;rw[d9] at b2;generalize i.tail=D at *;clear A a1 P d4 f7 f9 d9 M e8;refine q_ ?_;go_wp2_with fail
 rw[<- Q];apply b2.m;rintro n h9 ⟨rfl,e2,e5⟩;replace f:=Y (f.i e2 e5);clear e2 e5 e0 Q d1 b2;go_wp2_with fail
 go_loopw [19] (λm a=>∃(g:H) (N:U BS) (o G:U E) (a6:ZY) (a0:U (ZY×ZY)),m=ZX ZQ g/\g<=k/\F N<=g/\Hid (Zz d h D g=T (N,o,G))/\Hid (∀p∈o,0<=p/\p<=256*(g:E))/\Hid (iz q e a r w (B e.1) a5 G s a6 v d a0 N o)) (λm _=>k-ZL (ZA m))
 case atStart=>exact⟨0,[],_,D,_,_,X,v_,x_,by rw[<- S];rfl,λp a4=>p_ (eq_of_mem_replicate a4),f⟩
 clear f;obtain⟨g,N,o,G,a6,a0,rfl,d5,h0,K,b1,f⟩:=hrel
 by_cases d6:g<k
 case neg=>
  obtain rfl:g=k:=O;go_wp2_with fail
  apply (Zdi a5 a5 0 o wr f.G f.L O).m;rintro n f2 ⟨rfl,a⟩;obtain rfl:=a.s;go_wp2;go_ret;show BdE _ _ _ _ _ _ _ _ (Zz d h D g) _;rw[K];exact⟨X,a6,a0,S ▸ f⟩
 have⟨h1,d8⟩:=Zm5 f.u.a;have⟨b0,y,b3⟩:=y3_ d8 (Zjm K) (λA=>Zjn d h D (k:=g+1) (m:=k) A d6);have c7:=Zad G f.u;clear K d8;generalize lstK G=c,lstR G=W at *;go_wp2_with fail
 apply c7.m;rintro n f1 ⟨h8,rfl,c3,e3,e6⟩;obtain⟨t,z,rfl⟩:=c3.d;go_upto_region 5 with fail;have a:=Y (BdT.h (bv:=.nilIface) f c3 e3 e6 d3 X);clear f c3 e3 e6 c7;generalize (ZN f1) (YU #[ZH t (F c) z,.nilIface] 163)=g4,B f1.1=d0 at *;have l:=a.t.t;go_wp2_with fail
 apply (Zep r z q t s v d c g4 a.r.j a.fs X O b0 a9).m;rintro n i0 ⟨rfl,c8⟩;replace a:=Y (a.q c8);clear l c8
 cases a2:Vj d c
 ·have m:=b3 (by rw[y,a2];simp);go_wp2;go_ret;show BdE _ _ _ _ _ _ _ _ (Zz d h D k) _;rw[m];exact⟨X,a.r.t⟩
 have⟨d7,f8⟩:=ZmZ a2 b0;have R:=Y d7;rw[a2] at y;clear a2 d7;have⟨u,c5⟩:=ez_ (Dc d c);rw[c5] at y f8;have l:=a.t.t;go_wp2_with fail
 clear l;go_loopw [32] (λm p=>∃j:H,m=ZX ZQ j/\j<=F c/\Hid (BdT q e p r w a5 W s a6 v d a0 N (Jz c o j) d0 (ZH t (F c) z) .nilIface c)) (λm _=>F c-ZL (ZA m))
 case atStart=>exact⟨0,X,v_,a⟩
 clear a;obtain⟨j,rfl,P,a⟩:=hrel
 by_cases c1:j<F c
 ·obtain⟨b4,rfl,_,_,a8,_⟩:=a.fs.b X c1;obtain⟨m,L,a3,a7⟩:=Zlu (st:=o) c1 (by rw[S] at R;exact R);rw[L] at a8;have⟨b6,b7⟩:=a.r.G.c a.r.L.s a3;have a4:=pq (fs:=c) b1 O j (Z (Jz c _ j) m 0) (by rw[Qc,Qd (a.r.L ▸ a3)];exact Qf _);have x:=Y (a.put m (Z (Jz c o j) m 0+1));rw[<- a7] at x;clear L a7 a;generalize (Z (Jz c o j)) m 0=p at *;have b5:_=p+1:=Au O O;refine J_ ?_;exact⟨j+1,g_,c1,x⟩
 obtain rfl:j=F c:=O;have a8:=kz q t s c a.r.j a.fs X O R a9;rw[c5] at a8;have l:=a.t.t;go_wp2_with fail
 apply a8.m;rintro n g5 ⟨rfl,c9⟩;replace a:=Y (a.q c9);have c6:=Y a.r.u.a;clear c9 l a8;go_wp2_with fail
 apply (Za7 w h u W g5 a.r.u e1 O).m;rintro n g6 ⟨h6,rfl,c0,e4,e7⟩;obtain⟨b7,b6,rfl⟩:=c0.iface;have L:=c0.m (aG d3 a.r.t.size);replace a:=a.i e4 e7;have x:=a.t.D;have f6:=R_ 1 _ _ a.t.r;replace a:=Y (a.j L);clear e4 e7 c0 L;go_upto_region 13 with fail;clear x f6;generalize (ZO g6) (J d0 1) (.iface b7 (P_ b6))=f2 at *;have l:=a.1.t.t;have x:=a.1.t.D;go_wp2_with fail
 refine(Zen r z q u t s v d c f2 a.1.r.j a.1.fs X O R a9 (by rw[di c6 h O];exact e1) (λb4 a3=>by
  unfold Ix at a3;obtain⟨p,m,rfl⟩:=mem_map.1 a3;have:=(Uw c6 h (show u<64 by omega)).2 p m
  omega) O a.2.zero).m ?_
 rintro n f0 ⟨rfl,b5⟩;replace a:=K_ (a.1.q b5) (a.2.q b5);clear b5 l x
 cases c2:Dx d c (Xg (Ix W h u) u)
 ·have m:=b3 (by rw[y,c2];simp);go_wp2;go_ret;show BdE _ _ _ _ _ _ _ _ (Zz d h D k) _;rw[m];exact⟨X,a.1.r.t⟩
 rw[c2] at y;have f3:Hid (∀p∈Jz c o (F c),0<=p/\p<=256*((g+1:H):E)):=λp a4=>p_ (pq (fs:=c) b1 O _ p a4);clear b3 c2 b1;obtain⟨g7,g8,rfl⟩:=(a.1.r.v.m v_).a;have b8:=a.1.r.D;have l:=a.1.t.t;have x:=a.1.t.D;go_upto_region 15 with fail;refine Af (λm=>ZV m _=T _/\ZV m _=T _/\ZV m _=T _) 10 k_ ⟨b8,l,x⟩ (λhHeld=>?_);refine G_ ?_;refine on_ 6 λKK hK=>?_;go_simp;refine hK _ _ ⟨X_ b8,X_ l,X_ x⟩ (λhHeld=>?_);clear hK KK;try simp only[Act.put,tA_,tB_,tC_]
 refine on_ 7 λKK hK=>?_;have a7:E_ f0 (YY (ZN f0 (YU #[ZH t (F c) z,.iface b7 (P_ b6)] 163))):=r_.drew;obtain⟨m,L⟩:_/\_:=⟨a.1.q a7,a.2.q a7⟩;refine aq_ [ZH t (F c) z,.iface b7 (P_ b6)] m.r.v.M ?_;rintro h7 i1 ⟨e9,b9,d2,_,h5,h4,rfl⟩;have f4:=Y (m.r.P (b:=⟨c.map _,Ix W h u,u⟩) b9 e9 (d2.imp id And.left) (by rw[Zgi b0];exact m.fs) m.y L);have c4:=(Aa.refl _ _).grown b9 (λb4 a3 _=>a3);have a3:=c4.g m.r.r ((et.D m.r.v.M).at m.r.r C);have f5:=n_ 1 a3;have g9:=R_ 1 _ _ a3;have b4:BbX _ _ _ _:=⟨c4.g m.t.r m.x⟩;refine hK _ _ ⟨f5,b4.t,b4.D⟩ (λhHeld=>?_);clear hK KK e9 b9 d2 m L a7 a b8 l x c4 a3 b4;refine G_ ?_;refine le_ ?_;go_wp2;go_roundw;case rel=>exact⟨g+1,_,_,_,_,_,g_,d6,t_,y,f3,f4⟩
 case measure=>exact z_
end Go.Proofs.YtfcgnpchbcmdeaaGreat
