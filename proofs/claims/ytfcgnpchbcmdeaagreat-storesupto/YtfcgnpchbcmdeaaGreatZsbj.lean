import Derived.Test.YtfcgnpchbcmdeaaGreatZsbi
import Derived.Test.YtfcgnpchbcmdeaaGreatZsbh
open List renaming length->F,getD->Z,take->ZU,drop->ZF,replicate->Y6
open _root_ renaming Int->E,List->U,Bool->ZG,Nat->H,ByteArray->ZC,rfl->X,Option->Y0,Array->YZ,List->Z1,Nat->Z8
open Bool renaming true->Z0,false->ZZ
open Array renaming size->B,setIfInBounds->YS,toList->Y4
open Go renaming Value->ZY,World->ZT,strOfNums->ZB,madeCells->YV,maxLen->Y2
open ByteArray renaming size->ZK
open Option renaming some->T,none->ZP
open Go.World renaming cell?->ZV,frozen?->YT,setCell->ZO,ownsRow->ZD,grownBy->Y3,alloc->ZN,drewN->Y1,drew->YY
open Go.Value renaming bool->ZR,ownBlock->ZW,int->ZX,pointer->Y7,tuple->Y5,slice->ZH,agg->Y9,string->YW
open Go.IntKind renaming i64->ZQ
open Go.Ending renaming returned->ZI
open Or renaming inl->ZM,inr->ZJ
open Int renaming toNat->ZL
open Decidable renaming decide->ZE
open Go.Proofs renaming intOf->ZA
open Go.Proofs.Tryz renaming prog->Y8
namespace Go.Proofs.YtfcgnpchbcmdeaaGreat
set_option linter.all false
set_option maxRecDepth 100000
set_option maxHeartbeats 16000000
open Go.RowKit List Nat Go.World Go.Proofs.Tryz Go.Value Go.IntKind Go.Lib Go.Region
def ZmN{d:U E}(g:∀f∈d,0<=f/\f<256)(a:Cu):Vc (jp d a).2/\F (jp d a).2.e.f<=16/\F (jp d a).2.e.c<=16:=by
 have i:∀(e:ZG) (a:Cu) b,let c:=(Hr (ftS d) (a,⟨e,[],[]⟩) b).2;c.a=e/\(e=Z0->c.f=[])/\(e=ZZ->c.c=[])/\F c.f<=b/\F c.c<=b:=λe a b=>by
  induction b with
  |zero=>simp[Hr]
  | succ b h=>
   grind [Hr,ftS,ftN,ftW]
 grind [Cx,jp,Vc]
structure OpI(b a:ZT)(f g k:H)(i:ZY)(j:U (ZY×ZY))(c:U KS)(d:ZC)(e:Cu):Prop where
 w:Pd a f d e
 y:e.k<=ZK d
 v:Nt a g k i Dg Dg Dg
 A:ja a (B b.1) i j c
 x:∀h,h<F c->Vc (Z c h Aj)
 D:E_ b a
 t:B b.1<=f/\B b.1<=g
section
variable {w W a:ZT} {cb db n:H} {vF v':ZY} {kvs:U (ZY×ZY)} {Ks:U KS} {b:ZC} {c d:Cu}
def OpI.call(e:OpI w W cb db n vF kvs Ks b c)(i:Pd a cb b d)(j:d.k<=ZK b)(f:Aa (λh=>h=cb) W a):OpI w a cb db n vF kvs Ks b d:=
 ⟨i,j,f.g e.v (λg=>e.v.o e.w C g.s),e.A.p f (λp l q o g _ m=>by
  have k:=e.w
  grind [Pd]),e.x,e.D.T (f.b e.D.size (λh g=>p_ e.t)),e.t⟩
def OpI.q(d:OpI w W cb db n vF kvs Ks b c)(e:E_ W a):=d.call (d.w.q e) d.y (.a e)
def OpI.cells(a:OpI w W cb db n vF kvs Ks b c):ZV W (J cb 2)=T (ZR c.z)/\ZV W (J db 1)=T vF/\YT W (J db 1)=ZZ:=⟨n_ 2 a.w,n_ 1 a.v,R_ 1 _ _ a.v⟩
def OpI.u(a:OpI w W cb db n vF kvs Ks b c)(e:H):OpI w (ZO W (J db 0) (I e)) cb db e vF kvs Ks b c:=by have f:Aa (λd=>d=db) W (ZO W (J db 0) (I e)):=(Aa.refl (λd=>d=db) W).setCell (p:=(J db 0)) (λ_=>X) _;exact⟨f.g a.w (a.v.o a.w C),a.y,hs_ _ db 0 _ 142 _ a.v,a.A.p f (λi g j d h _=>a.v.o d O),a.x,a.D.T (f.b a.D.size (λd g=>p_ a.t)),a.t⟩
def OpI.z{K:KS}{u:ZY×ZY}(d:OpI w W cb db n vF kvs Ks b c)(m:Ad W (B w.1) u.1 K.e.f)(o:Bj W (B w.1) u.2 K.e.c)(hK:Vc K)(j:Y3 W a (ZW vF))(l:ZD a (B w.1) 227 4 v' (F Ks+1) ((zipWith Bs Ks kvs).flatten++Bs K u)):OpI w (ZO a (J db 1) v') cb db n v' (kvs++[u]) (Ks++[K]) b c/\Nt a db n vF Dg Dg Dg:=by
 have g:=La (i:=1) d.v d.A.M.M j (n':=F Ks+1) l C;have h:Nt a db n vF Dg Dg Dg:=g.1;have q:Aa (λf=>f=db) a (ZO a (J db 1) v'):=(Aa.refl (λf=>f=db) _).setCell (p:=(J db 1)) (λ_=>X) _;refine⟨⟨g.2.2.2.g d.w (λe=>?_),d.y,g.2.1,(d.A.P m o j l).p q (λk p r f e _=>h.o f O),λi r=>?_,d.D.T (g.2.2.2.b d.D.size (λf p=>?_)),d.t⟩,h⟩
 ·rcases e with e|e
  exact d.v.o d.w C e;exact Ag d.A.M.M e d.w C X
 ·by_cases e:i<F Ks
  ·have:=d.x i e
   grind
  grind
 rcases p with rfl|e
 exact d.t.2;exact(B_ d.A.M.M f e).1
end
def ad(b c:ZT)(g:Y0 Ft)(d:Ending):Prop:=match g with
 |none=>d=ZI (Y5 #[Y7 ZP,ZX ZQ 2])/\E_ b c
 |some a=>∃f e,d=ZI (Y5 #[P_ f,ZX ZQ 0])/\ep b c f e a/\DRt e a a.r/\E_ b c
def ad.j{b c:ZT}{a:Y0 Ft}(d:a=ZP)(e:E_ b c):ad b c a (ZI (Y5 #[Y7 ZP,ZX ZQ 2])):=by subst d;exact⟨X,e⟩
structure OpJ(d b:ZT)(h j k m c:H)(p:ZY)(l:U (ZY×ZY))(e:U KS)(f:ZC)(a:Cu×U ZG×U (U H)×U (U H)):Prop where
 w:Pd b h f a.1
 y:a.1.k<=ZK f
 A:Eo b (B d.1) (L_ k c c) a.2.1
 r:F a.2.1=c
 G:a.1.z=ZZ->c=F e/\∃n o g i,eo b (B d.1) j m p n o Dg l g i e a.2.2.1 a.2.2.2
 D:E_ d b
def OpJ.call{i k e:ZT}{b l m p o:H}{r:ZY}{n:U (ZY×ZY)}{j:U KS}{c:ZC}{d:Cu}{g:Cu×U ZG×U (U H)×U (U H)}(a:OpJ i k b l m p o r n j c g)(x:Pd e b c d)(f:d.k<=ZK c)(y:d.z=ZZ->g.1.z=ZZ)(h:Aa (λq=>q=b) k e)(D:B i.1<=b):OpJ i e b l m p o r n j c (d,g.2):=
 ⟨x,f,h.M a.A (λs f=>Ag a.A f a.w C),a.r,λu=>by
  have⟨v,z,A,s,t,w⟩:=a.G (y u)
  exact⟨v,z,A,s,t,w.b a.w (ZM X) h⟩,a.D.T (h.b a.D.size (λq G=>O))⟩
def ZnR{h:U KS}:∀{b c:U BS},(∀a∈b,a.g=Bk h a.fs)->(∀a∈c,a.g=Bk h a.fs)->b.map (·.fs)=c.map (·.fs)->b.map (·.N)=c.map (·.N)->b=c
 |[],[],_,_,_,_=>X
 |[],_::_,_,_,d,_=>by simp at d
 |_::_,[],_,_,d,_=>by simp at d
 | i::b,a::c,j,k,e,l=>by
  simp only[map_cons,List.cons.injEq] at e l;have m:=ZnR (λg f=>j g (mem_cons_of_mem _ f)) (λg f=>k g (mem_cons_of_mem _ f)) e.2 l.2;have f:=j i (mem_cons_self ..);have g:=k a (mem_cons_self ..);rw[e.1,<- g] at f
  cases i
  cases a
  grind
def ZoB{d:U KS}{c:U BS}{f:U XS}{a:Ft}(g:∀b∈c,b.g=Bk d b.fs)(h:d=a.g)(e:(c.map (·.fs),c.map (·.N))=(a.f.map (·.fs),a.f.map (·.N)))(i:f=a.r)(j:∀b∈a.f,b.g=Bk a.g b.fs):(⟨d,c,f⟩:Ft)=a:=by subst h i;simp only[Prod.mk.injEq] at e;rw[ZnR g j e.1 e.2]
def Zo2{a b:ZC}{f:H}{D:Ft}(d:DRt f D D.r)(c:ZB (Br D D.r)=b)(e:b=a):oe (Ab a)=T D:=by subst e;rw[<- c,Ya (Qr _ _)];exact ZhQ d
def OpI.G{h c:ZT}{k d f:H}{g:ZY}{e:U (ZY×ZY)}{b:U KS}{i:ZC}{j:Cu}(a:OpI h c k d f g e b i j):eo c (B h.1) d f g Dg Dg Dg e [] [] b [] []:=⟨a.v,a.A,Mk.nil,Mk.nil,ZM X,a.x,a.t.2⟩
def ZfL{g:U KS}{k:H}{b:U BS}(e:∀a∈b,BRt g k a)(n:F b<=256):rf k g (b.map (·.fs)) (b.map (·.N)):=by
 have l:∀{a},a<F b->∃c∈b,Z (b.map (·.fs)) a []=c.fs/\Z (b.map (·.N)) a []=c.N:=λ{a} d=>⟨b[a],Qf d,w_,w_⟩;refine⟨s_,t_,λa d=>?_,λa d o=>?_,λa d=>?_,λa d m j=>?_⟩<;>rw[length_map] at d<;>obtain⟨c,f,h,i⟩:=l d;rw[i];exact(e c f).y
 ·rw[i];have:=(e c f).k;have:=(e c f).h
  grind [Qf]
 rw[h];have:=(e c f).A;omega;rw[h] at j;exact(e c f).n m j
def Zp6{b:U E}(f:F b=2)(d:∀a∈b,0<=a/\a<256):(ZB b).toList=[71,82]↔b=[71,82]:=by
 match b,f with
 | [c,a],_=>
  have g:=d c s_;have h:=d a s_;have e:(ZB [c,a]).toList=[UInt8.ofNat (ZL c),UInt8.ofNat (ZL a)]:=(by rw[toList_data];rfl);rw[e];simp only[List.cons.injEq,and_true];rw[<- UInt8.toNat_inj,<- UInt8.toNat_inj,UInt8.toNat_ofNat',UInt8.toNat_ofNat'];simp;omega
def vu(r:ZC) a0 (d2:ZK r<=2000000):C_ 128 #[Q_ r] a0 λd a=>ad a0 a (oe (Ab r)) d:=by
 have i4:F (Ab r)=ZK r:=(by simp[Ab]);have v:Hid (∀M,oe (Ab r)=T M->_):=λM=>Znn (D:=M) (λb3 b9=>p_ (Qq r b3 b9));have⟨R,b5⟩:=ez_ (oe (Ab r));rw[b5] at v ⊢
 by_cases g7:ZK r<4
 ·have A:Hid (R=ZP):=by
   show _=_
   cases g:R with
   |none=>rfl
   |some M=>have:=(v M g).1;omega
  have k5:i64.wrap ((ZK r:E)-4)=(ZK r:E)-4:=Au O O;have a9:ZE ((ZK r:E)-4<0)=Z0:=aF O;clear v b5;refine dl_ ?_;go_enter func128,ntmps128;go_upto_region 2 with fail;go_quiet (fail);go_wp2;go_ret2
  exact ad.j A (below_drewN y_ _)
 obtain⟨P,m1⟩:∃P,ZK r=P+4:=⟨ZK r-4,O⟩;have⟨i,l4⟩:=Z_ (r.extract 0 P);have h9:Ab i=ZU P (Ab r):=(by rw[<- l4,Ff,drop_zero]);have j6:ZK i=P:=(by rw[<- Ci i,h9,length_take,i4];omega);rw[i4,m1,Nat.add_sub_cancel,<- h9] at v;have⟨c6,j7⟩:=Z_ (r.extract P (P+4));have i0:Ab c6=ZF P (Ab r):=(by rw[<- j7,Ff,aI O]);have l5:ZK c6=4:=(by rw[<- Ci c6,i0,length_drop,i4];omega);rw[<- i0] at v;have l:Hid (∀d,C_ 180 #[Q_ i] (Y1 a0 d) λb a=>b=ZI (ZX ZQ (Gy (Ab i)))/\a=Y1 a0 d):=λd=>Zb9 i _ O;have h4:Hid (∀d,C_ 181 #[Q_ c6] (Y1 a0 d) λb a=>b=ZI (ZX ZQ (aa (Ab c6):H))/\a=Y1 a0 d):=λd=>Uu c6 _ O;have a4:=Qq i
 have k5:i64.wrap ((ZK r:E)-4)=P:=(by rw[Au O O];omega);have a9:ZE ((P:E)<0)=ZZ:=aE O;have⟨b,i5⟩:=Z_ (Ab i);rw[i5] at l a4 v;have a5:=K_ i5 j6;generalize aa (Ab c6)=j0 at *;generalize Gy b=h6 at *;clear h9 i0 l5 j6 i5
 by_cases f3:h6=j0
 ·have j9:(h6 !=(j0:E))=ZZ:=(by simp[bne,f3]);clear f3;go_enter func128,ntmps128;go_upto_region 2 with fail;go_quiet (first|(go_at_call 180;exact(l.out _).m (λ_ _ g=>⟨g.1,_,g.2⟩))|(go_at_call 181;exact(h4.out _).m (λ_ _ g=>⟨g.1,_,g.2⟩)));clear l h4 j9 j7 k5 a9;have⟨n,i9⟩:=Z_ (Y1 a0 nq);have e8:Hid (E_ a0 n/\B n.1=B a0.1):=(by rw[<- i9];exact⟨below_drewN y_ _,s_⟩);have d6:ZK i<=4000000:=p_ a5.2;have h8:=Iw (B n.1) 2 i ⟨0,ZZ⟩ (ZN n (O_ #[Q_ i,I 0,ZR ZZ] 288)) hn_ C d6 v_;have f4:F b=ZK i:=(by rw[<- a5.1,Ci]);rw[a5.1] at h8;have e0:Hid (opM b=Lj b 2 ⟨0,ZZ⟩):=rfl;have i6:(Lj b 2 ⟨0,ZZ⟩).1.k<=F b:=Tz v_
  have d4:=Zp6 (Ij b 2 ⟨0,ZZ⟩) (Np a4 2 ⟨0,ZZ⟩);generalize Lj b 2 ⟨0,ZZ⟩=b2 at *;go_upto_region 4 with fail;rw[i9];clear i9;go_wp2_with fail
  apply h8.m;rintro d l0 ⟨rfl,q,h2⟩;clear h8;have⟨t,k0⟩:=Z_ (B n.1);have⟨w,k1⟩:=Z_ (B l0.1);have g1:Hid (OpI n (ZN l0 (O_ #[I 0,Dg,Dg,Dg,Dg] 142)) t w 0 Dg [] [] i b2.1):=(by have e5:=h2.size;simp at e5;rw[k0] at q h2;exact⟨q.q r_,f4 ▸ i6,by rw[<- k1];exact hn_,ja.nil,λe e4=>by simp at e4,((r_ (o:=O_ #[Q_ i,I 0,ZR ZZ] 288)).T (h2.b s_ (λa3 hq=>O))).alloc O _,O,O⟩);rw[k0];clear q h2;go_wp2_with fail
  apply (Cl t 200 i b2.1 _ g1.w d6 g1.y).m;rintro d m4 ⟨rfl,x,k7⟩;rw[a5.1] at x ⊢;have g2:=Y (g1.call x (f4 ▸ Ic i6) k7);have hq:=(Jl a4 200 b2.1).2 C;have k4:(Cx b 200 b2.1).1.k<=F b:=Ic i6;have e1:Hid (zs b=Cx b 200 b2.1):=(by show _=_;unfold zs;rw[e0]);clear x k7 g1;generalize Cx b 200 b2.1=a3 at *;obtain⟨a3,o⟩:=a3;simp only at hq k4 ⊢;have l2:=R_ 0 _ _ g2.v;have l1:=n_ 0 g2.v;have g3:=Y (g2.u o);clear g2;go_wp2_with fail
  clear l2 l1 k1;generalize (ZO m4) _ _=m5 at *;apply (Cl t 4 i a3 _ g3.w d6 g3.y).m;rintro d m6 ⟨rfl,g7,k8⟩;rw[a5.1] at g7 ⊢;have h5:=Y (g3.call g7 (f4 ▸ Ic k4) k8);have l9:=(Jl a4 4 a3).2 C;have a8:Hid (opK b=Cx b 4 a3):=(by show _=_;unfold opK;rw[e1]);clear g7 k8 g3;generalize Cx b 4 a3=h0 at *;obtain⟨h0,k⟩:=h0;simp only at l9 h5 ⊢;have⟨h1,i7⟩:=Z_ ((h0,[]):Cu×U KS);have f9:Hid (Si b=Hr (fsC b) h1 k):=(by show _=_;unfold Si;rw[a8,<- i7]);have j2:=Y i7;clear i7;go_wp2_with fail
  go_loopw [9] (λa c=>∃(h:H) (s:Cu) (f:U KS) (W:ZY) (G:U (ZY×ZY)),a=ZX ZQ h/\h<=k/\F f=h/\Hid ((s,f)=Hr (fsC b) h1 h)/\Hid (OpI n c t w o W G f i s)) (λa _=>k-ZL (ZA a))
  case atStart=>exact⟨0,h0,[],Dg,[],X,v_,X,j2.out,h5⟩
  clear h5 j2;obtain⟨h,s,f,W,G,rfl,i3,f2,l,Q⟩:=hrel;have⟨z,a9,g6⟩:=Q.cells
  by_cases d3:h<k/\s.z=ZZ
  ·obtain⟨j3,g⟩:=d3;have c9:h<(k:E):=O;have S:=Ld (f:=fsC b) (s:=h1) (k:=h) (by rw[<- l];exact g);rw[<- l] at S;rw[g] at z;clear l g;go_wp2_with fail
   apply (Zaa t i s wr Q.w d6 Q.y).m;rintro d f7 ⟨k2,k3,rfl,c7,c8,c0,c5,g4⟩;rw[a5.1] at c7 c8 c0 c5 ⊢;have N:=Y (Q.call c0 c5 g4);have e9:=(ZmN a4 s).1;have c4:B n.1<=B wr.1:=Q.D.size;have A:=x3_ (c7.m c4) (c8.c c4) e9;have e4:Hid (Hr (fsC b) h1 (h+1)=((jp b s).1,f++[(jp b s).2])):=S;clear S c7 c8 c0 c5 g4 Q z a9 g6 c4 e9;generalize jp b s=h7 at *;obtain⟨e5,e,c⟩:=h7;simp only at A e4 N ⊢;obtain⟨j,p,rfl⟩:=A.1.d;obtain⟨m,y,rfl⟩:=A.2.1.b;have⟨d7,f5⟩:=Z_ (ZN f7 (O_ #[ZR e.a,V j (F e.f) p,V m (F e.c) y,I c] 227));have⟨b8,f0⟩:=Z_ (B f7.1);have b0:jb d7 b8 e.a (V j (F e.f) p) (V m (F e.c) y) c/\E_ f7 d7:=(by rw[<- f5,<- f0];exact⟨hn_,r_⟩);go_upto_region 13 with fail;clear f5;have⟨a7,b1,f1⟩:=N.A.M.d
   rw[N.A.a,f2] at f1;subst f1;have e3:Hid (∀b3,ZW (ZH a7 h b1)=T b3->b3≠b8):=λb3 b9 d=>p_ (B_ N.A.M.M b3 b9).2;clear f0;have⟨a2,b7⟩:=Y_ (N.q b0.2) b0.1;have a6:=x3_ (A.1.q b0.2) (A.2.1.q b0.2) A.2.2;clear b0 N A;have⟨_,a9,g6⟩:=a2.cells;have⟨⟨b6,f8,d8,d1⟩,_,_⟩:=b7.cells;generalize (F e.f)=D at *;generalize (F e.c)=L at *;have⟨b4,c3⟩:=Z_ e.a;have d5:=Y c3;rw[c3] at b6;clear c3;have a1:Hid (OpI n (YY (ZN d7 (O_ #[ZR b4,V j D p,V m L y,I c] 227))) t w o (V a7 h b1) G f i e5):=a2.q r_.drew;have e2:Hid (ZD (YY (ZN d7 (O_ #[ZR b4,V j D p,V m L y,I c] 227))) (B n.1) 227 4 (V a7 h b1) h (zipWith Bs f G).flatten):=(by have:=a1.A.M.M;rw[a1.A.a,f2] at this;exact this);have j4:B n.1<=B d7.1:=a2.D.size;clear a2
   refine Af (λa=>ZV a _=T _/\ZV a _=T _/\ZV a _=T _/\ZV a _=T _/\ZV a _=T _) 10 k_ ⟨a9,b6,f8,d8,d1⟩ λhHeld=>?_;refine G_ ?_;refine on_ 6 λKK hK=>?_;go_simp;refine hK _ _ ⟨Ah r_ a9,Ah r_ b6,Ah r_ f8,Ah r_ d8,Ah r_ d1⟩ λhHeld=>?_;clear hK KK;try simp only[Act.put,sA,sB,sC]
   refine on_ 7 λKK hK=>?_;refine aq_ [ZR b4,V j D p,V m L y,I c] e2 ?_;rintro j1 e6 ⟨g0,a,_,_,j8,j5,i1⟩
   have⟨e7,c2⟩:=a1.z (v':=j1) (K:=⟨e,c⟩) (u:=(V j D p,V m L y)) (a6.1.q r_.drew) (a6.2.1.q r_.drew) a6.2.2 a (by
    have d:Bs ⟨e,c⟩ (V j D p,V m L y)=[ZR b4,V j D p,V m L y,I c]:=(by unfold Bs;rw[d5]);rw[f2,d]
    exact g0)
   have h3:=Y e7;have d9:jb e6 b8 e.a (V j D p) (V m L y) c:=((Aa.refl _ _).grown a (λb3 b9 _=>b9)).g (S:=λa3=>ZW (ZH a7 h b1)=T a3) ((Aa.a (S:=λ_=>False) r_.drew).g b7 id) (λd=>e3 _ d X);have⟨⟨d0,g5,g8,g9⟩,_,_⟩:=d9.cells;rw[d5] at d0;have c1:=n_ 1 c2;have i2:=R_ 1 _ 142 c2;subst i1;clear g0 a e7 c2 d9 a9 g6 b6 f8 d8 d1 a1 e2 b7 a6 e3;refine hK _ _ ⟨c1,d0,g5,g8,g9⟩ λhHeld=>?_;clear hK KK;refine G_ ?_;refine le_ ?_;clear c1 i2 d0 g5 g8 g9 hHeld;generalize (ZO e6) _ _=f6 at *;refine J_ ?_;exact⟨h+1,e5,f++[(⟨e,c⟩:KS)],_,_,g_,O,by simp[f2],e4.s,h3⟩
  have m:Hid (s.z=Z0∨h=k):=by
   cases g:s.z
   exact ZJ (by by_cases d:h<k;exact absurd ⟨d,g⟩ d3;omega);exact ZM X
  go_upto_region 10 with fail;go_cut [56] (λe g=>e=ZR ZZ/\wr=g)
  case first=>
   rcases m.out with g|g
   ·rw[g] at z;clear l Q f9 m
    by_cases c9:h<(k:E)<;>(go_wp2;go_meet;exact⟨X,X⟩)
   have c9:¬h<(k:E):=O;clear l Q f9 m g i3;go_wp2;go_meet
   exact⟨X,X⟩
  obtain⟨rfl,rfl⟩:=hcut;clear d3;have A:Hid (Si b=(s,f)):=(by rw[f9];exact Uq l i3 m);clear m l f9 z a9 g6 f2 i3;go_upto_region 14 with fail;have m0:=Re k O;have N:=Y (Q.q (r_ (o:=O_ (YV #[ZR ZZ] k) 4)));have g9:=Rc k wr (B n.1) O Q.D.size;have⟨b8,k2⟩:=Z_ (B wr.1);rw[k2] at g9;have l8:B n.1<=b8:=p_ Q.D.size;clear Q;go_wp2_with fail
  clear k2 m0;generalize (ZN wr) _=f7 at *;apply (Cl t 255 i s f7 N.w d6 N.y).m;rintro d d7 ⟨rfl,b0,j1⟩;rw[a5.1] at b0 ⊢;have a2:=Y (N.call b0 (f4 ▸ Ic (f4 ▸ N.y)) j1)
  have c:Hid (OpJ n d7 t w b8 o k W G f i ((Cx b 255 s).1,Y6 k ZZ,[],[])):=⟨a2.w,a2.y,j1.M g9 (λh i2=>Ag g9 i2 N.w C),s_,λd=>⟨by
   have:=(ju a4 (A ▸ (Vw d).1)).2.1;rw[A,a8] at this
   exact this.s,_,_,_,_,a2.G⟩,a2.D⟩
  have g4:=Y a2.t;have l3:=(Jl a4 255 s).1;have j4:Hid ((Cx b 255 s).1.z=ZZ->s.z=ZZ):=λd=>(Vw d).1;have h3:Hid (opB b=Cx b 255 s):=(by show _=_;unfold opB;rw[A]);clear b0 j1 N a2 g9;generalize Cx b 255 s=p at *;obtain⟨p,b4⟩:=p;simp only at l3 c ⊢;have j5:Hid (p.z=ZZ->(Si b).1.z=ZZ):=A ▸ j4;have⟨c1,e5⟩:=Z_ ((p,Y6 k ZZ,[],[]):Cu×U ZG×U (U H)×U (U H));rw[e5] at c
  have d9:Hid (∀h,Hr (gy b (zs b).2 (Si b).2) ((opB b).1,Y6 (opK b).2 ZZ,[],[]) h=Hr (gy b o f) c1 h):=λh=>by rw[e1,A,h3,a8,<- e5]
  have j3:Hid (∀h,(Hr (gy b o f) c1 h).1.z=ZZ->(Si b).1.z=ZZ):=λh i2=>j5 (by have:=(Qw (f:=gy b o f) (λ_ _=>True) (λ_=>trivial) h (λ_ _ _ _ _ _=>trivial) i2).2;rw[<- e5] at this;exact this);clear e5 j4 j5;go_wp2_with fail
  go_loopw [13] (λe g=>∃(p:H) (a:Cu×U ZG×U (U H)×U (U H)),e=ZX ZQ p/\p<=b4/\Hid (a=Hr (gy b o f) c1 p)/\Hid (OpJ n g t w b8 o k W G f i a)) (λe _=>b4-ZL (ZA e))
  case atStart=>exact⟨0,c1,X,v_,X,c⟩
  clear c;obtain⟨p,a,rfl,i1,l,c⟩:=hrel;have z:=n_ 2 c.w
  by_cases d3:p<b4/\a.1.z=ZZ
  ·obtain⟨d0,g⟩:=d3;have c9:p<(b4:E):=O;have S:=Ld (f:=gy b o f) (s:=c1) (k:=p) (by rw[<- l];exact g);rw[<- l] at S;have b3:=j3 p (by rw[<- l];exact g);have⟨L,j,c8,e2,_⟩:=Zk0 a4 (m:=p) b3 (by rw[d9,<- l];exact g);have⟨d5,c2,c3,b6,b7,d1⟩:=c.G g;rw[d9,<- l] at c8;rw[A,e1] at e2;have a6:=ZfL e2 O;have e3:a.2.2.1=L.map (·.fs):=(by rw[c8]);have e:a.2.2.2=L.map (·.N):=(by rw[c8]);rw[<- e3,<- e] at a6;have a7:F a.2.2.1<=256:=(by rw[e3,length_map];omega);have D:=Zb7 (B n.1) t w b8 o W c2 c3 Dg G b6 b7 f a.2.2.1 a.2.2.2 i a.1 a.2.1 [] wr ⟨d1,⟨_,c.w⟩,Ac c.A (k:=b8) X⟩ c.w (by rw[<- d5];exact c.A) (by rw[<- d5];exact c.r) d6 c.y O O (λy=>XsV.N (Xr.nil 0)) g4.1 l8 c.D.size a6 a7;rw[<- d5,a5.1] at D
   rw[g] at z;have y:=Y d5;clear j c8 e2 e3 e a7 a6 b3 d1 g l d5;go_wp2_with fail
   apply D.m;rintro d c7 ⟨rfl,b9⟩;have a1:Hid (OpJ n c7 t w b8 o k W G f i (gy b o f a)):=(by obtain⟨c2,c3,b6,b7,f0,g5,c0,b1,c4,c5⟩:=b9;exact⟨f0,g5,y ▸ c0,b1.T y.s,λ_=>⟨y,c2,c3,b6,b7,c4⟩,c.D.T c5⟩);clear b9 D z c y;refine J_ ?_;exact⟨p+1,_,g_,O,S.s,a1⟩
  have m:Hid (a.1.z=Z0∨p=b4):=by
   cases g:a.1.z
   exact ZJ (by by_cases d:p<b4;exact absurd ⟨d,g⟩ d3;omega);exact ZM X
  go_upto_region 17 with fail;go_cut [84] (λe g=>e=ZR ZZ/\wr=g)
  case first=>
   rcases m.out with g|g
   ·rw[g] at z;clear l c d9 m
    by_cases c9:p<(b4:E)<;>(go_wp2;go_meet;exact⟨X,X⟩)
   have c9:¬p<(b4:E):=O;clear l c d9 m g i1;go_wp2;go_meet
   exact⟨X,X⟩
  obtain⟨rfl,rfl⟩:=hcut;clear d3;have a7:Hid (opG b=a):=(by unfold opG;rw[d9,h3];exact Uq l i1 m);clear m l d9 h3 j3 z i1;go_wp2_with fail
  go_loopw [14] (λg j=>∃e:H,g=ZX ZQ e/\e<=k/\Hid (OpJ n j t w b8 o k W G f i (if(ZU e a.2.1).all id=Z0 then a.1 else⟨a.1.k,Z0⟩,a.2))) (λg _=>k-ZL (ZA g))
  case atStart=>exact⟨0,X,v_,take_zero ▸ c⟩
  clear c;obtain⟨e,rfl,l7,c⟩:=hrel;have z:=n_ 2 c.w
  by_cases k3:e<k
  ·have c9:=F_ e k;have D:e<F a.2.1:=(by have:=c.r;simp only at this;omega);have⟨a3,hq,_,_,y⟩:=c.A.b c.r k3;simp only at y;injection hq with hq;injection hq with hq;subst hq;have j:(ZU (e+1) a.2.1).all id=((ZU e a.2.1).all id&&Z a.2.1 e ZZ):=by rw[Qi D,all_append];simp[Z,D]
   cases g:Z a.2.1 e ZZ
   ·rw[g] at y j;have L:=R_ 2 _ _ c.w;have a1:Hid (OpJ n (ZO wr (J t 2) (ZR Z0)) t w b8 o k W G f i (if(ZU (e+1) a.2.1).all id=Z0 then a.1 else⟨a.1.k,Z0⟩,a.2)):=(by have q:=c.w.g;have x:(if(ZU e a.2.1).all id=Z0 then a.1 else⟨a.1.k,Z0⟩).k=a.1.k:=(by split<;>rfl);rw[j,Bool.and_false,aC C,<- x];exact c.call q.1 c.y (λd=>by cases d) q.2 g4.1);clear c g j;generalize (if(ZU e a.2.1).all id=Z0 then a.1 else⟨a.1.k,Z0⟩)=c7 at *;refine J_ ?_;exact⟨e+1,g_,O,a1⟩
   rw[g] at y j;rw[Bool.and_true] at j;rw[<- j] at c;clear g j z;refine J_ ?_;exact⟨e+1,g_,O,c⟩
  obtain rfl:e=k:=O;have j:ZU e a.2.1=a.2.1:=aI (by have:=c.r;simp only at this;omega);rw[j] at c z;have c4:Hid (opC b=if a.2.1.all id=Z0 then a.1 else⟨a.1.k,Z0⟩):=(by show _=_;unfold opC;rw[a7]);have c9:¬(e:E)<e:=O;clear j l7 k3;generalize (if a.2.1.all id=Z0 then a.1 else(⟨a.1.k,Z0⟩:Cu))=c7 at *;go_upto_region 25 with fail
  by_cases S:b2.2=[71,82]/\e≠0/\c7.z=ZZ
  ·obtain⟨q,x,d0⟩:=S;have f0:=d4.2 q;have g5:((e:E)==0)=ZZ:=(by simp[x]);rw[d0] at z;have h7:(opK b).2≠0:=a8 ▸ x;have⟨L,j,c8,_⟩:=Zn9 a4 h7 (c4 ▸ d0);have y:=c8 [] Pairwise.nil s_;rw[a7] at j;rw[A,e1] at y;have⟨d5,c2,c3,b6,b7,d1⟩:=c.G d0;have e2:a.2.2.1=L.map (·.fs):=(by rw[j]);have e3:a.2.2.2=L.map (·.N):=(by rw[j]);simp only at d1;have hK:∀e,e<F f->KRt (Z f e Aj):=λe e4=>y.g _ (Hu Aj e4);have D:=im (B n.1) t w o W c2 c3 G b6 b7 f a.2.2.1 a.2.2.2 i c7 wr d1 c.w d6 c.y O O (by rw[e2,e3];exact ZfL y.f (aG y.l C)) (λe e4=>oj_ (hK e e4).sum (hK e e4).ok.g);rw[a5.1] at D;have e7:Hid (eo wr (B n.1) w o W c2 c3 Dg G b6 b7 f a.2.2.1 a.2.2.2/\∃g,wr.1[t]? =T (O_ g 288)):=⟨d1,_,c.w⟩
   have c5:Hid (opX b=xcC b o f a.2.2.1 a.2.2.2 c7):=(by show _=_;unfold opX;rw[e1,A,a7,c4]);have g0:=Y h7;clear d4 j c8 e2 e3 y d5 d1 hK h7 q d0;go_wp2_with fail
   apply D.m;rintro d e6 ⟨rfl,k9,j8⟩;have m:=Y j8;generalize xcC b o f a.2.2.1 a.2.2.2 c7=a6 at *;obtain⟨f1,a6⟩:=a6;simp only at m;have d8:=n_ 2 m.w;have f8:=n_ 1 m.w;have a1:Hid (E_ a0 e6):=e8.1.T (e8.2 ▸ (c.D.T (m.u.b c.D.size (λa3 hq=>oj_ g4.1 g4.2))));clear D j8 f0 g5 z
   by_cases S:f1.z=ZZ/\f1.k=P
   ·obtain⟨q,x⟩:=S;rw[q] at d8;rw[x] at f8;have⟨L,j,y⟩:=Zo5 a4 g0 (c5 ▸ q);rw[a7] at j;rw[A,e1,c5] at y;have b1:=m.G e7.1 e7.2;rw[show a.2.2.1=L.map BS.fs by rw[j],show a.2.2.2=L.map BS.N by rw[j]] at b1;have g8:RfX e6 (B n.1) w o W c2 c3 k9 G b6 b7 f (L.map BS.fs) (L.map BS.N) a6:=⟨b1.v,b1.A,b1.w,b1.y,⟨Zcs m.r.M c.D.size,m.r.h⟩,b1.x,b1.t⟩;have D:=Oi (y.a X) (λg b3=>(y.g g b3).ok.w) (λg c0 b3 b9=>p_ ((y.g g c0).num b3 b9)) (List.Perm.refl a6) w _ _ _ _ _ _ _ _ e6 g8;have e9:=K_ g8 y;have⟨m3,f5⟩:=Z_ (ZB (Br ⟨f,L,a6⟩ a6));rw[f5] at D
    by_cases d2:m3=r
    ·have b3:Hid (R=T ⟨f,L,a6⟩):=b5.s.T (Zo2 (D:=⟨f,L,a6⟩) y f5 d2);rw[d2] at D;clear v b5 e0 a8 c4 a7 c m c5 e7 g0 b1 g8 y j q x f5 d2;go_wp2_with fail
     apply D.m;rintro d f6 ⟨rfl,b9⟩;have c0:Hid (ad a0 f6 R (ZI (Y5 #[P_ w,ZX ZQ 0]))):=(by rw[b3];refine⟨w,o,X,⟨W,c2,c3,k9,G,b6,b7,a6,?_,List.Perm.refl a6,e9.2.r.imp λg=>O⟩,e9.2,a1.T (b9.m a1.size)⟩;rw[<- e8.2];exact e9.1.z (.a b9));clear D e9 b3 a1 b9;go_wp2;go_ret2
     exact c0
    have b3:Hid (R=ZP):=by
     show _=_
     cases g:R with
     |none=>rfl
     | some M=>
      have⟨_,_,_,_,_,_,_,b9,c0,f6,k6,m2⟩:=v M g;rw[A] at b9;rw[a7,j] at c0;rw[c5] at f6;have d:=ZoB (λp l6=>(y.f p l6).sum) b9 c0 f6 m2;rw[<- d] at k6;exact absurd ((ZcJ (Qr _ _)).2 k6) (λd=>d2 (f5.s.T d))
    have c0:=Zob d2;clear v b5 e0 a8 c4 a7 c m c5 e7 g0 b1 g8 y j q x f5 d2 e9;go_wp2_with fail
    apply D.m;rintro d f6 ⟨rfl,b9⟩;have g:=Y (a1.T (b9.m a1.size));clear D b9;go_wp2;go_ret2
    exact ad.j b3 g
   have b3:Hid (R=ZP):=by
    show _=_
    cases g:R with
    |none=>rfl
    | some M=>
     have⟨_,_,_,_,_,b9,c0,_⟩:=v M g;rw[c5] at b9 c0;exact absurd ⟨b9,c0⟩ S
   clear v b5 e0 a8 c4 a7 c m c5 e7 g0
   cases g:f1.z
   ·have c0:¬f1.k=P:=λd=>S ⟨g,d⟩;have b1:((f1.k:E)==P)=ZZ:=t_;rw[g] at d8;clear S g;go_wp2;go_ret2
    exact ad.j b3 a1
   rw[g] at d8;clear S g;go_wp2;go_ret2
   exact ad.j b3 a1
  have b3:Hid (R=ZP):=by
   show _=_
   cases g:R with
   |none=>rfl
   | some M=>
    have⟨_,_,b9,c0,f6,_⟩:=v M g;rw[e0] at b9;rw[a8] at c0;rw[c4] at f6;exact absurd ⟨b9,c0,f6⟩ S
  have a1:Hid (E_ a0 wr):=e8.1.T (e8.2 ▸ c.D);clear v b5 e0 a8 c4 a7 c
  by_cases q:b2.2=[71,82]
  ·have f0:=d4.2 q
   by_cases x:e=0
   ·clear q S d4;go_wp2;go_ret2
    exact ad.j b3 a1
   have g5:((e:E)==0)=ZZ:=by simp[x]
   have d0:c7.z=Z0:=by
    cases g:c7.z
    exact absurd ⟨q,x,g⟩ S;rfl
   rw[d0] at z;clear q S d0 d4;go_wp2;go_ret2
   exact ad.j b3 a1
  have f0:¬(ZB b2.2).toList=[71,82]:=λd=>q (d4.1 d);clear q S d4;go_wp2;go_ret2
  exact ad.j b3 a1
 have A:Hid (R=ZP):=by
  show _=_
  cases g:R with
  |none=>rfl
  |some M=>exact absurd (v M g).2.1.s f3
 have j9:(h6 !=(j0:E))=Z0:=bne_iff_ne.2 f3;clear v b5 f3 a5;go_enter func128,ntmps128;go_upto_region 2 with fail;go_quiet (first|(go_at_call 180;exact(l.out _).m (λ_ _ g=>⟨g.1,_,g.2⟩))|(go_at_call 181;exact(h4.out _).m (λ_ _ g=>⟨g.1,_,g.2⟩)));go_wp2;go_ret2
 exact ad.j A (below_drewN y_ _)
def Zk9{g:H}{b:Ft}{c:U XS}(a:DRt g b b.r)(e:c.Perm b.r)(f:Em c):Pj g b c:=by have d:=a.a X;obtain rfl:c=b.r:=Xc d.v e f (List.Perm.refl _) (a.r.imp λa=>O);exact⟨d,λK hK=>(a.g K hK).ok.w,λK hK j i=>p_ ((a.g K hK).num j i),e,f,λl k _ h=>ZhE a h⟩
section
variable {d:ZS} {w a w2 w3:ZT} {o:H->H} {g N L:H} {c:YZ ZY} {v1 v2:ZY} {e:U RP} {b:U H}
def Ce.j(i:Ce d w o g c N L v1 v2 e b){y n t D z p l}(a2:xq (B w.1) a t D n)(A:E_ w a)(a1:ep a w2 z y n)(s:E_ a w2)(a7:DRt y n n.r)(k:Pg w2 w3 g 2 137 96 c v2 (b.map zw) (P_ t) (P_ z) p l):Ce d w3 (Fh w w3 o l 15 17) g (YS c 2 l) N L v1 l e (b++[p])/\Dh d w w3/\Aa (λf=>f=g∨ZW v2=T f) w w3:=by
 have b1:=A.size;have c2:=s.size;have c3:=k.u.size;have m:Aa (λf=>f=g∨ZW v2=T f) w w3:=(Aa.a (A.T (s.m b1))).T k.u
 have r:∀f,f<B w.1->(f=g∨ZW v2=T f)->o f=0∨o f=15:=λf j h=>by
  rcases h with h|h
  subst h;exact ZM i.r.b;exact ZJ (i.z f h)
 have q:Ek w o (Fh w w3 o l 15 17):=mt
 have a9:∀f,f<B w.1->Fh w w3 o l 15 17 f=o f:=λf j=>by unfold Fh;rw[aD j]
 have a8:∀f,B w.1<=f->f<B w2.1->Fh w w3 o l 15 17 f=17:=λf u a0=>Pq u O (λh=>by
  rcases k.D f h with v|v
  have:=(B_ i.y f v).2;omega
  omega)
 have a5:=(Qb k.o).1
 have a6:Fh w w3 o l 15 17 p=17:=Pq (p_ k.t) a5 (λh=>by
  have⟨x,v⟩:=Ac k.M h;rw[k.o] at v
  simp at v)
 have⟨b4,b5⟩:=Ho i.M i.P m (λf j h=>p_ (r f j h)) q C;refine⟨⟨i.r.put m (λf j h=>?_) k.v q (λM c1=>aH O) (by simp[i.r.x]),λf j=>?_,(aH O).T i.D,b4,b5,Array.getElem?_setIfInBounds_self_of_lt (by rw[i.r.x];decide),?_,λf j=>?_,λM b6 x=>(i.w M b6 x).z m (λf j h=>p_ (r f j h)) q O,i.x,λW a4=>?_,i.l q m.size⟩,i.A m (λf j h=>p_ (r f j h)),m⟩
 ·rcases h with h|h
  exact ZM h;exact ZJ (p_ (i.z f h))
 unfold Fh;rw[aC O,aC (λh=>p_ (B_ k.M f h).2),aC O];have h:(b++[p]).map zw=b.map zw++[P_ p]:=(by simp[zw]);rw[h,Qe];exact k.M
 ·by_cases G:f<B w.1
  ·rw[a9 f G]
   rcases k.D f j with h|h
   exact i.z f h;omega
  unfold Fh
  grind
 rcases mem_append.1 a4 with h|h
 exact(i.L W h).z m (λf j h=>p_ (r f j h)) q;rw[mem_singleton] at h;subst h;obtain⟨b9,b7,b8,c0,b3,R,S,Q,a3,b0,b2⟩:=a1;refine⟨t,D,z,B a.1,y,n,b9,b7,b8,c0,b3,R,S,Q,λc4 v=>⟨v.g k.o (λh=>h a6),?_,?_⟩,Zk9 a7 b0 b2⟩
 ·have x:=a2.a (λf u a0=>a8 f u O);have P:Aa (λf=>f=g∨ZW v2=T f) a w3:=(Aa.a s).T k.u;refine x.i P (λf j h=>?_) (Ek.refl _ _) C _ v
  have G:f<B w.1:=by
   rcases h with h|h
   rw[h];exact i.r.v.lt;exact(B_ i.y f h).2
  grind
 have G:=(k.u.m (S':=λf=>f<B a.1) (λf _ h=>by
  rcases h with h|h
  have:=i.r.v.lt;omega
  have:=(B_ i.y f h).2;omega)).c v (λf h=>by
  grind)
 exact a3.z G
end
def oh{h a2 v a3 i A q} a t s k (g:ZC) e (R:Ce h e a2 a v t s a3 i A q)(a0:F A<=k)(a1:F q<=k)(b0:k<=10000000)(a7:ZK g<=2000000):C_ 72 #[P_ a,Q_ g] e λc j=>c=ZI (ZR Z0)/\Bw h j a t s (k+1)/\Dh h e j/\Aa (λf=>f=a∨ZW i=T f) e j:=by
 have S:=uq g e O;have r:K (∀u,C_ 128 #[Q_ g] u λc j=>ad u j (oe (Ab g)) c):=λu=>vu g u a7;have b:=x3_ R a0 a1;clear R a0 a1;generalize oe (Ab g)=a6 at *;refine dl_ ?_;go_enter func72,ntmps72;go_wp2_with fail
 apply S.m;intro c a4 N;clear S
 cases a6 with
 | none=>
  obtain⟨rfl,p⟩:=N;have n:=Y p;clear p;go_wp2_with fail
  apply (r a4).m;rintro c m ⟨rfl,l⟩;have y:K (Bw h m a t s (k+1)/\Dh h e m/\Aa (λf=>f=a∨ZW i=T f) e m):=(by have d:=n.T (l.m n.size);exact⟨⟨a2,v,a3,i,A,q,b.1.q d,p_ b.2.1,p_ b.2.2⟩,Dh.a d,.a d⟩);clear n l r b;go_wp2_with fail
  apply (Wj a).m;rintro c d ⟨rfl,f⟩;obtain rfl:=f.s;go_wp2_with (go_at_call 68;apply (Ee).m;rintro c j ⟨rfl,f⟩;obtain rfl:=f.s)
  go_ret;exact⟨s_,y⟩
 | some a8=>
  obtain⟨M,a9,rfl,Q,p⟩:=N;have o:=K_ Q p;clear Q p;go_wp2_with fail
  apply (r a4).m;rintro c m ⟨a5,b1,rfl,P,W,l⟩;have d:=o.2.T (l.m o.2.size);have x:=b.1.q d
  have G:=hdc<|Wk a M a5 v i (q.map zw) m x.r.v x.G x.y (by have:=b.2.2;simp;omega)
  have L:K (∀n z D,Pg m n a 2 137 96 v i (q.map zw) (P_ M) (P_ a5) z D->_):=λn z D w=>b.1.j o.1 o.2 P l W w;clear P W l d x r;go_wp2_with fail
  apply G.m;rintro c n ⟨rfl,z,D,w⟩;have y:K (Bw h n a t s (k+1)/\Dh h e n/\Aa (λf=>f=a∨ZW i=T f) e n):=(by have d:=L _ _ _ w;exact⟨⟨_,_,_,_,_,_,d.1,p_ b.2.1,by have:=b.2.2;simp;omega⟩,d.2⟩);clear w L G b o;go_wp2_with (go_at_call 68;apply (Ee).m;rintro c j ⟨rfl,f⟩;obtain rfl:=f.s)
  go_ret;exact⟨s_,y⟩
section
variable {w w' W:ZT} {G:H->Prop} {t b:ZC} {db a yb gb i:H} {s:SS} {x y:E}
def Oq.q(a:Oq w G db b s 0)(c:E_ w W):Oq W G db b s 0:=a.e (λ_ _ _ _=>ab_ c) λ_ _ a=>a
def Zx.N{c b}(d:E_ w W)(a:Zx G db c W b w'):Zx G db c w b w':=⟨a.1,a.2.1,(Aa.a d).T a.2.2⟩
def Zhs(d:D_ w a 0 (P_ db))(t:¬G a)(k:Oq w G db b s 0)(n:∀e,B w.1<=e->G e)(r:ZK b<=1000000)(m:∀W,E_ w W->C_ 34 #[P_ gb] W (U_ (Q_ b) W)):C_ 36 #[P_ a,P_ gb] w (Zx G db (svS b s) w):=by
 have j:K (∀W,E_ w W->C_ 63 #[P_ db,Q_ b] W (Zx G db (svS b s) w)):=λW h=>(Zg9 (k.q h) (λe c=>n e (aG h.size c)) r).m λ_ _=>.N h;have i:=Y m;clear k n m;generalize svS b s=p at *;refine q_ ?_;go_upto_region 1 with fail;refine Af (λw'=>D_ w' a 0 (P_ db)) 7 k_ d (λg=>?_);refine G_ ?_;refine oc_ 5 (i _ y_.drew) ?_;rintro q u ⟨rfl,c⟩;replace c:E_ w u:=y_.drew.T c;refine⟨_,X,T_ c d,λg=>G_ ?_⟩;refine oc_ 6 (j _ c) ?_;rintro q v ⟨rfl,l,f⟩;have o:K (Zx G db p w _ v):=⟨X,l,f⟩;refine⟨_,X,f.d d t,λg=>G_ ?_⟩;refine le_ ?_;clear d g l f c j i;go_wp2;go_ret;exact o
def Zhp(h:D_ w a 0 (P_ db))(c:Oq w G db b s 0)(g:G (B w.1))(i:x<=9223372036854775807):C_ 38 #[P_ a,I x,I y] w (Zx G db (ZdT x y s) w):=by
 have d:=Y (Zg7 (y:=y) c g i);clear c;generalize ZdT x y s=f at *;refine q_ ?_;go_wp2_with fail
 apply d.m;rintro k j ⟨rfl,c⟩;have e:K (Zx G db f w _ j):=⟨X,c⟩;clear d c h;go_wp2;go_ret;exact e
def Zd9(g:D_ w a 0 (P_ db))(c:Oq w G db b s 0):C_ 39 #[P_ a] w (Zx G db (Ze0 s) w):=by
 have d:=Y (ZdN c);clear c;generalize Ze0 s=f at *;refine q_ ?_;go_wp2_with fail
 apply d.m;rintro i h ⟨rfl,c⟩;have e:K (Zx G db f w _ h):=⟨X,c⟩;clear d c g;go_wp2;go_ret;exact e
def si(s:SS):Y0 Ft×E:=if(cg s).2=0 then(oe (Ab (cg s).1),2) else(ZP,(cg s).2)
def LdG(b:Y0 Ft×E)(w w':ZT)(a:Ending):Prop:=match b.1 with
 |none=>a=ZI (Y5 #[Y7 ZP,ZX ZQ b.2])/\E_ w w'
 |some c=>∃gb db,a=ZI (Y5 #[Y7 (T ⟨gb,0,ZP⟩),ZX ZQ 0])/\xq (B w.1) w' gb db c/\E_ w w'
def LdR(d:Y0 Ft×E)(w w':ZT)(b:Ending):Prop:=match d.1 with
 |none=>b=ZI (Y5 #[Y7 ZP,ZX ZQ d.2])/\E_ w w'
 |some a=>∃yb c,b=ZI (Y5 #[P_ yb,ZX ZQ 0])/\ep w w' yb c a/\DRt c a a.r/\E_ w w'
def LdG.j{a z}(b:a=ZP)(c:E_ w w'):LdG (a,z) w w' (ZI (Y5 #[Y7 ZP,ZX ZQ z])):=by subst b;exact⟨X,c⟩
def LdR.j{a z}(b:a=ZP)(c:E_ w w'):LdR (a,z) w w' (ZI (Y5 #[Y7 ZP,ZX ZQ z])):=by subst b;exact⟨X,c⟩
def Zhq(n:D_ w a 0 (P_ db))(l:Oq w G db b s 0)(k:ZK (cg s).1<=1000000):C_ 37 #[P_ a] w λj w'=>LdG (si s) w w' j:=by
 unfold si;have g:=Y (Zg8 l);clear l;generalize cg s=o at *;obtain⟨i,f⟩:=o;refine q_ ?_;go_wp2_with fail
 apply g.m;rintro j u ⟨rfl,q⟩;obtain rfl:=q.s
 by_cases p:f=0
 ·subst f;have h:=uq i w (aG k C);clear g k n;go_wp2_with fail
  apply h.m;intro j r e
  cases c:oe (Ab i) with
  | none=>
   rw[c] at e;obtain⟨rfl,m⟩:=e;have d:=Y (LdG.j (z:=2) c m);clear m h c;go_wp2;go_ret2
   exact d
  | some t=>
   rw[c] at e;obtain⟨v,db,rfl,m⟩:=e;have d:K (LdG (oe (Ab i),2) w r (ZI (Y5 #[P_ v,ZX ZQ 0]))):=(by rw[c];exact⟨v,db,X,m⟩);clear m h c;go_wp2;go_ret2
   exact d
 have c:(f==0)=ZZ:=aO p;have d:=Y (LdG.j (z:=f) X (br_ _ w));clear g k n;go_wp2;go_ret2
 exact d
def Zh5(h:er w yb s):C_ 131 #[P_ yb] w λe w'=>LdR (si s) w w' e:=by
 have⟨n,i,j,o,p,q,r,t⟩:=h.cells;have u:=h.z.1;clear h
 by_cases a:s.p=Z0
 ·have b:K (LdR (si s) w w (ZI (Y5 #[Y7 ZP,ZX ZQ 5]))):=(by unfold si cg;rw[aD a];exact⟨X,y_⟩);rw[a] at i;clear a;refine q_ ?_;go_wp2;go_ret2
  exact b
 rw[eq_false_of_ne_true a] at i
 by_cases c:s.h=Z0
 ·have e:si s=(oe (Ab s.t),2):=(by unfold si cg;rw[aC a,aD c];rfl);rw[e];rw[c] at j;have g:=vu s.t w O;clear a c e;refine q_ ?_;go_wp2_with fail
  apply g.m;intro e l f
  cases d:oe (Ab s.t) with
  | none=>
   rw[d] at f;obtain⟨rfl,k⟩:=f;have b:=Y (LdR.j (z:=2) d k);clear k g d;go_wp2;go_ret2
   exact b
  | some m=>
   rw[d] at f;obtain⟨v,x,rfl,k⟩:=f;have b:K (LdR (oe (Ab s.t),2) w l (ZI (Y5 #[P_ v,ZX ZQ 0]))):=(by rw[d];exact⟨v,x,X,k⟩);clear k g d;go_wp2;go_ret2
   exact b
 have b:K (LdR (si s) w w (ZI (Y5 #[Y7 ZP,ZX ZQ 4]))):=(by unfold si cg;rw[aC a,aC c];exact⟨X,y_⟩);rw[eq_false_of_ne_true c] at j;clear a c;refine q_ ?_;go_wp2;go_ret2
 exact b
def ZbM(a:H):SS:=⟨a,ZZ,ZZ,⟨#[]⟩,ZZ,⟨#[]⟩,-1⟩
def ZkU{a}:ZK (ZbM a).t<=1000000/\ZK (ZbM a).n<=1000000/\(ZbM a).l<=9223372036854775807:=⟨v_,v_,show(-1:E)<=_ by decide⟩
def DsG(x:E)(w w':ZT)(b:Ending):Prop:=if 0<=x/\x<=10000 then ∃a db,b=ZI (Y5 #[Y7 (T ⟨a,0,ZP⟩),ZX ZQ 0])/\H_ w' a #[P_ db] 127/\B w.1<=a/\B w.1<=db/\db<B w'.1/\Oq w' (λc=>c=db) db ⟨#[]⟩ (ZbM (ZL x)) 0/\E_ w w' else b=ZI (Y5 #[Y7 ZP,ZX ZQ 1])/\E_ w w'
def DsR(x:E)(w w':ZT)(a:Ending):Prop:=if 0<=x/\x<=10000 then ∃yb,a=ZI (Y5 #[Y7 (T ⟨yb,0,ZP⟩),ZX ZQ 0])/\B w.1<=yb/\er w' yb (ZbM (ZL x))/\E_ w w' else a=ZI (Y5 #[Y7 ZP,ZX ZQ 1])/\E_ w w'
def Zho x w:C_ 35 #[I x] w λb w'=>DsG x w w' b:=by
 by_cases a:0<=x/\x<=10000
 ·obtain⟨d,rfl⟩:∃d:H,x=d:=⟨ZL x,O⟩;refine q_ ?_;go_wp2_with fail
  apply (Xf a).m;rintro b g ⟨rfl,c⟩;obtain rfl:=c.s;have e:=Y a;clear a;go_wp2;go_ret2
  unfold DsG;rw[aD e.out];have f:=ha_ w (O_ #[I d,ZR ZZ,Y7 ZP,Y7 ZP,Y7 ZP,Y7 ZP,Y7 ZP] 192);refine⟨B w.1+1,B w.1,X,Pl s_,O,x_,t_,⟨ZP,ZP,ZP,ZP,⟨ab_ r_ f,X,ZM ⟨X,X,X⟩,ZM ⟨X,X,X⟩,ZM ⟨X,X⟩,ZkU⟩,O,O⟩,r_.alloc s_ _⟩
 refine q_ ?_;go_wp2_with fail
 apply (xd a).m;rintro b g ⟨rfl,c⟩;obtain rfl:=c.s;have d:K (DsG x w w (ZI (Y5 #[Y7 ZP,ZX ZQ 1]))):=(by unfold DsG;rw[aC a];exact⟨X,y_⟩);clear a;go_wp2;go_ret2
 exact d
def vt x w:C_ 129 #[I x] w λc w'=>DsR x w w' c:=by
 by_cases b:0<=x/\x<=10000
 ·obtain⟨a,rfl⟩:∃a:H,x=a:=⟨ZL x,O⟩;have d:¬(a:E)<0:=O;have e:¬10000<(a:E):=O;refine q_ ?_;go_wp2;go_ret2
  unfold DsR;rw[aD b];exact⟨B w.1,X,x_,⟨ha_ w _,ZkU⟩,r_⟩
 have a:K (DsR x w w (ZI (Y5 #[Y7 ZP,ZX ZQ 1]))):=by unfold DsR;rw[aC b];exact⟨X,y_⟩
 by_cases d:x<0
 ·refine q_ ?_;go_wp2;go_ret2
  exact a
 have e:10000<x:=O;refine q_ ?_;go_wp2;go_ret2
 exact a
end
section
variable {w w' w2 w3 f:ZT} {a q':H->H} {u v:ZY} {d:Z1 ZY} {Ls:Z1 (Z1 Cd)} {c j:Z1 SP} {S b:H->Prop} {i g N L R:H} {p:SP} {U:Z1 E} {e h:ZS}
structure kh(b:H->Prop)(w:ZT)(a:H->H)(u v)(d)(Ls)(c)(g N L R U):Prop where
 f:Bw ⟨λe=>b e∨a e≠0,u,v⟩ w g N L R
 out:rh w a u v d Ls c
 i:F d<=R
 n:F c<=R
 j:∀L∈Ls,Nw U L
 h:∀e,b e->a e=0
def kh.all(e:kh b w a u v d Ls c g N L R U):Fe b w g N L R U:=⟨a,u,v,d,Ls,c,e.f,e.out,e.i,e.n,e.j,e.h⟩
def kh.q(e:kh b w a u v d Ls c g N L R U)(f:E_ w w'):kh b w' a u v d Ls c g N L R U:=⟨e.f.q f,e.out.z (S:=λ_=>False) (.a f) (λ_ _ h=>h.elim) λ_ _ _=>X,e.i,e.n,e.j,e.h⟩
def xj(w:ZT)(a:H->H)(i c:H)(b:H):Prop:=a b=3+i/\b≠c∨B w.1<=b
def Bw.n(a:Bw e w g N L R)(c:Aa e.p w w')(p:∀b,h.p b->e.p b∨B w.1<=b/\b<B w'.1)(n:h.u=e.u)(o:h.v=e.v):Bw h w' g N L R:=by obtain⟨q,i,s,t,r,j,a,k,l⟩:=a;have m:WB w' g i:=c.g a.r.v λd=>oj_ a.r.b (a.t.1 g d).2;exact⟨_,i,s,t,r,j,a.n (c.m λb _ d=>ZJ d) m (λ_ _ _=>X) a.r.x (Ea w w' q 98) (λb f=>cz c.size f) (λb f=>a.W c.size (p b f)) (n ▸ a.t.2.1) (o ▸ a.t.2.2),k,l⟩
def Bw.lt{k}(a:Bw e w g N L R)(b:e.p k):k<B w.1:=by obtain⟨f,c,i,j,h,d,a,_⟩:=a;exact(a.t.1 k b).1
def kh.o{q h M}(j:kh b w a u v d Ls c g N L R U)(t:c[i]? =T p)(y:Zx (xj w a i p.c) p.b q w h w2)(s:E_ w2 w3)(D:RsQ p.c q w3 M f):Fe b f g N L R U/\Fn b w f:=by
 have l:=j.out.n i p t;have⟨_,z,A⟩:=y;have⟨_,G,r⟩:=D;have Q:=lt_ (n_ 0 l.y.d);have m:Aa (λe=>a e=3+i) w f:=((A.m λe k h=>by unfold xj at h;omega).q s).c r λe h=>ZM (by rw[h];exact l.g);have P:Oq f (xj w a i p.c) p.b ⟨#[]⟩ q.2 0:=(z.q s).e (λn o x g k=>r.g k λh=>by unfold xj at g;omega) λ_ _ j=>j;have a2:=m.size;refine⟨⟨λe=>if e<B w.1 then a e else if e<B f.1 then 3+i else 0,u,v,d,Ls,c.set i {p with s:=q.2},j.f.n (m.m λe _ h=>ZJ O) (λe k=>?_) X X,?_,j.i,by rw[length_set];exact j.n,j.j,λe k=>?_⟩,m.m λe _ h a1=>by have:=j.h e a1;omega⟩
 ·rcases k with h|h
  exact ZM (ZM h);simp only at h;split at h;exact ZM (ZJ h);split at h;exact ZJ O;exact absurd X h
 ·have n:∀e,e<B w.1->(if e<B w.1 then a e else if e<B f.1 then 3+i else 0)=a e:=λe k=>aD k;have a3:=(List.getElem?_eq_some_iff.1 t).1;refine j.out.l m (λe _ h=>O) (λe k _=>n e k) (by apply ext_getElem?;grind [ptS]) λx a0 o=>?_;rw[getElem?_set] at o;split at o
  ·subst x;obtain rfl:=Option.some.inj o;have S:=lt_ (n_ 0 l.o);have W:=lt_ (n_ 0 l.h);refine⟨m.g l.o λh=>by have h:a p.d=3+i:=h;have:=l.f;omega,(n _ S).T l.f,m.g l.h λh=>by have h:a p.a=3+i:=h;have:=l.G;omega,(n _ W).T l.G,G,(n _ Q).T l.g,P.e (λ_ _ _ _ j=>j) λe k g=>?_⟩;unfold xj at g;show(if _ then _ else _)=_/\_
   rcases g with g|g
   rw[aD (j.f.lt (ZJ O))];exact g;rw[aC O,aD k];exact⟨X,by show e≠p.c;omega⟩
  exact(j.out.n x a0 o).z m (λe _ h=>O) λe k _=>n e k
 simp only;rw[aD (j.f.lt (ZM k))];exact j.h e k
def kh.ab{k j h}(f:kh b w a u v d Ls c g N L R U)(n:Bw ⟨λe=>b e∨a e≠0,u,v⟩ w' g k j h)(m:Dh ⟨λe=>b e∨a e≠0,u,v⟩ w w')(l:R<=h):Fe b w' g k j h U/\Fn b w w':=
 ⟨⟨a,u,v,d,Ls,c,n,f.out.z m (λe _ i=>Classical.byContradiction λo=>i (ZJ o)) λ_ _ _=>X,aG f.i l,aG f.n l,f.j,f.h⟩,m.m λe _ i o=>i (ZM o)⟩
def ZoT{a:SS}(b:ZK a.t<=1000000):ZK (cg a).1<=1000000:=by unfold cg;split;exact v_;split;exact b;exact v_
def kh.k(f:kh b w a u v d Ls c g N L R U)(h:c[i]? =T p):Oq w (xj w a i p.c) p.b ⟨#[]⟩ p.s 0/\¬xj w a i p.c p.a/\¬xj w a i p.c p.d/\¬xj w a i p.c p.c:=by have e:=f.out.n i p h;have:=e.f;have:=e.G;have:=lt_ (n_ 0 e.o);have:=lt_ (n_ 0 e.h);have:=lt_ (n_ 0 e.y.d);unfold xj;exact⟨e.x.e (λ_ _ _ _ f=>f) λj _ f=>ZM f,O,O,O⟩
end
def Zkx{D q b2 b1 N c1 a5 c6 b3 g6 i5 g7 x a9 h1 i9 j2 h3 h2 j1 j0 j3 j4 i6 i}(k1:Fe D i q b2 b1 N c1)(l1:N<=10000000)(h6:x<=9223372036854775807)(b6:a5=16∨a5=17∨a5=18∨a5=19):C_ 73 #[P_ q,Y9 #[I a5,I c6,I b3,V h1 h3 h2,I g6,I i5,I g7,V i9 j1 j0,V j2 j3 j4,Q_ i6,I x,I a9]] i λd c=>d=ZI (ZR Z0)/\Fe D c q b2 b1 (N+1) c1/\Fn D i c:=by
 obtain⟨z,f6,c7,k6,j6,A,e0,e1,g2,g3,g4,g5⟩:=k1;have f:kh D i z f6 c7 k6 j6 A q b2 b1 N c1:=⟨e0,e1,g2,g3,g4,g5⟩;obtain⟨c3,a6,rfl,a4⟩:=Gg e1.o;have h5:z (B i.1)=0:=Classical.byContradiction λd4=>Nat.lt_irrefl _ (e0.lt (k:=B i.1) (ZJ d4));rw[length_map] at a4;have k0:(a5==15)=ZZ:=aO O;obtain⟨d7,h0,d3,y⟩:=na_ i #[I a5,I c6,I b3,V h1 h3 h2,I g6,I i5,I g7,V i9 j1 j0,V j2 j3 j4,Q_ i6,I x,I a9] 93;have i2:=n_ 0 y;have i3:=n_ 1 y;have b4:=f.q d3;obtain⟨_,a2,_,_,_,_,f0,_⟩:=id b4.f;have e2:D_ d7 q 3 (V c3 (F (A.map ptS)) a6):=by have:=f0.r.v.cell 3;rw[f0.t.2.2] at this;exact this
 have d0:K (Fn D i d7):=Aa.a d3;clear e0 e1 g2 g3 g4 g5 f0 f;rw[length_map] at e2;refine q_ ?_;go_upto_region 9 with fail;rw[<- h0];clear h0 k0
 by_cases e9:F A=0
 ·have u:=Y (b4.all.P x_ x_ (le_succ N));rw[e9] at e2;clear b4 a4 i3 d3 y;go_wp2;go_ret;exact⟨X,u,d0⟩
 obtain⟨m,rfl,_⟩:=a4 O;have⟨s,k2,r⟩:=Pu c6 (n:=F A) O;obtain⟨a,f3⟩:∃a,A[s]? =T a:=⟨A[s],Qd k2⟩;have e5:D_ d7 m s (P_ a.d):=Hn (x:=ptS a) (by have:=b4.out.o;rw[length_map] at this;exact this) (by rw[getElem?_map,f3];rfl)
 have b9:K (∀e,C_ 74 #[I c6,I (F A)] e (V_ (ZX ZQ s) e)):=λe=>by rw[<- r];exact Mu e
 have l2:=F_ s (F A);have f2:((F A:E)==0)=ZZ:=aO O;have j:=x3_ b4 y f3;clear b4 r f3 d3 y;go_upto_region 11 with fail;go_cut [9] (λc7 b=>c7=Y7 (T ⟨a.d,0,ZP⟩)/\K (E_ d7 b))
 case first=>
  go_region_held3 (λc=>ZV c (J q 3)=T (L_ m (F A) a6)/\ZV c (J (B i.1) 1)=T (I c6)/\ZV c (J m s)=T (P_ a.d)) (go_keep) (first|(go_at_call 74;apply (b9 _).m;rintro d c ⟨rfl,o⟩;obtain rfl:=o.s))
  all_goals go_wp2
  all_goals go_meet
  all_goals exact⟨X,y_.drew⟩
 obtain⟨rfl,t⟩:=hcut;generalize wc=h at *;have f:=j.1.q t;have y:=ab_ t j.2.1;have r:=f.out.n s a j.2.2;have⟨f8,j5,b8,c8⟩:=f.k j.2.2;have c9:¬xj h z s a.c (B i.1):=(by have:=lt_ (n_ 0 y);unfold xj;omega);have i2:=n_ 0 y;have i4:=n_ 2 y;have a7:=n_ 10 y;have a8:=n_ 11 y;have d1:=n_ 0 r.o;have w:=n_ 1 r.o;have c4:=n_ 0 r.h;have l3:=t.size;have L:K (∀k,B h.1<=k->xj h z s a.c k):=λk b6=>ZJ b6
 have a0:K (∀{d5 d W G b P},Zx (xj h z s a.c) a.b d5 h d W->E_ W G->RsQ a.c d5 G b P->Fe D P q b2 b1 (N+1) c1/\Fn D i P):=λg d2 M=>by have:=f.o j.2.2 g d2 M;exact⟨this.1.P x_ x_ (le_succ N),d0.T ((Aa.a t).T this.2)⟩
 have h7:a.d≠a.c:=λd=>by have:=r.g;rw[<- d,r.f] at this;omega
 have h8:B i.1≠a.c:=λd=>by have:=r.g;rw[<- d,h5] at this;omega
 have n:=Y r.y;have S:=Y f8
 have a1:K (∀{c b},Bw ⟨λk=>D k∨z k≠0,f6,L_ m (F (A.map ptS)) a6⟩ c q b2 b1 b->Dh ⟨λk=>D k∨z k≠0,f6,L_ m (F (A.map ptS)) a6⟩ h c->N<=b->b<=N+1->Fe D c q b2 b1 (N+1) c1/\Fn D i c):=λc3 m a2 p=>by have:=f.ab c3 m a2;exact⟨this.1.P x_ x_ p,d0.T ((Aa.a t).T this.2)⟩
 have c0:=Y f.f;clear f y r j d0 t e2 e5 i3 b9 f2 f8 h5
 rcases b6 with rfl|rfl|rfl|rfl
 ·obtain⟨i0,a2,i7,d6,i1,v,f,f4,f5⟩:=id c0.out;obtain⟨c3,a6,rfl,a4⟩:=Gg f.y;rw[length_map] at a4;have g8:D_ h q 2 (V c3 (F v) a6):=(by have:=f.r.v.cell 2;rw[f.G,length_map] at this;exact this);have i4:D_ h (B i.1) 2 (I b3):=a_
  by_cases e9:F v=0
  ·have u:=Y (a1 c0 (Dh.a y_) x_ (le_succ _));rw[e9] at g8;clear f a4 a1 c0 a0 L S n;go_wp2;go_ret;exact⟨X,u⟩
  obtain⟨e8,rfl,_⟩:=a4 O;have⟨b7,k4,r⟩:=Pu b3 (n:=F v) O;obtain⟨p,f1⟩:∃p,v[b7]? =T p:=⟨v[b7],Qd k4⟩;have e5:D_ h e8 b7 (P_ p):=Hn (x:=zw p) (by have:=f.y;rw[length_map] at this;exact this) (by rw[getElem?_map,f1];rfl)
  have b9:K (∀e,C_ 74 #[I b3,I (F v)] e (V_ (ZX ZQ b7) e)):=λe=>by rw[<- r];exact Mu e
  have k3:=F_ b7 (F v);have f2:((F v:E)==0)=ZZ:=aO O;have⟨a3,g9,d8,j7,d4,g,k9,k7,k8,l0,k5,j8,j9,c2,h4,c5⟩:=f.L p (mem_of_getElem? f1)
  have b0:=Y (λe (b:Aa (xj h z s a.c) h e)=>h4 e (b.m λk b6 d=>by
   have:z k≠0:=(by unfold xj at d;omega);have:=(f.t.1 k (ZJ this)).2
   omega))
  have R:=Y c5;have d9:K (ZK (ZB (Br g c2))<=1000000):=(by have:=oj c5.ok c5.w c5.g;show _<=_;rw[Bi];unfold Br;rw[Qe,Dr];omega);clear f r f1 h4 c5 a1 c0;go_upto_region 20 with fail;go_cut [12] (λc7 b=>c7=Y7 (T ⟨p,0,ZP⟩)/\K (E_ h b))
  case first=>
   go_region_held3 (λc=>ZV c (J q 2)=T (L_ e8 (F v) a6)/\ZV c (J (B i.1) 2)=T (I b3)/\ZV c (J e8 b7)=T (P_ p)) (go_keep) (first|(go_at_call 74;apply (b9 _).m;rintro d c ⟨rfl,o⟩;obtain rfl:=o.s))
   all_goals go_wp2
   all_goals go_meet
   all_goals exact⟨X,y_.drew⟩
  obtain⟨rfl,t⟩:=hcut;clear g8 i4 e5 b9 f2 k3
  have g0:K (∀e,E_ wc e->C_ 36 #[P_ a.a,P_ a3] e (Zx (xj h z s a.c) a.b (svS (ZB (Br g c2)) a.s) h)):=λe b5=>by have m:=bt_ t b5;exact(Zhs (T_ m c4) j5 (S.zero.q m) (λk b6=>L k (aG m.size b6)) d9 λl f=>fj a3 g9 d4 g l (b0 l (.a (bt_ m f))).x R.ok R.w c2 R.g R.G).m λ_ _=>.N m
  have g1:K (∀l e,Aa (xj h z s a.c) h l->E_ l e->C_ 130 #[P_ a.c,P_ d8] e (RsQ a.c (svS (ZB (Br g c2)) a.s) e)):=λl e b b5=>
   Zh7 ⟨ab_ b5 (b.g n.d c8),n.z⟩ d9 λc o=>Oi R.ok R.w R.h R.g d8 j7 k9 k7 k8 l0 k5 j8 j9 c ((b0 l b).q (bt_ b5 o)).y
  have f9:K (∀l,Aa (xj h z s a.c) h l->D_ l p 0 (P_ a3)/\D_ l p 1 (P_ d8)/\D_ l a.d 0 (P_ a.a)/\D_ l a.d 1 (P_ a.c)/\p≠a.c):=λl b=>⟨n_ 0 (b0 l b).dp,n_ 1 (b0 l b).dp,b.d d1 b8,b.d w b8,λd=>by
   have:=(b0 l b).dp;rw[d,b.g n.d c8] at this
   simp at this⟩
  generalize svS (ZB (Br g c2)) a.s=d5 at *;have⟨e3,e4,e6,e7,h9⟩:=f9 _ (.a t);clear b0 R d9 S n L d1 w c4 i2 a7 a8;go_upto_region 21 with fail;refine Af (λc=>D_ c a.d 0 (P_ a.a)/\D_ c p 0 (P_ a3)) 9 k_ ⟨e6,e3⟩ (λG=>?_);refine G_ ?_;refine oc_ 8 (g0 _ y_.drew) ?_;rintro d W g;obtain⟨rfl,_,b⟩:=id g;have⟨e3,e4,e6,e7,h9⟩:=f9 _ b;refine⟨_,X,⟨e6,e3⟩,λG=>G_ ?_⟩;refine le_ ?_;have Q:=K_ g b;clear g b G g0;go_upto_region 22 with fail;refine Af (λc=>D_ c a.d 1 (P_ a.c)/\D_ c p 1 (P_ d8)) 9 k_ ⟨e7,e4⟩ (λG=>?_);refine G_ ?_;refine oc_ 8 (g1 _ _ Q.2 y_.drew) ?_;rintro d P M;have u:=Y (a0 Q.1 y_.drew M);obtain⟨rfl,_,b⟩:=M;refine⟨_,X,⟨b.d e7 h7,b.d e4 h9⟩,λG=>G_ ?_⟩;refine le_ ?_;clear b G Q g1 a0
  generalize d5.1=f7 at *;go_wp2_with (go_at_call 68;apply (Ee).m;rintro d c ⟨rfl,o⟩;obtain rfl:=o.s)
  go_ret;exact⟨s_,u⟩
 ·have c2:=Zhq c4 S (ZoT n.z.1);have b0:=Y (λe (b5:E_ h e)=>Zh5 (w:=e) (yb:=a.c) ⟨ab_ b5 n.d,n.z⟩);obtain⟨i0,a2,i7,d6,i1,v,f,f4,f5⟩:=c0;have j:=x3_ f f4 f5;generalize si a.s=c5 at *;obtain⟨c5,f7⟩:=c5;clear f f4 f5 S n a0 L;go_wp2_with fail
  apply c2.m;intro d W R
  cases c5 with
  | none=>
   obtain⟨rfl,b⟩:=R;have w:=T_ b w;have t:=Y b;clear b c2;go_wp2_with fail
   apply (b0 _ t).m;rintro d G ⟨rfl,l⟩;have m:=bt_ t l;have u:=Y (a1 ⟨i0,a2,i7,d6,i1,v,j.1.q m,j.2.1,j.2.2⟩ (Dh.a m) x_ (le_succ _));clear m l t b0 j a1;go_wp2_with fail
   apply (Wj q).m;rintro d P ⟨rfl,o⟩;obtain rfl:=o.s;go_wp2_with (go_at_call 68;apply (Ee).m;rintro d c ⟨rfl,o⟩;obtain rfl:=o.s)
   go_ret;exact⟨s_,u⟩
  | some g=>
   obtain⟨a3,g9,rfl,e4,b⟩:=R;have w:=T_ b w;have Q:=K_ e4 b;clear e4 b c2;go_wp2_with fail
   apply (b0 _ Q.2).m;rintro d G ⟨e7,d4,rfl,e3,e6,l⟩;have b7:=j.1.q (bt_ Q.2 l)
   have d9:=hdc<|Wk q a3 e7 a2 d6 (v.map zw) G b7.r.v b7.G b7.y (by have:=j.2.2;simp;omega)
   have L:K (∀P d5 d8,Pg G P q 2 137 96 a2 d6 (v.map zw) (P_ a3) (P_ e7) d5 d8->_):=λP d5 d8 b5=>j.1.j Q.1 Q.2 e3 l e6 b5;clear e3 e6 l b7 b0;go_wp2_with fail
   apply d9.m;rintro d P ⟨rfl,d5,d8,b5⟩;have u:=(by have d2:=L _ _ _ b5;exact Y (a1 ⟨_,_,_,_,_,_,d2.1,p_ j.2.1,by have:=j.2.2;simp;omega⟩ d2.2.1 (le_succ _) x_));clear b5 L d9 j Q a1;go_wp2_with (go_at_call 68;apply (Ee).m;rintro d c ⟨rfl,o⟩;obtain rfl:=o.s)
   go_ret;exact⟨s_,u⟩
 ·go_upto_region 29 with fail;refine Af (λc=>D_ c a.d 0 (P_ a.a)/\D_ c (B i.1) 10 (I x)/\D_ c (B i.1) 11 (I a9)) 9 k_ ⟨d1,a7,a8⟩ (λG=>?_);refine G_ ?_;refine oc_ 8 (Zhp (y:=a9) c4 (S.q y_.drew) (L _ x_) h6) ?_;rintro d W R;have g:Zx _ a.b _ h _ _:=.N y_.drew R;obtain⟨rfl,_,b⟩:=id g;refine⟨_,X,⟨b.d d1 b8,b.d a7 c9,b.d a8 c9⟩,λG=>G_ ?_⟩;refine le_ ?_;have w:=b.d w b8;have a7:=b.d a7 c9;have a8:=b.d a8 c9;have l:K (er W a.c a.s):=⟨b.g n.d c8,n.z⟩;have Q:=Y g;clear R g b G;go_upto_region 30 with fail;refine Af (λc=>D_ c a.d 1 (P_ a.c)/\D_ c (B i.1) 10 (I x)/\D_ c (B i.1) 11 (I a9)) 9 k_ ⟨w,a7,a8⟩ (λG=>?_);refine G_ ?_
  refine oc_ 8 (Zh2 (y:=a9) (w:=YY W) ⟨l.d,l.z⟩ h6) ?_;rintro d P M;have u:=Y (a0 Q y_.drew M);obtain⟨rfl,_,b⟩:=M;refine⟨_,X,⟨b.d w h7,b.d a7 h8,b.d a8 h8⟩,λG=>G_ ?_⟩;refine le_ ?_;clear b G Q l a0 L n S;generalize (ZdT x a9 a.s).1=f7 at *;go_wp2_with (go_at_call 68;apply (Ee).m;rintro d c ⟨rfl,o⟩;obtain rfl:=o.s)
  go_ret;exact⟨s_,u⟩
 go_wp2_with fail
 apply (Zd9 c4 S).m;rintro d W g;obtain⟨rfl,_,b⟩:=id g;have w:=b.d w b8;have l:K (er W a.c a.s):=⟨b.g n.d c8,n.z⟩;have Q:=Y g;clear g b;go_wp2_with fail
 apply (ZeN l).m;rintro d P M;have u:=Y (a0 Q y_ M);obtain⟨rfl,_⟩:=M;clear Q l a0 L n S;generalize (Ze0 a.s).1=f7 at *;go_wp2_with (go_at_call 68;apply (Ee).m;rintro d c ⟨rfl,o⟩;obtain rfl:=o.s)
 go_ret;exact⟨s_,u⟩
section
variable {w w' w3 b:ZT} {a q':H->H} {u v v':ZY} {e:Z1 ZY} {Ls:Z1 (Z1 Cd)} {d:Z1 SP} {S f:H->Prop} {i g N L R n h db yb k:H} {U:Z1 E} {o:H->H} {c:YZ ZY} {v1 v2:ZY} {l:Z1 RP} {j:Z1 H}
def rh.x(k:rh w a u v e Ls d)(j:Aa S w w')(n:∀b,b<B w.1->S b->a b=0∨a b=2)(l:∀b,b<B w.1->a b≠0->q' b=a b):(∀i,i<F Ls->Ai w' 0 (Z e i N_) (Z Ls i [])/\∀b,ZW (Z e i N_)=T b->q' b=1)/\∀i f,d[i]? =T f->ZgP w' q' i f:=by refine⟨λi p=>?_,λi f q=>(k.n i f q).z j (λb c g=>by have:=n b c g;omega) l⟩;have⟨m,h⟩:=k.q i p;have o:=λb c=>(B_ m b c).2;exact⟨j.M m λb c g=>by have:=n b (o b c) g;have:=h b c;omega,λb c=>(l b (o b c) (by have:=h b c;omega)).T (h b c)⟩
def Jo{a b c f d e}(h:H_ w a c d)(i:H_ w b f e)(n:d≠e):a≠b:=λg=>by
 subst g;have:=h.s.T i
 grind
def kh.p(p:kh f w a u v e Ls d g N L R U)(t:Ce ⟨λi=>f i∨a i≠0,u,v⟩ w o g c N L v1 v2 l j)(d0:F l<=R)(d1:F j<=R)(s:E_ w w3)(b0:H_ w3 h #[P_ db] 127)(b1:B w.1<=h)(b2:B w.1<=db)(a1:Oq w3 (λi=>i=db) db ⟨#[]⟩ (ZbM n) 0)(a2:er w3 yb (ZbM n))(b3:B w.1<=yb)(r:Pg w3 b g 3 221 219 c v (d.map ptS) (P_ h) (P_ yb) k v'):Fe f b g N L (R+1) U/\Fn f w b:=by
 have a9:a g=0:=Classical.byContradiction λn=>by have:=(t.t.1 g (ZJ n)).2;have:=t.r.b;omega
 have x:Aa (λi=>i=g∨ZW v=T i) w b:=(Aa.a s).T r.u;have a8:∀i,i<B w.1->(i=g∨ZW v=T i)->a i=0∨a i=2:=λi _ m=>m.imp (λm=>by rw[m];exact a9) (p.out.os i);have c0:=s.size;have c2:=r.u.size
 have W:∀{s c z},H_ w3 s c z->B w.1<=s->z≠219->z≠90->H_ b s c z/\s<B b.1/\ZW v'≠T s:=λ{s _ _} P Q b5 c9=>by
  have q:=r.u.g P λm=>by
   rcases m with m|m
   have:=t.r.v.lt;omega;have:=(B_ p.out.o s m).2;omega
  exact⟨q,(Qb q).1,λm=>Ag r.M m q (Ne.s b5) X⟩
 obtain⟨b9,b7,d2,b8,a0,_⟩:=id a1;have S:=W b0 b1 C C;have G:=W a0.d b2 C C;have M:=W a2.d b3 C C;have c3:ZW v'≠T k:=λm=>Ag r.M m r.o C X;have c4:=(Qb r.o).1;have c5:=Jo S.1 G.1 C;have c6:=Jo S.1 M.1 C;have b4:=Jo G.1 M.1 C;have c7:=Jo r.o G.1 C;have c8:=Jo r.o M.1 C;have c1:=r.t;have A:∀i,i<B w.1->(if i<B w.1 then a i else if ZW v'=T i then 2 else if i=db∨i=yb then 3+F d else if i<B b.1 then 1 else 0)=a i:=λi q=>aD q;have⟨a5,a6⟩:=p.out.x x a8 λi q _=>A i q
 refine⟨⟨λi=>if i<B w.1 then a i else if ZW v'=T i then 2 else if i=db∨i=yb then 3+F d else if i<B b.1 then 1 else 0,u,v',e,Ls,d++[⟨k,h,db,yb,ZbM n⟩],⟨_,_,v1,v2,l,j,t.n (x.m λi _ m=>m.imp id λm=>ZJ (by have:=p.out.os i m;omega)) r.v (λD _ a7=>aH (Ne.s a7)) (by simp[t.r.x]) (Ea w b o 98) (λi q=>cz x.size q) (λi q=>t.W x.size ?_) ((aH C).T t.t.2.1) (Array.getElem?_setIfInBounds_self_of_lt (by rw[t.r.x];decide)),O,O⟩,⟨x.M p.out.k λi q m=>?_,λi q=>(A i (B_ p.out.k i q).2).T (p.out.w i q),p.out.p,a5,?_,λi q=>?_,λD b6 y=>?_⟩,by have:=p.i;omega,by have:=p.n;simp;omega,p.j,λi q=>(A i (p.f.lt (ZM q))).T (p.h i q)⟩,x.m λi q m a3=>?_⟩
 ·have a4:ZW v'=T i->i<B b.1:=λm=>(B_ r.M i m).2
  grind
 ·rcases m with m|m
  exact WB.o t.r.v p.out.k C (m ▸ q);have⟨_,a4⟩:=Ac p.out.k q;have⟨_,s⟩:=Ac p.out.o m;exact Jo a4 s C X
 rw[map_append,Qe];exact r.M
 ·by_cases Q:i<B w.1
  exact(A i Q).T ((r.D i q).elim (p.out.os i) O);simp only[aC Q,aD q]
 ·by_cases a4:D<F d
  rw[getElem?_append_left a4] at y;exact a6 D b6 y;obtain rfl:D=F d:=(by have:=(List.getElem?_eq_some_iff.1 y).1;simp at this;omega);simp at y;subst y;refine⟨r.o,w_,S.1,w_,⟨M.1,a2.z⟩,w_,a1.e (λs c z g P=>?_) λi _ m=>?_⟩;obtain rfl:s=db:=g;exact G.1.T (a0.d.s.T P);obtain rfl:i=db:=m;exact⟨w_,b4⟩
 rcases m with m|m
 have:=(t.t.1 i (ZM a3)).2;rw[m,t.r.b] at this;omega;have:=p.h i a3;have:=p.out.os i m;omega
end
def Zhx{l i s r k t b6 W a0 b9 a1 x c8 a3 c1 c5 a5 a4 c3 c2 c6 c7 c0 o}(d2:Fe l o i s r k t)(e4:k<=10000000):C_ 73 #[P_ i,Y9 #[I 15,I b6,I W,V a3 a5 a4,I a0,I b9,I a1,V c1 c3 c2,V c5 c6 c7,Q_ c0,I x,I c8]] o λe w=>e=ZI (ZR Z0)/\Fe l w i s r (k+1) t/\Fn l o w:=by
 obtain⟨d4,d6,L,d7,c9,G,M,N,P,Q,R,S⟩:=d2;have f:kh l o d4 d6 L d7 c9 G i s r k t:=⟨M,N,P,Q,R,S⟩;obtain⟨d8,a2,a9,a7⟩:=na_ o #[I 15,I b6,I W,V a3 a5 a4,I a0,I b9,I a1,V c1 c3 c2,V c5 c6 c7,Q_ c0,I x,I c8] 93;have v:=n_ 10 a7;have b:=K_ f a9;clear M N P Q R S f a7 a9;refine q_ ?_;go_wp2_with fail
 rw[<- a2];clear a2;apply (Zho x d8).m;intro e c4 a
 by_cases n:0<=x/\x<=10000
 ·have z:=Y n;unfold DsG at a;rw[aD n] at a;obtain⟨e8,e1,rfl,p,b3,b4,_,b1,h⟩:=a;have v:=T_ h v;have c:=x5_ p b3 b4 b1 h;clear p b3 b4 b1 h n;go_wp2_with fail
  apply (vt x c4).m;intro e q a;unfold DsR at a;rw[aD z.out] at a;obtain⟨f2,rfl,b5,b2,m⟩:=a;have d:=bt_ b.2 (bt_ c.2.2.2.2 m);obtain⟨u,e0,f0,f1,e7,e3,f,b7,b8⟩:=id b.1.f;have d0:D_ q i 3 L:=(by have:=(f.q d).r.v.cell 3;rw[f.t.2.2] at this;exact this);have d1:=λu=>(f.q d).r.v.frozen u;have g:=x5_ b2 b5 d m f;have j:=x4_ b7 b8 (f.q d).r.v (b.1.q d).out.o;have e5:F (G.map ptS)<=10000000:=(by have:=b.1.n;simp;omega);clear b2 b5 m d f b7 b8;go_upto_region 7 with(go_at_call 68;apply (Ee).m;rintro e w ⟨rfl,D⟩;obtain rfl:=D.s)
  go_wp2_with (at_builtin;refine ap_ [P_ (B q.1)] ((j.2.2.2.alloc _).alloc _) ?_)
  rintro e9 d9 ⟨a6,a,p,_,d5,d3,rfl⟩;have⟨A,a8⟩:=Pg.N (j:=3) (v':=L_ d5 (F G+1) d3) j.2.2.1 j.2.2.2 C (by rw[length_map];exact a6) a λe6 b0=>p.elim (λe=>ZM (e.s.T b0)) λe=>ZJ (by have:=e.1.s.T b0;simp at this;omega);have y:=Y (b.1.p g.2.2.2.2 j.1 j.2.1 g.2.2.1 (ab_ g.2.2.2.1 c.1) (aG b.2.size c.2.1) (aG b.2.size c.2.2.1) (c.2.2.2.1.q g.2.2.2.1) g.1 (aG (bt_ b.2 c.2.2.2.2).size g.2.1) a8);have d0:D_ d9 i 3 L:=(by have:=A.cell 3;rw[g.2.2.2.2.t.2.2] at this;exact this);have e2:=λu=>A.frozen u;clear a6 a p A a8 d1 c g j b;go_wp2;go_ret;exact⟨X,y⟩
 have z:=Y n;unfold DsG at a;rw[aC n] at a;obtain⟨rfl,h⟩:=a;have v:=T_ h v;have c:=Y h;clear h n;go_wp2_with fail
 apply (vt x c4).m;intro e q a;unfold DsR at a;rw[aC z.out] at a;obtain⟨rfl,m⟩:=a;have d:=bt_ b.2 (bt_ c m);have y:K (Fe l q i s r (k+1) t/\Fn l o q):=⟨(b.1.q d).all.P x_ x_ (le_succ k),.a d⟩;clear d m c b;go_wp2_with (go_at_call 68;apply (Ee).m;rintro e w ⟨rfl,D⟩;obtain rfl:=D.s)
 go_ret;exact⟨X,y⟩
section
variable {w w':ZT} {a:H->H} {u v b x y:ZY} {h:Z1 ZY} {Ls:Z1 (Z1 Cd)} {j:Z1 SP} {d:H->Prop} {g N L R:H} {U:Z1 E} {o:H->H} {c:YZ ZY} {v1 v2:ZY} {f:Z1 RP} {e:Z1 H} {M:Z1 Cd} {i:ZS}
def Ce.S(l:Ce i w o g c N L v1 v2 f e)(k:rl w w' o g N x c)(s:∀a,ZW x=T a->o a=99):∃j d,Ce i w' j g d (N+1) L v1 v2 f e/\Dh i w w'/\(∀a,a<B w.1->o a=99->ZW x≠T a->j a=99)/\Aa (λa=>o a<=13∨ZW x=T a) w w':=by
 obtain⟨j,d,m,n,h,p,_,q,_⟩:=k;have u:=h.size
 have:=l.k m.a (λa b=>by have:=n a b;grind) (h.m λa _ b=>b.imp id (s a)) p λa b=>w_
 exact⟨_,d,this.1,this.2,λa b r t=>by have:=q a b r t;grind,h⟩
def kh.l(m:kh d w a u v h Ls j g N L R U)(p:Ce ⟨λi=>d i∨a i≠0,u,v⟩ w o g c N L v1 v2 f e)(b7:F f<=R)(b8:F e<=R)(a8:Nw U M)(G:Ai w' 0 y M)(P:∀i,ZW y=T i->a i=0/\o i=99)(a7:WB w' g (YS c 0 b))(A:ZD w' 0 29 1 b (F h+1) (h++[y]))(b1:∀i,ZW b=T i->ZW u=T i∨B w.1<=i)(s:Aa (λi=>i=g∨ZW u=T i) w w'):Fe d w' g N L (R+1) U/\Fn d w w':=by
 have b0:∀i,a i≠0->i<B w.1/\o i=98:=λi n=>p.t.1 i (ZJ n);have S:∀i,d i->i<B w.1/\o i=98:=λi n=>p.t.1 i (ZM n);have a9:=p.r.b;have a6:∀i,i<B w.1->(i=g∨ZW u=T i)->a i=0∨a i=2:=λi _ k=>k.imp (λk=>Classical.byContradiction λn=>by have:=(b0 i n).2;rw[k] at this;omega) (m.out.w i);have b5:=s.size;have b4:=λi l=>(B_ G i l).2;have b9:=λi l=>(B_ A i l).2;have Q:∀i,i<B w.1->a i≠0->(if i<B w.1/\ZW y≠T i then a i else if ZW b=T i then 2 else if i<B w'.1 then 1 else 0)=a i:=λi l n=>aD ⟨l,λk=>n (P i k).1⟩;have⟨a2,a3⟩:=m.out.x (q':=λi=>if i<B w.1/\ZW y≠T i then a i else if ZW b=T i then 2 else if i<B w'.1 then 1 else 0) s a6 Q
 have b2:∀{i},ZW y=T i->ZW b≠T i:=λ{i} t z=>by have⟨_,q⟩:=Ac G t;have⟨_,r⟩:=Ac A z;exact Jo q r C X
 have a0:∀{z b3 n x t} {r:ZY},ZD w z b3 n r x t->(∀i,ZW r=T i->a i=2)->∀i,ZW r=T i->(if i<B w.1/\ZW y≠T i then a i else if ZW b=T i then 2 else if i<B w'.1 then 1 else 0)=2:=λA q i l=>(Q i (B_ A i l).2 (by have:=q i l;omega)).T (q i l)
 refine⟨⟨λi=>if i<B w.1/\ZW y≠T i then a i else if ZW b=T i then 2 else if i<B w'.1 then 1 else 0,b,v,h++[y],Ls++[M],j,⟨λi=>if i<B w.1/\ZW y≠T i then o i else if i<B w'.1 then 98 else 99,_,v1,v2,f,e,p.n (s.m λi _ k=>k.imp id λk=>ZJ (by have:=m.out.w i k;omega)) a7 (λb6 a4 _=>aH (Ne.s a4)) (by simp[p.r.x]) (λi l=>?_) (λi l=>?_) (λi l=>?_) (Array.getElem?_setIfInBounds_self_of_lt (by rw[p.r.x];decide)) ((aH C).T p.t.2.2),O,O⟩,⟨by rw[Qe];exact A,λi l=>?_,by simp[m.out.p],λW D=>?_,s.M m.out.o λi l k=>?_,a0 m.out.o m.out.os,a3⟩,by have:=m.i;simp;omega,by have:=m.n;omega,λa1 a5=>?_,λi l=>?_⟩,s.m λi l k r=>?_⟩
 ·by_cases k:ZW y=T i
  exact ZM (P i k).2;exact ZJ (aD ⟨l,k⟩)
 exact(aC O).T (aC O)
 ·simp only at l ⊢
  grind
 ·rcases b1 i l with k|k
  exact a0 m.out.k m.out.w i k;exact(aC O).T (aD l)
 ·rw[Qe] at D;rw[ur (m.out.p ▸ D),ur D,m.out.p]
  by_cases q:W<F Ls
  rw[aD q,aD q];exact a2 W q;rw[aC q,aC q];exact⟨G,λi l=>(aC λk=>k.2 l).T ((aC (b2 l)).T (aD (b4 i l)))⟩
 ·rcases k with k|k
  exact WB.o p.r.v m.out.o C (k ▸ l);have⟨_,t⟩:=Ac m.out.o l;have⟨_,z⟩:=Ac m.out.k k;exact Jo t z C X
 ·rcases mem_append.1 a5 with k|k
  exact m.j a1 k;rw[mem_singleton] at k;exact k ▸ a8
 have:=S i l;exact(aD ⟨this.1,λk=>by have:=(P i k).2;omega⟩).T (m.h i l)
 rcases k with k|k
 have:=(S i r).2;rw[k,a9] at this;omega;have:=m.h i r;have:=m.out.w i k;omega
end
def Xe{n P u c6 Q b0 c5 g z R A D} x a8 {e} j v (b6:kh n j P u c6 Q b0 c5 g z R A D)(l:E_ j v)(a3:Ai v (B j.1) x e)(a4:Ai v (B j.1) a8 e)(b7:Bl x a8)(a2:F e<=4194304)(d4:Nw D e)(e6:z<=10000000)(d5:A<=10000000):C_ 114 #[P_ g,x,a8] v λa b=>a=ZI (ZR Z0)/\Fe n b g (z+1) R (A+1) D/\Fn n j b:=by
 obtain⟨c8,d1,rfl,b3,_⟩:=a3.h a2;obtain⟨G,L,rfl,b4,_⟩:=a4.h a2;have f:=x5_ b6 l a3 a4 b7;have w:=x3_ b3 b4 d4;clear b6 l a3 a4 b7 b3 b4;refine q_ ?_;go_wp2_with fail
 apply (ir e v w.1 w.2.1).m;rintro a e2 ⟨rfl,N⟩;have l:=bt_ f.2.1 N;obtain⟨t,e3,e0,e1,d9,d3,r,c3,c4⟩:=f.1.f;have o:∀{b},B j.1<=b->t b=99/\P b=0:=λ{b} c=>⟨r.N b c,Classical.byContradiction λa5=>by have:=(r.t.1 b (.inr a5)).1;omega⟩;have b9:Ai e2 0 (V c8 (F e) d1) e:=Li (f.2.2.1.q N) v_;have a6:=λb c=>(o (B_ f.2.2.1 b c).1).1;have a9:=(r.q l).r.e b9 a6 a2 O;have h:=x5_ (r.q l) c3 c4 N a6;have m:=K_ (@o) l;clear r c3 c4 N l o b9 a6;go_wp2_with fail
 apply a9.m;rintro a q ⟨rfl,b1⟩;obtain⟨c1,d0,p,hK,o,W⟩:=h.1.S b1 h.2.2.2.2;have e8:=W.size;have k:=(f.1.q m.2);have a0:kh n q P u c6 Q b0 c5 g (z+1) R A D:=⟨⟨c1,d0,e0,e1,d9,d3,p,h.2.1,h.2.2.1⟩,k.out.z hK (λb _ a=>Classical.byContradiction λa5=>a (.inr a5)) λ_ _ _=>X,k.i,k.n,k.j,k.h⟩
 have c0:Ai q 0 (V G (F e) L) e:=W.M (Li (f.2.2.2.1.q h.2.2.2.1) v_) λb c a=>by
  have i:=(B_ f.2.2.2.1 b c).1
  rcases a with a|a
  have:=(m.1 i).1;omega
  rcases f.2.2.2.2 with d|d|d<;>grind
 have c2:∀b,ZW (V G (F e) L)=T b->P b=0/\c1 b=99:=λb c=>by
  have i:=B_ f.2.2.2.1 b c;have M:=h.2.2.2.1.size;refine⟨(m.1 i.1).2,o b O (m.1 i.1).1 λa=>?_⟩
  rcases f.2.2.2.2 with d|d|d<;>grind
 have b5:Fn n j q:=(Aa.a m.2).T (hK.m λb _ a d=>a (.inl d));have e4:D_ q g 0 u:=(by have:=p.r.v.cell 0;rw[p.t.2.1] at this;exact this);have d2:=λt=>p.r.v.frozen t;have e7:F Q<=10000000:=aG k.i d5;have d:=x5_ a0 p c0 c2 b5;have y:=Y a0.out.k;clear k a0 c0 c2 b5 p hK o W b1 a9;go_wp2_with (at_builtin;refine ap_ [V G (F e) L] (y.alloc _) ?_)
 rintro e9 a7 ⟨i,M,b2,_,d8,d7,rfl⟩;have d6:=WB.o d.2.1.r.v y C;have s:=(d.2.1.r.v.alloc (O_ #[V G (F e) L] 29)).grown M λa=>d6 a.s;have b8:=s.o i C;have S:Aa (λb=>b=g∨ZW u=T b) q (ZO a7 (J g 0) (L_ d8 (F Q+1) d7)):=((((Aa.refl _ q).alloc _).grown M λb a _=>.inr a)).setCell (p:=J g 0) (λ_=>.inl X) _
 have a1:=d.1.l d.2.1 h.2.1 h.2.2.1 w.2.2 (S.M d.2.2.1 λb c a=>by
  rcases a with a|a
  exact WB.o d.2.1.r.v d.2.2.1 C (a ▸ c);have⟨_,c7⟩:=Ac d.2.2.1 c;have⟨_,c9⟩:=Ac y a
  exact Jo c7 c9 C X) d.2.2.2.1 (s.set 0 _) ((tp_ a7 g 0 _).M i λb c a=>b8 (a ▸ c)) (λb c=>b2.elim (λa=>.inl (a.s.T c)) λa=>.inr (by have:=a.1.s.T c;simp at this;omega)) S
 have c7:K (_/\Fn n j _):=⟨a1.1,d.2.2.2.2.T a1.2⟩;have c9:D_ a7 g 0 u:=(by have:=s.cell 0;rw[d.2.1.t.2.1] at this;exact this);have e5:=λt=>s.frozen t;clear i M b2 s b8 S a1 d2 d y h m f w;go_wp2;go_ret;exact⟨X,c7⟩
def Zam{D Q y l d f R j A c t m r e}(a:kh D e Q y l d f R j A c t m)(M:t<=10000000)(a0:F m<=2097152):C_ 116 #[P_ j,I r] e λu g=>∃l c,u=ZI l/\Ai e 0 l c/\Nw m c/\E_ e g:=by
 obtain⟨_,S,_,_,_,_,k,_⟩:=a.f;have G:D_ e j 0 y:=(by have:=k.r.v.cell 0;rw[k.t.2.1] at this;exact this);have a2:F d<=10000000:=aG a.i M;obtain⟨i,P,rfl,w⟩:=Gg a.out.k
 by_cases L:F d=0
 ·rw[L] at G;clear k a w;refine q_ ?_;go_wp2;go_ret;exact⟨_,[],X,Ai.nil _ _,.nil,y_⟩
 obtain⟨n,rfl,_⟩:=w O;have⟨b,N,v⟩:=Pu r (n:=F d) O;have q:=(a.out.q b (a.out.p ▸ N)).1;have p:=a.j (Z f b []) (by have:=a.out.p;grind);have⟨i,o,x,_,_⟩:=q.h (p_ p.y);have W:D_ e n b (V i (F (Z f b [])) o):=Hn a.out.k w_
 have z:K (∀h,C_ 74 #[I r,I (F d)] h (V_ (ZX ZQ b) h)):=λh=>by rw[<- v];exact Mu h
 have s:K (Ai e 0 (V i (F (Z f b [])) o) _/\_):=⟨by have:=q;rw[x] at this;exact this,p⟩;have a1:=F_ b _;have a3:((F d:E)==0)=ZZ:=aO O;clear k a q p x v;generalize (Z f) b []=c at *;refine q_ ?_;go_wp2_with fail
 go_region_held3 (λg=>ZV g (J j 0)=T (L_ n (F d) P)/\ZV g (J n b)=T (V i (F c) o)) (go_keep) (first|(go_at_call 74;apply (z _).m;rintro u g ⟨rfl,rfl⟩))
 all_goals go_wp2
 all_goals go_ret
 all_goals exact⟨_,c,X,s.1,s.2,y_.drew⟩
def Zpk{v t Q u e w d3 b8 c2 c4 c3 b9 d4 c0 A o D G h wc d5 x d8 a6 d7 d}(g6:Fe v d w t Q u e)(g5:t<=10000000)(g7:u<=10000000)(j2:F e<=2097152)(c5:Ck d A o a6)(c6:Ck d G h d7)(h5:A=ZP->o=0/\D=0)(h6:G=ZP->h=0/\wc=0)(n:o<=2097152)(z:h<=2097152)(g8:∀i7∈a6,Ey i7∈e):C_ 70 #[P_ w,Y9 #[I 2,I d3,I b8,V c2 c4 c3,I b9,I d4,I c0,V A o D,V G h wc,Q_ d5,I x,I d8]] d λa b=>a=ZI (ZR Z0)/\Fe v b w (t+1) Q (u+1) e/\Fn v d b:=by
 obtain⟨h7,h9,i1,i0,f4,h8,W,a0,b4,b5,b6,b7⟩:=g6;have f1:K (kh v d h7 h9 i1 i0 f4 h8 w t Q u e):=⟨W,a0,b4,b5,b6,b7⟩;clear W a0 b4 b5 b6 b7;have⟨s,P,e8,e9,f3⟩:=y5_ c5 c6 h5 h6 g8;have⟨q,r⟩:=Y_ (Up c5) (Up c6);obtain⟨i6,a1,c7,a4⟩:=na_ d #[I 2,I d3,I b8,V c2 c4 c3,I b9,I d4,I c0,V A o D,V G h wc,Q_ d5,I x,I d8] 93;have a7:=Y c7;have f5:=n_ 7 a4;have f6:=n_ 8 a4;have j3:B i6.1=B d.1+1:=(by rw[a1];simp);refine dl_ ?_;go_enter func70,ntmps70;go_wp2_with fail
 rw[<- a1];clear a1 a4 c7;apply (uy (Fa s a7 q) e8 n).m;rintro a i2 ⟨k1,rfl,c9,y⟩;obtain⟨W,j0,rfl,_⟩:=c9.h;have⟨p,i9,a8⟩:=y3_ c9 y (a7.T (y.m O));have⟨f7,f8⟩:=k2_ y f5 f6;have j4:B d.1+1<=B i2.1:=p_ y.size;go_wp2_with fail
 apply (uy (Fa P a8 r) e9 z).m;rintro a d6 ⟨k2,rfl,d0,k⟩;obtain⟨a0,j1,rfl,h0⟩:=d0.h;have⟨_,_,c1,g9⟩:=(p.q k).h;simp only[slice.injEq] at c1;obtain⟨rfl,_,rfl⟩:=c1;have⟨e2,e3,e4,M,e0⟩:=y5_ g9 h0 (p.q k) d0 (a8.T (k.m O));have⟨f9,g0⟩:=k2_ k f7 f8;have j5:=k.size;go_wp2_with fail
 apply (ZcL e2 e3 n z).m;rintro a k3 ⟨g,R,rfl,g3,h2,l⟩;have⟨N,b1,e5,e6,a9⟩:=y5_ g3 h2 (e4.q l) (M.q l) (e0.T (l.m O));have⟨g1,g2⟩:=k2_ l f9 g0;have j6:=l.size;have i:K (∀b,_->_/\b<_):=λb c=>⟨(p.D c).1,(p.D c).2.1⟩;have j:K (∀b,_->_/\b<_):=λb c=>⟨(M.D c).1,(M.D c).2.1⟩;go_wp2_with fail
 apply (qc e5 (Fa s a9 q) (λm S a L=>p_ (q m S a L)) n).m;rintro a i3 ⟨rfl,f⟩;have b0:=Y (a9.grown f O (λb c=>p_ (i b c)));have h4:=f.cell g2 (λa=>gh_ (i _ a.s));have h3:=f.cell g1 (λa=>gh_ (i _ a.s));have e7:=Y (e6.p (Hh f) (λb c a=>by have a2:=i b a.s;have a3:=j b c;omega));have b2:K (Ai i3 (B d6.1) g (Bo 0 R)):=(Hh f).M b1 (λb c a=>by have a2:=i b a.s;have a3:=(B_ b1 b c).1;omega);have j7:=f.size;go_wp2_with fail
 apply (qc e7 (Fa P b0 r) (λm S a L=>p_ (r m S a L)) z).m;rintro a i4 ⟨rfl,m⟩;have L:=Y (b0.grown m O (λb c=>p_ (j b c)));have k0:=m.cell h4 (λa=>gh_ (j _ a.s));have j9:=m.cell h3 (λa=>gh_ (j _ a.s));have b3:K (Ai i4 (B d6.1) g (Bo 0 R)):=(Hh m).M b2 (λb c a=>by have a2:=j b a.s;have a3:=(B_ b2 b c).1;omega);have j8:=m.size;go_wp2_with fail
 apply (Tq D h wc a6 d7 _ (Fa s L q) (Fa P L r) n z).m;rintro a i5 ⟨a5,S,rfl,g4,d1,c8⟩;obtain rfl:S=R:=g4.a N;have f0:K (Ai _ (B d.1) g _):=Li (b3.q c8) O;have f2:K (Ai _ (B d.1) a5 _):=Li d1 O
 have d9:K (Bl g a5):=by
  by_cases d2:ZW g=ZP
  exact ZM d2;right;right;intro a;have⟨b,c⟩:=Option.ne_none_iff_exists'.1 d2;have a2:=(B_ b3 b c).2;have a3:=(B_ d1 b (a.s.T c)).1;omega
 have d2:=Y (L.T (c8.m O));have a2:K (Nw e (Bo 0 S)):=⟨N.j (s.1 ▸ n),Zib N f3⟩;have h1:F (Bo 0 S)<=4194304:=p_ a2.y;go_wp2_with fail
 apply (Xe g a5 d i5 f1 d2 f0 f2 d9 h1 a2 g5 g7).m;rintro a k4 ⟨rfl,a3⟩;have e1:=Y a3;clear a3;go_wp2;go_ret;exact⟨X,e1⟩
def Zpl{k m s n l o d4 b8 c2 c4 c3 b9 d6 c0 d9 e1 e0 e3 e4 wc d7 x e5 d}(g1:Fe k d o m s n l)(g0:m<=10000000)(a1:n<=10000000)(c6:F l<=2097152):C_ 70 #[P_ o,Y9 #[I 3,I d4,I b8,V c2 c4 c3,I b9,I d6,I c0,V d9 e1 e0,V e3 e4 wc,Q_ d7,I x,I e5]] d λa y=>a=ZI (ZR Z0)/\Fe k y o (m+1) s (n+1) l/\Fn k d y:=by
 obtain⟨d5,h5,h7,h6,f5,h2,e6,e7,e8,e9,f0,f1⟩:=g1;have f3:K (kh k d d5 h5 h7 h6 f5 h2 o m s n l):=⟨e6,e7,e8,e9,f0,f1⟩;clear e6 e7 e8 e9 f0 f1;obtain⟨i4,W,c7,c5⟩:=na_ d #[I 3,I d4,I b8,V c2 c4 c3,I b9,I d6,I c0,V d9 e1 e0,V e3 e4 wc,Q_ d7,I x,I e5] 93;have a3:=Y c7;have f6:=n_ 2 c5;have j3:B i4.1=B d.1+1:=(by rw[W];simp);refine dl_ ?_;go_enter func70,ntmps70;go_wp2_with fail
 rw[<- W];clear W c5 c7;have b3:=Y (f3.q a3);apply (Zam b3 a1 c6).m;rintro a h8 ⟨k4,i,rfl,g8,g5,p⟩;have g:=Y g5;have j1:=g.y;obtain⟨P,R,rfl,f8,h0⟩:=g8.h O;have b4:=Y (b3.q p);have j4:B d.1+1<=B h8.1:=p_ p.size;have j0:=T_ p f6;go_wp2_with fail
 apply (Zam b4 a1 c6).m;rintro a z ⟨d5,j,rfl,g9,g6,q⟩;have h:=Y g6;have j2:=h.y;obtain⟨Q,S,rfl,f9,h1⟩:=g9.h O;have⟨e,f,a4⟩:=y3_ ((Y (f8.q p)).q q) (f9.q q) ((Y (a3.T (p.m O))).T (q.m O));have j5:=q.size;have⟨b5,b6,b7⟩:=y3_ (b4.q q) (λc b=>ZgE P i R c b) (λc b=>ZgE Q j S c b);have⟨k5,k6⟩:=Dk g.1;have⟨k7,k8⟩:=Dk h.1;have f4:=Y (λb=>Fy g.1 h.1 b);generalize Ae i=h3,Ae j=h4 at *
 by_cases k1:1000000000000<h3+h4
 ·have D:K (Fe k z o (m+1) s (n+1) l/\Fn k d z):=⟨b5.all.P (le_succ _) x_ (le_succ _),.a a4⟩;go_wp2_with fail
  apply (b6 _ e).m;rintro a y ⟨rfl,rfl⟩;go_wp2_with fail
  apply (b7 _ f).m;rintro a e2 ⟨rfl,rfl⟩;go_wp2;go_ret;exact⟨X,D⟩
 have a8:K (Nw l (Bf i j)):=⟨f4 O,λf7 g2=>by
  rcases Wt g.1 h.1 f7 g2 with⟨a,c,b⟩|⟨a,c,b⟩
  rw[<- b];exact g.2 a c
  rw[<- b];exact h.2 a c⟩
 go_wp2_with fail
 apply (b6 _ e).m;rintro a y ⟨rfl,rfl⟩;go_wp2_with fail
 apply (b7 _ f).m;rintro a e2 ⟨rfl,rfl⟩;generalize e2=z at *;have⟨N,r⟩:=Y_ (yr e) (yr f);go_wp2_with fail
 apply (bz i e (lr e (Y h0)) O).m;rintro a k9 ⟨k2,rfl,d0,c8⟩;obtain⟨i5,i7,rfl,_,_⟩:=d0.h O;have⟨M,a5⟩:=Y_ d0 c8;have j6:=c8.size;go_wp2_with fail
 apply (bz j (Il f a5 r) (lr f (Y h1)) O).m;rintro a l0 ⟨k3,rfl,d1,t⟩;obtain⟨i6,i9,rfl,g4,_⟩:=d1.h O;have⟨_,_,c1,g3,_⟩:=(M.q t).h O;simp only[slice.injEq] at c1;obtain⟨rfl,_,rfl⟩:=c1;have a9:=Y d1;have j7:=t.size;have G:K (∀b,_->_/\b<_):=λb c=>M.D c;have L:K (∀b,_->_/\b<_):=λb c=>a9.D c;go_wp2_with fail
 apply (zh i j (Y g3) (Y g4) g.1 h.1).m;rintro a h9 ⟨w,rfl,g7,u⟩;have⟨b0,a6⟩:=Y_ g7 ((Y (a5.T (t.m O))).T (u.m O));have j8:=u.size;go_wp2_with fail
 apply (Xd P R i h9 (Y ((Y (M.q t)).q u)) (Il e a6 N) N O).m;rintro a i0 ⟨rfl,v⟩;have⟨a7,b1⟩:=Y_ (a6.grown v O (λb c=>(G b c).1)) ((Hh v).M b0 (λb c a=>by have D:=G b a.s;have a0:=(B_ b0 b c).1;omega));have j9:=v.size;go_wp2_with fail
 apply (Xd Q S j i0 (Y ((Y (a9.q u)).p (Hh v) (λb c a=>by have D:=G b a.s;have a0:=L b c;omega))) (Il f a7 r) (λA a0 a D=>p_ (r A a0 a D)) O).m;rintro a i1 ⟨rfl,a2⟩;have A:=Y (a7.grown a2 O (λb c=>p_ (L b c).1));have b2:K (Ai _ _ w _):=(Hh a2).M b1 (λb c a=>by have D:=L b a.s;have a0:=(B_ b1 b c).1;omega);have k0:=a2.size;go_wp2_with fail
 apply (Tp P Q i j R S i1 (Il e A N) (Il f A r) g.1 h.1).m;rintro a i2 ⟨d8,rfl,d2,c9⟩
 have f2:K (Bl w d8):=by
  by_cases d3:ZW w=ZP
  exact ZM d3;right;right;intro a;have⟨b,c⟩:=Option.ne_none_iff_exists'.1 d3;have D:=(B_ b2 b c).2;have a0:=(B_ d2 b (a.s.T c)).1;omega
 have d3:=Y (A.T (c9.m O));go_wp2_with fail
 apply (Xe w d8 z i2 b5 d3 (Li (b2.q c9) O) (Li d2 O) f2 (p_ a8.y) a8 g0 a1).m;rintro a i3 ⟨rfl,a0⟩;have D:K (_/\Fn k d i3):=⟨a0.1,(Aa.a a4).T a0.2⟩;clear a0;go_wp2;go_ret;exact⟨X,D⟩
def Zpm{h j s l g m a7 P S a0 W Q a8 R b1 b3 b2 b4 b5 wc a9 x b6 d}(d2:Fe h d m j s l g)(d1:j<=10000000)(a3:l<=10000000)(d3:F g<=2097152):C_ 70 #[P_ m,Y9 #[I 4,I a7,I P,V S a0 W,I Q,I a8,I R,V b1 b3 b2,V b4 b5 wc,Q_ a9,I x,I b6]] d λa b=>a=ZI (ZR Z0)/\Fe h b m (j+1) s (l+1) g/\Fn h d b:=by
 obtain⟨e1,e3,e5,e4,c8,e2,b7,b8,b9,c0,c1,c2⟩:=d2;have c7:K (kh h d e1 e3 e5 e4 c8 e2 m j s l g):=⟨b7,b8,b9,c0,c1,c2⟩;clear b7 b8 b9 c0 c1 c2;obtain⟨e8,t,a4,a1⟩:=na_ d #[I 4,I a7,I P,V S a0 W,I Q,I a8,I R,V b1 b3 b2,V b4 b5 wc,Q_ a9,I x,I b6] 93;have y:=Y a4;have c9:=n_ 10 a1;have f4:B e8.1=B d.1+1:=(by rw[t];simp);refine dl_ ?_;go_enter func70,ntmps70;go_wp2_with fail
 rw[<- t];clear t a1 a4;have M:=Y (c7.q y);apply (Zam M a3 d3).m;rintro a e6 ⟨g1,k,rfl,d9,d6,f⟩;have e:=Y d6;have f3:=e.y;obtain⟨e9,f1,rfl,a2,e0⟩:=d9.h O;have⟨i,N,c4⟩:=y3_ (a2.q f) e0 (y.T (f.m O));have f5:B d.1+1<=B e6.1:=p_ f.size;have r:=Y (yr (a2.q f));have D:K (Nw g _):=⟨e.1.e (Ge e.1 x),λa d4=>e.2 a ((Ge e.1 x).subset d4)⟩;go_wp2_with fail
 apply (bz k i (lr i N) O).m;rintro a g2 ⟨g0,rfl,v,u⟩;obtain⟨f0,f2,rfl,d5,d7⟩:=v.h O;have f6:=u.size;have d0:=T_ u (T_ f c9);have q:K (∀b,_->_/\b<_):=λb c=>v.D c;go_wp2_with fail
 apply (Zbs k x (Y d5) e.1 (Y d7)).m;rintro a g3 ⟨p,rfl,d8,n⟩;have⟨G,z⟩:=Y_ d8 ((Y u).T (n.m O));have f7:=n.size;go_wp2_with fail
 apply (Xd _ _ k _ (Y ((Y v).q n)) (Il i z r) r O).m;rintro a g4 ⟨rfl,o⟩;have A:=Y (z.grown o O (λb c=>(q b c).1));have L:K (Ai _ _ p _):=(Hh o).M G (λb c a=>by have c5:=q b a.s;have c6:=(B_ G b c).1;omega);have f9:=o.cell (T_ n d0) (λa=>gh_ (q _ a.s));have f8:=o.size;go_wp2_with fail
 apply (Xb k x (Il i A r) e.1 N O).m;rintro a g5 ⟨b0,rfl,a6,a5⟩
 have c3:K (Bl p b0):=by
  by_cases w:ZW p=ZP
  exact ZM w;right;right;intro a;have⟨b,c⟩:=Option.ne_none_iff_exists'.1 w;have c5:=(B_ L b c).2;have c6:=(B_ a6 b (a.s.T c)).1;omega
 have c5:=Y (A.T (a5.m O));go_wp2_with fail
 apply (Xe p b0 _ _ (Y (M.q f)) c5 (Y (Li (L.q a5) O)) (Li a6 O) c3 (p_ D.y) D d1 a3).m;rintro a e7 ⟨rfl,w⟩;have c6:K (_/\Fn h d e7):=⟨w.1,(Aa.a c4).T w.2⟩;clear w;go_wp2;go_ret;exact⟨X,c6⟩
structure af(b:ZT)(a:H)(c:U E):Prop where
 lt:a<B b.1
 g:∀j,j<F c->ZV b (J a j)=T (ZX .u8 (Z c j 0))/\YT b ⟨a,j,ZP⟩=ZZ
def af.put{e:ZT}{a k:H}{b:U E}(c:af e a b){f:E}:af (ZO e ⟨a,k,ZP⟩ (ZX .u8 f)) a (b.set k f):=by
 refine⟨by have:=c.lt;simpa [ZO] using this,λg d=>?_⟩;rw[length_set] at d;have⟨h,i⟩:=c.g g d
 grind [frozen?_setCell,cell?_setCell_same,cell?_setCell_other]
def af.drew{d:ZT}{c:H}{a:U E}(b:af d c a):af (YY d) c a:=⟨b.lt,b.g⟩
def af.a(c:ZT)(a:ZC)(b:H):af (ZN c (O_ (bytesRow a b) 5 (B (bytesRow a b),B (bytesRow a b)+1))) (B c.1) (Ab a):=by have f:ZK a<=B (bytesRow a b):=(by unfold bytesRow;rw[Array.size_append,Array.size_map];exact le_add_right _ _);refine⟨by show B c.1<B (c.1.push _);simp,λe d=>?_⟩;rw[Ci] at d;constructor;rw[cell?_alloc_mark c (bytesRow a b) 5 _ e,bytesRow_at a b e d,Qc];unfold Ab;rw[getElem?_map,Qd (by simpa using d)];simp;rw[frozen?_alloc_mark c (bytesRow a b) 5 _ _ e,aE O];rfl
def af.b{b:ZT}{c:H}{a:U E}(e:af b c a)(d:H):(convert 66 9 (L_ c (F a) d)).run Y8 b=.ok (Q_ (ZB a)) b:=by refine run_convert_bytes_arg b 66 5 underlying66 underlying5 c 0 (F a) d a X (λg f=>?_) 9 underlying9;rw[Nat.zero_add];exact(e.g g f).1
def Zfe(e:ZC)(f a0:E) d (a2:4<=ZK e)(a3:ZK e<=1000000):C_ 75 #[Q_ e,I f,I a0] d λh g=>∃a,h=ZI (YW a)/\ZK a<=2000000/\E_ d g:=by
 obtain⟨b,a4⟩:∃b,ZK e=b+4:=⟨ZK e-4,O⟩;have⟨c,L⟩:=Z_ (e.extract 0 b);have M:Ab c=ZU b (Ab e):=(by rw[<- L,Ff,drop_zero]);have s:ZK c=b:=(by rw[<- Ci c,M,length_take,Ci];omega);have W:i64.wrap ((ZK e:E)-4)=b:=(by rw[Au O O];omega);have R:b<=(ZK e:E):=O;have A:=λ(j:ZT)=>run_bytes_of_string (P:=Y8) j 9 66 5 c underlying9 underlying66 underlying5;rw[s] at A
 have v:K (∀(a:U E) (j:ZT),(∀g∈a,0<=g/\g<256)->F a=b->C_ 134 #[Q_ (ZB a)] j λh g=>h=ZI (YW (ZB (a++Ba (Gy a) 4)))/\E_ j g/\ZK (ZB (a++Ba (Gy a) 4))<=2000000):=λa j p r=>(fx a j p O).m (λ_ _ g=>⟨g.1,g.2,by rw[Bi,Qe,Dr];omega⟩);have o:=K_ s (Qq c);clear M s;refine dl_ ?_;go_enter func75,ntmps75;go_upto_region 2 with fail;generalize grownCap d b 0 5=k;have⟨u,t⟩:=Z_ (YY (ZN d (O_ (bytesRow c k) 5 (B (bytesRow c k),B (bytesRow c k)+1))));have i:K (af u (B d.1) (Ab c)/\E_ d u):=(by rw[<- t];exact⟨(af.a d c k).drew,r_.drew⟩);rw[t];clear t A;have r:F (Ab c)=b:=(by rw[Ci];exact o.1);have⟨n,l⟩:=Y_ o.2 r;generalize Ab c=a at *;clear r L o W R
 go_cut [21] (λm h=>m=ZR (ZE (0<=f/\f<b))/\K (h=u))
 case first=>
  by_cases h:0<=f
  ·by_cases g:f<b
   all_goals
    go_wp2;go_meet
    exact⟨by simp[h,g],X⟩
  go_wp2;go_meet
  exact⟨t_,X⟩
 obtain⟨rfl,N⟩:=hcut;have S:=N.out.s;subst S;clear N;go_upto_if 21 with fail
 go_cut [21] (λm h=>K (∃a,af h (B d.1) a/\E_ d h/\(∀g∈a,0<=g/\g<256)/\F a=b))
 case first=>
  by_cases q:0<=f/\f<b
  ·rw[aF q];obtain⟨m,rfl⟩:∃m:H,f=m:=⟨ZL f,O⟩;have⟨w,x⟩:=i.1.g m (p_ l.out);have y:=F_ m b;clear q;go_wp2;go_meet
   refine⟨_,i.1.put,i.2.setCell x_ _,λg p=>?_,by rw[length_set];exact l⟩
   rcases mem_or_eq_of_mem_set p with h|h
   exact n g h;omega
  rw[aE q];go_wp2;go_meet
  exact⟨a,i.1,i.2,n,l⟩
 have⟨Q,g,w,x,m⟩:=hcut.out;have G:=g.b k;rw[m] at G;have y:=v Q wc x m;have q:=Y w;clear g w x m hcut i n l v;go_wp2_with fail
 apply y.m;rintro h a1 ⟨rfl,z,D⟩;have P:K (_/\E_ d a1):=⟨D,q.T (z.m q.size)⟩;clear y z D G;go_wp2;go_ret;exact⟨_,X,P⟩
def Ziw b d g f c {y l m z n x P p A L r q G D M N h} a (R:Bw b a d g f c)(S:c<=10000000)(W:h.size<=2000000):C_ 41 #[P_ d,.agg #[I 13,I y,I l,V p r q,I m,I z,I n,V A G D,V L M N,Q_ h,I x,I P]] a λo e=>o=.returned (.bool true)/\Bw b e d g f (c+1)/\Dh b a e:=by
 obtain⟨a2,a0,a4,a5,a3,a1,u,v,w⟩:=R;have i:Below _ a (a.alloc (O_ #[I 13,I y,I l,V p r q,I m,I z,I n,V A G D,V L M N,Q_ h,I x,I P] 93)):=r_
 have j:=hdc<|oh d g f c h _ (u.q i) v w S W
 have k:K (Dh b a _):=Dh.a i;clear u i v w;refine q_ ?_;go_wp2_with fail
 apply j.m;rintro o e ⟨rfl,s,t,_⟩;have Q:K (Bw b e d g f (c+1)/\Dh b a e):=⟨s,k.T t⟩;clear s t j k;go_wp2;go_ret;exact⟨rfl,Q⟩
def Ziy k h q p l {m M N b1 P x t R b3 b8 W S b5 b4 b9 c0 b2} a (f1:Bw k a h q p l)(f2:l<=10000000):C_ 41 #[P_ h,Y9 #[I 14,I m,I M,V R W S,I N,I b1,I P,V b3 b5 b4,V b8 b9 c0,Q_ b2,I x,I t]] a λb c=>b=ZI (ZR Z0)/\Bw k c h q p (l+1)/\Dh k a c:=by
 obtain⟨g0,e6,h3,h4,g1,e,z,a5,a6⟩:=f1;obtain⟨e3,d8,rfl,d6⟩:=Gg z.y;rw[length_map] at *;refine q_ ?_;go_upto_region 12 with fail;generalize a7:ZN a (O_ #[I 14,I m,I M,V R W S,I N,I b1,I P,V b3 b5 b4,V b8 b9 c0,Q_ b2,I x,I t] 93)=f;have A:E_ a f:=(by rw[<- a7];exact r_);have y:f.1[B a.1]? =T (O_ #[I 14,I m,I M,V R W S,I N,I b1,I P,V b3 b5 b4,V b8 b9 c0,Q_ b2,I x,I t] 93):=(by rw[<- a7];exact ha_ a _);have e0:=n_ 0 y;have e1:=n_ 1 y;clear a7;have i:=z.q A;have c9:ZV f (J h 2)=T (V e3 (F e) d8):=(by rw[i.r.v.cell];exact i.G);have c4:K (Dh k a _):=Dh.a A
 by_cases e9:F e=0
 ·have L:K (Bw k _ h q p (l+1)):=Bw.P ⟨g0,e6,_,_,g1,e,i,a5,a6⟩ x_ x_ O;rw[e9] at c9;clear i z d6 e1 A;go_wp2;go_ret;exact⟨X,L,c4⟩
 obtain⟨d9,rfl,_⟩:=d6 O;have⟨s,f6,r⟩:=Pu m (n:=F e) O;obtain⟨g,a1⟩:∃g,e[s]? =T g:=⟨e[s],Qd f6⟩;have e8:ZV f _=T (Y7 _):=Hn (x:=zw g) (by have:=i.y;rw[length_map] at this;exact this) (by rw[getElem?_map,a1];rfl)
 have c6:K (∀d,C_ 74 #[I m,I (F e)] d (V_ (ZX ZQ s) d)):=λd=>by rw[<- r];exact Mu d
 have⟨g9,g8,c1,e4,h2,u,g6,g4,g5,g7,f9,e5,e7,w,d1,j⟩:=i.L g (mem_of_getElem? a1);have a8:=d1.b;have e2:K (∀d,E_ f d->C_ 76 #[P_ c1] d (U_ (YW (ZB (Br u w))) d)):=λd f3=>Oi j.ok j.w j.h j.g c1 e4 g6 g4 g5 g7 f9 e5 e7 d (a8.q f3).y;have c7:K (4<=ZK (ZB (Br u w))/\ZK (ZB (Br u w))<=1000000):=(by have:=oj j.ok j.w j.g;show _/\_;rw[Bi];unfold Br;rw[Qe,Dr];omega);have c3:K (f.1[g]? =_):=a8.dp;have c5:K (f.1[B a.1]? =_):=y;have v:=x3_ i a5 a6;have h1:=F_ s (F e);have f7:((F e:E)==0)=_:=aO O;clear i z r a1 A a5 a6 y d1 a8 j;generalize ZB (Br u w)=g2 at *;go_upto_region 14 with fail;go_cut [6] (λb c=>b=Y7 (T ⟨g,0,ZP⟩)/\K (E_ f c))
 case first=>
  go_region_held3 (λc=>ZV c (J h 2)=T (L_ d9 (F e) d8)/\ZV c (J (B a.1) 1)=T (I m)/\ZV c (J d9 s)=T (P_ g)) (go_keep) (first|(go_at_call 74;apply (c6 _).m;rintro b c ⟨rfl,n⟩;obtain rfl:=n.s))
  all_goals go_wp2
  all_goals go_meet
  all_goals exact⟨X,y_.drew⟩
 obtain⟨rfl,n⟩:=hcut;clear c9 e0 e1 e8 c6 f7;have a3:=(Aa.a (S:=λ_=>False) n.out).g c5 id;have f5:=(Aa.a (S:=λ_=>False) n.out).g c3 id;have e0:=n_ 0 a3;have a9:=n_ 10 a3;have b0:=n_ 11 a3;have Q:=n_ 1 f5;go_upto_region 16 with fail;refine Af (λc=>ZV c (J g 1)=T (P_ c1)/\ZV c (J (B a.1) 10)=T (I x)/\ZV c (J (B a.1) 11)=T (I t)) 12 k_ ⟨Q,a9,b0⟩ (λhHeld=>?_);refine G_ ?_;refine on_ 5 λKK hK=>?_;go_simp;apply (e2 _ n.out.drew).m;rintro b b6 ⟨rfl,f4⟩;have c:E_ wc b6:=y_.drew.T f4;have c2:K (E_ f b6):=n.out.T (c.m n.out.size);go_simp;refine hK _ _ ⟨Ah c Q,Ah c a9,Ah c b0⟩ (λhHeld=>?_);clear hK KK;try simp only[Act.put,sA,sB,sC]
 refine on_ 10 λKK hK=>?_;go_simp;apply (Zfe g2 x t b6 c7.1 c7.2).m;rintro b G ⟨g3,rfl,f8,d2⟩;have a0:E_ wc G:=c.T (d2.m c.size);have o:K (E_ f G):=c2.T (d2.m c2.size);go_simp;refine hK _ _ ⟨Ah a0 Q,Ah a0 a9,Ah a0 b0⟩ (λhHeld=>?_);clear hK KK;try simp only[Act.put,sA,sB,sC]
 refine on_ 11 λKK hK=>?_;go_simp;apply (oh h q p l g3 G (v.1.q o) v.2.1 v.2.2 f2 f8).m;rintro b b7 ⟨rfl,r,d5,d7⟩
 have a2:∀{c8 D:H} {d0:YZ ZY},G.1[c8]? =T (O_ d0 D)->D≠90->D≠96->b7.1[c8]? =T (O_ d0 D):=λd4 h0 f0=>d7.g d4 (λb=>by
  have L:=v.1.q o
  rcases b with b|b
  ·have:=L.r.v;unfold WB at this
   grind
  exact Ag L.y b d4 (λb=>f0 b.s) X)
 have a4:=a2 ((Aa.a (S:=λ_=>False) o.out).g c5 id) C C;have d3:=a2 ((Aa.a (S:=λ_=>False) o.out).g c3 id) C C;have L:K (Bw k b7 h q p (l+1)/\Dh k a b7):=⟨r,(c4.T (Dh.a o)).T d5⟩;go_simp;refine hK _ _ ⟨n_ 1 d3,n_ 10 a4,n_ 11 a4⟩ (λhHeld=>?_);clear hK KK a2 a4 d3 r d5 d7;try simp only[Act.put,sA,sB,sC]
 refine le_ ?_;go_wp2;go_ret;exact⟨X,L⟩
def ka{g:H}{a w k d e l f x t h n q j i p o r s m A}{v:ZT->Prop}(G:g=70/\(a=2∨a=3∨a=4)∨g=73/\(a=15∨a=16∨a=17∨a=18∨a=19))(y:C_ g #[P_ w,Y9 #[I a,I k,I d,V h j i,I e,I l,I f,V n p o,V q r s,Q_ m,I x,I t]] (ZN A (O_ #[I a,I k,I d,V h j i,I e,I l,I f,V n p o,V q r s,Q_ m,I x,I t] 93)) λb c=>b=ZI (ZR Z0)/\v c):C_ 41 #[P_ w,Y9 #[I a,I k,I d,V h j i,I e,I l,I f,V n p o,V q r s,Q_ m,I x,I t]] A λb c=>b=ZI (ZR Z0)/\v c:=by
 have u:=hdc y;clear y
 rcases G with⟨rfl,rfl|rfl|rfl⟩|⟨rfl,rfl|rfl|rfl|rfl|rfl⟩
 all_goals
  refine q_ ?_;go_wp2_with fail
  apply u.m;rintro b c ⟨rfl,z⟩;have D:=hdc z;clear z u;go_wp2;go_ret;exact⟨X,D⟩
def ZcG{l d c g o h}{a:OpD}{e}(m:Fe l e h d c g o)(i:g<=10000000)(q:d<=10000000)(A:c+ZK a.n<=200000000000000)(t:F o<=2097152)(f:OpR e a)(D:a.A<=2097152)(G:ZK a.n<=2000000)(L:a.x<=9223372036854775807)(M:a.a<=4->a.vl<=2097152/\a.d<=2097152/\∀N∈a.f,Ey N∈o)(P:1<=a.a)(R:a.a<=19):C_ 41 #[P_ h,Y9 #[I a.a,I a.l,I a.t,V a.g a.A a.e,I a.k,I a.size,I a.b,V a.i a.vl a.h,V a.c a.d a.j,Q_ a.n,I a.x,I a.y]] e λp k=>p=ZI (ZR Z0)/\Fe l k h (d+5) (c+ZK a.n) (g+1) o/\Fn l e k:=by
 have j:E_ e (ZN e (O_ #[I a.a,I a.l,I a.t,V a.g a.A a.e,I a.k,I a.size,I a.b,V a.i a.vl a.h,V a.c a.d a.j,Q_ a.n,I a.x,I a.y] 93)):=r_;have r:∀{p:Ending} {k N' L'},N'<=d+5->L'<=c+ZK a.n->p=ZI (ZR Z0)/\Fe l k h N' L' (g+1) o/\Fn l (ZN e (O_ #[I a.a,I a.l,I a.t,V a.g a.A a.e,I a.k,I a.size,I a.b,V a.i a.vl a.h,V a.c a.d a.j,Q_ a.n,I a.x,I a.y] 93)) k->p=ZI (ZR Z0)/\Fe l k h (d+5) (c+ZK a.n) (g+1) o/\Fn l e k:=λv w b=>⟨b.1,b.2.1.P v w x_,(Aa.a j).T b.2.2⟩
 by_cases z:a.a<=4
 ·obtain⟨u,x,y⟩:=M z
  rcases(show a.a=1∨a.a=2∨a.a=3∨a.a=4 by omega) with b|b|b|b
  rw[b];apply (Ze2 f.A f.c).m;rintro p k ⟨s,n⟩;exact⟨s,(m.q n).P O O O,.a n⟩;refine ka (ZM ⟨X,O⟩) (Calls.m ?_ λ_ _=>r (N':=d+1) (L':=c) O O);rw[b];exact Zpk (by rw[<- b];exact m.q j) q i t (by rw[<- b];exact Fa f.f j (Up f.f)) (by rw[<- b];exact Fa f.o j (Up f.o)) f.e f.g u x y;refine ka (ZM ⟨X,O⟩) (Calls.m ?_ λ_ _=>r (N':=d+1) (L':=c) O O);rw[b];exact Zpl (by rw[<- b];exact m.q j) q i t;refine ka (ZM ⟨X,O⟩) (Calls.m ?_ λ_ _=>r (N':=d+1) (L':=c) O O);rw[b];exact Zpm (by rw[<- b];exact m.q j) q i t
 by_cases Q:a.a<=14
 ·refine m.l (λs u=>?_) (le_succ _)
  by_cases x:a.a<=12
  exact Zpi s h d c g a e u i q A f D O x
  by_cases y:a.a=13
  rw[y];exact(Ziw s h d c g e u i G).m (λ_ _ n=>⟨n.1,n.2.1.P O O x_,n.2.2⟩);rw[show a.a=14 by omega];exact(Ziy s h d c g e u i).m (λ_ _ n=>⟨n.1,n.2.1.P O O x_,n.2.2⟩)
 refine ka (ZJ ⟨X,O⟩) (Calls.m ?_ λ_ _=>r (N':=d) (L':=c) O O)
 by_cases n:a.a=15
 rw[n];exact Zhx (by rw[<- n];exact m.q j) i;exact Zkx (m.q j) i L O
section
variable {w w':ZT} {c d:H->Prop} {g N L R G k:H} {U:Z1 E} {a:YZ ZY}
def ZoJ{g a c}(d:a[c]? =T N_)(e:a[c+1]? =T N_):Grp w g a c N:=
 ⟨N_,N_,[],[],d,e,rn_,λk b=>(by cases b),rn_,λk b=>(by cases b),X,v_,λh f=>by cases f⟩
def Zml(w:ZT) U:Fe (λk=>k<B w.1) (ZN w (O_ #[N_,N_,N_,N_,N_,N_,N_,N_,N_,N_,N_,N_,I 0] 90)) (B w.1) 0 0 0 U:=by
 refine⟨λ_=>0,N_,N_,[],[],[],⟨λk=>if k<B w.1 then 98 else if k=B w.1 then 0 else 99,_,N_,N_,[],[],⟨⟨ha_ w _,w_,X,⟨0,X,C,C⟩,λd b=>by rcases b with rfl|rfl|rfl|rfl<;>exact ZoJ X X⟩,λk a=>?_,X,rn_,λk a=>(by cases a),X,rn_,λk a=>(by cases a),λd h c=>(by simp at c),λh c=>(by cases c),λj f=>(by cases f),λk a=>?_,X,X⟩,x_,x_⟩,⟨rn_,λk a=>(by cases a),X,λd b=>(by cases b),rn_,λk a=>(by cases a),λd l g=>(by simp at g)⟩,x_,x_,λi e=>(by cases e),λ_ _=>X⟩;simp at a;exact(aC O).T (aC O)
 have a:k<B w.1:=a.elim id (absurd X);exact⟨t_,aD a⟩
def Fe.grow(a:Fe c w g N L R U)(i:E_ w w')(j:∀k,d k->c k∨B w.1<=k/\k<B w'.1):Fe d w' g N L R U:=by
 obtain⟨q,s,u,t,l,r,h,b,m,n,e,o⟩:=a;refine⟨q,s,u,t,l,r,h.n (.a i) (λk f=>?_) X X,b.z (S:=λ_=>False) (.a i) (λ_ _ e=>e.elim) λ_ _ _=>X,m,n,e,λk f=>?_⟩;exact f.elim (λa=>(j k a).imp ZM id) λa=>ZM (ZJ a)
 rcases j k f with a|a
 exact o k a
 exact Classical.byContradiction λp=>by have:=h.lt (k:=k) (ZJ p);omega
def Fn.A(b:Fn c w w')(e:∀k,k<g->c k)(d:g<=B w.1):Below g w w':=Aa.b b d λk a=>Nat.le_of_not_lt λf=>a (e k f)
def opL(a:OpD):Z1 ZY:=[I a.a,I a.l,I a.t,V a.g a.A a.e,I a.k,I a.size,I a.b,V a.i a.vl a.h,V a.c a.d a.j,Q_ a.n,I a.x,I a.y]
def Zo4{c f d}(i:H_ w c a 93)(h:ZU 12 (ZF f (Y4 a))=opL d):OpC w c f d:=by
 have b:∀e g,(opL d)[e]? =T g->D_ w c (f+e) g:=λe g j=>by grind [cell_of_row]
 exact⟨b 0 _ X,b 1 _ X,b 2 _ X,b 3 _ X,b 4 _ X,b 5 _ X,b 6 _ X,b 7 _ X,b 8 _ X,b 9 _ X,b _ _ X,b _ _ X⟩
def opZ:OpD:=⟨0,0,0,ZP,0,0,0,0,0,ZP,0,0,ZP,0,0,⟨#[]⟩,0,0,λ_=>ZZ,λ_=>0,λ_=>0,[],[]⟩
def bm(G:H):H->OpD
 |0=>{opZ with a:=2,i:=T (J G 0),vl:=3,h:=3,c:=T (J (G+1) 0),d:=3,j:=3,f:=[5,3,5],o:=[1,2,4]}
 |1=>{opZ with a:=5,g:=T (J (G+2) 0),A:=2,e:=2,k:=2,size:=2,b:=1,p:=λa=>a==1,fs:=λa=>if a=0 then 1 else 0,u:=λa=>if a=1 then 1 else 0}
 |2=>{opZ with a:=6,n:=⟨#[49,44,50,46,53,44,97,10,50,44,45,49,44,10,57,44,44,98,10,49,44,48,44,97,10]⟩}
 |3=>{opZ with a:=7}
 |4=>{opZ with a:=5,g:=T (J (G+3) 0),A:=1,e:=1,k:=3,size:=4}
 |_=>{opZ with a:=15,x:=500}
structure GvB(w:ZT)(G)(a):Prop where
 n:H_ w G #[I 5,I 3,I 5] 3
 o:H_ w (G+1) #[I 1,I 2,I 4] 3
 b:H_ w (G+2) #[ZR ZZ,I 1,I 0,ZR Z0,I 0,I 1] 51
 c:H_ w (G+3) #[ZR ZZ,I 0,I 0] 51
 op:H_ w (G+4) a 93
 g:∀k,k<=5->ZU 12 (ZF (k*12) (Y4 a))=opL (bm G k)
def gvZ(g G:H)(k:H):Prop:=k<g∨G<=k/\k<=G+4
def GvB.kept(b:GvB w G a)(j:Fn (gvZ g G) w w'):GvB w' G a:=by have c:∀{k d e},H_ w k d e->G<=k/\k<=G+4->H_ w' k d e:=λh i=>j.g h λf=>f (ZJ i);exact⟨c b.n O,c b.o O,c b.b O,c b.c O,c b.op O,b.g⟩
def ZnZ{b c d:E}{G}(a:H_ w G #[I b,I c,I d] 3)(f:∀g∈[b,c,d],(Lit.int ZQ g).wf=Z0):Ck w (T (J G 0)) 3 [b,c,d]:=by
 refine⟨X,f,ZJ ⟨G,0,X,lt_ (n_ 0 a),λe h=>?_⟩⟩
 rcases(show e=0∨e=1∨e=2 by omega) with rfl|rfl|rfl
 exact n_ 0 a;exact n_ 1 a;exact n_ 2 a
def ZmP(a:k<=5):(bm G k).A<=2/\ZK (bm G k).n<=25/\1<=(bm G k).a/\(bm G k).a<=19/\(bm G k).x<=500:=by rcases(show k=0∨k=1∨k=2∨k=3∨k=4∨k=5 by omega) with rfl|rfl|rfl|rfl|rfl|rfl<;>simp[bm,opZ,ZK]
def ZmQ(d:k<=5)(a:5∈U)(b:3∈U):(bm G k).a<=4->(bm G k).vl<=2097152/\(bm G k).d<=2097152/\∀c∈(bm G k).f,Ey c∈U:=by
 rcases(show k=0∨k=1∨k=2∨k=3∨k=4∨k=5 by omega) with rfl|rfl|rfl|rfl|rfl|rfl<;>simp[bm]
 exact⟨a,b,a⟩
def GvB.e(b:GvB w G a)(i:k<=5):OpR w (bm G k):=by
 have e:Ck w ZP 0 []:=⟨X,s_,ZM X⟩;have g:∀{f:OpD},f={opZ with a:=f.a,n:=f.n,x:=f.x}->OpR w f:=λh=>h ▸ ⟨by simp[opZ,Y2],by simp[opZ,Y2],by simp[opZ,Y2],ZM X,e,e,λ_=>⟨X,X⟩,λ_=>⟨X,X⟩⟩
 rcases(show k=0∨k=1∨k=2∨k=3∨k=4∨k=5 by omega) with rfl|rfl|rfl|rfl|rfl|rfl
 exact⟨by simp[bm,opZ,Y2],by simp[bm,Y2],by simp[bm,Y2],ZM X,ZnZ b.n C,ZnZ b.o C,(λb=>by cases b),λb=>by cases b⟩
 ·refine⟨by simp[bm,Y2],by simp[bm,opZ,Y2],by simp[bm,opZ,Y2],ZJ ⟨G+2,0,X,by simp[bm,Y2],λ_=>lt_ (n_ 0 b.b),λd c=>?_,λd c=>?_,λd c=>?_⟩,e,e,λ_=>⟨X,X⟩,λ_=>⟨X,X⟩⟩
  all_goals
   have c:d=0∨d=1:=by simp[bm] at c;omega
   rcases c with rfl|rfl
  exact n_ 0 b.b;exact n_ 3 b.b;exact n_ 1 b.b;exact n_ 4 b.b;exact n_ 2 b.b;exact n_ 5 b.b
 exact g X;exact g X
 ·refine⟨by simp[bm,Y2],by simp[bm,opZ,Y2],by simp[bm,opZ,Y2],ZJ ⟨G+3,0,X,by simp[bm,Y2],λ_=>lt_ (n_ 0 b.c),λd c=>?_,λd c=>?_,λd c=>?_⟩,e,e,λ_=>⟨X,X⟩,λ_=>⟨X,X⟩⟩
  all_goals
   have c:d=0:=(by simp[bm] at c;omega);subst c
  exact n_ 0 b.c;exact n_ 1 b.c;exact n_ 2 b.c
 exact g X
end
def GvI(c:ZT)(a:H)(e:YZ ZY)(d:U E)(b:H)(wr:ZT):Prop:=Fe (gvZ a (B c.1)) wr a (5*b) (25*b) b d/\Below a c wr/\GvB wr (B c.1) e
def Zht{b d a}(p:Fe (λk=>k<b) a b 0 0 0 d)(R:b<B a.1)(Q:F d<=2097152)(t:5∈d)(s:3∈d):C_ 40 #[P_ b,I 19] a λm c=>m=ZI (ZR Z0)/\Fe (λk=>k<b) c b 30 150 6 d/\Below b a c:=by
 have g:=x3_ p t s;clear p t s;refine q_ ?_;go_upto_region 1 with fail;go_cut [5] (λf c=>f=ZH (T ⟨B a.1+4,0,ZP⟩) 6 6/\K (E_ a c/\B c.1=B a.1+5/\∃e,GvB c (B a.1) e))
 case first=>
  go_wp2;go_meet
  refine⟨X,(((r_.alloc u_ _).alloc u_ _).alloc u_ _).alloc u_ _,s_,_,?_,?_,?_,?_,Pl s_,λk c=>?_⟩;exact(hc_ t_).T ((hc_ t_).T ((hc_ t_).T ((hc_ s_).T (Pl X))));exact(hc_ s_).T ((hc_ s_).T ((hc_ s_).T (Pl s_)));exact(hc_ s_).T ((hc_ s_).T (Pl s_));exact(hc_ s_).T (Pl s_)
  rcases(show k=0∨k=1∨k=2∨k=3∨k=4∨k=5 by omega) with rfl|rfl|rfl|rfl|rfl|rfl<;>rfl
 obtain⟨rfl,h,S,e,n⟩:=hcut;have j:K (GvI a b e d 0 wc):=⟨g.1.grow h λk f=>by unfold gvZ at f;omega,h.m O,n⟩;clear h S n;go_wp2_with fail
 go_loopw [6] (λc i=>∃k:H,c=I k/\k<=6/\K (GvI a b e d k i)) (λc _=>6-ZL (ZA c))
 exact⟨0,X,O,j⟩;obtain⟨k,rfl,a6,c⟩:=hrel;clear j
 by_cases a4:k<6
 ·have⟨v,w,z,A,D,G,L,M,N,P,x,y⟩:=Zo4 c.2.2.op (c.2.2.g k O);have⟨W,q,r,a0,a1⟩:=ZmP (G:=B a.1) (k:=k) O;have i:=Y (ZcG c.1 O O O Q (c.2.2.e (k:=k) O) O O O (ZmQ O g.2.1 g.2.2) r a0);have a5:=F_ k 6;have l:=Y q;clear W q r a1;generalize bm (B a.1) k=a3 at *;go_wp2_with fail
  apply i.m;rintro m a2 ⟨rfl,o,hK⟩;have u:K (GvI a b e d (k+1) a2):=⟨o.P O (p_ l.out) x_,c.2.1.T (hK.A (λ_ f=>ZM f) (aG (Nat.le_of_lt R) c.2.1.size)),c.2.2.kept hK⟩;clear o hK v w z A D G L M N P x y i c l;go_wp2;go_roundw;exact⟨k+1,g_,O,u⟩;exact z_
 obtain rfl:k=6:=O;have i:K (Fe (λk=>k<b) wr b 30 150 6 d/\_):=⟨c.1.grow y_ λk f=>ZM (ZM f),c.2.1⟩;clear c;go_wp2;go_ret;exact⟨X,i⟩
structure ag(e:E)(c:U E)(d)(b:H->OpD):Prop where
 g:d<=1048576
 i:F c<=2097152
 j:5∈c
 h:3∈c
 A:∀a,a<d->(b a).A<=1048576/\ZK (b a).n<=1048576/\(b a).x<=9223372036854775807
 k:∀a,a<d->e<=(b a).a->(b a).a<=4->(b a).vl<=2097152/\(b a).d<=2097152/\∀f∈(b a).f,Ey f∈c
def PlA(b a:H)(d:U E)(e c:ZT):Prop:=Fe (λa=>a<b) c b (30+5*a) (150+1048576*a) (6+a) d/\Below b e c
def TeA(f:ZS)(a d c i:H)(e b:ZT)(l m:ZY)(k:U RP)(h:U H):Prop:=(∃j g,Ce f b j a g (d+6000*i) c l m k h)/\Below a e b
def TeA.ab{e b d j a f k i o p n g}(r:TeA e b d j a k i o p n g)(s:d+6000*a<=9000000)(w:g[a]? =T f)(x:b<=B i.1)(u:∀a,a<b->e.p a):C_ 42 #[P_ b,P_ f] i λh c=>h=ZI (ZR Z0)/\TeA e b d j (a+1) k c o p n g:=by obtain⟨⟨W,M,c⟩,v⟩:=r;have⟨Q,P,a4,G,l,A,a2,a0,a1,a3,S,L,N,D,t,y⟩:=c.L f (mem_of_getElem? w);refine(Zmk (Hc.a c.r y_ c.N x_) s t C C y).m (λ_ _ m=>⟨m.1,?_⟩);have⟨⟨z,q,R⟩,hK⟩:=c.p m.2;exact⟨⟨z,q,w_⟩,v.T (Aa.b hK x λa h=>Nat.le_of_not_lt λl=>h (u a l))⟩
def vn{r l M m a4 o b}(b7:1<=r)(q:Ub b M m o)(v:ag r l m o):C_ 15 #[V M m a4,I r,I 19] b (U_ (ZR Z0) b):=by
 obtain⟨_,q⟩:=q;have b6:=v.g;have⟨k,L⟩:=Y_ v q;clear q v;have G:=Y (Zml b l);have D:K (Below _ b (ZN b (O_ #[N_,N_,N_,N_,N_,N_,N_,N_,N_,N_,N_,N_,I 0] 90))):=r_;refine q_ ?_;go_wp2_with fail
 refine(Zht G s_ k.i k.j k.h).m ?_;rintro u a8 ⟨rfl,W,f⟩;have s:K (PlA (B b.1) 0 l b a8):=⟨W,D.T f⟩;clear G D W f;go_wp2_with fail
 go_loopw [9] (λj c=>∃a:H,a<=m/\j=ZX ZQ a/\K (PlA (B b.1) a l b c)) (λj _=>m-ZL (ZA j))
 grind
 obtain⟨a,b5,rfl,g⟩:=hrel;clear s
 by_cases x:a<m
 ·rcases L.out with a9|⟨a7,b0,rfl,f,P⟩
  omega;have⟨R,S⟩:=P a x;have⟨a1,c,h,n,p,t,w,y,z,N,d,e⟩:=R.q g.2 f;have a0:=Y (S.q g.2);have⟨b1,b2,a6⟩:=k.A a x;clear R S P
  by_cases a5:r<=(o a).a/\(o a).a<=19
  ·obtain⟨a2,a3⟩:=a5;have j:=Y (ZcG g.1 O O O k.i a0 O O a6 (k.k a x a2) O a3);go_wp2_with fail
   refine j.m ?_;rintro u A ⟨rfl,Q,hK⟩;have s:K (PlA (B b.1) (a+1) l b A):=⟨Q.P O O O,g.2.T (hK.A (λ_ i=>i) g.2.size)⟩;clear a1 c h n p t w y z N d e Q hK g j;go_wp2;go_roundw
   grind
   exact z_
  have s:K (PlA (B b.1) (a+1) l b wr):=⟨g.1.P O O O,g.2⟩;clear c h n p t w y z N d e;go_wp2
  all_goals
   grind [ZA]
 obtain⟨⟨n,S,a0,c1,a9,c0,⟨Q,N,a1,c2,R,e,d,b8,b9⟩,_⟩,f⟩:=g;obtain⟨p,z,rfl,y⟩:=Gg d.y;rw[length_map] at y;have h:K (TeA ⟨λa=>a<B b.1∨n a≠0,S,a0⟩ (B b.1) (30+5*a) (150+1048576*a) 0 b wr a1 (ZH p (F (e.map zw)) z) R e):=⟨⟨Q,N,d⟩,f⟩;rw[length_map] at h;have a2:K (0<F e->∃n,p=T ⟨n,0,ZP⟩):=λi=>(y i).imp λ_ i=>i.1;clear d f y L;go_wp2_with fail
 go_loopw [10] (λj t=>∃c:H,c<=12/\c<=F e/\j=ZX ZQ c/\K (TeA ⟨λa=>a<B b.1∨n a≠0,S,a0⟩ (B b.1) (30+5*a) (150+1048576*a) c b t a1 (ZH p (F e) z) R e)) (λj _=>12-ZL (ZA j))
 grind
 clear h;obtain⟨c,b3,b4,rfl,h⟩:=hrel;have⟨⟨Q,N,d⟩,f⟩:=h.out;have a6:ZV wr (J (B b.1) 2)=T (V p (F e) z):=by rw[d.r.v.cell];exact d.G
 by_cases a7:c<F e/\c<12
 ·obtain⟨n,rfl⟩:=a2 O;obtain⟨t,w⟩:∃t,e[c]? =T t:=⟨e[c],Qd a7.1⟩;have a5:ZV wr _=T (Y7 _):=Hn (x:=zw t) (by have:=d.y;rw[length_map] at this;exact this) (by rw[getElem?_map,w];rfl)
  have j:=hdc<|h.ab O w (Nat.le_of_lt d.r.v.lt) λ_ i=>ZM i
  have b0:c<(F e:E):=O;have b1:(c:E)<12:=O;have b2:0<=(c:E):=O;clear d f w h;go_wp2_with fail
  refine j.m ?_;rintro u A ⟨rfl,P⟩
  have a3:=show K _ from P
  clear P j a6 a5;go_wp2;go_roundw;exact⟨c+1,O,O,g_,a3⟩;exact z_
 have P:=hdc<|d.r.d O
 have t:=Y f;have a3:=d.r.v.lt;clear d f h;go_upto_region 18 with fail
 all_goals
  go_wp2_with fail
  refine P.m ?_;rintro u A ⟨rfl,j⟩;have w:=Y (t.T (j.m O));clear j;go_wp2;go_ret;exact⟨X,w⟩
def ZcI e {d a f} c b (g:Ub b d a c)(h:ag 5 e a c):C_ 10 #[V d a f] b (U_ (ZR Z0) b):=by
 refine q_ ?_;go_wp2_with fail
 refine(vn C g h).m ?_;rintro j k ⟨rfl,i⟩;go_wp2;go_ret;exact⟨X,i⟩
def Zjj e {d a f} c b (g:Ub b d a c)(h:ag 1 e a c):C_ 14 #[V d a f] b (U_ (ZR Z0) b):=by
 refine q_ ?_;go_wp2_with fail
 refine(vn C g h).m ?_;rintro j k ⟨rfl,i⟩;go_wp2;go_ret;exact⟨X,i⟩
end Go.Proofs.YtfcgnpchbcmdeaaGreat
namespace Go.Proofs.YtfcgnpchbcmdeaaGreat
set_option linter.all false
set_option maxRecDepth 100000
set_option maxHeartbeats 16000000
open Go.ChangeShapes Go.WideShapes Go.ChangeAt Go.RowKit List Nat Go.World Go.Proofs.Tryz Go.Value Go.IntKind Go.Lib Go.Region
open Go.Deep
section
variable {H:Type} {enc:TypeId×ZY->H} {w:ZT} {a:ZG}
def ZoD{k d x}(i:DataW.trod enc Y8 w 0 (λ_=>Z0) a k 35 d=T x){f c g}(h:d=[V f c g]):c<=Rows.uptoBulk x.1:=by
 rcases open_slice underlying35 i with⟨b,_⟩|⟨m,t,n,u,s,e,l,b,_,o,p,q,j,r⟩
 ·grind
 rw[h] at b;simp at b;obtain⟨_,rfl,_⟩:=b;rw[j];simp only[Rows.uptoBulk];have:=Xy ((range c).map e)
 grind
def OpB(b:Z8)(a:OpD):Prop:=a.A<=b/\ZK a.n<=b/\a.vl<=b/\a.d<=b/\a.x<=9223372036854775807
def Zno{z i x}(l:DataW.trod enc Y8 w 0 (λ_=>Z0) a z 93 i=T x):∃b:OpD,i=opL b/\OpR w b/\OpB (Rows.uptoBulk x.1) b:=by
 have⟨b,m,u⟩:=Zo6 l;refine⟨b,m,u,?_⟩;have⟨b0,a0,_,v,S,s,c⟩:=DataW.trod_struct underlying93 l;obtain⟨a3,a4,a5,A,a6,a7,D,a8,a9,rfl⟩:=Zn1 s;have d:=c 3 ⟨ "C",37,3,ZZ, "", "",24⟩ X;have e:=c 4 ⟨ "V",25,7,ZZ, "", "",72⟩ X;have f:=c 5 ⟨ "W",25,8,ZZ, "", "",96⟩ X;have g:=c 6 ⟨ "S",9,9,ZZ, "", "",120⟩ X;have h:=c 7 ⟨ "X",3,10,ZZ, "", "",136⟩ X;rw[m] at d e f g h;simp only[au,ZfB,ZfD,ZjD,drop_zero,drop_succ_cons,take_succ_cons,take_zero,getElem?_cons_zero,getElem?_cons_succ] at d e f g h;have⟨_,_,_,_,p,_,_,_,N⟩:=vk e;have⟨_,_,_,_,q,_,_,_,P⟩:=vk f;have⟨a2,j,o,_⟩:=DataW.trod_string underlying9 g;have⟨b5,k,_,y⟩:=DataW.trod_int underlying3 h
 have⟨b4,a1,_,W,_,t,r⟩:=DataW.trod_struct underlying37 d;obtain⟨G,b1,b2,b3,rfl⟩:=Zn0 t;have n:=r 0 ⟨ "Features",35,0,ZZ, "", "",0⟩ X;simp only[ZfC,drop_zero,take_succ_cons,take_zero,getElem?_cons_zero] at n;have L:=ZoD n X;simp at j p q k;subst j;have M:Rows.uptoBulk G.1<=Rows.uptoBulk A.1:=(by grind [Rows.uptoBulk,Rows.uptoBulkAll]);have Q:ZK b.n<=Rows.uptoBulk D.1:=by rw[o];simp only[Rows.uptoBulk];show B b.n.data<=F (Y4 b.n.data)+1;grind
 have R:b.x<=9223372036854775807:=(by rw[k];simp[Lit.wf,IntKind.max,IntKind.bits,signed] at y;omega);unfold OpB;rw[v];simp only[Rows.uptoBulk,Rows.uptoBulkAll,map_cons,map_nil];omega
def fv{G n x}(t:DataW.trod enc Y8 w 0 (λ_=>Z0) a G 22 n=T x)(S:Rows.uptoBulk x.1<=1048576):∃h e m f b,n=[V h e m]/\Ub w h e f/\∀k,ag k b e f:=by
 have inh:Inhabited OpD:=⟨opZ⟩
 rcases open_slice underlying22 t with⟨rfl,_⟩|⟨h,e,m,r,a0,f,N,rfl,_,Q,R,p,W,q⟩
 exact⟨ZP,0,0,λ_=>default,[5,3],X,⟨O,ZM X⟩,λk=>⟨O,s_,s_,s_,λb c=>O,λb c=>O⟩⟩;simp only[if_true] at p;subst p;rw[ZfF] at q;have D:∀b,b<r->∃i:OpD,((∀d,d<12->ZV w (h.add (b*12+d))=(opL i)[d]?)/\OpR w i)/\OpB (Rows.uptoBulk (f b)) i:=(by intro b c;have⟨u,k,l⟩:=q b c;obtain⟨i,rfl,o,g⟩:=Zno l;obtain⟨_,_,j⟩:=cells?_some k;exact⟨i,⟨λd s=>by have:=j d s;rwa [add_add] at this,o⟩,g⟩);have⟨j,g⟩:=choose_lt D;have v:Rows.uptoBulkAll ((range e).map f)<=1048576:=(by grind [Rows.uptoBulk]);have z:=Xy ((range e).map f);simp at z;have y:=λb c=>aG (ZaY _ _ (mem_map.2 ⟨b,by simpa using c,X⟩)) v
 have o:∀b,b<e->OpB 1048576 (j b):=λb c=>by have:=y b c;have:=(g b O).2;unfold OpB at *;omega
 have P:=tz f (λb=>(j b).f) (range _) (λb c=>by
  have d:b<e:=by simpa using c
  have k:=(g b O).1.2.f.1;have l:=(g b O).2.2.2.1
  omega)
 refine⟨T h,e,r,j,[5,3]++((range e).flatMap (λb=>(j b).f)).map Ey,X,⟨O,?_⟩,λk=>⟨O,w_,s_,s_,λb c=>?_,λb c _ _=>?_⟩⟩
 ·by_cases u:e=0
  exact ZM u;right;obtain⟨s,L,M⟩:=h;have l:ZV w _=T _:=(g 0 O).1.1 0 O
  have A:M=ZP:=by simpa [Addr.add] using cell?_spot l
  subst A;simp only[add_plain] at g;refine⟨s,L,X,ji l,λb c=>⟨?_,(g b O).1.2⟩⟩;have d:=(g b O).1.1;exact⟨d 0 O,d 1 O,d 2 O,d 3 O,d 4 O,d 5 O,d 6 O,d 7 O,d 8 O,d 9 O,d 10 O,d 11 O⟩
 have:=o b c;exact⟨this.1,this.2.1,this.2.2.2.2⟩;have:=o b c;refine⟨aG this.2.2.1 C,aG this.2.2.2.1 C,?_⟩
 grind
end
end Go.Proofs.YtfcgnpchbcmdeaaGreat
