import Derived.Test.YtfcgnpchbcmdeaaGreatZsaj
import Derived.Test.YtfcgnpchbcmdeaaGreatRows
open _root_ renaming rfl->X,Nat->H,List->U,Int->E,Array->YZ,Bool->ZG,ByteArray->ZC,Option->Y0
open Go.Value renaming int->ZX,agg->Y9,ownBlock->ZW,slice->ZH,tuple->Y5,bool->ZR,pointer->Y7
open Go.IntKind renaming i64->ZQ
open Go.World renaming alloc->ZN,cell?->ZV,grownBy->Y3,frozen?->YT,setCell->ZO
open Go.Ending renaming returned->ZI
open List renaming length->F,getD->Z,take->ZU,drop->ZF,replicate->Y6
open Or renaming inl->ZM,inr->ZJ
open Decidable renaming decide->ZE
open Bool renaming true->Z0,false->ZZ
open Option renaming some->T,none->ZP
open Array renaming size->B,toList->Y4
open Go renaming World->ZT,maxLen->Y2,Value->ZY,madeCells->YV
open Go.Proofs.Tryz renaming prog->Y8
open Int renaming toNat->ZL
namespace Go.Proofs.YtfcgnpchbcmdeaaGreat
set_option linter.all false
set_option maxRecDepth 100000
set_option maxHeartbeats 4000000
open Go.RowKit List Nat Go.World Go.Proofs.Tryz Go.Value Go.IntKind Go.Lib Go.Region
def vg{x:Cd}{a}(c:0<=x.t/\0<=x.h/\x.t<=1000000000000/\x.h<=1000000000000):C_ 154 #[Y9 #[I x.v,I x.t,I x.h,I x.g]] a λb d=>b=ZI (ZX ZQ (x.t+x.h))/\d=ZN a (O_ #[I x.v,I x.t,I x.h,I x.g] 98):=by obtain⟨e,f,g,h⟩:=c;refine er_ ?_;exact⟨X,X⟩
structure Zfn(a:U Cd)(d)(e b:H):Prop where
 p:e<=b
 k:b+2<=F a
 l:∀c,e<=c->c<b->Jt a c+Jt a (c+1)<d
 j:b+2=F a∨¬Jt a b+Jt a (b+1)<d
def ZbL{t} b G k m {o}(u:Cj o t b)(N:Bc b)(Q:k+2<=F b):C_ 89 #[V t (F b) G,I k,I m] o λl e=>∃a:H,l=ZI (ZX ZQ a)/\Zfn b m k a/\E_ o e:=by
 have b7:=u.1;have⟨D,r⟩:=Y_ u N;refine q_ ?_;go_wp2_with fail
 go_loopw [1] (λc d=>∃a:H,c=I a/\k<=a/\a+2<=F b/\K (∀h,k<=h->h<a->Jt b h+Jt b (h+1)<m)/\E_ o d) (m1_ (F b))
 exact⟨k,X,x_,Q,λh v w=>absurd w O,y_⟩;obtain⟨a,rfl,x,y,q,j⟩:=hrel
 by_cases b6:a+2<F b
 ·rcases D.out with⟨_,b4|⟨c,d,rfl,P⟩⟩;omega;have i:=P.q j;have b5:=i.lt O;have b2:=r.at (show a<F b by omega);have b3:=r.at (show a+1<F b by omega);obtain⟨W,a0,a1,a2⟩:D_ wr c (d+a*4) (I (Z b a e0).v)/\D_ wr c (d+a*4+1) (I (Z b a e0).t)/\D_ wr c (d+a*4+2) (I (Z b a e0).h)/\D_ wr c (d+a*4+3) (I (Z b a e0).g):=⟨i.v a O,i.t a O,i.h a O,i.g a O⟩;obtain⟨a7,a8,a9,b0⟩:D_ wr c (d+(a+1)*4) (I (Z b (a+1) e0).v)/\D_ wr c (d+(a+1)*4+1) (I (Z b (a+1) e0).t)/\D_ wr c (d+(a+1)*4+2) (I (Z b (a+1) e0).h)/\D_ wr c (d+(a+1)*4+3) (I (Z b (a+1) e0).g):=⟨i.v (a+1) O,i.t (a+1) O,i.h (a+1) O,i.g (a+1) O⟩
  have z:0<=(Z b a e0).t/\0<=(Z b a e0).h/\(Z b a e0).t<=1000000000000/\(Z b a e0).h<=1000000000000:=O;have A:0<=(Z b (a+1) e0).t/\0<=(Z b (a+1) e0).h/\(Z b (a+1) e0).t<=1000000000000/\(Z b (a+1) e0).h<=1000000000000:=O
  have s:K (Jt b a+Jt b (a+1)=_+_+(_+_)):=show _=_ from X
  have L:ZE ((a:_)+2<(F b:E))=_:=aF O;have b1:ZE (a+2<_)=_:=aF O;have a3:0<=(a:E):=O;have a4:a+1<(F b:E):=O;have a5:a<(F b:E):=O;generalize (Z b) a e0=f,Z b (a+1) e0=g at *;have⟨R,S⟩:=Y_ z A;obtain⟨c1,c2,c3,c4⟩:=z;obtain⟨c5,c6,c7,c8⟩:=A;have b9:i64.wrap (a+2)=a+2:=(by rw[wrap_i64];omega);have b8:i64.wrap (a+1)=a+1:=(by rw[wrap_i64];omega);have c0:i64.wrap (f.t+f.h+(g.t+g.h))=f.t+f.h+(g.t+g.h):=(by rw[wrap_i64];omega);have a6:0<=(a:E)+1:=O
  by_cases n:f.t+f.h+(g.t+g.h)<m
  ·have M:=aF n
   have p:K (∀h,k<=h->h<a+1->Jt b h+Jt b (h+1)<m):=λh v w=>by
    by_cases l:h=a
    subst l;rw[s];exact n;exact q h v O
   go_wp2_with fail
   go_region_held3 (λe=>D_ e c (d+a*4) (I f.v)/\D_ e c (d+a*4+1) (I f.t)/\D_ e c (d+a*4+2) (I f.h)/\D_ e c (d+a*4+3) (I f.g)/\D_ e c (d+(a+1)*4) (I g.v)/\D_ e c (d+(a+1)*4+1) (I g.t)/\D_ e c (d+(a+1)*4+2) (I g.h)/\D_ e c (d+(a+1)*4+3) (I g.g)) (go_keep) (first|(go_at_call 154;apply (vg O).m;rintro l e ⟨rfl,rfl⟩))
   all_goals go_wp2
   all_goals
    go_roundw;exact⟨a+1,g_,O,O,p,((j.alloc j.size _).alloc (by have:=j.size;simp;omega) _).drew⟩;exact z_
  have M:=aE n;have p:K (Zfn b _ _ a):=⟨x,y,q,ZJ (s ▸ n)⟩;go_wp2_with fail
  go_region_held3 (λe=>D_ e c (d+a*4) (I f.v)/\D_ e c (d+a*4+1) (I f.t)/\D_ e c (d+a*4+2) (I f.h)/\D_ e c (d+a*4+3) (I f.g)/\D_ e c (d+(a+1)*4) (I g.v)/\D_ e c (d+(a+1)*4+1) (I g.t)/\D_ e c (d+(a+1)*4+2) (I g.h)/\D_ e c (d+(a+1)*4+3) (I g.g)) (go_keep) (first|(go_at_call 154;apply (vg O).m;rintro l e ⟨rfl,rfl⟩))
  all_goals go_wp2
  all_goals go_ret
  all_goals exact⟨a,X,p,((j.alloc j.size _).alloc (by have:=j.size;simp;omega) _).drew⟩
 have L:ZE ((a:_)+2<(F b:E))=_:=aE O;have p:K (Zfn b _ _ a):=⟨x,y,q,ZM O⟩;go_wp2_with fail
 go_big_quiet (fail);go_wp2;go_ret;exact⟨a,X,p,below_drewN j _⟩
def atK(a:U Cd)(b k:H):H:=if k=0 then 1 else Cy a b k
def ZhN{a}(k:Bc a){b d j:H}{f e}(h:3<=F a)(s:2<=b)(q:0<=e)(o:e<(b:E)-1)(n:f*(b-1)+e=4*(d+1:H)*Ae a)(g:Zfn a (if 0<e then f+1 else f) (atK a b d) j):j=Cy a b (d+1):=by
 have r:∀c,Jt a c+Jt a (c+1)<(if 0<e then f+1 else f)↔Rz a b (d+1) c=Z0:=λc=>by rw[Zkn O q o n];unfold Rz;grind
 have p:1<=atK a b d:=(by unfold atK;split;omega;exact(Gi a b d h).f);refine ZaE.a ⟨aG p g.p,g.k,λc l m=>?_,?_⟩ (Gi a b _ h)
 ·by_cases i:atK a b d<=c
  exact(r c).1 (g.l c i m);unfold atK at i;split at i;omega;exact vh k ((Gi a b d h).l c l O)
 rcases g.j with i|i
 exact ZM i
 grind
def ZpU{a} c b (d:3<=F a):atK a c b+2<=F a:=by unfold atK;split;omega;exact(Gi a c b d).k
def nc{L} b:∀a,F (Fd L b a)<=a+1
 |0=>by simp[Fd]
 | a+1=>by
  have:=nc (L:=L) b a;simp only[Fd]
  grind
def Zd2{l j c b}(h:Ln l j c b):∀a k,(flat b)[a]? =T k->ZV l (((J j c):Addr).add a)=T k:=by
 intro a k m;have o:a<F b*4:=by rw[<- Cg];grind
 have n:∀b f i,f<F b->i<4->(flat b)[f*4+i]? =(Es (Z b f e0))[i]?:=by
  intro b
  induction b with
  |nil=>grind
  | cons e b p=>
   intro f i g d
   cases f with
   |zero=>grind [flat,Es]
   | succ f=>
    grind [flat,Es]
 have d:=n b (a/4) (a%4) O O;rw[show a/4*4+a%4=a by omega,m] at d;rw[(Go.WideShapes.add_plain j c a)];have g:a/4<F b:=O
 rcases(show a%4=0∨a%4=1∨a%4=2∨a%4=3 by omega) with e|e|e|e
 rw[e] at d;rw[show c+a=c+a/4*4 by omega,h.v _ g];exact d.s;rw[e] at d;rw[show c+a=c+a/4*4+1 by omega,h.t _ g];exact d.s;rw[e] at d;rw[show c+a=c+a/4*4+2 by omega,h.h _ g];exact d.s;rw[e] at d;rw[show c+a=c+a/4*4+3 by omega,h.g _ g];exact d.s
def Vt b:∀c∈flat b,c.oneCell'=Z0:=by
 induction b with
 |nil=>simp[flat]
 | cons e b d=>
  intro c a;simp only[flat,mem_append] at a
  rcases a with a|a
  ·simp[Es] at a;rcases a with rfl|rfl|rfl|rfl<;>rfl
  exact d c a
def ZlV{d e a c b:E}(h:0<a)(k:0<=e)(g:c<=a)(i:0<=b)(j:d*a+e=c*b):d<=b:=by
 have f:d*a<=b*a:=by
  have:c*b<=a*b:=Int.mul_le_mul_of_nonneg_right g i
  grind
 exact Int.le_of_mul_le_mul_right f h
def Ai.kept{e f c a b d}(g:Ai e c a b)(h:Y3 e f (T d))(i:ZW a≠T d):Ai f c a b:=World.ownsRow.kept g h (ZJ i)
def Ai.c{e g d f b j k l m}(h:Ai e g d f)(i:Qm e b j k l m):ZW d≠T b:=by
 intro a
 rcases h.2 with⟨rfl,_⟩|⟨p,n,o,rfl,_,c,_⟩
 simp[ZW] at a;simp[ZW] at a;subst a;rw[i] at c;simp at c
def ZpT{b:ZT}{s:YZ Oper}{t:U Oper}{e:Oper}{x:Act}{l:Exit->Act->ZT->Prop}{f g:Operand}{d a i}(c:Cj b d a)(A:d=ZP->i=0)(hK:∀k h,K (Ai h (B b.1) k a/\E_ b h)->wpList Y8 s l t (x.put e.dst k) h)(m:e.guard=ZP:=by rfl)(o:e.op=.call {callee:=.builtin .append,args:=#[f,g],argTypes:=#[29,29]}:=by rfl)(p:x.eval f=ZH ZP 0 0:=by rfl)(q:x.eval g=ZH d (F a) i:=by rfl):wpList Y8 s l (e::t) x b:=by
 have⟨r,n,D,G,L⟩:=info_parts bq;obtain⟨Q,c⟩:=c
 cases d with
 | none=>
  obtain rfl:a=[]:=w_;obtain rfl:=A X;exact wpList_append_own_none m f g 29 o (B b.1) 98 r 4 underlying29 n _ 0 [] p (Ai.nil _ _) q (hK _ _ ⟨Ai.nil _ _,y_⟩)
 | some u=>
  refine wpList_append_own b m f g 29 o (B b.1) 98 r _ 4 32 underlying29 n D G L X C _ 0 [] p (Ai.nil _ _) u (F a) i (flat a) q (Cg a) (λM N j=>?_) (Vt a) (by unfold Y2;omega) O x_ λk h w y _=>hK _ _ ⟨?_,y_.grown y x_ (λz v=>by cases v)⟩
  ·rcases c with c|⟨P,R,v,z⟩
   rw[eq_nil_of_length_eq_zero c] at j;cases j
   cases v;exact Zd2 z M N j
  simpa [Ai] using w
def ym{a1 b a2} p {d}(u:Cj d a1 b)(m:Bc b)(d5:a1=ZP->a2=0):C_ 47 #[V a1 (F b) a2,I p] d λg A=>∃c,g=ZI c/\Ai A (B d.1) c (Ep b p)/\E_ d A:=by
 have⟨n,G⟩:=Y_ u m;have f0:=u.1;obtain⟨a,d7⟩:∃a:H,max p 2=a:=⟨ZL (max p 2),O⟩;have d8:2<=a:=O
 have r:K (Ep b p=if F b<=a then b else Fd b a (a-2)++[Z b (F b-1) e0]):=show _=_ by grind [Ep]
 refine q_ ?_;go_upto_region 1 with fail;go_cut [1] (λc f=>c=I a/\f=d)
 case first=>
  by_cases c:p<2<;>(go_wp2;go_meet;grind)
 obtain⟨rfl,e1⟩:=hcut;obtain rfl:=e1.s;clear d7 u m
 by_cases c0:F b<=a
 ·rw[aD c0] at r;go_wp2_with (at_builtin;apply ZpT n d5)
  intro y a8 c;refine wr_ ?_;exact⟨_,X,by rw[r];exact c.1,c.2⟩
 rw[aC c0] at r;have P:3<=F b:=O;obtain⟨e4,f6,rfl,b3,b4,b5,b6,e6⟩:=n.at (i:=0) O;simp only[Nat.zero_mul,Nat.add_zero] at b3 b4 b5 b6;have c6:K (Fd b a 0=[_]):=rfl;generalize (Z b) 0 e0=e at *;have e5:0<F b:=O;have d4:∀k:ZT,(Instr.makeSlice 29 (I 0) (I a)).run Y8 k=.ok (L_ (B k.1) 0 a) (ZN k (O_ (YV #[I 0,I 0,I 0,I 0] (a*4)) 98)):=λ_=>mk_ 4;go_upto_region 5 with fail;go_cut [6] (λc f=>K (Ai f (B d.1) c [e])/\E_ d f)
 case first=>
  have j:∀(k:ZT) m,B d.1<=m->B k.1=m->Ai (ZN k (O_ (YV #[I 0,I 0,I 0,I 0] (a*4)) 98)) (B d.1) (L_ m 0 a) []:=λk m u g=>by subst g;exact ownsRow_made k _ a u (by unfold Y2;omega) (size_madeCells _ _)
  have⟨x,s,t,v,w⟩:=info_parts bq;have l:∀f h,([I e.v,I e.t,I e.h,I e.g]:U ZY)[f]? =T h->_:=one_at (w:=ZN d (O_ (YV #[I 0,I 0,I 0,I 0] (a*4)) 98)) (g:=B d.1+1) (c:=#[I e.v,I e.t,I e.h,I e.g]) (t:=98) s_;go_region_law (refine Se X _ _ 29 X _ 98 x _ 4 32 underlying29 s t v w X C (V _ 0 a) 0 [] X (by first|exact(j d _ x_ X).alloc _|exact j (ZN d _) (B d.1+1) O s_) _ 1 1 [I e.v,I e.t,I e.h,I e.g] X X (by first|exact l|exact λf h c=>X_ (one_new d _ 98 f h c)) (by simp[oneCell']) (by unfold Y2;omega) O u_ ?_;intro y a8 P q;have o:=((r_.alloc s_ _).drew).grown q u_ (λc b9=>by simp[ZW] at b9;omega))
  all_goals go_wp2
  all_goals go_meet
  all_goals exact⟨by simpa [Ai,flat,Es,Hid] using P,o⟩
 obtain⟨b1,v⟩:=hcut;have f9:=(Dk G).1;have g0:=(Dk G).2;have e7:=v.size;go_wp2_with fail
 apply (ZcR b (n.q v)).m;rintro g A ⟨rfl,rfl⟩;generalize a0:Ae b=S at *;replace a0:=Y a0;clear b3 b4 b5 b6 d4;go_wp2_with fail
 go_loopw [6,8,9,36] (λo q s h l=>∃(c:H) (j f:E),c<=a-2/\q=I (atK b a c:H)/\s=I (Jy b a c:H)/\h=I c/\K (Ai l (B d.1) o (Fd b a c)/\Qm l (B A.1) (4*S) ((a:E)-1) j f/\j*((a:E)-1)+f=(c:E)*(4*S))/\0<=f/\f<(a:E)-1/\0<=j/\E_ d l) (λ_ _ _ h _=>a-ZL (intOf h))
 case atStart=>exact⟨0,0,0,v_,X,X,X,⟨c6 ▸ (b1.alloc _),hn_,s_⟩,O,O,O,v.alloc v.size _⟩
 clear b1 v;obtain⟨c,g3,f8,b9,rfl,rfl,rfl,f,d6,f2,f4,w⟩:=hrel;have f5:=ZlV O d6 O O f.2.2;have c2:=w.size;have a9:=Y (ZpU a c P);have e8:=nc (L:=b) a c
 by_cases e9:c<a-2
 case neg=>
  have q:¬c<(a:E)-2:=O;obtain⟨l,o⟩:∃l,F b=l+1:=⟨F b-1,O⟩;rw[show a-2=c by omega,show F b-1=l by omega] at r;obtain⟨_,_,⟨⟩,c8,c9,d0,d1,_⟩:=(n.q w).at (i:=l) O;generalize (Z b) l e0=h,Fd b a c=e2 at *;go_wp2_with (at_builtin;refine ap_ [I h.v,I h.t,I h.h,I h.g] (f.1.alloc _) ?_)
  intro e3 c5 j;have a4:=(w.alloc c2 _).grown j.2.1 t_ (λR x=>(f.1.lt R x).1);have x:=Y (Ai.P j.1);clear j;refine wr_ ?_;exact⟨_,X,r ▸ x,a4⟩
 have f1:c<(a:E)-2:=O;go_wp2_with fail
 apply (ZkW f.2.1 O O O O).m;rintro g g1 ⟨rfl,q,z,b7,c1,a6,a7,c4,f7,a5⟩;have W:K (q*(a-1)+z=(c+1:H)*(4*S)):=(by show _=_;rw[c1,f.2.2,show((c+1:H):E)=(c:E)+1 by omega,Int.add_mul,Int.one_mul]);have t:=K_ (f.1.kept a5 (f.1.c f.2.1)) b7;have b8:=w.grown a5 c2 (λR x=>by simp at x;omega);clear c1 a5 b7 f w;go_wp2_with fail
 apply (td t.2 O).m;rintro g g2 ⟨rfl,rfl⟩;generalize s:(if 0<z then q+1 else q)=d2;generalize b0:atK b a c=c7 at *;replace s:=K_ s b0;clear b0;go_wp2_with fail
 apply (ZbL b a2 c7 d2 (Y (n.q b8)) G a9).m;rintro g a8 ⟨l,rfl,a3,o⟩;have b2:=Y (ZhN G P d8 a6 a7 (by rw[a0,W,<- Int.mul_assoc,Int.mul_comm 4 ((c+1:H):E),Int.mul_assoc]) (by rw[s.2,s.1];exact a3));have f3:=a3.k;have N:=Y (t.1.q o);have M:K (Qm _ _ _ _ _ _):=(o.block _ t.2.lt).T t.2;have Q:=bt_ b8 o;have d9:=Q.size;have D:K (atK b a (c+1)=l/\Jy b a (c+1)=l):=by rw[b2];exact⟨by simp[atK],by simp[Jy]⟩
 have L:K (Fd b a (c+1)=if l=Jy b a c then Fd b a c else Fd b a c++[Z b l e0]):=(by show _=_;rw[b2];rfl);clear a3 o t s a9;generalize Jy b a c=c3 at *
 by_cases y:l=c3
 ·rw[aD y] at L;have h:(l !=(c3:E))=ZZ:=(by rw[bne_eq_false_iff_eq];omega);replace y:=Y y;refine J_ ?_;exact⟨c+1,q,z,O,by rw[D.1],by rw[D.2,y],g_,⟨L ▸ N,M,W⟩,a6,a7,c4,Q⟩
 rw[aC y] at L;obtain⟨_,_,⟨⟩,c8,c9,d0,d1,_⟩:=(n.q Q).at (i:=l) O;generalize (Z b) l e0=h,Fd b a c=e2 at *;go_wp2_with (at_builtin;refine ap_ [I h.v,I h.t,I h.h,I h.g] (N.alloc _) ?_)
 intro e3 c5 j;have a4:=(Q.alloc d9 _).grown j.2.1 t_ (λR x=>(N.lt R x).1);have x:=Y (Ai.P j.1);have R:K (Qm c5 (B A.1) (4*S) (a-1) q z):=(by have d3:=M.lt;unfold Qm;rw[j.2.1.block _ t_ (λg=>(N.c M) g.s),hb_ a8 _ _ d3];exact M);clear j;refine J_ ?_;exact⟨c+1,q,z,O,by rw[D.1],by rw[D.2],g_,⟨L ▸ x,R,W⟩,a6,a7,c4,a4⟩
def Kq(a:E×E):Cd:=⟨a.1,0,0,a.2⟩
def Yi{a B x c b}(f:F a=c)(e:b<4) d:(flat (a++x::B)).set (c*4+b) d=flat a++((Es x).set b d++flat B):=by grind [Cb,flat,Cg]
def Mn{a b}{x:Cd}{c}(e:F a=c) d:(flat (a++x::b)).set (c*4+1) (I d)=flat (a++⟨x.v,d,x.h,x.g⟩::b):=by rw[Yi e O,Cb];rfl
def Mo{a b}{x:Cd}{c}(e:F a=c) d:(flat (a++x::b)).set (c*4+2) (I d)=flat (a++⟨x.v,x.t,d,x.g⟩::b):=by rw[Yi e O,Cb];rfl
def Mp{a b}{x:Cd}{c}(e:F a=c) d:(flat (a++x::b)).set (c*4+3) (I d)=flat (a++⟨x.v,x.t,x.h,d⟩::b):=by rw[Yi e O,Cb];rfl
theorem Ai.at{b i a j e g x k n}(h:Ai b i (L_ a n j) (e++x::g))(l:n=F (e++x::g))(o:F e=k):ZV b (J a (k*4))=T (I x.v)/\ZV b (J a (k*4+1))=T (I x.t)/\ZV b (J a (k*4+2))=T (I x.h)/\ZV b (J a (k*4+3))=T (I x.g)/\∀f,YT b (J a f)=ZZ:=by
 subst l
 have d:∀c,c<4->ZV b (J a (k*4+c))=(Es x)[c]?:=λc m=>by
  rw[World.ownsRow.cellAt h (k*4+c) t_,Cb]
  grind [flat,Cg]
 exact⟨d 0 O,d 1 O,d 2 O,d 3 O,λf=>World.ownsRow.frozenAt h f⟩
def Ai.b{i g c h e d a b f}(j:Ai i g (L_ c e h) a)(k:e=F a)(m:F b=F a)(l:(flat a).set d f=flat b):Ai (ZO i (J c d) f) g (L_ c e h) b:=by
 subst k;have:=(World.ownsRow.stored j d f).1;unfold Ai
 grind
def Rj{M}(f:∀c∈M,0<=c.2) b:0<=Bv (ZU b M)/\Bv (ZU b M)<=Bv M:=by
 have e:∀a:U (E×E),(∀c∈a,0<=c.2)->0<=Bv a:=by
  intro a d
  induction a with
  |nil=>simp[Bv]
  |cons c h g=>grind [Bv]
 have d:=Tx (ZU b M) (ZF b M);rw[take_append_drop] at d
 grind
def Vy(a:U (E×E))(b:H):U Cd:=Bo 0 (ZU b a)++(ZF b a).map Kq
def Zia a b:F (Vy a b)=F a:=by simp[Vy,Pw];omega
def Zlg{c} d a {e f}(v:Ai f e (L_ c (F a) d) (a.map Kq))(y:∀D∈a,0<=D.2)(Q:Bv a<=1000000000000)(P:F a<=4194304):C_ 84 #[L_ c (F a) d] f λh b=>h=ZI (Y5 #[])/\Ai b e (L_ c (F a) d) (Bo 0 a)/\Y3 f b (T c):=by
 have⟨p,g⟩:=Y_ v y;refine ew_ ?_;go_loopw [2,7] (λj i h=>∃b:H,b<=F a/\i=I b/\j=I (Bv (ZU b a))/\K (Ai h e (L_ c (F a) d) (Vy a b)/\Y3 f h (T c))) (m2_ (F a))
 exact⟨0,v_,X,X,by simpa [Vy,Bo] using p.out,Ay⟩;obtain⟨b,N,rfl,rfl,q⟩:=hrel;obtain⟨l,x⟩:=q;have m:=Y x
 by_cases i:b<F a
 ·have z:=aN i;have w:Vy a b=Bo 0 (ZU b a)++Kq a[b]::(ZF (b+1) a).map Kq:=(by unfold Vy;rw[z];rfl);have j:F (Bo 0 (ZU b a))=b:=(by rw[Pw];simp;omega);have k:=Zia a b;rw[w] at l k;have⟨r,s,t,u,M⟩:=l.at (by rw[k]) j;have R:=Rj g b;have A:=Rj g (b+1);have n:Bv (ZU (b+1) a)=Bv (ZU b a)+a[b].2:=by rw[Qi i,Tx];simp[Bv]
  have o:K (Ai (ZO (ZO wr (J c (b*4+1)) (I (Bv (ZU b a)))) (J c (b*4+2)) (I (Bv (ZU b a)+a[b].2))) e (L_ c (F a) d) (Vy a (b+1))):=(by have G:=l.b (by rw[k]) s_ (Mn j (Bv (ZU b a)));have L:=G.b w_ s_ (Mo j (Bv (ZU b a)+a[b].2));have h:Vy a (b+1)=Bo 0 (ZU b a)++⟨a[b].1,Bv (ZU b a),Bv (ZU b a)+a[b].2,a[b].2⟩::(ZF (b+1) a).map Kq:=(by grind [Vy,Zk,Bo]);rw[h];exact L);have h:=Y n;have L:=g _ (Qf i);simp only[Kq] at r s t u;rw[n] at A;generalize Bv (ZU b a)=S,a[b].2=a0,a[b].1=W at *;have G:=F_ b _;refine J_ ?_;exact⟨b+1,O,g_,by rw[h],o,Aq (Aq m _) _⟩
 have j:F a=b:=O;have h:K (Ai wr e (L_ c (F a) d) (Bo 0 a)):=(by grind [Vy]);go_wp2;go_end0;exact⟨X,h,m⟩
def Ns{i M N l m t}(a5:l.guard=ZP) P x (b0:l.op=.call {callee:=.builtin .append,args:=#[P,x],argTypes:=#[29,29]}) q (a6:prog.info? 98=T q)(p:q.size=4) v f g r e a b d c (n:F a=e)(a8:r=F (a++d::b))(b1:m.eval P=L_ f e g)(a1:Ai i v (L_ f r g) (a++d::b)) u w (b3:m.eval x=ZH (T u) 1 w)(a9:∀L Q,[I c.v,I c.t,I c.h,I c.g][L]? =T Q->ZV i (u.add L)=T Q)(a0:∀s,Ai s v (L_ f r g) (a++c::b)->Y3 i s (T f)->wpList Y8 M t N (m.put l.dst (L_ f (e+1) g)) s):wpList Y8 M t (l::N) m i:=by
 subst a8
 rcases a1.2 with⟨j,_⟩|⟨b5,b4,h,j,a2,A,D,a4,y,b2⟩
 simp at j;simp only[slice.injEq,Option.some.injEq,Addr.mk.injEq,and_true,true_and] at j;obtain⟨rfl,rfl⟩:=j;have a7:F (a++d::b)=e+1+F b:=(by simp[n];omega);have z:F (flat a)=e*4:=(by rw[Cg,n]);refine wpList_plain a5 λK hK=>?_;have G:=run_append_room (P:=Y8) i 29 l.type 98 q underlying29 a6 f e g _ A _ 1 w _ (by rw[p];rfl) a9 (by simp[oneCell']) O (by rw[p,y];simp;omega);rw[p] at G;have a3:Y4 h=flat (a++d::b)++ZF (F (a++d::b)*4) (Y4 h):=by rw[<- b2,take_append_drop]
 have o:ZU (e*4) (Y4 h)++[I c.v,I c.t,I c.h,I c.g]++ZF (e*4+4) (Y4 h)=flat (a++c::b)++ZF (F (a++d::b)*4) (Y4 h):=by
  rw[a3];generalize (Y4 h).drop (F (a++d::b)*4)=k;rw[Cb,Cb];have R:ZU (e*4) (flat a++flat (d::b)++k)=flat a:=by rw[append_assoc,<- z,take_left]
  have S:ZF (e*4+4) (flat a++flat (d::b)++k)=flat b++k:=(by rw[append_assoc,<- drop_drop,<- z,drop_left];simp[flat,Es]);have W:List.drop (F (a++d::b)*4) (flat a++flat (d::b)++k)=k:=(by rw[<- Cb,<- Cg,drop_left]);rw[R,S,W];simp[flat,Es]
 have R:F (flat (a++c::b)++ZF (F (a++d::b)*4) (Y4 h))=g*4:=(by have k:F (Y4 h)=g*4:=(by rw[Array.length_toList,y]);rw[Qe,Cg,length_drop,k];rw[a7] at D ⊢;have:F (a++c::b)=e+1+F b:=(by simp[n]<;>omega);omega);unfold Oper.wp;simp only[execOp,b0,resolve,invoke,builtin,Sem.run_bind,Sem.run_pure,Result.andThen_ok,map_toArray,map_cons,map_nil,b1,b3,G];refine hK _ _ (a0 _ ?_ ?_)
 ·refine⟨by rw[Cg],ZJ ⟨f,g,_,s_,a2,setRow_heap i f _ _ _ _ A,?_,a4,?_,?_⟩⟩
  ·simpa using D
  simp only[length_cons,length_nil] at o ⊢;rw[size_toArray];simp only[Nat.zero_add,reduceAdd];rw[o];exact R;simp only[length_cons,length_nil,Nat.zero_add,reduceAdd];rw[o,show F (a++c::b)*4=F (flat (a++c::b)) by rw[Cg],take_left]
 exact⟨X,X,X,by simp[setRow],λS _ k=>setRow_other i f S _ (λj=>k (by rw[j]))⟩
def Ai.g{i f e d h g a c}(k:Ai i f (L_ e h d) (a++c))(q:h=F (a++c))(p:g=F a):Ai i f (L_ e g d) a:=by
 subst q p
 rcases k.2 with⟨b,_⟩|⟨u,t,j,b,l,o,r,m,n,s⟩
 simp at b;simp only[slice.injEq,Option.some.injEq,Addr.mk.injEq,and_true,true_and] at b;obtain⟨rfl,rfl⟩:=b;refine⟨Cg a,ZJ ⟨e,d,j,X,l,o,by simp at r;omega,m,n,?_⟩⟩;have:ZU (F a*4) (flat (a++c))=flat a:=(by rw[Cb,<- Cg,take_left]);rw[<- this,<- s,take_take];congr 1;simp<;>omega
def ZlQ{a}(c:∀b∈a,1<=b.2) g:Qj a g<=Bv a:=by
 induction a with
 |nil=>simp[Qj,Bv]
 | cons b i e=>
  have h:=e (λf d=>c f (by simp[d]));have d:=c b s_;simp only[Qj,Bv];split<;>omega
def od{a:ZT}{d}(f:B a.1=d){b}:∀c e,(Y4 b)[c]? =T e->ZV (ZN a (O_ b 98)) (((J d 0):Addr).add c)=T e:=by subst f;exact one_new a b _
def Hi{g h i:ZT}{c}(a:Y3 g h c)(b:Y3 h i c):Y3 g i c:=
 ⟨b.os.T a.os,b.tape.T a.tape,b.output.T a.output,aG a.size b.size,λf d e=>(b.block f (Qh d a.size) e).T (a.block f d e)⟩
def Lc{b c f}(a:E_ b c):Y3 b c f:=⟨a.os,a.tape,a.output,a.size,λe d _=>a.block e d⟩
structure Sn(d:U (E×E))(b)(a)(c:U Cd):Prop where
 sum:Ej (ZU b d) a
 y:F a+F c=b
def Fj(c:U (E×E))(d:H)(b:U (E×E))(a:U Cd):U Cd:=b.map Kq++(a++(ZF d c).map Kq)
def Zeq{a b d c}(e:Sn a b d c)(f:b<=F a):F (Fj a b d c)=F a:=by have:=e.y;simp[Fj];omega
def qo{a:U (E×E)}{b} c:ZU (b+1) a=ZU b a++[a[b]]:=Qi c
def Zer{a b e d c g}(f:Sn a b (e++[(c,g)]) d){i}(h:c=a[b].1):Sn a (b+1) (e++[(c,g+a[b].2)]) (d++[Kq a[b]]):=by refine⟨?_,by have:=f.y;simp at this ⊢;omega⟩;rw[qo i];have:=f.sum.c a[b].2;rw[show a[b]=(c,a[b].2) from Prod.ext h.s X];exact this
def nz{c b d q}(h:Sn c b d q){t}(m:c.Pairwise λx i=>x.1<=i.1)(v:∀p y r,d=r++[(p,y)]->p≠c[b].1):Ej (ZU (b+1) c) (d++[c[b]]):=by
 rw[qo t];refine h.sum.P λi l=>?_;have u:i.1<=c[b].1:=by have⟨j,g,e⟩:=mem_iff_getElem.1 l;rw[getElem_take] at e;rw[<- e];exact pairwise_iff_getElem.1 m j b (by simp at g;omega) _ (by simp at g;omega)
 rcases Int.lt_or_eq_of_le u with k|k
 exact k;exfalso;have⟨o,a,z⟩:=h.sum.all i l;have f:=ne_nil_of_mem a;have n:=(dropLast_concat_getLast f).s;apply v _ _ _ n;have A:(d.getLast f).1<=c[b].1:=by have⟨D,w,s⟩:=h.sum.e _ (getLast_mem f);have⟨j,g,e⟩:=mem_iff_getElem.1 w;rw[getElem_take] at e;rw[<- s,<- e];exact pairwise_iff_getElem.1 m j b (by simp at g;omega) _ (by simp at g;omega)
 have g:o.1<=(d.getLast f).1:=by
  have e:=h.sum.f;rw[n] at a e
  rcases mem_append.1 a with a|a
  have:=(pairwise_append.1 e).2.2 o a (d.getLast f) s_;omega;simp at a;rw[a];exact Int.le_refl _
 omega
def fq{b a d c}(h:Sn b a d c) i:∃e f g,Fj b a d c=d.map Kq++e::f/\Fj b (a+1) (d++[b[a]]) g=d.map Kq++Kq b[a]::f/\F (d++[b[a]])+F g=a+1:=by
 have f:=h.y;have g:=aN i
 cases c with
 |nil=>exact⟨Kq _,(ZF (a+1) b).map _,[],by unfold Fj;rw[g,map_cons,nil_append],by unfold Fj;simp,by simp at f ⊢;omega⟩
 |cons e c=>exact⟨e,c++Kq _::(ZF (a+1) b).map _,c++[Kq b[a]],by unfold Fj;rw[g,map_cons];rfl,by unfold Fj;simp,by simp at f ⊢;omega⟩
def ny{e} j (a:U (E×E)){n r}(a4:Ai r n (L_ e (F a) j) (a.map Kq))(b4:a.Pairwise λq i=>q.1<=i.1)(b1:∀q∈a,1<=q.2/\q.2<=1000)(d8:F a<=2097152):C_ 83 #[L_ e (F a) j] r λu b=>∃c,u=ZI (ZH (T ⟨e,0,ZP⟩) (F c) j)/\Ej a c/\F c<=F a/\Ai b n (L_ e (F c) j) (c.map Kq)/\Y3 r b (T e):=by
 have⟨b7,b0,e2,b6,e3⟩:=info_parts bq;have d6:=(B_ a4 e X).2;have⟨b8,a8,a1⟩:=y3_ a4 b4 b1;clear a4 b4 b1;refine q_ ?_;go_wp2_with fail
 go_loopw [3,11] (λh g d=>∃(b:H) (c:U (E×E)) (f:U Cd),b<=F a/\g=I b/\h=ZH (T (J e 0)) (F c) j/\K (Sn a b c f/\Ai d n (L_ e (F a) j) (Fj a b c f)/\Y3 r d (T e))) (m2_ (F a))
 exact⟨0,[],[],v_,X,X,⟨Ej.nil,X⟩,by simpa [Fj] using b8.out,Ay⟩;obtain⟨b,c,f,d7,rfl,rfl,b9⟩:=hrel;obtain⟨g,o,N⟩:=b9;have L:=Y N;have e1:=N.size;have d5:e<B wr.1:=O
 by_cases P:b<F a
 ·have d4:=g.y;have b5:=aN P;have a9:Fj a b c f=(c.map Kq++f)++Kq a[b]::(ZF (b+1) a).map Kq:=(by unfold Fj;rw[b5,map_cons,append_assoc]);have x:=Zeq g O;have a5:=o;rw[a9] at a5;have⟨c0,c1,c2,c3,d2⟩:=a5.at (by rw[<- a9,x]) (show F (c.map Kq++f)=b by simp;omega);simp only[Kq] at c0 c1 c2 c3;have d9:=a1 _ (Qf P);have c9:=F_ b (F a);have W:=Y o;clear o a5 N
  rcases eq_nil_or_concat c with M|⟨d,q,M⟩
  ·subst M;have⟨G,s,t,m,A,D⟩:=fq g P;have l:Sn a _ _ _:=⟨nz g a8 (λw r d u=>by simp at u),D⟩;have⟨u,a2,a0⟩:=y3_ l A (m ▸ W)
   have S:K (_=F (_++G::s)):=show _=_ by rw[<- m,x]
   clear l m A D;generalize a[b]=i at *;go_wp2_with fail
   go_big_quiet (fail);go_wp2_with (at_builtin;refine Ns X _ _ X b7 b0 b6 _ e j _ 0 [] s G (Kq i) X S X (a0.q (by repeat(first|with_reducible exact y_|with_reducible refine below_drewN ?_ _|with_reducible apply Below.drew|with_reducible refine Below.alloc ?_ u_ _))) _ 1 X (od s_) ?_)
   intro a7 z w;have a3:K (Ai a7 n (L_ e (F a) j) (Fj a (b+1) ([]++[i]) t)):=a2 ▸ z;have R:=Y (Hi L (Hi (Lc (by repeat(first|with_reducible exact y_|with_reducible refine below_drewN ?_ _|with_reducible apply Below.drew|with_reducible refine Below.alloc ?_ u_ _))) w));clear z w;refine J_ ?_;exact⟨b+1,[]++[i],t,O,g_,s_,u,a3,R⟩
  rw[concat_eq_append] at M;subst M;obtain⟨h,k⟩:=q;have v:Fj a b (d++[(h,k)]) f=d.map Kq++Kq (h,k)::(f++(ZF b a).map Kq):=(by unfold Fj;simp);have y:=W.out;rw[v] at y;have⟨c4,c5,c6,c7,_⟩:=y.at (by rw[<- v,x]) (show F (d.map Kq)=F d by simp);simp only[Kq] at c4 c5 c6 c7;have b3:k=Qj _ h:=g.sum.g (h,k) s_;have b2:∀Q∈ZU b a,_:=λQ a6=>(a1 Q (aL a6)).1;have e0:0<=k/\k<=1000*2097152:=by have l:=Zv b2 h;have m:=ZlQ b2 h;have p:=Uz (ps:=ZU b a) (λQ a6=>(a1 Q (aL a6)).2);have s:F (ZU b a)<=2097152:=t_;omega
  have d0:0<=(F d:E):=O;have d3:F d<b:=(by have:=g.y;simp at this;omega);have d1:F d<(F d:E)+1:=O
  by_cases p:h=a[b].1
  ·have l:=Zer g p;have u:=Y l
   have m:K (Fj a (b+1) (d++[(h,k+a[b].2)]) (f++[Kq a[b]])=d.map Kq++⟨h,0,0,k+a[b].2⟩::(f++(ZF b a).map Kq)):=show _=_ by unfold Fj;rw[b5];simp only[map_append,map_cons,map_nil,append_assoc,cons_append,nil_append,Kq]
   have t:=Y y
   have s:K (_=F (d.map _++_)):=show _=_ by rw[<- v,x]
   have c8:=beq_iff_eq.2 p;clear l b3 y v p;generalize a[b]=i at *;go_wp2_with fail
   go_big_quiet (fail);go_wp2_with fail
   go_region
   all_goals go_wp2
   all_goals
    go_roundw
    case rel=>
     refine⟨b+1,d++[(h,k+i.2)],f++[Kq i],O,g_,s_,u,?_,?_⟩;rw[m];exact(t.q (by repeat(first|with_reducible exact y_|with_reducible refine below_drewN ?_ _|with_reducible apply Below.drew|with_reducible refine Below.alloc ?_ u_ _))).b s s_ (Mp s_ _);refine Aq (Hi L (Lc ?_)) _
     repeat(first|with_reducible exact y_|with_reducible refine below_drewN ?_ _|with_reducible apply Below.drew|with_reducible refine Below.alloc ?_ u_ _)
    exact z_
  have c8:=aO p;have⟨G,s,t,m,A,D⟩:=fq g P;have l:Sn a _ _ _:=⟨nz g a8 (λw r z u=>by have:=(append_inj_right' u X);simp at this;rw[<- this.1];exact p),D⟩;have⟨u,a2,a0⟩:=y3_ l A (m ▸ W)
  have S:K (_=F (_++G::s)):=show _=_ by rw[<- m,x]
  clear l m A D;clear b3 y v p;generalize a[b]=i at *;go_wp2_with fail
  go_big_quiet (fail);go_wp2_with (at_builtin;refine Ns X _ _ X b7 b0 b6 _ e j _ _ _ s G (Kq i) s_ S X (a0.q (by repeat(first|with_reducible exact y_|with_reducible refine below_drewN ?_ _|with_reducible apply Below.drew|with_reducible refine Below.alloc ?_ u_ _))) _ 1 X (od s_) ?_)
  intro a7 z w;have a3:K (Ai a7 n (L_ e (F a) j) (Fj a (b+1) ((d++[(h,k)])++[i]) t)):=(by rw[a2];simp only[map_append,map_cons,map_nil,append_assoc,cons_append,nil_append];exact z);have R:=Y (Hi L (Hi (Lc (by repeat(first|with_reducible exact y_|with_reducible refine below_drewN ?_ _|with_reducible apply Below.drew|with_reducible refine Below.alloc ?_ u_ _))) w));clear z w;refine J_ ?_;exact⟨b+1,(d++[(h,k)])++[i],t,O,g_,s_,u,a3,R⟩
 have k:F a=b:=O;have d:K (Ej a c/\Ai wr n (L_ e (F c) j) (c.map Kq)):=by refine⟨by have:=g.sum;rwa [aI O] at this,?_⟩;have h:Fj a b c f=c.map Kq++f:=(by unfold Fj;rw[drop_eq_nil_of_le O];simp);rw[h] at o;exact o.g (by have:=g.y;simp;omega) s_
 have h:K (F c<=F a):=show _<=_ by have:=g.y;omega
 clear o N k g;go_wp2;go_ret;exact⟨c,X,d.1,h,d.2,L⟩
def Ze2{p s t e c k g o h z D A G L wc y x M}{q n i a}(m:c<=Y2)(l:Ed a e c q n i):C_ 41 #[Y7 (T p),Y9 #[I 1,I s,I t,V e c k,I g,I o,I h,V z D A,V G L wc,Q_ y,I x,I M]] a (U_ (ZR Z0) a):=by
 refine dl_ ?_;go_enter func41,ntmps41;go_wp2_with fail
 apply (ZgY m (l.q r_)).m;rintro j d ⟨rfl,b⟩;have u:=l.q (r_.T (b.m s_));have N:ZV d (J (B a.1) 3)=T (V e c k):=(by rw[b.cell (p:=(J (B a.1) 3)) s_];simp);have P:ZV d (J (B a.1) 4)=T (I g):=(by rw[b.cell (p:=(J (B a.1) 4)) s_];simp);have Q:ZV d (J (B a.1) 5)=T (I o):=(by rw[b.cell (p:=(J (B a.1) 5)) s_];simp);have R:ZV d (J (B a.1) 6)=T (I h):=(by rw[b.cell (p:=(J (B a.1) 6)) s_];simp);have w:=r_.T (b.m s_);have f:=Y w;have r:=Y u;go_wp2_with fail
 go_region_with (first
  |(go_at_call 68;apply (Ee).m;rintro j v ⟨rfl,rfl⟩)
  |(go_at_call 69;refine(Rh _ _ q n i m ?_).m ?_;exact r.q y_.drew;rintro j S ⟨rfl,v⟩));(all_goals go_wp2);(all_goals go_ret);(all_goals exact⟨Tr s_,f.T ((y_.drew.T v).m f.size)⟩);end Go.Proofs.YtfcgnpchbcmdeaaGreat
namespace Go.Proofs.YtfcgnpchbcmdeaaGreat
set_option linter.all false
set_option maxRecDepth 100000
set_option maxHeartbeats 4000000
open Go.RowKit List Nat Go.World Go.Proofs.Tryz Go.Value Go.IntKind Go.Lib Go.Region
structure OpD where
 a:E
 l:E
 t:E
 g:Y0 Addr
 A:H
 e:H
 k:E
 size:E
 b:E
 i:Y0 Addr
 vl:H
 h:H
 c:Y0 Addr
 d:H
 j:H
 n:ZC
 x:E
 y:E
 p:H->ZG
 fs:H->E
 u:H->E
 f:U E
 o:U E
def Ck(f:ZT)(g:Y0 Addr)(c:H)(d:U E):Prop:=
 F d=c/\(∀h∈d,(Lit.int ZQ h).wf=Z0)/\(c=0∨∃a e,g=T ⟨a,e,ZP⟩/\a<B f.1/\∀b,b<c->ZV f (J a (e+b))=T (I (Z d b 0)))
structure OpR(b)(a:OpD):Prop where
 A:a.A<=Y2
 vl:a.vl<=Y2
 d:a.d<=Y2
 c:Ed b a.g a.A a.p a.fs a.u
 f:Ck b a.i a.vl a.f
 o:Ck b a.c a.d a.o
 e:a.i=ZP->a.vl=0/\a.h=0
 g:a.c=ZP->a.d=0/\a.j=0
structure OpC(d:ZT)(b c)(a:OpD):Prop where
 t:ZV d (J b c)=T (I a.a)
 D:ZV d (J b (c+1))=T (I a.l)
 G:ZV d (J b (c+2))=T (I a.t)
 e:ZV d (J b (c+3))=T (V a.g a.A a.e)
 h:ZV d (J b (c+4))=T (I a.k)
 i:ZV d (J b (c+5))=T (I a.size)
 j:ZV d (J b (c+6))=T (I a.b)
 k:ZV d (J b (c+7))=T (V a.i a.vl a.h)
 l:ZV d (J b (c+8))=T (V a.c a.d a.j)
 n:ZV d (J b (c+9))=T (Q_ a.n)
 f:ZV d (J b (c+10))=T (I a.x)
 g:ZV d (J b (c+11))=T (I a.y)
def Ub(d:ZT)(g:Y0 Addr)(c:H)(e:H->OpD):Prop:=
 c<=Y2/\(c=0∨∃b f,g=T ⟨b,f,ZP⟩/\b<B d.1/\∀a,a<c->OpC d b (f+a*12) (e a)/\OpR d (e a))
def OpC.q{f w' c b e d}(t:OpC f b e d)(u:Below c f w')(v:b<c):OpC w' b e d:=by obtain⟨g,h,k,l,m,n,o,q,r,s,i,j⟩:=t;have a:=λw=>u.cell (p:=(J b w)) v;exact⟨(a _).T g,(a _).T h,(a _).T k,(a _).T l,(a _).T m,(a _).T n,(a _).T o,(a _).T q,(a _).T r,(a _).T s,(a _).T i,(a _).T j⟩
def Zg(a:E)(b:H):H:=ZL ((if a<0 then -(a+1) else a)%b)
def Pv a {b}(c:0<b):Zg a b<b:=by unfold Zg;have:=Int.emod_lt_of_pos (if a<0 then -(a+1) else a) (show(0:E)<b by omega);omega
def dh(a:U E)(b:H):E:=if F a=0 then 0 else Z a (b%F a) 0
def Zbg(x:Cd) a c b e (g:0<=x.t/\0<=x.h/\x.t<=1000000000000/\x.h<=1000000000000)(f:0<=a/\a<=2097152)(i:0<=c/\c<=1000000000000)(h:2<=b/\b<=2097152):C_ 177 #[Y9 #[I x.v,I x.t,I x.h,I x.g],I a,I c,I b] e λd j=>d=ZI (ZX ZQ (if(x.t+x.h)*(b-1)-2*a*c<0 then -((x.t+x.h)*(b-1)-2*a*c) else(x.t+x.h)*(b-1)-2*a*c))/\j=ZN e (O_ #[I x.v,I x.t,I x.h,I x.g] 98):=by
 obtain⟨j,k,l,m⟩:=g;obtain⟨n,o⟩:=f;obtain⟨v,w⟩:=i;obtain⟨t,u⟩:=h;have p:0<=(x.t+x.h)*(b-1):=Int.mul_nonneg O O;have q:(x.t+x.h)*(b-1)<=2000000000000*2097152:=Int.mul_le_mul O O O O;have r:0<=2*a*c:=Int.mul_nonneg O O;have s:2*a*c<=4194304*_:=Int.mul_le_mul O O O O
 by_cases d:(x.t+x.h)*(b-1)-2*a*c<0
 all_goals
  first|rw[aD d]|rw[aC d]
  refine dl_ ?_;go_enter func177,ntmps177;go_wp2;go_ret;exact⟨X,X⟩
def Zp7:(prog.info? 4).map (λa=>(a.zero,a.size,a.bytes))=T (T (ZR ZZ),1,1):=k_
def Ai.f{d f c e a j g}(h:Ai d f c e)(i:d.rowIs a 4 j g):ZW c≠T a:=by
 intro b;obtain⟨k,o,_⟩:=i
 rcases h.2 with⟨rfl,_⟩|⟨n,l,m,rfl,_,p,_⟩
 simp[ZW] at b;simp[ZW] at b
 grind
def Xb{W} a {b2} u {h}(b4:Cj h W a)(b3:Bc a)(b7:W=ZP->b2=0)(e6:F a<=2097152):C_ 121 #[V W (F a) b2,I u] h λf g=>∃c,f=ZI c/\Ai g (B h.1) c (Ep a u)/\E_ h g:=by
 have⟨o,p⟩:=Y_ b4 b3;obtain⟨b,c8⟩:∃b:H,max u 2=b:=⟨ZL (max u 2),O⟩;have c9:2<=b:=O
 have w:K (Ep a u=if F a<=b then a else Fd a b (b-2)++[Z a (F a-1) e0]):=show _=_ by grind [Ep]
 refine dl_ ?_;go_enter func121,ntmps121;go_upto_if 12 with fail
 go_cut [1] (λc d=>c=ZX ZQ b/\d=h)
 case first=>
  by_cases c:u<2<;>(go_wp2;go_meet;grind)
 obtain⟨rfl,d1⟩:=hcut;obtain rfl:=d1.s;clear c8 b4 b3
 by_cases b6:F a<=b
 ·rw[aD b6] at w;go_wp2_with (at_builtin;apply ZpT o b7)
  intro d e c;refine wr_ ?_;exact⟨_,X,by rw[w];exact c.1,c.2⟩
 rw[aC b6] at w;have b5:3<=F a:=O;obtain⟨d6,f0,rfl,a0,a1,a2,a3,e3⟩:=o.at (i:=0) O;simp only[Nat.zero_mul,Nat.add_zero] at a0 a1 a2 a3;have c6:=run_make_row' (P:=Y8) 101 4 _ 1 underlying101 Zp7 X ZQ ZQ (F a) O O;have c0:K (Fd a b 0=[_]):=rfl;generalize (Z a) 0 e0=n at *;have d7:0<F a:=O;go_wp2_with (at_builtin;refine ap_ [I n.v,I n.t,I n.h,I n.g] (ownsRow_nil _ (B h.1) 98 4) ?_)
 intro d4 m G;have q:=r_.grown G.2.1 s_ (λg t=>by simp[ZW] at t);have a9:K (Ai m (B h.1) d4 [n]):=Ai.P (L:=[]) G.1;clear G a0 a1 a2 a3 b7;go_wp2_with fail
 apply (Zas a (o.q (q.alloc q.size _))).m;rintro f f3 ⟨rfl,rfl⟩;have f1:=(Dk p).1;have f2:=(Dk p).2;have c3:=q.size;have b0:K ((ZN m _).rowIs _ 4 _ (λi=>ZR (Kp a b 0 i))):=rowIs_made _ (ZR _) (F a) 4;generalize Q:Ae a=b8 at *;replace Q:=Y Q;clear c6;go_wp2_with fail
 go_loopw [5,8] (λg d e=>∃c:H,c<=b-2/\d=ZX ZQ ((c:E)+1)/\K (Ai e (B h.1) g (Fd a b c)/\e.rowIs (B m.1) 4 (F a) (λi=>ZR (Kp a b c i)))/\E_ h e) (λ_ d _=>b-ZL (intOf d))
 case atStart=>exact⟨0,v_,X,⟨c0 ▸ (a9.alloc _),b0⟩,q.alloc q.size _⟩
 clear a9 b0 q;obtain⟨c,e8,rfl,x,D⟩:=hrel
 rename ZT=>wo
 have d0:=D.size;have e5:=nc (L:=a) b c
 by_cases c7:c<b-2
 case neg=>
  have d:¬c+1<=(b:E)-2:=O;obtain⟨g,t⟩:∃g,F a=g+1:=⟨F a-1,O⟩;rw[show b-2=c by omega,show F a-1=g by omega] at w;obtain⟨_,_,⟨⟩,a4,a5,a6,a7,_⟩:=(o.q D).at (i:=g) O;generalize (Z a) g e0=j,Fd a b c=d3 at *;clear c7;go_wp2_with (at_builtin;refine ap_ [I j.v,I j.t,I j.h,I j.g] (x.1.alloc _) ?_)
  intro d5 b9 k;have a8:=(D.alloc d0 _).grown k.2.1 t_ (λg t=>(x.1.lt g t).1);have N:=Y (Ai.P k.1);clear k a4 a5 a6 a7;refine wr_ ?_;exact⟨_,X,w ▸ N,a8⟩
 have e7:c+1<=(b:E)-2:=O;have v:=Y (Gi a b (c+1) b5);go_wp2_with fail
 go_loopw [9,10] (λg e j=>∃i d:H,2<=i/\i+1<=F a/\e=ZX ZQ i/\g=ZX ZQ d/\K (d=min (i-1) (Cy a b (c+1)))/\1<=d/\d+2<=F a/\E_ wo j) (λ_ e _=>F a-ZL (intOf e))
 case atStart=>exact⟨2,1,x_,O,X,X,by have:=v.f;show _=_;omega,O,O,y_⟩
 obtain⟨i,d,c4,e4,rfl,rfl,M,e1,e2,s⟩:=hrel;have y:=bt_ D s;have e9:=y.size;have d8:=F_ d (F a);obtain⟨_,_,⟨⟩,a4,a5,a6,a7,_⟩:=(o.q y).at (i:=d) O
 by_cases c5:i+1<F a
 ·have L:=p.at (show i<F a by omega);have N:=p.at (show d<F a by omega);obtain⟨_,_,⟨⟩,a0,a1,a2,a3,b9⟩:=(o.q y).at (i:=i) O
  have j:K (∀e,0<=(Z a e e0).t/\0<=(Z a e e0).h/\(Z a e e0).t<=1000000000000/\(Z a e e0).h<=1000000000000->∀k:ZT,C_ 177 #[Y9 #[I (Z a e e0).v,I (Z a e e0).t,I (Z a e e0).h,I (Z a e e0).g],I (c+1),I b8,I b] k λf g=>f=ZI (ZX ZQ (Vq a b (c+1) e))/\_):=λe P k=>by have:=Zbg (Z a e e0) (c+1) b8 b k P O O O;unfold Vq;rw[Q];exact this
  have⟨r,t⟩:=Y_ (j i O) (j d O)
  have l:K ((if _<Vq a b _ d then i else d)=min i _):=show _=_ by rw[M];exact Zdq p c9 c4 c5
  have c2:=v.k;have d2:=v.f;clear L N j v M;generalize Vq a b (c+1) i=z,Vq a b (c+1) d=A,Z a i e0=R,Z a d e0=S,Cy a b (c+1)=b1 at *;have a8:=F_ i (F a);have c1:i<(F a:E)-1:=O;go_wp2_with fail
  go_region_with (first|(go_at_call_of 177 (R.v);apply (r _).m;rintro f g ⟨rfl,rfl⟩)|(go_at_call_of 177 (S.v);apply (t _).m;rintro f g ⟨rfl,rfl⟩))
  all_goals by_cases g:z<A
  all_goals go_wp2
  all_goals
   go_roundw;case rel=>exact⟨i+1,_,O,O,g_,X,by first|exact(aD g).s.T l|exact(aC g).s.T l,O,O,((s.alloc s.size _).alloc (by have:=s.size;simp;omega) _).drew⟩
   case measure=>exact z_
 have L:K (d=Cy a b (c+1)):=(by have:=M.out;have:=v.k;show _=_;omega);have l:=K_ (x.1.q s) (x.2.of_block (s.block _ x.2.lt));have A:=l.2.cell (show d<F a by omega);have d9:=l.2.frozen d;have R:K (Kp a b c d=ZE (d=Jy a b c)):=(by show _=_;rw[L];exact ZiE p b c b5);rw[R] at A;have c1:¬i<(F a:E)-1:=O
 have b1:K (∀e,Kp a b _ e=_):=λe=>by rw[Zfa,<- L]
 have z:K (Fd a b (c+1)=if d=Jy a b c then Fd a b c else Fd a b c++[Z a d e0]):=by show _=_;rw[L];rfl
 by_cases r:d=Jy a b c
 ·rw[aD r] at z;rw[aF r] at A R
  have g:K (∀e,Kp a b (c+1) e=Kp a b c e):=λe=>by
   rw[b1]
   by_cases f:d=e
   rw[<- f,R,Bool.true_or];simp[f]
  clear r;refine J_ ?_;exact⟨c+1,O,g_,⟨z ▸ l.1,l.2.congr (λe _=>by rw[g])⟩,y⟩
 rw[aC r] at z;rw[aE r] at A;clear r;generalize (Z a) d e0=j,Fd a b c=d3 at *;have P:K (Ai (ZO wr _ (ZR Z0)) _ _ _):=l.1.kept (Aq (Ay) d) (l.1.f l.2)
 have S:K ((ZO wr (J (B m.1) d) (ZR Z0)).rowIs (B m.1) 4 (F a) (λe=>ZR (Kp a b (c+1) e))):=(l.2.set _ _).congr (λe _=>by
  rw[b1]
  by_cases f:e=d
  rw[aD f,f];simp
  rw[aC f,aO (λn=>f n.s),Bool.or_false])
 have c2:Below _ h (ZO wr (J (B m.1) d) (ZR Z0)):=y.setCell c3 _;go_wp2_with (at_builtin;refine ap_ [I j.v,I j.t,I j.h,I j.g] (P.alloc _) ?_)
 intro d5 b9 k;have a8:=(c2.alloc t_ _).grown k.2.1 t_ (λg t=>(P.lt g t).1);have N:=Y (Ai.P k.1);have g:K (b9.rowIs (B m.1) 4 (F a) (λe=>ZR (Kp a b (c+1) e))):=(by have d2:=P.f S;have t:=S.lt;refine(S.alloc _).of_block (k.2.1.block _ ?_ (λf=>d2 f.s));simp at t ⊢;omega);clear k a4 a5 a6 a7 A;refine J_ ?_;exact⟨c+1,O,g_,⟨z ▸ N,g⟩,a8⟩
def Fv(b:U Cd)(c:E)(a:H):U Cd:=Y6 a (Lz c)++ZF a b
def fd{a c b}(d:b<=F a):F (Fv a c b)=F a:=by simp[Fv];omega
def ZdY{b c a}(d:a<F b):Fv b c a=Y6 a (Lz c)++Z b a e0::ZF (a+1) b:=by unfold Fv;grind [drop_eq_getElem_cons]
def yv c b a:Fv c b (a+1)=Y6 a (Lz b)++⟨b,0,0,0⟩::ZF (a+1) c:=by unfold Fv;rw[replicate_succ'];simp[Lz]
def Zhk{a b}{x:Cd}{d}(e:F a=d) c:(flat (a++x::b)).set (d*4) (I c)=flat (a++⟨c,x.t,x.h,x.g⟩::b):=by have:=Yi (B:=b) (x:=x) e (show 0<4 by omega) (I c);rw[Nat.add_zero] at this;rw[this,Cb];rfl
def zh{g h} b c {j k a}(p:Cj a g b)(q:Cj a h c)(l:Bc b)(m:Bc c):C_ 20 #[V g (F b) j,V h (F c) k] a λi e=>∃d,i=ZI d/\Ai e (B a.1) d (Bf b c)/\E_ a e:=by
 refine q_ ?_;go_wp2_with fail
 apply (mz _ _ p q l m).m;rintro i e ⟨d,rfl,n,o⟩;have f:=K_ n o;go_wp2;go_ret;exact⟨_,X,f.1,f.2⟩
def Zbs{c} a {g} i {b}(k:Cj b c a)(j:Bc a)(n:c=ZP->g=0):C_ 21 #[V c (F a) g,I i] b λh e=>∃d,h=ZI d/\Ai e (B b.1) d (Ep a i)/\E_ b e:=by
 refine q_ ?_;go_wp2_with fail
 apply (ym _ k j n).m;rintro h e ⟨d,rfl,l,m⟩;have f:=K_ l m;go_wp2;go_ret;exact⟨_,X,f.1,f.2⟩
def ir{j k} b {l m} f (c:Cj f j b)(d:Cj f k b):C_ 173 #[V j (F b) l,V k (F b) m] f (U_ (ZR Z0) f):=by
 have A:=c.1;have⟨h,i⟩:=Y_ c d;clear c d;refine q_ ?_;go_wp2_with fail
 go_loopw [5] (λe g=>∃a:H,a<=F b/\e=I a/\E_ f g) (m1_ (F b))
 exact⟨0,v_,X,y_⟩;obtain⟨a,z,rfl,g⟩:=hrel
 by_cases e:a<F b
 ·rcases h.out.q g with⟨_,n|⟨s,D,rfl,c⟩⟩;omega;rcases i.out.q g with⟨_,n|⟨t,G,rfl,d⟩⟩;omega;have o:=c.v a e;have p:=c.t a e;have q:=c.h a e;have r:=c.g a e;have v:=d.v a e;have w:=d.t a e;have x:=d.h a e;have y:=d.g a e;clear c d h i;generalize (Z b) a e0=L at *;have u:=F_ a _;go_wp2_with fail
  go_big_quiet (fail);refine J_ ?_;exact⟨a+1,O,g_,by grind [below_drewN]⟩
 have n:¬a<(F b:E):=O;go_wp2;go_ret;exact⟨X,g⟩
end Go.Proofs.YtfcgnpchbcmdeaaGreat
namespace Go.Proofs.YtfcgnpchbcmdeaaGreat
set_option linter.all false
set_option maxRecDepth 100000
set_option maxHeartbeats 4000000
open Go.ChangeShapes Go.WideShapes Go.ChangeAt Go.RowKit List Nat Go.World Go.Proofs.Tryz Go.Value Go.IntKind Go.Lib Go.Region
open Go.Deep
def ZfF:prog.cellsOf 93=12:=k_
def ZfD:prog.cellsOf 37=4:=k_
def ZfE:prog.cellsOf 51=3:=k_
def ZfB:prog.cellsOf 25=1:=k_
def ZfC:prog.cellsOf 35=1:=k_
def au:prog.cellsOf 3=1:=k_
def Zos:prog.cellsOf 4=1:=k_
def ZjD:prog.cellsOf 9=1:=k_
def ji{b:ZT}{a d}(c:ZV b a=T d):a.block<B b.1:=by
 unfold ZV at c
 grind
def Zp8{f:Type}{a:U f}(e:F a=3):∃b c d,a=[b,c,d]:=by
 match a,e with
 |[b,c,d],_=>grind
def Zn0{g:Type}{a:U g}(f:F a=4):∃b c d e,a=[b,c,d,e]:=by
 match a,f with
 |[b,c,d,e],_=>grind
def Zn1{l:Type}{a:U l}(k:F a=9):∃b c d e f g h i j,a=[b,c,d,e,f,g,h,i,j]:=by
 match a,k with
 |[b,c,d,e,f,g,h,i,j],_=>grind
def ZoS{o:Type}{a:U o}(n:F a=12):∃b c d e f g h i j k l m,a=[b,c,d,e,f,g,h,i,j,k,l,m]:=by
 match a,n with
 |[b,c,d,e,f,g,h,i,j,k,l,m],_=>grind
section
variable {H:Type} {enc:TypeId×ZY->H} {w:ZT} {a:ZG}
def ZbV{o f x}(h:DataW.trod enc Y8 w 0 (λ_=>Z0) a o 25 f=T x):∃c b d e,f=[V c b d]/\b<=Y2/\Ck w c b e/\(c=ZP->b=0/\d=0):=by
 rcases open_ints underlying25 underlying3 au h with⟨rfl,_⟩|⟨c,b,d,e,rfl,_,s,t,m,_,k,l⟩
 exact⟨ZP,0,0,[],X,O,⟨X,s_,ZM X⟩,λ_=>⟨X,X⟩⟩;simp only[if_true] at m;refine⟨T c,b,d,ZU b e,X,O,⟨t_,λq n=>l q (aL n),?_⟩,s_⟩
 by_cases i:b=0
 exact ZM i;right;obtain⟨g,p,rfl,j⟩:=ints_at k O;refine⟨g,p,X,ji (j 0 O),λu r=>?_⟩
 grind
def Zk1{k e x}(j:DataW.trod enc Y8 w 0 (λ_=>Z0) a k 51 e=T x):∃b c d,e=[ZR b,I c,I d]:=by
 obtain⟨s,t,u,o,_,i,f,g,h⟩:=trod_struct3 underlying51 j;rw[ZfE] at i;obtain⟨p,q,r,rfl⟩:=Zp8 i;simp only[au,Zos,drop_zero,drop_succ_cons,take_succ_cons,take_zero] at f g h;obtain⟨b,l,_⟩:=DataW.trod_bool underlying4 f;obtain⟨c,m,_⟩:=DataW.trod_int underlying3 g;obtain⟨d,n,_⟩:=DataW.trod_int underlying3 h
 grind
def ZhR{s j x}(o:DataW.trod enc Y8 w 0 (λ_=>Z0) a s 35 j=T x):∃c e i f b d,j=[V c e i]/\e<=Y2/\Ed w c e f b d:=by
 rcases open_slice underlying35 o with⟨rfl,_⟩|⟨c,e,i,m,D,v,y,rfl,_,z,A,k,_,l⟩
 exact⟨ZP,0,0,λ_=>ZZ,λ_=>0,λ_=>0,X,O,ZM X⟩;simp only[if_true] at k;subst k;rw[ZfE] at l
 have r:∀b,b<m->∃h:ZG×E×E,ZV w (c.add (b*3))=T (ZR h.1)/\ZV w (c.add (b*3+1))=T (I h.2.1)/\ZV w (c.add (b*3+2))=T (I h.2.2):=by
  intro b f;obtain⟨u,g,n⟩:=l b f;obtain⟨p,q,t,rfl⟩:=Zk1 n;obtain⟨_,_,d⟩:=cells?_some g;refine⟨(p,q,t),?_,?_,?_⟩
  ·have:=d 0 O;rw[add_add] at this;simpa using this
  ·have:=d 1 O;rw[add_add] at this;simpa using this
  have:=d 2 O;rw[add_add] at this;simpa using this
 obtain⟨g,d⟩:=choose_lt r;refine⟨T c,e,m,λb=>(g b).1,λb=>(g b).2.1,λb=>(g b).2.2,X,O,?_⟩
 by_cases p:e=0
 exact ZM p;right;obtain⟨n,t,u⟩:=c
 have q:u=ZP:=by simpa [Addr.add] using cell?_spot (d 0 O).1
 subst q;simp only[add_plain] at d;exact⟨n,t,X,O,λ_=>ji (d 0 O).1,λb f=>(d b O).1,λb f=>(d b O).2.1,λb f=>(d b O).2.2⟩
def Zo6{b6 d x}(a4:DataW.trod enc Y8 w 0 (λ_=>Z0) a b6 93 d=T x):∃b:OpD,d=[I b.a,I b.l,I b.t,V b.g b.A b.e,I b.k,I b.size,I b.b,V b.i b.vl b.h,V b.c b.d b.j,Q_ b.n,I b.x,I b.y]/\OpR w b:=by
 obtain⟨f2,c9,_,_,D,a7,b⟩:=DataW.trod_struct underlying93 a4;rw[ZfF] at D;obtain⟨d1,d2,d5,d6,d7,d8,d9,e0,e1,e2,d3,d4,rfl⟩:=ZoS D;obtain⟨e3,e4,e5,e6,e7,e8,e9,f0,f1,rfl⟩:=Zn1 a7;have q:=b 0 ⟨ "Kind",3,0,ZZ, "", "",0⟩ X;have r:=b 1 ⟨ "At",3,1,ZZ, "", "",8⟩ X;have s:=b 2 ⟨ "B",3,2,ZZ, "", "",16⟩ X;have t:=b 3 ⟨ "C",37,3,ZZ, "", "",24⟩ X;have u:=b 4 ⟨ "V",25,7,ZZ, "", "",72⟩ X;have v:=b 5 ⟨ "W",25,8,ZZ, "", "",96⟩ X;have y:=b 6 ⟨ "S",9,9,ZZ, "", "",120⟩ X;have z:=b 7 ⟨ "X",3,10,ZZ, "", "",136⟩ X;have A:=b 8 ⟨ "Y",3,11,ZZ, "", "",144⟩ X;simp only[au,ZfD,ZfB,ZjD,drop_zero,drop_succ_cons,take_succ_cons,take_zero,getElem?_cons_zero,getElem?_cons_succ] at q r s t u v y z A
 obtain⟨b5,e,_⟩:=DataW.trod_int underlying3 q;obtain⟨b7,f,_⟩:=DataW.trod_int underlying3 r;obtain⟨P,i,_⟩:=DataW.trod_int underlying3 s;obtain⟨c2,c4,c3,c5,n,b0,a9,b1⟩:=ZbV u;obtain⟨c6,c7,wc,c8,o,b3,b2,b4⟩:=ZbV v;obtain⟨c1,p,_⟩:=DataW.trod_string underlying9 y;obtain⟨b8,g,_⟩:=DataW.trod_int underlying3 z;obtain⟨b9,h,_⟩:=DataW.trod_int underlying3 A;obtain⟨f7,d0,_,_,_,a8,c⟩:=DataW.trod_struct underlying37 t;obtain⟨f3,f4,f5,f6,rfl⟩:=Zn0 a8;have G:=c 0 ⟨ "Features",35,0,ZZ, "", "",0⟩ X;have L:=c 1 ⟨ "Bins",3,1,ZZ, "", "",24⟩ X;have M:=c 2 ⟨ "Size",3,2,ZZ, "", "",32⟩ X;have N:=c 3 ⟨ "Budget",3,3,ZZ, "", "",40⟩ X
 simp only[au,ZfC,drop_zero,drop_succ_cons,take_succ_cons,take_zero,getElem?_cons_zero,getElem?_cons_succ] at G L M N;obtain⟨S,a0,W,a3,a1,a2,j,a6,a5⟩:=ZhR G;obtain⟨Q,k,_⟩:=DataW.trod_int underlying3 L;obtain⟨c0,l,_⟩:=DataW.trod_int underlying3 M;obtain⟨R,m,_⟩:=DataW.trod_int underlying3 N;simp only[List.cons.injEq,and_true] at e f i j k l m n o p g h;subst e f i j k l m n o p g h;exact⟨⟨b5,b7,P,S,a0,W,Q,c0,R,c2,c4,c3,c6,c7,wc,c1,b8,b9,a3,a1,a2,c5,c8⟩,X,⟨a6,b0,b3,a5,a9,b2,b1,b4⟩⟩
end
end Go.Proofs.YtfcgnpchbcmdeaaGreat
