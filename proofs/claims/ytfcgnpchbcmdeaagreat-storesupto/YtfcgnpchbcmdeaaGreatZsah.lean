import Derived.Test.YtfcgnpchbcmdeaaGreatZsag
open Array renaming size->B,toList->Y4,setIfInBounds->YS
open Go.Ending renaming returned->ZI
open List renaming length->F,take->ZU,drop->ZF,getD->Z
open Option renaming some->T,none->ZP
open _root_ renaming rfl->X,Nat->H,Int->E,List->U,Bool->ZG,Option->Y0,Array->YZ,ByteArray->ZC
open Or renaming inl->ZM,inr->ZJ
open Go renaming World->ZT,Value->ZY,strOfNums->ZB
open Go.Value renaming slice->ZH,ownBlock->ZW,int->ZX,bool->ZR,agg->Y9,pointer->Y7,tuple->Y5,func->YX,string->YW
open Go.World renaming setCell->ZO,alloc->ZN,grownBy->Y3,drew->YY,cell?->ZV,drewN->Y1,frozen?->YT
open Bool renaming true->Z0,false->ZZ
open Int renaming toNat->ZL
open Go.IntKind renaming i64->ZQ
open Decidable renaming decide->ZE
open ByteArray renaming size->ZK
namespace Go.Proofs.YtfcgnpchbcmdeaaGreat
set_option linter.all false
set_option maxRecDepth 100000
set_option maxHeartbeats 8000000
open Go.RowKit List Nat Go.World Go.Proofs.Tryz Go.Value Go.IntKind Go.Lib Go.Region
def Zjb:Prop:=∀f i b l c wc g j a,Ck a f b g->Ck a i c j->b<=2097152->c<=2097152->
  C_ 45 #[V f b l,V i c wc] a λk h=>∃e d,k=ZI e/\Ej (Ao g j) d/\Ai h (B a.1) e (Bo 0 d)/\E_ a h
def kc{vs ws}(f:F vs<=2097152):Bc (Ko vs ws)/\F (Ko vs ws)<=F vs/\Ae (Ko vs ws)<=1000*F vs:=by
 have c:=Tw (Ao vs ws);have d:Bc (Ko _ _):=c.j f;have j:=Lh vs ws;refine⟨d,?_,?_⟩
 ·have:=d.y (U:=(Ao vs ws).map λa=>a.1) (λe h=>by
   obtain⟨a,b,g,_⟩:=(Uv (gf (Ao vs ws)) 0).1 e h;obtain⟨l,k,i⟩:=c.e a b
   grind)
  grind
 have g:=(jf.a c).e;have e:=Uz (ps:=Ao vs ws) (λa b=>(Jm b).1.2)
 grind [Ko]
def Ck.i{d a c b fr m e}(f:Ck d (T (J a c)) b e)(l:fr+m<=b):Ck d (T (J a (c+fr))) m (ZU m (ZF fr e)):=by
 obtain⟨j,g,k⟩:=f;refine⟨t_,λi h=>g i (mem_of_mem_drop (aL h)),?_⟩
 grind
def Uo{i j a b h d k}(l:Ck i (T (J a b)) h k)(f:Below d i j)(r:a<d):Ck j (T (J a b)) h k:=by
 obtain⟨m,n,c⟩:=l;refine⟨m,n,?_⟩
 rcases c with c|⟨t,u,e,s,o⟩
 exact ZM c;injection e with e;injection e with e1 e2;subst e1 e2;exact ZJ ⟨a,b,X,Qh s f.size,λg q=>(f.cell (p:=(J a (b+g))) r).T (o g q)⟩
def zi(b1:Zjb){c4 c6}{d t u a:H}{e f h}(s:Ck h c4 d e)(Q:Ck h c6 d f)(g4:d<=1000)(f7:d<=t)(f8:d<=u)(g6:2<=a)(g7:a<=32):C_ 274 #[V c4 d t,V c6 d u,I a] h λi k=>∃j,i=ZI j/\Ai k (B h.1) j (Dw a e f)/\E_ h k:=by
 have a3:=Y s;have a4:=Y Q;have a2:=Y b1;have v:=K_ s.1 Q.1;clear s Q b1;refine q_ ?_;go_wp2_with fail
 go_loopw [7,8] (λi g c=>∃(fr p:H) (b:U (U Cd)),g=I fr/\fr<=d+a/\K (Zdb c (B h.1) i b/\Gt b/\Aw b<=1000*(fr:E)/\F b<=fr/\d-fr<=p/\Dv a p b (ZF fr e) (ZF fr f)=Dv a d [] e f)/\E_ h c) (m2_ (d+a))
 exact⟨0,d,[],X,v_,⟨⟨[],rn_,λg8 d4=>by simp at d4⟩,Gt.nil,by simp[Aw],s_,O,X⟩,y_⟩;obtain⟨fr,p,b,rfl,f9,l,y⟩:=hrel;have c2:=y.size
 by_cases g3:fr<d
 ·rcases a3.out with⟨_,_,a9|⟨a7,c0,rfl,b2,_⟩⟩;omega;rcases a4.out with⟨_,_,a9|⟨a8,c1,rfl,b4,_⟩⟩;omega;obtain⟨g,a1⟩:=W_ (min (fr+a) d);have c3:fr<(d:E):=O;have S:fr<=(g:E):=O;have W:g<=(t:E):=O;have a0:g<=(u:E):=O;have c8:¬t=fr:=O;have c9:¬u=fr:=O;have n:=Y a1;clear a1;have c7:g-fr<=a:=p_ n.out;go_upto_region 5 with fail;go_cut [9] (λj c=>j=I g/\c=wr)
  case first=>
   by_cases j:(fr:E)+(a:E)<=(d:E)
   ·have c:g=fr+(a:E):=p_ n.out;have i:=Y c;clear c S W a0;go_wp2;go_meet
    exact⟨by rw[i.out],X⟩
   have c:g=(d:E):=p_ n.out;have i:=Y c;clear c S W a0;go_wp2;go_meet
   exact⟨by rw[i.out],X⟩
  obtain⟨rfl,a5⟩:=hcut;obtain rfl:=a5.s;clear a5
  have L:K (∀c:ZT,E_ h c->C_ 45 #[V (T (J a7 (c0+fr))) (g-fr) (t-fr),V (T (J a8 (c1+fr))) (g-fr) (u-fr)] c λi k=>∃j,i=ZI j/\Ai k (B c.1) j (Ko (ZU a (ZF fr e)) (ZU a (ZF fr f)))/\E_ c k):=by
   intro c q;have M:=(Uo a3 q b2);have N:=(Uo a4 q b4);have w:=M.i (fr:=fr) (m:=g-fr) (p_ n.out);have z:=N.i (fr:=fr) (m:=g-fr) (p_ n.out)
   have r:∀o:U E,F o=d->ZU (g-fr) (ZF fr o)=ZU a (ZF fr o):=λo R=>by
    by_cases j:fr+a<=d
    rw[show g-fr=a by have:=n.out;omega];rw[aI (by simp;have:=n.out;omega),aI t_]
   rw[r _ v.1] at w;rw[r _ v.2] at z;apply (a2 _ _ _ _ _ _ _ _ c w z O O).m;rintro i k ⟨j,P,rfl,A,G,D⟩;refine⟨j,X,?_,D⟩;unfold Ko;rw[ZcK A];exact G
  obtain⟨N,z,b8,b7,b6,j⟩:=l.out;have A:=kc (vs:=ZU a (ZF fr e)) (ws:=ZU a (ZF fr f)) w_;have b5:F (ZU a (ZF fr e))<=a:=t_;have D:=Va (size:=(a:E)) O O z A.1 O O;obtain⟨o,R⟩:∃o,p=o+1:=⟨p-1,O⟩;have P:Dv a o (Av a b (Ko (ZU a (ZF fr e)) (ZU a (ZF fr f)))) (ZF (fr+a) e) (ZF (fr+a) f)=Dv a d [] e f:=by rw[<- j,R];simp only[Dv];rw[aC w_,drop_drop,drop_drop]
  have a6:K (Gt (Av a b (Ko (ZU a (ZF fr e)) (ZU a (ZF fr f))))/\Aw (Av a b (Ko (ZU a (ZF fr e)) (ZU a (ZF fr f))))<=1000*(fr+a:H)/\F (Av a b (Ko (ZU a (ZF fr e)) (ZU a (ZF fr f))))<=fr+a/\d-(fr+a)<=o/\Dv a o (Av a b (Ko (ZU a (ZF fr e)) (ZU a (ZF fr f)))) (ZF (fr+a) e) (ZF (fr+a) f)=Dv a d [] e f):=by refine⟨D.1,?_,?_,O,P⟩;rw[D.2];omega;have:=qh (a:E) b (Ko (ZU a (ZF fr e)) (ZU a (ZF fr f)));omega
  have G:K (∀c w,E_ wr c->Ai c (B h.1) w (Ko (ZU a (ZF fr e)) (ZU a (ZF fr f)))->C_ 318 #[u7,w,I a] c λi k=>∃q,i=ZI q/\Zdb k (B h.1) q (Av a b (Ko (ZU a (ZF fr e)) (ZU a (ZF fr f))))/\Below (B h.1) c k):=(by intro c w q i;obtain⟨c5,r⟩:=N;exact Ze6 u7 w b c ⟨c5,r.q q⟩ i z A.1 O O O O O (p_ q.size));clear N z b8 b7 b6 j A b5 D P l;generalize Ko (ZU a (ZF fr e)) (ZU a (ZF fr f))=c at *;go_wp2_with fail
  go_region_held3 (λ_=>True) (trivial) (first|(go_at_call 45;apply (L.out _ y.drew).m;rintro i f0 ⟨k,rfl,b9,x⟩)|(go_at_call 318;apply (G _ _ (y_.drew.T x) (b9.m (by have:=x.size;simp at this ⊢;omega))).m;rintro i f1 ⟨k,rfl,b0,b3⟩))
  have k:=Y b0;have M:=(y.drew.T (x.m c2)).T b3;clear b0 b3 x b9 L G R;refine J_ ?_;exact⟨fr+a,o,_,g_,O,⟨k,a6⟩,M⟩
 have g5:¬fr<(d:E):=O
 have n:K (Zdb wr (B h.1) u7 b/\Gt b/\Aw b<=2000000/\F b<=2000/\Dw a e f=Fw a [] b):=by
  obtain⟨i,c,o,q,j,g⟩:=l;refine⟨i,c,O,O,?_⟩;unfold Dw;rw[v.1,<- g]
  cases p with
  |zero=>rfl
  | succ k=>
   simp only[Dv];rw[aD (by simp;have:=v.out;omega)]
 obtain⟨c5,r⟩:=n.1
 have e2:∃c8 c9,u7=ZH c8 (F b) c9:=by
  rcases r.M.2 with⟨rfl,i⟩|⟨d3,d1,c,rfl,_⟩
  ·grind
  grind
 obtain⟨g9,h1,rfl⟩:=e2;have c7:=Y r;have q:=x3_ n.2.1 n.2.2.1 n.2.2.2.2;have d6:=n.2.2.2.1;obtain⟨m,P⟩:=W_ (F b);have a1:=Y P;rw[<- P] at d6 ⊢;clear r P n a2;obtain⟨S,e3⟩:∃S,S=wr:=⟨wr,X⟩;subst e3;go_wp2_with fail
 go_loopw [40,10] (λj R i=>∃(c:H) (g:U Cd),j=I c/\c<=m/\K (Ai i (B h.1) R g/\Bc g/\F g<=32/\Ae g+Aw (ZF c b)<=2000000/\Fw a g (ZF c b)=Fw a [] b)/\E_ S i) (m4_ m)
 exact⟨0,[],X,v_,⟨Ai.nil _ _,Bc.nil,s_,by have:=q.2.1;simpa [Ae] using this,X⟩,y_⟩;obtain⟨c,g,rfl,g2,l,z⟩:=hrel;have e0:=z.size
 by_cases d5:c<m
 ·have o:c<F b:=(by rw[<- a1];exact d5);obtain⟨b2,G,h0,R,j⟩:=l.out;have L:=c7.q z;obtain⟨d3,d1,s,g0,g1,b5,_⟩:=L.h O;injection s with hv1 hv2 hv3;subst hv1 hv3;clear hv2;have b6:=b5 c o;have a6:=L.j c o;have D:=q.1.j _ (Um o);have e4:=q.1.y _ (Um o);have e7:=gj o;have e8:=Gb (Ls:=ZF (c+1) b) (λk i=>q.1.j k (mem_of_mem_drop i));obtain⟨f4,d2,c3,a9,d8,_⟩:=a6.e O;rw[c3] at b6;obtain⟨f2,d0,e1,a7,d7,_⟩:=b2.e O;subst e1;have b7:ZF c b=Z b c []::ZF (c+1) b:=by rw[aN o];grind
  rw[b7] at j;simp only[Fw] at j;have w:=Fy G D O;have a5:=w.e (Ge w a);have e5:=Jh (Bf g (Z b c [])) (size:=(a:E)) O;have e6:=Mq g (Z b c []);have e9:Ae (Ep (Bf g (Z b c [])) a)=Ae g+Ae (Z b c []):=(by rw[Gn,Fc]);have a0:=Y (mz d0 d2 a7 a9 G D);have A:K (Bc (Bf g (Z b c []))/\F (Bf g (Z b c []))<=64/\Bc (Ep (Bf g (Z b c [])) a)/\F (Ep (Bf g (Z b c [])) a)<=32/\Ae (Ep (Bf g (Z b c [])) a)+Aw (ZF (c+1) b)<=2000000/\_):=⟨w,O,a5,O,O,j⟩;have f5:=F_ c m;clear b2 G R j L b5 a6 D e4 e7 e8 c3 a9 d8 a7 d7 b7 w a5 e5 e6 e9 l;generalize (F (Z b c []))=h3 at *;go_wp2_with fail
  apply a0.m;rintro i f0 ⟨h5,rfl,c1,N⟩;have d9:=N.size;obtain⟨f3,f6,rfl,a8,b8,_⟩:=c1.e (p_ A.2.1);have W:=Y (ym a a8 A.1 b8);clear c1 a8 b8 a0;generalize (F (Bf g (Z b c [])))=h2 at *;go_wp2_with fail
  apply W.m;rintro i f1 ⟨h4,rfl,c0,b4⟩;have M:=z.T ((N.T (b4.m d9)).m e0);have k:K (Ai _ (B h.1) _ _):=c0.m O;clear c0 b4 N W b6;refine J_ ?_;exact⟨c+1,_,g_,O,⟨k,A.2.2⟩,M⟩
 have o:¬c<(m:E):=O;have k:K (Ai wr (B h.1) u10 (Dw a e f)/\E_ h wr):=by obtain⟨i,_,_,_,j⟩:=l;rw[drop_eq_nil_of_le (p_ a1.out)] at j;simp only[Fw] at j;rw[q.2.2,<- j];exact⟨i,y.T (z.m c2)⟩
 skip
 go_wp2;go_ret;exact⟨_,X,k.1,k.2⟩
def Az.nil{b a}:Az b a (N_) []:=ownsRow_nil b a 5 1
def ZeI{d f e}{c u:ZY}(g:Y3 (ZN d e) f (ZW c)) b {j}:Aa (λa=>a=b∨ZW c=T a) d (ZO f (J b j) u):=
 (((Aa.refl (λa=>a=b∨ZW c=T a) d).alloc e).grown g (λ_ a _=>ZJ a)).setCell (p:=(J b j)) (λ_=>ZM X) u
def Zlc{b h:ZT}{d}{f a:ZY}(g:ZW a=ZW f∨ZW a=T (B (ZN b d).1)/\Below (B (ZN b d).1) (ZN b d) h):ZW a=ZW f∨∃e,ZW a=T e/\B b.1<=e:=by
 rcases g with c|⟨c,_⟩
 exact ZM c;exact ZJ ⟨_,c,s_⟩
def Eu(c:H)(f:H->ZG)(e:H->E)(a:RS)(b:E):Y0 RS:=
 match As (f (F a.M)) (Ch (ZL (e (F a.M)))) a.p a.f b with
 |some d=>T {a with p:=d.1,f:=d.2}
 |none=>if b=El (F a.M) c/\Et a.p.n=Z0 then T (Hm c a (a.M++[Hw a.p a.f])) else ZP
def Aa.e{b c d}(a:Aa b (YY c) d):Aa b c d:=⟨a.os,a.tape,a.output,a.size,a.block⟩
section
variable {w:ZT} {K M:H->Prop} {rb fb cb n:H} {wd:H->ZG} {sc ct:H->E} {bins size:E} {s:RS} {a c d:ZY} {b:H->ZY}
def iw i (m:Rt w K M rb fb cb n wd sc ct bins size s a c d b)(r:Ja n s)(g3:n<=4)(h8:F s.k<200)(g6:∀h,h<n->wd h=ZZ->0<=sc h/\sc h<=3):C_ 163 #[P_ rb,ZX .u8 i] w λe w'=>e=ZI (ZR (Eu n wd sc s i).isSome)/\ZgO w K M rb fb cb n wd sc ct bins size ((Eu n wd sc s i).getD s) w':=by
 obtain⟨Q,R,rfl⟩:=m.or.a;have⟨e6,_,_,_,_,e7⟩:=m.w.e;have⟨g7,h9,i0,a6,d8⟩:=m.z r.M;have h0:0<=(F s.M:E):=O;have h1:F s.M<(n:E):=p_ r.M;have c4:=m.p (S:=λ_=>False) (Aa.refl _ w).drew (λ_ _=>id)
 have g4:∃(a8:H) (a7:YZ ZY),g7=YX (.func a8) #[] a7/\C_ a8 (#[Y7 (T (J rb 6)),ZX .u8 i]++a7) (YY w) (λe w'=>ZaH (YY w) K M rb fb cb n wd sc ct bins size s a (V Q (F s.M) R) b (As (wd (F s.M)) (Ch (ZL (sc (F s.M)))) s.p s.f i) e w')/\((a8=209/\a7=#[])∨∃y,a8=214/\a7=#[P_ y]):=by
  rcases d8 with⟨e,j,k,l,u,_⟩|⟨e,y,j,k,l,u,_,_,_,_,_,_,f,_⟩
  refine⟨209,#[],u,?_,ZM ⟨X,X⟩⟩;rw[e];exact Zii c4 i r.f;refine⟨214,_,u,?_,ZJ ⟨y,X,X⟩⟩;have:=g6 _ r.M e;have g:=qp (ZL (sc (F s.M))) O;rw[e];exact Zlk c4 i f O g.2 r.num
 obtain⟨a8,a7,rfl,a0,c6⟩:=g4;have⟨g9,b7⟩:=Y_ m r;have h4:=m.j;have d9:=λf e=>(m.A f e).2;have c5:K fb:=(by obtain⟨_,_,_,f8,_⟩:=m.fs;exact f8);have b0:=(m.A _ c5).1;have a5:=Y (d9 _ c5);have h7:=r.M;clear m c4 d8 r d9 c5
 cases a1:As (wd (F s.M)) (Ch (ZL (sc (F s.M)))) s.p s.f i with
 | some a3=>
  have o:Hid (Eu n wd sc s i=T {s with p:=a3.1,f:=a3.2}):=(by show Eu n wd sc s i=_;unfold Eu;rw[a1]);rw[a1] at a0;have G:=Y a0;clear a0 a1
  rcases c6 with⟨rfl,rfl⟩|⟨y,rfl,rfl⟩
  ·refine q_ ?_;go_wp2_with fail
   go_region_held3 (λw'=>ZV w' (J rb 0)=T (L_ fb n n)/\ZV w' (J rb 5)=T (V Q (F s.M) R)/\ZV w' (J fb (F s.M*3))=T (YX (.func 209) #[] #[])) (go_keep) (first|(go_at_call 209;apply (G).m;rintro e w' ⟨rfl,⟨q,z,g,x,l⟩,j⟩;have u:=g.w.e.1;have W:=g.w.e.2.2.2.2.2;have A:ZV w' _=T (YX (.func 209) _ _):=(cb_ (w:=YY w) (a:=(J fb (F s.M*3))) (j.block _ b0 a5)).T a6;have t:Hid (ZgO w K M _ _ _ n _ _ _ _ _ {s with p:=a3.1,f:=a3.2} _):=⟨⟨q,⟨_,_,_,_,g⟩,l⟩,j.e⟩;clear g x l j))
   all_goals go_wp2
   all_goals go_ret
   all_goals rw[o]
   all_goals exact⟨X,t⟩
  refine q_ ?_;go_wp2_with fail
  go_region_held3 (λw'=>ZV w' (J rb 0)=T (L_ fb n n)/\ZV w' (J rb 5)=T (V Q (F s.M) R)/\ZV w' (J fb (F s.M*3))=T (YX (.func 214) #[] #[P_ y])) (go_keep) (first|(go_at_call 214;apply (G).m;rintro e w' ⟨rfl,⟨q,z,g,x,l⟩,j⟩;have u:=g.w.e.1;have W:=g.w.e.2.2.2.2.2;have A:ZV w' _=T (YX (.func 214) _ _):=(cb_ (w:=YY w) (a:=(J fb (F s.M*3))) (j.block _ b0 a5)).T a6;have t:Hid (ZgO w K M _ _ _ n _ _ _ _ _ {s with p:=a3.1,f:=a3.2} _):=⟨⟨q,⟨_,_,_,_,g⟩,l⟩,j.e⟩;clear g x l j))
  all_goals go_wp2
  all_goals go_ret
  all_goals rw[o]
  all_goals exact⟨X,t⟩
 | none=>
  rw[a1] at a0;have G:=Y a0
  have d2:=show Hid _ from a1
  clear a0 a1;refine q_ ?_;go_wp2_with fail
  go_cut [21] (λj g=>j=ZR ZZ/\∃k v,Hid (Rt g K k rb fb cb n wd sc ct bins size s a (V Q (F s.M) R) v b)/\Hid ((∀f,k f->M f∨B w.1<=f)/\Aa M w g))
  case first=>
   rcases c6 with⟨rfl,rfl⟩|⟨y,rfl,rfl⟩
   ·go_region_held3 (λw'=>ZV w' (J rb 0)=T (L_ fb n n)/\ZV w' (J rb 5)=T (V Q (F s.M) R)/\ZV w' (J fb (F s.M*3))=T (YX (.func 209) #[] #[])) (go_keep) (first|(go_at_call 209;apply (G).m;rintro e w' ⟨rfl,⟨q,z,g,x,l⟩,j⟩;have u:=g.w.e.1;have W:=g.w.e.2.2.2.2.2;have A:ZV w' _=T (YX (.func 209) _ _):=(cb_ (w:=YY w) (a:=(J fb (F s.M*3))) (j.block _ b0 a5)).T a6;have t:Hid (∃k v,Hid (Rt w' K k rb fb cb n wd sc ct _ _ s a _ v b)/\Hid ((∀f,k f->M f∨B w.1<=f)/\_)):=⟨q,z,g,l,j.e⟩;clear g x l j))
    all_goals go_wp2
    all_goals go_meet
    all_goals exact⟨X,t⟩
   go_region_held3 (λw'=>ZV w' (J rb 0)=T (L_ fb n n)/\ZV w' (J rb 5)=T (V Q (F s.M) R)/\ZV w' (J fb (F s.M*3))=T (YX (.func 214) #[] #[P_ y])) (go_keep) (first|(go_at_call 214;apply (G).m;rintro e w' ⟨rfl,⟨q,z,g,x,l⟩,j⟩;have u:=g.w.e.1;have W:=g.w.e.2.2.2.2.2;have A:ZV w' _=T (YX (.func 214) _ _):=(cb_ (w:=YY w) (a:=(J fb (F s.M*3))) (j.block _ b0 a5)).T a6;have t:Hid (∃k v,Hid (Rt w' K k rb fb cb n wd sc ct _ _ s a _ v b)/\Hid ((∀f,k f->M f∨B w.1<=f)/\_)):=⟨q,z,g,l,j.e⟩;clear g x l j))
   all_goals go_wp2
   all_goals go_meet
   all_goals exact⟨X,t⟩
  obtain⟨rfl,k,v,b3,j⟩:=hcut;clear e6 e7 a6 b0 a5 G c6;have N:=Y (tf n n b3.w O O);have aA:Hid (∀g,Calls _ _ _ _ λe w'=>e=ZI (ZR (Et s.p.n))/\_):=λg=>Zeo {s.p with f:=v} (Y1 wc g) b3.w;have b5:Hid (∀g,Rt (Y1 wc g) K _ _ _ _ n _ _ _ _ _ s _ _ _ _):=λg=>b3.p (S:=λ_=>False) ⟨X,X,X,x_,λ_ _ _=>X⟩ (λ_ _=>id);have b2:Hid (∀g,Aa M w (Y1 wc g)):=λg=>⟨j.2.os,j.2.tape,j.2.output,j.2.size,j.2.block⟩;have L:Hid (Eu n wd sc s i=if i=El (F s.M) n/\Et s.p.n=Z0 then T (Hm n s (s.M++[Hw s.p s.f])) else ZP):=(by show Eu n wd sc s i=_;unfold Eu;rw[d2]);clear d2
  by_cases D:i=El (F s.M) n
  ·by_cases a2:Et s.p.n=Z0
   ·have o:Hid (Eu n wd sc s i=T (Hm n s (s.M++[Hw s.p s.f]))):=(by show _=_;rw[L,aD ⟨D,a2⟩]);rw[a2] at aA;rw[<- D] at N;clear D a2 L;go_upto_region 5 with(first|(go_at_call 219;apply (N).m;rintro e w' ⟨rfl,g,rfl⟩)|(go_at_call 220;apply (aA _).m;rintro e w' ⟨rfl,aB⟩;obtain rfl:=aB.s))
    have⟨P,d4⟩:=Y_ ((b5 g).p (S:=λ_=>False) (Aa.refl _ _).drew (λ_ _=>id)) ((b2 g).drew);clear b5 b2 N aA b3;generalize (Y1 wc) g=g8 at *;have h6:=b7.num.k;have h5:=b7.num.b;have d5:Hid (C_ 221 _ (YY g8) λe w'=>e=ZI (Y9 #[ZR (ZE (s.p.n=0)),ZX ZQ (Tm s.p),YW (ZB s.f)])/\_):=ZiJ 0 {s.p with f:=v} ⟨P.w,P.v⟩ (by show _<=s.p.num;omega) (by show s.p.num<=_;omega);have d7:=P.w.e.2.2.2.2.2;refine Af (λw'=>ZV w' _=T _) 13 k_ d7 (λhHeld=>?_);refine G_ ?_;refine on_ 8 λKK hK=>?_;go_simp;apply (d5).m;rintro e d0 ⟨rfl,b6⟩;have d6:=T_ b6 P.w.e.2.2.2.2.2;have⟨y,c2⟩:=Y_ (P.p (Aa.a (S:=λ_=>False) b6) (λ_ _=>id)) (d4.q b6);clear b6;go_simp;refine hK _ _ d6 (λhHeld=>?_);clear hK KK
    try simp only[Act.put,sA,sB,sC]
    refine on_ 9 λKK hK=>?_;go_simp;refine hK _ _ (by go_keep) (λhHeld=>?_);clear hK KK;try simp only[Act.put,sA,sB,sC]
    refine on_ 10 λKK hK=>?_;refine aq_ (Jg (Hw s.p s.f)) (ra_ y.or _) ?_ (h1:=by simp[Jg,oneCell']);rintro i1 d1 ⟨e2,c7,e1,_,u,t,rfl⟩;have A:=RB.grown (w:=ZN d0 _) ((hc_ y.w.lt).T y.w) c7 (λe=>Ag y.or e.s y.w C X);have W:=A.e.2.2.2.2.2;have f0:=A.i.2.2.2.2.2.2;have e0:=(((((((A.g (L_ u (F s.M+1) t)).n 0).neg ZZ).dig 0).unit 0).num 0).f (N_));have e4:=((((((ZeI (u:=L_ u (F s.M+1) t) (j:=5) c7 rb).setCell (p:=(J rb 6)) (λ_=>ZM X) (I 0)).setCell (p:=(J rb 7)) (λ_=>ZM X) (ZR ZZ)).setCell (p:=(J rb 8)) (λ_=>ZM X) (I 0)).setCell (p:=(J rb 9)) (λ_=>ZM X) (I 0)).setCell (p:=(J rb 10)) (λ_=>ZM X) (I 0)).setCell (p:=(J rb 11)) (λ_=>ZM X) (N_);have c9:=Ky.P e2
    have e3:=((((((Aa.refl (λf=>f=rb) d1).setCell (p:=(J rb 5)) (λ_=>X) (L_ u (F s.M+1) t)).setCell (p:=(J rb 6)) (λ_=>X) (I 0)).setCell (p:=(J rb 7)) (λ_=>X) (ZR ZZ)).setCell (p:=(J rb 8)) (λ_=>X) (I 0)).setCell (p:=(J rb 9)) (λ_=>X) (I 0)).setCell (p:=(J rb 10)) (λ_=>X) (I 0);have d3:=Y (y.putRow (s:=s) (p:=part0) (bs:=[]) (wt:=s.g) (fl:=s.A) e4 e0 (c9.p (e3.setCell (p:=(J rb 11)) (λ_=>X) _) (λf b1 e=>Ag c9 b1 A C e)) (by rcases Zlc e1 with l|l;exact ZM l;exact ZJ (ZJ l)) (Az.nil) (ZM X));have e8:ZV (ZO d1 _ (L_ u (F s.M+1) t)) _=_:=(A.g _).e.2.2.2.2.2;have e9:=(A.g (L_ u (F s.M+1) t)).i;obtain⟨f3,f4,f5,f6,f1,f2,f7⟩:=e9;clear e2 c7 e1 A e0 e4 c9 e3;refine hK _ _ W (λhHeld=>?_)
    clear hK KK;refine G_ ?_;refine le_ ?_;have c0:=Y d3;clear d3 d5 P d4 hHeld d6 W f0 d7;go_upto_region 7 with fail;clear f3 f4 f5 f6 f1 f2 f7 e8;generalize (ZO (ZO (ZO (ZO (ZO (ZO (ZO d1 (J rb 5) (L_ u (F s.M+1) t)) (J rb 6) (I 0)) (J rb 7) (ZR ZZ)) (J rb 8) (I 0)) (J rb 9) (I 0)) (J rb 10) (I 0)) (J rb 11) (N_))=a4 at *;obtain⟨z,c3⟩:∃z:H->Prop,z=(λf=>k f∨ZW (L_ u (F s.M+1) t)=T f):=⟨_,X⟩;have b8:Hid ((∀f,z f->k f∨B d0.1<=f)/\Aa k d0 a4):=c3 ▸ c0.2;have b4:Hid (Rt a4 K z rb fb cb n wd sc ct bins size {s with M:=s.M++[Hw s.p s.f],p:=part0,f:=[]} a (L_ u (F s.M+1) t) (N_) b):=c3 ▸ c0.1;have x:=Y (c2.c b8.2 j.1)
    have b9:Hid (∀f,z f->M f∨B w.1<=f):=λf b1=>by
     rcases b8.out.1 f b1 with l|l
     exact j.1 f l;exact ZJ (p_ c2.size)
    have h2:=b4.w.e.1;have h3:=b4.w.e.2.2.2.2.2;have g1:∀h,_->F (s.a h)<=200:=λh g2=>p_ (b7.j h g2);clear c3 c0 b8 y c2 j
    by_cases c8:F s.M+1=n
    ·have c1:Hid (Hm n s (s.M++[Hw s.p s.f])={({s with M:=s.M++[Hw s.p s.f],p:=part0,f:=[]}:RS) with k:=s.k++[s.g],a:=λh=>if h<n then s.a h++[Z (s.M++[Hw s.p s.f]) h Ax] else s.a h,g:=0,A:=ZZ,M:=[]}):=by show _=_;unfold Hm;rw[aD (by simp;exact c8)]
     have e5:Hid (∀g,C_ 222 #[P_ rb] (Y1 a4 g) λe w'=>e=ZI (Y5 #[])/\ZgO (Y1 a4 g) K z rb fb cb n wd sc ct bins size {({s with M:=s.M++[Hw s.p s.f],p:=part0,f:=[]}:RS) with k:=s.k++[s.g],a:=λh=>if h<n then s.a h++[Z (s.M++[Hw s.p s.f]) h Ax] else s.a h,g:=0,A:=ZZ,M:=[]} w'):=λg=>ZdR (w:=Y1 a4 g) (b4.p (w':=Y1 a4 g) (S:=λ_=>False) ⟨X,X,X,x_,λ_ _ _=>X⟩ (λ_ _=>id)) (by simp;exact c8) g3 (by show F s.k<=200;omega) g1;go_big_quiet (fail);go_wp2_with (go_at_call 222;apply (e5 _).m;rintro e l ⟨rfl,f9⟩)
     go_ret;rw[o,c1];obtain⟨⟨q,g0,g5⟩,a9⟩:=f9;refine⟨X,⟨q,g0,λf b1=>?_⟩,x.c ⟨a9.os,a9.tape,a9.output,a9.size,a9.block⟩ b9⟩
     rcases g5 f b1 with l|l
     exact b9 f l;exact ZJ (aG x.size l)
    have c1:Hid (Hm n s (s.M++[Hw s.p s.f])={s with M:=s.M++[Hw s.p s.f],p:=part0,f:=[]}):=(by show _=_;unfold Hm;rw[aC (by simp;exact c8)]);have l:(((F s.M:_)+1)==(n:E))=_:=aO O;go_big_quiet (fail);go_wp2;go_ret;rw[o,c1];exact⟨X,⟨z,⟨_,_,_,_,b4.p (S:=λ_=>False) ⟨X,X,X,x_,λ_ _ _=>X⟩ (λ_ _=>id)⟩,b9⟩,⟨x.os,x.tape,x.output,x.size,x.block⟩⟩
   have q:Et s.p.n=ZZ:=by simpa using a2
   have o:Hid (Eu n wd sc s i=ZP):=(by show _=_;rw[L,aC (λl=>a2 l.2)]);rw[q] at aA;rw[<- D] at N;clear D a2 q L;go_wp2_with (first|(go_at_call 219;apply (N).m;rintro e w' ⟨rfl,g,rfl⟩)|(go_at_call 220;apply (aA _).m;rintro e w' ⟨rfl,aB⟩;obtain rfl:=aB.s))
   go_ret;rw[o];exact⟨X,⟨k,⟨_,_,_,_,b5 _⟩,j.1⟩,b2 _⟩
  have o:Hid (Eu n wd sc s i=ZP):=(by show _=_;rw[L,aC (λl=>D l.1)]);have l:=aO D;generalize El (F s.M) n=q at *;clear L;go_wp2_with (first|(go_at_call 219;apply (N).m;rintro e w' ⟨rfl,g,rfl⟩)|(go_at_call 220;apply (aA _).m;rintro e w' ⟨rfl,aB⟩;obtain rfl:=aB.s))
  go_ret;rw[o];exact⟨X,⟨k,⟨_,_,_,_,b5 _⟩,j.1⟩,b2 _⟩
end
def Zhv{g d b a}(f:Ad g d b a):∃c e,b=ZH c (F a) e:=by
 rcases f.2 with⟨rfl,i⟩|⟨k,j,h,rfl,_⟩
 ·grind
 grind
def ZnO(c:ZT)(K a:H->Prop)(k h f i:H)(o:H->ZG)(m g:H->E)(e n:E)(j:Except E RS)(b:Ending)(d:ZT):Prop:=
 match j with
 |.error p=>b=ZI (ZX ZQ p)/\Aa a c d
 |.ok l=>b=ZI (ZX ZQ 0)/\ZgO c K a k h f i o m g e n l d
def Ja.take{n i e b h f}(a:Ja n b)(q:1<=n)(k:∀c,c<n->i c=ZZ->0<=e c/\e c<=3)(r:Cv n i e b f=.ok h):Ja n h:=by
 unfold Cv at r;split at r
 ·cases r
 rename_i p;split at r
 ·split at r
  ·cases r
  injection r with r;subst r;exact⟨a.k,a.j,a.d,a.e,a.M,a.num,a.f⟩;rename_i g d;injection r with r;subst r;have:=tm d;exact⟨a.k,a.j,w_,w_,a.M,a.num,a.f⟩
 split at r
 ·rename_i m j hf;injection r with r;subst r
  have g:Ha m/\F j<=8:=by
   unfold As at hf;split at hf
   ·cases d:Cq b.p.n b.f f with
    |none=>grind
    | some o=>
     rw[d] at hf;injection hf with hf;injection hf with h1 h2;subst h1 h2;exact⟨a.num.n,Zat d a.f⟩
   rename_i l
   cases d:Do (Ch (ZL (e (F b.M)))) b.p f with
   |none=>grind
   | some o=>
    rw[d] at hf;injection hf with hf;injection hf with h1 h2;subst h1 h2;have:=k _ a.M (by simpa using l);have r:=qp (ZL (e (F b.M))) O;exact⟨a.num.i r.1 r.2 d,a.f⟩
  exact⟨a.k,a.j,a.d,a.e,a.M,g.1,g.2⟩
 split at r
 ·injection r with r;subst r;unfold Hm;split;rename_i g;refine⟨?_,λc d=>?_,Int.le_refl 0,w_,by show 0<n;omega,Ha.part0,v_⟩;show F (b.k++[b.g])<=200;have:=a.k;simp;omega;show F (if c<n then b.a c++[Z (b.M++[Hw b.p b.f]) c Ax] else b.a c)=F (b.k++[b.g]);rw[aD d];have:=a.j c d;simp[this];rename_i g;have:=a.M;refine⟨a.k,a.j,a.d,a.e,?_,Ha.part0,v_⟩
  grind
 cases r
section
variable {w:ZT} {K M:H->Prop} {rb fb cb n:H} {wd:H->ZG} {sc ct:H->E} {bins size:E} {s:RS}
def ZlK{c}(D:RdM w K M rb fb cb n wd sc ct bins size s)(g:Ja n s)(N:n<=4)(P:∀h,h<n->wd h=ZZ->0<=sc h/\sc h<=3)(G:0<=c)(L:c<=255):C_ 98 #[P_ rb,ZX .u8 c] w λa m=>ZnO w K M rb fb cb n wd sc ct bins size (Cv n wd sc s c) a m:=by
 obtain⟨W,a1,A,a0,d⟩:=D;have⟨Q,R,k⟩:=Zhv d.x
 by_cases q:F s.k=200
 have f:Hid (Cv n wd sc s c=_):=aD q;rw[q] at k;subst k;apply (ZiD d.w).m;rintro a m ⟨rfl,rfl⟩;rw[f];exact⟨X,Aa.refl _ _⟩;have u:F s.k<200:=p_ g.k;subst k
 cases j:s.A with
 | false=>
  have y:=d.w;rw[j] at y;apply (ZcO y u g.d g.e G L).m;rintro a m ⟨rfl,S,e⟩
  have f:Cv n wd sc s c=match Ar s.g c with|none=>.error 2|some ZP=>.ok {s with A:=Z0}|some (T o)=>.ok {s with g:=o}:=by grind [Cv]
  rw[f];obtain⟨t,e⟩:=e;have i:Aa (λb=>b=_∨T b=ZW A) w _:=(Aa.refl _ w).grown t (λb hk _=>ZM (by injection hk with hk;exact hk.s))
  have l:=i.m (λb _ a=>by
   rcases a with a|a
   exact a ▸ d.L
   exact d.M b a.s)
  have v:=d.v.p ((Aa.refl (λb=>b=rb) w).grown t (λb hk _=>w_)) (λb hk a=>by
   have⟨x,r⟩:=Ac d.v hk
   exact d.e r C a)
  have r:∀b,(M b∨ZW A=T b)->M b∨B w.1<=b:=λb a=>by
   rcases a with a|a
   exact ZM a;exact ZM (d.M b a)
  rcases z:Ar s.g c with _|_|o
  exact⟨X,l⟩
  ·skip
   rw[z] at e;exact⟨X,⟨_,⟨_,_,_,_,d.f (p:=s.p) (bs:=s.f) (wt:=s.g) (fl:=Z0) i e.2 v (ZM X)⟩,r⟩,l⟩
  skip
  rw[z] at e;have x:=e.2;rw[<- j] at x;exact⟨X,⟨_,⟨_,_,_,_,d.f (p:=s.p) (bs:=s.f) (wt:=o) (fl:=s.A) i x v (ZM X)⟩,r⟩,l⟩
 | true=>
  have b:=Y (iw c d g N u P)
  have f:Hid (Cv n wd sc s c=match Eu n wd sc s c with|some m=>.ok m|none=>.error 2):=by
   show Cv n wd sc s c=_
   grind [Cv,Eu]
  have⟨_,t,_,_,o,_⟩:=d.w.e;rw[j] at o;have v:((F s.k:E)==200)=_:=aO O;have x:¬(F s.k:E)=200:=O;rw[f]
  cases l:Eu n wd sc s c with
  | none=>
   rw[l] at b;refine dl_ ?_;go_enter func98,ntmps98;go_wp2_with fail
   apply b.m;rintro a r ⟨rfl,i⟩
   have e:=show Hid _ from i
   simp only[Option.isSome];go_wp2;go_ret;exact⟨X,e.2⟩
  | some m=>
   rw[l] at b;go_enter func98,ntmps98;go_wp2_with fail
   apply b.m;rintro a r ⟨rfl,i⟩
   have e:=show Hid _ from i
   simp only[Option.isSome];go_wp2;go_ret;exact⟨X,e⟩
end
def Ab(a:ZC):U E:=(Y4 a.data).map (λb=>b.toNat)
def Bt(c:H)(e:H->ZG)(d:H->E):RS->U E->H->Except (E×H) RS
 |a,[],_=>.ok a
 | a,f::g,b=>match Cv c e d a f with
  |.error i=>.error (i,b)
  |.ok h=>Bt c e d h g (b+1)
theorem Kt d g f:∀b c e a,Bt d g f e (b++c) a=match Bt d g f e b a with
  |.error i=>.error i
  |.ok h=>Bt d g f h c (a+F b)
 |[],c,e,a=>by simp[Bt]
 | j ::b,c,e,a=>by
  simp only[cons_append,Bt]
  cases Cv d g f e j with
  |error i=>rfl
  | ok h=>
   have:=Kt d g f b c h (a+1)
   grind
def Ja.a{a j f}(k:1<=a)(l:∀c,c<a->j c=ZZ->0<=f c/\f c<=3):∀i {b d h},Ja a b->Bt a j f b i h=.ok d->Ja a d
 |[],b,d,h,g,e=>by injection e with e;subst e;exact g
 | n::i,b,d,h,g,e=>by
  simp only[Bt] at e
  cases m:Cv a j f b n with
  |error p=>grind
  |ok o=>rw[m] at e;exact Ja.a k l i (g.take k l m) e
def wg{c f e d b a}(g:Cv c f e d b=.error a):a=2∨a=3:=by grind [Cv]
structure InX(e:ZT)(K b)(c a g f j d:H)(p)(n k)(h o i)(m)(l:H):Prop where
 q:e.1[c]? =T (O_ #[P_ a,ZR ZZ,I 0,I 0] 119)
 r:e.1[a]? =T (O_ #[L_ f d d,I i,P_ g,I l] 158)
 w:RdM e K b g f j d p n k h o m
 t:¬K c/\¬b c
 u:¬K a/\¬b a
section
variable {w:ZT} {K M:H->Prop} {b c rb fb cb n:H} {wd:H->ZG} {sc ct:H->E} {bins size budget:E} {s:RS} {a:H}
def InX.o(d:InX w K M b c rb fb cb n wd sc ct bins size budget s a):b≠c:=λf=>by have e:=d.q;rw[f,d.r] at e;simp at e
def ZgJ(w:ZT)(K M:H->Prop)(b c rb fb cb n:H)(wd:H->ZG)(sc ct:H->E)(bins size budget:E)(a:H)(g:Except (E×H) RS)(e:ZT):Prop:=
 (match g with
 |.error (j,h)=>e.1[b]? =T (O_ #[Y7 ZP,ZR ZZ,I j,I h] 119)
 |.ok i=>∃f,InX e K f b c rb fb cb n wd sc ct bins size budget i a/\(∀d,f d->M d∨B w.1<=d))/\Aa (λd=>M d∨d=b∨d=c) w e
def Zeb{e}(a9:InX w K M b c rb fb cb n wd sc ct bins size budget s a)(a7:Ja n s)(b5:1<=n)(b4:n<=4)(R:∀A,A<n->wd A=false->0<=sc A/\sc A<=3)(c4:a+e.size<=4000000000000000000):C_ 58 #[P_ b,Q_ e] w λj w'=>j=.returned (.tuple #[])/\ZgJ w K M b c rb fb cb n wd sc ct bins size budget (a+e.size) (Bt n wd sc s (Ab e) a) w':=by
 have a6:=Y a9;refine dl_ ?_;go_enter func58,ntmps58;go_wp2_with fail
 go_loopw [8] (λg f=>∃(d:Nat) (u:RS) (z:Nat->Prop),d<=e.size/\g=I d/\Hid (Bt n wd sc s ((Ab e).take d) a=.ok u)/\Hid (InX f K z b c rb fb cb n wd sc ct bins size budget u (a+d))/\Hid ((∀h,z h->M h∨w.1.size<=h)/\Aa (λh=>M h∨h=b∨h=c) w f)) (m1_ e.size)
 case atStart=>exact⟨0,s,M,v_,rfl,rfl,a6,λ_ j=>.inl j,Aa.refl _ _⟩
 obtain⟨d,u,z,b2,rfl,G,g,k⟩:=hrel;have b8:=n_ 0 g.q;have c1:=n_ 2 g.r
 by_cases b3:d<e.size
 ·have c3:=F_ d e.size;go_upto_region 3 with fail;have a2:Hid (Calls _ 98 #[_,.int .u8 (e[d].toNat:Int)] _ λj w'=>_):=ZlK (w:=wr.drew) (g.w.p (w':=wr.drew) (S:=λ_=>False) (Aa.refl _ _).drew (λ_ _=>id)) (Ja.a b5 R _ a7 G) b4 R O (p_ (UInt8.toNat_lt e[d]));refine Af (λw'=>w'.cell? _=some _/\w'.cell? _=some _) 10 k_ ⟨b8,c1⟩ (λhHeld=>?_);refine G_ ?_;refine Ew (i:=10) k_ rfl k_ (λKK hK=>?_);go_simp;apply (a2).m;intro j x r;have q:=Y r
  have b0:∃h:Int,j=.returned (I h):=by
   unfold ZnO at r
   cases t:Cv n wd sc u (e[d].toNat:Int) with
   |error h=>rw[t] at r;exact⟨h,r.1⟩
   |ok a0=>rw[t] at r;exact⟨0,r.1⟩
  obtain⟨h,rfl⟩:=b0;go_simp;apply hK _ _;try simp only[Act.put,sA,sB,sC]
  refine Ew (i:=11) k_ rfl k_ (λKK hK=>?_);go_simp;apply hK _ _;refine Fr k_ ?_ _;have a3:Hid ((Ab e).take (d+1)=(Ab e).take d++[(e[d].toNat:Int)]):=(by show _=_;rw[Qi (by unfold Ab;rw[length_map];exact b3)];congr 2;simp only[Ab,getElem_map];rfl);have y:Hid (Bt n wd sc s ((Ab e).take (d+1)) a=match Cv n wd sc u e[d].toNat with|.error h=>.error (h,a+d)|.ok a0=>.ok a0):=(by show _=_;rw[a3,Kt,G];have f:((Ab e).take d).length=d:=(by rw[length_take];unfold Ab;rw[length_map];exact Nat.min_eq_left b2);simp only[f,Bt]);have b6:=g.o
  cases P:Cv n wd sc u (e[d].toNat:Int) with
  | error c6=>
   rw[P] at q y;have D:Hid (_/\_):=⟨by have:=q.1;injection this,q.2⟩;obtain⟨hz,t⟩:=D;injection hz with _ hz;subst hz;have m:=t.e;have l:=m.g g.q g.t.2;have v:=m.g g.r g.u.2;have b9:=n_ 0 l;have a1:=n_ 2 l;have a4:=n_ 3 l;have a5:=λQ=>R_ Q _ _ l;have c2:=n_ 3 v;have N:(((x.setCell (J b 2) (I h)).setCell (J b 3) (I (a+d:Nat))).setCell (J b 0) (.pointer none)).1[b]? =some (O_ #[.pointer none,.bool false,I h,I (a+d:Nat)] 119):=ht_ 0 _ _ _ (ht_ 3 _ _ _ (ht_ 2 _ _ _ l))
   have L:Hid (ZgJ w K M b c rb fb cb n wd sc ct bins size budget (a+e.size) (Bt n wd sc s (Ab e) a) (((x.setCell (J b 2) (I h)).setCell (J b 3) (I (a+d:Nat))).setCell (J b 0) (.pointer none))):=(by have j:Bt n wd sc s (Ab e) a=.error (h,a+d):=(by have:Ab e=(Ab e).take (d+1)++(Ab e).drop (d+1):=(take_append_drop _ _).s;rw[this,Kt,y]);rw[j];refine⟨N,?_⟩;have W:=k.2.c m (λi o=>by rcases k.out.1 i o with f|f;exact .inl (.inl f);exact .inr f);exact((W.setCell (p:=(J b 2)) (λ_=>.inr (.inl rfl)) _).setCell (p:=(J b 3)) (λ_=>.inr (.inl rfl)) _).setCell (p:=(J b 0)) (λ_=>.inr (.inl rfl)) _);have f:=Y (wg P)
   rcases f.out with rfl|rfl
   ·go_wp2;exact bodyPost_ret (results_none rfl _ _ _) rfl ⟨rfl,L⟩
   go_wp2;exact bodyPost_ret (results_none rfl _ _ _) rfl ⟨rfl,L⟩
  | ok a1=>
   rw[P] at q y;have D:Hid (_/\_):=⟨by have:=q.1;injection this,q.2⟩;obtain⟨hz,⟨L,a8,N⟩,t⟩:=D;injection hz with _ hz;subst hz;have m:=t.e;have l:=m.g g.q g.t.2;have v:=m.g g.r g.u.2;have b9:=n_ 0 l;have c2:=n_ 3 v;have c5:=λQ=>R_ Q _ _ v;have b1:=(Qb g.q).1;have b7:=(Qb g.r).1
   have c0:¬_:=λj=>by rcases N b j with f|f;exact g.t.2 f;exact absurd b1 (by simpa using f)
   have W:¬_:=λj=>by rcases N c j with f|f;exact g.u.2 f;exact absurd b7 (by simpa using f)
   have a5:Hid (InX (x.setCell (J c 3) (I ((a+d:Nat)+1))) K L b c rb fb cb n wd sc ct bins size budget a1 (a+(d+1))):=by
    refine⟨(Below.heap_setCell _ _ _ _ (λj=>b6 j)).T l,?_,a8.p ((Aa.refl (λi=>i=c) _).setCell (p:=(J c 3)) (λ_=>rfl) _) ?_,⟨g.t.1,c0⟩,⟨g.u.1,W⟩⟩;have:=hs_ x c 3 _ 158 (I (((a+d:Nat):Int)+1)) v;rw[this];have:(((a+d:Nat):Int)+1)=((a+(d+1):Nat):Int):=O;rw[this];rfl;intro i o j;subst j
    rcases o with f|f
    exact g.u.1 f;exact W f
   have a4:Hid ((∀i,L i->M i∨w.1.size<=i)/\Aa (λi=>M i∨i=b∨i=c) w (x.setCell (J c 3) (I ((a+d:Nat)+1)))):=by
    refine⟨λi o=>?_,?_⟩
    ·rcases N i o with f|f
     exact k.1 i f;exact .inr (aG k.2.size f)
    exact(k.2.c m (λi o=>by rcases k.out.1 i o with f|f;exact .inl (.inl f);exact .inr f)).setCell (p:=(J c 3)) (λ_=>.inr (.inr rfl)) _
   have i:_=((a+d:_):Int)+1:=Au O O;generalize ((a+d:Nat):Int)=o at *;go_wp2;go_roundw;case rel=>exact⟨d+1,a1,L,O,g_,y,a5,a4⟩
   case measure=>exact z_
 obtain rfl:d=e.size:=O;have f:Hid ((Ab e).take e.size=_):=aI (by unfold Ab;rw[length_map];exact x_);go_wp2;go_end0;refine⟨rfl,?_,k.2⟩;rw[<- f,G];exact⟨z,g,k.1⟩
end
def Qs:Except (E×H) RS->E×E
  |.error (b,a)=>(b,a)
  |.ok _=>(0,0)
def Vo(d:ZT)(b:H)(a:ZG)(e c:E):Prop:=d.1[b]? =T (O_ #[Y7 ZP,ZR a,I e,I c] 119)
section
variable {w:ZT} {K M:H->Prop} {b c rb fb cb n:H} {wd:H->ZG} {sc ct:H->E} {bins size budget:E} {s:RS} {a:H}
def ZgJ.drewN{f o}(j:ZgJ w K M b c rb fb cb n wd sc ct bins size budget a f o){h}:ZgJ w K M b c rb fb cb n wd sc ct bins size budget a f (Y1 o h):=by
 obtain⟨g,d⟩:=j;refine⟨?_,⟨d.os,d.tape,d.output,d.size,d.block⟩⟩
 cases f with
 |error l=>exact g
 | ok m=>
  obtain⟨i,e,k⟩:=g;exact⟨i,⟨e.q,e.r,e.w.p (w':=Y1 o h) (S:=λ_=>False) ⟨X,X,X,x_,λ_ _ _=>X⟩ (λ_ _=>id),e.t,e.u⟩,k⟩
def Zj4{d}(f:InX w K M b c rb fb cb n wd sc ct bins size budget s a)(m:Ja n s)(r:1<=n)(q:n<=4)(t:∀g,g<n->wd g=false->0<=sc g/\sc g<=3)(p:a+d.size<=4000000000000000000):C_ 32 #[P_ b,Q_ d] w λh e=>h=.returned (.tuple #[.int .i64 (Qs (Bt n wd sc s (Ab d) a)).1,.int .i64 (Qs (Bt n wd sc s (Ab d) a)).2])/\ZgJ w K M b c rb fb cb n wd sc ct bins size budget (a+d.size) (Bt n wd sc s (Ab d) a) e:=by
 have k:=Y (Zeb f m r q t p);have v:=n_ 1 f.q;have x:=n_ 2 f.q;refine dl_ ?_;go_enter func32,ntmps32;go_wp2_with fail
 apply k.m;rintro h j ⟨rfl,e⟩;have l:=Y e
 have o:D_ j b 2 (I (Qs (Bt n wd sc s (Ab d) a)).1)/\D_ j b 3 (I (Qs (Bt n wd sc s (Ab d) a)).2):=by
  cases i:Bt n wd sc s (Ab d) a with
  | error y=>
   rw[i] at e;exact⟨M_ 2 _ _ _ e.1,M_ 3 _ _ _ e.1⟩
  | ok z=>
   rw[i] at e;obtain⟨⟨u,f,_⟩,_⟩:=e;exact⟨M_ 2 _ _ _ f.q,M_ 3 _ _ _ f.q⟩
 obtain⟨i,u⟩:=o;go_wp2_with fail
 go_big_quiet (fail);go_wp2;go_ret2
 exact⟨rfl,l.drewN⟩
end
def ZdV{f d} a e {c}(b:Vo c d ZZ a e)(h:a=2∨a=3):C_ 32 #[P_ d,Q_ f] c λg j=>g=ZI (Y5 #[ZX ZQ a,ZX ZQ e])/\∃i,j=Y1 c i:=by
 have g:=n_ 1 b;have i:=n_ 2 b;have j:=n_ 3 b
 rcases h with rfl|rfl
 all_goals go_enter func32,ntmps32
 all_goals go_wp2_with fail
 all_goals go_big_quiet (fail)
 all_goals go_wp2
 all_goals go_ret2
 all_goals exact⟨X,_,X⟩
def Zbj{c b f e a}(d:Vo a b Z0 f e):C_ 32 #[P_ b,Q_ c] a (V_ (Y5 #[ZX ZQ 1,ZX ZQ 0]) a):=by
 have g:=n_ 1 d;refine dl_ ?_;go_enter func32,ntmps32;go_wp2;go_ret2
 exact⟨X,X⟩
def Zg(a:E)(b:H):H:=ZL ((if a<0 then -(a+1) else a)%b)
def Pv a {b}(c:0<b):Zg a b<b:=by unfold Zg;have:=Int.emod_lt_of_pos (if a<0 then -(a+1) else a) (show(0:E)<b by omega);omega
def dh(a:U E)(b:H):E:=if F a=0 then 0 else Z a (b%F a) 0
end Go.Proofs.YtfcgnpchbcmdeaaGreat
namespace Go.Proofs.YtfcgnpchbcmdeaaGreat
set_option linter.all false
set_option maxRecDepth 100000
set_option maxHeartbeats 8000000
open Go List Nat Go.World Go.Proofs.Tryz Go.Value Go.IntKind Go.Lib Go.Region
section
variable {P:Program} {a:YZ Oper} {Q:Exit->Act->ZT->Prop} {b:Region.Mode} {S:ZT->Prop} {c:H}
def Ro{i j k l n h e d}(t:ready b a h=[i,j])(v:(Y4 a)[i]? =T k)(w:(Y4 a)[j]? =T l)(q:∀f:Act->ZT->Prop,Shut (∀e d,S d->(S d->Db P b a Q S c n (YS h i Z0) e d)->f e d)->if wanted k (yielded a e.tmps)=Z0 then Oper.wp P k e d f Q else f (e.put k.dst undef) d)(r:∀f:Act->ZT->Prop,Shut (∀e d,S d->(S d->Db P b a Q S c n (YS h j Z0) e d)->f e d)->if wanted l (yielded a e.tmps)=Z0 then Oper.wp P l e d f Q else f (e.put l.dst undef) d):Db P b a Q S c (n+1) h e d:=by
 refine⟨λu=>w_,λx p=>?_⟩;rw[t] at p;simp only[mem_cons,not_mem_nil,or_false] at p
 rcases p with m|m
 subst m;exact wpOp_step w_ (λf s=>q _ (λe d g o=>s e d ⟨ZJ g,o g⟩));subst m;exact wpOp_step w_ (λf s=>r _ (λe d g o=>s e d ⟨ZJ g,o g⟩))
end
end Go.Proofs.YtfcgnpchbcmdeaaGreat
namespace Go.Proofs.YtfcgnpchbcmdeaaGreat
set_option linter.all false
set_option maxRecDepth 100000
set_option maxHeartbeats 8000000
open Go.RowKit List Nat Go.World Go.Proofs.Tryz Go.Value Go.IntKind Go.Lib Go.Region
def Fl(e:ZT)(c:H)(a:ZC)(b:H)(f:E)(d:ZY):Prop:=e.1[c]? =T (O_ #[Q_ a,I b,I f,d] 283)
def Eh(a:ZC)(b:H):E:=if c:b<ZK a then(a[b]'c).toNat else -1
theorem aq{a c} b:Eh a c=(a[c]'b).toNat:=dif_pos b
theorem Uf{a b}(c:¬b<a.size):Eh a b= -1:=dif_neg c
def Fl.q{f w' d a c g e}(b:Fl f d a c g e)(h:E_ f w'):Fl w' d a c g e:=(h.block _ (Qb b).1).T b
def Fl.cells{b a d e g f}(c:Fl b a d e g f):ZV b (J a 0)=T (Q_ d)/\ZV b (J a 1)=T (I e)/\ZV b (J a 2)=T (I g)/\ZV b (J a 3)=T f:=
 ⟨M_ 0 _ 283 (0,0) c,M_ 1 _ 283 (0,0) c,M_ 2 _ 283 (0,0) c,M_ 3 _ 283 (0,0) c⟩
def Bp(a:ZC)(c:H)(d b:E):ZG:=ZE (d=0/\Eh a c=b)
def Ji(a:ZC)(b:H)(c:E):ZG:=ZE (c=0/\48<=Eh a b/\Eh a b<=57)
def Yx(a:ZC)(b:H)(c:E):ZG:=ZE (c=0/\97<=Eh a b/\Eh a b<=122)
def Fk{i} a b e c {k} h (j:Fl h i b a e k)(q:0<=c):C_ 324 #[P_ i,ZX .u8 c] h λd g=>d=ZI (ZR (Bp b a e c))/\∃f,g=Y1 h f:=by
 have⟨n,o,p,_⟩:=j.cells
 by_cases g:e=0
 ·subst g
  by_cases f:a<ZK b
  ·have l:0<=(a:E):=O;have m:a<(ZK b:E):=O;have d:K (Bp b a 0 c=ZE ((b[a]'f).toNat=c)):=(by show _=_;unfold Bp;rw[aq f];simp);refine q_ ?_;go_wp2_with fail
   go_quiet (fail);go_wp2;go_ret;exact⟨by rw[d];rfl,_,X⟩
  have l:ZE ((a:_)<(ZK b:E))=_:=aE O;have d:K (Bp b a 0 c=ZZ):=(by show _=_;unfold Bp;rw[Uf f];simp;omega);refine q_ ?_;go_wp2_with fail
  go_quiet (fail);go_wp2;go_ret;exact⟨by rw[d];rfl,_,X⟩
 have d:K (Bp b a e c=ZZ):=(by show _=_;unfold Bp;simp[g]);have f:=aO g;refine q_ ?_;go_wp2_with fail
 go_quiet (fail);go_wp2;go_ret;exact⟨by rw[d];rfl,_,X⟩
def Rk{j a} b e {l h}(k:Fl h j b a e l):C_ 326 #[P_ j] h λc f=>c=ZI (ZR (Ji b a e))/\∃d,f=Y1 h d:=by
 have⟨o,p,q,_⟩:=k.cells
 by_cases g:e=0
 ·subst g
  by_cases d:a<ZK b
  ·have m:0<=(a:E):=O;have n:a<(ZK b:E):=O;have c:K (Ji b a 0=(ZE (48<=((b[a]'d).toNat:E))&&ZE (((b[a]'d).toNat:E)<=57))):=by show _=_;unfold Ji;rw[aq d];simp
   by_cases i:48<=((b[a]'d).toNat:E)
   ·have f:=aF i;refine q_ ?_;go_wp2_with fail
    go_quiet (fail);go_wp2;go_ret;exact⟨by rw[c,f];rfl,_,X⟩
   have f:=aE i;refine q_ ?_;go_wp2_with fail
   go_quiet (fail);go_wp2;go_ret;exact⟨by rw[c,f];rfl,_,X⟩
  have f:ZE ((a:_)<(ZK b:E))=_:=aE O;have c:K (Ji b a 0=ZZ):=(by show _=_;unfold Ji;rw[Uf d];rfl);refine q_ ?_;go_wp2_with fail
  go_quiet (fail);go_wp2;go_ret;exact⟨by rw[c];rfl,_,X⟩
 have c:K (Ji b a e=ZZ):=(by show _=_;unfold Ji;simp[g]);have d:=aO g;refine q_ ?_;go_wp2_with fail
 go_quiet (fail);go_wp2;go_ret;exact⟨by rw[c];rfl,_,X⟩
def gg{j a} b e {l h}(k:Fl h j b a e l):C_ 345 #[P_ j] h λc f=>c=ZI (ZR (Yx b a e))/\∃d,f=Y1 h d:=by
 have⟨o,p,q,_⟩:=k.cells
 by_cases g:e=0
 ·subst g
  by_cases d:a<ZK b
  ·have m:0<=(a:E):=O;have n:a<(ZK b:E):=O;have c:K (Yx b a 0=(ZE (97<=((b[a]'d).toNat:E))&&ZE (((b[a]'d).toNat:E)<=122))):=by show _=_;unfold Yx;rw[aq d];simp
   by_cases i:97<=((b[a]'d).toNat:E)
   ·have f:=aF i;refine q_ ?_;go_wp2_with fail
    go_quiet (fail);go_wp2;go_ret;exact⟨by rw[c,f];rfl,_,X⟩
   have f:=aE i;refine q_ ?_;go_wp2_with fail
   go_quiet (fail);go_wp2;go_ret;exact⟨by rw[c,f];rfl,_,X⟩
  have f:ZE ((a:_)<(ZK b:E))=_:=aE O;have c:K (Yx b a 0=ZZ):=(by show _=_;unfold Yx;rw[Uf d];rfl);refine q_ ?_;go_wp2_with fail
  go_quiet (fail);go_wp2;go_ret;exact⟨by rw[c];rfl,_,X⟩
 have c:K (Yx b a e=ZZ):=(by show _=_;unfold Yx;simp[g]);have d:=aO g;refine q_ ?_;go_wp2_with fail
 go_quiet (fail);go_wp2;go_ret;exact⟨by rw[c];rfl,_,X⟩
def wrg(a:E):E:=if a=0 then 2 else a
def Fl.put{b a S k g e}(f:Fl b a S k g e) d:Fl (ZO b (J a 2) (I d)) a S k d e/\Aa (λc=>c=a) b (ZO b (J a 2) (I d)):=
 ⟨hs_ _ a 2 _ 283 _ f,(Aa.refl (λc=>c=a) _).setCell (p:=(J a 2)) (λ_=>X) _⟩
def Fl.k{b a e i g f}(h:Fl b a e i g f) d:Fl (ZO b (J a 1) (I (d:H))) a e d g f/\Aa (λc=>c=a) b (ZO b (J a 1) (I d)):=
 ⟨hs_ _ a 1 _ 283 _ h,(Aa.refl (λc=>c=a) _).setCell (p:=(J a 1)) (λ_=>X) _⟩
def No c h g a i f (b:Fl f c g h a i):C_ 325 #[P_ c] f λe d=>e=ZI (Y5 #[])/\Fl d c g h (wrg a) i/\Aa (λj=>j=c) f d:=by
 have⟨k,l,m,_⟩:=b.cells;have n:=R_ 2 _ _ b
 by_cases e:a=0
 ·subst e;have d:=b.put 2;have j:=Y d;refine q_ ?_;go_wp2;go_end0;exact⟨X,j⟩
 have o:=aO e;have d:K (wrg a=a):=aC e;have j:=Y b;refine q_ ?_;go_wp2;go_end0;exact⟨X,by rw[d];exact j,Aa.refl _ _⟩
def Fl.drew{e c a b f d}(g:Fl e c a b f d) h:Fl (Y1 e h) c a b f d:=by unfold Fl;rw[heap_drewN];exact g
def Pa(b:ZC)(a:H)(d c:E):H:=if Bp b a d c=Z0 then a+1 else a
def Pt(b:ZC)(d:H)(a c:E):E:=if Bp b d a c=Z0 then a else wrg a
def Hq{a c d b}(f:0<=b)(e:Bp a c d b=Z0):c<ZK a:=by grind [Bp,Uf]
def yn{a b d}(e:Ji a b d=Z0):∃c:b<ZK a,d=0/\48<=((a[b]'c).toNat:E)/\((a[b]'c).toNat:E)<=57/\Eh a b=(a[b]'c).toNat:=by grind [Ji,aq,Uf]
def Aa.drewN{K b c}(a:Aa K b c) d:Aa K b (Y1 c d):=⟨a.os,a.tape,a.output,a.size,a.block⟩
def ed g a b c d l i (k:Fl i g b a c l)(o:0<=d)(x:ZK b<=1000000000000000):C_ 286 #[P_ g,ZX .u8 d] i λj e=>j=ZI (Y5 #[])/\Fl e g b (Pa b a c d) (Pt b a c d) l/\Aa (λf=>f=g) i e:=by
 have m:=Fk a b c d i k o;refine q_ ?_;go_wp2_with fail
 apply m.m;rintro j s ⟨rfl,q,p⟩;have e:K (Fl s g b a c l/\Aa (λf=>f=g) i s):=p ▸ ⟨k.drew q,(Aa.refl _ _).drewN q⟩;clear k m p
 cases f:Bp b a c d with
 | true=>
  have h:K (Pa b a c d=_/\Pt b a c d=c):=⟨aD f,aD f⟩;have w:=Hq o f;have⟨t,u,_⟩:=e.1.cells;have v:=R_ 1 _ _ e.1;clear f;go_wp2;go_end0;rw[h.1,h.2,show(a:E)+1=((a+1:H):E) by omega];have⟨n,r⟩:=e.1.k (a+1);exact⟨X,n,e.2.T r⟩
 | false=>
  have h:K (Pa b a c d=a/\Pt b a c d=_):=⟨aC (by rw[f];decide),aC (by rw[f];decide)⟩;clear f;go_wp2_with fail
  apply (No _ a b c _ _ e.1).m;rintro j u ⟨rfl,n,r⟩;have t:=K_ n (e.2.T r);clear n r e;go_wp2;apply bodyPost_ret (results_none X _ _ _) X;rw[h.1,h.2];exact⟨X,t⟩
def Py(d:ZC)(e:E)(f:ZG):H->H->E->H->E×H×H
 |0,b,c,a=>(c,b,a)
 |g+1,b,c,a=>if Ji d a e=Z0/\¬(f=Z0/\b=1) then Py d e f g (b+1) (10*c+(Eh d a-48)) (a+1) else(c,b,a)
def Oh(d:ZC)(b:H)(a:E)(e:H)(f:ZG):E×H×H×E:=
 if Bp d b a 48=Z0/\f=ZZ then(0,0,b,wrg a)
 else let c:=Py d a (Bp d b a 48) e 0 0 b;(c.1,c.2.1,c.2.2,if c.2.1=0 then wrg a else a)
def gh {h:H} (d c:H) b a k {t n} (m:Fl n h b d a t) (c0:c<=5) (b8:ZK b<=1000000000000000):C_ 285 #[P_ h,I c,ZR k] n λi e=>i=ZI (Y5 #[ZX ZQ (Oh b d a c k).1,ZX ZQ (Oh b d a c k).2.1])/\Fl e h b (Oh b d a c k).2.2.1 (Oh b d a c k).2.2.2 t/\Aa (λl=>l=h) n e:=by
  have a0:=Fk d b a 48 n m C;have⟨x,L⟩:=ez_ (Oh b d a c k);rw[L];refine q_ ?_;go_wp2_with fail
  apply a0.m;rintro i a4 ⟨rfl,f,a3⟩;have w:K (Fl a4 h b d a t/\Aa (λl=>l=h) n a4):=a3 ▸ ⟨m.drew f,(Aa.refl _ _).drewN f⟩;clear m a0 a3;generalize z:Bp b d a 48=o
  by_cases R:o=Z0/\k=ZZ
  · obtain⟨rfl,rfl⟩:=R;have v:K (x=(0,0,d,wrg a)):=(by show _=_;rw[<- L];exact aD ⟨z,X⟩);clear z;go_wp2_with fail
    apply (No _ d b a _ _ w.1).m;rintro i N ⟨rfl,l,D⟩;have P:=K_ l (w.2.T D);clear l D w;go_wp2;go_ret2
    rw[v];exact⟨X,P⟩
  have v:K (x=((Py b a o c 0 0 d).1,(Py b a o c 0 0 d).2.1,(Py b a o c 0 0 d).2.2,if(Py b a o c 0 0 d).2.1=0 then wrg a else a)):=(by show _=_;rw[<- L,<- z];exact aC (z ▸ R));have a7:(o&&!k)=ZZ:=w_;clear z R L;have⟨u,S⟩:=Z_ o;rw[S] at v;have a1:=Y S;clear S
  cases o<;>cases k<;>first|grind|skip
  all_goals
    clear a7;go_wp2_with fail
    go_loopw [10,9] (λp q g=>∃(j e:H) (f:E),p=I j/\q=I f/\j<=c/\0<=f/\f<10^j/\e<=d+j/\K (Py b a u c 0 0 d=Py b a u (c-j) j f e)/\K (Fl g h b e a t/\Aa (λl=>l=h) n g)) (m4_ c)
    exact⟨0,d,0,X,X,v_,O,C,O,X,w⟩;clear w;obtain⟨j,e,f,rfl,rfl,b7,c1,c2,b9,G,g⟩:=hrel
    by_cases Q:j<c/\Ji b e a=Z0/\¬(u=Z0/\j=1)
    · obtain⟨M,r,s⟩:=Q;have⟨a5,c5,b5,b6,P⟩:=yn r;have D:K (Py b a u c 0 0 d=Py b a u (c-(j+1)) (j+1) (10*f+(Eh b e-48)) (e+1)):=(by show _=_;rw[G,show c-j=(c-(j+1))+1 by omega,Py,aD ⟨r,s⟩]);have q:=Rk b a g.1;rw[r] at q;have a2:j<(c:E):=O;have b1:=F_ e (ZK b);have a8:(10:E)^(j+1)=_:=Int.pow_succ _ _
      have c3:(10:E)^j<=100000:=by
        have:j=0∨j=1∨j=2∨j=3∨j=4∨j=5:=O
        grind
      rw[P] at D;have W:K (_->((j:E)==1)=_):=λi=>aO (λm=>s ⟨i,O⟩);clear G r s P;go_wp2_with fail
      apply q.m;rintro i N ⟨rfl,y,A⟩;have p:K (Fl N h b e a t/\Aa (λl=>l=h) n N):=A ▸ ⟨g.1.drew y,g.2.drewN y⟩;clear g q A;try have a6:=W.out a1.s
      clear W;have⟨b2,b3,_⟩:=p.1.cells;have b4:=R_ 1 _ _ p.1;generalize c4:((b[e]'a5).toNat:E)=l at *;have c6:IntKind.u8.wrap (l-48)=l-48:=(by simp[wrap,IntKind.bits,signed];omega);have c7:_=l-48:=Au O O;have c8:_=10*f:=Au O O;have c9:_=10*f+(l-48):=Au O O;go_upto_region 10 with fail;go_quiet (fail);go_wp2;go_roundw
      case rel=>
        have⟨a9,b0⟩:=(p.1.drew nq).k (e+1);exact⟨j+1,e+1,10*f+(l-48),g_,X,O,O,p_ a8,O,D,a9,(p.2.drewN _).T b0⟩
      exact z_
    have W:K (Py b a u c 0 0 d=(f,j,e)):=by
      show _=_;rw[G]
      by_cases M:j<c
      rw[show c-j=(c-(j+1))+1 by omega,Py,aC (λm=>Q ⟨M,m⟩)];rw[show c-j=0 by omega,Py]
    have a8:K (x=(f,j,e,if j=0 then wrg a else a)):=(by show _=_;rw[v,W]);clear G W v
    by_cases M:j<c
    have a2:j<(c:E):=O;have q:=Rk b a g.1;go_wp2_with fail
    apply q.m;rintro i wr ⟨rfl,y,A⟩;have p:K (Fl wr h b e a t/\Aa (λl=>l=h) n wr):=A ▸ ⟨g.1.drew y,g.2.drewN y⟩;clear g q A;have g:=p;clear p
    cases r:Ji b e a
    rotate_left
    have s:=Decidable.byContradiction λm=>Q ⟨M,r,m⟩;have a6:((j:E)==1)=_:=beq_iff_eq.2 O;have a5:=Y s.1;clear s
    rotate_left
    have a2:¬j<(c:E):=O
    all_goals
      first|exact absurd (a1.T a5) C|skip
      go_wp2_with fail
      all_goals first
        | have i:=beq_iff_eq.1 ‹((j:Int)==0)=true›
          have N:K (x=(f,j,e,wrg a)):=w_;clear i;apply (No _ _ b a _ _ g.1).m;rintro i a9 ⟨rfl,l,D⟩;have P:=K_ l (g.2.T D);clear l D g;go_wp2;go_ret2
          rw[N];exact⟨X,P⟩
        | have i:=beq_eq_false_iff_ne.1 ‹((j:Int)==0)=false›
          have N:K (x=(f,j,e,a)):=w_;go_ret2
          rw[N];exact⟨X,g⟩
def Ym(c:ZC)(e:E):H->E->H->E×H×H
 |0,b,a=>(b,0,a)
 |d+1,b,a=>if Ji c a e=Z0 then Ym c e d (10*b+(Eh c a-48)) (a+1) else(b,d+1,a)
def ptF(c:ZC)(b:H)(a:E)(e:H)(f:E):E×H×H×E:=
 if Bp c b a 46=Z0/\0<e then
  let g:=if Ji c (b+1) a=Z0 then a else wrg a
  let d:=Ym c g e f (b+1)
  (d.1,d.2.1,d.2.2,g)
 else(f,e,b,a)
def jk(b:ZC)(d:H)(f:E)(g:H):E×H×E:=
 let e:=Bp b d f 45
 let c:=Oh b (if e=Z0 then d+1 else d) f 5 Z0
 let a:=ptF b c.2.2.1 c.2.2.2 g c.1
 (if e=Z0 then -(a.1*10^a.2.1) else a.1*10^a.2.1,a.2.2.1,a.2.2.2)
def ZjU{a c d}(b:Ji a c d=Z0):=(of_decide_eq_true b).2
def Zgj e g h:∀b a c d,0<=c->c<10^a->0<=(Py e g h b a c d).1/\(Py e g h b a c d).1<10^(b+a)
 |0,a,c,d,f,i=>by simpa [Py] using ⟨f,i⟩
 | b +1,a,c,d,f,i=>by
  unfold Py;split
  ·rename_i j;have:=ZjU j.1;have:=Zgj e g h b (a+1) (10*c+(Eh e d-48)) (d+1) O O
   grind
  refine⟨f,?_⟩
  have j:(10:E)^a<=10^(b+1+a):=by
   have:=Nat.pow_le_pow_right (show 0<10 by omega) (show a<=b+1+a by omega)
   grind
  omega
def Zni a b c:0<=(Oh a b c 5 Z0).1/\(Oh a b c 5 Z0).1<100000:=by unfold Oh;rw[aC s_];exact Zgj a c _ 5 0 0 b O C
def Zao{d:H}(k:H){c:H} b q {p n}(b4:Fl n d b k q p)(e3:c<=3)(d2:ZK b<=1000000000000000):C_ 328 #[P_ d,I c] n λv a=>v=ZI (ZX ZQ (jk b k q c).1)/\Fl a d b (jk b k q c).2.1 (jk b k q c).2.2 p/\Aa (λh=>h=d) n a:=by
 have G:=Fk k b q 45 n b4 C;have⟨c7,b0⟩:=ez_ (jk b k q c);rw[b0];refine q_ ?_;go_wp2_with fail
 apply G.m;rintro v c4 ⟨rfl,m,j⟩;have x:K (Fl c4 d b k q p/\Aa (λh=>h=d) n c4):=j ▸ ⟨b4.drew m,(Aa.refl _ _).drewN m⟩;clear b4 G j m;have⟨a8,a1⟩:=ez_ (Bp b k q 45);rw[a1];obtain⟨P,a0⟩:∃P,K (P=if a8=Z0 then k+1 else k):=⟨_,X⟩;go_upto_if 14 with fail
 go_cut [] (λa=>K (Fl a d b P q p/\Aa (λh=>h=d) n a))
 case first=>
  cases a8 with
  | true=>
   have d0:=Hq C a1;have⟨b1,b2,_⟩:=x.1.cells;have b3:=R_ 1 _ _ x.1;have a:K (_=k+1):=a0.out;go_wp2;go_meet
   have⟨Q,R⟩:=x.1.k (k+1);rw[a];exact⟨Q,x.2.T R⟩
  | false=>
   have a:K (_=k):=a0.out;go_wp2;go_meet
   rw[a];exact x
 clear x;have s:=gh _ 5 b q Z0 hcut.out.1 O d2;have N:=Zni b P q;have⟨c6,a9⟩:=ez_ (Oh b P q 5 Z0);rw[a9] at s N;obtain⟨m,e5,f,o⟩:=c6;simp only at s N;go_wp2_with fail
 apply s.m;rintro v f0 ⟨rfl,c1,c3⟩;have a3:=K_ c1 (hcut.out.2.T c3);clear c1 c3 hcut s;have G:=Fk _ b _ 46 _ a3.1 C;go_wp2_with fail
 apply G.m;rintro v y ⟨rfl,r,j⟩;have u:K (Fl y d b f o p/\Aa (λh=>h=d) n y):=j ▸ ⟨a3.1.drew r,a3.2.drewN r⟩;clear a3 G j r;have⟨g,z⟩:=ez_ (ptF b f o c m);have⟨b8,w⟩:=ez_ (Bp b f o 46);rw[w];go_upto_region 7 with fail;go_cut [34] (λe a=>e=ZR (b8&&ZE (0<c))/\a=y)
 case first=>
  cases b8 with
  |false=>go_wp2;go_meet;grind
  |true=>go_wp2;go_meet;grind
 obtain⟨rfl,j⟩:=hcut;obtain rfl:=j.s;clear j;have⟨d8,D⟩:=ez_ ((b8&&ZE (0<c)));rw[D];go_upto_if 34 with fail
 go_cut [8,6] (λl e a=>l=I (g.2.1:H)/\e=I g.1/\K (g.2.1<=c/\0<=g.1/\g.1<10^(8-g.2.1)/\Fl a d b g.2.2.1 g.2.2.2 p/\Aa (λh=>h=d) n a))
 case first=>
  cases d8 with
  | false=>
   have S:K (g=(m,c,f,o)):=by
    show _=_;have M:=D.out;rw[<- z];refine aC λa=>?_;rw[<- w,a.1,aF a.2] at M
    cases M
   go_wp2;go_meet
   rw[S];refine⟨X,X,x_,N.1,?_,u⟩;have:(c:H)=0∨c=1∨c=2∨c=3:=O
   grind
  | true=>
   have M:=D.out;rw[Bool.and_eq_true,decide_eq_true_eq] at M;obtain⟨rfl,d7⟩:=M;have d0:=Hq C w;obtain⟨i,a6⟩:∃i,K (i=if Ji b (f+1) o=Z0 then o else wrg o):=⟨_,X⟩;have S:K (g=((Ym b i c m (f+1)).1,(Ym b i c m (f+1)).2.1,(Ym b i c m (f+1)).2.2,i)):=(by show _=_;rw[<- z,a6];exact aD ⟨w,d7⟩);clear z w D;have⟨b1,b2,c8,_⟩:=u.1.cells;have b3:=R_ 1 _ _ u.1;have a4:K (Fl (ZO y (J d 1) (I (f+1))) d b (f+1) o p/\Aa (λh=>h=d) n (ZO y (J d 1) (I (f+1)))):=(by have⟨Q,R⟩:=u.1.k (f+1);exact⟨Q,u.2.T R⟩);clear u;go_upto_region 9 with fail;generalize (ZO y) (J d 1) (I ((f:E)+1))=f1 at *;clear b1 b2 c8 b3;have A:=Rk b _ a4.1;go_wp2_with fail
   apply A.m;rintro v b9 ⟨rfl,r,j⟩;have L:K (Fl b9 d b (f+1) o p/\Aa (λh=>h=d) n b9):=j ▸ ⟨a4.1.drew r,a4.2.drewN r⟩;clear a4 A j r;have⟨c9,W⟩:=ez_ (Ji b (f+1) o);rw[W];go_upto_if 45 with fail
   go_cut [8,6] (λl e a=>l=I (c:H)/\e=I m/\K (Fl a d b (f+1) i p/\Aa (λh=>h=d) n a))
   case first=>
    cases c9 with
    | true=>
     have a:K (i=o):=(by show _=_;rw[a6];exact aD W);go_wp2;go_meet
     rw[a];exact⟨X,X,L⟩
    | false=>
     have a:K (i=wrg o):=(by show _=_;rw[a6];exact aC (by rw[W];decide));go_wp2_with fail
     apply (No d (f+1) b o p b9 L.1).m;rintro v t ⟨rfl,e,h⟩;have l:=K_ e (L.2.T h);clear e h L;go_wp2;go_meet
     rw[a];exact⟨X,X,l⟩
   obtain⟨rfl,rfl,c0⟩:=hcut;clear L a6 W;go_wp2_with fail
   go_loopw [8,6] (λt Q R=>∃(a l:H) (e:E),t=I a/\Q=I e/\a<=c/\0<=e/\e<10^(8-a)/\K (Ym b i c m (f+1)=Ym b i a e l)/\K (Fl R d b l i p/\Aa (λh=>h=d) n R)) (λt _ _=>ZL (intOf t))
   case atStart=>
    refine⟨c,f+1,m,X,X,x_,N.1,?_,X,c0⟩;have:(c:H)=1∨c=2∨c=3:=O
    rcases this with rfl|rfl|rfl<;>omega
   clear c0;obtain⟨a,l,e,rfl,rfl,d3,d5,b5,t,a2⟩:=hrel
   by_cases d4:0<a
   ·obtain⟨a,rfl⟩:∃b7,a=b7+1:=⟨a-1,O⟩;have e0:0<((a+1:H):E):=O;have A:=Rk b _ a2.1;go_wp2_with fail
    apply A.m;rintro v c5 ⟨rfl,r,j⟩;have a5:K (Fl c5 d b l i p/\Aa (λh=>h=d) n c5):=j ▸ ⟨a2.1.drew r,a2.2.drewN r⟩;clear a2 A j r
    cases a7:Ji b l i with
    | true=>
     have⟨d1,_,e1,e2,c2⟩:=yn a7;have s:K (Ym b i c m (f+1)=Ym b i a (10*e+(Eh b l-48)) (l+1)):=(by show _=_;rw[t,Ym,aD a7]);rw[c2] at s;have d9:=F_ l (ZK b);have b6:(10:E)^(8-a)=10^(8-(a+1))*10:=by rw[show 8-a=(8-(a+1))+1 by omega];omega
     have d6:(10:E)^(8-(a+1))<=10000000:=by
      have:a=0∨a=1∨a=2:=O
      rcases this with rfl|rfl|rfl<;>decide
     have⟨b1,b2,_⟩:=a5.1.cells;have b3:=R_ 1 _ _ a5.1;generalize e4:((b[l]'d1).toNat:E)=h at *;have e6:IntKind.u8.wrap (h-48)=h-48:=(by simp[wrap,IntKind.bits,signed];omega);have e7:_=h-48:=Au O O;have e8:_=10*e:=Au O O;have e9:_=10*e+(h-48):=Au O O;clear t a7 c2;go_upto_region 15 with fail;go_quiet (fail);go_wp2;go_roundw
     case rel=>
      have⟨Q,R⟩:=(a5.1.drew nq).k (l+1);exact⟨a,l+1,10*e+(h-48),g_,X,O,O,p_ b6,s,Q,(a5.2.drewN _).T R⟩
     exact z_
    | false=>
     have h:K (g=(e,a+1,l,i)):=(by show _=_;rw[S,t,Ym,aC (by rw[a7];decide)]);go_wp2;go_meet
     rw[h]
     grind
   have Q:a=0:=O;subst Q;have h:K (g=(e,0,l,i)):=(by show _=_;rw[S,t,Ym]);go_wp2;go_meet
   rw[h]
   grind
 obtain⟨rfl,rfl,i⟩:=hcut;clear u D w N;have⟨M,R,S,_⟩:=i.out;have A:K (c7=(if a8=Z0 then -(g.1*10^g.2.1) else g.1*10^g.2.1,g.2.2.1,g.2.2.2)):=(by show _=_;rw[<- b0];unfold jk;simp only;rw[a1,<- a0,a9];simp only;rw[z]);clear b0 a9 z a1 a0;obtain⟨L,l,a4,a5⟩:=g;simp only at M R S i A;go_wp2_with fail
 go_loopw [8,6] (λt Q h=>∃(a:H) (e:E),t=I a/\Q=I e/\a<=l/\0<=e/\e<10^(8-a)/\K (L*10^l=e*10^a)/\h=wc) (λt _ _=>ZL (intOf t))
 grind
 obtain⟨a,e,rfl,rfl,d3,d5,b5,t,W⟩:=hrel;subst W
 by_cases d4:0<a
 ·obtain⟨a,rfl⟩:∃b7,a=b7+1:=⟨a-1,O⟩;have b6:(10:E)^(8-a)=10^(8-(a+1))*10:=by rw[show 8-a=(8-(a+1))+1 by omega];omega
  have d6:(10:E)^(8-(a+1))<=10000000:=by
   have:a=0∨a=1∨a=2:=O
   grind
  have s:K (L*10^l=10*e*10^a):=w_;clear t;refine J_ ?_;exact⟨a,10*e,g_,X,O,O,p_ b6,s,trivial⟩
 have Q:a=0:=O;subst Q;have a2:e<100000000:=b5;have h:K (L*10^l=e):=w_;clear t b5
 cases a8 with
 | true=>
  go_wp2;go_ret;rw[A,h];exact⟨X,i.2.2.2⟩
 | false=>
  go_wp2;go_ret;rw[A,h];exact⟨X,i.2.2.2⟩
def pu(a:ZC)(b:H):ZG:=Yx a b 0||Bp a b 0 32||Bp a b 0 44||Bp a b 0 10
def ij(c:ZC):H->U E->H->U E×H×E
 |0,b,a=>(b,a,2)
 | d +1,b,a=>
  if Bp c a 0 34=Z0 then
   if Bp c (a+1) 0 34=Z0/\F b≠8 then ij c d (b++[34]) (a+2) else(b,a+1,0)
  else if pu c a=Z0/\F b≠8 then ij c d (b++[Eh c a]) (a+1) else(b,a,2)
def qe b x {a}(c:a=ZB [x]):ZB b++a=ZB (b++[x]):=by rw[c];apply ByteArray.ext;simp[ZB]
def Bi a:ZK (ZB a)=F a:=by simp[ZB,ZK]
def ZfQ{a b}(c:b<a.size):a.extract b (b+1)=strOfNums [Eh a b]:=by rw[aq c];apply ByteArray.ext;rw[ByteArray.data_extract];apply Array.ext;show(a.data.extract b (b+1)).size=1;rw[Array.size_extract];have:a.data.size=a.size:=rfl;omega;intro e f d;have:e=0:=(by simp[strOfNums] at d;omega);subst this;simp[strOfNums];rfl
def jr{a b}(c:pu a b=Z0):b<ZK a:=by grind [pu,Yx,Bp,Uf]
def ZcM{e} n a {l k}(p:Fl k e a n 0 l)(a8:Bp a n 0 34=Z0)(b8:ZK a<=1000000000000000):C_ 344 #[P_ e] k λo b=>o=ZI (YW (ZB (ij a 9 [] (n+1)).1))/\Fl b e a (ij a 9 [] (n+1)).2.1 (ij a 9 [] (n+1)).2.2 l/\Aa (λi=>i=e) k b:=by
 have g:=ed _ n a 0 34 _ k p C b8;have b2:Pa a n 0 _=_:=aD a8;have b3:Pt a n 0 _=0:=aD a8;rw[b2,b3] at g;have⟨x,a5⟩:=ez_ (ij a 9 [] (n+1));rw[a5];clear p b2 b3 a8;refine q_ ?_;go_wp2_with fail
 apply g.m;rintro o c4 ⟨rfl,M,b5⟩;have b1:=K_ M b5;clear M b5 g;go_wp2_with fail
 go_loopw [3] (λc f=>∃(d:U E) (b:H),c=YW (ZB d)/\F d<=8/\K (x=ij a (9-F d) d b)/\K (Fl f e a b 0 l/\Aa (λi=>i=e) k f)) (λc _=>9-(match c with|.string b=>ZK b|_=>0))
 exact⟨[],n+1,X,s_,a5.s,b1⟩;clear b1 a5;obtain⟨d,b,rfl,c3,m,w⟩:=hrel;have⟨D,G,a6,_⟩:=w.1.cells;have g:=Fk _ a 0 34 _ w.1 C;obtain⟨t,b7⟩:∃t,9-F d=t+1:=⟨8-F d,O⟩;rw[b7] at m;go_wp2_with fail
 apply g.m;rintro o N ⟨rfl,f,h⟩;have c:K (Fl N e a b 0 l/\Aa (λi=>i=e) k N):=h ▸ ⟨w.1.drew f,w.2.drewN f⟩;clear w g h f D G a6
 cases q:Bp a b 0 34 with
 | true=>
  have b4:=Hq C q;have⟨D,G,a6,_⟩:=c.1.cells;have a7:=R_ 1 _ _ c.1;have s:K (Fl (ZO N (J e 1) (I (b+1))) e a (b+1) 0 l/\Aa (λi=>i=e) k (ZO N (J e 1) (I (b+1)))):=(by have⟨Q,R⟩:=c.1.k (b+1);exact⟨Q,c.2.T R⟩);clear c;go_upto_region 7 with fail;generalize (ZO N) (J e 1) (I ((b:E)+1))=b0 at *;clear D G a6 a7;have g:=Fk _ a 0 34 _ s.1 C;go_wp2_with fail
  apply g.m;rintro o P ⟨rfl,f,h⟩;have j:K (Fl P e a (b+1) 0 l/\Aa (λi=>i=e) k P):=h ▸ ⟨s.1.drew f,s.2.drewN f⟩;clear s g h f;have a9:=Bi d
  by_cases i:Bp a (b+1) 0 34=Z0/\F d≠8
  ·have r:K (x=ij a t (d++[34]) (b+2)):=(by show _=_;rw[m,ij,aD q,aD i]);have u:=Hq C i.1;rw[i.1];have⟨D,G,_⟩:=j.1.cells;have a7:=R_ 1 _ _ j.1;have v:K (_++(⟨#[34]⟩:ZC)=_):=qe d 34 X;have b9:F d<8:=O;have a4:9-F (d++[34])=t:=(by rw[Qe,length_singleton];omega);clear q i m;go_wp2;go_roundw
   case rel=>
    have⟨Q,R⟩:=j.1.k (b+2);exact⟨d++[34],b+2,by rw[v],t_,a4 ▸ r,Q,j.2.T R⟩
   rw[v];simp[Bi];omega
  have r:K (x=(d,b+1,0)):=(by show _=_;rw[m,ij,aD q,aC i]);clear q
  cases u:Bp a (b+1) 0 34 with
  | true=>
   have h8:((ZK (ZB d):E)==8)=Z0:=beq_iff_eq.2 (by
    have:F d=8:=Decidable.byContradiction λp=>i ⟨u,p⟩
    omega)
   clear u i m;go_wp2;go_ret;rw[r];exact⟨X,j⟩
  | false=>
   clear u i m;go_wp2;go_ret;rw[r];exact⟨X,j⟩
 | false=>
  have g:=gg a 0 c.1;go_wp2_with fail
  apply g.m;rintro o b0 ⟨rfl,f,h⟩;have j:K (Fl b0 e a b 0 l/\Aa (λi=>i=e) k b0):=h ▸ ⟨c.1.drew f,c.2.drewN f⟩;clear g h f c;have⟨y,a0⟩:=ez_ (Yx a b 0);rw[a0];have c:=j;clear j;have g:=Fk _ a 0 32 _ c.1 C;go_wp2_with fail
  apply g.m;rintro o P ⟨rfl,f,h⟩;have j:K (Fl P e a b 0 l/\Aa (λi=>i=e) k P):=h ▸ ⟨c.1.drew f,c.2.drewN f⟩;clear g h f c;have⟨z,a1⟩:=ez_ (Bp a b 0 32);rw[a1];have c:=j;clear j;have g:=Fk _ a 0 44 _ c.1 C;go_wp2_with fail
  apply g.m;rintro o b6 ⟨rfl,f,h⟩;have j:K (Fl b6 e a b 0 l/\Aa (λi=>i=e) k b6):=h ▸ ⟨c.1.drew f,c.2.drewN f⟩;clear g h f c;have⟨A,a2⟩:=ez_ (Bp a b 0 44);rw[a2];have c:=j;clear j;have g:=Fk _ a 0 10 _ c.1 C;go_wp2_with fail
  apply g.m;rintro o W ⟨rfl,f,h⟩;have j:K (Fl W e a b 0 l/\Aa (λi=>i=e) k W):=h ▸ ⟨c.1.drew f,c.2.drewN f⟩;clear g h f c;have⟨L,a3⟩:=ez_ (Bp a b 0 10);rw[a3];have c:=j;clear j;have S:K (pu a b=(y||z||A||L)):=(by show _=_;unfold pu;rw[a0,a1,a2,a3]);have a9:=Bi d;clear a0 a1 a2 a3;obtain⟨s,u⟩:∃s,K (ZE (F d=8)=s):=⟨_,X⟩
  have h8:((ZK (ZB d):E)==8)=s:=by
   rw[<- u,a9]
   by_cases p:F d=8
   rw[aF p];exact beq_iff_eq.2 O;rw[aE p];exact aO O
  go_upto_region 16 with fail;go_cut [72] (λi r=>i=ZR (!(y||z||A||L)||s)/\r=W)
  case first=>
   clear a9
   cases y<;>cases z<;>cases A<;>cases L<;>(go_wp2;go_meet;first|exact⟨X,X⟩|exact⟨by rw[h8];rfl,rfl⟩|exact⟨s_,rfl⟩)
  obtain⟨rfl,h⟩:=hcut;obtain rfl:=h.s;clear h
  by_cases i:pu a b=Z0/\F d≠8
  ·have r:K (x=ij a t (d++[Eh a b]) (b+1)):=(by show _=_;rw[m,ij,aC (by rw[q];decide),aD i]);have b4:=jr i.1;have v:=Y (qe d _ (ZfQ b4));rw[show(!(y||z||A||L)||s)=ZZ by rw[<- S,i.1,<- u,aE i.2];rfl];have⟨D,G,_⟩:=c.1.cells;have a7:=R_ 1 _ _ c.1;have c0:0<=(b:E):=O;have c1:b<=(b:E)+1:=O;have c2:b+1<=(ZK a:E):=O;have a4:9-F (d++[Eh a b])=t:=(by rw[Qe,length_singleton];omega);have b9:F d<8:=O;clear q i m S h8 u;go_upto_region 18 with fail;go_quiet (fail);go_wp2;go_roundw
   case rel=>
    have⟨Q,R⟩:=(c.1.drew nq).k (b+1);exact⟨d++[Eh a _],b+1,by rw[<- v],t_,a4 ▸ r,Q,(c.2.drewN _).T R⟩
   (try simp only[v.out]);(try simp[Bi]);(try omega)
  have r:K (x=(d,b,2)):=by show _=_;rw[m,ij,aC (by rw[q];decide),aC i]
  rw[show(!(y||z||A||L)||s)=Z0 by
   rw[<- S,<- u]
   by_cases M:pu a b=Z0
   rw[aF (Decidable.byContradiction λp=>i ⟨M,p⟩),Bool.or_true]
   rw[Bool.not_eq_true _|>.mp M];rfl]
  clear q i m S h8 u;go_wp2_with fail
  apply (No e b a 0 l W c.1).m;rintro o R ⟨rfl,v,Q⟩;have j:K (Fl _ _ a _ 2 _/\_):=⟨v,c.2.T Q⟩;clear v Q c;go_wp2;go_ret;rw[r];exact⟨X,j⟩
def Nj(c:ZC):H->U E->H->U E×H
 |0,b,a=>(b,a)
 |d+1,b,a=>if Yx c a 0=Z0 then Nj c d (b++[Eh c a]) (a+1) else(b,a)
def iy(a:ZC)(b:H):U E×H×E:=
 if Bp a b 0 34=Z0 then ij a 9 [] (b+1) else((Nj a 8 [] b).1,(Nj a 8 [] b).2,0)
def Zj2{b c a d}(f:a<b.size)(g:c<=a)(e:b.extract c a=strOfNums d):b.extract c (a+1)=strOfNums (d++[Eh b a]):=by rw[<- qe d _ (ZfQ f),<- e,ByteArray.extract_append_extract,Nat.min_eq_left g,Nat.max_eq_right O]
def ZiA{e} b a {p j}(D:Fl j e a b 0 p)(a3:b<=ZK a)(a2:ZK a<=1000000000000000):C_ 327 #[P_ e] j λu c=>u=ZI (YW (ZB (iy a b).1))/\Fl c e a (iy a b).2.1 (iy a b).2.2 p/\Aa (λi=>i=e) j c:=by
 have N:=Fk b a 0 34 j D C;have⟨y,s⟩:=ez_ (iy a b);rw[s];refine q_ ?_;go_wp2_with fail
 apply N.m;rintro u P ⟨rfl,o,n⟩;have k:K (Fl P e a b 0 p/\Aa (λi=>i=e) j P):=n ▸ ⟨D.drew o,(Aa.refl _ _).drewN o⟩;clear D N n o
 cases x:Bp a b 0 34 with
 | true=>
  have c:=ZcM b a k.1 x a2;have v:iy a b=_:=aD x;rw[<- v,s] at c;clear v;go_wp2_with fail
  apply c.m;rintro u G ⟨rfl,d,f⟩;have g:=K_ d (k.2.T f);clear d f k c;go_wp2;go_ret;exact⟨X,g⟩
 | false =>
  have M:K (y=((Nj a 8 [] b).1,(Nj a 8 [] b).2,0)):=(by show _=_;rw[<- s];exact aC (by rw[x];decide));have⟨t,l,z,_⟩:=k.1.cells;clear x s;go_upto_region 5 with fail;clear t l z;go_loopw [5] (λ_ f=>∃(d:U E) (c:H),F d<=8/\K (c=b+F d)/\c<=ZK a/\K (a.extract b c=ZB d)/\K (Nj a 8 [] b=Nj a (8-F d) d c)/\K (Fl f e a c 0 p/\Aa (λi=>i=e) j f)) (λ_ c=>8-(match ZV c (J e 1) with|some (ZX _ o)=>ZL o-b|_=>0))
  exact⟨[],b,s_,X,a3,by show _=_;apply ByteArray.ext;simp[ZB],X,k⟩;clear k;obtain⟨d,c,a7,r,a9,q,f,g⟩:=hrel;have a8:b<=c:=p_ r.out;have⟨t,l,z,_⟩:=g.1.cells
  by_cases a6:F d<8
  ·have W:c-(b:E)<8:=p_ r.out;have L:=gg a 0 g.1;have Q:=Y l;obtain⟨w,a0⟩:∃w,8-F d=w+1:=⟨7-F d,O⟩;rw[a0] at f;go_wp2_with fail
   apply L.m;rintro u G ⟨rfl,A,n⟩;have h:K (Fl G e a c 0 p/\Aa (λi=>i=e) j G):=n ▸ ⟨g.1.drew A,g.2.drewN A⟩;clear g L n A t l z;have⟨t,l,_⟩:=h.1.cells
   cases m:Yx a c 0 with
   | true=>
    have a1:=jr (by unfold pu;rw[m];rfl);have i:K (Nj a 8 [] b=Nj a w (d++[Eh a c]) (c+1)):=(by show _=_;rw[f,Nj,aD m]);have R:=Y (Zj2 a1 O q);have S:8-F (d++[Eh a c])=w:=w_;have a5:=R_ 1 _ _ h.1;clear m f q;go_wp2;go_roundw
    case rel=>
     have⟨v,a4⟩:=h.1.k (c+1);exact⟨d++[Eh a _],c+1,t_,by show _=_;rw[r];simp;omega,O,R,S ▸ i,v,h.2.T a4⟩
    case measure=>
     have v:=(h.1.k (c+1)).1.cells.2.1;rw[show((c:E)+1)=((c+1:H):E) by omega,v,Q.out]
     grind
   | false=>
    have i:K (y=(d,c,0)):=(by show _=_;rw[M,f,Nj,aC (by rw[m];decide)]);have v:0<=(b:E):=O;have R:b<=(c:E):=O;have S:c<=(ZK a:E):=O;clear m f;go_upto_region 9 with fail;go_quiet (fail);go_wp2;go_ret;rw[i,<- q];exact⟨X,h.1.drew _,h.2.drewN _⟩
  have W:¬c-(b:E)<8:=p_ r.out;have i:K (y=(d,c,0)):=(by show _=_;rw[M,f,show 8-F d=0 by omega,Nj]);have v:0<=(b:E):=O;have R:b<=(c:E):=O;have S:c<=(ZK a:E):=O;clear f;go_upto_region 9 with fail;go_quiet (fail);go_wp2;go_ret;rw[i,<- q];exact⟨X,g.1.drew _,g.2.drewN _⟩
def jn(a:ZC)(b:H)(e:ZG)(d:H)(c:E):VS×H×E:=
 if Bp a b 0 c=Z0 then(⟨Z0,0,⟨#[]⟩⟩,b+1,0)
 else if e=Z0 then(⟨ZZ,0,ZB (iy a b).1⟩,Pa a (iy a b).2.1 (iy a b).2.2 c,Pt a (iy a b).2.1 (iy a b).2.2 c)
 else(⟨ZZ,(jk a b 0 d).1,⟨#[]⟩⟩,Pa a (jk a b 0 d).2.1 (jk a b 0 d).2.2 c,Pt a (jk a b 0 d).2.1 (jk a b 0 d).2.2 c)
def Fl.p{d w' K a S b e c}(f:Fl d a S b e c)(h:Aa K d w')(g:¬K a):Fl w' a S b e c:=h.g f g
def Fl.lt{b a c k f e}(d:Fl b a c k f e):a<B b.1:=(Qb d).1
structure xh(b a:ZT)(d h c:H)(f)(k)(j)(g)(i)(e:VS):Prop where
 r:Fl a d f c k i
 u:a.1[B b.1]? =T (O_ #[ZR j,I h,I g] 51)
 o:a.1[B b.1+1]? =T (O_ #[ZR ZZ,I 0,Q_ ⟨#[]⟩] 335)
 vl:a.1[B b.1+1+1]? =T (O_ #[ZR e.a,I e.num,Q_ e.f] 335)
 t:Aa (λc=>c=d) b a
 n:d<B b.1
section
variable {w W d:ZT} {b sc a q':H} {S:ZC} {y e:E} {wd:ZG} {ct:E} {c:ZY} {v:VS}
def xh.p(f:xh w W b sc a S y wd ct c v)(i:Fl d b S q' e c)(g:Aa (λa=>a=b) W d):xh w d b sc q' S e wd ct c v:=
 have h:=f.n
 ⟨i,g.g f.u O,g.g f.o O,g.g f.vl O,f.t.T g,h⟩
def xh.f(d:xh w W b sc a S y wd ct c v) f:xh w (ZO W (J (B w.1+1+1) 2) (Q_ f)) b sc a S y wd ct c ⟨v.a,v.num,f⟩:=by have h:=d.n;have e:Aa _ W (ZO W _ (Q_ f)):=(Aa.refl (λg=>g=B w.1+1+1) _).setCell (p:=(J (B w.1+1+1) 2)) (λ_=>X) _;exact⟨d.r.p e O,e.g d.u O,e.g d.o O,ht_ 2 _ _ _ d.vl,d.t.setCell (p:=(J (B w.1+1+1) 2)) (λg=>absurd g w_) _,h⟩
def xh.num(d:xh w W b sc a S y wd ct c v) f:xh w (ZO W (J (B w.1+1+1) 1) (I f)) b sc a S y wd ct c ⟨v.a,f,v.f⟩:=by have h:=d.n;have e:Aa _ W (ZO W _ (I f)):=(Aa.refl (λg=>g=B w.1+1+1) _).setCell (p:=(J (B w.1+1+1) 1)) (λ_=>X) _;exact⟨d.r.p e O,e.g d.u O,e.g d.o O,ht_ 1 _ _ _ d.vl,d.t.setCell (p:=(J (B w.1+1+1) 1)) (λg=>absurd g w_) _,h⟩
def xh.cells(d:xh w W b sc a S y wd ct c v):(ZV W (J (B w.1) 0)=T (ZR wd)/\ZV W (J (B w.1) 1)=T (I sc))/\(ZV W (J (B w.1+1+1) 0)=T (ZR v.a)/\ZV W (J (B w.1+1+1) 1)=T (I v.num)/\ZV W (J (B w.1+1+1) 2)=T (Q_ v.f)/\YT W (J (B w.1+1+1) 1)=ZZ/\YT W (J (B w.1+1+1) 2)=ZZ)/\ZV W (J (B w.1+1) 0)=T (ZR ZZ)/\ZV W (J (B w.1+1) 1)=T (I 0)/\ZV W (J (B w.1+1) 2)=T (Q_ ⟨#[]⟩)/\YT W (J (B w.1+1) 0)=ZZ/\YT W (J (B w.1+1) 1)=ZZ/\YT W (J (B w.1+1) 2)=ZZ:=
 ⟨⟨M_ 0 _ 51 (0,0) d.u,M_ 1 _ 51 (0,0) d.u⟩,⟨M_ 0 _ 335 (0,0) d.vl,M_ 1 _ 335 (0,0) d.vl,M_ 2 _ 335 (0,0) d.vl,R_ 1 _ 335 d.vl,R_ 2 _ 335 d.vl⟩,M_ 0 _ 335 (0,0) d.o,M_ 1 _ 335 (0,0) d.o,M_ 2 _ 335 (0,0) d.o,R_ 0 _ 335 d.o,R_ 1 _ 335 d.o,R_ 2 _ 335 d.o⟩
def xh.h(f:xh w W b sc a S y wd ct c v):∃d,d=ZO (ZO (ZO W (J (B w.1+1) 0) (ZR v.a)) (J (B w.1+1) 1) (I v.num)) (J (B w.1+1) 2) (Q_ v.f)/\(ZV d (J (B w.1+1) 0)=T (ZR v.a)/\ZV d (J (B w.1+1) 1)=T (I v.num)/\ZV d (J (B w.1+1) 2)=T (Q_ v.f))/\Fl d b S a y c/\Aa (λa=>a=b) w d:=by
 have h:=f.n;have g:=ht_ 2 _ _ (Q_ v.f) (ht_ 1 _ _ (I v.num) (ht_ 0 _ _ (ZR v.a) f.o));refine⟨_,X,⟨M_ 0 _ _ _ g,M_ 1 _ _ _ g,M_ 2 _ 335 _ g⟩,f.r.p ((((Aa.refl (λe=>e=B w.1+1) W).setCell (p:=(J (B w.1+1) 0)) (λ_=>X) (ZR v.a)).setCell (p:=(J (B w.1+1) 1)) (λ_=>X) (I v.num)).setCell (p:=(J (B w.1+1) 2)) (λ_=>X) (Q_ v.f)) O,?_⟩;exact((f.t.setCell (p:=(J (B w.1+1) 0)) (λe=>absurd e w_) _).setCell (p:=(J (B w.1+1) 1)) (λe=>absurd e w_) _).setCell (p:=(J (B w.1+1) 2)) (λe=>absurd e w_) _
def xh.g(e:Fl w b S a 0 c) f g:xh w (ZN (Y1 (ZN (ZN w (O_ #[ZR wd,I sc,I ct] 51)) (O_ #[ZR ZZ,I 0,Q_ ⟨#[]⟩] 335)) f) (O_ #[ZR g,I 0,Q_ ⟨#[]⟩] 335)) b sc a S 0 wd ct c ⟨g,0,⟨#[]⟩⟩:=by
 have p:Aa (λ_=>False) w (ZN w (O_ #[ZR wd,I sc,I ct] 51)):=(Aa.refl _ w).alloc _;have o:=ha_ w (O_ #[ZR wd,I sc,I ct] 51);have n:B (ZN w (O_ #[ZR wd,I sc,I ct] 51)).1=B w.1+1:=s_;generalize (ZN w) (O_ #[ZR wd,I sc,I ct] 51)=d at *;have l:Aa (λ_=>False) d (ZN d (O_ #[ZR ZZ,I 0,Q_ ⟨#[]⟩] 335)):=(Aa.refl _ _).alloc _;have j:=ha_ d (O_ #[ZR ZZ,I 0,Q_ ⟨#[]⟩] 335);have q:B (ZN d (O_ #[ZR ZZ,I 0,Q_ ⟨#[]⟩] 335)).1=B d.1+1:=s_;generalize (ZN d) (O_ #[ZR ZZ,I 0,Q_ ⟨#[]⟩] 335)=h at *;have i:Aa (λ_=>False) h (ZN (Y1 h f) (O_ #[ZR g,I 0,Q_ ⟨#[]⟩] 335)):=((Aa.refl _ _).drewN f).alloc _;have k:=ha_ (Y1 h f) (O_ #[ZR g,I 0,Q_ ⟨#[]⟩] 335);rw[heap_drewN,q,n] at k;rw[n] at j
 have m:=p.T (l.T i);exact⟨e.p m id,i.g (l.g o id) id,i.g j id,k,m.m (λ_ _ e=>e.elim),e.lt⟩
end
def Ze5{j b:H}(d:H) a {g} k {e m i}(G:Fl i j a b 0 m)(a1:b<=ZK a)(a2:g=ZZ->d<=3)(L:0<=e)(z:ZK a<=1000000000000000):C_ 287 #[P_ j,Y9 #[ZR g,I d,I k],ZX .u8 e] i λq f=>q=ZI (Y9 #[ZR (jn a b g d e).1.a,ZX ZQ (jn a b g d e).1.num,YW (jn a b g d e).1.f])/\Fl f j a (jn a b g d e).2.1 (jn a b g d e).2.2 m/\Aa (λc=>c=j) i f:=by
 have⟨w,t⟩:=ez_ (jn a b g d e);rw[t];refine dl_ ?_;go_enter func287,ntmps287;go_wp2_with fail
 apply (Fk b a 0 _ (ZN (ZN i (O_ #[ZR g,I d,I k] 51)) (O_ #[ZR ZZ,I 0,Q_ ⟨#[]⟩] 335)) (G.q (r_.alloc s_ _)) L).m;rintro q b3 ⟨rfl,u,rfl⟩;generalize a9:Bp a b 0 e=y at *;have l:=Y ((λu c=>xh.g (wd:=g) (sc:=d) (ct:=k) G u c) u y);go_upto_region 3 with fail;generalize (ZN (Y1 (ZN (ZN i (O_ #[ZR g,I d,I k] 51)) (O_ #[ZR ZZ,I 0,Q_ ⟨#[]⟩] 335)) u) (O_ #[ZR y,I 0,Q_ ⟨#[]⟩] 335))=x at *;have⟨A,D⟩:=l.cells.1
 cases y
 rotate_left
 focus
  have v:K (∃c f h,xh i x j d c a f g k m h/\w=(h,Pa a c f e,Pt a c f e)):=by
   refine⟨b,0,_,l,?_⟩;rw[<- t];unfold jn Pa Pt
   grind
  go_upto_region 7 with fail
 rotate_left
 cases g
 focus
  have Q:=Zao b a 0 l.r (a2 X) z;go_wp2_with fail
  apply Q.m;rintro q n ⟨rfl,r,s⟩;have o:=Y (l.p r s);have⟨⟨A,D⟩,⟨M,N,P,R,S⟩,_⟩:=o.cells;have p:=o.num (jk a b 0 d).1
  have v:K (∃c f h,xh i (ZO n (J (B i.1+1+1) 1) (I (jk a b 0 d).1)) j d c a f ZZ k m h/\w=(h,Pa a c f e,Pt a c f e)):=by
   refine⟨_,_,_,p,?_⟩;rw[<- t];unfold jn
   grind
  have c:=p.cells.1.1;go_upto_region 5 with fail;generalize (ZO n) (J (B i.1+1+1) 1) (I (jk a b 0 d).1)=x at *;go_upto_region 7 with fail
 rotate_left
 focus
  go_wp2_with fail
  apply (ZiA b a l.r a1 z).m;rintro q n ⟨rfl,r,s⟩;have o:=Y (l.p r s);have⟨⟨A,D⟩,⟨M,N,P,R,S⟩,_⟩:=o.cells;have p:=o.f (ZB (iy a b).1)
  have v:K (∃c f h,xh i (ZO n (J (B i.1+1+1) 2) (Q_ (ZB (iy a b).1))) j d c a f Z0 k m h/\w=(h,Pa a c f e,Pt a c f e)):=by
   refine⟨_,_,_,p,?_⟩;rw[<- t];unfold jn
   grind
  have c:=p.cells.1.1;go_upto_region 5 with fail;generalize (ZO n) (J (B i.1+1+1) 2) (Q_ (ZB (iy a b).1))=x at *;go_upto_region 7 with fail
 all_goals
  obtain⟨c,f,h,p,W⟩:=v;go_wp2_with fail
  apply ((Y (λn c f o=>ed j c a f _ m n o L z)) _ c f p.r).m;rintro q n ⟨rfl,r,s⟩;have o:=(Y p).p r s;have⟨_,⟨M,N,P,_,_⟩,b0,b1,b2,a6,a7,a8⟩:=o.cells;have⟨a5,a0,⟨Q,R,S⟩,a4,a3⟩:=o.h;go_wp2;rw[<- (Y a0)]
  (try simp only[Exit.inBlock,Exit.then])
  apply bodyPost_ret (v:=Y9 #[ZR h.a,I h.num,Q_ h.f]) (by simp[results,results287,go_sem,Q,R,S]) X;rw[(Y W)];exact⟨X,(K_ a4 a3)⟩
end Go.Proofs.YtfcgnpchbcmdeaaGreat
