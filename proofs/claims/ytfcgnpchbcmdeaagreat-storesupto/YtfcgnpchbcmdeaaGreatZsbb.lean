import Derived.Test.YtfcgnpchbcmdeaaGreatZsax
import Derived.Test.YtfcgnpchbcmdeaaGreatZsav
open _root_ renaming Nat->H,Int->E,Bool->ZG,rfl->X,ByteArray->ZC,List->U
open Bool renaming true->Z0,false->ZZ
open Array renaming size->B
open Go renaming World->ZT,Value->ZY,maxLen->Y2
open Or renaming inr->ZJ,inl->ZM
open ByteArray renaming size->ZK
open Go.Value renaming int->ZX,tuple->Y5,bool->ZR,agg->Y9,pointer->Y7,ownBlock->ZW
open Go.IntKind renaming i64->ZQ
open Go.Ending renaming returned->ZI
open List renaming take->ZU,length->F,getD->Z
open Option renaming some->T,none->ZP
open Go.World renaming cell?->ZV,drewN->Y1,ownsRow->ZD,alloc->ZN,setCell->ZO
open Int renaming toNat->ZL
open Go.Proofs renaming intOf->ZA
open Decidable renaming decide->ZE
namespace Go.Proofs.YtfcgnpchbcmdeaaGreat
set_option linter.all false
set_option maxRecDepth 100000
set_option maxHeartbeats 4000000
open Go.RowKit List Nat Go.World Go.Proofs.Tryz Go.Value Go.IntKind Go.Lib Go.Region
structure Vn(c)(e:H->ZG)(sc ct:H->E)(b:E)(d f:H):Prop where
 j:c+1<=4
 sc:∀a,a<c+1->0<=sc a/\(e a=ZZ->sc a<=3)
 ct:∀a,a<c+1->e a=Z0->1<=ct a
 g:2<=b
 i:b<=16
 u:b<=d
 h:d<=32
 w:f<=20
def Dd(d e:ZT)(b:H->H)(c:H)(a:H):H:=if a<B d.1 then b a else if a<B e.1 then c else 99
def Ea b e a d:Ek b a (Dd b e a d):=λf c=>ZJ (by unfold Dd;rw[aD c])
def Kk{c d e b a}(f:B c.1<=a)(g:a<B d.1):Dd c d e b a=b:=by unfold Dd;grind
theorem Dy{c f b e a}(d:a<B c.1):Dd c f b e a=b a:=by unfold Dd;rw[aD d]
def InX.z{s t K c e g o l j n u q k h r i p m S}(b:InX s K c e g o l j n u q k h r i p m)(f:Aa S s t)(d:∀a,K a∨c a∨a=e∨a=g->¬S a):InX t K c e g o l j n u q k h r i p m:=
 ⟨f.g b.q (d _ (ZJ (ZJ (ZM X)))),f.g b.r (d _ (ZJ (ZJ (ZJ X)))),b.w.p f (λa w=>d a (w.elim ZM (λv=>ZJ (ZM v)))),b.t,b.u⟩
section
variable {w w':ZT} {o e:H->H} {t d yb g f m:H} {wd:H->ZG} {sc ct:H->E} {bins:E} {size budget:H} {a b:ZC} {c:ZG}
def Ol(m:H)(wd:H->ZG)(sc:H->E)(a:ZC):Except (E×H) RS:=Bt (m+1) wd sc RS.h (Ab a) 0
def Ru(w:ZT)(o:H->H)(t d m:H)(wd:H->ZG)(sc ct:H->E)(bins:E)(size budget:H)(a:ZC)(c:ZG):Prop:=
 o d=t/\d<B w.1/\((c=Z0/\∃f e,Vo w d Z0 f e)∨(c=ZZ/\∃f e,Ol m wd sc a=.error (f,e)/\Vo w d ZZ f e)∨
 (c=ZZ/\∃h K g i l k j,Ol m wd sc a=.ok h/\InX w K g d i l k j (m+1) wd sc ct bins size budget h (ZK a)/\(∀b,K b∨g b->b<B w.1/\o b=t)/\o i=t))
def Ru.z{S}(A:Ru w o t d m wd sc ct bins size budget a c)(i:Aa S w w')(u:∀b,b<B w.1->S b->o b≠t)(G:Ek w o e)(R:t≠99):Ru w' e t d m wd sc ct bins size budget a c:=by
 obtain⟨l,j,D⟩:=A
 have n:∀b,b<B w.1->o b=t->e b=t:=λb h f=>by
  rcases G b h with g|g
  omega;omega
 refine⟨n _ j l,Qh j i.size,?_⟩
 rcases D with⟨f,s,r,p⟩|⟨f,s,r,q,p⟩|⟨f,P,K,x,Q,N,z,y,q,v,h,L⟩
 exact ZM ⟨f,s,r,i.g p (λg=>u _ j g l)⟩;exact ZJ (ZM ⟨f,s,r,q,i.g p (λg=>u _ j g l)⟩);have M:=(Qb v.r).1;refine ZJ (ZJ ⟨f,P,K,x,Q,N,z,y,q,v.z i (λb k g=>?_),λb k=>⟨Qh (h b k).1 i.size,n b (h b k).1 (h b k).2⟩,n _ M L⟩)
 grind
def az(m:H)(wd:H->ZG)(sc:H->E)(a b:ZC)(c:ZG):ZC:=if c=Z0 then a else match Ol m wd sc a with
 |.error _=>a
 |.ok _=>a++b
def fdZ(m:H)(wd:H->ZG)(sc:H->E)(a:ZC)(c:ZG):E×E:=if c=Z0 then(1,0) else Qs (Ol m wd sc a)
theorem Zdz a b:Ab (a++b)=Ab a++Ab b:=by unfold Ab;rw[ByteArray.data_append];simp
def feedX(q:Vn m wd sc ct bins size budget)(y:Ru w o t d m wd sc ct bins size budget a c)(G:t≠99)(b5:ZK a+ZK b<=200000000000000):C_ 32 #[P_ d,Q_ b] w λe w'=>e=ZI (Y5 #[ZX ZQ (fdZ m wd sc (az m wd sc a b c) c).1,ZX ZQ (fdZ m wd sc (az m wd sc a b c) c).2])/\Ru w' (Dd w w' o t) t d m wd sc ct bins size budget (az m wd sc a b c) c/\Aa (λg=>o g=t) w w':=by
 have z:=y;obtain⟨A,D,a1⟩:=y;have P:∀v,_->_->_/\_:=λv L a9=>⟨(q.sc v L).1,(q.sc v L).2 a9⟩;have a5:=q.j
 rcases a1 with⟨e,l,k,s⟩|⟨e,l,k,i,s⟩|⟨e,x,K,b3,b2,b0,a0,W,i,Q,M,a6⟩
 subst e;apply (Zbj s).m;rintro e w' ⟨rfl,rfl⟩;have j:az m wd sc a b Z0=a:=rfl;rw[j];exact⟨X,z.z (S:=λ_=>False) (Aa.refl _ _) (λ_ _ e=>e.elim) (Ea _ _ _ _) G,Aa.refl _ _⟩;subst e;have g:=Nm _ _ _ i;apply (ZdV l k s g).m;rintro e w' ⟨rfl,h,rfl⟩;have j:az m wd sc a b ZZ=a:=(by unfold az;rw[i];rfl);have p:fdZ m wd sc a ZZ=(l,(k:E)):=(by unfold fdZ;rw[i];rfl);have f:E_ w _:=below_drewN y_ h;rw[j,p];exact⟨X,z.z (S:=λ_=>False) (.a f) (λ_ _ e=>e.elim) (Ea _ _ _ _) G,.a f⟩
 subst e;have j:az m wd sc a b ZZ=a++b:=by unfold az;rw[i];rfl
 have r:Ol m wd sc (a++b)=Bt (m+1) wd sc x (Ab b) (ZK a):=(by grind [Ol,Zdz,Kt,Ci]);have p:fdZ m wd sc (a++b) ZZ=Qs (Bt (m+1) wd sc x (Ab b) (ZK a)):=(by unfold fdZ;rw[r];rfl);rw[j,p];apply (Zj4 Q (Ja.a O P _ (Ja.h O) i) O a5 P O).m;rintro e w' ⟨rfl,n,u⟩;have a8:=(Qb Q.r).1
 have a7:=u.m (λg _ h=>by
  rcases h with f|f|f
  exact(M g (ZJ f)).2;subst f;exact A
  grind)
 refine⟨X,⟨(Dy D).T A,Qh D u.size,?_⟩,a7⟩
 cases h:Bt (m+1) wd sc x (Ab b) (ZK a) with
 | error f=>
  obtain⟨l,k⟩:=f;rw[h] at n;exact ZJ (ZM ⟨X,l,k,by rw[r,h],n⟩)
 | ok b1=>
  rw[h] at n;obtain⟨R,a3,b4⟩:=n;have b6:ZK (a++b)=_:=ByteArray.size_append;refine ZJ (ZJ ⟨X,b1,K,R,b2,b0,a0,W,by rw[r,h],w_,λg a4=>?_,(Dy a8).T a6⟩)
  have N:g<B w'.1:=by
   have⟨b7,b9,c0,b8,a2⟩:=a3.w
   rcases a4 with f|f
   exact Qh (M g (ZM f)).1 u.size;exact a2.S g f
  refine⟨N,?_⟩
  by_cases a2:g<B w.1
  ·grind [Dy]
  exact Kk O N
end
def cK(c a b:H):H:=nJ b (c^^^a)^^^a/2^b
def Znc a b:(a^^^b)%2=(a+b)%2:=by
 have c:=testBit_xor (x:=a) (y:=b) (i:=0)
 grind
def Zmx a b:cK a b 0=a:=by grind [cK,nJ]
def Zmw c a b:cK c a (b+1)=if cK c a b%2≠a/2^b%2 then cK c a b/2^^^3988292384 else cK c a b/2:=by
 unfold cK;rw[zr,Znc,xor_div_two,Nat.div_div_eq_div_mul,<- Nat.pow_succ];generalize nJ b (c^^^a)=d;unfold n1
 grind
def Zor{b a}(c:a<256):cK b a 8=nJ 8 (b^^^a):=by unfold cK;rw[show a/2^8=0 from div_eq_of_lt c,xor_zero]
def ZnS{c a}(d:c<4294967296)(e:a<256) b:cK c a b<4294967296:=by unfold cK;exact xor_lt_two_pow (n:=32) (ZbJ (xor_lt_two_pow (n:=32) d O) b) (Nat.lt_of_le_of_lt (div_le_self _ _) O)
def Zl1(a b:H)(c:a<4294967296)(d:b<4294967296):bits .xor ZQ a b=(a^^^b:H):=by have e:=xor_lt_two_pow (n:=32) c d;simp only[bits,BitVec.ofInt_natCast,BitVec.toNat_xor,BitVec.toNat_ofNat];rw[show i64.bits=64 from X,mod_eq_of_lt (show a<2^64 by omega),mod_eq_of_lt (show b<2^64 by omega)];simp only[wrap,IntKind.bits,signed];simp;omega
def ZpV(c a b:H):bits .xor ZQ (c%2) (((a:E)/2^b).tmod 2)=if c%2≠a/2^b%2 then 1 else 0:=by
 have d:((a:E)/2^b).tmod 2=(a/2^b%2:H):=w_;rw[d,show((c:E)%2)=((c%2:H):E) by omega,Zl1 _ _ O O]
 grind [mod_two_eq_zero_or_one]
def zK(a:ZC)(b:H):H:=nF 4294967295 (ZU b (Ab a))
def ub c:∀a∈Ab c,0<=a/\a<256:=λa b=>by simp only[Ab,mem_map] at b;obtain⟨d,_,rfl⟩:=b;have:=d.toNat_lt;omega
def Znd{a b}(e:b<256)(c:H:=4294967295)(d:∀x∈a,0<=x/\x<256:=by assumption):nJ 8 (nF c a^^^b)=nF c (a++[(b:E)]):=by
 induction a generalizing c with
 |nil=>grind [nF,nJ,ZcT]
 | cons x a f=>
  grind [zp]
def Zb9 a n (A:a.size<=4000000):C_ 180 #[Q_ a] n (V_ (.int .i64 (Gy (Ab a))) n):=by
 refine q_ ?_;go_upto_region 3 with fail;go_loopw [3,4] (λh g c=>∃(b e:Nat),h=.int .i64 b/\g=.int .i64 e/\e<=a.size/\b<4294967296/\K (b=zK a e)/\K (n=c)) (λ_ g _=>a.size-(intOf g).toNat)
 exact⟨4294967295,0,rfl,rfl,v_,C,by show _=_;simp[zK,nF,nJ,ZcT],rfl⟩;obtain⟨b,e,rfl,rfl,x,m,k,j⟩:=hrel;have r:=j.out;subst r;clear j
 by_cases t:e<a.size
 ·have w:=F_ e _;have⟨f,q⟩:=W_ ((a[e]'t).toNat);have l:f<256:=q ▸ (UInt8.toNat_lt _);have o:=Y q;clear q;go_upto_region 6 with fail;go_loopw [3,5] (λh g i=>∃(d c:Nat),h=.int .i64 d/\g=.int .i64 c/\c<=8/\K (d=cK b f c)/\K (n=i)) (λ_ g _=>8-(intOf g).toNat)
  exact⟨b,0,rfl,rfl,v_,by show _=_;rw[Zmx],rfl⟩;obtain⟨d,c,rfl,rfl,y,h,j⟩:=hrel;have r:=j.out;subst r;clear j
  by_cases z:c<8
  ·have u:0<=(c:Int):=O;have v:(c:Int)<8:=O;have D:d<4294967296:=h ▸ (ZnS m l c);have s:=o.s;go_upto_region 9 with fail;rw[ZpV];have g:=Zmw b f c;rw[<- h] at g
   by_cases i:d%2≠f/2^c%2
   ·rw[aD i] at g ⊢;have p:K (bits .xor .i64 (d/2) 3988292384=(cK b f (c+1):Nat)):=(by show _=_;rw[g,show((d:Int)/2)=((d/2:Nat):Int) by omega];exact Zl1 _ _ O C);clear g i s h;go_wp2;go_roundw;exact⟨cK b f _,c+1,by rw[p],g_,O,rfl,True.intro⟩;exact z_
   rw[aC i] at g ⊢;have p:K (d/2=((cK b f (c+1):Nat):Int)):=(by show _=_;rw[g];omega);clear g i s h;go_wp2;go_roundw;exact⟨cK b f _,c+1,by rw[p],g_,O,rfl,True.intro⟩;exact z_
  have s:c=8:=O;subst s;have g:K (d=zK a (e+1)):=(by show _=_;have u:(Ab a).length=a.size:=(by simp[Ab]);have p:(Ab a)[e]' O=f:=(by rw[o];simp[Ab];rfl);rw[h,Zor l,k];unfold zK;rw[Qi O,p];exact Znd l _ (λv i=>ub a v (aL i)));have i:d<4294967296:=h ▸ (ZnS m l 8);clear h o k;go_wp2;go_roundw;exact⟨d,e+1,rfl,g_,O,i,g,True.intro⟩;exact z_
 have f:e=a.size:=O;subst f;have l:¬a.size<(a.size:Int):=O
 have c:K (bits .xor .i64 b 4294967295=Gy (Ab a)):=by
  show _=_;have u:(Ab a).length=a.size:=(by simp[Ab]);have g:b=nF 4294967295 (Ab a):=(by rw[k];unfold zK;grind);have d:Zg5 (Ab a)=b:=g ▸ (lp _ (z:=4294967295) C (ub a));unfold Gy;rw[d];have h:=Zl1 b 4294967295 m C;have i:=Xu 4294967295 b C m
  grind
 clear k;go_wp2;go_ret;exact⟨by rw[c];rfl,rfl⟩
def Tt{u} v {o p c b}(k:Ad b u o c)(l:Ad b v p c)(L:F c<=1000000):C_ 140 #[o,p] b λa e=>a=ZI (ZR Z0)/\∃d,e=Y1 b d:=by
 obtain⟨s,A,rfl,w⟩:=k.a;obtain⟨t,D,rfl,x⟩:=l.a
 have q:K (∀a,a<F c->∃f g,s=T ⟨f,0,ZP⟩/\t=T ⟨g,0,ZP⟩/\ZV b (J f a)=T (I (Z c a 0))/\ZV b (J g a)=T (I (Z c a 0))):=λa n=>w_
 clear k l w x;generalize (F c)=e at *;refine q_ ?_;go_upto_region 4 with fail;go_loopw [5] (λf g=>∃(a d:H),a<=e/\f=ZX ZQ a/\K (g=Y1 b d)) (λf _=>e-ZL (ZA f))
 exact⟨0,0,v_,X,X⟩;obtain⟨a,d,G,rfl,j⟩:=hrel;have y:=j.out;subst y;clear j
 by_cases n:a<e
 ·have z:=F_ a e;obtain⟨f,g,rfl,rfl,h,i⟩:=q a n;have N:ZV (Y1 b d) (J f a)=T (I (Z c a 0)):=(by rw[<- h];exact cb_ (below_drewN (br_ _ b) d|>.block _ (aJ b _ h)));have P:ZV (Y1 b d) (J g a)=T (I (Z c a 0)):=(by rw[<- i];exact cb_ (below_drewN (br_ _ b) d|>.block _ (aJ b _ i)));clear h i;generalize (Z c) a 0=Q,m:Y1 b d=M at *;have r:=Y m;clear m;go_upto_region 6 with fail;go_quiet (fail);refine J_ ?_;exact⟨a+1,_,O,g_,by rw[<- r];exact drewN_drewN _ _ _⟩
 have f:¬a<(e:E):=O;go_wp2;go_ret;exact⟨X,_,X⟩
def Zag{u} v {o p c b}(k:Bj b u o c)(l:Bj b v p c)(D:F c<=1000000):C_ 141 #[o,p] b λg a=>g=ZI (ZR Z0)/\∃d,a=Y1 b d:=by
 obtain⟨s,y,rfl⟩:=k.a;obtain⟨t,z,rfl⟩:=l.a
 have q:K (∀a,a<F c->∃e f,s=T ⟨e,0,ZP⟩/\t=T ⟨f,0,ZP⟩/\ZV b (J e a)=T (Q_ (Z c a ⟨#[]⟩))/\ZV b (J f a)=T (Q_ (Z c a ⟨#[]⟩))):=λa h=>by
  have⟨e,g,_,i⟩:=k.d X h ⟨#[]⟩;have⟨f,d,_,j⟩:=l.d X h ⟨#[]⟩
  grind
 clear k l;generalize (F c)=g at *;refine q_ ?_;go_upto_region 4 with fail;go_loopw [5] (λe f=>∃(a d:H),a<=g/\e=ZX ZQ a/\K (f=Y1 b d)) (λe _=>g-ZL (ZA e))
 exact⟨0,0,v_,X,X⟩;obtain⟨a,d,A,rfl,m⟩:=hrel;have w:=m.out;subst w;clear m
 by_cases h:a<g
 ·have x:=F_ a g;obtain⟨e,f,rfl,rfl,i,j⟩:=q a h;have L:ZV (Y1 b d) (J e a)=T (Q_ (Z c a ⟨#[]⟩)):=(by rw[<- i];exact cb_ (below_drewN (br_ _ b) d|>.block _ (aJ b _ i)));have M:ZV (Y1 b d) (J f a)=T (Q_ (Z c a ⟨#[]⟩)):=(by rw[<- j];exact cb_ (below_drewN (br_ _ b) d|>.block _ (aJ b _ j)));clear i j;generalize (Z c) a ⟨#[]⟩=N,n:Y1 b d=G at *;have r:=Y n;clear n;go_upto_region 6 with fail;go_quiet (fail);refine J_ ?_;exact⟨a+1,_,O,g_,by rw[<- r];exact drewN_drewN _ _ _⟩
 have e:¬a<(g:E):=O;go_wp2;go_ret;exact⟨X,_,X⟩
def cfB(a:U E):H:=2+Zg (dh a 0) 15
def cfU(a:U E):H:=Zg (dh a 2) 21
def cfS(a:U E):H:=cfB a+Zg (dh a 1) (33-cfB a)
def cfM(a:U E):H:=Zg (dh a 3) 4
def cfW(a:U E)(b:H):ZG:=ZE (Zg (dh a (8+b)) 3=0)
def cfC(a:U E)(b:H):E:=if cfW a b=Z0 then 0 else(Zg (dh a (4+b)) 4:H)
def cfT(a:U E)(b:H):E:=if cfW a b=Z0 then 1+(Zg (dh a (4+b)) 9:H) else 0
def Zrf a:2<=cfB a/\cfB a<=16/\cfB a<=cfS a/\cfS a<=32/\cfU a<=20/\cfM a<=3:=by
 have c:=Pv (dh a 0) (show 0<15 by omega);have e:=Pv (dh a 2) (show 0<21 by omega);have f:=Pv (dh a 3) (show 0<4 by omega);have b:cfB a=2+_:=rfl;have d:=Pv (dh a 1) (show 0<33-cfB a by omega)
 grind [cfS,cfU,cfM]
def ZqB a b:Nf (cfW a b) (cfC a b) (cfT a b)=Z0:=by
 have c:=Pv (dh a (4+b)) (show 0<4 by omega);have d:=Pv (dh a (4+b)) (show 0<9 by omega);unfold Nf cfC cfT
 grind
def ZjE(a:U E)(b:H):U ZY:=[ZR (cfW a b),I (cfC a b),I (cfT a b)]
def Zkb(a:U E):H->U ZY
 |0=>[]
 |b+1=>Zkb a b++ZjE a b
def Zhi b:∀a,F (Zkb b a)=a*3
 |0=>X
 |a+1=>by rw[Zkb,Qe,Zhi b a];simp[ZjE];omega
def ZoL:(prog.info? 51).map (λa=>(a.zero,a.size,a.bytes))=T (T (Y9 #[ZR ZZ,I 0,I 0]),3,24):=k_
def ftC(d:H->ZG)(c b:H->E)(a:H):ZY:=if a%3=0 then ZR (d (a/3)) else if a%3=1 then I (c (a/3)) else I (b (a/3))
def ftL(d:H->ZG)(c a:H->E)(b:H):U ZY:=(range (b*3)).map (ftC d c a)
def jq{e d b c a}(f:a<c*3):(ftL e d b c)[a]? =T (ftC e d b a):=by simp[ftL,f]
def Zhm{l h b c m k i}(d:Du l h b c m k i):∀a g,(ftL m k i c)[a]? =T g->ZV l (((J h b):Addr).add a)=T g:=λa g hu=>by
 have n:a<c*3:=(by grind [ftL]);rw[jq n] at hu;injection hu with hu;subst hu;rw[Addr.add_lit];have f:a/3<c:=O;unfold ftC
 by_cases e:a%3=0
 rw[aD e,<- d.t _ f,show b+a/3*3=b+a by omega]
 by_cases j:a%3=1
 rw[aC e,aD j,<- d.D _ f,show b+a/3*3+1=b+a by omega];rw[aC e,aC j,<- d.G _ f,show b+a/3*3+2=b+a by omega]
def Zhn{d k b a l j i e}(c:ZD d k 51 3 (L_ b a l) a (ftL j i e a))(m:a<=Y2):Du d b 0 a j i e/\b<B d.1:=by
 have g:b<B d.1:=by
  rcases c.2 with⟨f,_⟩|⟨p,h,n,f,_,o,_⟩
  ·cases f
  grind
 refine⟨⟨m,λ_=>g,λh f=>?_,λh f=>?_,λh f=>?_⟩,g⟩
 ·rw[Nat.zero_add,c.cellAt _ O,jq O]
  grind [ftC]
 ·rw[Nat.zero_add,c.cellAt _ O,jq O]
  grind [ftC]
 rw[Nat.zero_add,c.cellAt _ O,jq O]
 grind [ftC]
def ZeM{c a i d f e k j h b}(r:a<=Y2)(l:Ed b c a k j h)(n:Ih a d f e k j h=ZZ):C_ 123 #[Y9 #[V c a i,I d,I f,I e]] b (U_ (Y5 #[Y7 ZP,ZX ZQ 1]) b):=by
 have g:K (Below _ b (ZN b (O_ #[V c a i,I d,I f,I e] 37))):=r_;have q:=Y (l.q g);have p:K (ZfO (Ih a d f e k j h)=1):=(by rw[n];rfl);clear l n;refine dl_ ?_;go_enter func123,ntmps123;go_wp2_with fail
 generalize (ZN b) (O_ #[V c a i,I d,I f,I e] 37)=t at *;apply (Rh c a _ _ _ r q).m;rintro s u ⟨rfl,m⟩;rw[p];have o:=Y (g.T (m.m g.size));clear m;go_wp2;go_ret2
 exact⟨X,o⟩
def Zcf{c i b l d f e q o k a}(h:Du a c i b q o k)(A:Ih b d f e q o k=Z0):C_ 123 #[Y9 #[V (T (J c i)) b l,I d,I f,I e]] a λQ m=>∃j g n,Q=ZI (Y5 #[Y7 (T ⟨j,0,ZP⟩),ZX ZQ 0])/\ra m j g b n d f e ⟨#[]⟩ 0 0 ZZ/\Du m g 0 b q o k/\g≠j/\B a.1<=g/\B a.1<=j/\g<B m.1/\E_ a m:=by
 have⟨c8,c9,_,_,_,_,_,_,_⟩:=Nb A;have b3:=h.lt O;have a2:=h.k;have v:K (Below _ a (ZN a (O_ #[V (T (J c i)) b l,I d,I f,I e] 37))):=r_;have u:K ((ZN a (O_ #[V (T (J c i)) b l,I d,I f,I e] 37)).1[_]? =_):=ha_ a _
 have w:K (∀x,E_ a x->Du x c i b q o k):=λx R=>by have n:=λm=>R.cell (p:=(J c m)) b3;exact⟨h.k,λ_=>p_ R.size,λj g=>(n _).T (h.t j g),λj g=>(n _).T (h.D j g),λj g=>(n _).T (h.G j g)⟩
 have a5:K (ZfO (Ih b d f e q o k)=0):=(by rw[A];rfl);have⟨c1,b4,b8,b9,c0⟩:=info_parts ZoL;clear h A;refine dl_ ?_;go_enter func123,ntmps123;go_wp2_with fail
 generalize (ZN a) (O_ #[V (T (J c i)) b l,I d,I f,I e] 37)=d2 at *;apply (Rh _ b _ _ _ a2 (ZJ ⟨c,i,X,w _ v⟩)).m;rintro Q d3 ⟨rfl,y⟩;rw[a5];have b5:=(Qb u).1;have G:=(y.block _ b5).T u;have b0:=n_ 0 G;have⟨s,r⟩:=Y_ G (v.T (y.m O));have b7:=r.size;clear y G;go_wp2_with (at_builtin;refine wpList_append_own _ X _ _ _ X (B a.1+1) 51 c1 _ 3 24 underlying35 b4 b8 b9 c0 X C (V _ 0 0) 0 [] X ⟨X,ZM ⟨X,X⟩⟩ _ b l _ X (by simp[ftL]) (Zhm (w _ r)) ?_ ?_ ?_ ?_ ?_)
 intro m g;simp only[ftL,mem_map] at g;obtain⟨j,_,rfl⟩:=g;unfold ftC;split;rfl;split<;>rfl;omega;omega;have:=(Qb s).1;omega;intro d1 M L D b6;have P:Aa (λ_=>False) _ _:=(Aa.refl _ _).grown D (λn z _=>by cases z);have t:=(P.block _ (Qb s).1 id).T s
 rcases L.2 with⟨_,c7⟩|⟨g,j,c6,rfl,d0,_⟩
 omega;have b1:=n_ 0 t;have b2:=R_ 0 _ _ t;have m:=ht_ 0 _ _ (L_ g b j) t;have S:=r.grown D b7 (λn z=>by cases z);have W:Below _ a (ZO M (J (B a.1) 0) (L_ g b j)):=S.setCell x_ _;have a4:Aa _ _ (ZO M _ (L_ g b j)):=(Aa.refl (λn=>n=B a.1) _).setCell (p:=(J (B a.1) 0)) (λ_=>X) _;have a3:=a4.M L (λn N z=>by subst z;simp[ZW] at N;omega);clear s r b0 b6 L D P;go_upto_region 7 with fail;generalize (ZO M) (J (B a.1) 0) (L_ g b j)=N at *;have c2:=n_ 0 m;have c3:=n_ 1 m;have c4:=n_ 2 m;have c5:=n_ 3 m;obtain⟨a0,a1⟩:=Zhn a3 a2;have a6:K (_/\_/\B a.1<=g/\_):=⟨a0,a1,O,W⟩;clear b1 b2 t m S W a4 a3 a0 a1 w v u;go_wp2;go_ret2
 have z:Below _ N (ZN N (O_ #[L_ g b j,I d,I f,I e,Q_ ⟨#[]⟩,I 0,I 0,ZR ZZ] 278)):=r_;obtain⟨a7,a8,a9,n⟩:=a6;exact⟨B N.1,g,j,X,hn_,a7.q z,O,a9,n.size,Qh a8 z.size,n.T (z.m n.size)⟩
end Go.Proofs.YtfcgnpchbcmdeaaGreat
