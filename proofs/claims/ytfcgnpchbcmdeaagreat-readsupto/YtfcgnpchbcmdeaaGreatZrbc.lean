import Derived.Test.YtfcgnpchbcmdeaaGreatZrbb
import Derived.Test.YtfcgnpchbcmdeaaGreatZrbd
namespace Go.Proofs.YtfcgnpchbcmdeaaGreat
set_option linter.all false
set_option maxRecDepth 100000
set_option maxHeartbeats 8000000
open Go.RowKit
def Pk(f:Nat->Nat)(b:Nat):Nat->Nat
 |0=>0
 |c+1=>Pk f b c+f (b+c)*2^c
def Vk{f}(hf:∀t,f t<=1) b:∀c,Pk f b c<2^c
 |0=>by simp[Pk]
 |c+1=>by have:=Vk hf b c;have h1:f (b+c)*2^c<=_:=Nat.mul_le_mul_right _ (hf _);simp only[Pk,Nat.pow_succ];omega
def Hd(f:Nat->Nat)(T j:Nat):Nat:=Pk f (8*j) (min 8 (T-8*j))
def fm{f}(a:∀t,f t<=1) T j:Hd f T j<256:=by have h:=Vk a (8*j) (min 8 (T-8*j));have:(2:Nat)^(min 8 (T-8*j))<=2^8:=Nat.pow_le_pow_right d_ o_;unfold Hd;omega
def fi f T:Hd f (T+1) (T/8)=Hd f T (T/8)+f T*2^(T%8):=by
 unfold Hd;have a:min 8 (T-8*(T/8))=T%8:=o_;have b:min 8 (T+1-8*(T/8))=T%8+1:=o_
 grind [Pk]
def fj{f}(b:∀t,f t<=1) T:Hd f T (T/8)<2^(T%8):=by unfold Hd;have a:min 8 (T-8*(T/8))=T%8:=o_;rw[a];exact Vk b _ _
def ZcE f T {j}(h:j≠T/8):Hd f (T+1) j=Hd f T j:=by grind [Hd]
def Cd(f:Nat->Nat)(nb T:Nat):List Int:=(List.range nb).map (λj=>(Hd f T j:Nat))
def Gp f a T:(Cd f a T).length=a:=by simp[Cd]
def Tz f {a j} T (h:j<a):(Cd f a T).getD j 0=(Hd f T j:Nat):=by simp[Cd,List.getD,h]
def jl f a:Cd f a 0=List.replicate a 0:=by apply List.ext_getElem;simp[Cd];intro i c b;simp[Cd,Hd,Pk]
def Xm f a T:(Cd f a T).set (T/8) (Hd f (T+1) (T/8):Nat)=Cd f a (T+1):=by
 apply List.ext_getElem;simp[Cd]
 grind [Cd,ZcE]
def Wf n (h₀:0<=n)(h₁:n<2^8):IntKind.u8.wrap n=n:=by simp[IntKind.wrap,IntKind.bits,IntKind.signed];omega
def Zcx(a b:Nat)(ha:a<256)(hb:b<256):bits .and .u8 a b=(a&&&b:Nat)/\bits .or .u8 a b=(a|||b:Nat):=bits_nat .u8 8 d_ Wf a b o_ o_
def Zih{x b k}(a:x<2^k):x|||(b*2^k)=x+b*2^k:=by grind [Nat.two_pow_add_eq_or_of_lt,Nat.mul_comm]
def Yb r d w:C_ 330 #[.agg #[.int .i64 r,.int .i64 d]] w λe w'=>e=.returned (.int .i64 d)/\w'=w.alloc (.cells #[.int .i64 r,.int .i64 d] 379):=by go_enter Tryz.func330,Tryz.ntmps330;go_wp2;go_ret;exact⟨rfl,rfl⟩
def ZbU r d w:C_ 299 #[.agg #[.int .i64 r,.int .i64 d]] w λe w'=>e=.returned (.int .i64 r)/\w'=w.alloc (.cells #[.int .i64 r,.int .i64 d] 379):=by go_enter Tryz.func299,Tryz.ntmps299;go_wp2;go_ret;exact⟨rfl,rfl⟩
def Bj.put{w a g b n k c}(h:Bj w a (L_ g n b) c)(f:n=c.length) z:Bj (w.setCell (A_ g k) (.int .u8 z)) a (L_ g n b) (c.set k z)/\w.grownBy (w.setCell (A_ g k) (.int .u8 z)) (some g):=by subst f;obtain⟨e,d⟩:=World.ownsRow.stored h k (.int .u8 z);refine⟨?_,d⟩;unfold Bj;rw[List.length_set,List.map_set];exact e
def Bj.cellK{w a g b n k c}(h:Bj w a (L_ g n b) c)(d:n=c.length)(e:k<n):w.cell? (A_ g k)=some (.int .u8 (c.getD k 0))/\w.frozen? (A_ g k)=false:=by
 subst d;refine⟨?_,World.ownsRow.frozenAt h k⟩;rw[World.ownsRow.cellAt h k o_]
 grind
def Bj.alloc{w base v zs}(h:Bj w base v zs) o:Bj (w.alloc o) base v zs:=ra_ h o
def Zkm Z g F d q c h a n f w (b:w.heap[Z]? =some (.cells #[I_ (F:Nat),I_ d,L_ q h c] 396 (0,0)))(X:Bj w g (L_ q h c) (Cd f h (a*d)))(hf:∀t,f t<=1)(L:∀i,i<d->f (a*d+i)=n/2^i%2)(aI:a*d+d<=8*h)(hr:a<=200)(hd:d<=6):C_ 331 #[.pointer (some ⟨Z,0,none⟩),.int .i64 a,.int .i64 n] w λe w'=>e=.returned (.tuple #[])/\Bj w' g (.slice (some ⟨q,0,none⟩) h c) (Cd f h (a*d+d))/\Aa (λk=>k=q) w w':=by
 have c0:=cR_ 0 b;have c1:=cR_ 1 b;have a4:=(Qb b).1
 have a1:Z≠q:=λe=>by
  obtain⟨a5,hc⟩:=Ad X (k:=q) rfl
  grind
 have aB:_<=1200:=Nat.mul_le_mul hr hd;have aG:a*d=((a*d:Nat):Int):=s_;have a0:=x1_ L;have HF:=x1_ hf;have I:=x1_ b;have Q:=x1_ X;clear b X hf L;generalize a*d=P at *;go_enter Tryz.func331,Tryz.ntmps331;go_wp2_with fail
 refine(Yb _ _ _).mono ?_;rintro e w1 ⟨rfl,rfl⟩;go_wp2_with fail
 refine(Yb _ _ _).mono ?_;rintro e w1 ⟨rfl,rfl⟩;go_wp2_with fail
 go_loopw [21] (λti wr=>∃k:Nat,ti=.int .i64 k/\k<=d/\Hid (Bj wr g (.slice (some ⟨q,0,none⟩) h c) (Cd f h (P+k))/\Aa (λx=>x=q) w wr)) (λti _=>d-(intOf ti).toNat)
 case atStart=>exact⟨0,rfl,qg_,(Q.alloc _).alloc _,((Aa.refl _ _).alloc _).alloc _⟩
 case round=>
  clear Q c0 c1;obtain⟨k,rfl,hk,U⟩:=hrel
  by_cases hkd:k<d
  ·have j:=U.2.at_ I a1;have c2:=cR_ 2 j;obtain⟨T,O⟩:=ex_ (P+k);obtain⟨J,hJ⟩:=ex_ (T/8);obtain⟨R,hR⟩:=ex_ (T%8);have E:J<h:=o_;obtain⟨l,V⟩:=U.1.cellK (k:=J) (by rw[Gp]) E;rw[Tz f _ E] at l;obtain⟨y,S⟩:=ex_ (Hd f (P+k) J);obtain⟨o,G⟩:=ex_ (n/2^k%2);have N:f T=o:=(by rw[O,a0 k hkd,G]);have C:y<256:=(by rw[S];exact fm HF _ _);have H:y<2^R:=(by rw[S,hJ,hR,<- O];exact fj HF T);have a2:o<=1:=o_;have aC:R<8:=o_
   have aF:2^R<=128:=by
    have:(2:Nat)^R<=2^7:=Nat.pow_le_pow_right d_ o_
    simpa using this
   have Y:_<=1*2^R:=Nat.mul_le_mul_right _ a2;have W:Hd f (P+k+1) J=y+o*2^R:=by rw[S,hJ,hR,<- O,fi,N]
   have r:Hid ((Cd f h (P+k)).set J (y+o*2^R:Nat)=Cd f h (P+(k+1))):=by
    show _=_
    grind [Xm]
   have D:_=y+o*_:=Zih H;have q1:P+k=(T:Int):=o_;have q2:(T:Int).tdiv 8=J:=w_;have q3:T/8=(J:Int):=o_;have q4:(T:Int).tmod 8=R:=w_;have q5:T%8=(R:Int):=o_
   have q6:bits BinOp.and IntKind.u8 (n/2^k%256) 1=o:=by
    have e:(n/2^k%256)=((n/2^k%256:Nat):Int):=s_;rw[e];have:=(Zcx (n/2^k%256) 1 o_ d_).1
    grind
   have q7:_=(T:Int):=Cb o_ o_;have q8:_=(J:Int):=Cb o_ o_;obtain⟨z,M⟩:=ex_ (o*2^R);have A:z<256:=o_
   have q9:IntKind.u8.wrap (o*2^R)=z:=by rw[Wf _ w_ w_];rw[M];simp
   obtain⟨u,hu⟩:=ex_ (y+z);have a3:bits BinOp.or IntKind.u8 y z=u:=(by rw[(Zcx y z C A).2,M,D,hu,M]);rw[<- M,<- hu] at r;have aA:0<=(R:Int):=o_;have aD:(R:Int)<=8:=o_;clear M hu D Y H;rw[<- S] at l;have d1:wr.drew.cell? _=_:=l;have fq:wr.drew.frozen? _=_:=V;have a9:0<=(k:Int):=o_;have a7:k<(d:Int):=o_;have a6:0<=(J:Int):=o_;have a8:J<(h:Int):=o_;have bT:(T:Int)<=1300:=o_;have B:_:=U;have aE:=x1_ O.symm;clear j O hJ hR l V S G N W U;go_upto_region 5 with fail;refine Al (λw'=>w'.cell? _=some _/\w'.cell? _=some _) 18 k_ ⟨c2,d1⟩ (λhHeld=>?_);refine Ah 0 ?_;refine Ah 1 ?_;refine Ah 2 ?_;refine Ua [8,9,16,17,18] 3 (v:=?_) ?_ ?_
   rotate_left
   ·intro w s;try obtain⟨_,_⟩:=s
    go_simp;try with_reducible rfl
   try simp only[Act.put,sA,sB,sC]
   refine Ah 4 ?_;refine Ah 5 ?_;refine Ah 6 ?_;refine Ah 7 ?_;refine Ah 8 ?_;refine Ua [16,17,18] 9 (v:=?_) ?_ ?_
   rotate_left
   ·intro w s;try obtain⟨_,_⟩:=s
    go_simp;try with_reducible rfl
   try simp only[Act.put,sA,sB,sC]
   refine Ah 10 ?_;refine Ah 11 ?_;refine Ah 12 ?_;refine Ah 13 ?_;refine Ah 14 ?_;refine Ah 15 ?_;refine Ah 16 ?_;refine Ah 17 ?_;refine Ai (i:=18) k_ rfl k_ (λKK hK=>?_);go_simp;refine hK _ _ ?_;clear hK KK;try simp only[Act.put,sA,sB,sC]
   refine Ak k_ ?_ _;have m:Hid (Bj (wr.setCell (A_ q J) (.int .u8 u)).drew g (L_ q h c) (Cd f h (P+(k+1)))/\Aa (λx=>x=q) w (wr.setCell (A_ q J) (.int .u8 u)).drew):=(by rw[<- r];exact⟨World.ownsRow.drew (B.1.put (by rw[Gp]) _).1,(B.2.setCell (p:=(A_ q J)) (λ_=>rfl) _).drew⟩);clear B hHeld c2 d1 fq q1 q2 q3 q4 q5 q6 q7 q8 q9 a3;refine rd_ ?_;exact⟨k+1,g_,o_,m⟩
  have aH:¬k<(d:Int):=o_;have m:Hid (Bj wr g (L_ q h c) (Cd f h (P+d))/\Aa (λx=>x=q) w wr):=w_;clear U;go_wp2;go_end0;exact⟨rfl,m.1,m.2⟩
def Tw(n:Nat)(f:n<=1000000) W:(Instr.makeSlice 66 (I_ n) (I_ n)).run Tryz.prog W=.ok (L_ W.heap.size n n) (W.alloc (.cells (madeCells #[.int .u8 0] n) 5)):=by obtain⟨e,a,d,c,b⟩:=info_parts Nf;have:=run_make (P:=Tryz.prog) W 66 5 e _ Tryz.underlying66 a d .i64 .i64 (n:Int) (n:Int) o_ o_ (by rw[b];omega) o_;rw[c] at this;rw[this,Int.toNat_natCast,Nat.mul_one];rfl
def Tu n (W:World) a (c:n<=1000000)(b:a<=W.heap.size):Bj (W.alloc (.cells (madeCells #[.int .u8 0] n) 5)) a (L_ W.heap.size n n) (List.replicate n 0):=by
 have:=World.ownsRow_lit (a:=a) (size:=1) (e:=5) W (madeCells #[.int .u8 0] n) n b m_ (by simp[madeCells]);rw[Qu] at this;unfold Bj
 simpa using this
def Ds(N:List Nat)(d t:Nat):Nat:=N.getD (t/d) 0/2^(t%d)%2
def Um N d:∀t,Ds N d t<=1:=λt=>by unfold Ds;omega
def Zau N {d a i}(h:i<d):Ds N d (a*d+i)=N.getD a 0/2^i%2:=by
 unfold Ds;have b:(a*d+i)/d=a:=by rw[Nat.mul_comm,Nat.mul_add_div o_,Nat.div_eq_of_lt h,Nat.add_zero]
 grind [Nat.mul_comm,Nat.mul_add_mod,Nat.mod_eq_of_lt]
structure Zak(w:World)(base db q n d:Nat)(bs:List Int):Prop where
 blk:w.heap[db]? =some (.cells #[I_ n,I_ d,L_ q bs.length bs.length] 396 (0,0))
 row:Bj w base (L_ q bs.length bs.length) bs
def Ze5(w:World)(base:Nat)(v:Value)(n d:Nat)(bs:List Int):Prop:=∃db q,v=P_ db/\base<=db/\Zak w base db q n d bs
def zb va (n d m vc:Nat) N w (T:Ag w 0 (.slice va m vc) (Av N))(hN:N.length=m)(a4:m<=n)(hn:n<=200)(Y:d<=6):C_ 301 #[.agg #[.int .i64 n,.int .i64 d],.slice va m vc] w λe w'=>∃v,e=.returned v/\Ze5 w' w.heap.size v n d (Cd (Ds N d) ((n*d+7)/8) (m*d))/\Below w.heap.size w w':=by
 have HV:=x2_ T hN;obtain⟨P,G⟩:=ex_ (n*d);have a9:P<=1200:=(by rw[G];exact Nat.mul_le_mul hn Y);have aA:n*d=(P:Int):=(by rw[G];simp);obtain⟨b,r⟩:=ex_ ((P+7)/8);have E:Hid (b=_/\_/\_):=⟨by rw[r,G],G,r⟩;have q1:((P:Int)+7).tdiv 8=b:=w_;have q2:_=(P:Int):=Cb o_ o_;have q3:_=(P:Int)+7:=Cb o_ o_;have q4:_=(b:Int):=Cb o_ o_;have S:=Tw b o_;have a1:b<=151:=o_;rw[<- E.1];clear T hN G r;go_enter Tryz.func301,Tryz.ntmps301;go_upto_region 1 with fail;obtain⟨a,g⟩:=ex_ (w.alloc (.cells #[I_ n,I_ d] 379));rw[<- g];have D:a.heap.size=w.heap.size+1:=(by rw[g];simp);have d0:a.cell? (A_ w.heap.size 0)=some (I_ n):=by rw[g];simp[go_sem]
 have V:a.cell? (A_ w.heap.size 1)=some (I_ d):=(by rw[g];simp[go_sem]);have R:Hid (E_ w a):=(by show Below _ _ _;rw[g];exact bA_);have o:w.heap.size<a.heap.size:=o_;have a5:=x1_ D;clear g D
 go_region_held3 (λw'=>w'.cell? (A_ w.heap.size 0)=some (I_ (n:Nat))/\w'.cell? (A_ w.heap.size 1)=some (I_ (d:Nat))) (exact⟨(Below.cell (B:=a.heap.size) (w:=a) (p:=(A_ w.heap.size 0)) c_ o).trans d0,(Below.cell (B:=a.heap.size) (w:=a) (p:=(A_ w.heap.size 1)) c_ o).trans V⟩) (first|(go_at_call 299;refine(ZbU _ _ _).mono ?_;rintro e w1 ⟨rfl,rfl⟩)|(go_at_call 330;refine(Yb _ _ _).mono ?_;rintro e w1 ⟨rfl,rfl⟩))
 obtain⟨u,f⟩:=ex_ (((((a.alloc (.cells #[I_ n,I_ d] 379)).alloc (.cells #[I_ n,I_ d] 379)).alloc (.cells (madeCells #[.int .u8 0] b) 5)).alloc (.cells #[I_ n,I_ d,L_ (a.heap.size+1+1) b b] 396)).drew);rw[<- f];have a7:u.heap.size=a.heap.size+1+1+1+1:=by rw[f];simp
 have L:Hid (E_ w u):=(by show Below _ _ _;rw[f];exact(R.trans (((((bz_.alloc o_ _).alloc t_ _).alloc t_ _).alloc t_ _).drew)));have C:u.heap[a.heap.size+1+1+1]? =some (.cells #[I_ n,I_ d,L_ (a.heap.size+1+1) b b] 396 (0,0)):=by rw[f];have:=ha_ (((a.alloc (.cells #[I_ (n:Nat),I_ (d:Nat)] 379)).alloc (.cells #[I_ (n:Nat),I_ (d:Nat)] 379)).alloc (.cells (madeCells #[.int .u8 0] b) 5)) (.cells #[I_ (n:Nat),I_ (d:Nat),L_ (a.heap.size+1+1) b b] 396);rw[show(((a.alloc (.cells #[I_ (n:Nat),I_ (d:Nat)] 379)).alloc (.cells #[I_ (n:Nat),I_ (d:Nat)] 379)).alloc (.cells (madeCells #[.int .u8 0] b) 5)).heap.size=a.heap.size+1+1+1 by simp] at this;exact this
 have y:Bj u w.heap.size (L_ (a.heap.size+1+1) b b) (Cd (Ds N d) b 0):=(by rw[jl,f];have:=Tu b ((a.alloc (.cells #[I_ (n:Nat),I_ (d:Nat)] 379)).alloc (.cells #[I_ (n:Nat),I_ (d:Nat)] 379)) w.heap.size o_ t_;have Z:=(this.alloc (.cells #[I_ (n:Nat),I_ (d:Nat),L_ (a.heap.size+1+1) b b] 396));rw[show((a.alloc (.cells #[I_ (n:Nat),I_ (d:Nat)] 379)).alloc (.cells #[I_ (n:Nat),I_ (d:Nat)] 379)).heap.size=a.heap.size+1+1 by simp] at Z;exact Z);have M:=x1_ C;have F:=x1_ y;clear f C y d0 V S q1 q2 q3 q4;have a3:w.heap.size<=a.heap.size+1+1:=o_;have HQ:Hid (a.heap.size+1+1+1<u.heap.size/\a.heap.size+1+1+1≠a.heap.size+1+1):=⟨o_,o_⟩;generalize a.heap.size+1+1=q at *;go_wp2_with fail
 go_loopw [21] (λti wr=>∃k:Nat,ti=.int .i64 k/\k<=m/\Hid (Bj wr w.heap.size (.slice (some ⟨q,0,none⟩) b b) (Cd (Ds N d) b (k*d))/\Aa (λx=>x=q) u wr)) (λti _=>m-(intOf ti).toNat)
 case atStart=>exact⟨0,rfl,qg_,by rw[Nat.zero_mul];exact⟨F,Aa.refl _ _⟩⟩
 case round=>
  clear F;obtain⟨k,rfl,hk,s⟩:=hrel;have l:E_ w wr:=(by have t:=s.2;have H:=L.out;exact⟨t.os.trans H.os,t.tape.trans H.tape,t.output.trans H.output,Nat.le_trans H.size t.size,λx hx=>(t.block x o_ o_).trans (H.block x hx)⟩);have O:=x1_ l;have c:=s.2.at_ M HQ.2;have a2:=x1_ c
  by_cases hkm:k<m
  ·obtain⟨qv,Q,I,_,W,_⟩:=HV.1.atK (by rw[Aw];exact HV.2) hkm;subst Q;have a0:=(l.cell (p:=(A_ qv k)) I).trans W;rw[Cv] at a0;have z:k*d+d=(k+1)*d:=w_;have J:(k+1)*d<=n*d:=Nat.mul_le_mul_right _ o_;have j:=x1_ (Zkm _ _ n d q _ _ k _ _ _ c s.1 (Um N d) (λi hi=>Zau N hi) (by have:=E.out;omega) o_ Y);rw[z] at j;generalize N.getD k 0=x at *;have a8:0<=(k:Int):=o_;have a6:k<(m:Int):=o_;have HT:=x1_ s.2;clear W z J s c l;go_wp2_with fail
   refine j.mono ?_;rintro e w5 ⟨rfl,A,U⟩;have X:=x2_ A (HT.trans U);clear A U j HT;go_wp2;go_roundw;case rel=>grind
   case measure=>exact z_
  have aB:¬k<(m:Int):=o_;have X:Hid (Zak wr w.heap.size (q+1) q n d (Cd (Ds N d) b (m*d))):=(by have:k=m:=o_;subst this;exact⟨by rw[Gp];exact c,by rw[Gp];exact s.1⟩);clear s c l;go_wp2;go_ret;exact⟨_,rfl,⟨_,_,rfl,o_,X⟩,O⟩
def nzL(N:List Nat):List Bool:=N.map (λx=>decide (x≠0))
def nzN(N:List Nat):Nat:=Dj (nzL N)
def Vo N:(nzL N).length=N.length:=by simp[nzL]
def Zbr{N k}(h:k<N.length):(nzL N).getD k false=decide (N.getD k 0≠0):=by simp[nzL,List.getD,h]
def Zbo d m c N w (g:Ag w 0 (.slice d m c) (Av N))(s:N.length=m)(u:m<=200):C_ 298 #[.slice d m c] w λe w'=>e=.returned (.int .i64 (nzN N:Nat))/\w'=w:=by
 have b:=x2_ g s;go_enter Tryz.func298,Tryz.ntmps298;go_wp2_with fail
 go_loop [8,3] (λti tn=>∃k:Nat,ti=.int .i64 k/\k<=m/\tn=.int .i64 (Dj ((nzL N).take k):Nat)/\Dj ((nzL N).take k)<=k) (λti _=>m-(intOf ti).toNat)
 case atStart=>exact⟨0,rfl,qg_,rfl,qa_⟩
 case round=>
  obtain⟨k,rfl,v,rfl,p⟩:=hrel
  by_cases hkm:k<m
  ·obtain⟨q,rfl,h,_,l,_⟩:=b.1.atK (by rw[Aw];exact b.2) hkm;rw[Cv] at l;have f:=Na ((nzL N).take k) ((nzL N).getD k false);rw[<- Oe _ (by rw[Vo];have:=b.2;omega),Zbr (by have:=b.2;omega)] at f;have y:=x1_ f;generalize Dj ((nzL N).take k)=t,N.getD k 0=x at *;have n:0<=(k:Int):=o_;have j:k<(m:Int):=o_
   by_cases hx:x=0
   ·subst hx;have a:Hid (Dj ((nzL N).take (k+1))=t):=w_;refine rd_ ?_;exact⟨k+1,g_,o_,by rw[a],by rw[a];omega⟩
   have o:((x:Int) !=0)=true:=w_;have a:Hid (Dj ((nzL N).take (k+1))=t+1):=w_;refine rd_ ?_;exact⟨k+1,g_,o_,by rw[a];go_num,by rw[a];omega⟩
  have r:¬k<(m:Int):=o_;have i:Hid (Dj ((nzL N).take k)=nzN N):=(by show _=_;rw[List.take_of_length_le (by rw[Vo];have:=b.2;omega)];rfl);generalize Dj ((nzL N).take k)=t at *;go_wp2;go_ret;exact⟨by rw[i];rfl,rfl⟩
def Zcw(g:Nat) w (d:g<=1000):C_ 282 #[.int .i64 g] w λe w'=>e=.returned (.int .i64 (Lib.bitLen g:Nat))/\w'=w:=by
 have a:Hid (C_ 150 #[.int .u64 g] w λe w'=>e=.returned (.int .i64 (Lib.bitLen g:Nat))/\w'=w):=(by have:=Tryz.bits_Len (g:Nat) w o_ o_;rw[Int.toNat_natCast] at this;exact this);generalize Lib.bitLen g=b at *;go_enter Tryz.func282,Tryz.ntmps282;go_wp2_with fail
 refine a.mono ?_;rintro e c ⟨rfl,rfl⟩;go_wp2;go_ret;exact⟨rfl,rfl⟩
def Fu(N:List Nat):Nat->List (Nat×Nat)
 |0=>[]
 |k+1=>Fu N k++(if N.getD k 0=0 then[] else[(k,N.getD k 0)])
def Vy N:∀k,(Fu N k).length<=k
 |0=>by simp[Fu]
 | k+1=>by
  have:=Vy N k;simp only[Fu]
  grind
def Pu(p:Nat×Nat):List Value:=[I_ p.1,I_ p.2]
def Qk:List (Nat×Nat)->List Value
  |[]=>[]
  |p::L=>Pu p++Qk L
def yg a b:Qk (a++b)=Qk a++Qk b:=by
 induction a with
 |nil=>rfl
 |cons e L ih=>simp[Qk,ih]
def ZjZ:(Tryz.prog.info? 405).map (λi=>(i.zero,i.size,i.bytes))=some (some (.agg #[I_ 0,I_ 0]),2,16):=k_
def Ui(w:World)(base:Nat)(v:Value)(L:List (Nat×Nat)):Prop:=w.ownsRow base 405 2 v L.length (Qk L)
def Ui.more{w a v L x}(h:w.ownsRow a 405 2 v (L.length+1) (Qk L++Pu x)):Ui w a v (L++[x]):=by
 unfold Ui;rw[yg,Qe]
 simpa [Qk] using h
def Ui.shape{w b v L}(h:Ui w b v L):∃a c,v=.slice a L.length c:=by
 rcases h.2 with⟨rfl,h0⟩|⟨q,p,cur,rfl,_⟩
 ·grind
 grind
structure vq(w:World)(base sb n d:Nat)(vc)(L):Prop where
 blk:w.heap[sb]? =some (.cells #[I_ n,I_ d,vc] 403 (0,0))
 row:Ui w base vc L
def Zcj(w:World)(base:Nat)(v:Value)(n d:Nat)(L:List (Nat×Nat)):Prop:=∃sb vc,v=P_ sb/\base<=sb/\vq w base sb n d vc L
def qa va (n d m Y:Nat) N w (hv:Ag w 0 (.slice va m Y) (Av N))(hN:N.length=m)(hm:m<=200):C_ 300 #[.agg #[.int .i64 n,.int .i64 d],.slice va m Y] w λe w'=>∃v,e=.returned v/\Zcj w' w.heap.size v n d (Fu N m)/\Below w.heap.size w w':=by
 have Z:=x2_ hv hN;obtain⟨i0,y,R,E,J⟩:=info_parts ZjZ;obtain⟨j,f⟩:=ex_ ((w.alloc (.cells #[I_ n,I_ d] 379)).alloc (.cells #[I_ n,I_ d,.slice none 0 0] 403));have A:Hid (E_ w j):=(by show Below _ _ _;rw[f];exact bA_.alloc s_ _);have a2:j.heap.size=w.heap.size+1+1:=by rw[f];simp
 have H:Hid (j.heap[w.heap.size+1]? =some (.cells #[I_ n,I_ d,.slice none 0 0] 403 (0,0))):=by
  show _=_
  grind [ha_]
 go_enter Tryz.func300,Tryz.ntmps300;go_wp2_with fail
 go_loopw [13] (λti wr=>∃(k:Nat) (V:Value),ti=.int .i64 k/\k<=m/\Hid (vq wr (w.heap.size+1+1) (w.heap.size+1) n d V (Fu N k)/\Aa (λx=>x=w.heap.size+1) j wr)) (λti _=>m-(intOf ti).toNat)
 case atStart=>
  refine⟨0,.slice none 0 0,rfl,qg_,?_,?_⟩;rw[<- f];exact⟨H,rn_⟩;rw[<- f];exact Aa.refl _ _
 case round=>
  obtain⟨k,V,rfl,hk,c⟩:=hrel;have a4:=c.2.size
  by_cases hkm:k<m
  ·obtain⟨D,M,F,_,U,_⟩:=Z.1.atK (by rw[Aw];exact Z.2) hkm;subst M;have a0:wr.cell? (A_ D k)=some (I_ (N.getD k 0:Nat)):=by rw[Cv] at U;rw[cb_ (a:=(A_ D k)) ((c.2.block D o_ o_).trans (A.block D F))];exact U
   have L:Hid (Fu N (k+1)=_++_):=rfl;obtain⟨S,W,P⟩:=c.1.row.shape;subst P;have c2:=cR_ 2 c.1.blk;have a1:=Vy N k;generalize N.getD k 0=x at *;have a6:0<=(k:Int):=o_;have a3:k<(m:Int):=o_
   by_cases hx:x=0
   ·subst hx;have s:Hid (vq wr (w.heap.size+1+1) (w.heap.size+1) n d (.slice S (Fu N k).length W) (Fu N (k+1))/\Aa (λx=>x=w.heap.size+1) j wr):=(by rw[L,if_pos rfl,List.append_nil];exact c);go_wp2
    grind [intOf]
   have a7:((x:Int) !=0)=true:=w_;have O:Hid (Fu N (k+1)=Fu N k++[(k,x)]):=w_;have I:=(Qb c.1.blk).1;have i:Hid _:=c.1.row;generalize hgl:(Fu N k).length=sl at *;go_wp2_with (at_builtin;refine Ab rfl (.tmp 24) _ _ rfl _ 405 i0 _ 2 16 Tryz.underlying401 y R E J rfl d_ _ sl _ rfl (i.alloc _) _ 1 1 [I_ (k:Nat),I_ (x:Nat)] rfl rfl ?_ ?_ ?_ ?_ ?_ ?_ ?_)
   exact Am _ _ _
   ·intro u T;simp at T;rcases T with rfl|rfl<;>rfl
   decide;unfold maxLen;omega;omega;simp;omega;intro B C H4;obtain⟨r4,X,d4,_,_⟩:=H4;have b:C.heap[w.heap.size+1]? =some (.cells #[I_ n,I_ d,.slice S sl W] 403 (0,0)):=(by rw[X.block (w.heap.size+1) t_ (λe=>Au i e.symm c.1.blk d_ rfl)];have:=c.1.blk;exact(hc_ I).trans this);have c4:=cR_ 2 b;have f4:=fq_ 2 _ _ b;have l:Ui C (w.heap.size+1+1) B (Fu N (k+1)):=(by rw[O];refine Ui.more ?_;rw[hgl];exact r4);obtain⟨a5,c5,z⟩:=l.shape
   have s:Hid (vq (C.setCell (A_ (w.heap.size+1) 2) B) (w.heap.size+1+1) (w.heap.size+1) n d B (Fu N (k+1))/\Aa (λx=>x=w.heap.size+1) j (C.setCell (A_ (w.heap.size+1) 2) B)):=by refine⟨⟨ht_ 2 _ _ _ b,As l b d_⟩,?_⟩;have t1:Aa _ j (wr.alloc (.cells #[I_ (k:_),I_ (x:Nat)] 405)):=c.2.alloc _;have t2:=t1.grown X (λq hq hlt2=>by have:=(rl_ i q hq).1;omega);exact t2.setCell (p:=(A_ (w.heap.size+1) 2)) (λ_=>rfl) _
   rw[z] at s;subst z;generalize (Fu N (k+1)).length=s5 at *;go_wp2;go_roundw;case rel=>grind
   case measure=>exact z_
  have a8:¬k<(m:Int):=o_
  have s:Hid (Zcj wr w.heap.size (P_ (w.heap.size+1)) n d (Fu N m)/\E_ w wr):=by
   have:k=m:=o_;subst this;have t:=c.2;have o:=A.out;refine⟨⟨_,_,rfl,o_,c.1.blk,?_⟩,⟨t.os.trans o.os,t.tape.trans o.tape,t.output.trans o.output,Nat.le_trans o.size t.size,λx hx=>(t.block x o_ o_).trans (o.block x hx)⟩⟩;have hr:=c.1.row;refine⟨hr.1,?_⟩
   rcases hr.2 with hn|⟨g,Q,G,e,hg,r⟩
   exact .inl hn;exact .inr ⟨g,Q,G,e,o_,r⟩
  go_wp2;go_ret;exact⟨_,rfl,s.1,s.2⟩
def Zcv:∀g:Fin 64,Lib.bitLen g.val<=6:=by decide+kernel
def Rg{g}(h:g<64):Lib.bitLen g<=6:=Zcv ⟨g,h⟩
def wi:∀g:Fin 64,g.val<2^Lib.bitLen g.val:=by decide+kernel
def rp{g}(h:g<64):g<2^Lib.bitLen g:=wi ⟨g,h⟩
def Mu(w:World)(base:Nat)(v:Value)(N:List Nat)(g:Nat):Prop:=
 (4*nzN N<N.length/\∃p,v=.iface 380 p/\Zcj w base p N.length (Lib.bitLen g) (Fu N N.length))∨
 (¬4*nzN N<N.length/\∃p,v=.iface 382 p/\Ze5 w base p N.length (Lib.bitLen g) (Cd (Ds N (Lib.bitLen g)) ((N.length*Lib.bitLen g+7)/8) (N.length*Lib.bitLen g)))
def Zfk V (m X g:Nat) N w (G:Ag w 0 (.slice V m X) (Av N))(H:N.length=m)(O:m<=200)(P:g<64):C_ 257 #[.slice V m X,.int .i64 g] w λe w'=>∃v,e=.returned v/\Mu w' w.heap.size v N g/\Below w.heap.size w w':=by
 have Q:=Rg P;have C:=x1_ (Zcw g w o_);have a0:nzN N<=m:=(by grind [Rl,Vo,nzN]);have E:=x1_ (λW hW=>Zbo _ m _ N W (G.below hW) H O);have s:=x1_ (λW hW=>qa _ m (Lib.bitLen g) m _ N W (G.below hW) H O);have t:=x1_ (λW hW=>zb _ m _ m _ N W (G.below hW) H qa_ O Q)
 have i:Hid (∀W v,((4*nzN N<m/\∃p,v=.iface 380 p/\Zcj W w.heap.size p m (Lib.bitLen g) (Fu N m))∨(¬4*nzN N<m/\∃p,v=.iface 382 p/\Ze5 W w.heap.size p m (Lib.bitLen g) (Cd (Ds N (Lib.bitLen g)) ((m*Lib.bitLen g+7)/8) (m*Lib.bitLen g))))->Mu W w.heap.size v N g):=λW v h=>by
  unfold Mu
  grind
 clear G H;generalize Lib.bitLen g=d,nzN N=z at *;have b1:4*(z:Int)<=800:=o_;have q1:_=4*(z:Int):=Cb o_ o_;go_enter Tryz.func257,Tryz.ntmps257;go_wp2_with fail
 refine C.mono ?_;rintro e S ⟨rfl,A⟩;obtain rfl:=A.symm;clear A;go_upto_region 2 with fail;obtain⟨f,a⟩:=ex_ (w.alloc (.cells #[I_ m,I_ d] 379));rw[<- a];have J:f.heap.size=w.heap.size+1:=(by rw[a];simp);have Y:f.cell? (A_ w.heap.size 0)=some (I_ m):=(by rw[a];simp[go_sem]);have T:f.cell? (A_ w.heap.size 1)=some (I_ d):=(by rw[a];simp[go_sem]);have u:Hid (E_ w f):=(by show Below _ _ _;rw[a];exact bA_);have j:w.heap.size<f.heap.size:=o_;clear a J
 go_region_held3 (λw'=>w'.cell? (A_ w.heap.size 0)=some (I_ (m:Nat))/\w'.cell? (A_ w.heap.size 1)=some (I_ (d:Nat))) (exact⟨(Below.cell (B:=f.heap.size) (w:=f) (p:=(A_ w.heap.size 0)) (by repeat(first|with_reducible exact bz_|with_reducible apply Below.drew|(refine Below.alloc ?_ o_ _))) j).trans Y,(Below.cell (B:=f.heap.size) (w:=f) (p:=(A_ w.heap.size 1)) (by repeat(first|with_reducible exact bz_|with_reducible apply Below.drew|(refine Below.alloc ?_ o_ _))) j).trans T⟩) (first|(go_at_call 298;refine(E _ u.drew).mono ?_;rintro e S ⟨rfl,rfl⟩)|(go_at_call 299;refine(ZbU _ _ _).mono ?_;rintro e S ⟨rfl,rfl⟩))
 generalize hw3:(f.alloc (.cells #[I_ (m:Nat),I_ (d:Nat)] 379)).drew=w3;have b:Hid (E_ w w3):=(by show Below _ _ _;rw[<- hw3];exact(u.alloc o_ _).drew);have a1:w3.heap.size=f.heap.size+1:=(by rw[<- hw3];simp);have e0:w3.cell? (A_ w.heap.size 0)=some (I_ m):=w_;have e1:w3.cell? (A_ w.heap.size 1)=some (I_ d):=w_;have k:=b.size;clear hw3 Y T u E C
 by_cases hc:4*z<m
 ·have L:4*z<(m:Int):=o_;go_wp2_with fail
  refine(s _ b).mono ?_;rintro e D ⟨v4,rfl,n,c⟩;obtain⟨U,R,rfl,M,o⟩:=n
  have y:Hid (Mu D w.heap.size (.iface 380 (P_ U)) N g/\E_ w D):=by
   refine⟨i _ _ (.inl ⟨hc,_,rfl,U,R,rfl,o_,o.blk,?_⟩),b.trans (c.mono k)⟩;have F:=o.row;refine⟨F.1,?_⟩
   rcases F.2 with I|⟨g,x,l,e,P,r⟩
   exact .inl I;exact .inr ⟨g,x,l,e,o_,r⟩
  clear M o c s t i;go_wp2;go_ret;exact⟨_,rfl,y.1,y.2⟩
 have L:¬4*z<(m:Int):=o_;go_wp2_with fail
 refine(t _ b).mono ?_;rintro e D ⟨v4,rfl,n,c⟩;obtain⟨Z,q,rfl,M,o⟩:=n
 have y:Hid (Mu D w.heap.size (.iface 382 (P_ Z)) N g/\E_ w D):=by
  refine⟨i _ _ (.inr ⟨hc,_,rfl,Z,q,rfl,o_,o.blk,?_⟩),b.trans (c.mono k)⟩;have F:=o.row;refine⟨F.1,?_⟩
  rcases F.2 with I|⟨g,x,l,e,P,r⟩
  exact .inl I;exact .inr ⟨g,x,l,e,o_,r⟩
 clear M o c s t i;go_wp2;go_ret;exact⟨_,rfl,y.1,y.2⟩
structure XS where
 row:Nat
 f:Nat
 bin:Nat
structure BS where
 fs:List Nat
 N:List Nat
 g:Nat
structure Zg where
 ks:List KS
 bs:List BS
 xs:List XS
def Do(x:XS):List Value:=[I_ x.row,I_ x.f,I_ x.bin]
def Io:List XS->List Value
 |[]=>[]
 |x::L=>Do x++Io L
def yi a b:Io (a++b)=Io a++Io b:=by
 induction a with
 |nil=>rfl
 |cons e L ih=>simp[Io,ih]
def sd L:(Io L).length=L.length*3:=by
 induction L with
 |nil=>rfl
 |cons e L ih=>simp[Io,Do,ih];omega
def ZjM:(Tryz.prog.info? 184).map (λi=>(i.zero,i.size,i.bytes))=some (some (.agg #[I_ 0,I_ 0,I_ 0]),3,24):=k_
def ZjK:(Tryz.prog.info? 163).map (λi=>(i.zero,i.size,i.bytes))=some (some (.agg #[.slice none 0 0,.nilIface]),2,40):=k_
def Mi(w:World)(base:Nat)(v:Value)(L:List XS):Prop:=w.ownsRow base 184 3 v L.length (Io L)
def Mi.more{w a v L x}(h:w.ownsRow a 184 3 v (L.length+1) (Io L++Do x)):Mi w a v (L++[x]):=by grind [Mi,yi,Io]
def Mi.shape{w b v L}(h:Mi w b v L):∃a c,v=.slice a L.length c:=by
 rcases h.2 with⟨rfl,h0⟩|⟨q,p,cur,rfl,_⟩
 ·grind
 grind
def au(S:Nat->Prop)(w:World):Prop:=∀k cur ty,w.heap[k]? =some (.cells cur ty (0,0))->S k->ty=168∨ty=163∨ty=184
def au.row{S w}(h:au S w){base e size n:Nat}{v xs}(hr:w.ownsRow base e size v n xs)(h1:e≠168)(h2:e≠163)(h3:e≠184):∀k,v.ownBlock=some k->¬S k:=λk hk hs=>by
 obtain⟨cur,hc⟩:=Ad hr hk
 rcases h k cur e hc hs with e1|e1|e1
 exact h1 e1;exact h2 e1;exact h3 e1
def au.at{S w}(h:au S w){k ty:Nat}{cur}(hc:w.heap[k]? =some (.cells cur ty (0,0)))(h1:ty≠168)(h2:ty≠163)(h3:ty≠184):¬S k:=λhs=>by
 rcases h k cur ty hc hs with e1|e1|e1
 exact h1 e1;exact h2 e1;exact h3 e1
def Ze5.touch{S w w' a v n d c}(h:Ze5 w a v n d c)(t:Aa S w w')(f:au S w):Ze5 w' a v n d c:=by obtain⟨g,q,e,i,b⟩:=h;exact⟨g,q,e,i,t.at_ b.blk (f.at b.blk d_ d_ d_),t.row b.row (f.row b.row d_ d_ d_)⟩
def Zcj.touch{S w w' a v n d L}(h:Zcj w a v n d L)(t:Aa S w w')(c:au S w):Zcj w' a v n d L:=by obtain⟨f,q,e,g,b⟩:=h;exact⟨f,q,e,g,t.at_ b.blk (c.at b.blk d_ d_ d_),t.row b.row (c.row b.row d_ d_ d_)⟩
def Mu.touch{S w w' a v N g}(h:Mu w a v N g)(t:Aa S w w')(b:au S w):Mu w' a v N g:=by
 rcases h with⟨h1,p,e,h2⟩|⟨h1,p,e,h2⟩
 exact .inl ⟨h1,p,e,h2.touch t b⟩;exact .inr ⟨h1,p,e,h2.touch t b⟩
def au.none w:au (λ_=>False) w:=λ_ _ _ _ h=>h.elim
def Mu.below{w w' base v N g}(h:Mu w base v N g)(hb:Below w.heap.size w w'):Mu w' base v N g:=h.touch (Aa.of_below hb) (au.none w)
def Mu.mono{w a c v N g}(h:Mu w a v N g)(b:c<=a):Mu w c v N g:=by
 rcases h with⟨h1,p,e,sb,vc,e2,hb,hX⟩|⟨h1,p,e,db,q,e2,hb,hX⟩
 exact .inl ⟨h1,p,e,sb,vc,e2,o_,hX.blk,Du hX.row b⟩;exact .inr ⟨h1,p,e,db,q,e2,o_,hX.blk,Du hX.row b⟩
def Mu.iface{w a v N g}(h:Mu w a v N g):∃t p,v=.iface t (P_ p):=by
 rcases h with⟨_,p,e,sb,vc,e2,_⟩|⟨_,p,e,db,q,e2,_⟩
 ·grind
 grind
def Dx:BS:=⟨[],[],0⟩
def Mo:List (Value×Value)->List Value
  |[]=>[]
  |v::L=>[v.1,v.2]++Mo L
def pd a b:Mo (a++b)=Mo a++Mo b:=by
 induction a with
 |nil=>rfl
 |cons e L ih=>simp[Mo,ih]
structure Ta(base)(w:World)(vB)(vs)(Bs:List BS):Prop where
 row:w.ownsRow 0 163 2 vB Bs.length (Mo vs)
 len:vs.length=Bs.length
 each:∀i,i<Bs.length->Ag w base (vs.getD i Oi).1 (Av (Bs.getD i Dx).fs)/\Mu w base (vs.getD i Oi).2 (Bs.getD i Dx).N (Bs.getD i Dx).g
def Ta.mono{w base b2 vB vs Bs}(h:Ta base w vB vs Bs)(hb:b2<=base):Ta b2 w vB vs Bs:=⟨h.row,h.len,λi hi=>⟨Du (h.each i hi).1 hb,(h.each i hi).2.mono hb⟩⟩
abbrev ZlD(w:World)(vB:Value)(vs:List (Value×Value))(Bs:List BS):Prop:=Ta 0 w vB vs Bs
def jw(off:Nat)(O:List Bool)(B N:List Nat)(r:Nat):Nat:=if O.getD r false=true/\N.getD r 0=0 then off+B.getD r 0 else N.getD r 0
def Zgb(f:Nat)(O:List Bool)(B N:List Nat)(r:Nat):List XS:=if O.getD r false=true/\N.getD r 0≠0 then[⟨r,f,B.getD r 0⟩] else[]
def Hv(off:Nat)(O:List Bool)(B N:List Nat)(k:Nat):List Nat:=(List.range k).map (jw off O B N)++N.drop k
def In(f:Nat)(O:List Bool)(B N:List Nat):Nat->List XS
 |0=>[]
 |k+1=>In f O B N k++Zgb f O B N k
def jp a O B N {k}(h:k<=N.length):(Hv a O B N k).length=N.length:=by simp[Hv];omega
def ZfZ a O B N:Hv a O B N 0=N:=by simp[Hv]
def ZeV a O B N {k}:(Hv a O B N k).getD k 0=N.getD k 0:=by simp[Hv,List.getD,List.getElem?_append_right]
def ZbB a O B N {k}(h:k<N.length):(Hv a O B N k).set k (jw a O B N k)=Hv a O B N (k+1):=by unfold Hv;rw[List.drop_eq_getElem_cons h,List.set_append_right _ _ s_,List.length_map,List.length_range,Nat.sub_self,List.set_cons_zero,List.range_succ,List.map_append,List.append_assoc];rfl
def ZfY a O B N {k}(h:k<N.length)(e:jw a O B N k=N.getD k 0):Hv a O B N (k+1)=Hv a O B N k:=by
 rw[<- ZbB a O B N h,e];apply List.ext_getElem;simp
 grind [ZeV]
def Vs f O B N:∀k,(In f O B N k).length<=k
 |0=>by simp[In]
 | k+1=>by
  have:=Vs f O B N k
  grind [In,Zgb]
structure CS where
 N:List Nat
 xs:List XS
 off:Nat
def Ap(Ks:List KS)(Os:List (List Bool))(Bb:List (List Nat))(n:Nat)(s:CS)(f:Nat):CS:=
 ⟨Hv s.off (Os.getD f []) (Bb.getD f []) s.N n,s.xs++In f (Os.getD f []) (Bb.getD f []) s.N n,s.off+(Ks.getD f Ay).many⟩
def Ij(Ks:List KS)(Os:List (List Bool))(Bb:List (List Nat))(n:Nat)(xs:List XS)(fs:List Nat):CS:=fs.foldl (Ap Ks Os Bb n) ⟨List.replicate n 0,xs,1⟩
def Ju(Os:List (List Bool))(Bb:List (List Nat))(n:Nat)(D:Zg)(G:GS):Zg:=
 ⟨D.ks,D.bs++[⟨G.fs,(Ij D.ks Os Bb n D.xs G.fs).N,(Ij D.ks Os Bb n D.xs G.fs).off-1⟩],(Ij D.ks Os Bb n D.xs G.fs).xs⟩
def Ph:ES:=⟨false,[],[]⟩
def Si:Value×Value×Value:=(.slice none 0 0,.slice none 0 0,.slice none 0 0)
def Kc(e:ES)(v:Value×Value×Value):List Value:=[.bool e.wd,v.1,v.2.1,v.2.2]
def Lf:List ES->List (Value×Value×Value)->List Value
 |[],_=>[]
 |_::_,[]=>[]
 |k::Ks,v::vs=>Kc k v++Lf Ks vs
def gu:∀(Ks:List ES) (vs:List (Value×Value×Value)),vs.length=Ks.length->∀i,i<Ks.length->∀c,c<4->(Lf Ks vs)[i*4+c]? =(Kc (Ks.getD i Ph) (vs.getD i Si))[c]?
 |[],_,_,i,h=>by simp at h
 |k::Ks,[],h,_,_=>by simp at h
 |k::Ks,v::vs,_,0,_=>λc hc=>by grind [Lf,Kc]
 |k::Ks,v::vs,h,i+1,hi=>λc hc=>by simp only[Lf];rw[List.getElem?_append_right (by simp[Kc];omega),show(i+1)*4+c-(Kc k v).length=i*4+c by simp[Kc];omega];exact gu _ _ (by simpa using h) i (by simpa using hi) c hc
structure Ue(base)(w:World)(vF)(vs)(es)(Bb:List (List Nat)):Prop where
 row:w.ownsRow 0 266 4 vF es.length (Lf es vs)
 len:vs.length=es.length
 each:∀i,i<es.length->Ag w base (vs.getD i Si).1 (es.getD i Ph).bs/\Cc w base (vs.getD i Si).2.1 (es.getD i Ph).ww/\Ag w 0 (vs.getD i Si).2.2 (Av (Bb.getD i []))
abbrev Zl7(w:World)(vF:Value)(vs:List (Value×Value×Value))(es:List ES)(Bb:List (List Nat)):Prop:=Ue 0 w vF vs es Bb
def Ue.mono{w base b2 vF vs es Bb}(h:Ue base w vF vs es Bb)(hb:b2<=base):Ue b2 w vF vs es Bb:=⟨h.row,h.len,λi hi=>⟨Du (h.each i hi).1 hb,Du (h.each i hi).2.1 hb,(h.each i hi).2.2⟩⟩
def Ue.touch{S w w' base vF vs es Bb}(h:Ue base w vF vs es Bb)(t:Aa S w w')(hs:au S w):Ue base w' vF vs es Bb:=
 ⟨t.row h.row (hs.row h.row d_ d_ d_),h.len,λi hi=>⟨t.row (h.each i hi).1 (hs.row (h.each i hi).1 d_ d_ d_),t.row (h.each i hi).2.1 (hs.row (h.each i hi).2.1 d_ d_ d_),t.row (h.each i hi).2.2 (hs.row (h.each i hi).2.2 d_ d_ d_)⟩⟩
def Ue.below{w w' base vF vs es Bb}(h:Ue base w vF vs es Bb)(hb:Below w.heap.size w w'):Ue base w' vF vs es Bb:=h.touch (Aa.of_below hb) (au.none w)
def Ue.cells{w d q n c b f k}(h:Ue d w (L_ q n c) b f k){i}(j:i<f.length):q<w.heap.size/\w.cell? (A_ q (i*4))=some (.bool (f.getD i Ph).wd)/\w.cell? (A_ q (i*4+1))=some (b.getD i Si).1/\w.cell? (A_ q (i*4+2))=some (b.getD i Si).2.1/\w.cell? (A_ q (i*4+3))=some (b.getD i Si).2.2:=by
 have l:=h.row
 rcases h.row.2 with⟨_,h0⟩|⟨g,cap,cur,e,hb,hh,hnc,_⟩
 omega;injection e with e1 e2 e3;injection e1 with e1;injection e1 with e1 _;subst e1 e2
 have a:∀c u,c<4->(Kc (f.getD i Ph) (b.getD i Si))[c]? =some u->w.cell? (A_ q (i*4+c))=some u:=λc u hc hu=>by rw[World.ownsRow.cellAt l (i*4+c) o_];exact(gu _ _ h.len i j c hc).trans hu
 exact⟨(Qb hh).1,a 0 _ o_ rfl,a 1 _ o_ rfl,a 2 _ o_ rfl,a 3 _ o_ rfl⟩
def Mx.touchS{S w w' base vK vs Ks}(h:Mx base w vK vs Ks)(t:Aa S w w')(hs:au S w):Mx base w' vK vs Ks:=
 h.touch t (λk cur ty hk hty=>hs.at hk w_ w_ w_)
def Ho.touchS{S w w' vO vs Os}(h:Ho w vO vs Os)(t:Aa S w w')(hs:au S w):Ho w' vO vs Os:=
 h.touch t (λk cur ty hk hty=>hs.at hk w_ w_ w_)
structure Yd(base)(w:World)(db:Nat)(vK vB vX)(bvs)(bs)(xs):Prop where
 blk:w.heap[db]? =some (.cells #[vK,vB,vX] 168 (0,0))
 bn:Ta base w vB bvs bs
 xn:Mi w 0 vX xs
abbrev DsX(w:World)(db:Nat)(vK vB vX:Value)(bvs:List (Value×Value))(bs:List BS)(xs:List XS):Prop:=Yd 0 w db vK vB vX bvs bs xs
def Yd.mono{w base b2 db vK vB vX bvs bs xs}(h:Yd base w db vK vB vX bvs bs xs)(hb:b2<=base):Yd b2 w db vK vB vX bvs bs xs:=⟨h.blk,h.bn.mono hb,h.xn⟩
def DsS(db:Nat)(vB vX:Value):Nat->Prop:=λk=>k=db∨vB.ownBlock=some k∨vX.ownBlock=some k
def Yd.sty{w base db vK vB vX bvs bs xs}(h:Yd base w db vK vB vX bvs bs xs):au (DsS db vB vX) w:=λk cur ty hk hs=>by
 rcases hs with e|e|e
 ·subst e;rw[h.blk] at hk
  grind
 ·obtain⟨c2,hc⟩:=Ad h.bn.row e
  grind
 obtain⟨c2,hc⟩:=Ad h.xn e
 grind
def Ta.touch{S w w' base vB vs Bs}(h:Ta base w vB vs Bs)(t:Aa S w w')(hr:∀k,vB.ownBlock=some k->¬S k)(hs:au S w):Ta base w' vB vs Bs:=
 ⟨t.row h.row hr,h.len,λi hi=>⟨t.row (h.each i hi).1 (hs.row (h.each i hi).1 d_ d_ d_),(h.each i hi).2.touch t hs⟩⟩
def Ta.below{w w' base vB vs Bs}(h:Ta base w vB vs Bs)(hb:Below w.heap.size w w'):Ta base w' vB vs Bs:=h.touch (S:=λ_=>False) (Aa.of_below hb) (λ_ _=>id) (au.none w)
def Yd.below{w w' base db vK vB vX bvs bs xs}(h:Yd base w db vK vB vX bvs bs xs)(hb:Below w.heap.size w w'):Yd base w' db vK vB vX bvs bs xs:=
 ⟨(hb.block db (Qb h.blk).1).trans h.blk,h.bn.below hb,(Aa.of_below (S:=λ_=>False) hb).row h.xn (λ_ _=>id)⟩
def Yd.more{w f a d o q s vX' j r z l}(h:Yd a w d o q s j r z)(A:w.grownBy f s.ownBlock)(y:Mi f 0 vX' l):Yd a (f.setCell (A_ d 2) vX') d o q vX' j r l:=by
 have t:=(Aa.refl _ w).grown A (λk hk _=>hk);have n:au _ w:=λk cur ty hk hs=>h.sty k _ _ hk (.inr (.inr hs))
 have b:=t.at_ h.blk (λe=>by
  obtain⟨c,v⟩:=Ad h.xn e;have:=h.blk
  grind)
 have g:=h.bn.touch t (λk hk hk2=>by
  obtain⟨c,v⟩:=Ad h.xn hk2;obtain⟨u,m⟩:=Ad h.bn.row hk
  grind) n
 have x:=(Aa.refl (λk=>k=d) f).setCell (p:=(A_ d 2)) (λ_=>rfl) vX'
 have i:au (λk=>k=d) f:=λk cur ty hk hs=>w_
 refine⟨ht_ 2 _ _ _ b,g.touch x (λk hk e=>?_) i,As y b d_⟩;subst e;obtain⟨u,m⟩:=Ad g.row hk
 grind
def Zh9 N (k x:Nat):(Av N).set k x=Av (N.set k x):=by simp[Av,List.map_set]
def Px Ks Os Bb n:∀(fs:List Nat) s,s.off<=(fs.foldl (Ap Ks Os Bb n) s).off
 |[],s=>qa_
 | f::fs,s=>by
  have:=Px Ks Os Bb n fs (Ap Ks Os Bb n s f)
  grind [Ap]
def Lw b a c n:∀(fs:List Nat) s,s.N.length=n->(fs.foldl (Ap b a c n) s).N.length=n/\(fs.foldl (Ap b a c n) s).xs.length<=s.xs.length+fs.length*n
 |[],s,h=>⟨h,s_⟩
 | f ::fs,s,h=>by
  have h1:(Ap b a c n s f).N.length=n:=by show(Hv _ _ _ _ n).length=n;rw[jp _ _ _ _ o_];exact h
  have d:(Ap b a c n s f).xs.length<=s.xs.length+n:=by
   show(s.xs++In _ _ _ _ n).length<=_
   grind [Vs]
  obtain⟨e,g⟩:=Lw b a c n fs _ h1;simp only[List.foldl_cons,List.length_cons]
  grind
def Yd.moreB{w g a i u v n b o d A j r}(h:Yd a w i u v n o A r)(y:w.grownBy g v.ownBlock)(s:Ta a g b d j):Yd a (g.setCell (A_ i 1) b) i u b n d j r:=by
 have t:=(Aa.refl _ w).grown y (λk hk _=>hk)
 have f:=t.at_ h.blk (λe=>by
  obtain⟨c,z⟩:=Ad h.bn.row e;have:=h.blk
  grind)
 have m:Mi g 0 n r:=t.row h.xn (λk hk hk2=>by
  obtain⟨c,z⟩:=Ad h.xn hk;obtain⟨x,q⟩:=Ad h.bn.row hk2
  grind)
 have B:=(Aa.refl (λk=>k=i) g).setCell (p:=(A_ i 1)) (λ_=>rfl) b
 have l:au (λk=>k=i) g:=λk cur ty hk hs=>w_
 refine⟨ht_ 1 _ _ _ f,s.touch B (λk hk e=>?_) l,As m f d_⟩;subst e;obtain⟨x,q⟩:=Ad s.row hk
 grind
def dr(base:Nat)(w w':World)(db:Nat)(vK vB vX:Value)(bs:List BS)(xs:List XS):Prop:=∃vB' vX' bvs',Yd base w' db vK vB' vX' bvs' bs xs/\Aa (DsS db vB vX) w w'/\∀k,DsS db vB' vX' k->DsS db vB vX k∨w.heap.size<=k
def Yd.touch{S w w' a s m j o b f r}(h:Yd a w s m j o b f r)(t:Aa S w w')(g:∀k ty cur,w.heap[k]? =some (.cells cur ty (0,0))->ty≠3->¬S k)(d:∀i,i<f.length->∀k,(b.getD i Oi).1.ownBlock=some k->¬S k):Yd a w' s m j o b f r:=by
 have c:∀{a e size n:Nat} {v l},w.ownsRow a e size v n l->e≠3->∀k,v.ownBlock=some k->¬S k:=λhh he k hk=>by grind [Ad]
 refine⟨t.at_ h.blk (g _ _ _ h.blk d_),⟨t.row h.bn.row (c h.bn.row d_),h.bn.len,λi hi=>⟨t.row (h.bn.each i hi).1 (d i hi),?_⟩⟩,t.row h.xn (c h.xn d_)⟩
 rcases(h.bn.each i hi).2 with⟨h1,p,e,sb,vc,e2,hb,hX⟩|⟨h1,p,e,d2,q,e2,hb,hX⟩
 exact .inl ⟨h1,p,e,sb,vc,e2,hb,t.at_ hX.blk (g _ _ _ hX.blk d_),t.row hX.row (c hX.row d_)⟩;exact .inr ⟨h1,p,e,d2,q,e2,hb,t.at_ hX.blk (g _ _ _ hX.blk d_),t.row hX.row (c hX.row d_)⟩
structure dy(base)(w wr:World)(db)(vK vB vX vX')(bvs)(bs)(qn n)(N)(xs):Prop where
 ds:Yd base wr db vK vB vX' bvs bs xs
 nm:Ag wr w.heap.size (L_ qn n n) (Av N)
 t:Aa (DsS db vB vX) w wr
 nx:∀k,vX'.ownBlock=some k->DsS db vB vX k∨w.heap.size<=k
def dy.below{w wr w2 base db vK vB vX vX' bvs bs qn n N xs}(h:dy base w wr db vK vB vX vX' bvs bs qn n N xs)(hb:Below wr.heap.size wr w2):dy base w w2 db vK vB vX vX' bvs bs qn n N xs:=
 ⟨h.ds.below hb,h.nm.below hb,h.t.below hb,h.nx⟩
def oq d L gb m n qk kc qf fc qo oc cH dJ vB vX vf oa dK r dB cX os M I l es z o g w (a9:d<=w.heap.size)(hD:Yd d w L (L_ qk (m+1) kc) vB vX r M I)(hK:ZgJ w (L_ qk (m+1) kc) dB l)(cM:l.length=m+1)(aD:w.heap[gb]? =some (.cells #[vf,.slice oa n dK,I_ (cH:Nat),I_ (dJ:Nat)] 351 (0,0)))(b5:Ag w d vf (Av g))(hF:Zl7 w (L_ qf (m+1) fc) cX es z)(cT:es.length=m+1)(hO:Ho w (L_ qo (m+1) oc) os o)(bL:o.length=m+1)(cO:∀O∈o,O.length=n)(c6:∀i,i<m+1->(z.getD i []).length=n)(cE:∀f∈g,f<m+1)(hn:n<=200)(bY:g.length<=100)(aX:∀i,i<m+1->∀b∈z.getD i [],b<=1000)(a0:∀K∈l,K.many<=100)(aQ:(Ij l o z n I g).off<=64)(hx:I.length<=100000)(fG:M.length<=1000):C_ 207 #[.pointer (some ⟨L,0,none⟩),.pointer (some ⟨gb,0,none⟩),.slice (some ⟨qf,0,none⟩) (m+1) fc,.slice (some ⟨qo,0,none⟩) (m+1) oc] w λe w'=>e=.returned (.tuple #[])/\dr d w w' L (.slice (some ⟨qk,0,none⟩) (m+1) kc) vB vX (M++[⟨g,(Ij l o z n I g).N,(Ij l o z n I g).off-1⟩]) (Ij l o z n I g).xs:=by
 have HH:=x5_ hK hF hO b5 aD;have HL:=x8_ cM cT bL cO c6 cE aX a0;have A:=x1_ hD.sty;have dT:=x1_ a9;have HD:=x1_ hD;obtain⟨Z,C,cD⟩:=b5.shape;rw[Aw] at cD;subst cD;have g0:=cR_ 0 aD;have g1:=cR_ 1 aD;have dF:=(Qb aD).1;have f8:=(Qb hD.blk).1;have aJ:Hid (Ij l o z n I _=g.foldl _ _/\_):=⟨rfl,aQ⟩;have dM:=Kr n o_;obtain⟨R,aG⟩:=ex_ g.length;have bD:=x1_ aG;rw[<- aG] at bY g0;clear a9 hD hK cM aD b5 hF cT hO bL cO c6 cE aX a0 aQ aG;obtain⟨i0,bX,dV,dN,cW⟩:=info_parts ZjM;obtain⟨j0,bR,dC,dX,dU⟩:=info_parts ZjK;go_enter Tryz.func207,Tryz.ntmps207;go_wp2_with fail
 go_loopw [26,9] (λti to_ wr=>∃(k:Nat) (aP:Value),ti=.int .i64 k/\k<=R/\to_=.int .i64 (((g.take k).foldl (Ap l o z n) ⟨List.replicate n 0,I,1⟩).off:Nat)/\Hid (dy d w wr L (.slice (some ⟨qk,0,none⟩) (m+1) kc) vB vX aP r M w.heap.size n ((g.take k).foldl (Ap l o z n) ⟨List.replicate n 0,I,1⟩).N ((g.take k).foldl (Ap l o z n) ⟨List.replicate n 0,I,1⟩).xs)) (λti _ _=>R-(intOf ti).toNat)
 case atStart=>
  refine⟨0,vX,rfl,qg_,rfl,?_⟩;have hm:=Kq n w _ o_ qa_;have e:Av (List.replicate n 0)=List.replicate n 0:=(by simp[Av]);exact⟨HD.below bA_,w_,(Aa.refl _ _).alloc _,λk J=>.inl (.inr (.inr J))⟩
 case round=>
  clear dM;obtain⟨k,aP,rfl,J,rfl,HR⟩:=hrel;have cL:=HR.t.size
  by_cases hkl:k<R
  ·have cJ:k<g.length:=(by rw[<- bD];exact hkl);have dO:g.take (k+1)=g.take k++[g.getD k 0]:=(by grind [Qi]);have H:g.getD k 0<m+1:=by have:g.getD k 0=g[k]:=(by simp[List.getD,cJ]);rw[this];exact HL.2.2.2.2.2.1 _ (Qf _)
   have bO:Hid ((g.take (k+1)).foldl (Ap l o z n) ⟨List.replicate n 0,I,1⟩=Ap l o z n ((g.take k).foldl (Ap l o z n) ⟨List.replicate n 0,I,1⟩) (g.getD k 0)):=by
    show _=_
    grind
   have aZ:((g.take (k+1)).foldl (Ap l o z n) ⟨List.replicate n 0,I,1⟩).off<=64:=(by have P:=Px l o z n (g.drop (k+1)) ((g.take (k+1)).foldl (Ap l o z n) ⟨List.replicate n 0,I,1⟩);rw[<- List.foldl_append,List.take_append_drop,<- aJ.1] at P;exact Nat.le_trans P aJ.2);have F:=Lw l o z n (g.take k) ⟨List.replicate n 0,I,1⟩ s_;have aL:wr.cell? ⟨(match Z with|some p=>p.block|none=>0),k,none⟩=some (.int .i64 (g.getD k 0:Nat))/\∃q,Z=some ⟨q,0,none⟩:=by obtain⟨q,hq,bK,_,hc,_⟩:=HH.2.2.2.1.atK (by rw[Aw]) cJ;subst hq;rw[Cv] at hc;have c8:=A.row HH.2.2.2.1 d_ d_ d_ q rfl;refine⟨?_,q,rfl⟩;show wr.cell? (A_ q k)=_;rw[cb_ (a:=(A_ q k)) (HR.t.block q bK c8)];exact hc
   obtain⟨aL,q,hq⟩:=aL;subst hq;simp only at aL;have cA:Hid (∀f,(Ap l o z n ((g.take k).foldl (Ap l o z n) ⟨List.replicate n 0,I,1⟩) f).off=_+_):=λf=>rfl
   have dZ:((g.take k).foldl (Ap l o z n) ⟨List.replicate n 0,I,1⟩).xs.length<=200000:=by
    have P:=F.2;have h2:(g.take k).length*n<=100*_:=Nat.mul_le_mul t_ hn
    grind
   have a4:=x1_ F.1;rw[bO,cA] at aZ;clear dO F;generalize g.getD k 0=f,(g.take k).foldl (Ap l o z n) ⟨List.replicate n 0,I,1⟩=s at *;have bH:=HH.2.2.1.touchS HR.t A;have aK:=bH.each f (by rw[HL.2.2.1];exact H);obtain⟨cN,o0⟩:=bH.at2 (i:=f) (by rw[HL.2.2.1];exact H);have a3:(o.getD f []).length=n:=HL.2.2.2.1 _ (by simp[List.getD,show f<o.length by rw[HL.2.2.1];exact H]);have a7:=HL.2.2.2.2.1 f H;have aR:=HL.2.2.2.2.2.2.1 f H;obtain⟨xa,xc,bF⟩:=aK.shape;rw[bF] at o0 aK;rw[a3] at o0 aK;have b6:Hid (Ap l o z n s f=⟨_,_,_⟩):=rfl;have bB:Hid (Ev w 0 (.slice xa n xc) (o.getD f [])/\(o.getD f []).length=n):=by have P:=HH.2.2.1.each f (by rw[HL.2.2.1];exact H);rw[bF,a3] at P;exact⟨P,a3⟩
   have bI:=HH.2.1.touch HR.t A;obtain⟨f7,_,_,_,b3⟩:=bI.cells (i:=f) (by rw[HL.2.1];exact H);have aN:=(HH.2.1.each f (by rw[HL.2.1];exact H)).2.2;obtain⟨ba,bc,bA⟩:=aN.shape;rw[Aw,a7] at bA;rw[bA] at b3 aN;have bW:=n3_ aN a7 aR;have a8:=x1_ bW
   have d5:Hid (∀W:World,Aa (DsS L vB vX) w W->W.cell? (A_ qf (f*4+3))=some (.slice ba n bc)):=λW hW=>by
    have P:=(HH.2.1.touch hW A).cells (i:=f) (by rw[HL.2.1];exact H)
    grind
   clear bH aK a3 a7 aR bI aN bW bF bA b3;generalize o.getD f []=Of,z.getD f []=Bf at *;have fA:0<=(k:Int):=o_;have fF:k<(R:Int):=o_;have fI:0<=(f:Int):=o_;have fB:f<(m:Int)+1:=o_;obtain⟨wl,dD⟩:∃wl,wl=wr:=⟨wr,rfl⟩;subst dD;go_wp2_with fail
   go_loopw [35] (λtj wr=>∃(j:Nat) (vY:Value),tj=.int .i64 j/\j<=n/\Hid (dy d w wr L (.slice (some ⟨qk,0,none⟩) (m+1) kc) vB vX vY r M w.heap.size n (Hv s.off Of Bf s.N j) (s.xs++In f Of Bf s.N j))) (λtj _=>n-(intOf tj).toNat)
   case atStart=>
    refine⟨0,aP,rfl,qg_,?_⟩;rw[ZfZ];show dy _ _ _ _ _ _ _ _ _ _ _ _ _ (s.xs++[]);rw[List.append_nil];exact HR
   case round=>
    clear HR aL cN o0 cL;obtain⟨j,vY,rfl,hj,y⟩:=hrel;have cL:=y.t.size
    by_cases hjn:j<n
    ·obtain⟨qx,dH,cI,_,x0,_⟩:=bB.1.atK bB.2 hjn;subst dH;obtain⟨qb,dL,bU,_,y0,_⟩:=a8.1.atK (by rw[Aw];exact a8.2.1) hjn;subst dL;rw[Cv] at y0;have x1:wr.cell? (A_ qx j)=some (.bool (Of.getD j false)):=(by rw[cb_ (a:=(A_ qx j)) (y.t.block qx cI (A.row bB.1 d_ d_ d_ qx rfl))];exact x0);have y1:wr.cell? (A_ qb j)=some (I_ (Bf.getD j 0:Nat)):=(by rw[cb_ (a:=(A_ qb j)) (y.t.block qb bU (A.row a8.1 d_ d_ d_ qb rfl))];exact y0);have y2:=d5 _ y.t;have aA:(Hv s.off Of Bf s.N j).length=n:=(by rw[jp _ _ _ _ (by have:=a4.out;omega)];exact a4);obtain⟨n1,nf⟩:=y.nm.cellK (k:=j) (by rw[Aw];exact aA.symm) hjn;rw[Cv,ZeV] at n1
     have cU:Bf.getD j 0<=1000:=(by have dA:j<Bf.length:=(by have:=a8.2.1;omega);have:Bf.getD j 0=Bf[j]:=(by simp[List.getD,dA]);rw[this];exact a8.2.2 _ (Qf _));have dE:Hid (n=(Av (Hv s.off Of Bf s.N j)).length):=(by rw[Aw];exact aA.symm);have E:Hid (jw s.off Of Bf s.N j=if _/\_ then _ else _):=rfl;have D:Hid (In f Of Bf s.N (j+1)=_++(if _/\_ then _ else _)):=rfl;have aO:Hid (_=Hv _ _ Bf _ (j+1)):=ZbB s.off Of _ s.N (by have:=a4.out;omega);have aI:Hid (_=s.N.getD j 0->_):=ZfY s.off Of Bf _ (by have:=a4.out;omega);have bK:qf<wr.heap.size:=by have:=(HH.2.1.cells (i:=f) (by rw[HL.2.1];exact H)).1;omega
     have f9:0<=(j:Int):=o_;have fH:j<(n:Int):=o_;have f3:s.off<=64:=o_
     have cV:Hid ((s.xs++In f Of Bf s.N j).length<=300000):=(by have:=Vs f Of Bf s.N j;show _<=_;rw[Qe];omega);clear x0 y0 aA;generalize Of.getD j false=ob,Bf.getD j 0=yb,s.N.getD j 0=nz at *
     cases ob with
     | false=>
      have HF:Hid (dy d w wr L (L_ qk (m+1) kc) vB vX vY r M w.heap.size n (Hv s.off Of Bf s.N (j+1)) (s.xs++In f Of Bf s.N (j+1))):=(by have P:=E.out;rw[if_neg s_] at P;rw[aI P,D,if_neg s_,List.append_nil];exact y);clear y E D aO aI n1;refine rd_ ?_;exact⟨j+1,_,g_,o_,HF⟩
     | true=>
      by_cases hz:nz=0
      ·subst hz
       have HF:Hid (dy d w (wr.setCell (A_ w.heap.size j) (I_ (s.off+yb))) L (L_ qk (m+1) kc) vB vX vY r M w.heap.size n (Hv s.off Of Bf s.N (j+1)) (s.xs++In f Of Bf s.N (j+1))):=by
        have P:=E.out;rw[if_pos ⟨rfl,rfl⟩] at P;rw[D,if_neg s_,List.append_nil,<- aO,P];obtain⟨p1,p2⟩:=y.nm.put (k:=j) dE ((s.off:Int)+(yb:Int));have t2:Aa _ _ (wr.setCell _ (I_ ((s.off:_)+(yb:_)))):=(Aa.refl (λx=>x=w.heap.size) _).setCell (p:=(A_ w.heap.size j)) (λ_=>rfl) _;obtain⟨cu,cZ⟩:=Ad y.nm (k:=w.heap.size) rfl;refine⟨y.ds.touch t2 (λk ty cur J hty e=>?_) (λi hi k J e=>by have:=(rl_ (HD.bn.each i hi).1 k J).2;omega),?_,y.t.setCell (p:=(A_ w.heap.size j)) (λh=>absurd h (Nat.lt_irrefl _)) _,y.nx⟩;subst e;rw[cZ] at J;simp at J;exact hty J.2.symm;show Ag _ _ _ (Av ((Hv s.off Of Bf s.N j).set j (s.off+yb)));rw[<- Zh9];have:((s.off+yb:Nat):Int)=(s.off:Int)+(yb:Int):=o_;rw[this];exact p1
       have fC:Hid (_=(s.off:Int)+(yb:Int)):=Cb o_ o_;clear y E D aO aI;refine rd_ ?_;exact⟨j+1,_,g_,o_,HF⟩
      have fJ:((nz:Int)==0)=_:=beq_eq_false_iff_ne.2 o_;have cB:Hid (s.xs++In f Of Bf s.N (j+1)=(s.xs++In f Of Bf s.N j)++[⟨j,f,yb⟩]):=(by show _=_;rw[D,if_pos ⟨rfl,hz⟩,List.append_assoc]);have bN:=x1_ (aI (by rw[E,if_neg (λh=>hz h.2)]));obtain⟨ya,yc,d8⟩:=y.ds.xn.shape;subst d8;have d7:=cR_ 2 y.ds.blk;have a2:L<wr.heap.size:=o_;have T:Hid _:=y.ds.xn;clear hz D E aO aI;generalize hxx:s.xs++In f Of Bf s.N j=XX at *;generalize hxl:XX.length=xl at *;have f6:=cV.out;go_wp2_with (at_builtin;refine Ab rfl (.tmp 52) (.tmp 57) 166 rfl 0 184 i0 _ 3 24 Tryz.underlying166 bX dV dN cW rfl d_ _ xl (Io XX) rfl (T.alloc _) _ 1 1 [I_ (j:Nat),I_ (f:Nat),I_ (yb:Nat)] rfl rfl ?_ ?_ ?_ ?_ ?_ ?_ ?_)
      exact Am _ _ _
      ·intro u hu;simp at hu;rcases hu with rfl|rfl|rfl<;>rfl
      decide;unfold maxLen;omega;omega;simp;intro v4 w4 H4;obtain⟨r4,g4,d4,_,_⟩:=H4;have aS:=y.ds.below (bz_.alloc qa_ (.cells #[I_ (j:Nat),I_ (f:Nat),I_ (yb:Nat)] 184));have aY:Mi w4 0 v4 (XX++[⟨j,f,yb⟩]):=(by refine Mi.more ?_;rw[hxl];exact r4);have U:=aS.more g4 aY;have Q:w4.heap[L]? =some (.cells #[L_ qk (m+1) kc,vB,.slice ya xl yc] 168 (0,0)):=(by rw[g4.block L t_ (λe=>Au T e.symm y.ds.blk d_ rfl)];exact(hc_ a2).trans y.ds.blk);have c4:=cR_ 2 Q;have f4:=fq_ 2 _ _ Q
      have c3:Ag (w4.setCell ⟨_,2,_⟩ v4) _ _ _:=
       As (World.ownsRow.kept (Ag.alloc y.nm _) g4 (An T y.nm d_)) Q d_
      have cS:=((y.t.alloc _).grown g4 (λk J hkl=>by
        rcases y.out.nx k J with h|h
        exact h
        omega)).setCell (p:=(A_ L 2)) (λ_=>.inl rfl) v4
      obtain⟨a5,c5,bM⟩:=aY.shape
      have HF:Hid (dy d w (w4.setCell (A_ L 2) v4) L (L_ qk (m+1) kc) vB vX v4 r M w.heap.size n (Hv s.off Of Bf s.N (j+1)) (s.xs++In f Of Bf s.N (j+1))):=by
       rw[cB,bN];refine⟨U,c3,cS,λk J=>?_⟩
       rcases d4 with e|e
       exact y.nx k (e ▸ J);rw[e.1] at J;injection J with J;omega
      rw[bM] at HF;subst bM;clear r4 g4 d4 aS aY U Q c3 cS y T cB bN hxx hxl d7;generalize (XX++[(⟨j,f,yb⟩:XS)]).length=l5 at *;refine rd_ ?_;exact⟨j+1,_,g_,o_,HF⟩
    have fM:¬j<(n:Int):=o_;have aU:j=n:=o_;have c7:=HH.1.touchS y.t A;obtain⟨ab,cb,aw,cw,dY,k0,k1,k2,k3,_,_⟩:=c7.at2 (i:=f) (by rw[HL.1];exact H);have dI:=cR_ 0 y.ds.blk;have a0:(l.getD f Ay).many<=_:=HL.2.2.2.2.2.2.2 _ (by simp[List.getD,show f<l.length by rw[HL.1];exact H]);have cF:=KS.many_eq (l.getD f Ay)
    have c9:Hid (∀W:World,C_ 146 #[.agg #[.bool (l.getD f Ay).e.wd,.slice ab (l.getD f Ay).e.bs.length cb,.slice aw (l.getD f Ay).e.ww.length cw]] W λe w'=>e=.returned (.int .i64 (l.getD f Ay).many)/\E_ W w'):=λW=>by rw[<- cF];exact Jk _ _ _ _ _ _ _ W o_
    have bT:Hid ((g.take (k+1)).foldl (Ap l o z n) ⟨List.replicate n 0,I,1⟩=⟨Hv s.off Of Bf s.N n,s.xs++In f Of Bf s.N n,s.off+(l.getD f Ay).many⟩):=(by show _=_;rw[bO,b6]);have bP:Hid (dy d w wr L (L_ qk (m+1) kc) vB vX vY r M w.heap.size n (Hv s.off Of Bf s.N n) (s.xs++In f Of Bf s.N n)):=(by rw[aU] at y;exact y);clear c7 k3 cF y aU;generalize l.getD f Ay=Kf at *;generalize Kf.e.wd=kwd,Kf.e.bs.length=knb,Kf.e.ww.length=knw,Kf.many=km at *;go_wp2_with fail
    refine(c9 _).mono ?_;rintro e w2 ⟨rfl,bS⟩;have HF:Hid (dy d w w2 L (L_ qk (m+1) kc) vB vX vY r M w.heap.size n ((g.take (k+1)).foldl (Ap l o z n) ⟨List.replicate n 0,I,1⟩).N ((g.take (k+1)).foldl (Ap l o z n) ⟨List.replicate n 0,I,1⟩).xs):=(by rw[bT];exact bP.below bS);clear bS bP k0 k1 k2 dI c9;refine rd_ ?_;exact⟨k+1,vY,g_,o_,by rw[bT];go_num,HF⟩
  have fD:¬k<(R:Int):=o_;have cQ:g.take k=_:=List.take_of_length_le (by have:=bD.out;omega);rw[cQ] at HR ⊢;have F:=Lw l o z n g ⟨List.replicate n 0,I,1⟩ s_;have b8:=Px l o z n g ⟨List.replicate n 0,I,1⟩;rw[<- aJ.1] at HR F b8 ⊢;have bC:=aJ.2;simp only at b8;obtain⟨s,bE⟩:=ex_ (Ij l o z n I g);have dP:=x1_ bE;rw[<- bE] at HR F b8 bC ⊢;clear bE;have aA:=F.1;clear cQ F;have HM:_:=HR
  have cR:Hid (∀W:World,E_ wr W->C_ 257 #[.slice (some ⟨w.heap.size,0,none⟩) n n,.int .i64 (s.off-1:Nat)] W λe w'=>∃v,e=.returned v/\Mu w' d v s.N (s.off-1)/\E_ W w'):=λW hW=>by have P:=HM.nm.below hW;have h2:=Ag.mono P qg_;have dQ:=Nat.le_trans dT (Nat.le_trans HM.t.size hW.size);exact(Zfk _ n n _ _ W h2 aA hn o_).mono (λe w' h3=>by obtain⟨v,he,hc,hb⟩:=h3;exact⟨v,he,hc.mono dQ,hb⟩)
  have q1:IntKind.i64.wrap (s.off-1)=(s.off-1:Nat):=by rw[Cb o_ o_];omega
  obtain⟨ba,aF,d9⟩:∃a c,vB=.slice a M.length c:=by
   rcases HM.out.ds.bn.row.2 with⟨rfl,h0⟩|⟨q,p,cur,rfl,_⟩
   ·grind
   grind
  subst d9;have cP:=cR_ 1 HM.ds.blk;have aB:=A.at HH.out.2.2.2.2 d_ d_ d_;have bQ:wr.drew.cell? (A_ gb 0)=some (.slice Z R C):=(by have:wr.heap[gb]? =w.heap[gb]?:=HM.t.block gb dF aB;have h2:=cb_ (a:=(A_ gb 0)) this;exact h2.trans g0);have a2:L<wr.heap.size:=o_;have aW:gb<wr.heap.size:=o_;have T:=x1_ HM.ds.bn.row;clear HR g0 g1;generalize hbsl:M.length=bl at *;go_upto_region 16 with fail;refine Al (λw'=>w'.cell? (A_ L 1)=some (.slice ba bl aF)/\w'.cell? (A_ gb 0)=some (.slice Z R C)) 18 k_ ⟨cP,bQ⟩ (λhHeld=>?_);refine Ah 0 ?_;refine Ah 1 ?_;refine Ah 2 ?_;refine Ah 3 ?_;refine Ua [15,16,17,18] 4 (v:=?_) ?_ ?_
  rotate_left
  ·intro w b9;try obtain⟨_,_⟩:=b9
   go_simp;try with_reducible rfl
  try simp only[Act.put,sA,sB,sC]
  refine Ah 5 ?_;refine Ah 6 ?_;refine Ah 7 ?_;refine Ua [13,14,15,16,17,18] 8 (v:=?_) ?_ ?_
  rotate_left
  ·intro w b9;try obtain⟨_,_⟩:=b9
   go_simp;try with_reducible rfl
  try simp only[Act.put,sA,sB,sC]
  refine Ah 9 ?_;refine Ah 10 ?_;refine Ah 11 ?_;refine Af (i:=12) k_ rfl (λKK hK=>?_);go_simp;refine(cR _ (bz_.drew)).mono ?_;rintro e w4 ⟨v4,rfl,bG,a6⟩;have cG:=(a6.cell (p:=(A_ L 1)) a2).trans cP;have b7:=(a6.cell (p:=(A_ gb 0)) aW).trans bQ;obtain⟨ct,cp,dS⟩:=bG.iface;subst dS;go_simp;refine hK _ _ ⟨cG,b7⟩ (λhHeld=>?_);clear hK KK;try simp only[Act.put,sA,sB,sC]
  refine Ah 13 ?_;refine Af (i:=14) k_ rfl (λKK hK=>?_);go_simp;have bV:=Qh a2 a6.size;have aV:=Qh aW a6.size;refine hK _ _ ⟨(Below.cell (B:=w4.heap.size) (p:=(A_ L 1)) bA_ bV).trans cG,(Below.cell (B:=w4.heap.size) (p:=(A_ gb 0)) bA_ aV).trans b7⟩ (λhHeld=>?_);clear hK KK;try simp only[Act.put,sA,sB,sC]
  refine Af (i:=15) k_ rfl (λKK hK=>?_);have X:=(br_ wr.heap.size _).drew.trans a6;refine Az rfl (.tmp 93) (.tmp 103) 165 rfl 0 163 j0 (.agg #[.slice none 0 0,.nilIface]) 2 40 Tryz.underlying165 bR dC dX dU rfl d_ (.slice ba bl aF) bl (Mo r) j_ (ra_ ((Aa.of_below (S:=λ_=>False) X).row T (λ_ _=>id)) _) (A_ w4.heap.size 0) 1 1 [.slice Z R C,.iface ct (P_ cp)] j_ rfl (Am w4 #[.slice Z R C,.iface ct (P_ cp)] 163) (by intro u hu;simp only[List.mem_cons,List.not_mem_nil,or_false] at hu;rcases hu with rfl|rfl<;>rfl) d_ m_ o_ s_ ?_;intro v6 w6 H6;obtain⟨r6,g6,d6,_,q6,p6,dW⟩:=H6;have U:=HM.ds.below X
  have G:=U.below (bz_.alloc qa_ (.cells #[.slice Z R C,.iface ct (P_ cp)] 163));have a1:Aa _ (w4.alloc (.cells _ 163)) _:=(Aa.refl _ _).grown g6 (λk J _=>J);have V:au _ _:=λk cur ty J hs=>G.sty k _ _ J (.inr (.inl hs));have aE:Ag (w4.alloc (.cells #[.slice Z R C,.iface ct (P_ cp)] 163)) d (.slice Z R C) (Av g):=(by have P:=HM.t.row HH.2.2.2.1 (A.row HH.2.2.2.1 d_ d_ d_);rw[<- bD] at P;exact((Aa.of_below (S:=λ_=>False) X).row P (λ_ _=>id)).alloc _);have aH:Mu (w4.alloc (.cells #[.slice Z R C,.iface ct (P_ cp)] 163)) d _ s.N _:=bG.below bA_
  have aC:Ta d w6 v6 (r++[(.slice Z R C,.iface ct (P_ cp))]) (M++[⟨g,s.N,s.off-1⟩]):=by
   have dG:r.length=bl:=(by have:=HM.ds.bn.len;omega);refine⟨by rw[Qe,pd,hbsl];exact r6,by simp[dG,hbsl],λi hi=>?_⟩;rw[Qe] at hi;simp at hi
   by_cases hib:i<M.length
   have e1:(r++[((.slice Z R C:Value),(.iface ct (P_ cp):Value))]).getD i Oi=r.getD i Oi:=(by simp[List.getD,List.getElem?_append_left (show i<r.length by omega)]);have e2:(M++[(⟨g,s.N,s.off-1⟩:BS)]).getD i Dx=M.getD i Dx:=(by simp[List.getD,List.getElem?_append_left hib]);rw[e1,e2];exact⟨a1.row (G.bn.each i hib).1 (V.row (G.bn.each i hib).1 d_ d_ d_),(G.bn.each i hib).2.touch a1 V⟩
   have ei:i=M.length:=o_;subst ei;have e1:(r++[((.slice Z R C:Value),(.iface ct (P_ cp):Value))]).getD M.length Oi=((.slice Z R C:Value),(.iface ct (P_ cp):Value)):=(by simp[List.getD,HM.out.ds.bn.len.symm]);have e2:(M++[(⟨g,s.N,s.off-1⟩:BS)]).getD M.length Dx=⟨g,s.N,s.off-1⟩:=(by simp[List.getD]);rw[e1,e2];exact⟨a1.row aE (V.row aE d_ d_ d_),aH.touch a1 V⟩
  have aT:=G.moreB g6 aC;have Y:=a1.at_ G.blk (λe=>Au (ra_ ((Aa.of_below (S:=λ_=>False) X).row T (λ_ _=>id)) _) e G.blk d_ rfl);have dR:=cR_ 1 Y;have fK:=fq_ 1 _ _ Y;have aM:¬_:=λe=>aB (.inr (.inl e));have cY:w6.cell? (A_ gb 0)=some (.slice Z R C):=(by have P:=a1.block _ t_ aM;rw[cb_ (a:=(A_ gb 0)) P];exact(Below.cell (B:=w4.heap.size) (p:=(A_ gb 0)) bA_ aV).trans b7);have bZ:=(((HM.t.below X).alloc _).grown g6 (λk J _=>.inr (.inl J))).setCell (p:=(A_ L 1)) (λ_=>.inl rfl) v6
  have cC:Hid (dr d w (w6.setCell (A_ L 1) v6) L (L_ qk (m+1) kc) (.slice ba bl aF) vX (M++[⟨g,s.N,s.off-1⟩]) s.xs):=by
   refine⟨v6,aP,_,aT,bZ,λk J=>?_⟩
   rcases J with e|e|e
   exact .inl (.inl e)
   ·rcases d6 with e2|e2
    exact .inl (.inr (.inl (e2 ▸ e)));rw[e2.1] at e;injection e with e;have:=a6.size;simp at this;exact .inr (by simp at e;omega)
   exact HM.nx k e
  subst dW;clear r6 g6 d6 U G a1 V aE aH aC aT Y bZ HM cR T bG;refine hK _ _ ⟨dR,cY⟩ (λhHeld=>?_);clear hK KK;try simp only[Act.put,sA,sB,sC]
  refine Ah 16 ?_;refine Ah 17 ?_;refine Ai (i:=18) k_ rfl k_ (λKK hK=>?_);go_simp;refine hK _ _ ?_;clear hK KK;try simp only[Act.put,sA,sB,sC]
  refine Ak k_ ?_ _;go_wp2;go_end0;rw[<- dP];exact⟨rfl,cC⟩
end Go.Proofs.YtfcgnpchbcmdeaaGreat
namespace Go.Proofs.YtfcgnpchbcmdeaaGreat
set_option linter.all false
set_option maxRecDepth 100000
set_option maxHeartbeats 8000000
open Go.RowKit Go.Lib Go.Sort
def orI(a b:Int):Int:=if a=0 then b else a
def Zig q c a b w (o:w.cell? (A_ q 0)=some (I_ a))(m:w.cell? (A_ q 1)=some (I_ b)):C_ 192 #[.slice (some ⟨q,0,none⟩) 2 c] w λe w'=>e=.returned (.int .i64 (orI a b))/\w'=w:=by
 have d:Hid (orI a b=if a=0 then b else a):=rfl;generalize orI a b=r at *;go_enter Tryz.func192,Tryz.ntmps192;go_wp2_with fail
 go_loop [8] (λti=>∃k:Nat,ti=.int .i64 k/\k<=2/\(1<=k->Hid (a=0))/\(2<=k->Hid (b=0))) (λti=>2-(intOf ti).toNat)
 case atStart=>grind
 case round=>
  obtain⟨k,rfl,n,f,i⟩:=hrel
  rcases(show k=0∨k=1∨k=2 by omega) with rfl|rfl|rfl
  ·clear f i
   by_cases ea:a=0
   ·have j:(a !=0)=false:=(by simp[ea]);have h:=x1_ ea;clear ea;go_wp2
    grind [intOf]
   have j:(a !=0)=true:=by simpa using ea
   have g:Hid (r=a):=w_;clear ea d;go_wp2;go_ret;exact⟨by rw[g];rfl,rfl⟩
  ·have h:=f o_;clear f i
   by_cases ea:b=0
   ·have j:(b !=0)=false:=(by simp[ea]);have l:=x1_ ea;clear ea;go_wp2
    grind [intOf]
   have j:(b !=0)=true:=by simpa using ea
   have g:Hid (r=b):=(by show _=_;rw[d.out,if_pos h.out]);clear ea d;go_wp2;go_ret;exact⟨by rw[g];rfl,rfl⟩
  have h:=f o_;have l:=i o_;have g:Hid (r=0):=(by show _=_;rw[d.out,if_pos h.out,l.out]);clear f i d;go_wp2;go_ret;exact⟨by rw[g];rfl,rfl⟩
def Gr(W w':World):Prop:=∃q os,w'=grow (W.drewN q) os
def Gr.refl W:Gr W W:=⟨0,#[],by simp;rfl⟩
def Gr.alloc{W a}(h:Gr W a) o:Gr W (a.alloc o):=by obtain⟨q,b,rfl⟩:=h;exact⟨q,b++#[o],by rw[alloc_eq_grow,grow_grow]⟩
def Gr.drew{W a}(h:Gr W a):Gr W a.drew:=by obtain⟨q,b,rfl⟩:=h;exact⟨q+1,b,rfl⟩
def Gr.below{W a}(h:Gr W a):Below W.heap.size W a:=by obtain⟨q,b,rfl⟩:=h;refine⟨rfl,rfl,rfl,by simp[grow],λk hk=>?_⟩;rw[Go.Sort.heap_grow_old _ _ (by simpa using hk)];rfl
def Tl(x y:XS):Int:=orI (Lib.compareInt x.row y.row) (Lib.compareInt x.f y.f)
def Jy x y W:C_ 148 #[.agg #[.int .i64 x.row,.int .i64 x.f,.int .i64 x.bin],.agg #[.int .i64 y.row,.int .i64 y.f,.int .i64 y.bin]] W λe w'=>e=.returned (.int .i64 (Tl x y))/\Gr W w':=by
 have o:Hid (Tl x y=orI _ _):=rfl;have k:Hid (∀w:_,Calls _ _ #[.int _ (x.row:_),.int _ (y.row:_)] w λe w'=>_):=λw=>Tryz.cmp_Compare_int _ _ w;have n:Hid (∀w:_,Calls _ 151 #[.int _ (x.f:Nat),.int _ (y.f:_)] w λe w'=>_):=λw=>Tryz.cmp_Compare_int _ _ w;obtain⟨a,b,m⟩:=x;obtain⟨c,d,i⟩:=y;simp only at o k n ⊢;generalize Tl ⟨a,b,m⟩ ⟨c,d,i⟩=r,Lib.compareInt (a:Nat) (c:Nat)=c1,Lib.compareInt (b:Nat) (d:Nat)=c2 at *;go_enter Tryz.func148,Tryz.ntmps148;go_upto_region 1 with fail;generalize hw0:(W.alloc (.cells #[I_ (a:Nat),I_ (b:Nat),I_ (m:Nat)] 184)).alloc (.cells #[I_ (c:Nat),I_ (d:Nat),I_ (i:Nat)] 184)=w0;have g:w0.heap.size=W.heap.size+1+1:=by rw[<- hw0];simp
 have h:Hid (Gr W w0):=(by show Gr _ _;rw[<- hw0];exact((Gr.refl W).alloc _).alloc _);have t:w0.cell? (A_ W.heap.size 0)=some (I_ a):=(by rw[<- hw0];simp[go_sem]);have u:w0.cell? (A_ W.heap.size 1)=some (I_ b):=(by rw[<- hw0];simp[go_sem]);have v:w0.cell? (A_ (W.heap.size+1) 0)=some (I_ c):=(by rw[<- hw0];simp[go_sem]);have q:w0.cell? (A_ (W.heap.size+1) 1)=some (I_ d):=(by rw[<- hw0];simp[go_sem]);have l:W.heap.size<w0.heap.size:=o_;have j:W.heap.size+1<w0.heap.size:=o_;clear hw0 g
 have s:Hid (∀w:World,w.cell? (A_ w0.heap.size 0)=some (.int .i64 c1)->w.cell? (A_ w0.heap.size 1)=some (.int .i64 c2)->C_ 192 #[.slice (some ⟨w0.heap.size,0,none⟩) 2 2] w λe w'=>e=.returned (.int .i64 r)/\w'=w):=λw h0 h1=>by rw[o];exact Zig _ 2 _ _ w h0 h1
 go_region_held3 (λw'=>w'.cell? (A_ W.heap.size 0)=some (I_ (a:Nat))/\w'.cell? (A_ W.heap.size 1)=some (I_ (b:Nat))/\w'.cell? (A_ (W.heap.size+1) 0)=some (I_ (c:Nat))/\w'.cell? (A_ (W.heap.size+1) 1)=some (I_ (d:Nat))) (exact⟨(Below.cell (B:=w0.heap.size) (w:=w0) (p:=(A_ W.heap.size 0)) (by repeat(first|with_reducible exact bz_|with_reducible apply Below.drew|(refine Below.alloc ?_ o_ _))) l).trans t,(Below.cell (B:=w0.heap.size) (w:=w0) (p:=(A_ W.heap.size 1)) (by repeat(first|with_reducible exact bz_|with_reducible apply Below.drew|(refine Below.alloc ?_ o_ _))) l).trans u,(Below.cell (B:=w0.heap.size) (w:=w0) (p:=(A_ (W.heap.size+1) 0)) (by repeat(first|with_reducible exact bz_|with_reducible apply Below.drew|(refine Below.alloc ?_ o_ _))) j).trans v,(Below.cell (B:=w0.heap.size) (w:=w0) (p:=(A_ (W.heap.size+1) 1)) (by repeat(first|with_reducible exact bz_|with_reducible apply Below.drew|(refine Below.alloc ?_ o_ _))) j).trans q⟩) (first|(go_at_call_of 151 (a);refine(k _).mono ?_;rintro e w' ⟨rfl,rfl⟩)|(go_at_call_of 151 (b);refine(n _).mono ?_;rintro e w' ⟨rfl,rfl⟩)|(go_at_call 192;refine(s _ (by simp[go_sem]) (by simp[go_sem])).mono ?_;rintro e w' ⟨rfl,rfl⟩))
 go_wp2;go_ret;exact⟨rfl,(h.alloc _).drew⟩
def Zn(x:XS):List Value:=Do x
def ltX x y:ltOf Tl x y=decide (x.row<y.row∨x.row=y.row/\x.f<y.f):=by
 obtain⟨e,a,d⟩:=x;obtain⟨c,b,g⟩:=y;unfold ltOf Tl orI Lib.compareInt
 grind
def Zmk:SWO (ltOf Tl) where
  irrefl x:=by rw[ltX];simp
  trans x y z h1 h2:=by rw[ltX] at *;simp at *;omega
  ntrans x y z h1 h2:=by rw[ltX] at *;simp at *;omega
section
variable [Inhabited XS]
def Zhi blk off size w:CmpLays Tryz.prog 148 #[] Zn 3 Tl blk off size w:=
 λ_ _ _ _ x y=>Jy x y _
def Zgk a c d w (g:HoldsK Zn 3 w a 0 d)(b:a<w.heap.size)(f:d.size<4611686018427387904):C_ 208 #[.slice (some ⟨a,0,none⟩) d.size c,.func (.func 148) #[] #[]] w λe w'=>e=.returned (.tuple #[])/\∃d' n os,PermIn 0 d.size d d'/\SortedIn (ltOf Tl) 0 d.size d'/\w'=sortWorldK Zn 3 w a 0 n d' os:=by have h:∀_ w,(callFunc 148 _).run _ w=_:=enters_of Tryz.func148 k_ rfl;exact AnyQ.slices_SortFunc Tryz.sortX 3 Tryz.isAgg184 Tryz.sizeOf184 _ (λ_=>rfl) (λx v hv=>by simp[Zn,Do] at hv;rcases hv with rfl|rfl|rfl<;>rfl) _ Zmk _ _ _ 0 _ d w h (Zhi _ 0 _ w) g b f
def ZdF p cap w:C_ 208 #[.slice p 0 cap,.func (.func 148) #[] #[]] w λe w'=>e=.returned (.tuple #[])/\w'=w:=AnyF.slices_SortFunc_none {Tryz.sortX with} p cap _ w
def Zfv L:∀i r,i<L.length->r<3->(Io L)[i*3+r]? =(Do (L.getD i ⟨0,0,0⟩))[r]?:=by
 induction L with
 |nil=>grind
 | cons e L ih=>
  intro i r a b
  cases i with
  |zero=>grind [Io,Do]
  | succ i=>
   grind [Io,Do]
def Zes d:(Go.Sort.flatK Zn 3 d.toArray).toList=Io d:=by
 apply List.ext_getElem?;intro t
 by_cases ht:t<d.length*3
 ·have a:=Zfv d (t/3) (t%3) o_ o_;rw[show t/3*3+t%3=t by omega] at a;rw[a,Array.getElem?_toList];have b:t/3<d.length:=o_;simp only[Go.Sort.flatK]
  grind [Zn,Do]
 rw[List.getElem?_eq_none t_,List.getElem?_eq_none (by rw[sd];omega)]
def Zbw{w a g b m os P D}(d:D.length=P.length)(h:Mi w a (L_ g P.length b) P):Mi (Go.Proofs.sortWorldK Zn 3 w g 0 m D.toArray os) a (L_ g P.length b) D/\w.grownBy (Go.Proofs.sortWorldK Zn 3 w g 0 m D.toArray os) (some g):=by
 rcases h.2 with⟨e,_⟩|⟨g',cap',cur,e,hb,hg,hnc,hcm,hcs,htake⟩
 simp at e;simp only[Value.slice.injEq,Option.some.injEq,Addr.mk.injEq,and_true,true_and] at e;obtain⟨rfl,rfl⟩:=e;have c:=(Qb hg).1;have i:(Go.Sort.flatK Zn 3 D.toArray).size=P.length*3:=by simp[d]
 have f:(Go.Proofs.sortWorldK Zn 3 w g 0 m D.toArray os).heap[g]? =some (.cells (Go.Sort.putCells id 0 (Go.Sort.flatK Zn 3 D.toArray) cur) 184 (0,0)):=(by unfold Go.Proofs.sortWorldK Go.Sort.putRowK;rw[Go.Sort.heap_grow_old _ _ (by simpa using c)];simp[Go.Sort.putRow,Go.Sort.mapBlock,Go.Sort.ahead,Array.getElem?_modify,hg,Go.Sort.onCells]);refine⟨⟨by rw[sd],.inr ⟨g,b,_,by simp[d],hb,f,o_,hcm,by simp[Go.Sort.putCells,hcs],?_⟩⟩,⟨rfl,rfl,rfl,?_,λk hk hne=>?_⟩⟩
 ·grind [Zes,ln]
 unfold Go.Proofs.sortWorldK Go.Sort.putRowK;simp;unfold Go.Proofs.sortWorldK Go.Sort.putRowK;rw[Go.Sort.heap_grow_old _ _ (by simpa using hk)];have:g≠k:=λe=>hne (by rw[e]);simp[Go.Sort.putRow,Go.Sort.mapBlock,Go.Sort.ahead,Array.getElem?_modify,this]
def Zdp{w a g c P}(h:Mi w a (L_ g P.length c) P):Go.Sort.HoldsK Zn 3 w g 0 P.toArray:=by
 intro j d
 have b:j<P.length*3:=by simpa using d
 refine⟨?_,?_⟩
 ·rw[Nat.zero_add,World.ownsRow.cellAt h j b,<- Zes]
  grind
 rw[Nat.zero_add];exact World.ownsRow.frozenAt h j
end
def Fp(D:List XS):Prop:=D.Pairwise λx y=>x.row<y.row∨x.row=y.row/\x.f<=y.f
def ZdH v a w (h:Mi w 0 v a)(y:a.length<=1000000):C_ 208 #[v,.func (.func 148) #[] #[]] w λe w'=>e=.returned (.tuple #[])/\(∃D:List XS,D.Perm a/\Fp D/\Mi w' 0 v D)/\w.grownBy w' v.ownBlock:=by
 haveI:Inhabited XS:=⟨⟨0,0,0⟩⟩
 have o:=h
 rcases h.2 with⟨rfl,h0⟩|⟨g,cap,cur,rfl,_,hh,_⟩
 have e:=List.length_eq_zero_iff.1 h0;subst e;refine(ZdF _ 0 w).mono ?_;rintro e w' ⟨rfl,rfl⟩;exact⟨rfl,⟨[],List.Perm.refl _,List.Pairwise.nil,h⟩,Bp _ _⟩;have q:=Zgk g cap _ w (Zdp o) (Qb hh).1 t_;rw[show a.toArray.size=a.length by simp] at q;refine q.mono ?_;rintro e w' ⟨rfl,b,m,p,d,c,rfl⟩;obtain⟨f,_,s⟩:=d;have n:b.size=a.length:=(by rw[f];simp);have t:b.toList.length=a.length:=o_;have k:=Zbw (m:=m) (p:=p) t o;rw[show b.toList.toArray=b by simp] at k;refine⟨rfl,⟨b.toList,?_,?_,k.1⟩,k.2⟩
 ·have x:b.extract 0 a.length=b:=by rw[<- n];simp
  grind
 unfold Fp;rw[List.pairwise_iff_getElem];intro i j r u l;simp at r u;have:=c i j qg_ l o_;rw[ltX] at this
 grind
end Go.Proofs.YtfcgnpchbcmdeaaGreat
namespace Go.Proofs.YtfcgnpchbcmdeaaGreat
set_option linter.all false
set_option maxRecDepth 100000
set_option maxHeartbeats 8000000
open Go.RowKit
def Za3:∀(zs:List Int) (x:Int) (i:Nat),x∈zs->0<=Lib.idxFrom zs x i/\Lib.idxFrom zs x i<(i+zs.length:Nat)
 |[],x,i,h=>by simp at h
 | z::zs,x,i,h=>by
  simp only[Lib.idxFrom];split;simp;omega;rename_i hne;have hm:x∈zs:=w_;have:=Za3 zs x (i+1) hm
  grind
def Ss:∀(zs:List Int) (a:Int),zs.foldl max a=a∨zs.foldl max a∈zs
 |[],a=>.inl rfl
 | z::zs,a=>by
  simp only[List.foldl_cons]
  rcases Ss zs (max a z) with h|h
  ·grind
  right;simp[h]
def ZfP{a}(h:0<a.length):Lib.maxOf a∈a:=by
 cases a with
 |nil=>simp at h
 | cons z a=>
  have b:Lib.maxOf (z::a)=List.foldl max z a:=by first|rfl|(simp[Lib.maxOf])|(simp[Lib.maxOf,Int.max_def])
  grind [Ss]
def Zbj B {h}(a:0<h):0<=Vm B h/\Vm B h<h:=by have:=Za3 (Ci B h) (Lib.maxOf (Ci B h)) 0 (ZfP (by rw[Cr];exact a));rw[Cr] at this;unfold Vm Lib.idxOf;omega
def Zl(e:ES)(B:List Nat):Nat:=(Vm B (e.cnt+2)).toNat
def Zen e B:Vm B (e.cnt+2)=(Zl e B:Nat):=by have:=Zbj B (show 0<e.cnt+2 by omega);unfold Zl;omega
def kF(es:List ES)(Bb:List (List Nat))(k:Nat):KS:=⟨es.getD k Ph,Zl (es.getD k Ph) (Bb.getD k [])⟩
def oF(es:List ES)(Bb:List (List Nat))(k:Nat):List Bool:=Dc (Bb.getD k []) (Zl (es.getD k Ph) (Bb.getD k []))
def Eb(es:List ES)(Bb:List (List Nat))(k:Nat):List KS:=(List.range k).map (kF es Bb)
def Gh(es:List ES)(Bb:List (List Nat))(k:Nat):List (List Bool):=(List.range k).map (oF es Bb)
def Di b a k:(Eb b a k).length=k:=by simp[Eb]
def dh b a k:(Gh b a k).length=k:=by simp[Gh]
def Za7 b a k:Eb b a (k+1)=Eb b a k++[kF b a k]:=by simp[Eb,List.range_succ]
def Fi b a {n i}(h:i<n):(Eb b a n).getD i Ay=kF b a i:=by simp[Eb,List.getD,h]
def Li b a {n i}(h:i<n):(Gh b a n).getD i []=oF b a i:=by simp[Gh,List.getD,h]
def Sq:∀(A B:List KS) (u v:List (Value×Value)),u.length=A.length->Gz (A++B) (u++v)=Gz A u++Gz B v
 |[],B,u,v,h=>by grind [Gz]
 | a ::A,B,u,v,h=>by
  cases u with
  |nil=>simp at h
  | cons x u=>
   simp only[List.cons_append,Gz,List.append_assoc];rw[Sq A B u v (by simpa using h)]
def ZjJ:(Tryz.prog.info? 101).map (λi=>(i.zero,i.size,i.bytes))=some (some (.slice none 0 0),1,24):=k_
def ZfO(n:Nat)(f:n<=1000000) W:(Instr.makeSlice 309 (I_ n) (I_ n)).run Tryz.prog W=.ok (L_ W.heap.size n n) (W.alloc (.cells (madeCells #[.slice none 0 0] n) 101)):=by obtain⟨e,a,d,c,b⟩:=info_parts ZjJ;have:=run_make (P:=Tryz.prog) W 309 101 e _ Tryz.underlying309 a d .i64 .i64 (n:Int) (n:Int) o_ o_ (by rw[b];omega) o_;rw[c] at this;rw[this,Int.toNat_natCast,Nat.mul_one];rfl
def ZfN n (W:World) a (c:n<=1000000)(b:a<=W.heap.size):(W.alloc (.cells (madeCells #[.slice none 0 0] n) 101)).ownsRow a 101 1 (L_ W.heap.size n n) n (List.replicate n (.slice none 0 0)):=by
 have:=World.ownsRow_lit (a:=a) (size:=1) (e:=101) W (madeCells #[.slice none 0 0] n) n b m_ (by simp[madeCells]);rw[Qu] at this
 simpa using this
def ZjL:(Tryz.prog.info? 172).map (λi=>(i.zero,i.size,i.bytes))=some (some (.agg #[.bool false,.slice none 0 0,.slice none 0 0,I_ 0]),4,64):=k_
structure Po(m n)(es:List ES)(Bb:List (List Nat)):Prop where
 le:es.length=m+1
 lb:∀i,i<m+1->(Bb.getD i []).length=n
 ok:∀i,i<m+1->Ol (es.getD i Ph)
 cn:∀i,i<m+1->(es.getD i Ph).cnt<=16
 bin:∀i,i<m+1->∀b∈Bb.getD i [],b<(es.getD i Ph).cnt+2
def Z4(w:World)(q:Nat):Prop:=w.heap[q]? =some (.cells #[.bool false,.slice none 0 0,.slice none 0 0,I_ 0] 172 (0,0))
def Z4.cells{w b}(h:Z4 w b):w.cell? (A_ b 0)=some (.bool false)/\w.cell? (A_ b 1)=some (.slice none 0 0)/\w.cell? (A_ b 2)=some (.slice none 0 0)/\w.cell? (A_ b 3)=some (I_ 0)/\(∀o,w.frozen? (A_ b o)=false):=by unfold Z4 at h;refine⟨?_,?_,?_,?_,λo=>fr_ w b o _ _ h⟩<;>simp[World.cell?,h]
def Z4.new{w:World}{q}(h:q=w.heap.size):Z4 (w.alloc (.cells #[.bool false,.slice none 0 0,.slice none 0 0,I_ 0] 172)) q:=by subst h;exact ha_ w _
def Z4.drew{w q}(h:Z4 w q):Z4 w.drew q:=h
def Z4.call{w w' q}(h:Z4 w q)(hb:Below w.heap.size w w'):Z4 w' q:=(hb.block q (Qb h).1).trans h
def Z4.fill{w q}(h:Z4 w q) a b c d:((((w.setCell (A_ q 0) a).setCell (A_ q 1) b).setCell (A_ q 2) c).setCell (A_ q 3) d).heap[q]? =some (.cells #[a,b,c,d] 172 (0,0)):=
 hs_ _ q 3 _ 172 _ (hs_ _ q 2 _ 172 _ (hs_ _ q 1 _ 172 _ (hs_ _ q 0 _ 172 _ h)))
def Aa.to_below{S a b B}(h:Aa S a b)(hB:B<=a.heap.size)(hs:∀q,S q->B<=q):Below B a b:=
 ⟨h.os,h.tape,h.output,h.size,λk hk=>h.block k o_ (λe=>w_)⟩
structure Mw(base)(w0 wr:World)(db qo n k j:Nat)(vK)(kvs)(ovs)(es)(Bb):Prop where
 blk:wr.heap[db]? =some (.cells #[vK,.slice none 0 0,.slice none 0 0] 168 (0,0))
 kn:Mx base wr vK kvs (Eb es Bb k)
 orow:wr.ownsRow 0 101 1 (L_ qo n n) n ovs
 oeach:∀i,i<j->Ev wr 0 (ovs.getD i (.slice none 0 0)) (oF es Bb i)
 bl:E_ w0 wr
 kb:∀q,vK.ownBlock=some q->w0.heap.size<=q
def Mw.below{w0 wr w2 base db qo n k j vK kvs ovs es Bb}(h:Mw base w0 wr db qo n k j vK kvs ovs es Bb)(hb:Below wr.heap.size wr w2):Mw base w0 w2 db qo n k j vK kvs ovs es Bb:=
 ⟨(hb.block db (Qb h.blk).1).trans h.blk,h.kn.below hb,(Aa.of_below (S:=λ_=>False) hb).row h.orow (λ_ _=>id),λi hi=>(h.oeach i hi).below hb,h.bl.trans (hb.mono h.bl.size),h.kb⟩
def Mw.feat{y W w a j C n k u v6 vb vw b x l f}(h:Mw a y W j C n k k u b x l f)(A:y.heap.size<=j)(g:W.grownBy w u.ownBlock)(r:w.ownsRow 0 172 4 v6 (k+1) (Gz (Eb l f k) b++Cf (kF l f k) (vb,vw)))(d:v6.ownBlock=u.ownBlock∨v6.ownBlock=some W.heap.size/\Below W.heap.size W w)(D:Ag W a vb (kF l f k).e.bs)(B:Cc W a vw (kF l f k).e.ww):Mw a y (w.setCell (A_ j 0) v6) j C n (k+1) k v6 (b++[(vb,vw)]) x l f/\Aa (λq=>u.ownBlock=some q∨q=j) W (w.setCell (A_ j 0) v6):=by
 have t:=(Aa.refl _ W).grown g (λk hk _=>hk);have c:=t.at_ h.blk (λe=>Au h.kn.row e h.blk d_ rfl);have T:Aa (λq=>_∨q=j) W _:=((Aa.refl _ W).grown g (λk hk _=>.inl hk)).setCell (p:=(A_ j 0)) (λ_=>.inr rfl) v6
 have o:∀{a e size m:Nat} {v xs},W.ownsRow a e size v m xs->e≠172->e≠168->∀q,v.ownBlock=some q->¬(u.ownBlock=some q∨q=j):=λhr s h2 q hq hs=>by
  obtain⟨F,E⟩:=Ad hr hq
  rcases hs with e|e
  ·obtain⟨J,H⟩:=Ad h.kn.row e
   grind
  subst e;rw[h.blk] at E
  grind
 refine⟨⟨ht_ 0 _ _ _ c,⟨?_,?_,λi hi=>?_⟩,T.row h.orow (o h.orow d_ d_),λi hi=>T.row (h.oeach i hi) (o (h.oeach i hi) d_ d_),(h.bl.grown g h.bl.size (λq hq=>h.kb q hq)).setCell A _,λq hq=>?_⟩,T⟩;rw[Di];have e:Gz (Eb l f (k+1)) (b++[(vb,vw)])=Gz (Eb l f k) b++Cf (kF l f k) (vb,vw):=(by rw[Za7,Sq _ _ _ _ h.kn.len];simp[Gz]);rw[e];exact As r c d_;rw[Qe,h.kn.len,Di,Di];rfl
 ·rw[Di] at hi;have I:b.length=k:=by rw[h.kn.len,Di]
  by_cases hik:i<k
  have z:(b++[(vb,vw)]).getD i Oi=b.getD i Oi:=w_;have s:=h.kn.each i (by rw[Di];exact hik);rw[z,Fi _ _ hi];rw[Fi _ _ hik] at s;exact⟨T.row s.1 (o s.1 d_ d_),T.row s.2 (o s.2 d_ d_)⟩;have G:i=k:=o_;subst G;have z:(b++[(vb,vw)]).getD i Oi=(vb,vw):=w_;rw[z,Fi _ _ hi];exact⟨T.row D (o D d_ d_),T.row B (o B d_ d_)⟩
 rcases d with e|e
 exact h.kb q (e ▸ hq);rw[e.1] at hq;injection hq with hq;have:=h.bl.size;omega
def Mw.out{f W a x c n k t v d b j g}(h:Mw a f W x c n (k+1) k t d b j g)(o:f.heap.size<=c)(B:k<n)(s:Ev W 0 v (oF j g k)):Mw a f (W.setCell (A_ c k) v) x c n (k+1) (k+1) t d (b.set k v) j g:=by
 obtain⟨A,z⟩:=Ad h.orow (k:=c) rfl;have T:=(Aa.refl (λq=>q=c) W).setCell (p:=(A_ c k)) (λ_=>rfl) v;have w:∀{a e size m:Nat} {u:_} {xs:_},W.ownsRow a e size u m xs->e≠101->∀q,_->¬q=c:=λhr r q hq e=>Au hr hq z r e;have y:b.length=n:=(by have:=h.orow.1;omega);refine⟨T.at_ h.blk (λe=>?_),h.kn.touch T (λq cur2 ty hq hty e=>?_),(World.ownsRow.stored h.orow k v).1,λi hi=>?_,h.bl.setCell o v,h.kb⟩
 ·have r:=h.blk
  grind
 ·grind
 by_cases hik:i=k
 subst hik;have l:(b.set i v).getD i (.slice none 0 0)=v:=w_;rw[l];exact T.row s (w s d_);have l:(b.set k v).getD i (.slice none 0 0)=b.getD i (.slice none 0 0):=w_;rw[l];exact T.row (h.oeach i o_) (w (h.oeach i o_) d_)
def Mw.outs{w0 wr base db qo n vK kvs ovs es Bb}(h:Mw base w0 wr db qo n n n vK kvs ovs es Bb):Ho wr (L_ qo n n) ovs (Gh es Bb n):=
 ⟨by rw[dh];exact h.orow,λi hi=>by rw[dh] at hi;rw[Li _ _ hi];exact h.oeach i hi⟩
def Dv(Ks:List KS)(fs:List Nat):Nat:=(fs.map (λf=>(Ks.getD f Ay).many)).sum
def um a b f:Dv a (b++[f])=Dv a b+(a.getD f Ay).many:=by simp[Dv]
def Py Ks Os Bb n:∀fs s,(fs.foldl (Ap Ks Os Bb n) s).off=s.off+Dv Ks fs
 |[],s=>by simp[Dv]
 |f::fs,s=>by simp only[List.foldl_cons];rw[Py Ks Os Bb n fs];simp[Dv,Ap];omega
def fy Ks Os Bb n xs fs:(Ij Ks Os Bb n xs fs).off=1+Dv Ks fs:=Py Ks Os Bb n fs _
structure ng(m n k)(Ks)(G:GS):Prop where
 out:G.out.length=n
 fs:∀f∈G.fs,f<m+1
 sum:G.bins=Dv Ks G.fs
 bins:G.bins<=40
 len:G.fs.length<=k
def ng.step{m n k budget f Ks Os Gs}(h:∀G∈Gs,ng m n k Ks G)(hO:(Os.getD f []).length=n)(hf:f<m+1)(hm:(Ks.getD f Ay).many<=40):∀G∈Bc Ks Os n budget Gs f,ng m n (k+1) Ks G:=λG hG=>by
 unfold Bc at hG;split at hG
 ·rename_i hi
  rcases List.mem_or_eq_of_mem_set hG with hin|e
  obtain⟨a,b,c,d,e⟩:=h G hin;exact⟨a,b,c,d,o_⟩;have hroom:=List.findIdx_getElem (w:=hi);have hG0:Gs.getD (Gs.findIdx (Fd (Os.getD f []) (Ks.getD f Ay).many budget)) Fq=Gs[Gs.findIdx (Fd (Os.getD f []) (Ks.getD f Ay).many budget)]:=w_;rw[hG0] at e;obtain⟨a1,a2,a3,a4,a5⟩:=h _ (Qf hi);generalize Gs[Gs.findIdx (Fd (Os.getD f []) (Ks.getD f Ay).many budget)]=G0 at *;subst e;unfold Fd at hroom;simp only[Bool.and_eq_true,decide_eq_true_eq] at hroom;refine⟨?_,?_,?_,hroom.2,?_⟩;show(orL G0.out _).length=n;rw[Ke (by rw[a1,hO])];exact a1
  ·intro x hx
   rcases List.mem_append.1 hx with hx|hx
   exact a2 x hx
   grind
  show G0.bins+_=Dv Ks (G0.fs++[f]);rw[um,a3];show(G0.fs++[f]).length<=k+1;simp;omega
 rcases List.mem_append.1 hG with hin|e
 obtain⟨a,b,c,d,e⟩:=h G hin;exact⟨a,b,c,d,o_⟩;simp only[List.mem_cons,List.not_mem_nil,or_false] at e;subst e;refine⟨?_,?_,?_,?_,?_⟩;show(orL (List.replicate n false) _).length=n;rw[Ke (by rw[hO];simp)];simp
 ·grind [Tg,Im]
 simp[Tg,Im,Dv];show 0+(Ks.getD f Ay).many<=40;omega;simp[Tg,Im]
def Za9 c d n a b f:(Bc c d n a b f).length<=b.length+1:=by unfold Bc;split<;>simp
def yo{m n budget Ks Os}(hO:∀i,i<m+1->(Os.getD i []).length=n)(hm:∀i,i<m+1->(Ks.getD i Ay).many<=40):∀(fs:List Nat) k Gs,(∀f∈fs,f<m+1)->(∀G∈Gs,ng m n k Ks G)->(∀G∈fs.foldl (Bc Ks Os n budget) Gs,ng m n (k+fs.length) Ks G)/\(fs.foldl (Bc Ks Os n budget) Gs).length<=Gs.length+fs.length
 |[],k,Gs,_,h=>⟨h,s_⟩
 | f::fs,k,Gs,hf,h=>by
  have hf0:=hf f s_;obtain⟨i1,i2⟩:=yo (budget:=budget) hO hm fs (k+1) (Bc Ks Os n budget Gs f) (λx hx=>hf x (by simp[hx])) (ng.step h (hO f hf0) hf0 (hm f hf0))
  grind [Za9]
def iu{m n budget Ks a}(c:∀i,i<m+1->(a.getD i []).length=n)(b:∀i,i<m+1->(Ks.getD i Ay).many<=40):(∀G∈Ha m Ks a n budget,ng m n (m+1) Ks G)/\(Ha m Ks a n budget).length<=m+1:=by
 have h:=yo (budget:=budget) c b _ 0 [] (λf hf=>de m a f hf) (λG hG=>by simp at hG);rw[Jn] at h
 simpa [Ha] using h
def Ew(Os:List (List Bool))(Bb:List (List Nat))(n:Nat)(Ks:List KS)(Gs:List GS):Zg:=Gs.foldl (Ju Os Bb n) ⟨Ks,[],[]⟩
def vt Os Bb n:∀(Gs:List GS) D,(Gs.foldl (Ju Os Bb n) D).ks=D.ks
 |[],D=>rfl
 |G::Gs,D=>by simp only[List.foldl_cons];rw[vt Os Bb n Gs];rfl
def Ky Os Bb n Ks Gs:(Ew Os Bb n Ks Gs).ks=Ks:=vt Os Bb n Gs _
def Zcm c b n d (a:List GS){i}(e:i<a.length):Ew c b n d (a.take (i+1))=Ju c b n (Ew c b n d (a.take i)) (a.getD i Fq):=by
 unfold Ew
 grind [Qi]
def Zap b a n:∀(Gs:List GS) D,(∀G∈Gs,G.fs.length<=4)->(Gs.foldl (Ju b a n) D).bs.length=D.bs.length+Gs.length/\(Gs.foldl (Ju b a n) D).xs.length<=D.xs.length+Gs.length*(4*n)
 |[],D,_=>⟨rfl,s_⟩
 | G ::Gs,D,h=>by
  simp only[List.foldl_cons];obtain⟨i1,i2⟩:=Zap b a n Gs (Ju b a n D G) (λx hx=>h x (by simp[hx]));have h1:=(Lw D.ks b a n G.fs ⟨List.replicate n 0,D.xs,1⟩ s_).2;have h2:_<=4*n:=Nat.mul_le_mul_right _ (h G s_);have e1:(Ju b a n D G).bs.length=D.bs.length+1:=by simp[Ju]
  have c:(Ju b a n D G).xs.length<=D.xs.length+4*n:=by
   show(Ij D.ks b a n D.xs G.fs).xs.length<=_;unfold Ij
   grind
  refine⟨w_,?_⟩;rw[List.length_cons,Nat.add_mul,Nat.one_mul];omega
def Zfb b d {n} c {a}(h:∀G∈a,G.fs.length<=4)(j:n<=200)(e:a.length<=4):(Ew b d n c a).bs.length<=4/\(Ew b d n c a).xs.length<=4000:=by
 obtain⟨i,g⟩:=Zap b d n a ⟨c,[],[]⟩ h;have f:_*(4*n)<=4*800:=Nat.mul_le_mul e o_
 grind [Ew]
def Ao(m n budget:Nat)(es:List ES)(Bb:List (List Nat)):Zg:=Ew (Gh es Bb (m+1)) Bb n (Eb es Bb (m+1)) (Ha m (Eb es Bb (m+1)) (Gh es Bb (m+1)) n budget)
structure So(w)(db)(vK vB vX)(kvs bvs)(X)(D:Zg):Prop where
 ds:DsX w db vK vB vX bvs D.bs X
 kn:ZgJ w vK kvs D.ks
 perm:X.Perm D.xs
 sorted:Fp X
structure ZlI(base)(w)(db)(vK vB vX)(kvs bvs)(X)(D:Zg):Prop where
 ds:Yd base w db vK vB vX bvs D.bs X
 kn:Mx base w vK kvs D.ks
 perm:X.Perm D.xs
 sorted:Fp X
 nk:∀q,vK.ownBlock=some q->base<=q
 nb:∀q,vB.ownBlock=some q->base<=q
 nx:∀q,vX.ownBlock=some q->base<=q
def Te(base:Nat)(w:World)(db:Nat)(D:Zg):Prop:=∃vK vB vX kvs bvs X,ZlI base w db vK vB vX kvs bvs X D
def ZkA(w:World)(db:Nat)(D:Zg):Prop:=∃vK vB vX kvs bvs X,So w db vK vB vX kvs bvs X D
def Te.zero{a w d D}(h:Te a w d D):ZkA w d D:=by obtain⟨e,f,g,b,c,X,h⟩:=h;exact⟨e,f,g,b,c,X,h.ds.mono qg_,h.kn.mono qg_,h.perm,h.sorted⟩
def Yd.sorted{w g a l j i b d m q X}(h:Yd a w l j i b d m q)(o:w.grownBy g b.ownBlock)(n:Mi g 0 b X):Yd a g l j i b d m X/\Aa (λk=>b.ownBlock=some k) w g/\au (λk=>b.ownBlock=some k) w:=by have t:=(Aa.refl _ w).grown o (λk hk _=>hk);have f:au _ w:=λk cur ty hk hs=>h.sty k _ _ hk (.inr (.inr hs));refine⟨⟨t.at_ h.blk (λe=>Au h.xn e h.blk d_ rfl),h.bn.touch t (λk hk hk2=>?_) f,n⟩,t,f⟩;obtain⟨c,p⟩:=Ad h.bn.row hk;exact Au h.xn hk2 p d_ rfl
structure ZgR(base)(w2 wr)(db)(vK vB vX)(bvs)(D:Zg):Prop where
 ds:Yd base wr db vK vB vX bvs D.bs D.xs
 t:Aa (λq=>q=db) w2 wr
 nb:∀q,DsS db vB vX q->q=db∨w2.heap.size<=q
def ZgR.added{i wr j a f b g k d D c}(h:ZgR a i wr f b g k d D)(o:dr a wr j f b g k c.bs c.xs):∃vB' vX' bvs',ZgR a i j f b vB' vX' bvs' c:=by
 obtain⟨vB',vX',bvs',n,l,m⟩:=o;refine⟨vB',vX',bvs',n,h.t.trans2 l (λz hz=>h.nb z hz),λq hq=>?_⟩
 rcases m q hq with e|e
 exact h.nb q e;have:=h.t.size;exact .inr o_
def Zij{w:World}{b e a n:Nat}{v f}(h:w.ownsRow 0 e a v n f)(i:∀k,v.ownBlock=some k->b<=k):w.ownsRow b e a v n f:=by
 refine⟨h.1,?_⟩
 rcases h.2 with j|⟨g,c,d,rfl,_,r⟩
 exact .inl j;exact .inr ⟨g,c,d,rfl,i g rfl,r⟩
def Zh3(S m n d qf fc:Nat) bN g f w (hm:m+1<=4)(hn:n<=200)(hb:d<=20)(dJ:S<=w.heap.size)(hF:Ue S w (L_ qf (m+1) fc) bN g f)(hk:Po m n g f):C_ 157 #[.slice (some ⟨qf,0,none⟩) (m+1) fc,.int .i64 d] w λe w'=>e=.returned (.pointer (some ⟨w.heap.size,0,none⟩))/\Te S w' w.heap.size (Ao m n d g f)/\Below w.heap.size w w':=by
 have HF:=x1_ hF;have HK:=x1_ hk;have d8:∀W:_,(Instr.makeSlice 309 (.int _ ((m:Int)+1)) (.int _ ((m:Int)+1))).run _ W=_:=ZfO (m+1) o_;clear hF hk;go_enter Tryz.func157,Tryz.ntmps157;go_wp2_with fail
 go_loopw [19] (λti wr=>∃(k:Nat) (vK:Value) (D:List (Value×Value)) (Q:List Value),ti=.int .i64 k/\k<=m+1/\Hid (Mw S w wr w.heap.size (w.heap.size+1) (m+1) k k vK D Q g f)) (λti _=>m+1-(intOf ti).toNat)
 case atStart=>
  refine⟨0,.slice none 0 0,[],List.replicate (m+1) (.slice none 0 0),rfl,qg_,?_⟩;refine⟨?_,⟨rn_,rfl,λi z=>by simp[Eb] at z⟩,?_,λi z=>o_,?_,λq hq=>by simp[Value.ownBlock] at hq⟩;exact(hc_ s_).trans (ha_ w _);have:=ZfN (m+1) (w.alloc (.cells #[.slice none 0 0,.slice none 0 0,.slice none 0 0] 168)) 0 o_ qg_;rw[show(w.alloc (.cells #[.slice none 0 0,.slice none 0 0,.slice none 0 0] 168)).heap.size=w.heap.size+1 by simp] at this;exact this;exact bA_.alloc s_ _
 case round=>
  clear d8;obtain⟨k,vK,D,Q,rfl,fH,l⟩:=hrel;have fC:=l.bl.size
  by_cases hkl:k<m+1
  ·have b8:=HF.out.below l.out.bl;obtain⟨dV,b0,b1,b2,b3⟩:=b8.cells (i:=k) (by rw[HK.le];exact hkl);have H:=b8.each k (by rw[HK.le];exact hkl);have a0:=HK.lb k hkl;have f6:=HK.cn k hkl;have aQ:=HK.bin k hkl;obtain⟨ab,cb,bD⟩:=H.1.shape;obtain⟨aw,cw,b7⟩:=H.2.1.form;obtain⟨ax,cx,aI⟩:=H.2.2.shape;rw[Aw,a0] at aI;rw[bD] at b1;rw[b7] at b2;rw[aI] at b3;have Y:=x4_ (bD ▸ H.1) (b7 ▸ H.2.1) (aI ▸ H.2.2) a0;have a9:(g.getD k Ph).cnt=La _ _ _:=rfl
   have cQ:Hid (∀W:World,C_ 146 #[.agg #[.bool (g.getD k Ph).wd,.slice ab (g.getD k Ph).bs.length cb,.slice aw (g.getD k Ph).ww.length cw]] W λe w'=>e=.returned (.int .i64 ((g.getD k Ph).cnt+2:Nat))/\E_ W w'):=λW=>by have e:((g.getD k Ph).cnt+2:Nat)=((La (g.getD k Ph).wd (g.getD k Ph).bs.length (g.getD k Ph).ww.length:Nat):Int)+2:=(by rw[a9];omega);rw[e];exact Jk _ _ _ _ _ _ _ W (by rw[<- a9];omega)
   have cC:Hid (∀W:World,E_ wr W->C_ 204 #[.slice ax n cx,.int .i64 ((g.getD k Ph).cnt+2:Nat)] W λe w'=>e=.returned (.int .i64 (Zl (g.getD k Ph) (f.getD k []):Nat))/\E_ W w'):=λW hW=>by rw[<- Zen];exact Xj _ n _ _ _ W (Y.2.2.1.below hW) a0 hn aQ o_ o_
   have P:Hid (∀W:_,_->Calls _ _ _ W λe w'=>∃v,_/\Ev w' _ v (oF g f k)/\_):=λW hW=>Zw ax n cx _ _ W hW a0 hn;have bA:Hid (kF g f k=⟨_,_⟩):=rfl;clear b8 H a0 aQ bD b7 aI a9;generalize Zl (g.getD k Ph) (f.getD k [])=dk at *;generalize g.getD k Ph=ek at *;generalize hwd:ek.wd=wd at *;generalize hnb:ek.bs.length=nb at *;generalize hnw:ek.ww.length=nw at *;generalize ek.cnt=cn at *;have f3:0<=(k:Int):=o_;have fO:k<(m:Int)+1:=o_;have dB:=x3_ hwd hnb hnw;clear hwd hnb hnw;go_upto_region 6 with fail;generalize hw1:wr.alloc (.cells #[.bool wd,.slice ab nb cb,.slice aw nw cw,.slice ax n cx] 266)=w1;have bU:Hid (∃I,w1.heap[wr.heap.size]? =some (.cells I _ _)):=⟨_,by rw[<- hw1];exact hn_⟩
   have dA:w1.heap.size=wr.heap.size+1:=(by rw[<- hw1];simp);have aW:Hid (E_ wr w1):=(by show Below _ _ _;rw[<- hw1];exact bA_);have e0:w1.cell? (A_ wr.heap.size 0)=some (.bool wd):=(by rw[<- hw1];simp[go_sem]);have e1:w1.cell? (A_ wr.heap.size 1)=some (.slice ab nb cb):=(by rw[<- hw1];simp[go_sem]);have e2:w1.cell? (A_ wr.heap.size 2)=some (.slice aw nw cw):=(by rw[<- hw1];simp[go_sem]);have e3:w1.cell? (A_ wr.heap.size 3)=some (.slice ax n cx):=(by rw[<- hw1];simp[go_sem]);have l1:wr.heap.size<w1.heap.size:=o_;clear hw1 b0 b1 b2 b3 dA;go_cut [9] (λv wx=>∃kb,v=.pointer (some ⟨kb,0,none⟩)/\Hid (w1.heap.size<=kb/\wx.heap[kb]? =some (.cells #[.bool wd,.slice ab nb cb,.slice aw nw cw,.int .i64 (dk:Nat)] 172 (0,0))/\E_ w1 wx))
   case first=>
    go_region_held3 (λw'=>w'.cell? (A_ wr.heap.size 0)=some (.bool wd)/\w'.cell? (A_ wr.heap.size 1)=some (.slice ab nb cb)/\w'.cell? (A_ wr.heap.size 2)=some (.slice aw nw cw)/\w'.cell? (A_ wr.heap.size 3)=some (.slice ax n cx)) (exact⟨(Below.cell (B:=w1.heap.size) (w:=w1) (p:=(A_ wr.heap.size 0)) e_ l1).trans e0,(Below.cell (B:=w1.heap.size) (w:=w1) (p:=(A_ wr.heap.size 1)) e_ l1).trans e1,(Below.cell (B:=w1.heap.size) (w:=w1) (p:=(A_ wr.heap.size 2)) e_ l1).trans e2,(Below.cell (B:=w1.heap.size) (w:=w1) (p:=(A_ wr.heap.size 3)) e_ l1).trans e3⟩) (first|(go_at_call 146;refine(cQ _).mono ?_;rintro e w2 ⟨rfl,o⟩;have bV:E_ w1 w2:=Below.trans e_ (o.mono f_);have aL:=bV.size;(try((first|(have hA:Z4 w2 w1.heap.size:=Z4.call (Z4.drew (Z4.new (Eq.refl _))) o)|(have hA:Z4 w2 w1.heap.size:=Z4.call (Z4.new (Eq.refl _)) o));obtain⟨z0,z1,z2,z3,zf⟩:=hA.cells;have fG:=zf 0;have fA:=zf 1;have fI:=zf 2;have fM:=zf 3;clear zf));clear o)|(go_at_call 204;refine(cC _ (aW.trans (Below.mono e_ (by omega:wr.heap.size<=w1.heap.size)))).mono ?_;rintro e T ⟨rfl,L⟩;have aN:E_ w1 T:=Below.trans e_ (L.mono f_);have aM:=aN.size;(try((first|(have E:Z4 T w1.heap.size:=Z4.call hA L)|(have E:Z4 T w1.heap.size:=Z4.call (Z4.drew hA) L));obtain⟨y0,y1,y2,y3,yf⟩:=E.cells;have dF:=yf 0;have dE:=yf 1;have dT:=yf 2;have d9:=yf 3;clear yf));(try((first|(have E:Z4 T w2.heap.size:=Z4.call (Z4.new (Eq.refl _)) L)|(have E:Z4 T w2.heap.size:=Z4.call (Z4.drew (Z4.new (Eq.refl _))) L));obtain⟨y0,y1,y2,y3,yf⟩:=E.cells;have dF:=yf 0;have dE:=yf 1;have dT:=yf 2;have d9:=yf 3;clear yf));clear L))
    all_goals go_wp2
    all_goals go_meet
    exact⟨_,rfl,aM,hn_,by repeat(first|assumption|(refine Below.alloc ?_ aM _))⟩;exact⟨_,rfl,aL,E.fill _ _ _ _,by repeat(first|assumption|(refine Below.setCell ?_ aL _))⟩;exact⟨_,rfl,qa_,E.fill _ _ _ _,by refine Below.setCell (Below.setCell (Below.setCell (Below.setCell aN ?_ _) ?_ _) ?_ _) ?_ _<;>exact qa_⟩
   case rest=>
   clear cQ cC;obtain⟨kb,rfl,HC⟩:=hcut;have aC:=aW.trans (HC.2.2.mono (Nat.le_of_lt l1));have HZ:=x1_ (l.below aC);have c3:=(HC.2.2.cell (p:=(A_ wr.heap.size 3)) l1).trans e3;have R:=x3_ (Y.1.below aC) (Y.2.1.below aC) (Y.2.2.1.below aC);have dX:=Qh l1 HC.1;have bL:=(Qb HC.2.1).1;have F:=x1_ HC.2.1;have cY:Hid (∃I,wc.heap[wr.heap.size]? =some (.cells I 266 (0,0))):=by obtain⟨c,hc⟩:=bU;exact⟨c,(HC.2.2.block _ l1).trans hc⟩
   have dP:Hid (¬vK.ownBlock=some kb):=λe=>by obtain⟨c,hc⟩:=Ad l.kn.row e;have:=(Qb hc).1;omega
   have J:=(Qb l.blk).1;clear l aW Y HC aC e0 e1 e2 e3
   obtain⟨ka,kc,aJ⟩:∃a c,vK=.slice a k c:=by
    have h1:=HZ.kn.row;rw[Di] at h1
    rcases h1.2 with⟨rfl,h0⟩|⟨q,p,I,rfl,_⟩
    exact⟨none,0,by rw[h0]⟩;exact⟨_,_,rfl⟩
   subst aJ;have aF:Hid (wc.ownsRow 0 172 4 (.slice ka k kc) k (Gz (Eb g f k) D)):=(by have h1:=HZ.kn.row;rw[Di] at h1;exact h1);have a2:=cR_ 0 HZ.blk;have b9:=cR_ 0 F;have b6:=cR_ 1 F;have aX:=cR_ 2 F;have bK:=cR_ 3 F;have fF:w.heap.size<wc.heap.size:=o_;obtain⟨j0,cG,dI,dU,dR⟩:=info_parts ZjL;go_upto_region 7 with fail;refine Al (λw'=>w'.cell? _=some _/\w'.cell? _=some _/\w'.cell? _=some _/\w'.cell? _=some _/\w'.cell? _=some _) 10 k_ ⟨a2,b9,b6,aX,bK⟩ (λhHeld=>?_);refine Ah 0 ?_;refine Ah 1 ?_;refine Ah 2 ?_;refine Ah 3 ?_;refine Ua [7,8,9,10] 4 (v:=?_) ?_ ?_
   rotate_left
   ·intro w aU;try obtain⟨_,_,_,_,_⟩:=aU
    go_simp;try with_reducible rfl
   try simp only[Act.put,sA,sB,sC]
   refine Ua [6,7,8,9,10] 5 (v:=?_) ?_ ?_
   rotate_left
   ·intro w aU;try obtain⟨_,_,_,_,_⟩:=aU
    go_simp;try with_reducible rfl
   try simp only[Act.put,sA,sB,sC]
   refine Af (i:=6) k_ rfl (λKK hK=>?_);go_simp;refine hK _ _ ⟨(Below.cell (B:=wc.drew.heap.size) (p:=(A_ w.heap.size 0)) bA_ t_).trans a2,(Below.cell (B:=wc.drew.heap.size) (p:=(A_ kb 0)) bA_ t_).trans b9,(Below.cell (B:=wc.drew.heap.size) (p:=(A_ kb 1)) bA_ t_).trans b6,(Below.cell (B:=wc.drew.heap.size) (p:=(A_ kb 2)) bA_ t_).trans aX,(Below.cell (B:=wc.drew.heap.size) (p:=(A_ kb 3)) bA_ t_).trans bK⟩ (λhHeld=>?_);clear hK KK;try simp only[Act.put,sA,sB,sC]
   refine Af (i:=7) k_ rfl (λKK hK=>?_);refine Az rfl (.tmp 37) (.tmp 39) 164 rfl 0 172 j0 _ 4 64 Tryz.underlying164 cG dI dU dR rfl d_ (.slice ka k kc) k (Gz (Eb g f k) D) j_ (ra_ (w:=wc.drew) aF _) (A_ wc.heap.size 0) 1 1 [.bool wd,.slice ab nb cb,.slice aw nw cw,I_ (dk:Nat)] j_ rfl (Am wc.drew _ 172) i_ d_ m_ o_ s_ ?_;intro v6 w6 H6;obtain⟨r6,g6,d6,_,q6,p6,dD⟩:=H6;have U:=HZ.below ((bz_.drew).alloc qa_ (.cells #[.bool wd,.slice ab nb cb,.slice aw nw cw,I_ (dk:Nat)] 172))
   have a4:E_ wc (wc.drew.alloc (.cells #[.bool wd,.slice ab nb cb,.slice aw nw cw,I_ dk] 172)):=(bz_.drew).alloc qa_ _;have bT:Cf (kF g f k) (.slice ab nb cb,.slice aw nw cw)=[.bool wd,.slice ab nb cb,.slice aw nw cw,I_ dk]:=by rw[bA];simp[Cf,dB.out.1]
   obtain⟨cB,cR⟩:=U.feat (v6:=v6) (vb:=.slice ab nb cb) (vw:=.slice aw nw cw) qa_ g6 (by rw[bT];exact r6) d6 (by rw[bA];exact R.1.below a4) (by rw[bA];exact R.2.1.below a4);have c4:=x1_ cB;have t6:Aa _ (wc.drew.alloc (.cells _ 172)) _:=(Aa.refl _ _).grown g6 (λk hk _=>hk);have bB:¬_:=λe=>dP e;have aA:=t6.at_ ((a4.block _ bL).trans F) bB;have C:=t6.at_ U.blk (λe=>Au U.kn.row e U.blk d_ rfl);have cT:=cR_ 0 C;have dC:=fq_ 0 _ _ C;have bQ:=cR_ 0 aA;have bM:=cR_ 1 aA;have c7:=cR_ 2 aA;have cF:=cR_ 3 aA;have T6:=(Aa.of_below a4).trans cR;have dO:¬kb=w.heap.size:=o_;have d7:(w6.setCell _ _).cell? _=some (.int _ _):=cq_ 3 _ _ _ (T6.at_ F (λe=>e.elim bB dO))
   have dQ:(w6.setCell (A_ w.heap.size 0) v6).cell? (A_ wr.heap.size 3)=some (.slice ax n cx):=by obtain⟨I,a6⟩:=cY;rw[cb_ (a:=(A_ wr.heap.size 3)) (T6.block wr.heap.size o_ (λe=>e.elim (λe=>Au aF e a6 d_ rfl) (λe=>o_)))];exact c3
   have cW:Hid (Ag (w6.setCell (A_ w.heap.size 0) v6) 0 (.slice ax n cx) (Av (f.getD k []))):=T6.row R.2.2 (λq hq e=>e.elim (λe=>by
    obtain⟨c1,h1⟩:=Ad R.2.2 hq
    exact Au aF e h1 d_ rfl) (λe=>Au R.2.2 hq HZ.blk d_ e))
   have fB:=T6.size;subst dD;clear r6 g6 d6 U a4 bT cB cR t6 aA C T6 HZ R F aF;refine hK _ _ ⟨cT,bQ,bM,c7,cF⟩ (λhHeld=>?_);clear hK KK;try simp only[Act.put,sA,sB,sC]
   refine Ah 8 ?_;refine Ah 9 ?_;refine Ai (i:=10) k_ rfl k_ (λKK hK=>?_);go_simp;refine hK _ _ ?_;clear hK KK;try simp only[Act.put,sA,sB,sC]
   refine Ak k_ ?_ _;have co:_=(w6.setCell (A_ w.heap.size 0) (L_ q6 (k+1) p6)).heap.size:=rfl;clear co;generalize w6.setCell (A_ w.heap.size 0) (L_ q6 (k+1) p6)=w7 at *;clear cT dC bQ bM c7 cF hHeld b9 b6 aX bK a2 c3;go_wp2_with fail
   refine(P _ cW).mono ?_;rintro e w8 ⟨v8,rfl,aV,bW⟩;have Z:=c4.below bW;have cO:Q.length=m+1:=by have:=Z.orow.1;omega
   have c8:w8.cell? (A_ (w.heap.size+1) k)=some (Q.getD k (.slice none 0 0)):=(by rw[World.ownsRow.cellAt Z.orow k o_];simp[List.getD,cO,hkl]);have f8:w8.frozen? (A_ (w.heap.size+1) k)=false:=by obtain⟨I,a6⟩:=Ad Z.orow (k:=w.heap.size+1) rfl;exact fq_ k _ _ a6
   have HN:=x1_ (Z.out (Nat.le_succ _) hkl (aV.mono qg_));obtain⟨a8,p8,dK⟩:=aV.shape;subst dK;clear cO Z aV bW c4 cW dQ d7 P;go_wp2;go_roundw;case rel=>exact⟨k+1,_,_,_,g_,o_,HN⟩
   case measure=>exact z_
  have cV:k=m+1:=o_;have bB:¬k<(m:Int)+1:=o_
  have r:Hid (Mw S w wr w.heap.size (w.heap.size+1) (m+1) (m+1) (m+1) vK D Q g f):=(by rw[cV] at l;exact l);obtain⟨qk,kc,_,_,_,_,aJ,_⟩:=r.kn.at (i:=0) (by rw[Di];omega);rw[Di] at aJ;subst aJ;have a2:=cR_ 0 r.blk;have J:=(Qb r.blk).1;have dG:Hid (Ao m n d g _=Ew _ f n _ _):=rfl
  have aT:∀i,i<m+1->((Gh g f (m+1)).getD i []).length=n:=λi z=>by rw[Li _ _ z];show(Dc _ _).length=n;unfold Dc;rw[List.length_map];exact HK.lb i z
  have aZ:∀i,i<m+1->((Eb g f (m+1)).getD i Ay).many<=40:=λi z=>by rw[Fi _ _ z];have:=HK.cn i z;show(g.getD i Ph).cnt+2<=40;omega
  have bX:∀O∈Gh g f (m+1),O.length=n:=λO hO=>by
   obtain⟨i,z,rfl⟩:=List.getElem_of_mem hO;have:=aT i (by rw[dh] at z;exact z)
   simpa [List.getD,z] using this
  have aO:∀K∈Eb g f (m+1),K.many<=100:=λK hK=>by obtain⟨i,z,rfl⟩:=List.getElem_of_mem hK;have:=aZ i (by rw[Di] at z;exact z);rw[List.getD,Qd z] at this;simp at this;omega
  have aD:=iu (d:=d) aT aZ;have M:=x3_ r.kn r.outs (HF.below r.bl);have HL:Hid ((Eb g f _).length=m+1/\(Gh g f _).length=m+1/\_/\_):=⟨Di _ _ _,dh _ _ _,bX,aO⟩;have cI:=Zp m n _ _ _ _ _ _ _ _ _ _ hm HL.1 HL.2.1 (M.1.mono qg_) M.2.1 HL.2.2.1 hn hb HL.2.2.2;have bG:=x1_ r.bl;have cD:=x1_ r.blk;have cJ:=Nat.le_trans dJ (r.kb qk rfl);clear l r aT aZ bX aO cV HF;generalize Ha m (Eb g f (m+1)) (Gh g f (m+1)) n d=Gs at *;generalize Eb g f (m+1)=Ks at *;generalize Gh g f (m+1)=Os at *;go_wp2_with fail
  refine cI.mono ?_;rintro e w2 ⟨vG,rfl,d5,o⟩;obtain⟨dZ,dL,Kk,a1,hG⟩:=d5;obtain⟨ga,gc,cX⟩:=hG.x.form;subst cX;have HG:=x1_ hG;have HH:=x3_ (M.1.below o) (M.2.1.below o) (M.2.2.below o);have cZ:=x1_ (bG.trans (o.mono bG.size));have c6:=x1_ ((o.block _ J).trans cD)
  have aE:Hid (au (λq=>q=w.heap.size) w2):=λq I ty hq e=>by subst e;rw[c6] at hq;simp at hq;exact .inl hq.2.symm
  have fK:=aD.2;have cL:=x1_ aD.1;have cE:=Qh J o.size;have fJ:=Qh J a1;clear aD cI hG o M bG cD a2 a1;generalize hgle:Gs.length=gl at *;have c9:=x1_ hgle;clear hgle;go_wp2_with fail
  go_loopw [60] (λti wr=>∃(i:Nat) (vB vX:Value) (bH:List (Value×Value)),ti=.int .i64 i/\i<=gl/\Hid (ZgR S w2 wr w.heap.size (.slice (some ⟨qk,0,none⟩) (m+1) kc) vB vX bH (Ew Os f n Ks (Gs.take i)))) (λti _=>gl-(intOf ti).toNat)
  case atStart=>
   refine⟨0,.slice none 0 0,.slice none 0 0,[],rfl,qg_,?_⟩;refine⟨⟨c6,⟨rn_,rfl,λi z=>absurd z (by simp[Ew])⟩,rn_⟩,Aa.refl _ _,λq hq=>?_⟩
   rcases hq with e|e|e
   exact .inl e;simp[Value.ownBlock] at e;simp[Value.ownBlock] at e
  case round=>
   obtain⟨i,vB,vX,bH,rfl,fD,l⟩:=hrel;have dW:=l.t.size
   have a3:∀G∈Gs.take i,G.fs.length<=4:=λG hG=>by have:=(cL G (List.mem_of_mem_take hG)).len;omega
   have aG:=Zfb Os f (n:=n) Ks a3 hn (by rw[List.length_take];omega);have s:=Ky Os f n Ks (Gs.take i)
   by_cases hil:i<gl
   ·have A:i<Gs.length:=(by rw[c9.out];exact hil);have bR:Gs.getD i Fq=Gs[i]:=(by rw[List.getD,Qd A];rfl);have y:ng m n (m+1) Ks (Gs.getD i Fq):=(by rw[bR];exact cL.out _ (Qf _));have aH:=HG.out.touch l.out.t (λq hq e=>o_);obtain⟨qg,f7,cN,dY,cg⟩:=aH.x.at A;have dN:ga=some ⟨qg,0,none⟩:=(by injection cN);subst dN;obtain⟨vf,vo,hK⟩:=aH.x.each i A;obtain⟨oa,dM,cH⟩:=hK.out.shape;rw[y.out] at cH;subst cH;unfold jo at cg;have aR:=hK.blk;have aP:Ag _ S _ _:=Zij hK.fs (λq hq=>by have:=aH.kb i A q (hK.kf q hq);omega);have bP:=HH.1.touchS l.t aE;have bS:=HH.2.1.touchS l.t aE;have cS:=HH.2.2.touch l.t aE;have aK:=fy Ks Os f n (Ew Os f n Ks (Gs.take i)).xs (Gs.getD i Fq).fs
    have aS:=y.sum;have bC:=y.bins;have aY:=y.len;have cA:=oq S w.heap.size (dL.getD i 0) m n qk kc qf fc _ (m+1) _ _ vB vX vf oa dM bH D bN Q _ _ Ks g f Os _ wr o_ l.ds (bP.mono qg_) HL.1 aR aP (cS.mono qg_) HK.le bS HL.2.1 HL.2.2.1 HK.lb y.fs hn o_ (λj hj b hb=>by have h1:=HK.bin j hj b hb;have h2:=HK.cn j hj;omega) HL.2.2.2 (by rw[aK,<- aS];omega) o_ o_;have bZ:=Zcm Os f n Ks _ A
    have bO:Hid (∀T:World,dr S wr T w.heap.size (L_ qk (m+1) kc) vB vX ((Ew Os f n Ks (Gs.take i)).bs++[⟨(Gs.getD i Fq).fs,(Ij Ks Os f n (Ew Os f n Ks (Gs.take i)).xs (Gs.getD i Fq).fs).N,(Ij Ks Os f n (Ew Os f n Ks (Gs.take i)).xs (Gs.getD i Fq).fs).off-1⟩]) (Ij Ks Os f n (Ew Os f n Ks (Gs.take i)).xs (Gs.getD i Fq).fs).xs->∃b5 bE V,ZgR S w2 T w.heap.size (L_ qk (m+1) kc) b5 bE V (Ew Os f n Ks (Gs.take (i+1)))):=λT h3=>by refine l.added ?_;rw[bZ];show dr S wr T _ _ _ _ ((Ew Os f n Ks (Gs.take i)).bs++[⟨_,(Ij (Ew Os f n Ks (Gs.take i)).ks Os f n _ _).N,_⟩]) (Ij (Ew Os f n Ks (Gs.take i)).ks Os f n _ _).xs;rw[s];exact h3
    have f9:0<=(i:Int):=o_;have fP:i<(gl:Int):=o_;clear bR y aH cN hK aR aP bP bS cS aK aS bC aY bZ s a3 aG;go_wp2_with fail
    refine cA.mono ?_;rintro e T ⟨rfl,h3⟩;obtain⟨b5,bE,V,h4⟩:=bO T h3;have dS:=x1_ h4;clear cA h3 h4 bO l cg;go_wp2;go_roundw;case rel=>exact⟨i+1,b5,bE,V,g_,o_,dS⟩
    case measure=>exact z_
   have fQ:¬i<(gl:Int):=o_;have c5:Gs.take i=_:=List.take_of_length_le (by rw[c9];omega);rw[c5] at l aG s;rw[<- dG] at l aG s;have c2:_=some vX:=cq_ 2 _ _ _ l.ds.blk;have P:=ZdH _ _ _ l.ds.xn o_;obtain⟨xa,xc,cP⟩:=l.ds.xn.shape;have cU:=x1_ cP;have cM:=HH.1.touchS l.t aE;have dH:Hid (Mx S wr (L_ qk (m+1) kc) D (Ao m n d g f).ks):=(by rw[s];exact cM);clear cM c5 s aG a3 cP;rw[cU] at c2 P;go_wp2_with fail
   refine P.mono ?_;rintro e w4 ⟨rfl,⟨X,aB,a7,a5⟩,bI⟩
   have bY:Hid (Te S w4 w.heap.size (Ao m n d g f)/\E_ w w4):=by
    rw[<- cU] at a5 bI;obtain⟨d4,t4,s4⟩:=l.ds.sorted bI a5;refine⟨⟨_,_,_,_,_,X,d4,dH.touchS t4 s4,aB,a7,λq hq=>Nat.le_trans cJ (Nat.le_of_eq (by simpa [Value.ownBlock] using hq)),λq hq=>by rcases l.out.nb q (.inr (.inl hq)) with e|e<;>omega,λq hq=>by rcases l.out.nb q (.inr (.inr hq)) with e|e<;>omega⟩,?_⟩;have h1:=cZ.trans (l.t.to_below (Nat.le_of_lt cE) (λq hq=>Nat.le_of_eq hq.symm));refine h1.trans (t4.to_below o_ (λq hq=>?_))
    rcases l.out.nb q (.inr (.inr hq)) with e|e<;>omega
   clear P aB a7 a5 bI c2;go_wp2;go_ret;exact⟨rfl,bY⟩
def Zde y s n f d l k c a L g w (i:Ir w 0 (.slice y n f) L)(E:Cq w s n g)(D:L.length=n)(B:n<=200)(I:∀v∈L,-1000000000<=v.num/\v.num<=1000000000)(F:∀z∈g,0<=z/\z<=99)(J:2<=c)(p:c<=32)(q:2<=a)(m:a<=16)(V:w.cell? (A_ l 0)=some (I_ a))(N:w.cell? (A_ k 0)=some (I_ (c:Nat)))(Q:l<w.heap.size)(P:k<w.heap.size):C_ 216 #[.slice y n f,.slice s n d,.pointer (some ⟨l,0,none⟩),.pointer (some ⟨k,0,none⟩)] w λe w'=>∃v,e=.returned v/\Tb w' w.heap.size v ⟨false,Co L g a c,[]⟩/\Below w.heap.size w w':=by
 have H:=x1_ (λW hW=>Zq _ _ n _ d _ _ L _ W ((Aa.of_below (S:=λ_=>False) hW).row i (λ_ _=>id)) (E.below hW) D B I F J p q m);go_enter Tryz.func216,Tryz.ntmps216;go_wp2_with fail
 refine(H _ bA_).mono ?_;rintro e r ⟨v,rfl,⟨M,i,h⟩,x⟩;subst i;obtain⟨t,u,o⟩:=h.shape;rw[o] at h ⊢;have b:r.heap[w.heap.size]? =some (.cells _ 170 _):=(x.block _ s_).trans hn_;have Y:=cR_ 0 b;have U:=cR_ 1 b;have R:=cR_ 2 b;have O:=fq_ 0 _ _ b;have T:=fq_ 1 _ _ b;have X:=fq_ 2 _ _ b;have A:=x1_ (bA_.trans (x.mono s_));have C:Hid (Ag r (w.heap.size+1) (.slice t (Co L g a c).length u) (Co L g a c)):=by have G:(w.alloc (.cells #[.bool false,.slice none 0 0,.slice none 0 0] 170)).heap.size=w.heap.size+1:=s_;rw[G] at h;exact h
 have j:=x1_ b;generalize (Co L g a c).length=nb at *;go_wp2;refine bodyPost_ret (v:=.agg #[.bool false,.slice t nb u,.slice none 0 0]) (by simp[results,Tryz.results216,go_sem, *]) rfl ?_;refine⟨_,rfl,⟨_,_,rfl,?_,rn_⟩,?_⟩;exact Ag.mono (As (As (As C j d_) (by exact ht_ _ _ _ _ j) d_) (by exact ht_ _ _ _ _ (ht_ _ _ _ _ j)) d_) (Nat.le_succ _);exact((A.setCell qa_ _).setCell qa_ _).setCell qa_ _
def Zgp i j a f b g d c m k l p w (h:RB w i j (.slice a b g) (.slice f d c) m k l p):C_ 155 #[.pointer (some ⟨i,0,none⟩)] w λe w'=>e=.returned (.agg #[.slice a b g,.slice f d c])/\w'=w.alloc (.cells #[.slice a b g,.slice f d c] 250):=by
 have n:=cR_ 1 h;have o:=cR_ 2 h;have q:=(Qb h).1;go_enter Tryz.func155,Tryz.ntmps155;go_wp2;refine bodyPost_ret (v:=.agg #[.slice a b g,.slice f d c]) (by simp[results,Tryz.results155,go_sem, *]) rfl ?_
 grind
def gv:∀(es:List ES) (vs:List (Value×Value×Value)),vs.length=es.length->∀k,k<es.length->∀(e:ES) (v:Value×Value×Value),Lf (es.set k e) (vs.set k v)=((((Lf es vs).set (k*4) (.bool e.wd)).set (k*4+1) v.1).set (k*4+2) v.2.1).set (k*4+3) v.2.2
 |[],_,_,k,h,_,_=>by simp at h
 |e0::es,[],h,_,_,_,_=>by simp at h
 |e0::es,v0::vs,_,0,_,e,v=>by simp[Lf,Kc]
 | e0::es,v0::vs,h,k+1,hk,e,v=>by
  simp only[List.set_cons_succ,Lf];rw[gv es vs (by simpa using h) k (by simpa using hk) e v];have hl:(Kc e0 v0).length=4:=rfl
  grind
def ZjS:(Tryz.prog.info? 266).map (λi=>(i.zero,i.size,i.bytes))=some (some (.agg #[.bool false,.slice none 0 0,.slice none 0 0,.slice none 0 0]),4,80):=k_
def Zj8 n (a:n<=4):(madeCells #[.bool false,.slice none 0 0,.slice none 0 0,.slice none 0 0] (n*4)).toList=Lf (List.replicate n Ph) (List.replicate n Si):=by
 rcases(show n=0∨n=1∨n=2∨n=3∨n=4 by omega) with rfl|rfl|rfl|rfl|rfl
 all_goals kernel_rfl
def Zj9(n:Nat)(f:n<=4) W:(Instr.makeSlice 258 (I_ n) (I_ n)).run Tryz.prog W=.ok (L_ W.heap.size n n) (W.alloc (.cells (madeCells #[.bool false,.slice none 0 0,.slice none 0 0,.slice none 0 0] (n*4)) 266)):=by obtain⟨e,a,d,c,b⟩:=info_parts ZjS;have:=run_make (P:=Tryz.prog) W 258 266 e _ Tryz.underlying258 a d .i64 .i64 (n:Int) (n:Int) o_ o_ (by rw[b];omega) o_;rw[this];simp[c,Value.cells]
def Kv(w:World) q a b c d x y z u p o (h:p≠q):((((w.setCell (A_ q a) x).setCell (A_ q b) y).setCell (A_ q c) z).setCell (A_ q d) u).cell? (A_ p o)=w.cell? (A_ p o):=by grind [cb_,Below.heap_setCell]
structure Jt(w wr:World)(q n k)(es)(fvs)(E:Nat->ES)(B:Nat->List Nat):Prop where
 row:wr.ownsRow 0 266 4 (L_ q n n) n (Lf es fvs)
 le:es.length=n
 lv:fvs.length=n
 ee:∀i,i<k->es.getD i Ph=E i
 each:∀i,i<k->Ag wr w.heap.size (fvs.getD i Si).1 (E i).bs/\Cc wr w.heap.size (fvs.getD i Si).2.1 (E i).ww/\Ag wr 0 (fvs.getD i Si).2.2 (Av (B i))
 bl:E_ w wr
def Jt.below{w wr w2 q n k es fvs E B}(h:Jt w wr q n k es fvs E B)(hb:Below wr.heap.size wr w2):Jt w w2 q n k es fvs E B:=
 ⟨(Aa.of_below (S:=λ_=>False) hb).row h.row (λ_ _=>id),h.le,h.lv,h.ee,λi hi=>⟨(h.each i hi).1.below hb,(h.each i hi).2.1.below hb,(h.each i hi).2.2.below hb⟩,h.bl.trans (hb.mono h.bl.size)⟩
def Jt.cells{w wr q n k g e E B}(h:Jt w wr q n k g e E B)(i:k<n):((∃u,wr.cell? (A_ q (k*4))=some u)/\(∃u,wr.cell? (A_ q (k*4+1))=some u)/\(∃u,wr.cell? (A_ q (k*4+2))=some u)/\(∃u,wr.cell? (A_ q (k*4+3))=some u))/\(∀o,wr.frozen? (A_ q o)=false):=by
 have d:=h.row
 have a:∀c,c<4->∃u,wr.cell? (A_ q (k*4+c))=some u:=λc hc=>by rw[World.ownsRow.cellAt d (k*4+c) o_];have j:=d.1;exact⟨_,Qd o_⟩
 obtain⟨f,b⟩:=Ad d (k:=q) rfl;exact⟨⟨a 0 o_,a 1 o_,a 2 o_,a 3 o_⟩,λo=>fq_ o _ _ b⟩
def Jt.put{w W q n k c a E B}(h:Jt w W q n k c a E B)(g:k<n)(f:w.heap.size<=q){v}(l:Ag W w.heap.size v.1 (E k).bs)(s:Cc W w.heap.size v.2.1 (E k).ww)(j:Ag W 0 v.2.2 (Av (B k))):Jt w ((((W.setCell (A_ q (k*4)) (.bool (E k).wd)).setCell (A_ q (k*4+1)) v.1).setCell (A_ q (k*4+2)) v.2.1).setCell (A_ q (k*4+3)) v.2.2) q n (k+1) (c.set k (E k)) (a.set k v) E B:=by
 obtain⟨x,d⟩:=Ad h.row (k:=q) rfl
 have T:Aa _ W ((((W.setCell _ (.bool (E k).wd)).setCell _ v.1).setCell _ v.2.1).setCell _ v.2.2):=
  ((((Aa.refl (λz=>z=q) W).setCell (p:=(A_ q (k*4))) (λ_=>rfl) _).setCell (p:=(A_ q (k*4+1))) (λ_=>rfl) _).setCell (p:=(A_ q (k*4+2))) (λ_=>rfl) _).setCell (p:=(A_ q (k*4+3))) (λ_=>rfl) _
 have b:∀{base e size m:Nat} {u:_} {xs:_},W.ownsRow base e size u m xs->e≠266->∀z,_->¬z=q:=λhr hne z hz e=>Au hr hz d hne e;refine⟨?_,by rw[List.length_set];exact h.le,by rw[List.length_set];exact h.lv,λi hi=>?_,λi hi=>?_,(((h.bl.setCell f _).setCell f _).setCell f _).setCell f _⟩;rw[gv c a (by rw[h.le,h.lv]) k (by rw[h.le];exact g)];exact(World.ownsRow.stored (World.ownsRow.stored (World.ownsRow.stored (World.ownsRow.stored h.row _ _).1 _ _).1 _ _).1 _ _).1
 ·by_cases e:i=k
  subst e;simp[List.getD,h.le,g];have:(c.set k (E k)).getD i Ph=c.getD i Ph:=(by simp[List.getD,List.getElem?_set_ne (show k≠i by omega)]);rw[this];exact h.ee i o_
 by_cases e:i=k
 subst e;have:(a.set i v).getD i Si=v:=(by simp[List.getD,h.lv,g]);rw[this];exact⟨T.row l (b l d_),T.row s (b s d_),T.row j (b j d_)⟩;have:(a.set k v).getD i Si=a.getD i Si:=(by simp[List.getD,List.getElem?_set_ne (show k≠i by omega)]);rw[this];obtain⟨r,t,o⟩:=h.each i o_;exact⟨T.row r (b r d_),T.row t (b t d_),T.row o (b o d_)⟩
def Jt.done{w wr q n c a E B}(h:Jt w wr q n n c a E B):Ue w.heap.size wr (L_ q n n) a ((List.range n).map E) ((List.range n).map B):=by
 have e:c=(List.range n).map E:=by
  apply List.ext_getElem;simp[h.le];intro i j g;have:=h.ee i w_
  grind
 subst e;have b:((List.range n).map E).length=n:=s_;refine⟨by rw[b];exact h.row,by rw[b];exact h.lv,λi hi=>?_⟩;rw[b] at hi;have d:((List.range n).map E).getD i Ph=E i:=w_;have f:((List.range n).map B).getD i []=B i:=w_;rw[d,f];exact h.each i hi
def Cc.mono0{w b v L}(h:Cc w b v L):Cc w 0 v L:=by
 refine⟨h.1,?_⟩
 rcases h.2 with c|⟨g,d,a,e,f,r⟩
 exact .inl c
 grind
def wg e x:Dy e x<e.cnt+2:=by grind [Dy,ES.cnt,La]
def Zjh(w:World)(wd:Bool)(g ka kb k3:Nat)(ct bins:Int)(size:Nat):Prop:=
 (wd=true/\g=210/\w.heap[ka]? =some (.cells #[I_ ct] 3 (0,0))/\w.heap[kb]? =some (.cells #[I_ bins] 3 (0,0))/\w.heap[k3]? =some (.cells #[.func (.func 213) #[] #[]] 261 (0,0)))∨
 (wd=false/\g=216/\w.heap[ka]? =some (.cells #[I_ bins] 3 (0,0))/\w.heap[kb]? =some (.cells #[I_ size] 3 (0,0))/\w.heap[k3]? =some (.cells #[.func (.func 218) #[] #[]] 261 (0,0)))
def dw.learns{w K d c f e u i b}{a:Nat}(h:dw w K d c f e u i b a):∃f0 c0 g ka kb k3,d=.func f0 #[] c0/\c=.func (.func g) #[] #[P_ ka,P_ kb]/\f=.func (.func 266) #[] #[P_ k3]/\Zjh w e g ka kb k3 i b a:=by
 rcases h with⟨h0,k1,k2,k3,e0,e1,e2,_,_,_,h1,h2,h3⟩|⟨h0,k0,k1,k2,k3,e0,e1,e2,_,_,_,_,h1,h2,h3,h4⟩
 exact⟨_,_,210,k1,k2,k3,e0,e1,e2,.inl ⟨h0,rfl,h1,h2,h3⟩⟩;exact⟨_,_,216,k1,k2,k3,e0,e1,e2,.inr ⟨h0,rfl,h2,h3,h4⟩⟩
def ZgM(lw:List VS->List Int->Int->Int->ES):Prop:=∀va wa n vcap wcap k1 k2 ct bins L ws w,Ir w 0 (.slice va n vcap) L->Cq w wa n ws->L.length=n->n<=200->(∀z∈ws,0<=z/\z<=99)->(∀v∈L,v.word.size<=8)->w.cell? (A_ k1 0)=some (I_ ct)->w.cell? (A_ k2 0)=some (I_ bins)->k1<w.heap.size->k2<w.heap.size->2<=bins->bins<=16->
 C_ 210 #[.slice va n vcap,.slice wa n wcap,.pointer (some ⟨k1,0,none⟩),.pointer (some ⟨k2,0,none⟩)] w λe w'=>∃v,e=.returned v/\Tb w' w.heap.size v (lw L ws ct bins)/\E_ w w'
def Ck(lw:List VS->List Int->Int->Int->ES)(wd:Bool)(ct bins:Int)(size:Nat)(L:List VS)(ws:List Int):ES:=if wd=true then lw L ws ct bins else⟨false,Co L ws bins size,[]⟩
def ZaM lw K M (tb rb fb cb m q f c3:Nat) wd sc ct l s E w (hT:w.heap[tb]? =some (.cells #[L_ fb (m+1) (m+1),I_ f,P_ rb,I_ c3] 158 (0,0)))(hR:RdM w K M rb fb cb (m+1) wd sc ct l q s)(hI:Ht (m+1) s)(hm:m+1<=4)(hb:f<=20)(bL:(∃i,i<m+1/\wd i=true)->ZgM lw)(hE:∀i,E i=Ck lw (wd i) (ct i) l q (s.cols i) s.ws)(aR:∀i,i<m+1->Ol (E i)/\(E i).wd=wd i/\(E i).cnt<=16)(hr:∀i,i<m+1->∀v∈s.cols i,(-1000000000<=v.num/\v.num<=1000000000)/\v.word.size<=8)(hz:∀z∈s.ws,0<=z/\z<=99)(hs:2<=q)(bZ:q<=32)(bH:2<=l)(aK:l<=16):C_ 92 #[.pointer (some ⟨tb,0,none⟩)] w λe w'=>∃db,e=.returned (.pointer (some ⟨db,0,none⟩))/\w.heap.size<=db/\Te w.heap.size w' db (Ao m s.ws.length f ((List.range (m+1)).map E) ((List.range (m+1)).map (λi=>(s.cols i).map (Dy (E i)))))/\Below w.heap.size w w':=by
 obtain⟨vW,vr,wv,vc,hX⟩:=hR;obtain⟨wa,wc,bO,bC,_⟩:=hX.ow.seen (λz hz'=>by have:=hz z hz';omega);subst bO;have R:=hI.ws;have b9:=Zgp _ _ _ _ _ _ _ _ _ _ _ _ w hX.rd;have t0:=cR_ 0 hT;have t1:=cR_ 1 hT;have t2:=cR_ 2 hT;have T:=(Qb hT).1;have HX:=x1_ hX;have bF:=x1_ bC;have I:=x1_ hI.col;have U:=x1_ aR;have Q:∀W:_,(Instr.makeSlice 258 (.int _ ((m:Int)+1)) (.int _ ((m:Int)+1))).run _ W=_:=Zj9 (m+1) hm;have HE:=x1_ hE;clear hT hX bC hI aR hE;go_enter Tryz.func92,Tryz.ntmps92;go_wp2_with fail
 refine b9.mono ?_;rintro e N ⟨rfl,bS⟩;obtain rfl:=bS;clear b9;go_upto_region 2 with fail;generalize hW1:(w.alloc (.cells #[.slice wa s.ws.length wc,L_ cb (m+1) (m+1)] 250)).alloc (.cells #[.slice wa s.ws.length wc,L_ cb (m+1) (m+1)] 250)=N;have P:E_ w N:=(by rw[<- hW1];exact bA_.alloc s_ _);have bD:N.heap.size=w.heap.size+1+1:=(by rw[<- hW1];simp);have aP:N.heap[w.heap.size+1]? =some (.cells #[.slice wa s.ws.length wc,L_ cb (m+1) (m+1)] 250 (0,0)):=(by rw[<- hW1];exact Em _ _ _ s_);have r0:=(P.cell (p:=(A_ tb 0)) T).trans t0;have C:=x1_ bD;clear hW1 bD;go_upto_region 3 with fail;rw[C.out]
 have L:Hid (Jt w (N.alloc (.cells (madeCells #[.bool false,.slice none 0 0,.slice none 0 0,.slice none 0 0] ((m+1)*4)) 266)) (w.heap.size+1+1) (m+1) 0 (List.replicate (m+1) Ph) (List.replicate (m+1) Si) E (λi=>(s.cols i).map (Dy (E i)))):=by refine⟨?_,s_,s_,λi hi=>absurd hi (Nat.not_lt_zero _),λi hi=>absurd hi (Nat.not_lt_zero _),P.alloc P.size _⟩;have n:=World.ownsRow_lit (base:=0) (q:=4) (e:=266) N (madeCells #[.bool false,.slice none 0 0,.slice none 0 0,.slice none 0 0] ((m+1)*4)) (m+1) qg_ m_ (by simp[madeCells]);rw[Zj8 _ hm,C] at n;exact n
 have aL:Hid ((N.alloc (.cells (madeCells #[.bool false,.slice none 0 0,.slice none 0 0,.slice none 0 0] ((m+1)*4)) 266)).heap[_]? =_):=(hc_ (by rw[C];omega)).trans aP;have bB:w.heap.size+1+1<(N.alloc (.cells (madeCells #[.bool false,.slice none 0 0,.slice none 0 0,.slice none 0 0] ((m+1)*4)) 266)).heap.size:=(by simp[C.out]);generalize N.alloc (.cells (madeCells #[.bool false,.slice none 0 0,.slice none 0 0,.slice none 0 0] ((m+1)*4)) 266)=o at *;clear Q r0 aP P C;have q0:=(L.bl.cell (p:=(A_ tb 0)) T).trans t0;have q1:=(L.bl.cell (p:=(A_ tb 1)) T).trans t1;go_wp2_with fail
 go_loopw [25] (λti wr=>∃(k:Nat) (es:List ES) (aI:List (Value×Value×Value)),ti=.int .i64 k/\k<=m+1/\Hid (Jt w wr (w.heap.size+1+1) (m+1) k es aI E (λi=>(s.cols i).map (Dy (E i))))/\Hid (wr.heap[w.heap.size+1]? =some (.cells #[.slice wa s.ws.length wc,.slice (some ⟨cb,0,none⟩) (m+1) (m+1)] 250 (0,0)))) (λti _=>m+1-(intOf ti).toNat)
 case atStart=>exact⟨0,_,_,rfl,qg_,L,aL⟩
 case round=>
  clear L aL q0 q1 bB;obtain⟨k,es,aI,rfl,cC,HR,HT⟩:=hrel;have t:=HR.bl;have J:=t.size;have bW:=(Qb HT).1
  by_cases hkl:k<m+1
  ·obtain⟨cF,G,bT,_,aW⟩:=HX.fs.ex;obtain⟨v0,v1,v2,aS,aO,aT,bA⟩:=aW k hkl;obtain⟨f0,c0,g,ka,kb,k3,e0,e1,e2,X⟩:=bA.learns;subst e0 e1 e2;have aC:=(Qb G).1;have a0:=(t.cell (p:=(A_ fb (k*3))) aC).trans ((cq_ _ _ _ _ G).trans aS);have a1:=(t.cell (p:=(A_ fb (k*3+1))) aC).trans ((cq_ _ _ _ _ G).trans aO);have a2:=(t.cell (p:=(A_ fb (k*3+2))) aC).trans ((cq_ _ _ _ _ G).trans aT);obtain⟨c8,aB,c6,aM⟩:=HX.cl;have aF:=(Qb aB).1;have F:=HX.oc k hkl;obtain⟨va,D,O⟩:=F.form;rw[I k hkl] at O;have a3:=(t.cell (p:=(A_ cb k)) aF).trans ((cq_ k _ _ _ aB).trans ((aM k hkl).trans (congrArg _ O)));rw[O] at F;have x1:=cR_ 1 HT;have x0:=cR_ 0 HT
   have aN:=x2_ ((U k hkl).1) ((U k hkl).2.1)
   have aX:Hid (∀W:World,E_ w W->C_ g #[.slice va s.ws.length D,.slice wa s.ws.length wc,.pointer (some ⟨ka,0,none⟩),.pointer (some ⟨kb,0,none⟩)] W λe w'=>∃v,e=.returned v/\Tb w' W.heap.size v (E k)/\E_ W w'):=λW hW=>by
    have hV:Ir W 0 _ _:=(Aa.of_below (S:=λ_=>False) (hW.mono qa_)).row F (λ_ _=>id);have bP:=hW.size;rw[HE k]
    rcases X with⟨h0,rfl,n,h2,_⟩|⟨h0,rfl,n,h2,_⟩
    unfold Ck;rw[if_pos h0];have l1:=(Qb n).1;have l2:=(Qb h2).1;exact bL ⟨k,hkl,h0⟩ va wa _ _ wc ka kb _ l _ _ W hV (bF.below hW) (I k hkl) R hz (λv hv=>(hr k hkl v hv).2) ((hW.cell (p:=(A_ ka 0)) l1).trans (cq_ 0 _ 3 _ n)) ((hW.cell (p:=(A_ kb 0)) l2).trans (cq_ 0 _ 3 _ h2)) o_ o_ bH aK;unfold Ck;rw[if_neg (by rw[h0];decide)];have l1:=(Qb n).1;have l2:=(Qb h2).1;exact Zde va _ _ _ _ ka _ _ _ _ _ W hV (bF.below hW) (I k hkl) R (λv hv=>(hr k hkl v hv).1) hz hs bZ bH aK ((hW.cell (p:=(A_ ka 0)) l1).trans (cq_ 0 _ 3 _ n)) ((hW.cell (p:=(A_ kb 0)) l2).trans (cq_ 0 _ 3 _ h2)) o_ o_
   have a8:Hid (w.cell? (A_ k3 0)=some (.func (.func (if(E k).wd=true then 213 else 218)) #[] #[])/\k3<w.heap.size):=by
    rw[aN.2]
    rcases X with⟨h0,_,_,_,h3⟩|⟨h0,_,_,_,h3⟩
    rw[if_pos h0];exact⟨cq_ 0 _ _ _ h3,(Qb h3).1⟩;rw[if_neg (by rw[h0];decide)];exact⟨cq_ 0 _ _ _ h3,(Qb h3).1⟩
   have bU:=x1_ F;have cB:0<=(k:Int):=o_;have cG:k<(m:Int)+1:=o_;have Z:=x1_ t;have c7:cb<wr.heap.size:=o_
   have hg:g=210∨g=216:=by
    rcases X with⟨_,h0,_⟩|⟨_,h0,_⟩
    exact .inl h0;exact .inr h0
   clear G bT aW aS aO aT bA X aB c6 aM F O t
   have cE:∀a W,Sem.run Tryz.prog (callFunc g a) W=.ok (.enter g a) W:=by
    rcases hg with rfl|rfl
    exact enters_of Tryz.func210 k_ rfl;exact enters_of Tryz.func216 k_ rfl
   clear hg;go_wp2_with fail
   refine(aX _ (Z.trans (Below.mono ((br_ wr.heap.size wr).alloc qa_ _) J))).mono ?_;rintro e o ⟨ve,rfl,aD,a6⟩;have aJ:Hid (Tb o 0 ve (E k)):=(by obtain⟨vb,vw,g1,g2,g3⟩:=aD;exact⟨vb,vw,g1,Ag.mono g2 qg_,Cc.mono0 g3⟩);have b3:Tb o w.heap.size ve (E k):=by obtain⟨vb,vw,g1,g2,g3⟩:=aD;have a5:w.heap.size<=(wr.heap.size+1):=o_;exact⟨vb,vw,g1,Ag.mono g2 (by simpa using a5),Du g3 (by simpa using a5)⟩
   obtain⟨eb,A,ew,y,bR,aZ,b8⟩:=b3.form;clear b3;subst bR;have aA:o.heap[wr.heap.size]? =some (.cells _ 263 _):=(a6.block _ s_).trans hn_;have b7:=bA_.trans (a6.mono s_);have bY:=(Qb aA).1;have a7:=x2_ aZ b8;have aQ:=x1_ b7;clear aD a6 aZ b8 aX a0 a1 a2 a3 b7;go_upto_region 8 with fail;generalize hW3:o.alloc (.cells #[.bool (E k).wd,.slice eb (E k).bs.length A,.slice ew (E k).ww.length y] 170)=d;have a4:E_ o d:=(by rw[<- hW3];exact bA_);have hY:d.heap[o.heap.size]? =some (.cells #[.bool (E k).wd,.slice eb (E k).bs.length A,.slice ew (E k).ww.length y] 170 (0,0)):=(by rw[<- hW3];exact hn_);have Y:=(a4.block _ bY).trans aA;clear hW3 aA;have x0:=cR_ 0 Y;have x1:=cR_ 1 Y;have x2:=cR_ 2 Y;have y0:=cR_ 0 hY
   have y1:=cR_ 1 hY;have y2:=cR_ 2 hY;have ly:=(Qb hY).1;have lx:wr.heap.size<d.heap.size:=o_
   have cA:w.heap.size+1+1<wr.heap.size:=(by obtain⟨cq,c4⟩:=Ad HR.row (k:=w.heap.size+1+1) rfl;exact(Qb c4).1);have nx:wr.heap.size≠w.heap.size+1+1:=o_;have ny:o.heap.size≠w.heap.size+1+1:=o_;have u:=x2_ (aQ.trans (a4.mono o_)) a4
   have bE:Hid (∀W:World,E_ d W->C_ 156 #[.agg #[.func f0 #[] c0,.func (.func g) #[] #[.pointer (some ⟨ka,0,none⟩),.pointer (some ⟨kb,0,none⟩)],.func (.func 266) #[] #[.pointer (some ⟨k3,0,none⟩)]],.agg #[.bool (E k).wd,.slice eb (E k).bs.length A,.slice ew (E k).ww.length y],.slice va s.ws.length D] W λr w'=>∃v,r=.returned v/\Ag w' W.heap.size v ((s.cols k).map (λx=>(Dy (E k) x:Nat)))/\E_ W w'):=λW hW=>by have n:=u.2.trans (hW.mono o_);have h2:=(Z.trans (u.1.mono J)).trans (hW.mono o_);have bP:=hW.size;exact ZgX _ _ _ 0 k3 va _ D _ _ W (aJ.below n) aN.1 ((Aa.of_below (S:=λ_=>False) h2).row bU (λ_ _=>id)) (I k hkl) R ⟨_,_,rfl⟩ ⟨_,_,rfl⟩ ((h2.cell (p:=(A_ k3 0)) a8.2).trans a8.1) (by have:=a8.2;omega)
   have b6:Hid (∀W:_,Below d.heap.size _ W->_):=λW hW=>(HR.below (u.1.trans (hW.mono o_))).cells hkl;clear Y hY a4
   go_region_held3 (λw'=>w'.cell? (A_ wr.heap.size 0)=some (.func f0 #[] c0)/\w'.cell? (A_ wr.heap.size 1)=some (.func (.func g) #[] #[P_ ka,P_ kb])/\w'.cell? (A_ wr.heap.size 2)=some (.func (.func 266) #[] #[P_ k3])/\w'.cell? (A_ o.heap.size 0)=some (.bool (E k).wd)/\w'.cell? (A_ o.heap.size 1)=some (.slice eb (E k).bs.length A)/\w'.cell? (A_ o.heap.size 2)=some (.slice ew (E k).ww.length y)) (first|(with_reducible exact⟨(Kv _ _ _ _ _ _ _ _ _ _ _ 0 nx).trans s0,(Kv _ _ _ _ _ _ _ _ _ _ _ 1 nx).trans s1,(Kv _ _ _ _ _ _ _ _ _ _ _ 2 nx).trans s2,(Kv _ _ _ _ _ _ _ _ _ _ _ 0 ny).trans t0,(Kv _ _ _ _ _ _ _ _ _ _ _ 1 ny).trans t1,(Kv _ _ _ _ _ _ _ _ _ _ _ 2 ny).trans t2⟩)|(exact⟨(Below.cell (B:=d.heap.size) (w:=d) (p:=(A_ wr.heap.size 0)) b_ lx).trans x0,(Below.cell (B:=d.heap.size) (w:=d) (p:=(A_ wr.heap.size 1)) b_ lx).trans x1,(Below.cell (B:=d.heap.size) (w:=d) (p:=(A_ wr.heap.size 2)) b_ lx).trans x2,(Below.cell (B:=d.heap.size) (w:=d) (p:=(A_ o.heap.size 0)) b_ ly).trans y0,(Below.cell (B:=d.heap.size) (w:=d) (p:=(A_ o.heap.size 1)) b_ ly).trans y1,(Below.cell (B:=d.heap.size) (w:=d) (p:=(A_ o.heap.size 2)) b_ ly).trans y2⟩)) (first|(go_at_call 156;refine(bE _ b_).mono ?_;rintro e w5 ⟨v5,rfl,aE,aU⟩;have c:E_ d w5:=Below.trans b_ (aU.mono f_);have c9:=c.size;have s0:=(Below.cell (B:=d.heap.size) (w:=d) (p:=(A_ wr.heap.size 0)) c lx).trans x0;have s1:=(Below.cell (B:=d.heap.size) (w:=d) (p:=(A_ wr.heap.size 1)) c lx).trans x1;have s2:=(Below.cell (B:=d.heap.size) (w:=d) (p:=(A_ wr.heap.size 2)) c lx).trans x2;have t0:=(Below.cell (B:=d.heap.size) (w:=d) (p:=(A_ o.heap.size 0)) c ly).trans y0;have t1:=(Below.cell (B:=d.heap.size) (w:=d) (p:=(A_ o.heap.size 1)) c ly).trans y1;have t2:=(Below.cell (B:=d.heap.size) (w:=d) (p:=(A_ o.heap.size 2)) c ly).trans y2;obtain⟨⟨⟨u0,z0⟩,⟨u1,z1⟩,⟨u2,z2⟩,⟨u3,z3⟩⟩,zf⟩:=b6 w5 c;have bM:=zf (k*4);have bV:=zf (k*4+1);have bQ:=zf (k*4+2);have bX:=zf (k*4+3);clear zf;obtain⟨b5,c5,aH⟩:=aE.shape;rw[List.length_map] at aH;subst aH;have bI:=x1_ (Ag.mono aE qg_);clear aU aE))
   have bK:=HR.below (u.1.trans (c.mono (Nat.le_of_lt lx)));have H:=u.2.trans (c.mono (Nat.le_of_lt ly))
   have hN:=bK.put hkl o_ (v:=(.slice _ _ _,.slice ew _ _,.slice _ _ c5)) (a7.1.below H) (a7.2.below H) (by
    have n:Av ((s.cols k).map (Dy (E k)))=(s.cols k).map (λx=>((Dy (E k) x:Nat):Int)):=(by simp[Av]);rw[n]
    exact bI)
   have bN:Hid (((((w5.setCell (A_ (w.heap.size+1+1) (k*4)) (.bool (E k).wd)).setCell (A_ (w.heap.size+1+1) (k*4+1)) (.slice eb (E k).bs.length A)).setCell (A_ (w.heap.size+1+1) (k*4+2)) (.slice ew (E k).ww.length y)).setCell (A_ (w.heap.size+1+1) (k*4+3)) (.slice b5 (s.cols k).length c5)).heap[w.heap.size+1]? =some (.cells #[.slice wa s.ws.length wc,L_ cb (m+1) (m+1)] 250 (0,0))):=by have n:=λW j v=>Below.heap_setCell W (A_ (w.heap.size+1+1) j) v _ (by show w.heap.size+1≠w.heap.size+1+1;omega);show _=_;rw[n,n,n,n];exact((u.1.trans (c.mono (Nat.le_of_lt lx))).block _ bW).trans HT
   have HN:=x1_ hN;clear bK H hN HR HT b6 bE bI a7 aJ aQ u c x0 x1 x2 y0 y1 y2 z0 z1 z2 z3 bM bV bQ bX s0 s1 s2 t0 t1 t2;generalize ((((w5.setCell (A_ (w.heap.size+1+1) (k*4)) (.bool (E k).wd)).setCell (A_ (w.heap.size+1+1) (k*4+1)) (.slice eb (E k).bs.length A)).setCell (A_ (w.heap.size+1+1) (k*4+2)) (.slice ew (E k).ww.length y)).setCell (A_ (w.heap.size+1+1) (k*4+3)) (.slice b5 (s.cols k).length c5))=w7 at *;go_wp2;go_roundw;case rel=>exact⟨k+1,_,_,g_,o_,HN,bN⟩
   case measure=>exact z_
  have bG:k=m+1:=o_;have cD:¬k<(m:Int)+1:=o_;have hB:=HR.out;rw[bG] at hB;have aY:=hB.done;have q1:=(hB.bl.cell (p:=(A_ tb 1)) T).trans t1
  have V:∀i,i<m+1->((List.range (m+1)).map E).getD i Ph=E i:=λi hi=>by simp[List.getD,hi]
  have a9:∀i,i<m+1->((List.range (m+1)).map (λi=>(s.cols i).map (Dy (E i)))).getD i []=(s.cols i).map (Dy (E i)):=λi hi=>by simp[List.getD,hi]
  have aV:Po m s.ws.length ((List.range (m+1)).map E) ((List.range (m+1)).map (λi=>(s.cols i).map (Dy (E i)))):=(by refine⟨s_,λi hi=>?_,λi hi=>?_,λi hi=>?_,λi hi b hb=>?_⟩;rw[a9 i hi,List.length_map];exact I i hi;rw[V i hi];exact(U i hi).1;rw[V i hi];exact(U i hi).2.2;rw[a9 i hi] at hb;rw[V i hi];obtain⟨x,_,rfl⟩:=List.mem_map.1 hb;exact wg _ _);have Q:=Zh3 _ m _ _ _ _ _ _ _ _ hm R hb J aY aV;have Z:=x1_ hB.bl;clear hB aY aV V a9 HR HT bG;go_wp2_with fail
  refine Q.mono ?_;rintro e d ⟨rfl,hM,aG⟩;have HM:=x2_ hM (Z.trans (aG.mono J));clear hM aG Q;go_wp2;go_ret;exact⟨_,rfl,J,HM⟩
def xh a z p w (h:Sl w a true z p):C_ 50 #[.pointer (some ⟨a,0,none⟩)] w λe w'=>e=.returned (.tuple #[.pointer none,.int .i64 1,.int .i64 0])/\w'=w:=by
 have b:=cR_ 1 h;go_enter Tryz.func50,Tryz.ntmps50;go_wp2;refine bodyPost_ret (v:=.tuple #[.pointer none,I_ 1,I_ 0]) (by simp[results,Tryz.results50,go_sem]) rfl ?_
 grind
def ZaE a z p w (h:Sl w a false z p)(b:z=2∨z=3):C_ 50 #[.pointer (some ⟨a,0,none⟩)] w λe w'=>e=.returned (.tuple #[.pointer none,.int .i64 z,.int .i64 p])/\∃m,w'=w.drewN m:=by
 have d:=cR_ 1 h;have c:=cR_ 2 h;have f:=cR_ 3 h
 rcases b with rfl|rfl
 all_goals go_enter Tryz.func50,Tryz.ntmps50
 all_goals go_wp2_with fail
 all_goals go_big_quiet (fail)
 all_goals go_wp2
 ·refine bodyPost_ret (v:=.tuple #[.pointer none,I_ 2,I_ p]) (by simp[results,Tryz.results50,go_sem]) rfl ?_
  grind
 refine bodyPost_ret (v:=.tuple #[.pointer none,I_ 3,I_ p]) (by simp[results,Tryz.results50,go_sem]) rfl ?_
 grind
def du(w w':World)(ib:Nat):Prop:=Sl w' ib true 0 0/\Aa (λk=>k=ib) w w'
structure My(w:World)(gb db:Nat)(D):Prop where
 gp:w.heap[gb]? =some (.cells #[P_ db] 110 (0,0))
 md:ZkA w db D
structure Ze9(base)(w:World)(gb db:Nat)(D):Prop where
 gp:w.heap[gb]? =some (.cells #[P_ db] 110 (0,0))
 md:Te base w db D
 bg:base<=gb
 bd:base<=db
section
variable {w:World} {K M:Nat->Prop} {ib tb rb fb cb m:Nat} {wd:Nat->Bool} {sc ct:Nat->Int} {bins:Int} {size budget:Nat} {s:RS} {len:Nat}
def InX.shut(hX:InX w K M ib tb rb fb cb (m+1) wd sc ct bins size budget s len):Aa (λk=>k=ib) w ((w.setCell (A_ ib 1) (.bool true)).setCell (A_ ib 0) (.pointer none))/\Sl ((w.setCell (A_ ib 1) (.bool true)).setCell (A_ ib 0) (.pointer none)) ib true 0 0:=
 ⟨((Aa.refl (λk=>k=ib) w).setCell (p:=(A_ ib 1)) (λ_=>rfl) _).setCell (p:=(A_ ib 0)) (λ_=>rfl) _,hs_ _ ib 0 _ 119 _ (hs_ _ ib 1 _ 119 _ hX.ik)⟩
def ZcJ(a:InX w K M ib tb rb fb cb (m+1) wd sc ct bins size budget s len)(d:s.wt≠0):C_ 50 #[.pointer (some ⟨ib,0,none⟩)] w λe w'=>e=.returned (.tuple #[.pointer none,.int .i64 2,.int .i64 len])/\du w w' ib:=by
 obtain⟨f,j⟩:=a.shut;have p:=cR_ 0 a.ik;have A:=cR_ 1 a.ik;have y:=cR_ 2 a.ik;have n:=fq_ 0 _ _ a.ik;have t:=fq_ 1 _ _ a.ik;have g:=f.at_ a.tx (λe=>a.ne e.symm);obtain⟨o,B,x,z,i⟩:=a.rd.touch f (λk hk e=>by rw[e] at hk;exact hk.elim a.ni.1 a.ni.2);have h:=uw _ _ _ _ _ _ _ _ _ i.rd;have c:decide (s.wt=0)=false:=(by simp[d]);rw[c] at h;have b:Hid (du w _ _):=⟨j,f⟩;have q:=cR_ 2 g;have u:=cR_ 3 g;go_enter Tryz.func50,Tryz.ntmps50;go_upto_region 7 with fail;generalize (w.setCell (A_ ib 1) (.bool true)).setCell (A_ ib 0) (.pointer none)=w1 at *;go_wp2_with fail
 refine h.mono ?_;rintro e r ⟨rfl,l⟩;obtain rfl:=l.symm;go_wp2_with fail
 go_big_quiet (fail);go_wp2;refine bodyPost_ret (v:=.tuple #[.pointer none,I_ 2,I_ (len:Nat)]) (by simp[results,Tryz.results50,go_sem]) rfl ?_;exact⟨rfl,b.1,⟨b.2.os,b.2.tape,b.2.output,b.2.size,b.2.block⟩⟩
def xi H E (a:InX w K M ib tb rb fb cb (m+1) wd sc ct bins size budget s len)(B:s.wt=0)(U:Ht (m+1) s)(V:m+1<=4)(W:budget<=20)(o:(∃i,i<m+1/\wd i=true)->ZgM H)(I:∀i,E i=Ck H (wd i) (ct i) bins size (s.cols i) s.ws)(r:∀i,i<m+1->Ol (E i)/\(E i).wd=wd i/\(E i).cnt<=16)(hr:∀i,i<m+1->∀v∈s.cols i,(-1000000000<=v.num/\v.num<=1000000000)/\v.word.size<=8)(Q:∀z∈s.ws,0<=z/\z<=99)(hs:2<=size)(u:size<=32)(F:2<=bins)(p:bins<=16):C_ 50 #[.pointer (some ⟨ib,0,none⟩)] w λe w'=>∃gb db,e=.returned (.tuple #[.pointer (some ⟨gb,0,none⟩),.int .i64 0,.int .i64 0])/\Ze9 w.heap.size w' gb db (Ao m s.ws.length budget ((List.range (m+1)).map E) ((List.range (m+1)).map (λi=>(s.cols i).map (Dy (E i)))))/\du w w' ib:=by
 obtain⟨C,S⟩:=a.shut;have i0:=cR_ 0 a.ik;have i1:=cR_ 1 a.ik;have i2:=cR_ 2 a.ik;have g0:=fq_ 0 _ _ a.ik;have g1:=fq_ 1 _ _ a.ik;have J:=C.at_ a.tx (λe=>a.ne e.symm);have n:=a.rd.touch C (λk hk e=>by rw[e] at hk;exact hk.elim a.ni.1 a.ni.2);have j:=ZaM _ K M _ _ fb _ m _ _ _ wd _ _ _ s E _ J n U V W o I r hr Q hs u F p;obtain⟨vW,vr,wv,vc,n⟩:=n;have L:=uw _ _ _ _ _ _ _ _ _ n.rd;have g:decide (s.wt=0)=true:=(by simp[B]);rw[g] at L;have l:Hid (du w _ _):=⟨S,C⟩;have t2:=cR_ 2 J;have HE:=x1_ I;go_enter Tryz.func50,Tryz.ntmps50;go_upto_region 7 with fail;generalize (w.setCell (A_ ib 1) (.bool true)).setCell (A_ ib 0) (.pointer none)=w1 at *
 obtain⟨D,G⟩:=ex_ (Ao m s.ws.length budget ((List.range (m+1)).map E) ((List.range (m+1)).map (λi=>(s.cols i).map (Dy (E i)))));rw[<- G] at j;have t:=x1_ G;go_wp2_with fail
 refine L.mono ?_;rintro e w2 ⟨rfl,P⟩;obtain rfl:=P.symm;go_wp2_with fail
 refine j.mono ?_;rintro e c ⟨db,rfl,Z,N,d⟩;have b:=l.2.size;have y:=d.size;have O:Hid (Ze9 w.heap.size (c.alloc (.cells #[P_ db] 110)) c.heap.size db D/\du w (c.alloc (.cells #[P_ db] 110)) ib):=by have f:Below _ _ (c.alloc (.cells #[P_ db] 110)):=d.alloc y _;refine⟨⟨hn_,?_,o_,o_⟩,?_,l.2.below f⟩;obtain⟨R,T,Y,A,x,X,a⟩:=N;have h:Below _ _ (c.alloc (.cells #[P_ db] 110)):=bA_;exact⟨R,T,Y,A,x,X,(a.ds.mono b).below h,(a.kn.mono b).below h,a.perm,a.sorted,λq hq=>Nat.le_trans b (a.nk q hq),λq hq=>Nat.le_trans b (a.nb q hq),λq hq=>Nat.le_trans b (a.nx q hq)⟩;exact(f.block _ (Qb l.1).1).trans l.1
 go_wp2;refine bodyPost_ret (v:=.tuple #[P_ c.heap.size,I_ 0,I_ 0]) (by simp[results,Tryz.results50,go_sem]) rfl ?_;rw[<- t];exact⟨_,_,rfl,O⟩
end
def Ii(w:World)(o:Nat->Nat)(t:Nat)(Q:World->Prop):Prop:=∀w',Aa (λk=>o k≠t) w w'->Q w'
def Dr(w:World)(o o':Nat->Nat):Prop:=∀k,k<w.heap.size->o k=99∨o' k=o k
section
variable {w w':World} {o o':Nat->Nat} {t:Nat} {Q:World->Prop} {S:Nat->Prop}
def Dr.refl w o:Dr w o o:=λ_ _=>.inr rfl
def Dr.trans{o2}(h:Dr w o o')(hs:w.heap.size<=w'.heap.size)(g:Dr w' o' o2):Dr w o o2:=λk hk=>by
 rcases h k hk with e|e
 exact .inl e
 rcases g k o_ with e2|e2
 omega;omega
def Ii.here(h:Ii w o t Q):Q w:=h w (Aa.refl _ _)
def Ii.step(h:Ii w o t Q)(a:Aa S w w')(g:∀k,k<w.heap.size->S k->o k≠t)(d:Dr w o o')(f:t≠99:=by decide):Ii w' o' t Q:=λw2 h2=>
 h w2 ⟨h2.os.trans a.os,h2.tape.trans a.tape,h2.output.trans a.output,Nat.le_trans a.size h2.size,λk hk hn=>by
  have b:o k=t:=o_
  have c:¬o' k≠t:=by
   rcases d k hk with e|e
   omega;omega
  exact(h2.block k (Qh hk a.size) c).trans (a.block k hk (λe=>g k hk e b))⟩
def Ii.mono{Q'}(h:Ii w o t Q)(hq:∀W,Q W->Q' W):Ii w o t Q':=λw' ht=>hq _ (h w' ht)
def Ii.and{Q'}(h:Ii w o t Q)(h':Ii w o t Q'):Ii w o t (λW=>Q W/\Q' W):=λw' ht=>⟨h w' ht,h' w' ht⟩
def Ii.block{g ob}(h:w.heap[g]? =some ob)(hc:o g=t):Ii w o t (λW=>W.heap[g]? =some ob):=λ_ ht=>ht.at_ h (λe=>e hc)
def Ii.all{ty u v}(h:Gi w ty u v)(hc:∀k,v.ownBlock=some k->o k=t):Ii w o t (λW=>Gi W ty u v):=λ_ ht=>h.touch ht (λk _ hk _ e=>e (hc k hk))
end
def Ze9.stab{a w d c D o t}(h:Ze9 a w d c D)(f:∀k,a<=k->k<w.heap.size->o k=t):Ii w o t (λW=>My W d c D):=λw' ht=>by
 have hS:∀k,(λk=>o k≠t) k->k<w.heap.size->k<a:=λk hk hl=>w_
 have row:∀{b ty size n:Nat} {v xs},w.ownsRow b ty size v n xs->(∀k,v.ownBlock=some k->a<=k)->w'.ownsRow b ty size v n xs:=λhr hb=>ht.row hr (λk hk e=>by
  have h1:=hS k e (rl_ hr k hk).2
  grind)
 have rowb:∀{ty size n:Nat} {v:_} {xs:_},w.ownsRow _ ty size v n xs->_:=λhr=>row hr (λk hk=>(rl_ hr k hk).1);have blk:∀{k ob},w.heap[k]? =some ob->a<=k->w'.heap[k]? =some ob:=λhk hb=>ht.at_ hk (λe=>w_);obtain⟨vK,vB,vX,kvs,bvs,X,hM⟩:=h.md
 have hN:Te a w' c D:=by
  refine⟨vK,vB,vX,kvs,bvs,X,⟨blk hM.ds.blk h.bd,⟨row hM.ds.bn.row hM.nb,hM.ds.bn.len,λi hi=>⟨rowb (hM.ds.bn.each i hi).1,?_⟩⟩,row hM.ds.xn hM.nx⟩,⟨row hM.kn.row hM.nk,hM.kn.len,λi hi=>⟨rowb (hM.kn.each i hi).1,rowb (hM.kn.each i hi).2⟩⟩,hM.perm,hM.sorted,hM.nk,hM.nb,hM.nx⟩
  rcases(hM.ds.bn.each i hi).2 with⟨h1,p,e,sb,vc,e2,hb,hX⟩|⟨h1,p,e,d2,q,e2,hb,hX⟩
  exact .inl ⟨h1,p,e,sb,vc,e2,hb,blk hX.blk hb,rowb hX.row⟩;exact .inr ⟨h1,p,e,d2,q,e2,hb,blk hX.blk hb,rowb hX.row⟩
 exact⟨blk h.gp h.bg,hN.zero⟩
def Ec(w:World)(v:Value)(w':World)(v':Value):Prop:=Aa (λk=>v.ownBlock=some k) w w'/\∀k,v'.ownBlock=some k->v.ownBlock=some k∨w.heap.size<=k
def Ec.refl w v:Ec w v w v:=⟨Aa.refl _ _,λ_ h=>.inl h⟩
def Ec.trans{w b c v a d}(h:Ec w v b a)(k:Ec b a c d):Ec w v c d:=by
 refine⟨h.1.trans2 k.1 (λz hz=>h.2 z hz),λz hz=>?_⟩
 rcases k.2 z hz with e|e
 exact h.2 z e;have:=h.1.size;omega
def Ec.pre{w w1 w2 v v2}(h:Below w.heap.size w w1)(k:Ec w1 v w2 v2):Ec w v w2 v2:=
 ⟨(Aa.of_below h).trans k.1,λz hz=>(k.2 z hz).imp id (λe=>Nat.le_trans h.size e)⟩
def Ec.of_mark{w a v b N}(g:w.grownBy a v.ownBlock)(d:b.ownBlock=v.ownBlock∨b.ownBlock=some N/\Below N w a)(c:w.heap.size<=N):Ec w v a b:=by
 refine⟨(Aa.refl _ w).grown g (λk hk _=>hk),λk hk=>?_⟩
 grind
def Zai(w:World)(v:Value)(bs news:List Int)(e:Ending)(w':World):Prop:=∃v',e=.returned v'/\Bj w' 0 v' (bs++news)/\Ec w v w' v'
def Bj.more{w b v c a n}(h:w.ownsRow b 5 1 v (c.length+n) (c.map (Value.int .u8)++a.map (Value.int .u8)))(d:a.length=n):Bj w b v (c++a):=by grind [Bj]
def Vx:Nat->Int->Int
 |0,n=>n
 |j+1,n=>Vx j n/256
def Ba(n:Int):Nat->List Int
 |0=>[]
 |j+1=>Ba n j++[Vx j n%256]
def Gc n:∀j,(Ba n j).length=j
 |0=>rfl
 |j+1=>by simp[Ba,Gc n j]
def ZeZ{n}(h1: -1000000000000<=n)(h2:n<=1000000000000):∀j,-1000000000000<=Vx j n/\Vx j n<=1000000000000
 |0=>⟨h1,h2⟩
 |j+1=>by have:=ZeZ h1 h2 j;unfold Vx;omega
def Ml a c k b n w (h:Bj w 0 (.slice a b.length c) b)(Q:k<=8)(R:b.length<=1000000)(g: -1000000000000<=n)(E:n<=1000000000000):C_ 102 #[.slice a b.length c,.int .i64 n,.int .i64 (k:Nat)] w λe w'=>Zai w (.slice a b.length c) b (Ba n k) e w':=by
 have F:=x1_ h;have s:=x1_ (ZeZ g E);obtain⟨N,f,t,o,p⟩:=info_parts Nf;go_enter Tryz.func102,Tryz.ntmps102;go_wp2_with fail
 go_loopw [0,1,8] (λtv tn ti wr=>∃(j:Nat) (d:Option Addr) (l:Nat),tv=.slice d (b.length+j) l/\tn=.int .i64 (Vx j n)/\ti=.int .i64 j/\j<=k/\Hid (Bj wr 0 (.slice d (b.length+j) l) (b++Ba n j)/\Ec w (.slice a b.length c) wr (.slice d (b.length+j) l))) (λ_ _ ti _=>k-(intOf ti).toNat)
 case atStart=>exact⟨0,a,c,rfl,rfl,rfl,qg_,by show Bj _ _ _ (b++[])/\_;rw[List.append_nil];exact⟨F,Ec.refl _ _⟩⟩
 case round=>
  obtain⟨j,d,l,rfl,rfl,rfl,P,v⟩:=hrel
  by_cases hjk:j<k
  ·have D:=s j;have y:Hid (Vx (j+1) n=_/_/\b++Ba n (j+1)=_):=⟨rfl,(List.append_assoc _ _ _).symm⟩;have i:Hid ((b++Ba n j).length=b.length+j):=(by show _=_;rw[Qe,Gc]);generalize Vx j n=x at *;have q:Hid (wr.ownsRow 0 5 1 (.slice d (b.length+j) l) (b.length+j) ((b++Ba n j).map (Value.int .u8))):=(by have g:=v.1;unfold Bj at g;rw[i] at g;exact g);generalize b++Ba n j=L0,hbl:b.length+j=bl at *;go_wp2_with (at_builtin;refine Ab rfl (.tmp 10) _ _ rfl 0 5 _ _ 1 1 Tryz.underlying66 f t o p rfl d_ _ _ _ rfl (q.alloc _) _ 1 1 [.int .u8 (x%256)] rfl rfl ?_ ?_ ?_ ?_ ?_ ?_ ?_)
   exact Am _ _ 5;intro u z;simp at z;rcases z with rfl;rfl;decide;unfold maxLen;omega;omega;simp;intro A B I;obtain⟨G,H,J,_,O,C,r⟩:=I;have M:Hid (Bj B 0 A (b++Ba n (j+1))/\Ec w (.slice a b.length c) B A):=(by refine⟨?_,v.2.trans (Ec.pre bA_ (Ec.of_mark H J s_))⟩;rw[y.2];refine Bj.more (n:=1) ?_ rfl;rw[i];exact G);subst r;refine rd_ ?_;exact⟨j+1,some _,C,by rw[<- hbl];rfl,by rw[y.1],g_,o_,w_⟩
  have L:¬j<(k:Int):=o_;have m:j=k:=o_;subst m;go_wp2;go_ret;exact⟨_,rfl,v⟩
def ZaJ(z:Int):Int:=if(bits .and .u32 z 1==1)=true then bits .xor .u32 (z/2) 3988292384 else z/2
def Zj:Nat->Int->Int
 |0,z=>z
 |j+1,z=>ZaJ (Zj j z)
def oz(z b:Int):Int:=Zj 8 (bits .xor .u32 z b)
def Zhq(bs:List Int):Int:=bs.foldl oz 4294967295
def Jv(bs:List Int):Int:=bits .xor .u32 4294967295 (Zhq bs)
def Rh a x y:0<=bits a .u32 x y/\bits a .u32 x y<4294967296:=by unfold bits;simp only[IntKind.wrap];constructor;exact Int.emod_nonneg _ d_;exact Int.emod_lt_of_pos _ d_
def ZjB{z}(h:0<=z/\z<4294967296):0<=ZaJ z/\ZaJ z<4294967296:=by unfold ZaJ;split;exact Rh _ _ _;omega
def xp{z}(h:0<=z/\z<4294967296):∀j,0<=Zj j z/\Zj j z<4294967296
 |0=>h
 |j+1=>ZjB (xp h j)
def Zel:∀(bs:List Int) (z:Int),0<=z/\z<4294967296->0<=bs.foldl oz z/\bs.foldl oz z<4294967296
 |[],_,h=>h
 |b::bs,z,_=>Zel bs (oz z b) (xp (Rh _ _ _) 8)
def Bj.atK{w b a n c d}(h:Bj w b (.slice a n c) d)(j:d.length=n){k}(l:k<n):∃q,a=some ⟨q,0,none⟩/\q<w.heap.size/\w.cell? (A_ q k)=some (.int .u8 (d.getD k 0)):=by
 subst j;have f:=h
 rcases f.2 with⟨e,h0⟩|⟨g,cap,cur,e,_,hh,hnc,_⟩
 omega;injection e with e1 e2 e3;subst e1;refine⟨g,rfl,(Qb hh).1,?_⟩;have i:w.ownsRow _ 5 1 _ _ _:=h;rw[World.ownsRow.cellAt i k o_]
 grind
def xg a c d w (h:Bj w 0 (.slice a d.length c) d)(R:d.length<=1000000)(t:∀b∈d,0<=b/\b<256):C_ 103 #[.slice a d.length c] w λe w'=>e=.returned (.int .u32 (Jv d))/\w'=w:=by
 have J:=x1_ h;have L:=x1_ t;clear h t;obtain⟨n,C⟩:=ex_ d.length;have x:=x1_ C.symm;rw[<- C] at J R ⊢;clear C;go_enter Tryz.func103,Tryz.ntmps103;go_wp2_with fail
 go_loopw [9,3] (λti tr wr=>∃(k:Nat) (z:Int),ti=.int .i64 k/\tr=.int .u32 z/\k<=n/\Hid (z=(d.take k).foldl oz 4294967295)/\Hid (w=wr)) (λti _ _=>n-(intOf ti).toNat)
 case atStart=>exact⟨0,4294967295,rfl,rfl,qg_,rfl,rfl⟩
 case round=>
  obtain⟨k,z,rfl,rfl,hk,u,r⟩:=hrel;have f:=r.out;subst f;clear r;have I:0<=z/\z<4294967296:=by rw[u];exact Zel _ _ d_
  by_cases hkn:k<n
  ·obtain⟨q,ha,M,c0⟩:=J.atK x hkn;subst ha;have m:k<d.length:=(by rw[x];exact hkn);have g:d.getD k 0=d[k]:=w_
   have p:Hid ((d.take (k+1)).foldl oz 4294967295=Zj 8 (bits .xor .u32 z (d.getD k 0))):=(by show _=_;rw[Qi m,List.foldl_append,<- u,g];rfl);have G:0<=d.getD k 0/\d.getD k 0<256:=(by rw[g];exact L _ (Qf _));clear g u m;generalize d.getD k 0=b at *;obtain⟨E,D⟩:=I;obtain⟨W,P⟩:=G;have O:0<=(k:Int):=o_;have N:k<(n:Int):=o_;have H:=Rh .xor z b;go_wp2_with fail
   generalize bits .xor .u32 z b=z0 at *;have F:=x1_ H;clear H;go_loopw [17,3] (λti tr wr=>∃(j:Nat) (y:Int),ti=.int .i64 j/\tr=.int .u32 y/\j<=8/\Hid (y=Zj j z0)/\Hid (w=wr)) (λti _ _=>8-(intOf ti).toNat)
   case atStart=>exact⟨0,z0,rfl,rfl,qg_,rfl,rfl⟩
   case round=>
    obtain⟨j,y,rfl,rfl,hj,l,r⟩:=hrel;have f:=r.out;subst f;clear r;have T:0<=y/\y<4294967296:=(by rw[l];exact xp F j);obtain⟨S,V⟩:=T
    by_cases hj8:j<8
    ·have bj:(j:Int)<8:=o_;have H:=Rh .xor (y/2) 3988292384;have Q:=Rh .and y 1;have o:Hid (Zj (j+1) z0=if(bits .and .u32 y 1==1)=true then bits .xor .u32 (y/2) 3988292384 else y/2):=(by show ZaJ (Zj j z0)=_;rw[<- l];rfl);generalize hA:bits .and .u32 y 1=A,hX:bits .xor .u32 (y/2) 3988292384=X at *
     by_cases t:(A==1)=true
     ·have i:Hid (X=Zj (j+1) z0):=w_;clear o l;refine rd_ ?_;exact⟨j+1,X,g_,rfl,o_,i,True.intro⟩
     have Z:(A==1)=false:=by simpa using t
     have i:Hid (y/2=Zj (j+1) z0):=w_;clear o l t;refine rd_ ?_;exact⟨j+1,y/2,g_,rfl,o_,i,True.intro⟩
    have Y:¬(j:Int)<8:=o_;have v:j=8:=o_
    have B:Hid (y=(d.take (k+1)).foldl oz 4294967295):=(by show _=_;rw[p,<- v];exact l);clear v l p;refine rd_ ?_;exact⟨k+1,y,g_,rfl,o_,B,True.intro⟩
  have U:¬k<(n:Int):=o_;have s:d.take k=_:=List.take_of_length_le (by have:=x.out;omega);have B:Hid (z=Zhq d):=(by have:=u.out;rw[s] at this;exact this);clear s u;obtain⟨E,D⟩:=I;go_wp2;go_ret;unfold Jv;rw[<- B];exact⟨rfl,rfl⟩
def Zk r q n d l a c b w (N:Zak w 0 r q n d l)(h:Bj w 0 (.slice a b.length c) b)(G:(Value.slice a b.length c).ownBlock≠some q)(hp:0<l.length)(a2:l.length<=1000)(hl:b.length<=1000000):C_ 374 #[.pointer (some ⟨r,0,none⟩),.slice a b.length c] w λe w'=>Zai w (.slice a b.length c) b (100::l) e w':=by
 have Z:=x1_ h;have L:=x1_ N;have P:=x1_ G;have Y:=cR_ 2 N.blk;have O:=(Qb N.blk).1;obtain⟨W,o,M,y,A⟩:=info_parts Nf;clear h N G;generalize hbl:b.length=bl,hpl2:l.length=pl at *;have f:=x2_ hbl hpl2;clear hbl hpl2;go_enter Tryz.func374,Tryz.ntmps374;go_upto_region 1 with fail;refine Al (λw'=>w'.cell? _=some _) 8 k_ Y (λhHeld=>?_);refine Ah 0 ?_;refine Ah 3 ?_;refine Ah 4 ?_;refine Ah 5 ?_;refine Ah 6 ?_;refine Af (i:=1) k_ rfl (λKK hK=>?_);go_simp;refine hK _ _ ((Below.cell (B:=w.drew.heap.size) (p:=(A_ r 2)) bA_ O).trans Y) (λhHeld=>?_);clear hK KK;try simp only[Act.put,sA,sB,sC]
 refine Af (i:=2) k_ rfl (λKK hK=>?_);have J:w.ownsRow 0 5 1 (.slice a bl c) bl (b.map (Value.int .u8)):=by have m:=Z.out;unfold Bj at m;rw[f.1] at m;exact m
 refine Az rfl _ _ 66 rfl 0 5 W _ 1 1 Tryz.underlying66 o M y A rfl d_ _ bl _ j_ (ra_ (w:=w.drew) J _) _ 1 1 [.int .u8 100] j_ rfl (Am _ _ 5) (by intro u v;simp at v;rcases v with rfl;rfl) d_ m_ o_ s_ ?_;intro v6 w6 H6;obtain⟨r6,g6,H,_,q6,p6,U⟩:=H6;have F:E_ w (w.drew.alloc (.cells #[.int .u8 100] 5)):=((br_ _ w).drew).alloc qa_ _;have g:=Ec.pre F (Ec.of_mark g6 H qa_);have s:=g.1.at_ L.blk (λe=>Au J e L.blk d_ rfl);have C:Bj _ 0 _ _:=g.1.row L.row (λk hk e=>P (by simp[Value.ownBlock] at hk;rw[hk];exact e));have c6:w6.cell? (A_ r 2)=some (L_ q pl pl):=by have m:=cR_ 2 s;rw[f.2] at m;exact m
 have t:=x1_ g;have T:=x1_ C;have E:=x1_ r6;subst U;clear r6 g6 H F g s C;refine hK _ _ c6 (λhHeld=>?_);clear hK KK;try simp only[Act.put,sA,sB,sC]
 refine Af (i:=7) k_ rfl (λKK hK=>?_)
 refine Az rfl (.tmp 7) (.tmp 11) 66 rfl 0 5 W (.int .u8 0) 1 1 Tryz.underlying66 o M y A rfl d_ (.slice (some ⟨q6,0,none⟩) (bl+1) p6) (bl+1) (b.map (Value.int .u8)++[.int .u8 100]) j_ E.out ⟨q,0,none⟩ pl pl (l.map (Value.int .u8)) j_ (by rw[List.length_map,f.out.2,Nat.mul_one]) (λj u v=>by
  have m:=T.out;unfold Bj at m;have hj:j<l.length:=w_;have h2:=World.ownsRow.cellAt m j o_;rw[v] at h2
  have h3:((A_ q 0):Addr).add j=(A_ q j):=by
   by_cases hj0:j=0
   subst hj0;rfl;simp[Addr.add,hj0]
  grind) (by intro u v;obtain⟨x,_,rfl⟩:=List.mem_map.1 v;rfl) hp m_ o_ qg_ ?_
 intro V R H7;obtain⟨r7,S,D,_,q7,p7,Q⟩:=H7
 have z:Hid (Bj R 0 V (b++100::l)/\Ec w (.slice a bl c) R V):=by
  refine⟨?_,t.trans (Ec.of_mark S D qa_)⟩;unfold Bj;have e1:(b++100::l).length=bl+1+pl:=by rw[Qe,List.length_cons,f.1,f.2];omega
  grind
 have c7:R.cell? (A_ r 2)=some (L_ q pl pl):=by
  have t7:=(Aa.refl _ _).grown S (λk hk _=>hk)
  have I:¬(L_ q6 (bl+1) p6).ownBlock=some r:=λe=>by
   obtain⟨a0,X⟩:=Ad E e
   have s:=t.1.at_ L.blk (λe=>by
    obtain⟨c2,a1⟩:=Ad Z e;have:=L.blk
    grind)
   grind
  rw[cb_ (a:=(A_ r 2)) (t7.block r (by have:=t.1.size;omega) I)];exact c6
 subst Q;clear r7 S D;refine hK _ _ c7 (λhHeld=>?_);clear hK KK;try simp only[Act.put,sA,sB,sC]
 refine Ai (i:=8) k_ rfl k_ (λKK hK=>?_);go_simp;refine hK _ _ ?_;clear hK KK;try simp only[Act.put,sA,sB,sC]
 refine Ak k_ ?_ _;go_wp2;go_ret;exact⟨_,rfl,z⟩
def Ek(L:List (Nat×Nat))(k:Nat):Int:=if k=0 then -1 else(L.getD (k-1) (0,0)).1
def ku(L:List (Nat×Nat)):Nat->List Int
 |0=>[]
 |k+1=>ku L k++[((L.getD k (0,0)).1-Ek L k)%256,(L.getD k (0,0)).2%256]
def Vz L:∀k,(ku L k).length=k*2
 |0=>rfl
 |k+1=>by simp[ku,Vz L k];omega
def zu(L:List (Nat×Nat)):List Int:=[115,(L.length:Int)%256]++ku L L.length
def rx:∀(L:List (Nat×Nat)) (i:Nat),i<L.length->∀c,c<2->(Qk L)[i*2+c]? =(Pu (L.getD i (0,0)))[c]?
  |[],i,h=>by simp at h
  |x::L,0,_=>λc hc=>by grind [Qk,Pu]
  |x::L,i+1,h=>λc hc=>by simp only[Qk];rw[List.getElem?_append_right (by simp[Pu];omega),show(i+1)*2+c-(Pu x).length=i*2+c by simp[Pu];omega];exact rx L i (by simpa using h) c hc
def Ui.atK{w b a c L}(h:Ui w b (.slice a L.length c) L){k}(i:k<L.length):∃q,a=some ⟨q,0,none⟩/\q<w.heap.size/\w.cell? (A_ q (k*2))=some (I_ (L.getD k (0,0)).1)/\w.cell? (A_ q (k*2+1))=some (I_ (L.getD k (0,0)).2):=by
 have f:=h
 rcases f.2 with⟨e,h0⟩|⟨g,cap,cur,e,_,hh,hnc,_⟩
 omega;injection e with e1 e2 e3;subst e1;have j:w.ownsRow _ _ 2 _ _ _:=h
 have d:∀o u,o<2->(Pu (L.getD k (0,0)))[o]? =some u->w.cell? (A_ g (k*2+o))=some u:=λo u ho hu=>by rw[World.ownsRow.cellAt j (k*2+o) o_];exact(rx L k i o ho).trans hu
 exact⟨g,rfl,(Qb hh).1,d 0 _ o_ rfl,d 1 _ o_ rfl⟩
def Xt sb n d vc L a c b w (i:vq w 0 sb n d vc L)(h:Bj w 0 (.slice a b.length c) b)(hL:L.length<=1000)(hr:∀x∈L,x.1<=1000/\x.2<=1000)(hl:b.length<=1000000):C_ 370 #[.pointer (some ⟨sb,0,none⟩),.slice a b.length c] w λe w'=>Zai w (.slice a b.length c) b (zu L) e w':=by
 have H0:=x1_ h;have T:=x1_ i;have N:=x1_ hr;obtain⟨ca,cc,U⟩:=i.row.shape;subst U;have d2:=cR_ 2 i.blk;have aD:=(Qb i.blk).1;obtain⟨i0,m,S,O,D⟩:=info_parts Nf;have B:Hid _:=h;have a1:Hid (zu L=_++_):=rfl;clear h i hr;generalize hbl:b.length=bl,hll:L.length=ll at *;have g:=x2_ hbl hll;clear hbl hll;go_enter Tryz.func370,Tryz.ntmps370;go_wp2_with (at_builtin;refine Ab rfl (.tmp 8) _ _ rfl 0 5 _ _ 1 1 Tryz.underlying66 m S O D rfl d_ _ bl _ rfl (B.alloc _) _ 2 2 [.int .u8 115,.int .u8 ((ll:Int)%256)] rfl rfl ?_ ?_ ?_ ?_ ?_ ?_ ?_)
 exact Am w _ 5
 ·intro u C;simp at C;rcases C with rfl|rfl<;>rfl
 decide;unfold maxLen;omega;omega;simp;intro v1 w1 H1;obtain⟨r1,g1,R,_,q1,p1,Y⟩:=H1;have s:=Ec.pre bA_ (Ec.of_mark g1 R s_);have E:Bj _ 0 _ (_++[_,_]):=Bj.more (n:=2) (by rw[g.1];exact r1) rfl;subst Y
 have G:Hid (∀W v,Ec w (.slice a bl c) W v->vq W 0 sb n d (.slice ca ll cc) L):=λW v hW=>by refine⟨hW.1.at_ T.blk (λe=>Au B e T.blk d_ rfl),hW.1.row T.row (λk hk e=>?_)⟩;obtain⟨c1,Z⟩:=Ad T.row hk;exact Au B e Z d_ rfl
 have y:=x2_ s E;have c2:w1.cell? _=some (.slice _ _ _):=cq_ 2 _ _ _ (G _ _ s).blk;clear r1 g1 R s E d2;go_wp2_with fail
 go_loopw [1,5,22] (λtv tah ti wr=>∃(k:Nat) (z:Option Addr) (r:Nat),tv=.slice z (bl+2+k*2) r/\tah=.int .i64 (Ek L k)/\ti=.int .i64 k/\k<=ll/\Hid (Bj wr 0 (.slice z (bl+2+k*2) r) (b++[115,(ll:Int)%256]++ku L k)/\Ec w (.slice a bl c) wr (.slice z (bl+2+k*2) r))) (λ_ _ ti _=>ll-(intOf ti).toNat)
 case atStart=>exact⟨0,_,_,rfl,rfl,rfl,qg_,by show Bj _ _ _ (_++[])/\_;rw[List.append_nil];exact⟨y.2,y.1⟩⟩
 case round=>
  clear y c2;obtain⟨k,z,r,rfl,rfl,rfl,hk,A⟩:=hrel
  by_cases hkl:k<ll
  ·have i:=G _ _ A.2;have H:k<L.length:=(by rw[g.2];exact hkl);have p:=i.row;have f:Ui wr 0 (.slice ca L.length cc) L:=(by rw[g.2];exact p);obtain⟨q,hq,a7,y0,y1⟩:=f.atK H;subst hq;have F:L.getD k (0,0)=L[k]:=w_;have I:=N _ (Qf H);rw[<- F] at I;have V:Hid (b++[115,(ll:Int)%256]++ku L (k+1)=(b++[115,(ll:Int)%256]++ku L k)++[((L.getD k (0,0)).1-Ek L k)%256,(L.getD k (0,0)).2%256]/\Ek L (k+1)=(L.getD k (0,0)).1):=⟨by simp[ku],by simp[Ek]⟩
   have a2: -1<=Ek L k/\Ek L k<=1000:=by
    unfold Ek;split;omega;have X:k-1<L.length:=o_;have o:L.getD (k-1) (0,0)=L[k-1]:=w_;have h2:=(N _ (Qf X)).1
    grind
   have J:Hid ((b++[115,(ll:Int)%256]++ku L k).length=bl+2+k*2):=(by show _=_;rw[Qe,Qe,Vz,g.1];rfl);have t:Hid (wr.ownsRow 0 5 1 (.slice z (bl+2+k*2) r) (bl+2+k*2) ((b++[115,(ll:Int)%256]++ku L k).map (Value.int .u8))):=by have o:=A.1;unfold Bj at o;rw[J] at o;exact o
   generalize b++[115,(ll:Int)%256]++ku L k=L0,Ek L k=ah at *;obtain⟨aB,aF⟩:=I;obtain⟨aG,aE⟩:=a2;clear F p f i;generalize (L.getD k (0,0)).1=x1,(L.getD k (0,0)).2=x2,hbn:bl+2+k*2=bn at *;have a4:=x1_ hbn;have a6:bn<=1002002:=o_;clear hbn;have a8:0<=(k:Int):=o_;have aC:k<(ll:Int):=o_;go_wp2_with (at_builtin;refine Ab rfl (.tmp 26) _ 66 rfl 0 5 i0 _ 1 1 Tryz.underlying66 m S O D rfl d_ _ bn _ rfl ((t.alloc _).alloc _) _ 2 2 [.int .u8 (((x1:Int)-ah)%256),.int .u8 ((x2:Int)%256)] rfl rfl ?_ ?_ ?_ ?_ ?_ ?_ ?_)
   intro j u C;have o:=Am (wr.alloc (.cells #[I_ (x1:Nat),I_ (x2:Nat)] 405)) #[.int _ _,.int _ _] 5 j u C;rw[show(wr.alloc (.cells #[I_ (x1:Nat),I_ (x2:Nat)] 405)).heap.size=wr.heap.size+1 by simp] at o;exact o
   ·intro u C;simp at C;rcases C with rfl|rfl<;>rfl
   decide;unfold maxLen;omega;omega;simp;intro v4 w4 H4;obtain⟨r4,g4,d4,_,q4,p4,a3⟩:=H4;have P:Below _ wr ((wr.alloc (.cells #[I_ (x1:Nat),I_ (x2:Nat)] 405)).alloc (.cells #[.int .u8 (((x1:Int)-ah)%256),.int .u8 ((x2:Int)%256)] 5)):=bA_.alloc s_ _;have M:((wr.alloc (.cells #[I_ (x1:Nat),I_ (x2:Nat)] 405)).alloc (.cells #[.int .u8 (((x1:Int)-ah)%256),.int .u8 ((x2:Int)%256)] 5)).heap[wr.heap.size]? =_:=(hc_ s_).trans hn_
   have Q:=(g4.block _ t_ (λe=>by
    have:=(rl_ t _ e.symm).2
    omega)).trans M
   have a9:=cR_ 0 Q;have HN:Hid (Bj w4 0 v4 (b++[115,(ll:Int)%256]++ku L (k+1))/\Ec w (.slice a bl c) w4 v4):=(by refine⟨?_,A.2.trans (Ec.pre P (Ec.of_mark g4 d4 s_))⟩;rw[V.1];refine Bj.more (n:=2) ?_ rfl;rw[J];exact r4);subst a3;have a0:=x1_ V.2;clear r4 g4 d4 t A P M Q V y0 y1;have l:bn+2=bl+2+(k+1)*2:=(by have:=a4.out;omega);rw[l] at HN ⊢;clear l;refine rd_ ?_;exact⟨k+1,some _,p4,rfl,by rw[a0],g_,o_,HN⟩
  have aA:¬k<(ll:Int):=o_;have a5:k=ll:=o_
  have HF:Hid (Bj wr 0 (.slice z (bl+2+k*2) r) (b++zu L)/\Ec w (.slice a bl c) wr (.slice z (bl+2+k*2) r)):=by
   refine⟨?_,A.2⟩;rw[a1,<- List.append_assoc];have o:=A.1
   grind
  clear a5 A;go_wp2;go_ret;exact⟨_,rfl,HF⟩
def Wq z q n d l a c b w (L:Zak w 0 z q n d l)(h:Bj w 0 (.slice a b.length c) b)(J:(Value.slice a b.length c).ownBlock≠some q)(hp:l.length=0)(hl:b.length<=1000000):C_ 374 #[.pointer (some ⟨z,0,none⟩),.slice a b.length c] w λe w'=>Zai w (.slice a b.length c) b (100::l) e w':=by
 have Z:=x1_ h;have N:=x1_ L;have D:=x1_ J;have U:=cR_ 2 L.blk;have A:=(Qb L.blk).1;obtain⟨Y,r,P,C,G⟩:=info_parts Nf;generalize hbl:b.length=bl,hpl2:l.length=pl at *;have f:=x2_ hbl hpl2;go_enter Tryz.func374,Tryz.ntmps374;go_upto_region 1 with fail;refine Al (λw'=>w'.cell? _=some _) 8 k_ U (λhHeld=>?_);refine Ah 0 ?_;refine Ah 3 ?_;refine Ah 4 ?_;refine Ah 5 ?_;refine Ah 6 ?_;refine Af (i:=1) k_ rfl (λKK hK=>?_);go_simp;refine hK _ _ ((Below.cell (B:=w.drew.heap.size) (p:=(A_ z 2)) bA_ A).trans U) (λhHeld=>?_);try simp only[Act.put,sA,sB,sC]
 refine Af (i:=2) k_ rfl (λKK hK=>?_);have x:w.ownsRow 0 5 1 (.slice a bl c) bl (b.map (Value.int .u8)):=by have m:=Z.out;unfold Bj at m;rw[f.1] at m;exact m
 refine Az rfl _ _ 66 rfl 0 5 Y _ 1 1 Tryz.underlying66 r P C G rfl d_ _ bl _ j_ (ra_ (w:=w.drew) x _) _ 1 1 [.int .u8 100] j_ rfl (Am _ _ 5) (by intro u S;simp at S;rcases S with rfl;rfl) d_ m_ o_ s_ ?_;intro v6 R H6;obtain⟨r6,g6,M,_,V,y,Q⟩:=H6;have I:E_ w (w.drew.alloc (.cells #[.int .u8 100] 5)):=((br_ _ w).drew).alloc qa_ _;have j:=Ec.pre I (Ec.of_mark g6 M qa_);have E:=j.1.at_ N.blk (λe=>Au x e N.blk d_ rfl);have H:Bj _ 0 _ _:=j.1.row N.row (λk hk e=>D (by simp[Value.ownBlock] at hk;rw[hk];exact e));have W:R.cell? (A_ z 2)=some (L_ q pl pl):=by have m:=cR_ 2 E;rw[f.2] at m;exact m
 have O:=x1_ j;have a0:=x1_ H;have v:=x1_ r6;subst Q;refine hK _ _ W (λhHeld=>?_);try simp only[Act.put,sA,sB,sC]
 refine Af (i:=7) k_ rfl (λKK hK=>?_);have s:=hp;subst s
 have T:bl+1<=y:=by
  rcases v.out.2 with⟨e,_⟩|⟨g,cap,cur,e,_,_,hnc,_⟩
  ·cases e
  grind
 have F:(bl+1:Nat)<=(y:Int):=o_;go_simp;have o:Hid (Bj R 0 (L_ V (bl+1) y) (b++100::l)/\Ec w (.slice a bl c) R (L_ V (bl+1) y)):=(by refine⟨?_,O⟩;unfold Bj;have t:=List.length_eq_zero_iff.1 f.2;have e1:(b++100::l).length=bl+1:=(by rw[t,Qe,f.1];rfl);have X:(b++100::l).map (Value.int .u8)=b.map (Value.int .u8)++[.int .u8 100]:=(by rw[t];simp);rw[e1,X];exact v);refine hK _ _ W (λhHeld=>?_);try simp only[Act.put,sA,sB,sC]
 refine Ai (i:=8) k_ rfl k_ (λKK hK=>?_);go_simp;refine hK _ _ ?_;try simp only[Act.put,sA,sB,sC]
 refine Ak k_ ?_ _;go_wp2;go_ret;exact⟨_,rfl,o⟩
structure Hb(W0 w)(v)(bs):Prop where
 bl:E_ W0 w
 ow:Bj w 0 v bs
 nw:∀k,v.ownBlock=some k->W0.heap.size<=k
def dz(W0:World)(L:List Int)(e:Ending)(w':World):Prop:=∃a c,e=.returned (.slice a L.length c)/\Hb W0 w' (.slice a L.length c) L
def Hb.app{d w a v b g L}(h:Hb d w v g)(f:Bj a 0 b L)(c:Ec w v a b):Hb d a b L:=by
 refine⟨h.bl.trans (c.1.to_below h.bl.size (λq hq=>h.nw q hq)),f,λk hk=>?_⟩
 rcases c.2 k hk with e|e
 exact h.nw k e;exact Nat.le_trans h.bl.size e
def Hb.below{W0 w w' v bs}(h:Hb W0 w v bs)(hb:Below w.heap.size w w'):Hb W0 w' v bs:=⟨h.bl.trans (hb.mono h.bl.size),(Aa.of_below (S:=λ_=>False) hb).row h.ow (λ_ _=>id),h.nw⟩
def Zai.out{i w f v d b e}(h:Hb i w v d)(k:Zai w v d b e f):dz i (d++b) e f:=by obtain⟨l,rfl,g,j⟩:=k;obtain⟨a,c,rfl⟩:=g.form;exact⟨a,c,rfl,h.app g j⟩
def Wp k q n d g a c b w (j:Zak w 0 k q n d g)(h:Bj w 0 (.slice a b.length c) b)(f:(Value.slice a b.length c).ownBlock≠some q)(i:g.length<=1000)(l:b.length<=1000000):C_ 374 #[.pointer (some ⟨k,0,none⟩),.slice a b.length c] w λe w'=>Zai w (.slice a b.length c) b (100::g) e w':=by
 by_cases h0:g.length=0
 exact Wq _ q n d _ a c _ w j h f h0 l;exact Zk _ q n d _ a c _ w j h f o_ i l
def Lb(N:List Nat)(g:Nat):List Int:=if 4*nzN N<N.length then zu (Fu N N.length) else 100::Cd (Ds N (Lib.bitLen g)) ((N.length*Lib.bitLen g+7)/8) (N.length*Lib.bitLen g)
def Wl(fs:List Nat):List Int:=fs.map (λf=>(f:Nat)%256)
def Gw(b:BS):List Int:=[(b.fs.length:Int)%256]++Wl b.fs++Lb b.N b.g
def Zaz{a:List Nat}{k}(h:k<a.length):Wl (a.take (k+1))=Wl (a.take k)++[((a.getD k 0:Nat):Int)%256]:=by
 unfold Wl;rw[Qi h,List.map_append]
 grind
def ZgZ{p:Prop}(h:p:=by
 clear HQ;go_wp2_with fail
 refine HC.mono ?_;rintro e w3 ⟨a3,c3,rfl,h3⟩;rw[<- HLE] at h3 ⊢;obtain⟨n3,hn3⟩:=ex_ ((bs++Gw b).length);rw[<- hn3] at h3 ⊢;have HN3:=x1_ hn3;have H3:=x1_ h3;clear h3 HC hn3;go_wp2;go_ret
 exact⟨a3,c3,by rw[<- HN3];rfl,by rw[<- HN3];exact H3⟩):p:=h
def Wk m D d b s a c bs w (hf:Ag m 0 (.slice D b.fs.length d) (Av b.fs))(hc:Mu m 0 s b.N b.g)(ho:Hb m w (.slice a bs.length c) bs)(aE:b.fs.length<=1000)(U:∀f∈b.fs,f<=1000)(hl:bs.length<=900000)(G:(Fu b.N b.N.length).length<=1000/\∀x∈Fu b.N b.N.length,x.1<=1000/\x.2<=1000)(a0:(Cd (Ds b.N (Lib.bitLen b.g)) ((b.N.length*Lib.bitLen b.g+7)/8) (b.N.length*Lib.bitLen b.g)).length<=1000):C_ 101 #[.agg #[.slice D b.fs.length d,s],.slice a bs.length c] w λe w'=>dz m (bs++Gw b) e w':=by
 have H0:=x1_ ho;have HF:=x1_ hf;obtain⟨t,p,hv⟩:=hc.iface
 have A:Hid (∀W a c L,Hb m W (.slice a L.length c) L->L.length<=1000000->(t=380/\Calls Tryz.prog 370 #[.pointer (some ⟨p,0,none⟩),.slice a L.length c] W λe w'=>dz m (L++Lb b.N b.g) e w')∨(t=382/\Calls Tryz.prog 374 #[.pointer (some ⟨p,0,none⟩),.slice a L.length c] W λe w'=>dz m (L++Lb b.N b.g) e w')):=λW a c L hW hL=>by
  rcases hc with⟨l,q,e,sb,vc,e2,_,hX⟩|⟨l,q,e,db,q2,e2,_,hX⟩
  left;rw[hv,e2] at e;injection e with e3 e4;injection e4 with e4;injection e4 with e4;injection e4 with e4 _;subst e4;refine⟨e3,?_⟩;have hb:=hW.bl;have C:vq W 0 p _ _ _ _:=⟨(hb.block _ (Qb hX.blk).1).trans hX.blk,(Aa.of_below (S:=λ_=>False) hb).row hX.row (λ_ _=>id)⟩;refine(Xt p _ _ _ _ a c L W C hW.ow G.1 G.2 hL).mono ?_;intro e w' h;unfold Lb;rw[if_pos l];exact h.out hW;right;rw[hv,e2] at e;injection e with e3 e4;injection e4 with e4;injection e4 with e4;injection e4 with e4 _;subst e4;refine⟨e3,?_⟩;have hb:=hW.bl;have C:Zak W 0 p _ _ _ _:=⟨(hb.block _ (Qb hX.blk).1).trans hX.blk,(Aa.of_below (S:=λ_=>False) hb).row hX.row (λ_ _=>id)⟩;refine(Wp p _ _ _ _ a c L W C hW.ow (λe=>?_) a0 hL).mono ?_
  have h2:=hW.nw _ e;have h3:=(rl_ hX.row q2 rfl).2;omega;intro e w' h;unfold Lb;rw[if_neg l];exact h.out hW
 subst hv;have a4:=x1_ U;obtain⟨i0,z,a2,R,M⟩:=info_parts Nf;have J:Hid _:=ho.ow;have a5:Hid (Gw b=_++_):=rfl
 have ht:t=380∨t=382:=by
  rcases A.out w a c bs H0 o_ with h|h
  exact .inl h.1;exact .inr h.1
 clear hf hc ho U G a0;generalize hbl:bs.length=bl,hll:b.fs.length=ll at *;have i:=x2_ hbl hll;clear hbl hll;go_enter Tryz.func101,Tryz.ntmps101;go_wp2_with (at_builtin;refine Ab rfl (.tmp 7) _ _ rfl 0 5 _ _ 1 1 Tryz.underlying66 z a2 R M rfl d_ _ _ _ rfl ((J.alloc _).alloc _) _ 1 1 [.int .u8 ((ll:Int)%256)] rfl rfl ?_ ?_ ?_ ?_ ?_ ?_ ?_)
 intro j u E;have l:=Am (w.alloc (.cells #[.slice D ll d,.iface t (P_ p)] 163)) #[.int _ _] 5 j u E;rw[show(w.alloc (.cells #[.slice D ll d,.iface t (P_ p)] 163)).heap.size=w.heap.size+1 by simp] at l;exact l;intro u E;simp at E;rcases E with rfl;rfl;decide;unfold maxLen;omega;omega;simp;intro v1 w1 H1;obtain⟨r1,g1,X,_,q1,p1,a6⟩:=H1;have T:Below _ w ((w.alloc (.cells #[.slice D ll d,.iface t (P_ p)] 163)).alloc (.cells #[.int .u8 ((ll:Int)%256)] 5)):=bA_.alloc s_ _;have V:=Ec.pre T (Ec.of_mark g1 X s_);have O:Bj _ 0 _ (_++[_]):=Bj.more (n:=1) (by rw[i.1];exact r1) rfl
 have B:w1.heap[w.heap.size]? =some (.cells #[.slice D ll d,.iface t (P_ p)] 163 (0,0)):=(g1.block _ t_ (λe=>by
  have:=(rl_ J _ e.symm).2
  omega)).trans ((hc_ s_).trans hn_)
 have h0:=H0.out;have Y:=x2_ (h0.app O V) B;have e0:=cR_ 0 B;subst a6;clear r1 g1 X V O B T h0;go_wp2_with fail
 go_loopw [1,17] (λtv ti wr=>∃(k:Nat) (I:Option Addr) (H:Nat),tv=.slice I (bl+1+k) H/\ti=.int .i64 k/\k<=ll/\Hid (Hb m wr (.slice I (bl+1+k) H) (bs++[(ll:Int)%256]++Wl (b.fs.take k))/\wr.heap[w.heap.size]? =some (.cells #[.slice D ll d,.iface t (.pointer (some ⟨p,0,none⟩))] 163 (0,0)))) (λ_ ti _=>ll-(intOf ti).toNat)
 case atStart=>exact⟨0,_,_,rfl,rfl,qg_,by rw[List.take_zero];show Hb _ _ _ (_++[])/\_;rw[List.append_nil];exact Y⟩
 case round=>
  clear Y e0;obtain⟨k,I,H,rfl,rfl,hk,r⟩:=hrel;have aF:=(Qb r.2).1;have o:Hid ((bs++[(ll:Int)%256]++Wl (b.fs.take k)).length=bl+1+k):=by show _=_;rw[Qe,Qe,i.1];have l:(Wl (b.fs.take k)).length=k:=(by unfold Wl;rw[List.length_map,List.length_take,i.2];omega);rw[l];rfl
  by_cases hkl:k<ll
  ·have Z:k<b.fs.length:=(by rw[i.2];exact hkl);have Q:=HF.below r.1.bl;obtain⟨q,hq,aB,_,y0,_⟩:=Q.atK (by rw[Aw];exact i.2) hkl;rw[Cv] at y0;subst hq;have P:b.fs.getD k 0=b.fs[k]:=w_;have a7:=a4 _ (Qf Z);rw[<- P] at a7;have HX:Hid (bs++[(ll:Int)%256]++Wl (b.fs.take (k+1))=(bs++[(ll:Int)%256]++Wl (b.fs.take k))++[((b.fs.getD k 0:Nat):Int)%256]):=(by show _=_;rw[Zaz Z,List.append_assoc (bs++[(ll:Int)%256])]);have F:Hid (wr.ownsRow 0 5 1 (.slice I (bl+1+k) H) (bl+1+k) ((bs++[(ll:Int)%256]++Wl (b.fs.take k)).map (Value.int .u8))):=by have l:=r.1.ow;unfold Bj at l;rw[o] at l;exact l
   generalize bs++[(ll:Int)%256]++Wl (b.fs.take k)=L0 at *;clear P Q;generalize b.fs.getD k 0=f,hbn:bl+1+k=bn at *;have a9:=x1_ hbn;have aA:bn<=902002:=o_;clear hbn;have aD:0<=(k:Int):=o_;have aC:k<(ll:Int):=o_;go_wp2_with (at_builtin;refine Ab rfl (.tmp 21) _ 66 rfl 0 5 i0 _ 1 1 Tryz.underlying66 z a2 R M rfl d_ _ bn _ rfl (F.alloc _) _ 1 1 [.int .u8 ((f:Int)%256)] rfl rfl ?_ ?_ ?_ ?_ ?_ ?_ ?_)
   exact Am _ _ 5;intro u E;simp at E;rcases E with rfl;rfl;decide;unfold maxLen;omega;omega;simp;intro v4 w4 H4;obtain⟨r4,g4,d4,_,q4,p4,a8⟩:=H4;have HN:Hid (Hb m w4 v4 (bs++[(ll:Int)%256]++Wl (b.fs.take (k+1)))/\w4.heap[w.heap.size]? =some (.cells #[L_ q ll d,.iface t (P_ p)] 163 (0,0))):=(by have ha:=Ec.pre (v:=.slice _ _ _) bA_ (Ec.of_mark g4 d4 s_);refine⟨r.1.app ?_ ha,ha.1.at_ r.2 (λe=>Au F e r.2 d_ rfl)⟩;rw[HX];refine Bj.more (n:=1) ?_ rfl;rw[o];exact r4);subst a8;clear r4 g4 d4 F r HX y0;have y:bn+1=bl+1+(k+1):=(by have:=a9.out;omega);rw[y] at HN ⊢;clear y;refine rd_ ?_;exact⟨k+1,some _,p4,rfl,g_,o_,HN⟩
  have aG:¬k<(ll:Int):=o_;have a1:b.fs.take k=_:=List.take_of_length_le (by have:=i.2;omega);have HLE:Hid (bs++Gw b=(bs++[(ll:Int)%256]++Wl (b.fs.take k))++Lb b.N b.g):=(by show _=_;rw[a5,a1,List.append_assoc,List.append_assoc,List.append_assoc]);have e1:=cR_ 1 r.2;have HQ:=x1_ (A _ _ _ _ (by rw[o];exact r.1) (by rw[o];omega));rw[o] at HQ;generalize bs++[(ll:Int)%256]++Wl (b.fs.take k)=L0 at *;clear r a1 A
  rcases ht with rfl|rfl
  ·have HC:C_ 370 #[.pointer (some ⟨p,0,none⟩),.slice I (bl+1+k) H] wr λe w'=>dz m (L0++Lb b.N b.g) e w':=by
    rcases HQ.out with h|h
    exact h.2;exact absurd h.1 d_
   exact ZgZ
  have HC:C_ 374 #[.pointer (some ⟨p,0,none⟩),.slice I (bl+1+k) H] wr λe w'=>dz m (L0++Lb b.N b.g) e w':=by
   rcases HQ.out with h|h
   exact absurd h.1 d_;exact h.2
  exact ZgZ
def Kb(bs:List Int):List Int:=bs.flatMap (λx=>Ba x 4)
def rq{L:List Int}{k}(h:k<L.length):Kb (L.take (k+1))=Kb (L.take k)++Ba (L.getD k 0) 4:=by
 unfold Kb;rw[Qi h,List.flatMap_append]
 grind
def ff L:(Kb L).length=L.length*4:=by
 induction L with
 |nil=>rfl
 | cons x L ih=>
  grind [Kb,Gc]
def knB(k:KS):List Int:=[110,(k.d:Int)%256,k.e.cnt%256]++Kb k.e.bs
def Zo X M aw N cw k a c h w (F:k.e.wd=false)(hI:Ag X 0 (.slice M k.e.bs.length N) k.e.bs)(ho:Hb X w (.slice a h.length c) h)(aG:k.e.bs.length<=1000)(hr:∀x∈k.e.bs,-1000000000000<=x/\x<=1000000000000)(hl:h.length<=900000):C_ 100 #[.agg #[.bool k.e.wd,.slice M k.e.bs.length N,.slice aw 0 cw,.int .i64 k.d],.slice a h.length c] w λe w'=>dz X (h++knB k) e w':=by
 rw[F];have H0:=x1_ ho;have HI:=x1_ hI;have aA:=x1_ hr;have E:k.e.cnt=k.e.bs.length:=by unfold ES.cnt La;rw[F];rfl
 have aB:Hid (knB k=[110,(k.d:Int)%256,k.e.bs.length%256]++Kb k.e.bs):=by show _=_;unfold knB;rw[E]
 have aC:Hid (∀W:_,Calls _ 169 _ W λe w'=>e=.returned (.int _ ((k.e.bs.length:Nat):Int))/\_):=λW=>Wo false M aw _ N 0 cw W;obtain⟨i0,a2,aE,aD,a9⟩:=info_parts Nf;have P:Hid _:=ho.ow;clear hI ho hr F E;generalize k.d=d,hbl:h.length=bl,hnb:k.e.bs.length=nb at *;have r:=x2_ hbl hnb;clear hbl hnb;go_enter Tryz.func100,Tryz.ntmps100;go_upto_region 4 with fail;generalize hW1:w.alloc (.cells #[.bool false,.slice M nb N,.slice aw 0 cw,I_ (d:Nat)] 172)=w1;have a0:E_ w w1:=(by rw[<- hW1];exact bA_);have g:w1.heap[w.heap.size]? =some (.cells #[.bool false,.slice M nb N,.slice aw 0 cw,I_ d] 172 (0,0)):=(by rw[<- hW1];exact hn_);have l:=(Qb g).1;have x0:=cR_ 0 g;have x1:=cR_ 1 g;have x2:=cR_ 2 g;have x3:=cR_ 3 g
 have O:=x2_ g a0;clear hW1 a0 g;refine Al (λw'=>w'.cell? _=some _/\w'.cell? _=some _/\w'.cell? _=some _/\w'.cell? _=some _) 11 k_ ⟨x0,x1,x2,x3⟩ (λhHeld=>?_);refine Ah 0 ?_;refine Ah 1 ?_;refine Ah 2 ?_;refine Ua [4,9,10,11] 3 (v:=?_) ?_ ?_
 rotate_left
 ·intro w I;try obtain⟨_,_,_,_⟩:=I
  go_simp;try with_reducible rfl
 try simp only[Act.put,sA,sB,sC]
 refine Ah 4 ?_;refine Ah 5 ?_;refine Ua [7,8,9,10,11] 6 (v:=?_) ?_ ?_
 rotate_left
 ·intro w I;try obtain⟨_,_,_,_⟩:=I
  go_simp;try with_reducible rfl
 try simp only[Act.put,sA,sB,sC]
 refine Af (i:=7) k_ rfl (λKK hK=>?_);go_simp;refine(aC _).mono ?_;rintro e z ⟨rfl,U⟩;have b:=(br_ w1.heap.size _).drew.trans U;have y0:=(b.cell (p:=(A_ w.heap.size 0)) l).trans x0;have y1:=(b.cell (p:=(A_ w.heap.size 1)) l).trans x1;have y2:=(b.cell (p:=(A_ w.heap.size 2)) l).trans x2;have y3:=(b.cell (p:=(A_ w.heap.size 3)) l).trans x3;have f:=Qh l b.size;go_simp;refine hK _ _ ⟨y0,y1,y2,y3⟩ (λhHeld=>?_);clear hK KK U;try simp only[Act.put,sA,sB,sC]
 refine Ah 8 ?_;refine Af (i:=9) k_ rfl (λKK hK=>?_);go_simp;refine hK _ _ ⟨(Below.cell (B:=z.heap.size) (p:=(A_ w.heap.size 0)) bA_ f).trans y0,(Below.cell (B:=z.heap.size) (p:=(A_ w.heap.size 1)) bA_ f).trans y1,(Below.cell (B:=z.heap.size) (p:=(A_ w.heap.size 2)) bA_ f).trans y2,(Below.cell (B:=z.heap.size) (p:=(A_ w.heap.size 3)) bA_ f).trans y3⟩ (λhHeld=>?_);clear hK KK;try simp only[Act.put,sA,sB,sC]
 refine Af (i:=10) k_ rfl (λKK hK=>?_);have m:=O.2.trans (b.mono (Nat.le_of_lt l));refine Az rfl (.tmp 13) (.tmp 22) 66 rfl 0 5 i0 (.int .u8 0) 1 1 Tryz.underlying66 a2 aE aD a9 rfl d_ (.slice a bl c) bl (h.map (Value.int .u8)) j_ (ra_ (w:=z) ((Aa.of_below (S:=λ_=>False) m).row P (λ_ _=>id)) _) (A_ z.heap.size 0) 3 3 [.int .u8 110,.int .u8 ((d:Int)%256),.int .u8 ((nb:Int)%256)] j_ rfl (Am z _ 5) (by intro u hu;simp at hu;rcases hu with rfl|rfl|rfl<;>rfl) d_ m_ o_ s_ ?_;intro v6 w6 H6;obtain⟨r6,g6,a6,_,q6,p6,aF⟩:=H6;have C:Below _ w (z.alloc (.cells #[.int .u8 110,.int .u8 ((d:Int)%256),.int .u8 ((nb:Int)%256)] 5)):=m.alloc m.size _
 have Q:=Ec.pre C (Ec.of_mark g6 a6 qa_);have a1:Bj _ 0 _ (_++[_,_,_]):=Bj.more (n:=3) (by rw[r.1];exact r6) rfl
 have o:=(g6.block _ t_ (λe=>by
  have:=(rl_ P _ e.symm).2
  omega)).trans ((hc_ f).trans ((b.block _ l).trans O.1))
 have h0:=H0.out;have H:=x2_ (h0.app a1 Q) o;have z0:=cR_ 0 o;have z1:=cR_ 1 o;have z2:=cR_ 2 o;have z3:=cR_ 3 o;subst aF;clear r6 g6 a6 C Q a1 o h0 y0 y1 y2 y3 m;refine hK _ _ ⟨z0,z1,z2,z3⟩ (λhHeld=>?_);clear hK KK;try simp only[Act.put,sA,sB,sC]
 refine Ai (i:=11) k_ rfl k_ (λKK hK=>?_);go_simp;refine hK _ _ ?_;clear hK KK;try simp only[Act.put,sA,sB,sC]
 refine Ak k_ ?_ _;clear x0 x1 x2 x3 hHeld;have e1:=cR_ 1 H.2;go_wp2_with fail
 go_loopw [1,28] (λtv ti wr=>∃(j:Nat) (A:Option Addr) (D:Nat),tv=.slice A (bl+3+j*4) D/\ti=.int .i64 j/\j<=nb/\Hid (Hb X wr (.slice A (bl+3+j*4) D) (h++[110,(d:Int)%256,(nb:Int)%256]++Kb (k.e.bs.take j))/\wr.heap[w.heap.size]? =some (.cells #[.bool false,.slice M nb N,.slice aw 0 cw,.int .i64 (d:Nat)] 172 (0,0)))) (λ_ ti _=>nb-(intOf ti).toNat)
 case atStart=>exact⟨0,_,_,rfl,rfl,qg_,by rw[List.take_zero];show Hb _ _ _ (_++[])/\_;rw[List.append_nil];exact H⟩
 case round=>
  clear H e1;obtain⟨j,A,D,rfl,rfl,hj,t⟩:=hrel;have aL:=(Qb t.2).1;have s:Hid ((h++[110,(d:Int)%256,nb%256]++Kb (k.e.bs.take j)).length=bl+3+j*4):=by show _=_;rw[Qe,Qe,ff,List.length_take,r.1,r.2,Nat.min_eq_left hj];rfl
  by_cases hjl:j<nb
  ·have Z:j<k.e.bs.length:=(by rw[r.2];exact hjl);have T:=HI.below t.1.bl;obtain⟨q,hq,aH,_,y0,_⟩:=T.atK r.2 hjl;subst hq;have Y:k.e.bs.getD j 0=k.e.bs[j]:=w_;have y:=aA _ (Qf Z);rw[<- Y] at y;have HX:Hid (h++[110,(d:Int)%256,nb%256]++Kb (k.e.bs.take (j+1))=(h++[110,(d:Int)%256,nb%256]++Kb (k.e.bs.take j))++Ba (k.e.bs.getD j 0) 4):=(by show _=_;rw[rq Z,List.append_assoc (h++_)]);generalize h++[110,(d:Int)%256,(nb:Int)%256]++Kb (k.e.bs.take j)=L0 at *;clear Y T;generalize k.e.bs.getD j 0=x at *
   have R:C_ 102 #[.slice A (bl+3+j*4) D,.int .i64 x,.int .i64 4] wr λe w'=>Zai wr (.slice A (bl+3+j*4) D) L0 (Ba x 4) e w':=(by have h1:=t.1;rw[<- s] at h1 ⊢;exact Ml _ _ 4 _ x _ h1.ow o_ (by rw[s];omega) y.1 y.2);have aJ:0<=(j:Int):=o_;have aI:j<(nb:Int):=o_;clear y hHeld z0 z1 z2 z3;go_wp2_with fail
   refine R.mono ?_;rintro e w3 ⟨v3,rfl,J,L⟩;have G:=t.1.app J L;have a5:=L.1.at_ t.2 (λe=>Au t.1.ow e t.2 d_ rfl);obtain⟨a3,c3,V⟩:=J.form;rw[Qe,Gc,s,show bl+3+j*4+4=bl+3+(j+1)*4 by omega] at V;subst V;rw[<- HX] at G;have HN:=x2_ G a5;clear R J L G a5 t HX y0;refine rd_ ?_;exact⟨j+1,a3,c3,rfl,g_,o_,HN⟩
  have aK:¬j<(nb:Int):=o_;have a4:k.e.bs.take j=_:=List.take_of_length_le (by have:=r.2;omega);have HF:Hid (Hb X wr (.slice A (bl+3+j*4) D) (h++knB k)/\(h++knB k).length=bl+3+j*4):=(by have h1:=t.1;have h2:=s.out;rw[a4,List.append_assoc,<- aB] at h1 h2;exact⟨h1,h2⟩);have e2:=cR_ 2 t.2;clear a4 t s hHeld z0 z1 z2 z3;obtain⟨wl,a7⟩:∃wl,wl=wr:=⟨wr,rfl⟩;subst a7;go_wp2_with fail
  go_loopw [1,40] (λtv ti wr=>tv=.slice A (bl+3+j*4) D/\ti=.int .i64 0/\Hid (wl=wr)) (λ_ _ _=>0)
  case atStart=>exact⟨rfl,rfl,rfl⟩
  case round=>
   obtain⟨rfl,rfl,hw⟩:=hrel;have a8:=hw.out;subst a8;clear hw;go_wp2;go_ret;exact⟨A,D,by rw[HF.2];rfl,by rw[HF.2];exact HF.1⟩
def qq n d w:C_ 299 #[.agg #[.int .i64 n,.int .i64 d]] w λe w'=>e=.returned (.int .i64 n)/\Below w.heap.size w w':=by go_enter Tryz.func299,Tryz.ntmps299;go_wp2;go_ret;exact⟨rfl,bA_⟩
def ZiA:((Tryz.prog.info? 380).bind (λi=>(i.methods.find? (λm=>m.name== "Rows")).map (λm=>(m.path.toList.map (λs=>(s.struct,s.index,s.deref)),m.func))))=some ([(403,0,true)],some (299,false)):=k_
def ZiB:((Tryz.prog.info? 382).bind (λi=>(i.methods.find? (λm=>m.name== "Rows")).map (λm=>(m.path.toList.map (λs=>(s.struct,s.index,s.deref)),m.func))))=some ([(396,0,true)],some (299,false)):=k_
def eu{α β:Type}{o f}{i:α}{y:β}(h:o.bind f=some y)(a:o=some i):f i=some y:=by subst a;exact h
def Zgc sb w n d (s0:w.cell? (A_ sb 0)=some (I_ n))(s1:w.cell? (A_ sb 1)=some (I_ d)):(method 535 380 (P_ sb) "Rows").run Tryz.prog w=.ok (299,.agg #[I_ n,I_ d]) w:=by
 obtain⟨i,hi⟩:∃i,Tryz.prog.info? 380=some i:=by
  cases h:Tryz.prog.info? 380 with
  |none=>grind [ZiA]
  |some i=>exact⟨i,rfl⟩
 have h1:=eu ZiA hi;obtain⟨m,hm,h2⟩:=Option.map_eq_some_iff.1 h1;injection h2 with hp hf
 obtain⟨s,hs⟩:∃s,m.path.toList=[s]/\(s.struct,s.index,s.deref)=(403,0,true):=by
  cases hq:m.path.toList with
  |nil=>grind
  | cons a l=>
   grind [List.map_eq_nil_iff]
 obtain⟨hs1,hs2⟩:=hs;injection hs2 with e1 e2;injection e2 with e2 e3;unfold method;have hp2:m.path=#[s]:=w_;simp[go_sem,typeInfo,hi,hm,hp2,hf,follow,e1,e2,e3,Place.get,receiverAt,s0,s1]
def Zgd sb w n d (s0:w.cell? (A_ sb 0)=some (I_ n))(s1:w.cell? (A_ sb 1)=some (I_ d)):(method 535 382 (P_ sb) "Rows").run Tryz.prog w=.ok (299,.agg #[I_ n,I_ d]) w:=by
 obtain⟨i,hi⟩:∃i,Tryz.prog.info? 382=some i:=by
  cases h:Tryz.prog.info? 382 with
  |none=>grind [ZiB]
  |some i=>exact⟨i,rfl⟩
 have h1:=eu ZiB hi;obtain⟨m,hm,h2⟩:=Option.map_eq_some_iff.1 h1;injection h2 with hp hf
 obtain⟨s,hs⟩:∃s,m.path.toList=[s]/\(s.struct,s.index,s.deref)=(396,0,true):=by
  cases hq:m.path.toList with
  |nil=>grind
  | cons a l=>
   grind [List.map_eq_nil_iff]
 obtain⟨hs1,hs2⟩:=hs;injection hs2 with e1 e2;injection e2 with e2 e3;unfold method;have hp2:m.path=#[s]:=w_;simp[go_sem,typeInfo,hi,hm,hp2,hf,follow,e1,e2,e3,Place.get,receiverAt,s0,s1]
def gw:∀(vs:List (Value×Value)) (i:Nat),i<vs.length->∀c,c<2->(Mo vs)[i*2+c]? =[(vs.getD i Oi).1,(vs.getD i Oi).2][c]?
  |[],i,h=>by simp at h
  |x::L,0,_=>λc hc=>by grind [Mo]
  |x::L,i+1,h=>λc hc=>by simp only[Mo];rw[List.getElem?_append_right t_,show(i+1)*2+c-[x.1,x.2].length=i*2+c by simp;omega];exact gw L i (by simpa using h) c hc
def Ta.at{w f b d}(h:ZlD w f b d){i}(j:i<d.length):∃q c,f=L_ q d.length c/\q<w.heap.size/\w.cell? (A_ q (i*2))=some (b.getD i Oi).1/\w.cell? (A_ q (i*2+1))=some (b.getD i Oi).2:=by
 have k:=h.row
 rcases h.row.2 with⟨_,h0⟩|⟨g,cap,cur,e,hb,hh,hnc,_⟩
 omega;subst e
 have a:∀c u,c<2->[(b.getD i Oi).1,(b.getD i Oi).2][c]? =some u->w.cell? (A_ g (i*2+c))=some u:=λc u hc hu=>by rw[World.ownsRow.cellAt k (i*2+c) o_];exact(gw _ i (by rw[h.len];exact j) c hc).trans hu
 exact⟨g,cap,rfl,(Qb hh).1,a 0 _ o_ rfl,a 1 _ o_ rfl⟩
def Ta.form{w d e b}(h:ZlD w d e b):∃a c,d=.slice a b.length c:=by
 rcases h.row.2 with⟨rfl,h0⟩|⟨q,p,cur,rfl,_⟩
 ·grind
 grind
def Nq o t u y j a X w (h:DsX w o t u y j a X)(m:0<a.length):C_ 51 #[.pointer (some ⟨o,0,none⟩)] w λe w'=>e=.returned (.int .i64 (a.getD 0 Dx).N.length)/\Below w.heap.size w w':=by
 obtain⟨q,z,i,s,n,f⟩:=h.bn.at m;subst i;have A:=cR_ 1 h.blk;have B:0<(a.length:Int):=o_;have r:=x1_ qq;have b:=(h.bn.each 0 m).2;generalize a.length=bl at *;rw[show 0*2+1=1 from rfl] at f
 rcases b with⟨h1,p,e,sb,vc,e2,_,hX⟩|⟨h1,p,e,d2,q2,e2,_,hX⟩
 ·rw[e,e2] at f;have k:=cR_ 0 hX.blk;have l:=cR_ 1 hX.blk;clear hX e e2 h1;generalize (a.getD 0 Dx).N.length=nn,Lib.bitLen (a.getD 0 Dx).g=gg at *;have x:=Zgc _ w _ _ k l;clear h n;go_enter Tryz.func51,Tryz.ntmps51;go_wp2_with fail
  refine(r _ _ _).mono ?_;rintro e v ⟨rfl,c⟩;have d:=x1_ c;clear c;go_wp2;go_ret;exact⟨rfl,d⟩
 rw[e,e2] at f;have k:=cR_ 0 hX.blk;have l:=cR_ 1 hX.blk;clear hX e e2 h1;generalize (a.getD 0 Dx).N.length=nn,Lib.bitLen (a.getD 0 Dx).g=gg at *;have x:=Zgd _ w _ _ k l;clear h n;go_enter Tryz.func51,Tryz.ntmps51;go_wp2_with fail
 refine(r _ _ _).mono ?_;rintro e v ⟨rfl,c⟩;have d:=x1_ c;clear c;go_wp2;go_ret;exact⟨rfl,d⟩
def Mx.form{w d e b}(h:ZgJ w d e b):∃a c,d=.slice a b.length c:=by
 rcases h.row.2 with⟨rfl,h0⟩|⟨q,p,cur,rfl,_⟩
 ·grind
 grind
def xz f i g j b d X D w (h:So w f i g j b d X D):C_ 93 #[.pointer (some ⟨f,0,none⟩)] w λe w'=>e=.returned (.int .i64 D.ks.length)/\w'=w:=by obtain⟨a,c,rfl⟩:=h.kn.form;have k:=cR_ 0 h.ds.blk;clear h;go_enter Tryz.func93,Tryz.ntmps93;go_wp2;go_ret;exact⟨rfl,rfl⟩
def Ie b j D f w (h:My w b j D)(m:D.ks.length<=1000):C_ 52 #[.pointer (some ⟨b,0,none⟩),.int .i64 f] w λe w'=>e=.returned (.bool (decide (0<=f/\f<=D.ks.length-1)))/\w'=w:=by
 have l:=cR_ 0 h.gp;obtain⟨k,n,o,c,i,X,a⟩:=h.md;have d:=xz _ _ _ _ _ _ X D w a;clear a h;generalize D.ks.length=nk at *;go_enter Tryz.func52,Tryz.ntmps52;go_wp2_with fail
 refine d.mono ?_;rintro e p ⟨rfl,g⟩;obtain rfl:=g.symm;go_wp2
 all_goals go_ret
 all_goals (refine⟨?_,rfl⟩;simp<;>omega)
def ZfB c j D w (h:My w c j D)(d:0<D.bs.length):C_ 26 #[.pointer (some ⟨c,0,none⟩)] w λe w'=>e=.returned (.int .i64 (D.bs.getD 0 Dx).N.length)/\Below w.heap.size w w':=by
 have m:=cR_ 0 h.gp;obtain⟨l,n,o,g,i,X,b⟩:=h.md;have k:=Nq _ _ _ _ _ _ X w b.ds d;clear b h d;generalize (D.bs.getD 0 Dx).N.length=nn at *;go_enter Tryz.func26,Tryz.ntmps26;go_wp2_with fail
 refine k.mono ?_;rintro e p ⟨rfl,a⟩;have f:=x1_ a;clear a;go_wp2;go_ret;exact⟨rfl,f⟩
end Go.Proofs.YtfcgnpchbcmdeaaGreat
