import Derived.Test.YtfcgnpchbcmdeaaGreatZrbb
import Derived.Test.YtfcgnpchbcmdeaaGreatZrbd
namespace Go.Proofs.YtfcgnpchbcmdeaaGreat
set_option linter.all false
set_option maxRecDepth 100000
set_option maxHeartbeats 8000000
open Go.RowKit
def Pk(f:Nat->Nat)(b:Nat):Nat->Nat
 |0=>0
 |c+1=>Pk f b c+f (b+c)*2^c
def Vi{f}(hf:∀t,f t<=1) b:∀c,Pk f b c<2^c
 |0=>by simp[Pk]
 |c+1=>by have:=Vi hf b c;have h1:f (b+c)*2^c<=_:=Nat.mul_le_mul_right _ (hf _);simp only[Pk,Nat.pow_succ];omega
def Hd(f:Nat->Nat)(T j:Nat):Nat:=Pk f (8*j) (min 8 (T-8*j))
theorem fx{f}(a:∀t,f t<=1) T j:Hd f T j<256:=by have h:=Vi a (8*j) (min 8 (T-8*j));have:(2:Nat)^(min 8 (T-8*j))<=2^8:=Nat.pow_le_pow_right d_ o_;unfold Hd;omega
def fm f T:Hd f (T+1) (T/8)=Hd f T (T/8)+f T*2^(T%8):=by
 unfold Hd;have a:min 8 (T-8*(T/8))=T%8:=o_;have b:min 8 (T+1-8*(T/8))=T%8+1:=o_
 grind [Pk]
def fp{f}(b:∀t,f t<=1) T:Hd f T (T/8)<2^(T%8):=by unfold Hd;have a:min 8 (T-8*(T/8))=T%8:=o_;rw[a];exact Vi b _ _
theorem ZcE f T {j}(h:j≠T/8):Hd f (T+1) j=Hd f T j:=by grind [Hd]
def Cd(f:Nat->Nat)(nb T:Nat):List Int:=(List.range nb).map (λj=>(Hd f T j:Nat))
def Gp f a T:(Cd f a T).length=a:=by simp[Cd]
def Tw f {a j} T (h:j<a):(Cd f a T).getD j 0=(Hd f T j:Nat):=by simp[Cd,List.getD,h]
def jm f a:Cd f a 0=List.replicate a 0:=by apply List.ext_getElem;simp[Cd];intro i c b;simp[Cd,Hd,Pk]
theorem Xm f a T:(Cd f a T).set (T/8) (Hd f (T+1) (T/8):Nat)=Cd f a (T+1):=by
 apply List.ext_getElem;simp[Cd]
 grind [Cd,ZcE]
def Wf n (h₀:0<=n)(h₁:n<2^8):IntKind.u8.wrap n=n:=by simp[IntKind.wrap,IntKind.bits,IntKind.signed];omega
def Zcx(a b:Nat)(ha:a<256)(hb:b<256):bits .and .u8 a b=(a&&&b:Nat)/\bits .or .u8 a b=(a|||b:Nat):=bits_nat .u8 8 d_ Wf a b o_ o_
def Zij{x b k}(a:x<2^k):x|||(b*2^k)=x+b*2^k:=by grind [Nat.two_pow_add_eq_or_of_lt,Nat.mul_comm]
def Yc r d w:C_ 330 #[.agg #[.int .i64 r,.int .i64 d]] w λe w'=>e=.returned (.int .i64 d)/\w'=w.alloc (.cells #[.int .i64 r,.int .i64 d] 379):=by go_enter Tryz.func330,Tryz.ntmps330;go_wp2;go_ret;exact⟨rfl,rfl⟩
def ZbU r d w:C_ 299 #[.agg #[.int .i64 r,.int .i64 d]] w λe w'=>e=.returned (.int .i64 r)/\w'=w.alloc (.cells #[.int .i64 r,.int .i64 d] 379):=by go_enter Tryz.func299,Tryz.ntmps299;go_wp2;go_ret;exact⟨rfl,rfl⟩
def Bj.put{w a g b n k c}(h:Bj w a (L_ g n b) c)(e:n=c.length) z:Bj (w.setCell (A_ g k) (.int .u8 z)) a (L_ g n b) (c.set k z)/\w.grownBy (w.setCell (A_ g k) (.int .u8 z)) (some g):=by subst e;obtain⟨f,d⟩:=World.ownsRow.stored h k (.int .u8 z);refine⟨?_,d⟩;unfold Bj;rw[List.length_set,List.map_set];exact f
def Bj.cellK{w a g b n k c}(h:Bj w a (L_ g n b) c)(d:n=c.length)(e:k<n):w.cell? (A_ g k)=some (.int .u8 (c.getD k 0))/\w.frozen? (A_ g k)=false:=by
 subst d;refine⟨?_,World.ownsRow.frozenAt h k⟩;rw[World.ownsRow.cellAt h k o_]
 grind
def Bj.alloc{w base v zs}(h:Bj w base v zs) o:Bj (w.alloc o) base v zs:=ra_ h o
def Zkp db b I d q c h a n f w (g:w.heap[db]? =some (.cells #[I_ (I:Nat),I_ d,L_ q h c] 396 (0,0)))(hB:Bj w b (L_ q h c) (Cd f h (a*d)))(hf:∀t,f t<=1)(H:∀i,i<d->f (a*d+i)=n/2^i%2)(aI:a*d+d<=8*h)(hr:a<=200)(hd:d<=6):C_ 331 #[.pointer (some ⟨db,0,none⟩),.int .i64 a,.int .i64 n] w λe w'=>e=.returned (.tuple #[])/\Bj w' b (.slice (some ⟨q,0,none⟩) h c) (Cd f h (a*d+d))/\Aa (λk=>k=q) w w':=by
 have c0:=cR_ 0 g;have c1:=cR_ 1 g;have aG:=(Qb g).1
 have a1:db≠q:=λe=>by
  obtain⟨a8,hc⟩:=Ad hB (k:=q) rfl
  grind
 have aA:_<=1200:=Nat.mul_le_mul hr hd;have a6:a*d=((a*d:Nat):Int):=s_;have a2:=x1_ H;have HF:=x1_ hf;have O:=x1_ g;have E:=x1_ hB;clear g hB hf H;generalize a*d=P at *;go_enter Tryz.func331,Tryz.ntmps331;go_wp2_with fail
 refine(Yc _ _ _).mono ?_;rintro e w1 ⟨rfl,rfl⟩;go_wp2_with fail
 refine(Yc _ _ _).mono ?_;rintro e w1 ⟨rfl,rfl⟩;go_wp2_with fail
 go_loopw [21] (λti wr=>∃k:Nat,ti=.int .i64 k/\k<=d/\Hid (Bj wr b (.slice (some ⟨q,0,none⟩) h c) (Cd f h (P+k))/\Aa (λx=>x=q) w wr)) (λti _=>d-(intOf ti).toNat)
 case atStart=>exact⟨0,rfl,qg_,(E.alloc _).alloc _,((Aa.refl _ _).alloc _).alloc _⟩
 case round=>
  clear E c0 c1;obtain⟨k,rfl,hk,M⟩:=hrel
  by_cases hkd:k<d
  ·have j:=M.2.at_ O a1;have c2:=cR_ 2 j;obtain⟨T,G⟩:=ex_ (P+k);obtain⟨J,W⟩:=ex_ (T/8);obtain⟨R,Y⟩:=ex_ (T%8);have U:J<h:=o_;obtain⟨l,D⟩:=M.1.cellK (k:=J) (by rw[Gp]) U;rw[Tw f _ U] at l;obtain⟨y,S⟩:=ex_ (Hd f (P+k) J);obtain⟨r,V⟩:=ex_ (n/2^k%2);have L:f T=r:=(by rw[G,a2 k hkd,V]);have C:y<256:=(by rw[S];exact fx HF _ _);have F:y<2^R:=(by rw[S,W,Y,<- G];exact fp HF T);have X:r<=1:=o_;have aE:R<8:=o_
   have aF:2^R<=128:=by
    have:(2:Nat)^R<=2^7:=Nat.pow_le_pow_right d_ o_
    simpa using this
   have a0:_<=1*2^R:=Nat.mul_le_mul_right _ X;have Z:Hd f (P+k+1) J=y+r*2^R:=by rw[S,W,Y,<- G,fm,L]
   have o:Hid ((Cd f h (P+k)).set J (y+r*2^R:Nat)=Cd f h (P+(k+1))):=by
    show _=_
    grind [Xm]
   have Q:_=y+r*_:=Zij F;have q1:P+k=(T:Int):=o_;have q2:(T:Int).tdiv 8=J:=w_;have q3:T/8=(J:Int):=o_;have q4:(T:Int).tmod 8=R:=w_;have q5:T%8=(R:Int):=o_
   have q6:bits BinOp.and IntKind.u8 (n/2^k%256) 1=r:=by
    have e:(n/2^k%256)=((n/2^k%256:Nat):Int):=s_;rw[e];have:=(Zcx (n/2^k%256) 1 o_ d_).1
    grind
   have q7:_=(T:Int):=Cb o_ o_;have q8:_=(J:Int):=Cb o_ o_;obtain⟨z,N⟩:=ex_ (r*2^R);have B:z<256:=o_
   have q9:IntKind.u8.wrap (r*2^R)=z:=by rw[Wf _ w_ w_];rw[N];simp
   obtain⟨u,hu⟩:=ex_ (y+z);have a3:bits BinOp.or IntKind.u8 y z=u:=(by rw[(Zcx y z C B).2,N,Q,hu,N]);rw[<- N,<- hu] at o;have aB:0<=(R:Int):=o_;have aH:(R:Int)<=8:=o_;clear N hu Q a0 F;rw[<- S] at l;have d1:wr.drew.cell? _=_:=l;have fq:wr.drew.frozen? _=_:=D;have aD:0<=(k:Int):=o_;have a5:k<(d:Int):=o_;have aC:0<=(J:Int):=o_;have a4:J<(h:Int):=o_;have bT:(T:Int)<=1300:=o_;have s:_:=M;have a7:=x1_ G.symm;clear j G W Y l D S V L Z M;go_upto_region 5 with fail;refine Al (λw'=>w'.cell? _=some _/\w'.cell? _=some _) 18 k_ ⟨c2,d1⟩ (λhHeld=>?_);refine Ah 0 ?_;refine Ah 1 ?_;refine Ah 2 ?_;refine Tx [8,9,16,17,18] 3 (v:=?_) ?_ ?_
   rotate_left
   ·intro w A;try obtain⟨_,_⟩:=A
    go_simp;try with_reducible rfl
   try simp only[Act.put,sA,sB,sC]
   refine Ah 4 ?_;refine Ah 5 ?_;refine Ah 6 ?_;refine Ah 7 ?_;refine Ah 8 ?_;refine Tx [16,17,18] 9 (v:=?_) ?_ ?_
   rotate_left
   ·intro w A;try obtain⟨_,_⟩:=A
    go_simp;try with_reducible rfl
   try simp only[Act.put,sA,sB,sC]
   refine Ah 10 ?_;refine Ah 11 ?_;refine Ah 12 ?_;refine Ah 13 ?_;refine Ah 14 ?_;refine Ah 15 ?_;refine Ah 16 ?_;refine Ah 17 ?_;refine Ai (i:=18) k_ rfl k_ (λKK hK=>?_);go_simp;refine hK _ _ ?_;clear hK KK;try simp only[Act.put,sA,sB,sC]
   refine Ak k_ ?_ _;have m:Hid (Bj (wr.setCell (A_ q J) (.int .u8 u)).drew b (L_ q h c) (Cd f h (P+(k+1)))/\Aa (λx=>x=q) w (wr.setCell (A_ q J) (.int .u8 u)).drew):=(by rw[<- o];exact⟨World.ownsRow.drew (s.1.put (by rw[Gp]) _).1,(s.2.setCell (p:=(A_ q J)) (λ_=>rfl) _).drew⟩);clear s hHeld c2 d1 fq q1 q2 q3 q4 q5 q6 q7 q8 q9 a3;refine rd_ ?_;exact⟨k+1,g_,o_,m⟩
  have a9:¬k<(d:Int):=o_;have m:Hid (Bj wr b (L_ q h c) (Cd f h (P+d))/\Aa (λx=>x=q) w wr):=w_;clear M;go_wp2;go_end0;exact⟨rfl,m.1,m.2⟩
def Tt(n:Nat)(f:n<=1000000) W:(Instr.makeSlice 66 (I_ n) (I_ n)).run Tryz.prog W=.ok (L_ W.heap.size n n) (W.alloc (.cells (madeCells #[.int .u8 0] n) 5)):=by obtain⟨e,a,d,b,c⟩:=info_parts Nc;have:=run_make (P:=Tryz.prog) W 66 5 e _ Tryz.underlying66 a d .i64 .i64 (n:Int) (n:Int) o_ o_ (by rw[c];omega) o_;rw[b] at this;rw[this,Int.toNat_natCast,Nat.mul_one];rfl
theorem Tr n (W:World) a (c:n<=1000000)(b:a<=W.heap.size):Bj (W.alloc (.cells (madeCells #[.int .u8 0] n) 5)) a (L_ W.heap.size n n) (List.replicate n 0):=by
 have:=World.ownsRow_lit (base:=a) (size:=1) (e:=5) W (madeCells #[.int .u8 0] n) n b m_ (by simp[madeCells]);rw[Qu] at this;unfold Bj
 simpa using this
def Dr(N:List Nat)(d t:Nat):Nat:=N.getD (t/d) 0/2^(t%d)%2
theorem Uj N d:∀t,Dr N d t<=1:=λt=>by unfold Dr;omega
def Zav N {d a i}(h:i<d):Dr N d (a*d+i)=N.getD a 0/2^i%2:=by
 unfold Dr;have b:(a*d+i)/d=a:=by rw[Nat.mul_comm,Nat.mul_add_div o_,Nat.div_eq_of_lt h,Nat.add_zero]
 grind [Nat.mul_comm,Nat.mul_add_mod,Nat.mod_eq_of_lt]
structure Zal(w:World)(base db q n d:Nat)(bs:List Int):Prop where
 blk:w.heap[db]? =some (.cells #[I_ n,I_ d,L_ q bs.length bs.length] 396 (0,0))
 row:Bj w base (L_ q bs.length bs.length) bs
def Ze5(w:World)(base:Nat)(v:Value)(n d:Nat)(bs:List Int):Prop:=∃db q,v=P_ db/\base<=db/\Zal w base db q n d bs
def zc va (n d m U:Nat) N w (Y:Ag w 0 (.slice va m U) (Av N))(X:N.length=m)(a8:m<=n)(hn:n<=200)(W:d<=6):C_ 301 #[.agg #[.int .i64 n,.int .i64 d],.slice va m U] w λe w'=>∃v,e=.returned v/\Ze5 w' w.heap.size v n d (Cd (Dr N d) ((n*d+7)/8) (m*d))/\Below w.heap.size w w':=by
 have V:=x2_ Y X;obtain⟨P,H⟩:=ex_ (n*d);have a3:P<=1200:=(by rw[H];exact Nat.mul_le_mul hn W);have a6:n*d=(P:Int):=(by rw[H];simp);obtain⟨b,s⟩:=ex_ ((P+7)/8);have G:Hid (b=_/\_/\_):=⟨by rw[s,H],H,s⟩;have q1:((P:Int)+7).tdiv 8=b:=w_;have q2:_=(P:Int):=Cb o_ o_;have q3:_=(P:Int)+7:=Cb o_ o_;have q4:_=(b:Int):=Cb o_ o_;have L:=Tt b o_;have a1:b<=151:=o_;rw[<- G.1];clear Y X H s;go_enter Tryz.func301,Tryz.ntmps301;go_upto_region 1 with fail;obtain⟨a,f⟩:=ex_ (w.alloc (.cells #[I_ n,I_ d] 379));rw[<- f];have A:a.heap.size=w.heap.size+1:=(by rw[f];simp);have d0:a.cell? (A_ w.heap.size 0)=some (I_ n):=by rw[f];simp[go_sem]
 have d1:a.cell? (A_ w.heap.size 1)=some (I_ d):=(by rw[f];simp[go_sem]);have S:Hid (E_ w a):=(by show Below _ _ _;rw[f];exact bA_);have o:w.heap.size<a.heap.size:=o_;have a4:=x1_ A;clear f A
 go_region_held3 (λw'=>w'.cell? (A_ w.heap.size 0)=some (I_ (n:Nat))/\w'.cell? (A_ w.heap.size 1)=some (I_ (d:Nat))) (exact⟨(Below.cell (B:=a.heap.size) (w:=a) (p:=(A_ w.heap.size 0)) c_ o).trans d0,(Below.cell (B:=a.heap.size) (w:=a) (p:=(A_ w.heap.size 1)) c_ o).trans d1⟩) (first|(go_at_call 299;refine(ZbU _ _ _).mono ?_;rintro e w1 ⟨rfl,rfl⟩)|(go_at_call 330;refine(Yc _ _ _).mono ?_;rintro e w1 ⟨rfl,rfl⟩))
 obtain⟨u,g⟩:=ex_ (((((a.alloc (.cells #[I_ n,I_ d] 379)).alloc (.cells #[I_ n,I_ d] 379)).alloc (.cells (madeCells #[.int .u8 0] b) 5)).alloc (.cells #[I_ n,I_ d,L_ (a.heap.size+1+1) b b] 396)).drew);rw[<- g];have aA:u.heap.size=a.heap.size+1+1+1+1:=by rw[g];simp
 have R:Hid (E_ w u):=(by show Below _ _ _;rw[g];exact(S.trans (((((bz_.alloc o_ _).alloc t_ _).alloc t_ _).alloc t_ _).drew)));have C:u.heap[a.heap.size+1+1+1]? =some (.cells #[I_ n,I_ d,L_ (a.heap.size+1+1) b b] 396 (0,0)):=by rw[g];have:=ha_ (((a.alloc (.cells #[I_ (n:Nat),I_ (d:Nat)] 379)).alloc (.cells #[I_ (n:Nat),I_ (d:Nat)] 379)).alloc (.cells (madeCells #[.int .u8 0] b) 5)) (.cells #[I_ (n:Nat),I_ (d:Nat),L_ (a.heap.size+1+1) b b] 396);rw[show(((a.alloc (.cells #[I_ (n:Nat),I_ (d:Nat)] 379)).alloc (.cells #[I_ (n:Nat),I_ (d:Nat)] 379)).alloc (.cells (madeCells #[.int .u8 0] b) 5)).heap.size=a.heap.size+1+1+1 by simp] at this;exact this
 have z:Bj u w.heap.size (L_ (a.heap.size+1+1) b b) (Cd (Dr N d) b 0):=(by rw[jm,g];have:=Tr b ((a.alloc (.cells #[I_ (n:Nat),I_ (d:Nat)] 379)).alloc (.cells #[I_ (n:Nat),I_ (d:Nat)] 379)) w.heap.size o_ t_;have h2:=(this.alloc (.cells #[I_ (n:Nat),I_ (d:Nat),L_ (a.heap.size+1+1) b b] 396));rw[show((a.alloc (.cells #[I_ (n:Nat),I_ (d:Nat)] 379)).alloc (.cells #[I_ (n:Nat),I_ (d:Nat)] 379)).heap.size=a.heap.size+1+1 by simp] at h2;exact h2);have M:=x1_ C;have E:=x1_ z;clear g C z d0 d1 L q1 q2 q3 q4;have a2:w.heap.size<=a.heap.size+1+1:=o_;have HQ:Hid (a.heap.size+1+1+1<u.heap.size/\a.heap.size+1+1+1≠a.heap.size+1+1):=⟨o_,o_⟩;generalize a.heap.size+1+1=q at *;go_wp2_with fail
 go_loopw [21] (λti wr=>∃k:Nat,ti=.int .i64 k/\k<=m/\Hid (Bj wr w.heap.size (.slice (some ⟨q,0,none⟩) b b) (Cd (Dr N d) b (k*d))/\Aa (λx=>x=q) u wr)) (λti _=>m-(intOf ti).toNat)
 case atStart=>exact⟨0,rfl,qg_,by rw[Nat.zero_mul];exact⟨E,Aa.refl _ _⟩⟩
 case round=>
  clear E;obtain⟨k,rfl,hk,r⟩:=hrel;have l:E_ w wr:=(by have t:=r.2;have F:=R.out;exact⟨t.os.trans F.os,t.tape.trans F.tape,t.output.trans F.output,Nat.le_trans F.size t.size,λx hx=>(t.block x o_ o_).trans (F.block x hx)⟩);have Q:=x1_ l;have c:=r.2.at_ M HQ.2;have Z:=x1_ c
  by_cases hkm:k<m
  ·obtain⟨qv,O,I,_,hc,_⟩:=V.1.atK (by rw[Aw];exact V.2) hkm;subst O;have a0:=(l.cell (p:=(A_ qv k)) I).trans hc;rw[Cv] at a0;have D:k*d+d=(k+1)*d:=w_;have J:(k+1)*d<=n*d:=Nat.mul_le_mul_right _ o_;have j:=x1_ (Zkp _ _ n d q _ _ k _ _ _ c r.1 (Uj N d) (λi hi=>Zav N hi) (by have:=G.out;omega) o_ W);rw[D] at j;generalize N.getD k 0=x at *;have a7:0<=(k:Int):=o_;have a5:k<(m:Int):=o_;have T:=x1_ r.2;clear hc D J r c l;go_wp2_with fail
   refine j.mono ?_;rintro e w5 ⟨rfl,y,t5⟩;have HF:=x2_ y (T.trans t5);clear y t5 j T;go_wp2;go_roundw;case rel=>grind
   case measure=>exact z_
  have a9:¬k<(m:Int):=o_;have HF:Hid (Zal wr w.heap.size (q+1) q n d (Cd (Dr N d) b (m*d))):=(by have:k=m:=o_;subst this;exact⟨by rw[Gp];exact c,by rw[Gp];exact r.1⟩);clear r c l;go_wp2;go_ret;exact⟨_,rfl,⟨_,_,rfl,o_,HF⟩,Q⟩
def nzL(N:List Nat):List Bool:=N.map (λx=>decide (x≠0))
def nzN(N:List Nat):Nat:=Dj (nzL N)
theorem Vm N:(nzL N).length=N.length:=by simp[nzL]
def Zbr{N k}(h:k<N.length):(nzL N).getD k false=decide (N.getD k 0≠0):=by simp[nzL,List.getD,h]
def Zbo f m c N w (l:Ag w 0 (.slice f m c) (Av N))(j:N.length=m)(y:m<=200):C_ 298 #[.slice f m c] w λe w'=>e=.returned (.int .i64 (nzN N:Nat))/\w'=w:=by
 have b:=x2_ l j;go_enter Tryz.func298,Tryz.ntmps298;go_wp2_with fail
 go_loop [8,3] (λti tn=>∃k:Nat,ti=.int .i64 k/\k<=m/\tn=.int .i64 (Dj ((nzL N).take k):Nat)/\Dj ((nzL N).take k)<=k) (λti _=>m-(intOf ti).toNat)
 case atStart=>exact⟨0,rfl,qg_,rfl,qa_⟩
 case round=>
  obtain⟨k,rfl,v,rfl,h⟩:=hrel
  by_cases hkm:k<m
  ·obtain⟨q,rfl,g,_,i,_⟩:=b.1.atK (by rw[Aw];exact b.2) hkm;rw[Cv] at i;have d:=My ((nzL N).take k) ((nzL N).getD k false);rw[<- Oe _ (by rw[Vm];have:=b.2;omega),Zbr (by have:=b.2;omega)] at d;have u:=x1_ d;generalize Dj ((nzL N).take k)=t,N.getD k 0=x at *;have p:0<=(k:Int):=o_;have n:k<(m:Int):=o_
   by_cases hx:x=0
   ·subst hx;have a:Hid (Dj ((nzL N).take (k+1))=t):=w_;refine rd_ ?_;exact⟨k+1,g_,o_,by rw[a],by rw[a];omega⟩
   have o:((x:Int) !=0)=true:=w_;have a:Hid (Dj ((nzL N).take (k+1))=t+1):=w_;refine rd_ ?_;exact⟨k+1,g_,o_,by rw[a];go_num,by rw[a];omega⟩
  have r:¬k<(m:Int):=o_;have s:Hid (Dj ((nzL N).take k)=nzN N):=(by show _=_;rw[List.take_of_length_le (by rw[Vm];have:=b.2;omega)];rfl);generalize Dj ((nzL N).take k)=t at *;go_wp2;go_ret;exact⟨by rw[s];rfl,rfl⟩
def Zcw(g:Nat) w (c:g<=1000):C_ 282 #[.int .i64 g] w λe w'=>e=.returned (.int .i64 (Lib.bitLen g:Nat))/\w'=w:=by
 have a:Hid (C_ 150 #[.int .u64 g] w λe w'=>e=.returned (.int .i64 (Lib.bitLen g:Nat))/\w'=w):=(by have:=Tryz.bits_Len (g:Nat) w o_ o_;rw[Int.toNat_natCast] at this;exact this);generalize Lib.bitLen g=b at *;go_enter Tryz.func282,Tryz.ntmps282;go_wp2_with fail
 refine a.mono ?_;rintro e d ⟨rfl,rfl⟩;go_wp2;go_ret;exact⟨rfl,rfl⟩
def Fu(N:List Nat):Nat->List (Nat×Nat)
 |0=>[]
 |k+1=>Fu N k++(if N.getD k 0=0 then[] else[(k,N.getD k 0)])
def Vy N:∀k,(Fu N k).length<=k
 |0=>by simp[Fu]
 | k+1=>by
  have:=Vy N k;simp only[Fu]
  grind
def Pu(p:Nat×Nat):List Value:=[I_ p.1,I_ p.2]
def Qk:List (Nat×Nat)->List Value
  |[]=>[]
  |p::L=>Pu p++Qk L
def yh a b:Qk (a++b)=Qk a++Qk b:=by
 induction a with
 |nil=>rfl
 |cons e L ih=>simp[Qk,ih]
def Zj1:(Tryz.prog.info? 405).map (λi=>(i.zero,i.size,i.bytes))=some (some (.agg #[I_ 0,I_ 0]),2,16):=k_
def Uf(w:World)(base:Nat)(v:Value)(L:List (Nat×Nat)):Prop:=w.ownsRow base 405 2 v L.length (Qk L)
def Uf.more{w a v L x}(h:w.ownsRow a 405 2 v (L.length+1) (Qk L++Pu x)):Uf w a v (L++[x]):=by
 unfold Uf;rw[yh,Qe]
 simpa [Qk] using h
def Uf.shape{w b v L}(h:Uf w b v L):∃a c,v=.slice a L.length c:=by
 rcases h.2 with⟨rfl,h0⟩|⟨q,p,cur,rfl,_⟩
 ·grind
 grind
structure vt(w:World)(base sb n d:Nat)(vc)(L):Prop where
 blk:w.heap[sb]? =some (.cells #[I_ n,I_ d,vc] 403 (0,0))
 row:Uf w base vc L
def Zcj(w:World)(base:Nat)(v:Value)(n d:Nat)(L:List (Nat×Nat)):Prop:=∃sb vc,v=P_ sb/\base<=sb/\vt w base sb n d vc L
def qd X (n d m S:Nat) N w (hv:Ag w 0 (.slice X m S) (Av N))(hN:N.length=m)(hm:m<=200):C_ 300 #[.agg #[.int .i64 n,.int .i64 d],.slice X m S] w λe w'=>∃v,e=.returned v/\Zcj w' w.heap.size v n d (Fu N m)/\Below w.heap.size w w':=by
 have U:=x2_ hv hN;obtain⟨i0,s,O,E,I⟩:=info_parts Zj1;obtain⟨j,f⟩:=ex_ ((w.alloc (.cells #[I_ n,I_ d] 379)).alloc (.cells #[I_ n,I_ d,.slice none 0 0] 403));have z:Hid (E_ w j):=(by show Below _ _ _;rw[f];exact bA_.alloc s_ _);have a6:j.heap.size=w.heap.size+1+1:=by rw[f];simp
 have R:Hid (j.heap[w.heap.size+1]? =some (.cells #[I_ n,I_ d,.slice none 0 0] 403 (0,0))):=by
  show _=_
  grind [heap_alloc_new]
 go_enter Tryz.func300,Tryz.ntmps300;go_wp2_with fail
 go_loopw [13] (λti wr=>∃(k:Nat) (Y:Value),ti=.int .i64 k/\k<=m/\Hid (vt wr (w.heap.size+1+1) (w.heap.size+1) n d Y (Fu N k)/\Aa (λx=>x=w.heap.size+1) j wr)) (λti _=>m-(intOf ti).toNat)
 case atStart=>
  refine⟨0,.slice none 0 0,rfl,qg_,?_,?_⟩;rw[<- f];exact⟨R,rn_⟩;rw[<- f];exact Aa.refl _ _
 case round=>
  obtain⟨k,Y,rfl,hk,c⟩:=hrel;have a7:=c.2.size
  by_cases hkm:k<m
  ·obtain⟨C,J,F,_,hc,_⟩:=U.1.atK (by rw[Aw];exact U.2) hkm;subst J;have a0:wr.cell? (A_ C k)=some (I_ (N.getD k 0:Nat)):=by rw[Cv] at hc;rw[cb_ (a:=(A_ C k)) ((c.2.block C o_ o_).trans (z.block C F))];exact hc
   have P:Hid (Fu N (k+1)=_++_):=rfl;obtain⟨ca,Z,G⟩:=c.1.row.shape;subst G;have c2:=cR_ 2 c.1.blk;have a3:=Vy N k;generalize N.getD k 0=x at *;have a4:0<=(k:Int):=o_;have a1:k<(m:Int):=o_
   by_cases hx:x=0
   ·subst hx;have A:Hid (vt wr (w.heap.size+1+1) (w.heap.size+1) n d (.slice ca (Fu N k).length Z) (Fu N (k+1))/\Aa (λx=>x=w.heap.size+1) j wr):=(by rw[P,if_pos rfl,List.append_nil];exact c);go_wp2
    grind [intOf]
   have a2:((x:Int) !=0)=true:=w_;have H:Hid (Fu N (k+1)=Fu N k++[(k,x)]):=w_;have Q:=(Qb c.1.blk).1;have i:Hid _:=c.1.row;generalize hgl:(Fu N k).length=sl at *;go_wp2_with (at_builtin;refine Ab rfl (.tmp 24) _ _ rfl _ 405 i0 _ 2 16 Tryz.underlying401 s O E I rfl d_ _ sl _ rfl (i.alloc _) _ 1 1 [I_ (k:Nat),I_ (x:Nat)] rfl rfl ?_ ?_ ?_ ?_ ?_ ?_ ?_)
   exact Am _ _ _
   ·intro u T;simp at T;rcases T with rfl|rfl<;>rfl
   decide;unfold maxLen;omega;omega;simp;omega;intro B D H4;obtain⟨r4,V,d4,_,_⟩:=H4;have b:D.heap[w.heap.size+1]? =some (.cells #[I_ n,I_ d,.slice ca sl Z] 403 (0,0)):=(by rw[V.block (w.heap.size+1) t_ (λe=>Au i e.symm c.1.blk d_ rfl)];have:=c.1.blk;exact(hc_ Q).trans this);have c4:=cR_ 2 b;have f4:=fq_ 2 _ _ b;have l:Uf D (w.heap.size+1+1) B (Fu N (k+1)):=(by rw[H];refine Uf.more ?_;rw[hgl];exact r4);obtain⟨a5,c5,o⟩:=l.shape
   have A:Hid (vt (D.setCell (A_ (w.heap.size+1) 2) B) (w.heap.size+1+1) (w.heap.size+1) n d B (Fu N (k+1))/\Aa (λx=>x=w.heap.size+1) j (D.setCell (A_ (w.heap.size+1) 2) B)):=by refine⟨⟨ht_ 2 _ _ _ b,As l b d_⟩,?_⟩;have t1:Aa _ j (wr.alloc (.cells #[I_ (k:_),I_ (x:Nat)] 405)):=c.2.alloc _;have t2:=t1.grown V (λq hq hlt2=>by have:=(rl_ i q hq).1;omega);exact t2.setCell (p:=(A_ (w.heap.size+1) 2)) (λ_=>rfl) _
   rw[o] at A;subst o;generalize (Fu N (k+1)).length=s5 at *;go_wp2;go_roundw;case rel=>grind
   case measure=>exact z_
  have a8:¬k<(m:Int):=o_
  have A:Hid (Zcj wr w.heap.size (P_ (w.heap.size+1)) n d (Fu N m)/\E_ w wr):=by
   have:k=m:=o_;subst this;have t:=c.2;have y:=z.out;refine⟨⟨_,_,rfl,o_,c.1.blk,?_⟩,⟨t.os.trans y.os,t.tape.trans y.tape,t.output.trans y.output,Nat.le_trans y.size t.size,λx hx=>(t.block x o_ o_).trans (y.block x hx)⟩⟩;have W:=c.1.row;refine⟨W.1,?_⟩
   rcases W.2 with hn|⟨g,L,M,e,hg,r⟩
   exact .inl hn;exact .inr ⟨g,L,M,e,o_,r⟩
  go_wp2;go_ret;exact⟨_,rfl,A.1,A.2⟩
def Zcv:∀g:Fin 64,Lib.bitLen g.val<=6:=by decide+kernel
def Re{g}(h:g<64):Lib.bitLen g<=6:=Zcv ⟨g,h⟩
def wj:∀g:Fin 64,g.val<2^Lib.bitLen g.val:=by decide+kernel
def rq{g}(h:g<64):g<2^Lib.bitLen g:=wj ⟨g,h⟩
def Ms(w:World)(base:Nat)(v:Value)(N:List Nat)(g:Nat):Prop:=
 (4*nzN N<N.length/\∃p,v=.iface 380 p/\Zcj w base p N.length (Lib.bitLen g) (Fu N N.length))∨
 (¬4*nzN N<N.length/\∃p,v=.iface 382 p/\Ze5 w base p N.length (Lib.bitLen g) (Cd (Dr N (Lib.bitLen g)) ((N.length*Lib.bitLen g+7)/8) (N.length*Lib.bitLen g)))
def Zfk X (m T g:Nat) N w (H:Ag w 0 (.slice X m T) (Av N))(G:N.length=m)(M:m<=200)(L:g<64):C_ 257 #[.slice X m T,.int .i64 g] w λe w'=>∃v,e=.returned v/\Ms w' w.heap.size v N g/\Below w.heap.size w w':=by
 have P:=Re L;have y:=x1_ (Zcw g w o_);have a1:nzN N<=m:=(by grind [Rj,Vm,nzN]);have A:=x1_ (λW hW=>Zbo _ m _ N W (H.below hW) G M);have u:=x1_ (λW hW=>qd _ m (Lib.bitLen g) m _ N W (H.below hW) G M);have l:=x1_ (λW hW=>zc _ m _ m _ N W (H.below hW) G qa_ M P)
 have i:Hid (∀W v,((4*nzN N<m/\∃p,v=.iface 380 p/\Zcj W w.heap.size p m (Lib.bitLen g) (Fu N m))∨(¬4*nzN N<m/\∃p,v=.iface 382 p/\Ze5 W w.heap.size p m (Lib.bitLen g) (Cd (Dr N (Lib.bitLen g)) ((m*Lib.bitLen g+7)/8) (m*Lib.bitLen g))))->Ms W w.heap.size v N g):=λW v h=>by
  unfold Ms
  grind
 clear H G;generalize Lib.bitLen g=d,nzN N=z at *;have b1:4*(z:Int)<=800:=o_;have q1:_=4*(z:Int):=Cb o_ o_;go_enter Tryz.func257,Tryz.ntmps257;go_wp2_with fail
 refine y.mono ?_;rintro e U ⟨rfl,C⟩;obtain rfl:=C.symm;clear C;go_upto_region 2 with fail;obtain⟨f,a⟩:=ex_ (w.alloc (.cells #[I_ m,I_ d] 379));rw[<- a];have J:f.heap.size=w.heap.size+1:=(by rw[a];simp);have Z:f.cell? (A_ w.heap.size 0)=some (I_ m):=(by rw[a];simp[go_sem]);have Y:f.cell? (A_ w.heap.size 1)=some (I_ d):=(by rw[a];simp[go_sem]);have x:Hid (E_ w f):=(by show Below _ _ _;rw[a];exact bA_);have j:w.heap.size<f.heap.size:=o_;clear a J
 go_region_held3 (λw'=>w'.cell? (A_ w.heap.size 0)=some (I_ (m:Nat))/\w'.cell? (A_ w.heap.size 1)=some (I_ (d:Nat))) (exact⟨(Below.cell (B:=f.heap.size) (w:=f) (p:=(A_ w.heap.size 0)) (by repeat(first|with_reducible exact bz_|with_reducible apply Below.drew|(refine Below.alloc ?_ o_ _))) j).trans Z,(Below.cell (B:=f.heap.size) (w:=f) (p:=(A_ w.heap.size 1)) (by repeat(first|with_reducible exact bz_|with_reducible apply Below.drew|(refine Below.alloc ?_ o_ _))) j).trans Y⟩) (first|(go_at_call 298;refine(A _ x.drew).mono ?_;rintro e U ⟨rfl,rfl⟩)|(go_at_call 299;refine(ZbU _ _ _).mono ?_;rintro e U ⟨rfl,rfl⟩))
 generalize hw3:(f.alloc (.cells #[I_ (m:Nat),I_ (d:Nat)] 379)).drew=w3;have b:Hid (E_ w w3):=(by show Below _ _ _;rw[<- hw3];exact(x.alloc o_ _).drew);have a0:w3.heap.size=f.heap.size+1:=(by rw[<- hw3];simp);have e0:w3.cell? (A_ w.heap.size 0)=some (I_ m):=w_;have e1:w3.cell? (A_ w.heap.size 1)=some (I_ d):=w_;have k:=b.size;clear hw3 Z Y x A y
 by_cases hc:4*z<m
 ·have O:4*z<(m:Int):=o_;go_wp2_with fail
  refine(u _ b).mono ?_;rintro e E ⟨v4,rfl,n,c⟩;obtain⟨V,I,rfl,R,t⟩:=n
  have F:Hid (Ms E w.heap.size (.iface 380 (P_ V)) N g/\E_ w E):=by
   refine⟨i _ _ (.inl ⟨hc,_,rfl,V,I,rfl,o_,t.blk,?_⟩),b.trans (c.mono k)⟩;have D:=t.row;refine⟨D.1,?_⟩
   rcases D.2 with Q|⟨g,o,s,e,L,r⟩
   exact .inl Q;exact .inr ⟨g,o,s,e,o_,r⟩
  clear R t c u l i;go_wp2;go_ret;exact⟨_,rfl,F.1,F.2⟩
 have O:¬4*z<(m:Int):=o_;go_wp2_with fail
 refine(l _ b).mono ?_;rintro e E ⟨v4,rfl,n,c⟩;obtain⟨S,q,rfl,R,t⟩:=n
 have F:Hid (Ms E w.heap.size (.iface 382 (P_ S)) N g/\E_ w E):=by
  refine⟨i _ _ (.inr ⟨hc,_,rfl,S,q,rfl,o_,t.blk,?_⟩),b.trans (c.mono k)⟩;have D:=t.row;refine⟨D.1,?_⟩
  rcases D.2 with Q|⟨g,o,s,e,L,r⟩
  exact .inl Q;exact .inr ⟨g,o,s,e,o_,r⟩
 clear R t c u l i;go_wp2;go_ret;exact⟨_,rfl,F.1,F.2⟩
structure XS where
 row:Nat
 f:Nat
 bin:Nat
structure BS where
 fs:List Nat
 N:List Nat
 g:Nat
structure Zh where
 ks:List KS
 bs:List BS
 xs:List XS
def Dn(x:XS):List Value:=[I_ x.row,I_ x.f,I_ x.bin]
def Io:List XS->List Value
 |[]=>[]
 |x::L=>Dn x++Io L
theorem yj a b:Io (a++b)=Io a++Io b:=by
 induction a with
 |nil=>rfl
 |cons e L ih=>simp[Io,ih]
def se L:(Io L).length=L.length*3:=by
 induction L with
 |nil=>rfl
 |cons e L ih=>simp[Io,Dn,ih];omega
def ZjO:(Tryz.prog.info? 184).map (λi=>(i.zero,i.size,i.bytes))=some (some (.agg #[I_ 0,I_ 0,I_ 0]),3,24):=k_
def ZjM:(Tryz.prog.info? 163).map (λi=>(i.zero,i.size,i.bytes))=some (some (.agg #[.slice none 0 0,.nilIface]),2,40):=k_
def Mh(w:World)(base:Nat)(v:Value)(L:List XS):Prop:=w.ownsRow base 184 3 v L.length (Io L)
def Mh.more{w a v L x}(h:w.ownsRow a 184 3 v (L.length+1) (Io L++Dn x)):Mh w a v (L++[x]):=by grind [Mh,yj,Io]
def Mh.shape{w b v L}(h:Mh w b v L):∃a c,v=.slice a L.length c:=by
 rcases h.2 with⟨rfl,h0⟩|⟨q,p,cur,rfl,_⟩
 ·grind
 grind
def ay(S:Nat->Prop)(w:World):Prop:=∀k cur ty,w.heap[k]? =some (.cells cur ty (0,0))->S k->ty=168∨ty=163∨ty=184
def ay.row{S w}(h:ay S w){base e size n:Nat}{v xs}(hr:w.ownsRow base e size v n xs)(h1:e≠168)(h2:e≠163)(h3:e≠184):∀k,v.ownBlock=some k->¬S k:=λk hk hs=>by
 obtain⟨cur,hc⟩:=Ad hr hk
 rcases h k cur e hc hs with e1|e1|e1
 exact h1 e1;exact h2 e1;exact h3 e1
def ay.at{S w}(h:ay S w){k ty:Nat}{cur}(hc:w.heap[k]? =some (.cells cur ty (0,0)))(h1:ty≠168)(h2:ty≠163)(h3:ty≠184):¬S k:=λhs=>by
 rcases h k cur ty hc hs with e1|e1|e1
 exact h1 e1;exact h2 e1;exact h3 e1
def Ze5.touch{S w w' a v n d f}(h:Ze5 w a v n d f)(t:Aa S w w')(c:ay S w):Ze5 w' a v n d f:=by obtain⟨g,q,e,i,b⟩:=h;exact⟨g,q,e,i,t.at_ b.blk (c.at b.blk d_ d_ d_),t.row b.row (c.row b.row d_ d_ d_)⟩
def Zcj.touch{S w w' a v n d L}(h:Zcj w a v n d L)(t:Aa S w w')(c:ay S w):Zcj w' a v n d L:=by obtain⟨f,q,e,g,b⟩:=h;exact⟨f,q,e,g,t.at_ b.blk (c.at b.blk d_ d_ d_),t.row b.row (c.row b.row d_ d_ d_)⟩
def Ms.touch{S w w' a v N g}(h:Ms w a v N g)(t:Aa S w w')(b:ay S w):Ms w' a v N g:=by
 rcases h with⟨h1,p,e,h2⟩|⟨h1,p,e,h2⟩
 exact .inl ⟨h1,p,e,h2.touch t b⟩;exact .inr ⟨h1,p,e,h2.touch t b⟩
def ay.none w:ay (λ_=>False) w:=λ_ _ _ _ h=>h.elim
def Ms.below{w w' base v N g}(h:Ms w base v N g)(hb:Below w.heap.size w w'):Ms w' base v N g:=h.touch (Aa.of_below hb) (ay.none w)
def Ms.mono{w a c v N g}(h:Ms w a v N g)(b:c<=a):Ms w c v N g:=by
 rcases h with⟨h1,p,e,sb,vc,e2,hb,hX⟩|⟨h1,p,e,db,q,e2,hb,hX⟩
 exact .inl ⟨h1,p,e,sb,vc,e2,o_,hX.blk,Dt hX.row b⟩;exact .inr ⟨h1,p,e,db,q,e2,o_,hX.blk,Dt hX.row b⟩
def Ms.iface{w a v N g}(h:Ms w a v N g):∃t p,v=.iface t (P_ p):=by
 rcases h with⟨_,p,e,sb,vc,e2,_⟩|⟨_,p,e,db,q,e2,_⟩
 ·grind
 grind
def Dx:BS:=⟨[],[],0⟩
def Mn:List (Value×Value)->List Value
  |[]=>[]
  |v::L=>[v.1,v.2]++Mn L
def pe a b:Mn (a++b)=Mn a++Mn b:=by
 induction a with
 |nil=>rfl
 |cons e L ih=>simp[Mn,ih]
structure Sy(base)(w:World)(vB)(vs)(Bs:List BS):Prop where
 row:w.ownsRow 0 163 2 vB Bs.length (Mn vs)
 len:vs.length=Bs.length
 each:∀i,i<Bs.length->Ag w base (vs.getD i Oi).1 (Av (Bs.getD i Dx).fs)/\Ms w base (vs.getD i Oi).2 (Bs.getD i Dx).N (Bs.getD i Dx).g
def Sy.mono{w base b2 vB vs Bs}(h:Sy base w vB vs Bs)(hb:b2<=base):Sy b2 w vB vs Bs:=⟨h.row,h.len,λi hi=>⟨Dt (h.each i hi).1 hb,(h.each i hi).2.mono hb⟩⟩
abbrev ZlI(w:World)(vB:Value)(vs:List (Value×Value))(Bs:List BS):Prop:=Sy 0 w vB vs Bs
def jx(off:Nat)(O:List Bool)(B N:List Nat)(r:Nat):Nat:=if O.getD r false=true/\N.getD r 0=0 then off+B.getD r 0 else N.getD r 0
def Zgc(f:Nat)(O:List Bool)(B N:List Nat)(r:Nat):List XS:=if O.getD r false=true/\N.getD r 0≠0 then[⟨r,f,B.getD r 0⟩] else[]
def Hv(off:Nat)(O:List Bool)(B N:List Nat)(k:Nat):List Nat:=(List.range k).map (jx off O B N)++N.drop k
def In(f:Nat)(O:List Bool)(B N:List Nat):Nat->List XS
 |0=>[]
 |k+1=>In f O B N k++Zgc f O B N k
def jq a O B N {k}(h:k<=N.length):(Hv a O B N k).length=N.length:=by simp[Hv];omega
def Zf0 a O B N:Hv a O B N 0=N:=by simp[Hv]
theorem ZeV a O B N {k}:(Hv a O B N k).getD k 0=N.getD k 0:=by simp[Hv,List.getD,List.getElem?_append_right]
def ZbB a O B N {k}(h:k<N.length):(Hv a O B N k).set k (jx a O B N k)=Hv a O B N (k+1):=by unfold Hv;rw[List.drop_eq_getElem_cons h,List.set_append_right _ _ s_,List.length_map,List.length_range,Nat.sub_self,List.set_cons_zero,List.range_succ,List.map_append,List.append_assoc];rfl
def ZfZ a O B N {k}(h:k<N.length)(e:jx a O B N k=N.getD k 0):Hv a O B N (k+1)=Hv a O B N k:=by
 rw[<- ZbB a O B N h,e];apply List.ext_getElem;simp
 grind [ZeV]
theorem Vr f O B N:∀k,(In f O B N k).length<=k
 |0=>by simp[In]
 | k+1=>by
  have:=Vr f O B N k
  grind [In,Zgc]
structure CS where
 N:List Nat
 xs:List XS
 off:Nat
def Ap(Ks:List KS)(Os:List (List Bool))(Bb:List (List Nat))(n:Nat)(s:CS)(f:Nat):CS:=
 ⟨Hv s.off (Os.getD f []) (Bb.getD f []) s.N n,s.xs++In f (Os.getD f []) (Bb.getD f []) s.N n,s.off+(Ks.getD f Ay).many⟩
def Ij(Ks:List KS)(Os:List (List Bool))(Bb:List (List Nat))(n:Nat)(xs:List XS)(fs:List Nat):CS:=fs.foldl (Ap Ks Os Bb n) ⟨List.replicate n 0,xs,1⟩
def Js(Os:List (List Bool))(Bb:List (List Nat))(n:Nat)(D:Zh)(G:GS):Zh:=
 ⟨D.ks,D.bs++[⟨G.fs,(Ij D.ks Os Bb n D.xs G.fs).N,(Ij D.ks Os Bb n D.xs G.fs).off-1⟩],(Ij D.ks Os Bb n D.xs G.fs).xs⟩
def Ph:ES:=⟨false,[],[]⟩
def Sg:Value×Value×Value:=(.slice none 0 0,.slice none 0 0,.slice none 0 0)
def Ka(e:ES)(v:Value×Value×Value):List Value:=[.bool e.wd,v.1,v.2.1,v.2.2]
def Ld:List ES->List (Value×Value×Value)->List Value
 |[],_=>[]
 |_::_,[]=>[]
 |k::Ks,v::vs=>Ka k v++Ld Ks vs
def gw:∀(Ks:List ES) (vs:List (Value×Value×Value)),vs.length=Ks.length->∀i,i<Ks.length->∀c,c<4->(Ld Ks vs)[i*4+c]? =(Ka (Ks.getD i Ph) (vs.getD i Sg))[c]?
 |[],_,_,i,h=>by simp at h
 |k::Ks,[],h,_,_=>by simp at h
 |k::Ks,v::vs,_,0,_=>λc hc=>by grind [Ld,Ka]
 |k::Ks,v::vs,h,i+1,hi=>λc hc=>by simp only[Ld];rw[List.getElem?_append_right (by simp[Ka];omega),show(i+1)*4+c-(Ka k v).length=i*4+c by simp[Ka];omega];exact gw _ _ (by simpa using h) i (by simpa using hi) c hc
structure Ub(base)(w:World)(vF)(vs)(es)(Bb:List (List Nat)):Prop where
 row:w.ownsRow 0 266 4 vF es.length (Ld es vs)
 len:vs.length=es.length
 each:∀i,i<es.length->Ag w base (vs.getD i Sg).1 (es.getD i Ph).bs/\Cc w base (vs.getD i Sg).2.1 (es.getD i Ph).ww/\Ag w 0 (vs.getD i Sg).2.2 (Av (Bb.getD i []))
abbrev Zmd(w:World)(vF:Value)(vs:List (Value×Value×Value))(es:List ES)(Bb:List (List Nat)):Prop:=Ub 0 w vF vs es Bb
def Ub.mono{w base b2 vF vs es Bb}(h:Ub base w vF vs es Bb)(hb:b2<=base):Ub b2 w vF vs es Bb:=⟨h.row,h.len,λi hi=>⟨Dt (h.each i hi).1 hb,Dt (h.each i hi).2.1 hb,(h.each i hi).2.2⟩⟩
def Ub.touch{S w w' base vF vs es Bb}(h:Ub base w vF vs es Bb)(t:Aa S w w')(hs:ay S w):Ub base w' vF vs es Bb:=
 ⟨t.row h.row (hs.row h.row d_ d_ d_),h.len,λi hi=>⟨t.row (h.each i hi).1 (hs.row (h.each i hi).1 d_ d_ d_),t.row (h.each i hi).2.1 (hs.row (h.each i hi).2.1 d_ d_ d_),t.row (h.each i hi).2.2 (hs.row (h.each i hi).2.2 d_ d_ d_)⟩⟩
def Ub.below{w w' base vF vs es Bb}(h:Ub base w vF vs es Bb)(hb:Below w.heap.size w w'):Ub base w' vF vs es Bb:=h.touch (Aa.of_below hb) (ay.none w)
def Ub.cells{w b q n c d f k}(h:Ub b w (L_ q n c) d f k){i}(j:i<f.length):q<w.heap.size/\w.cell? (A_ q (i*4))=some (.bool (f.getD i Ph).wd)/\w.cell? (A_ q (i*4+1))=some (d.getD i Sg).1/\w.cell? (A_ q (i*4+2))=some (d.getD i Sg).2.1/\w.cell? (A_ q (i*4+3))=some (d.getD i Sg).2.2:=by
 have l:=h.row
 rcases h.row.2 with⟨_,h0⟩|⟨g,cap,cur,e,hb,hh,hnc,_⟩
 omega;injection e with e1 e2 e3;injection e1 with e1;injection e1 with e1 _;subst e1 e2
 have a:∀c u,c<4->(Ka (f.getD i Ph) (d.getD i Sg))[c]? =some u->w.cell? (A_ q (i*4+c))=some u:=λc u hc hu=>by rw[World.ownsRow.cellAt l (i*4+c) o_];exact(gw _ _ h.len i j c hc).trans hu
 exact⟨(Qb hh).1,a 0 _ o_ rfl,a 1 _ o_ rfl,a 2 _ o_ rfl,a 3 _ o_ rfl⟩
def Mv.touchS{S w w' base vK vs Ks}(h:Mv base w vK vs Ks)(t:Aa S w w')(hs:ay S w):Mv base w' vK vs Ks:=
 h.touch t (λk cur ty hk hty=>hs.at hk w_ w_ w_)
def Ho.touchS{S w w' vO vs Os}(h:Ho w vO vs Os)(t:Aa S w w')(hs:ay S w):Ho w' vO vs Os:=
 h.touch t (λk cur ty hk hty=>hs.at hk w_ w_ w_)
structure Ye(base)(w:World)(db:Nat)(vK vB vX)(bvs)(bs)(xs):Prop where
 blk:w.heap[db]? =some (.cells #[vK,vB,vX] 168 (0,0))
 bn:Sy base w vB bvs bs
 xn:Mh w 0 vX xs
abbrev DsX(w:World)(db:Nat)(vK vB vX:Value)(bvs:List (Value×Value))(bs:List BS)(xs:List XS):Prop:=Ye 0 w db vK vB vX bvs bs xs
def Ye.mono{w base b2 db vK vB vX bvs bs xs}(h:Ye base w db vK vB vX bvs bs xs)(hb:b2<=base):Ye b2 w db vK vB vX bvs bs xs:=⟨h.blk,h.bn.mono hb,h.xn⟩
def DsS(db:Nat)(vB vX:Value):Nat->Prop:=λk=>k=db∨vB.ownBlock=some k∨vX.ownBlock=some k
def Ye.sty{w base db vK vB vX bvs bs xs}(h:Ye base w db vK vB vX bvs bs xs):ay (DsS db vB vX) w:=λk cur ty hk hs=>by
 rcases hs with e|e|e
 ·subst e;rw[h.blk] at hk
  grind
 ·obtain⟨c2,hc⟩:=Ad h.bn.row e
  grind
 obtain⟨c2,hc⟩:=Ad h.xn e
 grind
def Sy.touch{S w w' base vB vs Bs}(h:Sy base w vB vs Bs)(t:Aa S w w')(hr:∀k,vB.ownBlock=some k->¬S k)(hs:ay S w):Sy base w' vB vs Bs:=
 ⟨t.row h.row hr,h.len,λi hi=>⟨t.row (h.each i hi).1 (hs.row (h.each i hi).1 d_ d_ d_),(h.each i hi).2.touch t hs⟩⟩
def Sy.below{w w' base vB vs Bs}(h:Sy base w vB vs Bs)(hb:Below w.heap.size w w'):Sy base w' vB vs Bs:=h.touch (S:=λ_=>False) (Aa.of_below hb) (λ_ _=>id) (ay.none w)
def Ye.below{w w' base db vK vB vX bvs bs xs}(h:Ye base w db vK vB vX bvs bs xs)(hb:Below w.heap.size w w'):Ye base w' db vK vB vX bvs bs xs:=
 ⟨(hb.block db (Qb h.blk).1).trans h.blk,h.bn.below hb,(Aa.of_below (S:=λ_=>False) hb).row h.xn (λ_ _=>id)⟩
def Ye.more{w g b d s r o vX' l q v j}(h:Ye b w d s r o l q v)(x:w.grownBy g o.ownBlock)(z:Mh g 0 vX' j):Ye b (g.setCell (A_ d 2) vX') d s r vX' l q j:=by
 have t:=(Aa.refl _ w).grown x (λk hk _=>hk);have m:ay _ w:=λk cur ty hk hs=>h.sty k _ _ hk (.inr (.inr hs))
 have a:=t.at_ h.blk (λe=>by
  obtain⟨c,A⟩:=Ad h.xn e;have:=h.blk
  grind)
 have f:=h.bn.touch t (λk hk hk2=>by
  obtain⟨c,A⟩:=Ad h.xn hk2;obtain⟨u,n⟩:=Ad h.bn.row hk
  grind) m
 have y:=(Aa.refl (λk=>k=d) g).setCell (p:=(A_ d 2)) (λ_=>rfl) vX'
 have i:ay (λk=>k=d) g:=λk cur ty hk hs=>w_
 refine⟨ht_ 2 _ _ _ a,f.touch y (λk hk e=>?_) i,As z a d_⟩;subst e;obtain⟨u,n⟩:=Ad f.row hk
 grind
def Zib N (k x:Nat):(Av N).set k x=Av (N.set k x):=by simp[Av,List.map_set]
def Px Ks Os Bb n:∀(fs:List Nat) s,s.off<=(fs.foldl (Ap Ks Os Bb n) s).off
 |[],s=>qa_
 | f::fs,s=>by
  have:=Px Ks Os Bb n fs (Ap Ks Os Bb n s f)
  grind [Ap]
def Lv c b a n:∀(fs:List Nat) s,s.N.length=n->(fs.foldl (Ap c b a n) s).N.length=n/\(fs.foldl (Ap c b a n) s).xs.length<=s.xs.length+fs.length*n
 |[],s,h=>⟨h,s_⟩
 | f ::fs,s,h=>by
  have h1:(Ap c b a n s f).N.length=n:=by show(Hv _ _ _ _ n).length=n;rw[jq _ _ _ _ o_];exact h
  have d:(Ap c b a n s f).xs.length<=s.xs.length+n:=by
   show(s.xs++In _ _ _ _ n).length<=_
   grind [Vr]
  obtain⟨e,g⟩:=Lv c b a n fs _ h1;simp only[List.foldl_cons,List.length_cons]
  grind
def Ye.moreB{w i a g v u m b q f B j r}(h:Ye a w g v u m q B r)(x:w.grownBy i u.ownBlock)(s:Sy a i b f j):Ye a (i.setCell (A_ g 1) b) g v b m f j r:=by
 have t:=(Aa.refl _ w).grown x (λk hk _=>hk)
 have d:=t.at_ h.blk (λe=>by
  obtain⟨c,z⟩:=Ad h.bn.row e;have:=h.blk
  grind)
 have o:Mh i 0 m r:=t.row h.xn (λk hk hk2=>by
  obtain⟨c,z⟩:=Ad h.xn hk;obtain⟨A,n⟩:=Ad h.bn.row hk2
  grind)
 have y:=(Aa.refl (λk=>k=g) i).setCell (p:=(A_ g 1)) (λ_=>rfl) b
 have l:ay (λk=>k=g) i:=λk cur ty hk hs=>w_
 refine⟨ht_ 1 _ _ _ d,s.touch y (λk hk e=>?_) l,As o d d_⟩;subst e;obtain⟨A,n⟩:=Ad s.row hk
 grind
def dv(base:Nat)(w w':World)(db:Nat)(vK vB vX:Value)(bs:List BS)(xs:List XS):Prop:=∃vB' vX' bvs',Ye base w' db vK vB' vX' bvs' bs xs/\Aa (DsS db vB vX) w w'/\∀k,DsS db vB' vX' k->DsS db vB vX k∨w.heap.size<=k
def Ye.touch{S w w' a j o m s b g r}(h:Ye a w j o m s b g r)(t:Aa S w w')(f:∀k ty cur,w.heap[k]? =some (.cells cur ty (0,0))->ty≠3->¬S k)(d:∀i,i<g.length->∀k,(b.getD i Oi).1.ownBlock=some k->¬S k):Ye a w' j o m s b g r:=by
 have c:∀{a e size n:Nat} {v l},w.ownsRow a e size v n l->e≠3->∀k,v.ownBlock=some k->¬S k:=λhh he k hk=>by grind [Ad]
 refine⟨t.at_ h.blk (f _ _ _ h.blk d_),⟨t.row h.bn.row (c h.bn.row d_),h.bn.len,λi hi=>⟨t.row (h.bn.each i hi).1 (d i hi),?_⟩⟩,t.row h.xn (c h.xn d_)⟩
 rcases(h.bn.each i hi).2 with⟨h1,p,e,sb,vc,e2,hb,hX⟩|⟨h1,p,e,d2,q,e2,hb,hX⟩
 exact .inl ⟨h1,p,e,sb,vc,e2,hb,t.at_ hX.blk (f _ _ _ hX.blk d_),t.row hX.row (c hX.row d_)⟩;exact .inr ⟨h1,p,e,d2,q,e2,hb,t.at_ hX.blk (f _ _ _ hX.blk d_),t.row hX.row (c hX.row d_)⟩
structure ed(base)(w wr:World)(db)(vK vB vX vX')(bvs)(bs)(qn n)(N)(xs):Prop where
 ds:Ye base wr db vK vB vX' bvs bs xs
 nm:Ag wr w.heap.size (L_ qn n n) (Av N)
 t:Aa (DsS db vB vX) w wr
 nx:∀k,vX'.ownBlock=some k->DsS db vB vX k∨w.heap.size<=k
def ed.below{w wr w2 base db vK vB vX vX' bvs bs qn n N xs}(h:ed base w wr db vK vB vX vX' bvs bs qn n N xs)(hb:Below wr.heap.size wr w2):ed base w w2 db vK vB vX vX' bvs bs qn n N xs:=
 ⟨h.ds.below hb,h.nm.below hb,h.t.below hb,h.nx⟩
def ot d L gb m n qk kc qf fc qo oc bU dC vB vX vf oa cV r dI dH os M I l es z o g w (a7:d<=w.heap.size)(hD:Ye d w L (L_ qk (m+1) kc) vB vX r M I)(hK:ZgK w (L_ qk (m+1) kc) dI l)(cI:l.length=m+1)(aF:w.heap[gb]? =some (.cells #[vf,.slice oa n cV,I_ (bU:Nat),I_ (dC:Nat)] 351 (0,0)))(b7:Ag w d vf (Av g))(hF:Zmd w (L_ qf (m+1) fc) dH es z)(cJ:es.length=m+1)(hO:Ho w (L_ qo (m+1) oc) os o)(cT:o.length=m+1)(bI:∀O∈o,O.length=n)(cH:∀i,i<m+1->(z.getD i []).length=n)(c7:∀f∈g,f<m+1)(hn:n<=200)(bM:g.length<=100)(aR:∀i,i<m+1->∀b∈z.getD i [],b<=1000)(a1:∀K∈l,K.many<=100)(aW:(Ij l o z n I g).off<=64)(hx:I.length<=100000)(fM:M.length<=1000):C_ 207 #[.pointer (some ⟨L,0,none⟩),.pointer (some ⟨gb,0,none⟩),.slice (some ⟨qf,0,none⟩) (m+1) fc,.slice (some ⟨qo,0,none⟩) (m+1) oc] w λe w'=>e=.returned (.tuple #[])/\dv d w w' L (.slice (some ⟨qk,0,none⟩) (m+1) kc) vB vX (M++[⟨g,(Ij l o z n I g).N,(Ij l o z n I g).off-1⟩]) (Ij l o z n I g).xs:=by
 have HH:=x5_ hK hF hO b7 aF;have Z:=x8_ cI cJ cT bI cH c7 aR a1;have A:=x1_ hD.sty;have cZ:=x1_ a7;have HD:=x1_ hD;obtain⟨fa,C,cD⟩:=b7.shape;rw[Aw] at cD;subst cD;have g0:=cR_ 0 aF;have g1:=cR_ 1 aF;have dX:=(Qb aF).1;have fJ:=(Qb hD.blk).1;have aL:Hid (Ij l o z n I _=g.foldl _ _/\_):=⟨rfl,aW⟩;have dJ:=Ko n o_;obtain⟨R,aI⟩:=ex_ g.length;have bC:=x1_ aI;rw[<- aI] at bM g0;clear a7 hD hK cI aF b7 hF cJ hO cT bI cH c7 aR a1 aW aI;obtain⟨i0,bQ,dT,dP,dL⟩:=info_parts ZjO;obtain⟨j0,bT,cY,dN,dG⟩:=info_parts ZjM;go_enter Tryz.func207,Tryz.ntmps207;go_wp2_with fail
 go_loopw [26,9] (λti to_ wr=>∃(k:Nat) (aN:Value),ti=.int .i64 k/\k<=R/\to_=.int .i64 (((g.take k).foldl (Ap l o z n) ⟨List.replicate n 0,I,1⟩).off:Nat)/\Hid (ed d w wr L (.slice (some ⟨qk,0,none⟩) (m+1) kc) vB vX aN r M w.heap.size n ((g.take k).foldl (Ap l o z n) ⟨List.replicate n 0,I,1⟩).N ((g.take k).foldl (Ap l o z n) ⟨List.replicate n 0,I,1⟩).xs)) (λti _ _=>R-(intOf ti).toNat)
 case atStart=>
  refine⟨0,vX,rfl,qg_,rfl,?_⟩;have hm:=Kn n w _ o_ qa_;have e:Av (List.replicate n 0)=List.replicate n 0:=(by simp[Av]);exact⟨HD.below bA_,w_,(Aa.refl _ _).alloc _,λk J=>.inl (.inr (.inr J))⟩
 case round=>
  clear dJ;obtain⟨k,aN,rfl,J,rfl,HR⟩:=hrel;have cF:=HR.t.size
  by_cases hkl:k<R
  ·have cC:k<g.length:=(by rw[<- bC];exact hkl);have dK:g.take (k+1)=g.take k++[g.getD k 0]:=(by grind [Qi]);have H:g.getD k 0<m+1:=by have:g.getD k 0=g[k]:=(by simp[List.getD,cC]);rw[this];exact Z.2.2.2.2.2.1 _ (Qf _)
   have cG:Hid ((g.take (k+1)).foldl (Ap l o z n) ⟨List.replicate n 0,I,1⟩=Ap l o z n ((g.take k).foldl (Ap l o z n) ⟨List.replicate n 0,I,1⟩) (g.getD k 0)):=by
    show _=_
    grind
   have bA:((g.take (k+1)).foldl (Ap l o z n) ⟨List.replicate n 0,I,1⟩).off<=64:=(by have P:=Px l o z n (g.drop (k+1)) ((g.take (k+1)).foldl (Ap l o z n) ⟨List.replicate n 0,I,1⟩);rw[<- List.foldl_append,List.take_append_drop,<- aL.1] at P;exact Nat.le_trans P aL.2);have G:=Lv l o z n (g.take k) ⟨List.replicate n 0,I,1⟩ s_;have aK:wr.cell? ⟨(match fa with|some p=>p.block|none=>0),k,none⟩=some (.int .i64 (g.getD k 0:Nat))/\∃q,fa=some ⟨q,0,none⟩:=by obtain⟨q,hq,cB,_,hc,_⟩:=HH.2.2.2.1.atK (by rw[Aw]) cC;subst hq;rw[Cv] at hc;have cL:=A.row HH.2.2.2.1 d_ d_ d_ q rfl;refine⟨?_,q,rfl⟩;show wr.cell? (A_ q k)=_;rw[cb_ (a:=(A_ q k)) (HR.t.block q cB cL)];exact hc
   obtain⟨aK,q,hq⟩:=aK;subst hq;simp only at aK;have bV:Hid (∀f,(Ap l o z n ((g.take k).foldl (Ap l o z n) ⟨List.replicate n 0,I,1⟩) f).off=_+_):=λf=>rfl
   have f7:((g.take k).foldl (Ap l o z n) ⟨List.replicate n 0,I,1⟩).xs.length<=200000:=by
    have P:=G.2;have h2:(g.take k).length*n<=100*_:=Nat.mul_le_mul t_ hn
    grind
   have a3:=x1_ G.1;rw[cG,bV] at bA;clear dK G;generalize g.getD k 0=f,(g.take k).foldl (Ap l o z n) ⟨List.replicate n 0,I,1⟩=s at *;have b9:=HH.2.2.1.touchS HR.t A;have aP:=b9.each f (by rw[Z.2.2.1];exact H);obtain⟨c3,o0⟩:=b9.at2 (i:=f) (by rw[Z.2.2.1];exact H);have a2:(o.getD f []).length=n:=Z.2.2.2.1 _ (by simp[List.getD,show f<o.length by rw[Z.2.2.1];exact H]);have aA:=Z.2.2.2.2.1 f H;have aV:=Z.2.2.2.2.2.2.1 f H;obtain⟨xa,xc,bE⟩:=aP.shape;rw[bE] at o0 aP;rw[a2] at o0 aP;have b8:Hid (Ap l o z n s f=⟨_,_,_⟩):=rfl;have b5:Hid (Ev w 0 (.slice xa n xc) (o.getD f [])/\(o.getD f []).length=n):=by have P:=HH.2.2.1.each f (by rw[Z.2.2.1];exact H);rw[bE,a2] at P;exact⟨P,a2⟩
   have bS:=HH.2.1.touch HR.t A;obtain⟨dY,_,_,_,b3⟩:=bS.cells (i:=f) (by rw[Z.2.1];exact H);have aO:=(HH.2.1.each f (by rw[Z.2.1];exact H)).2.2;obtain⟨ba,bc,bD⟩:=aO.shape;rw[Aw,aA] at bD;rw[bD] at b3 aO;have bX:=n3_ aO aA aV;have aC:=x1_ bX
   have dF:Hid (∀W:World,Aa (DsS L vB vX) w W->W.cell? (A_ qf (f*4+3))=some (.slice ba n bc)):=λW hW=>by
    have P:=(HH.2.1.touch hW A).cells (i:=f) (by rw[Z.2.1];exact H)
    grind
   clear b9 aP a2 aA aV bS aO bX bE bD b3;generalize o.getD f []=Of,z.getD f []=Bf at *;have fI:0<=(k:Int):=o_;have f8:k<(R:Int):=o_;have fF:0<=(f:Int):=o_;have fK:f<(m:Int)+1:=o_;obtain⟨wl,dA⟩:∃wl,wl=wr:=⟨wr,rfl⟩;subst dA;go_wp2_with fail
   go_loopw [35] (λtj wr=>∃(j:Nat) (vY:Value),tj=.int .i64 j/\j<=n/\Hid (ed d w wr L (.slice (some ⟨qk,0,none⟩) (m+1) kc) vB vX vY r M w.heap.size n (Hv s.off Of Bf s.N j) (s.xs++In f Of Bf s.N j))) (λtj _=>n-(intOf tj).toNat)
   case atStart=>
    refine⟨0,aN,rfl,qg_,?_⟩;rw[Zf0];show ed _ _ _ _ _ _ _ _ _ _ _ _ _ (s.xs++[]);rw[List.append_nil];exact HR
   case round=>
    clear HR aK c3 o0 cF;obtain⟨j,vY,rfl,hj,y⟩:=hrel;have cF:=y.t.size
    by_cases hjn:j<n
    ·obtain⟨qx,cX,bO,_,x0,_⟩:=b5.1.atK b5.2 hjn;subst cX;obtain⟨qb,dM,bW,_,y0,_⟩:=aC.1.atK (by rw[Aw];exact aC.2.1) hjn;subst dM;rw[Cv] at y0;have x1:wr.cell? (A_ qx j)=some (.bool (Of.getD j false)):=(by rw[cb_ (a:=(A_ qx j)) (y.t.block qx bO (A.row b5.1 d_ d_ d_ qx rfl))];exact x0);have y1:wr.cell? (A_ qb j)=some (I_ (Bf.getD j 0:Nat)):=(by rw[cb_ (a:=(A_ qb j)) (y.t.block qb bW (A.row aC.1 d_ d_ d_ qb rfl))];exact y0);have y2:=dF _ y.t;have aD:(Hv s.off Of Bf s.N j).length=n:=(by rw[jq _ _ _ _ (by have:=a3.out;omega)];exact a3);obtain⟨n1,nf⟩:=y.nm.cellK (k:=j) (by rw[Aw];exact aD.symm) hjn;rw[Cv,ZeV] at n1
     have cU:Bf.getD j 0<=1000:=(by have dR:j<Bf.length:=(by have:=aC.2.1;omega);have:Bf.getD j 0=Bf[j]:=(by simp[List.getD,dR]);rw[this];exact aC.2.2 _ (Qf _));have d9:Hid (n=(Av (Hv s.off Of Bf s.N j)).length):=(by rw[Aw];exact aD.symm);have E:Hid (jx s.off Of Bf s.N j=if _/\_ then _ else _):=rfl;have D:Hid (In f Of Bf s.N (j+1)=_++(if _/\_ then _ else _)):=rfl;have aJ:Hid (_=Hv _ _ Bf _ (j+1)):=ZbB s.off Of _ s.N (by have:=a3.out;omega);have aG:Hid (_=s.N.getD j 0->_):=ZfZ s.off Of Bf _ (by have:=a3.out;omega);have cB:qf<wr.heap.size:=by have:=(HH.2.1.cells (i:=f) (by rw[Z.2.1];exact H)).1;omega
     have fA:0<=(j:Int):=o_;have fD:j<(n:Int):=o_;have f6:s.off<=64:=o_
     have dQ:Hid ((s.xs++In f Of Bf s.N j).length<=300000):=(by have:=Vr f Of Bf s.N j;show _<=_;rw[Qe];omega);clear x0 y0 aD;generalize Of.getD j false=ob,Bf.getD j 0=yb,s.N.getD j 0=nz at *
     cases ob with
     | false=>
      have HF:Hid (ed d w wr L (L_ qk (m+1) kc) vB vX vY r M w.heap.size n (Hv s.off Of Bf s.N (j+1)) (s.xs++In f Of Bf s.N (j+1))):=(by have P:=E.out;rw[if_neg s_] at P;rw[aG P,D,if_neg s_,List.append_nil];exact y);clear y E D aJ aG n1;refine rd_ ?_;exact⟨j+1,_,g_,o_,HF⟩
     | true=>
      by_cases hz:nz=0
      ·subst hz
       have HF:Hid (ed d w (wr.setCell (A_ w.heap.size j) (I_ (s.off+yb))) L (L_ qk (m+1) kc) vB vX vY r M w.heap.size n (Hv s.off Of Bf s.N (j+1)) (s.xs++In f Of Bf s.N (j+1))):=by
        have P:=E.out;rw[if_pos ⟨rfl,rfl⟩] at P;rw[D,if_neg s_,List.append_nil,<- aJ,P];obtain⟨p1,p2⟩:=y.nm.put (k:=j) d9 ((s.off:Int)+(yb:Int));have t2:Aa _ _ (wr.setCell _ (I_ ((s.off:_)+(yb:_)))):=(Aa.refl (λx=>x=w.heap.size) _).setCell (p:=(A_ w.heap.size j)) (λ_=>rfl) _;obtain⟨cu,dW⟩:=Ad y.nm (k:=w.heap.size) rfl;refine⟨y.ds.touch t2 (λk ty cur J hty e=>?_) (λi hi k J e=>by have:=(rl_ (HD.bn.each i hi).1 k J).2;omega),?_,y.t.setCell (p:=(A_ w.heap.size j)) (λh=>absurd h (Nat.lt_irrefl _)) _,y.nx⟩;subst e;rw[dW] at J;simp at J;exact hty J.2.symm;show Ag _ _ _ (Av ((Hv s.off Of Bf s.N j).set j (s.off+yb)));rw[<- Zib];have:((s.off+yb:Nat):Int)=(s.off:Int)+(yb:Int):=o_;rw[this];exact p1
       have fB:Hid (_=(s.off:Int)+(yb:Int)):=Cb o_ o_;clear y E D aJ aG;refine rd_ ?_;exact⟨j+1,_,g_,o_,HF⟩
      have fH:((nz:Int)==0)=_:=beq_eq_false_iff_ne.2 o_;have bL:Hid (s.xs++In f Of Bf s.N (j+1)=(s.xs++In f Of Bf s.N j)++[⟨j,f,yb⟩]):=(by show _=_;rw[D,if_pos ⟨rfl,hz⟩,List.append_assoc]);have bP:=x1_ (aG (by rw[E,if_neg (λh=>hz h.2)]));obtain⟨ya,yc,dU⟩:=y.ds.xn.shape;subst dU;have dV:=cR_ 2 y.ds.blk;have a4:L<wr.heap.size:=o_;have U:Hid _:=y.ds.xn;clear hz D E aJ aG;generalize hxx:s.xs++In f Of Bf s.N j=XX at *;generalize hxl:XX.length=xl at *;have f3:=dQ.out;go_wp2_with (at_builtin;refine Ab rfl (.tmp 52) (.tmp 57) 166 rfl 0 184 i0 _ 3 24 Tryz.underlying166 bQ dT dP dL rfl d_ _ xl (Io XX) rfl (U.alloc _) _ 1 1 [I_ (j:Nat),I_ (f:Nat),I_ (yb:Nat)] rfl rfl ?_ ?_ ?_ ?_ ?_ ?_ ?_)
      exact Am _ _ _
      ·intro u hu;simp at hu;rcases hu with rfl|rfl|rfl<;>rfl
      decide;unfold maxLen;omega;omega;simp;intro v4 w4 H4;obtain⟨r4,g4,d4,_,_⟩:=H4;have aT:=y.ds.below (bz_.alloc qa_ (.cells #[I_ (j:Nat),I_ (f:Nat),I_ (yb:Nat)] 184));have bH:Mh w4 0 v4 (XX++[⟨j,f,yb⟩]):=(by refine Mh.more ?_;rw[hxl];exact r4);have X:=aT.more g4 bH;have Q:w4.heap[L]? =some (.cells #[L_ qk (m+1) kc,vB,.slice ya xl yc] 168 (0,0)):=(by rw[g4.block L t_ (λe=>Au U e.symm y.ds.blk d_ rfl)];exact(hc_ a4).trans y.ds.blk);have c4:=cR_ 2 Q;have f4:=fq_ 2 _ _ Q
      have cR:Ag (w4.setCell ⟨_,2,_⟩ v4) _ _ _:=
       As (World.ownsRow.kept (Ag.alloc y.nm _) g4 (An U y.nm d_)) Q d_
      have bR:=((y.t.alloc _).grown g4 (λk J hkl=>by
        rcases y.out.nx k J with h|h
        exact h
        omega)).setCell (p:=(A_ L 2)) (λ_=>.inl rfl) v4
      obtain⟨a5,c5,cE⟩:=bH.shape
      have HF:Hid (ed d w (w4.setCell (A_ L 2) v4) L (L_ qk (m+1) kc) vB vX v4 r M w.heap.size n (Hv s.off Of Bf s.N (j+1)) (s.xs++In f Of Bf s.N (j+1))):=by
       rw[bL,bP];refine⟨X,cR,bR,λk J=>?_⟩
       rcases d4 with e|e
       exact y.nx k (e ▸ J);rw[e.1] at J;injection J with J;omega
      rw[cE] at HF;subst cE;clear r4 g4 d4 aT bH X Q cR bR y U bL bP hxx hxl dV;generalize (XX++[(⟨j,f,yb⟩:XS)]).length=l5 at *;refine rd_ ?_;exact⟨j+1,_,g_,o_,HF⟩
    have fG:¬j<(n:Int):=o_;have aU:j=n:=o_;have cS:=HH.1.touchS y.t A;obtain⟨ab,cb,aw,cw,dZ,k0,k1,k2,k3,_,_⟩:=cS.at2 (i:=f) (by rw[Z.1];exact H);have d8:=cR_ 0 y.ds.blk;have a1:(l.getD f Ay).many<=_:=Z.2.2.2.2.2.2.2 _ (by simp[List.getD,show f<l.length by rw[Z.1];exact H]);have bZ:=KS.many_eq (l.getD f Ay)
    have bK:Hid (∀W:World,C_ 146 #[.agg #[.bool (l.getD f Ay).e.wd,.slice ab (l.getD f Ay).e.bs.length cb,.slice aw (l.getD f Ay).e.ww.length cw]] W λe w'=>e=.returned (.int .i64 (l.getD f Ay).many)/\E_ W w'):=λW=>by rw[<- bZ];exact Ji _ _ _ _ _ _ _ W o_
    have cM:Hid ((g.take (k+1)).foldl (Ap l o z n) ⟨List.replicate n 0,I,1⟩=⟨Hv s.off Of Bf s.N n,s.xs++In f Of Bf s.N n,s.off+(l.getD f Ay).many⟩):=(by show _=_;rw[cG,b8]);have c9:Hid (ed d w wr L (L_ qk (m+1) kc) vB vX vY r M w.heap.size n (Hv s.off Of Bf s.N n) (s.xs++In f Of Bf s.N n)):=(by rw[aU] at y;exact y);clear cS k3 bZ y aU;generalize l.getD f Ay=Kf at *;generalize Kf.e.wd=kwd,Kf.e.bs.length=knb,Kf.e.ww.length=knw,Kf.many=km at *;go_wp2_with fail
    refine(bK _).mono ?_;rintro e w2 ⟨rfl,cQ⟩;have HF:Hid (ed d w w2 L (L_ qk (m+1) kc) vB vX vY r M w.heap.size n ((g.take (k+1)).foldl (Ap l o z n) ⟨List.replicate n 0,I,1⟩).N ((g.take (k+1)).foldl (Ap l o z n) ⟨List.replicate n 0,I,1⟩).xs):=(by rw[cM];exact c9.below cQ);clear cQ c9 k0 k1 k2 d8 bK;refine rd_ ?_;exact⟨k+1,vY,g_,o_,by rw[cM];go_num,HF⟩
  have f9:¬k<(R:Int):=o_;have bY:g.take k=_:=List.take_of_length_le (by have:=bC.out;omega);rw[bY] at HR ⊢;have G:=Lv l o z n g ⟨List.replicate n 0,I,1⟩ s_;have aY:=Px l o z n g ⟨List.replicate n 0,I,1⟩;rw[<- aL.1] at HR G aY ⊢;have bG:=aL.2;simp only at aY;obtain⟨s,b6⟩:=ex_ (Ij l o z n I g);have d5:=x1_ b6;rw[<- b6] at HR G aY bG ⊢;clear b6;have aD:=G.1;clear bY G;have HM:_:=HR
  have c8:Hid (∀W:World,E_ wr W->C_ 257 #[.slice (some ⟨w.heap.size,0,none⟩) n n,.int .i64 (s.off-1:Nat)] W λe w'=>∃v,e=.returned v/\Ms w' d v s.N (s.off-1)/\E_ W w'):=λW hW=>by have P:=HM.nm.below hW;have h2:=Ag.mono P qg_;have dO:=Nat.le_trans cZ (Nat.le_trans HM.t.size hW.size);exact(Zfk _ n n _ _ W h2 aD hn o_).mono (λe w' h3=>by obtain⟨v,he,hc,hb⟩:=h3;exact⟨v,he,hc.mono dO,hb⟩)
  have q1:IntKind.i64.wrap (s.off-1)=(s.off-1:Nat):=by rw[Cb o_ o_];omega
  obtain⟨ba,aE,dD⟩:∃a c,vB=.slice a M.length c:=by
   rcases HM.out.ds.bn.row.2 with⟨rfl,h0⟩|⟨q,p,cur,rfl,_⟩
   ·grind
   grind
  subst dD;have bN:=cR_ 1 HM.ds.blk;have a9:=A.at HH.out.2.2.2.2 d_ d_ d_;have c6:wr.drew.cell? (A_ gb 0)=some (.slice fa R C):=(by have:wr.heap[gb]? =w.heap[gb]?:=HM.t.block gb dX a9;have h2:=cb_ (a:=(A_ gb 0)) this;exact h2.trans g0);have a4:L<wr.heap.size:=o_;have aS:gb<wr.heap.size:=o_;have U:=x1_ HM.ds.bn.row;clear HR g0 g1;generalize hbsl:M.length=bl at *;go_upto_region 16 with fail;refine Al (λw'=>w'.cell? (A_ L 1)=some (.slice ba bl aE)/\w'.cell? (A_ gb 0)=some (.slice fa R C)) 18 k_ ⟨bN,c6⟩ (λhHeld=>?_);refine Ah 0 ?_;refine Ah 1 ?_;refine Ah 2 ?_;refine Ah 3 ?_;refine Tx [15,16,17,18] 4 (v:=?_) ?_ ?_
  rotate_left
  ·intro w aZ;try obtain⟨_,_⟩:=aZ
   go_simp;try with_reducible rfl
  try simp only[Act.put,sA,sB,sC]
  refine Ah 5 ?_;refine Ah 6 ?_;refine Ah 7 ?_;refine Tx [13,14,15,16,17,18] 8 (v:=?_) ?_ ?_
  rotate_left
  ·intro w aZ;try obtain⟨_,_⟩:=aZ
   go_simp;try with_reducible rfl
  try simp only[Act.put,sA,sB,sC]
  refine Ah 9 ?_;refine Ah 10 ?_;refine Ah 11 ?_;refine Af (i:=12) k_ rfl (λKK hK=>?_);go_simp;refine(c8 _ (bz_.drew)).mono ?_;rintro e w4 ⟨v4,rfl,bB,a6⟩;have cA:=(a6.cell (p:=(A_ L 1)) a4).trans bN;have bF:=(a6.cell (p:=(A_ gb 0)) aS).trans c6;obtain⟨ct,cp,dS⟩:=bB.iface;subst dS;go_simp;refine hK _ _ ⟨cA,bF⟩ (λhHeld=>?_);clear hK KK;try simp only[Act.put,sA,sB,sC]
  refine Ah 13 ?_;refine Af (i:=14) k_ rfl (λKK hK=>?_);go_simp;have cP:=Qh a4 a6.size;have aX:=Qh aS a6.size;refine hK _ _ ⟨(Below.cell (B:=w4.heap.size) (p:=(A_ L 1)) bA_ cP).trans cA,(Below.cell (B:=w4.heap.size) (p:=(A_ gb 0)) bA_ aX).trans bF⟩ (λhHeld=>?_);clear hK KK;try simp only[Act.put,sA,sB,sC]
  refine Af (i:=15) k_ rfl (λKK hK=>?_);have T:=(br_ wr.heap.size _).drew.trans a6;refine Az rfl (.tmp 93) (.tmp 103) 165 rfl 0 163 j0 (.agg #[.slice none 0 0,.nilIface]) 2 40 Tryz.underlying165 bT cY dN dG rfl d_ (.slice ba bl aE) bl (Mn r) j_ (ra_ ((Aa.of_below (S:=λ_=>False) T).row U (λ_ _=>id)) _) (A_ w4.heap.size 0) 1 1 [.slice fa R C,.iface ct (P_ cp)] j_ rfl (Am w4 #[.slice fa R C,.iface ct (P_ cp)] 163) (by intro u hu;simp only[List.mem_cons,List.not_mem_nil,or_false] at hu;rcases hu with rfl|rfl<;>rfl) d_ m_ o_ s_ ?_;intro v6 w6 H6;obtain⟨r6,g6,d6,_,q6,p6,cW⟩:=H6;have X:=HM.ds.below T
  have F:=X.below (bz_.alloc qa_ (.cells #[.slice fa R C,.iface ct (P_ cp)] 163));have a0:Aa _ (w4.alloc (.cells _ 163)) _:=(Aa.refl _ _).grown g6 (λk J _=>J);have V:ay _ _:=λk cur ty J hs=>F.sty k _ _ J (.inr (.inl hs));have a8:Ag (w4.alloc (.cells #[.slice fa R C,.iface ct (P_ cp)] 163)) d (.slice fa R C) (Av g):=(by have P:=HM.t.row HH.2.2.2.1 (A.row HH.2.2.2.1 d_ d_ d_);rw[<- bC] at P;exact((Aa.of_below (S:=λ_=>False) T).row P (λ_ _=>id)).alloc _);have aB:Ms (w4.alloc (.cells #[.slice fa R C,.iface ct (P_ cp)] 163)) d _ s.N _:=bB.below bA_
  have aH:Sy d w6 v6 (r++[(.slice fa R C,.iface ct (P_ cp))]) (M++[⟨g,s.N,s.off-1⟩]):=by
   have dB:r.length=bl:=(by have:=HM.ds.bn.len;omega);refine⟨by rw[Qe,pe,hbsl];exact r6,by simp[dB,hbsl],λi hi=>?_⟩;rw[Qe] at hi;simp at hi
   by_cases hib:i<M.length
   have e1:(r++[((.slice fa R C:Value),(.iface ct (P_ cp):Value))]).getD i Oi=r.getD i Oi:=(by simp[List.getD,List.getElem?_append_left (show i<r.length by omega)]);have e2:(M++[(⟨g,s.N,s.off-1⟩:BS)]).getD i Dx=M.getD i Dx:=(by simp[List.getD,List.getElem?_append_left hib]);rw[e1,e2];exact⟨a0.row (F.bn.each i hib).1 (V.row (F.bn.each i hib).1 d_ d_ d_),(F.bn.each i hib).2.touch a0 V⟩
   have ei:i=M.length:=o_;subst ei;have e1:(r++[((.slice fa R C:Value),(.iface ct (P_ cp):Value))]).getD M.length Oi=((.slice fa R C:Value),(.iface ct (P_ cp):Value)):=(by simp[List.getD,HM.out.ds.bn.len.symm]);have e2:(M++[(⟨g,s.N,s.off-1⟩:BS)]).getD M.length Dx=⟨g,s.N,s.off-1⟩:=(by simp[List.getD]);rw[e1,e2];exact⟨a0.row a8 (V.row a8 d_ d_ d_),aB.touch a0 V⟩
  have aQ:=F.moreB g6 aH;have Y:=a0.at_ F.blk (λe=>Au (ra_ ((Aa.of_below (S:=λ_=>False) T).row U (λ_ _=>id)) _) e F.blk d_ rfl);have dE:=cR_ 1 Y;have fC:=fq_ 1 _ _ Y;have aM:¬_:=λe=>a9 (.inr (.inl e));have d7:w6.cell? (A_ gb 0)=some (.slice fa R C):=(by have P:=a0.block _ t_ aM;rw[cb_ (a:=(A_ gb 0)) P];exact(Below.cell (B:=w4.heap.size) (p:=(A_ gb 0)) bA_ aX).trans bF);have cO:=(((HM.t.below T).alloc _).grown g6 (λk J _=>.inr (.inl J))).setCell (p:=(A_ L 1)) (λ_=>.inl rfl) v6
  have cN:Hid (dv d w (w6.setCell (A_ L 1) v6) L (L_ qk (m+1) kc) (.slice ba bl aE) vX (M++[⟨g,s.N,s.off-1⟩]) s.xs):=by
   refine⟨v6,aN,_,aQ,cO,λk J=>?_⟩
   rcases J with e|e|e
   exact .inl (.inl e)
   ·rcases d6 with e2|e2
    exact .inl (.inr (.inl (e2 ▸ e)));rw[e2.1] at e;injection e with e;have:=a6.size;simp at this;exact .inr (by simp at e;omega)
   exact HM.nx k e
  subst cW;clear r6 g6 d6 X F a0 V a8 aB aH aQ Y cO HM c8 U bB;refine hK _ _ ⟨dE,d7⟩ (λhHeld=>?_);clear hK KK;try simp only[Act.put,sA,sB,sC]
  refine Ah 16 ?_;refine Ah 17 ?_;refine Ai (i:=18) k_ rfl k_ (λKK hK=>?_);go_simp;refine hK _ _ ?_;clear hK KK;try simp only[Act.put,sA,sB,sC]
  refine Ak k_ ?_ _;go_wp2;go_end0;rw[<- d5];exact⟨rfl,cN⟩
end Go.Proofs.YtfcgnpchbcmdeaaGreat
namespace Go.Proofs.YtfcgnpchbcmdeaaGreat
set_option linter.all false
set_option maxRecDepth 100000
set_option maxHeartbeats 8000000
open Go.RowKit Go.Lib Go.Sort
def orI(a b:Int):Int:=if a=0 then b else a
def Zii q c a b w (m:w.cell? (A_ q 0)=some (I_ a))(o:w.cell? (A_ q 1)=some (I_ b)):C_ 192 #[.slice (some ⟨q,0,none⟩) 2 c] w λe w'=>e=.returned (.int .i64 (orI a b))/\w'=w:=by
 have f:Hid (orI a b=if a=0 then b else a):=rfl;generalize orI a b=r at *;go_enter Tryz.func192,Tryz.ntmps192;go_wp2_with fail
 go_loop [8] (λti=>∃k:Nat,ti=.int .i64 k/\k<=2/\(1<=k->Hid (a=0))/\(2<=k->Hid (b=0))) (λti=>2-(intOf ti).toNat)
 case atStart=>grind
 case round=>
  obtain⟨k,rfl,n,g,h⟩:=hrel
  rcases(show k=0∨k=1∨k=2 by omega) with rfl|rfl|rfl
  ·clear g h
   by_cases ea:a=0
   ·have j:(a !=0)=false:=(by simp[ea]);have i:=x1_ ea;clear ea;go_wp2
    grind [intOf]
   have j:(a !=0)=true:=by simpa using ea
   have d:Hid (r=a):=w_;clear ea f;go_wp2;go_ret;exact⟨by rw[d];rfl,rfl⟩
  ·have i:=g o_;clear g h
   by_cases ea:b=0
   ·have j:(b !=0)=false:=(by simp[ea]);have l:=x1_ ea;clear ea;go_wp2
    grind [intOf]
   have j:(b !=0)=true:=by simpa using ea
   have d:Hid (r=b):=(by show _=_;rw[f.out,if_pos i.out]);clear ea f;go_wp2;go_ret;exact⟨by rw[d];rfl,rfl⟩
  have i:=g o_;have l:=h o_;have d:Hid (r=0):=(by show _=_;rw[f.out,if_pos i.out,l.out]);clear g h f;go_wp2;go_ret;exact⟨by rw[d];rfl,rfl⟩
def Gr(W w':World):Prop:=∃q os,w'=grow (W.drewN q) os
def Gr.refl W:Gr W W:=⟨0,#[],by simp;rfl⟩
def Gr.alloc{W a}(h:Gr W a) o:Gr W (a.alloc o):=by obtain⟨q,b,rfl⟩:=h;exact⟨q,b++#[o],by rw[alloc_eq_grow,grow_grow]⟩
def Gr.drew{W a}(h:Gr W a):Gr W a.drew:=by obtain⟨q,b,rfl⟩:=h;exact⟨q+1,b,rfl⟩
def Gr.below{W a}(h:Gr W a):Below W.heap.size W a:=by obtain⟨q,b,rfl⟩:=h;refine⟨rfl,rfl,rfl,by simp[grow],λk hk=>?_⟩;rw[Go.Sort.heap_grow_old _ _ (by simpa using hk)];rfl
def Tj(x y:XS):Int:=orI (Lib.compareInt x.row y.row) (Lib.compareInt x.f y.f)
def Jw x y W:C_ 148 #[.agg #[.int .i64 x.row,.int .i64 x.f,.int .i64 x.bin],.agg #[.int .i64 y.row,.int .i64 y.f,.int .i64 y.bin]] W λe w'=>e=.returned (.int .i64 (Tj x y))/\Gr W w':=by
 have o:Hid (Tj x y=orI _ _):=rfl;have l:Hid (∀w:_,Calls _ _ #[.int _ (x.row:_),.int _ (y.row:_)] w λe w'=>_):=λw=>Tryz.cmp_Compare_int _ _ w;have m:Hid (∀w:_,Calls _ 151 #[.int _ (x.f:Nat),.int _ (y.f:_)] w λe w'=>_):=λw=>Tryz.cmp_Compare_int _ _ w;obtain⟨b,a,i⟩:=x;obtain⟨c,d,j⟩:=y;simp only at o l m ⊢;generalize Tj ⟨b,a,i⟩ ⟨c,d,j⟩=r,Lib.compareInt (b:Nat) (c:Nat)=c1,Lib.compareInt (a:Nat) (d:Nat)=c2 at *;go_enter Tryz.func148,Tryz.ntmps148;go_upto_region 1 with fail;generalize hw0:(W.alloc (.cells #[I_ (b:Nat),I_ (a:Nat),I_ (i:Nat)] 184)).alloc (.cells #[I_ (c:Nat),I_ (d:Nat),I_ (j:Nat)] 184)=w0;have g:w0.heap.size=W.heap.size+1+1:=by rw[<- hw0];simp
 have h:Hid (Gr W w0):=(by show Gr _ _;rw[<- hw0];exact((Gr.refl W).alloc _).alloc _);have q:w0.cell? (A_ W.heap.size 0)=some (I_ b):=(by rw[<- hw0];simp[go_sem]);have u:w0.cell? (A_ W.heap.size 1)=some (I_ a):=(by rw[<- hw0];simp[go_sem]);have v:w0.cell? (A_ (W.heap.size+1) 0)=some (I_ c):=(by rw[<- hw0];simp[go_sem]);have s:w0.cell? (A_ (W.heap.size+1) 1)=some (I_ d):=(by rw[<- hw0];simp[go_sem]);have n:W.heap.size<w0.heap.size:=o_;have k:W.heap.size+1<w0.heap.size:=o_;clear hw0 g
 have t:Hid (∀w:World,w.cell? (A_ w0.heap.size 0)=some (.int .i64 c1)->w.cell? (A_ w0.heap.size 1)=some (.int .i64 c2)->C_ 192 #[.slice (some ⟨w0.heap.size,0,none⟩) 2 2] w λe w'=>e=.returned (.int .i64 r)/\w'=w):=λw h0 h1=>by rw[o];exact Zii _ 2 _ _ w h0 h1
 go_region_held3 (λw'=>w'.cell? (A_ W.heap.size 0)=some (I_ (b:Nat))/\w'.cell? (A_ W.heap.size 1)=some (I_ (a:Nat))/\w'.cell? (A_ (W.heap.size+1) 0)=some (I_ (c:Nat))/\w'.cell? (A_ (W.heap.size+1) 1)=some (I_ (d:Nat))) (exact⟨(Below.cell (B:=w0.heap.size) (w:=w0) (p:=(A_ W.heap.size 0)) (by repeat(first|with_reducible exact bz_|with_reducible apply Below.drew|(refine Below.alloc ?_ o_ _))) n).trans q,(Below.cell (B:=w0.heap.size) (w:=w0) (p:=(A_ W.heap.size 1)) (by repeat(first|with_reducible exact bz_|with_reducible apply Below.drew|(refine Below.alloc ?_ o_ _))) n).trans u,(Below.cell (B:=w0.heap.size) (w:=w0) (p:=(A_ (W.heap.size+1) 0)) (by repeat(first|with_reducible exact bz_|with_reducible apply Below.drew|(refine Below.alloc ?_ o_ _))) k).trans v,(Below.cell (B:=w0.heap.size) (w:=w0) (p:=(A_ (W.heap.size+1) 1)) (by repeat(first|with_reducible exact bz_|with_reducible apply Below.drew|(refine Below.alloc ?_ o_ _))) k).trans s⟩) (first|(go_at_call_of 151 (b);refine(l _).mono ?_;rintro e w' ⟨rfl,rfl⟩)|(go_at_call_of 151 (a);refine(m _).mono ?_;rintro e w' ⟨rfl,rfl⟩)|(go_at_call 192;refine(t _ (by simp[go_sem]) (by simp[go_sem])).mono ?_;rintro e w' ⟨rfl,rfl⟩))
 go_wp2;go_ret;exact⟨rfl,(h.alloc _).drew⟩
def Zo(x:XS):List Value:=Dn x
def ltX x y:ltOf Tj x y=decide (x.row<y.row∨x.row=y.row/\x.f<y.f):=by
 obtain⟨g,b,d⟩:=x;obtain⟨a,c,e⟩:=y;unfold ltOf Tj orI Lib.compareInt
 grind
def Zms:SWO (ltOf Tj) where
  irrefl x:=by rw[ltX];simp
  trans x y z h1 h2:=by rw[ltX] at *;simp at *;omega
  ntrans x y z h1 h2:=by rw[ltX] at *;simp at *;omega
section
variable [Inhabited XS]
def Zhk blk off size w:CmpLays Tryz.prog 148 #[] Zo 3 Tj blk off size w:=
 λ_ _ _ _ x y=>Jw x y _
def Zgl a c d w (h:HoldsK Zo 3 w a 0 d)(b:a<w.heap.size)(f:d.size<4611686018427387904):C_ 208 #[.slice (some ⟨a,0,none⟩) d.size c,.func (.func 148) #[] #[]] w λe w'=>e=.returned (.tuple #[])/\∃d' n os,PermIn 0 d.size d d'/\SortedIn (ltOf Tj) 0 d.size d'/\w'=sortWorldK Zo 3 w a 0 n d' os:=by have g:∀_ w,(callFunc 148 _).run _ w=_:=enters_of Tryz.func148 k_ rfl;exact AnyQ.slices_SortFunc Tryz.sortX 3 Tryz.isAgg184 Tryz.sizeOf184 _ (λ_=>rfl) (λx v hv=>by simp[Zo,Dn] at hv;rcases hv with rfl|rfl|rfl<;>rfl) _ Zms _ _ _ 0 _ d w g (Zhk _ 0 _ w) h b f
def ZdF p cap w:C_ 208 #[.slice p 0 cap,.func (.func 148) #[] #[]] w λe w'=>e=.returned (.tuple #[])/\w'=w:=AnyF.slices_SortFunc_none {Tryz.sortX with} p cap _ w
def Zfv L:∀i r,i<L.length->r<3->(Io L)[i*3+r]? =(Dn (L.getD i ⟨0,0,0⟩))[r]?:=by
 induction L with
 |nil=>grind
 | cons e L ih=>
  intro i r a b
  cases i with
  |zero=>grind [Io,Dn]
  | succ i=>
   grind [Io,Dn]
theorem Zes d:(Go.Sort.flatK Zo 3 d.toArray).toList=Io d:=by
 apply List.ext_getElem?;intro t
 by_cases ht:t<d.length*3
 ·have a:=Zfv d (t/3) (t%3) o_ o_;rw[show t/3*3+t%3=t by omega] at a;rw[a,Array.getElem?_toList];have b:t/3<d.length:=o_;simp only[Go.Sort.flatK]
  grind [Zo,Dn]
 rw[List.getElem?_eq_none t_,List.getElem?_eq_none (by rw[se];omega)]
def Zbw{w a g b m os P D}(d:D.length=P.length)(h:Mh w a (L_ g P.length b) P):Mh (Go.Proofs.sortWorldK Zo 3 w g 0 m D.toArray os) a (L_ g P.length b) D/\w.grownBy (Go.Proofs.sortWorldK Zo 3 w g 0 m D.toArray os) (some g):=by
 rcases h.2 with⟨e,_⟩|⟨g',cap',cur,e,hb,hg,hnc,hcm,hcs,htake⟩
 simp at e;simp only[Value.slice.injEq,Option.some.injEq,Addr.mk.injEq,and_true,true_and] at e;obtain⟨rfl,rfl⟩:=e;have c:=(Qb hg).1;have i:(Go.Sort.flatK Zo 3 D.toArray).size=P.length*3:=by simp[d]
 have f:(Go.Proofs.sortWorldK Zo 3 w g 0 m D.toArray os).heap[g]? =some (.cells (Go.Sort.putCells id 0 (Go.Sort.flatK Zo 3 D.toArray) cur) 184 (0,0)):=(by unfold Go.Proofs.sortWorldK Go.Sort.putRowK;rw[Go.Sort.heap_grow_old _ _ (by simpa using c)];simp[Go.Sort.putRow,Go.Sort.mapBlock,Go.Sort.ahead,Array.getElem?_modify,hg,Go.Sort.onCells]);refine⟨⟨by rw[se],.inr ⟨g,b,_,by simp[d],hb,f,o_,hcm,by simp[Go.Sort.putCells,hcs],?_⟩⟩,⟨rfl,rfl,rfl,?_,λk hk hne=>?_⟩⟩
 ·grind [Zes,lp]
 unfold Go.Proofs.sortWorldK Go.Sort.putRowK;simp;unfold Go.Proofs.sortWorldK Go.Sort.putRowK;rw[Go.Sort.heap_grow_old _ _ (by simpa using hk)];have:g≠k:=λe=>hne (by rw[e]);simp[Go.Sort.putRow,Go.Sort.mapBlock,Go.Sort.ahead,Array.getElem?_modify,this]
def Zdp{w a g b P}(h:Mh w a (L_ g P.length b) P):Go.Sort.HoldsK Zo 3 w g 0 P.toArray:=by
 intro j d
 have c:j<P.length*3:=by simpa using d
 refine⟨?_,?_⟩
 ·rw[Nat.zero_add,World.ownsRow.cellAt h j c,<- Zes]
  grind
 rw[Nat.zero_add];exact World.ownsRow.frozenAt h j
end
def Fp(D:List XS):Prop:=D.Pairwise λx y=>x.row<y.row∨x.row=y.row/\x.f<=y.f
def ZdH v a w (h:Mh w 0 v a)(y:a.length<=1000000):C_ 208 #[v,.func (.func 148) #[] #[]] w λe w'=>e=.returned (.tuple #[])/\(∃D:List XS,D.Perm a/\Fp D/\Mh w' 0 v D)/\w.grownBy w' v.ownBlock:=by
 haveI:Inhabited XS:=⟨⟨0,0,0⟩⟩
 have o:=h
 rcases h.2 with⟨rfl,h0⟩|⟨g,cap,cur,rfl,_,hh,_⟩
 have e:=List.length_eq_zero_iff.1 h0;subst e;refine(ZdF _ 0 w).mono ?_;rintro e w' ⟨rfl,rfl⟩;exact⟨rfl,⟨[],List.Perm.refl _,List.Pairwise.nil,h⟩,Bo _ _⟩;have q:=Zgl g cap _ w (Zdp o) (Qb hh).1 t_;rw[show a.toArray.size=a.length by simp] at q;refine q.mono ?_;rintro e w' ⟨rfl,b,m,p,c,d,rfl⟩;obtain⟨f,_,r⟩:=c;have n:b.size=a.length:=(by rw[f];simp);have s:b.toList.length=a.length:=o_;have l:=Zbw (m:=m) (os:=p) s o;rw[show b.toList.toArray=b by simp] at l;refine⟨rfl,⟨b.toList,?_,?_,l.1⟩,l.2⟩
 ·have x:b.extract 0 a.length=b:=by rw[<- n];simp
  grind
 unfold Fp;rw[List.pairwise_iff_getElem];intro i j u t k;simp at u t;have:=d i j qg_ k o_;rw[ltX] at this
 grind
end Go.Proofs.YtfcgnpchbcmdeaaGreat
namespace Go.Proofs.YtfcgnpchbcmdeaaGreat
set_option linter.all false
set_option maxRecDepth 100000
set_option maxHeartbeats 8000000
open Go.RowKit
def Za4:∀(zs:List Int) (x:Int) (i:Nat),x∈zs->0<=Lib.idxFrom zs x i/\Lib.idxFrom zs x i<(i+zs.length:Nat)
 |[],x,i,h=>by simp at h
 | z::zs,x,i,h=>by
  simp only[Lib.idxFrom];split;simp;omega;rename_i hne;have hm:x∈zs:=w_;have:=Za4 zs x (i+1) hm
  grind
theorem Sq:∀(zs:List Int) (a:Int),zs.foldl max a=a∨zs.foldl max a∈zs
 |[],a=>.inl rfl
 | z::zs,a=>by
  simp only[List.foldl_cons]
  rcases Sq zs (max a z) with h|h
  ·grind
  right;simp[h]
def ZfQ{a}(h:0<a.length):Lib.maxOf a∈a:=by
 cases a with
 |nil=>simp at h
 | cons z a=>
  have b:Lib.maxOf (z::a)=List.foldl max z a:=by first|rfl|(simp[Lib.maxOf])|(simp[Lib.maxOf,Int.max_def])
  grind [Sq]
def Zbj B {h}(a:0<h):0<=Vk B h/\Vk B h<h:=by have:=Za4 (Ci B h) (Lib.maxOf (Ci B h)) 0 (ZfQ (by rw[Cr];exact a));rw[Cr] at this;unfold Vk Lib.idxOf;omega
def Zm(e:ES)(B:List Nat):Nat:=(Vk B (e.cnt+2)).toNat
def Zen e B:Vk B (e.cnt+2)=(Zm e B:Nat):=by have:=Zbj B (show 0<e.cnt+2 by omega);unfold Zm;omega
def kF(es:List ES)(Bb:List (List Nat))(k:Nat):KS:=⟨es.getD k Ph,Zm (es.getD k Ph) (Bb.getD k [])⟩
def oF(es:List ES)(Bb:List (List Nat))(k:Nat):List Bool:=Dc (Bb.getD k []) (Zm (es.getD k Ph) (Bb.getD k []))
def Eb(es:List ES)(Bb:List (List Nat))(k:Nat):List KS:=(List.range k).map (kF es Bb)
def Gh(es:List ES)(Bb:List (List Nat))(k:Nat):List (List Bool):=(List.range k).map (oF es Bb)
theorem Dh b a k:(Eb b a k).length=k:=by simp[Eb]
def dj b a k:(Gh b a k).length=k:=by simp[Gh]
def Za8 b a k:Eb b a (k+1)=Eb b a k++[kF b a k]:=by simp[Eb,List.range_succ]
def Fi b a {n i}(h:i<n):(Eb b a n).getD i Ay=kF b a i:=by simp[Eb,List.getD,h]
def Lg b a {n i}(h:i<n):(Gh b a n).getD i []=oF b a i:=by simp[Gh,List.getD,h]
def So:∀(A B:List KS) (u v:List (Value×Value)),u.length=A.length->Gz (A++B) (u++v)=Gz A u++Gz B v
 |[],B,u,v,h=>by grind [Gz]
 | a ::A,B,u,v,h=>by
  cases u with
  |nil=>simp at h
  | cons x u=>
   simp only[List.cons_append,Gz,List.append_assoc];rw[So A B u v (by simpa using h)]
def ZjL:(Tryz.prog.info? 101).map (λi=>(i.zero,i.size,i.bytes))=some (some (.slice none 0 0),1,24):=k_
def ZfP(n:Nat)(f:n<=1000000) W:(Instr.makeSlice 309 (I_ n) (I_ n)).run Tryz.prog W=.ok (L_ W.heap.size n n) (W.alloc (.cells (madeCells #[.slice none 0 0] n) 101)):=by obtain⟨e,a,d,b,c⟩:=info_parts ZjL;have:=run_make (P:=Tryz.prog) W 309 101 e _ Tryz.underlying309 a d .i64 .i64 (n:Int) (n:Int) o_ o_ (by rw[c];omega) o_;rw[b] at this;rw[this,Int.toNat_natCast,Nat.mul_one];rfl
def ZfO n (W:World) a (c:n<=1000000)(b:a<=W.heap.size):(W.alloc (.cells (madeCells #[.slice none 0 0] n) 101)).ownsRow a 101 1 (L_ W.heap.size n n) n (List.replicate n (.slice none 0 0)):=by
 have:=World.ownsRow_lit (base:=a) (size:=1) (e:=101) W (madeCells #[.slice none 0 0] n) n b m_ (by simp[madeCells]);rw[Qu] at this
 simpa using this
def ZjN:(Tryz.prog.info? 172).map (λi=>(i.zero,i.size,i.bytes))=some (some (.agg #[.bool false,.slice none 0 0,.slice none 0 0,I_ 0]),4,64):=k_
structure Po(m n)(es:List ES)(Bb:List (List Nat)):Prop where
 le:es.length=m+1
 lb:∀i,i<m+1->(Bb.getD i []).length=n
 ok:∀i,i<m+1->Ol (es.getD i Ph)
 cn:∀i,i<m+1->(es.getD i Ph).cnt<=16
 bin:∀i,i<m+1->∀b∈Bb.getD i [],b<(es.getD i Ph).cnt+2
def Z4(w:World)(q:Nat):Prop:=w.heap[q]? =some (.cells #[.bool false,.slice none 0 0,.slice none 0 0,I_ 0] 172 (0,0))
def Z4.cells{w b}(h:Z4 w b):w.cell? (A_ b 0)=some (.bool false)/\w.cell? (A_ b 1)=some (.slice none 0 0)/\w.cell? (A_ b 2)=some (.slice none 0 0)/\w.cell? (A_ b 3)=some (I_ 0)/\(∀o,w.frozen? (A_ b o)=false):=by unfold Z4 at h;refine⟨?_,?_,?_,?_,λo=>fr_ w b o _ _ h⟩<;>simp[World.cell?,h]
def Z4.new{w:World}{q}(h:q=w.heap.size):Z4 (w.alloc (.cells #[.bool false,.slice none 0 0,.slice none 0 0,I_ 0] 172)) q:=by subst h;exact ha_ w _
def Z4.drew{w q}(h:Z4 w q):Z4 w.drew q:=h
def Z4.call{w w' q}(h:Z4 w q)(hb:Below w.heap.size w w'):Z4 w' q:=(hb.block q (Qb h).1).trans h
def Z4.fill{w q}(h:Z4 w q) a b c d:((((w.setCell (A_ q 0) a).setCell (A_ q 1) b).setCell (A_ q 2) c).setCell (A_ q 3) d).heap[q]? =some (.cells #[a,b,c,d] 172 (0,0)):=
 hs_ _ q 3 _ 172 _ (hs_ _ q 2 _ 172 _ (hs_ _ q 1 _ 172 _ (hs_ _ q 0 _ 172 _ h)))
def Aa.to_below{S a b B}(h:Aa S a b)(hB:B<=a.heap.size)(hs:∀q,S q->B<=q):Below B a b:=
 ⟨h.os,h.tape,h.output,h.size,λk hk=>h.block k o_ (λe=>w_)⟩
structure Mu(base)(w0 wr:World)(db qo n k j:Nat)(vK)(kvs)(ovs)(es)(Bb):Prop where
 blk:wr.heap[db]? =some (.cells #[vK,.slice none 0 0,.slice none 0 0] 168 (0,0))
 kn:Mv base wr vK kvs (Eb es Bb k)
 orow:wr.ownsRow 0 101 1 (L_ qo n n) n ovs
 oeach:∀i,i<j->Ev wr 0 (ovs.getD i (.slice none 0 0)) (oF es Bb i)
 bl:E_ w0 wr
 kb:∀q,vK.ownBlock=some q->w0.heap.size<=q
def Mu.below{w0 wr w2 base db qo n k j vK kvs ovs es Bb}(h:Mu base w0 wr db qo n k j vK kvs ovs es Bb)(hb:Below wr.heap.size wr w2):Mu base w0 w2 db qo n k j vK kvs ovs es Bb:=
 ⟨(hb.block db (Qb h.blk).1).trans h.blk,h.kn.below hb,(Aa.of_below (S:=λ_=>False) hb).row h.orow (λ_ _=>id),λi hi=>(h.oeach i hi).below hb,h.bl.trans (hb.mono h.bl.size),h.kb⟩
def Mu.feat{z W u a f B n k w v6 vb vw b x l j}(h:Mu a z W f B n k k w b x l j)(A:z.heap.size<=f)(g:W.grownBy u w.ownBlock)(r:u.ownsRow 0 172 4 v6 (k+1) (Gz (Eb l j k) b++Cf (kF l j k) (vb,vw)))(d:v6.ownBlock=w.ownBlock∨v6.ownBlock=some W.heap.size/\Below W.heap.size W u)(D:Ag W a vb (kF l j k).e.bs)(C:Cc W a vw (kF l j k).e.ww):Mu a z (u.setCell (A_ f 0) v6) f B n (k+1) k v6 (b++[(vb,vw)]) x l j/\Aa (λq=>w.ownBlock=some q∨q=f) W (u.setCell (A_ f 0) v6):=by
 have t:=(Aa.refl _ W).grown g (λk hk _=>hk);have c:=t.at_ h.blk (λe=>Au h.kn.row e h.blk d_ rfl);have T:Aa (λq=>_∨q=f) W _:=((Aa.refl _ W).grown g (λk hk _=>.inl hk)).setCell (p:=(A_ f 0)) (λ_=>.inr rfl) v6
 have o:∀{a e size m:Nat} {v xs},W.ownsRow a e size v m xs->e≠172->e≠168->∀q,v.ownBlock=some q->¬(w.ownBlock=some q∨q=f):=λhr s h2 q hq hs=>by
  obtain⟨E,H⟩:=Ad hr hq
  rcases hs with e|e
  ·obtain⟨I,F⟩:=Ad h.kn.row e
   grind
  subst e;rw[h.blk] at H
  grind
 refine⟨⟨ht_ 0 _ _ _ c,⟨?_,?_,λi hi=>?_⟩,T.row h.orow (o h.orow d_ d_),λi hi=>T.row (h.oeach i hi) (o (h.oeach i hi) d_ d_),(h.bl.grown g h.bl.size (λq hq=>h.kb q hq)).setCell A _,λq hq=>?_⟩,T⟩;rw[Dh];have e:Gz (Eb l j (k+1)) (b++[(vb,vw)])=Gz (Eb l j k) b++Cf (kF l j k) (vb,vw):=(by rw[Za8,So _ _ _ _ h.kn.len];simp[Gz]);rw[e];exact As r c d_;rw[Qe,h.kn.len,Dh,Dh];rfl
 ·rw[Dh] at hi;have J:b.length=k:=by rw[h.kn.len,Dh]
  by_cases hik:i<k
  have y:(b++[(vb,vw)]).getD i Oi=b.getD i Oi:=w_;have s:=h.kn.each i (by rw[Dh];exact hik);rw[y,Fi _ _ hi];rw[Fi _ _ hik] at s;exact⟨T.row s.1 (o s.1 d_ d_),T.row s.2 (o s.2 d_ d_)⟩;have G:i=k:=o_;subst G;have y:(b++[(vb,vw)]).getD i Oi=(vb,vw):=w_;rw[y,Fi _ _ hi];exact⟨T.row D (o D d_ d_),T.row C (o C d_ d_)⟩
 rcases d with e|e
 exact h.kb q (e ▸ hq);rw[e.1] at hq;injection hq with hq;have:=h.bl.size;omega
def Mu.out{j W a r c n k t v d b o f}(h:Mu a j W r c n (k+1) k t d b o f)(l:j.heap.size<=c)(B:k<n)(x:Ev W 0 v (oF o f k)):Mu a j (W.setCell (A_ c k) v) r c n (k+1) (k+1) t d (b.set k v) o f:=by
 obtain⟨y,z⟩:=Ad h.orow (k:=c) rfl;have T:=(Aa.refl (λq=>q=c) W).setCell (p:=(A_ c k)) (λ_=>rfl) v;have s:∀{a e size m:Nat} {u:_} {xs:_},W.ownsRow a e size u m xs->e≠101->∀q,_->¬q=c:=λhr w q hq e=>Au hr hq z w e;have A:b.length=n:=(by have:=h.orow.1;omega);refine⟨T.at_ h.blk (λe=>?_),h.kn.touch T (λq cur2 ty hq hty e=>?_),(World.ownsRow.stored h.orow k v).1,λi hi=>?_,h.bl.setCell l v,h.kb⟩
 ·have w:=h.blk
  grind
 ·grind
 by_cases hik:i=k
 subst hik;have g:(b.set i v).getD i (.slice none 0 0)=v:=w_;rw[g];exact T.row x (s x d_);have g:(b.set k v).getD i (.slice none 0 0)=b.getD i (.slice none 0 0):=w_;rw[g];exact T.row (h.oeach i o_) (s (h.oeach i o_) d_)
def Mu.outs{w0 wr base db qo n vK kvs ovs es Bb}(h:Mu base w0 wr db qo n n n vK kvs ovs es Bb):Ho wr (L_ qo n n) ovs (Gh es Bb n):=
 ⟨by rw[dj];exact h.orow,λi hi=>by rw[dj] at hi;rw[Lg _ _ hi];exact h.oeach i hi⟩
def Du(Ks:List KS)(fs:List Nat):Nat:=(fs.map (λf=>(Ks.getD f Ay).many)).sum
def uo a b f:Du a (b++[f])=Du a b+(a.getD f Ay).many:=by simp[Du]
def Py Ks Os Bb n:∀fs s,(fs.foldl (Ap Ks Os Bb n) s).off=s.off+Du Ks fs
 |[],s=>by simp[Du]
 |f::fs,s=>by simp only[List.foldl_cons];rw[Py Ks Os Bb n fs];simp[Du,Ap];omega
theorem gm Ks Os Bb n xs fs:(Ij Ks Os Bb n xs fs).off=1+Du Ks fs:=Py Ks Os Bb n fs _
structure nh(m n k)(Ks)(G:GS):Prop where
 out:G.out.length=n
 fs:∀f∈G.fs,f<m+1
 sum:G.bins=Du Ks G.fs
 bins:G.bins<=40
 len:G.fs.length<=k
def nh.step{m n k budget f Ks Os Gs}(h:∀G∈Gs,nh m n k Ks G)(hO:(Os.getD f []).length=n)(hf:f<m+1)(hm:(Ks.getD f Ay).many<=40):∀G∈Bc Ks Os n budget Gs f,nh m n (k+1) Ks G:=λG hG=>by
 unfold Bc at hG;split at hG
 ·rename_i hi
  rcases List.mem_or_eq_of_mem_set hG with hin|e
  obtain⟨a,b,c,d,e⟩:=h G hin;exact⟨a,b,c,d,o_⟩;have hroom:=List.findIdx_getElem (w:=hi);have hG0:Gs.getD (Gs.findIdx (Fd (Os.getD f []) (Ks.getD f Ay).many budget)) Fq=Gs[Gs.findIdx (Fd (Os.getD f []) (Ks.getD f Ay).many budget)]:=w_;rw[hG0] at e;obtain⟨a1,a2,a3,a4,a5⟩:=h _ (Qf hi);generalize Gs[Gs.findIdx (Fd (Os.getD f []) (Ks.getD f Ay).many budget)]=G0 at *;subst e;unfold Fd at hroom;simp only[Bool.and_eq_true,decide_eq_true_eq] at hroom;refine⟨?_,?_,?_,hroom.2,?_⟩;show(orL G0.out _).length=n;rw[Kc (by rw[a1,hO])];exact a1
  ·intro x hx
   rcases List.mem_append.1 hx with hx|hx
   exact a2 x hx
   grind
  show G0.bins+_=Du Ks (G0.fs++[f]);rw[uo,a3];show(G0.fs++[f]).length<=k+1;simp;omega
 rcases List.mem_append.1 hG with hin|e
 obtain⟨a,b,c,d,e⟩:=h G hin;exact⟨a,b,c,d,o_⟩;simp only[List.mem_cons,List.not_mem_nil,or_false] at e;subst e;refine⟨?_,?_,?_,?_,?_⟩;show(orL (List.replicate n false) _).length=n;rw[Kc (by rw[hO];simp)];simp
 ·grind [Te,Im]
 simp[Te,Im,Du];show 0+(Ks.getD f Ay).many<=40;omega;simp[Te,Im]
theorem Zba d c n a b f:(Bc d c n a b f).length<=b.length+1:=by unfold Bc;split<;>simp
def yq{m n budget Ks Os}(hO:∀i,i<m+1->(Os.getD i []).length=n)(hm:∀i,i<m+1->(Ks.getD i Ay).many<=40):∀(fs:List Nat) k Gs,(∀f∈fs,f<m+1)->(∀G∈Gs,nh m n k Ks G)->(∀G∈fs.foldl (Bc Ks Os n budget) Gs,nh m n (k+fs.length) Ks G)/\(fs.foldl (Bc Ks Os n budget) Gs).length<=Gs.length+fs.length
 |[],k,Gs,_,h=>⟨h,s_⟩
 | f::fs,k,Gs,hf,h=>by
  have hf0:=hf f s_;obtain⟨i1,i2⟩:=yq (budget:=budget) hO hm fs (k+1) (Bc Ks Os n budget Gs f) (λx hx=>hf x (by simp[hx])) (nh.step h (hO f hf0) hf0 (hm f hf0))
  grind [Zba]
def iv{m n budget Ks a}(b:∀i,i<m+1->(a.getD i []).length=n)(c:∀i,i<m+1->(Ks.getD i Ay).many<=40):(∀G∈Ha m Ks a n budget,nh m n (m+1) Ks G)/\(Ha m Ks a n budget).length<=m+1:=by
 have h:=yq (budget:=budget) b c _ 0 [] (λf hf=>di m a f hf) (λG hG=>by simp at hG);rw[Jl] at h
 simpa [Ha] using h
def Ew(Os:List (List Bool))(Bb:List (List Nat))(n:Nat)(Ks:List KS)(Gs:List GS):Zh:=Gs.foldl (Js Os Bb n) ⟨Ks,[],[]⟩
def vx Os Bb n:∀(Gs:List GS) D,(Gs.foldl (Js Os Bb n) D).ks=D.ks
 |[],D=>rfl
 |G::Gs,D=>by simp only[List.foldl_cons];rw[vx Os Bb n Gs];rfl
theorem Kw Os Bb n Ks Gs:(Ew Os Bb n Ks Gs).ks=Ks:=vx Os Bb n Gs _
def Zcm c b n d (a:List GS){i}(e:i<a.length):Ew c b n d (a.take (i+1))=Js c b n (Ew c b n d (a.take i)) (a.getD i Fq):=by
 unfold Ew
 grind [Qi]
def Zaq b a n:∀(Gs:List GS) D,(∀G∈Gs,G.fs.length<=4)->(Gs.foldl (Js b a n) D).bs.length=D.bs.length+Gs.length/\(Gs.foldl (Js b a n) D).xs.length<=D.xs.length+Gs.length*(4*n)
 |[],D,_=>⟨rfl,s_⟩
 | G ::Gs,D,h=>by
  simp only[List.foldl_cons];obtain⟨i1,i2⟩:=Zaq b a n Gs (Js b a n D G) (λx hx=>h x (by simp[hx]));have h1:=(Lv D.ks b a n G.fs ⟨List.replicate n 0,D.xs,1⟩ s_).2;have h2:_<=4*n:=Nat.mul_le_mul_right _ (h G s_);have e1:(Js b a n D G).bs.length=D.bs.length+1:=by simp[Js]
  have c:(Js b a n D G).xs.length<=D.xs.length+4*n:=by
   show(Ij D.ks b a n D.xs G.fs).xs.length<=_;unfold Ij
   grind
  refine⟨w_,?_⟩;rw[List.length_cons,Nat.add_mul,Nat.one_mul];omega
def Zfb c b {n} d {a}(h:∀G∈a,G.fs.length<=4)(j:n<=200)(e:a.length<=4):(Ew c b n d a).bs.length<=4/\(Ew c b n d a).xs.length<=4000:=by
 obtain⟨f,g⟩:=Zaq c b n a ⟨d,[],[]⟩ h;have i:_*(4*n)<=4*800:=Nat.mul_le_mul e o_
 grind [Ew]
def Ao(m n budget:Nat)(es:List ES)(Bb:List (List Nat)):Zh:=Ew (Gh es Bb (m+1)) Bb n (Eb es Bb (m+1)) (Ha m (Eb es Bb (m+1)) (Gh es Bb (m+1)) n budget)
structure Sm(w)(db)(vK vB vX)(kvs bvs)(X)(D:Zh):Prop where
 ds:DsX w db vK vB vX bvs D.bs X
 kn:ZgK w vK kvs D.ks
 perm:X.Perm D.xs
 sorted:Fp X
structure ZlN(base)(w)(db)(vK vB vX)(kvs bvs)(X)(D:Zh):Prop where
 ds:Ye base w db vK vB vX bvs D.bs X
 kn:Mv base w vK kvs D.ks
 perm:X.Perm D.xs
 sorted:Fp X
 nk:∀q,vK.ownBlock=some q->base<=q
 nb:∀q,vB.ownBlock=some q->base<=q
 nx:∀q,vX.ownBlock=some q->base<=q
def Tc(base:Nat)(w:World)(db:Nat)(D:Zh):Prop:=∃vK vB vX kvs bvs X,ZlN base w db vK vB vX kvs bvs X D
def ZkD(w:World)(db:Nat)(D:Zh):Prop:=∃vK vB vX kvs bvs X,Sm w db vK vB vX kvs bvs X D
def Tc.zero{a w d D}(h:Tc a w d D):ZkD w d D:=by obtain⟨g,f,e,b,c,X,h⟩:=h;exact⟨g,f,e,b,c,X,h.ds.mono qg_,h.kn.mono qg_,h.perm,h.sorted⟩
def Ye.sorted{w g a i l j b d m q X}(h:Ye a w i l j b d m q)(n:w.grownBy g b.ownBlock)(o:Mh g 0 b X):Ye a g i l j b d m X/\Aa (λk=>b.ownBlock=some k) w g/\ay (λk=>b.ownBlock=some k) w:=by have t:=(Aa.refl _ w).grown n (λk hk _=>hk);have f:ay _ w:=λk cur ty hk hs=>h.sty k _ _ hk (.inr (.inr hs));refine⟨⟨t.at_ h.blk (λe=>Au h.xn e h.blk d_ rfl),h.bn.touch t (λk hk hk2=>?_) f,o⟩,t,f⟩;obtain⟨c,p⟩:=Ad h.bn.row hk;exact Au h.xn hk2 p d_ rfl
structure ZgS(base)(w2 wr)(db)(vK vB vX)(bvs)(D:Zh):Prop where
 ds:Ye base wr db vK vB vX bvs D.bs D.xs
 t:Aa (λq=>q=db) w2 wr
 nb:∀q,DsS db vB vX q->q=db∨w2.heap.size<=q
def ZgS.added{j wr i a b d k g f D c}(h:ZgS a j wr b d k g f D)(m:dv a wr i b d k g c.bs c.xs):∃vB' vX' bvs',ZgS a j i b d vB' vX' bvs' c:=by
 obtain⟨vB',vX',bvs',o,n,l⟩:=m;refine⟨vB',vX',bvs',o,h.t.trans2 n (λz hz=>h.nb z hz),λq hq=>?_⟩
 rcases l q hq with e|e
 exact h.nb q e;have:=h.t.size;exact .inr o_
def Zil{w:World}{a e b n:Nat}{v f}(h:w.ownsRow 0 e b v n f)(i:∀k,v.ownBlock=some k->a<=k):w.ownsRow a e b v n f:=by
 refine⟨h.1,?_⟩
 rcases h.2 with j|⟨g,c,d,rfl,_,r⟩
 exact .inl j;exact .inr ⟨g,c,d,rfl,i g rfl,r⟩
def Zh5(M m n d qf fc:Nat) cM g f w (hm:m+1<=4)(hn:n<=200)(hb:d<=20)(dT:M<=w.heap.size)(hF:Ub M w (L_ qf (m+1) fc) cM g f)(hk:Po m n g f):C_ 157 #[.slice (some ⟨qf,0,none⟩) (m+1) fc,.int .i64 d] w λe w'=>e=.returned (.pointer (some ⟨w.heap.size,0,none⟩))/\Tc M w' w.heap.size (Ao m n d g f)/\Below w.heap.size w w':=by
 have HF:=x1_ hF;have HK:=x1_ hk;have dF:∀W:_,(Instr.makeSlice 309 (.int _ ((m:Int)+1)) (.int _ ((m:Int)+1))).run _ W=_:=ZfP (m+1) o_;clear hF hk;go_enter Tryz.func157,Tryz.ntmps157;go_wp2_with fail
 go_loopw [19] (λti wr=>∃(k:Nat) (vK:Value) (H:List (Value×Value)) (Q:List Value),ti=.int .i64 k/\k<=m+1/\Hid (Mu M w wr w.heap.size (w.heap.size+1) (m+1) k k vK H Q g f)) (λti _=>m+1-(intOf ti).toNat)
 case atStart=>
  refine⟨0,.slice none 0 0,[],List.replicate (m+1) (.slice none 0 0),rfl,qg_,?_⟩;refine⟨?_,⟨rn_,rfl,λi z=>by simp[Eb] at z⟩,?_,λi z=>o_,?_,λq hq=>by simp[Value.ownBlock] at hq⟩;exact(hc_ s_).trans (ha_ w _);have:=ZfO (m+1) (w.alloc (.cells #[.slice none 0 0,.slice none 0 0,.slice none 0 0] 168)) 0 o_ qg_;rw[show(w.alloc (.cells #[.slice none 0 0,.slice none 0 0,.slice none 0 0] 168)).heap.size=w.heap.size+1 by simp] at this;exact this;exact bA_.alloc s_ _
 case round=>
  clear dF;obtain⟨k,vK,H,Q,rfl,fH,l⟩:=hrel;have fG:=l.bl.size
  by_cases hkl:k<m+1
  ·have aY:=HF.out.below l.out.bl;obtain⟨f6,b0,b1,b2,b3⟩:=aY.cells (i:=k) (by rw[HK.le];exact hkl);have E:=aY.each k (by rw[HK.le];exact hkl);have a4:=HK.lb k hkl;have fF:=HK.cn k hkl;have aM:=HK.bin k hkl;obtain⟨V,Z,bG⟩:=E.1.shape;obtain⟨aw,cw,b6⟩:=E.2.1.form;obtain⟨ax,cx,aJ⟩:=E.2.2.shape;rw[Aw,a4] at aJ;rw[bG] at b1;rw[b6] at b2;rw[aJ] at b3;have a7:=x4_ (bG ▸ E.1) (b6 ▸ E.2.1) (aJ ▸ E.2.2) a4;have a1:(g.getD k Ph).cnt=Ky _ _ _:=rfl
   have cB:Hid (∀W:World,C_ 146 #[.agg #[.bool (g.getD k Ph).wd,.slice V (g.getD k Ph).bs.length Z,.slice aw (g.getD k Ph).ww.length cw]] W λe w'=>e=.returned (.int .i64 ((g.getD k Ph).cnt+2:Nat))/\E_ W w'):=λW=>by have e:((g.getD k Ph).cnt+2:Nat)=((Ky (g.getD k Ph).wd (g.getD k Ph).bs.length (g.getD k Ph).ww.length:Nat):Int)+2:=(by rw[a1];omega);rw[e];exact Ji _ _ _ _ _ _ _ W (by rw[<- a1];omega)
   have bS:Hid (∀W:World,E_ wr W->C_ 204 #[.slice ax n cx,.int .i64 ((g.getD k Ph).cnt+2:Nat)] W λe w'=>e=.returned (.int .i64 (Zm (g.getD k Ph) (f.getD k []):Nat))/\E_ W w'):=λW hW=>by rw[<- Zen];exact Xj _ n _ _ _ W (a7.2.2.1.below hW) a4 hn aM o_ o_
   have S:Hid (∀W:_,_->Calls _ _ _ W λe w'=>∃v,_/\Ev w' _ v (oF g f k)/\_):=λW hW=>Zx ax n cx _ _ W hW a4 hn;have aV:Hid (kF g f k=⟨_,_⟩):=rfl;clear aY E a4 aM bG b6 aJ a1;generalize Zm (g.getD k Ph) (f.getD k [])=dk at *;generalize g.getD k Ph=ek at *;generalize hwd:ek.wd=wd at *;generalize hnb:ek.bs.length=nb at *;generalize hnw:ek.ww.length=nw at *;generalize ek.cnt=cn at *;have fT:0<=(k:Int):=o_;have fK:k<(m:Int)+1:=o_;have d7:=x3_ hwd hnb hnw;clear hwd hnb hnw;go_upto_region 6 with fail;generalize hw1:wr.alloc (.cells #[.bool wd,.slice V nb Z,.slice aw nw cw,.slice ax n cx] 266)=w1;have cJ:Hid (∃F,w1.heap[wr.heap.size]? =some (.cells F _ _)):=⟨_,by rw[<- hw1];exact hn_⟩
   have dH:w1.heap.size=wr.heap.size+1:=(by rw[<- hw1];simp);have aW:Hid (E_ wr w1):=(by show Below _ _ _;rw[<- hw1];exact bA_);have e0:w1.cell? (A_ wr.heap.size 0)=some (.bool wd):=(by rw[<- hw1];simp[go_sem]);have e1:w1.cell? (A_ wr.heap.size 1)=some (.slice V nb Z):=(by rw[<- hw1];simp[go_sem]);have e2:w1.cell? (A_ wr.heap.size 2)=some (.slice aw nw cw):=(by rw[<- hw1];simp[go_sem]);have e3:w1.cell? (A_ wr.heap.size 3)=some (.slice ax n cx):=(by rw[<- hw1];simp[go_sem]);have l1:wr.heap.size<w1.heap.size:=o_;clear hw1 b0 b1 b2 b3 dH;go_cut [9] (λv wx=>∃kb,v=.pointer (some ⟨kb,0,none⟩)/\Hid (w1.heap.size<=kb/\wx.heap[kb]? =some (.cells #[.bool wd,.slice V nb Z,.slice aw nw cw,.int .i64 (dk:Nat)] 172 (0,0))/\E_ w1 wx))
   case first=>
    go_region_held3 (λw'=>w'.cell? (A_ wr.heap.size 0)=some (.bool wd)/\w'.cell? (A_ wr.heap.size 1)=some (.slice V nb Z)/\w'.cell? (A_ wr.heap.size 2)=some (.slice aw nw cw)/\w'.cell? (A_ wr.heap.size 3)=some (.slice ax n cx)) (exact⟨(Below.cell (B:=w1.heap.size) (w:=w1) (p:=(A_ wr.heap.size 0)) e_ l1).trans e0,(Below.cell (B:=w1.heap.size) (w:=w1) (p:=(A_ wr.heap.size 1)) e_ l1).trans e1,(Below.cell (B:=w1.heap.size) (w:=w1) (p:=(A_ wr.heap.size 2)) e_ l1).trans e2,(Below.cell (B:=w1.heap.size) (w:=w1) (p:=(A_ wr.heap.size 3)) e_ l1).trans e3⟩) (first|(go_at_call 146;refine(cB _).mono ?_;rintro e w2 ⟨rfl,o⟩;have bR:E_ w1 w2:=Below.trans e_ (o.mono f_);have aN:=bR.size;(try((first|(have hA:Z4 w2 w1.heap.size:=Z4.call (Z4.drew (Z4.new (Eq.refl _))) o)|(have hA:Z4 w2 w1.heap.size:=Z4.call (Z4.new (Eq.refl _)) o));obtain⟨z0,z1,z2,z3,zf⟩:=hA.cells;have fO:=zf 0;have fA:=zf 1;have fM:=zf 2;have fC:=zf 3;clear zf));clear o)|(go_at_call 204;refine(bS _ (aW.trans (Below.mono e_ (by omega:wr.heap.size<=w1.heap.size)))).mono ?_;rintro e T ⟨rfl,L⟩;have aQ:E_ w1 T:=Below.trans e_ (L.mono f_);have aO:=aQ.size;(try((first|(have I:Z4 T w1.heap.size:=Z4.call hA L)|(have I:Z4 T w1.heap.size:=Z4.call (Z4.drew hA) L));obtain⟨y0,y1,y2,y3,yf⟩:=I.cells;have dV:=yf 0;have dD:=yf 1;have dS:=yf 2;have dU:=yf 3;clear yf));(try((first|(have I:Z4 T w2.heap.size:=Z4.call (Z4.new (Eq.refl _)) L)|(have I:Z4 T w2.heap.size:=Z4.call (Z4.drew (Z4.new (Eq.refl _))) L));obtain⟨y0,y1,y2,y3,yf⟩:=I.cells;have dV:=yf 0;have dD:=yf 1;have dS:=yf 2;have dU:=yf 3;clear yf));clear L))
    all_goals go_wp2
    all_goals go_meet
    exact⟨_,rfl,aO,hn_,by repeat(first|assumption|(refine Below.alloc ?_ aO _))⟩;exact⟨_,rfl,aN,I.fill _ _ _ _,by repeat(first|assumption|(refine Below.setCell ?_ aN _))⟩;exact⟨_,rfl,qa_,I.fill _ _ _ _,by refine Below.setCell (Below.setCell (Below.setCell (Below.setCell aQ ?_ _) ?_ _) ?_ _) ?_ _<;>exact qa_⟩
   case rest=>
   clear cB bS;obtain⟨kb,rfl,HC⟩:=hcut;have aA:=aW.trans (HC.2.2.mono (Nat.le_of_lt l1));have HZ:=x1_ (l.below aA);have c3:=(HC.2.2.cell (p:=(A_ wr.heap.size 3)) l1).trans e3;have R:=x3_ (a7.1.below aA) (a7.2.1.below aA) (a7.2.2.1.below aA);have dY:=Qh l1 HC.1;have c7:=(Qb HC.2.1).1;have D:=x1_ HC.2.1;have dE:Hid (∃F,wc.heap[wr.heap.size]? =some (.cells F 266 (0,0))):=by obtain⟨c,hc⟩:=cJ;exact⟨c,(HC.2.2.block _ l1).trans hc⟩
   have dN:Hid (¬vK.ownBlock=some kb):=λe=>by obtain⟨c,hc⟩:=Ad l.kn.row e;have:=(Qb hc).1;omega
   have J:=(Qb l.blk).1;clear l aW a7 HC aA e0 e1 e2 e3
   obtain⟨ka,kc,aL⟩:∃a c,vK=.slice a k c:=by
    have h1:=HZ.kn.row;rw[Dh] at h1
    rcases h1.2 with⟨rfl,h0⟩|⟨q,p,F,rfl,_⟩
    exact⟨none,0,by rw[h0]⟩;exact⟨_,_,rfl⟩
   subst aL;have aI:Hid (wc.ownsRow 0 172 4 (.slice ka k kc) k (Gz (Eb g f k) H)):=(by have h1:=HZ.kn.row;rw[Dh] at h1;exact h1);have aF:=cR_ 0 HZ.blk;have bD:=cR_ 0 D;have aZ:=cR_ 1 D;have bC:=cR_ 2 D;have b7:=cR_ 3 D;have fI:w.heap.size<wc.heap.size:=o_;obtain⟨j0,bN,dM,dG,dC⟩:=info_parts ZjN;go_upto_region 7 with fail;refine Al (λw'=>w'.cell? _=some _/\w'.cell? _=some _/\w'.cell? _=some _/\w'.cell? _=some _/\w'.cell? _=some _) 10 k_ ⟨aF,bD,aZ,bC,b7⟩ (λhHeld=>?_);refine Ah 0 ?_;refine Ah 1 ?_;refine Ah 2 ?_;refine Ah 3 ?_;refine Tx [7,8,9,10] 4 (v:=?_) ?_ ?_
   rotate_left
   ·intro w b5;try obtain⟨_,_,_,_,_⟩:=b5
    go_simp;try with_reducible rfl
   try simp only[Act.put,sA,sB,sC]
   refine Tx [6,7,8,9,10] 5 (v:=?_) ?_ ?_
   rotate_left
   ·intro w b5;try obtain⟨_,_,_,_,_⟩:=b5
    go_simp;try with_reducible rfl
   try simp only[Act.put,sA,sB,sC]
   refine Af (i:=6) k_ rfl (λKK hK=>?_);go_simp;refine hK _ _ ⟨(Below.cell (B:=wc.drew.heap.size) (p:=(A_ w.heap.size 0)) bA_ t_).trans aF,(Below.cell (B:=wc.drew.heap.size) (p:=(A_ kb 0)) bA_ t_).trans bD,(Below.cell (B:=wc.drew.heap.size) (p:=(A_ kb 1)) bA_ t_).trans aZ,(Below.cell (B:=wc.drew.heap.size) (p:=(A_ kb 2)) bA_ t_).trans bC,(Below.cell (B:=wc.drew.heap.size) (p:=(A_ kb 3)) bA_ t_).trans b7⟩ (λhHeld=>?_);clear hK KK;try simp only[Act.put,sA,sB,sC]
   refine Af (i:=7) k_ rfl (λKK hK=>?_);refine Az rfl (.tmp 37) (.tmp 39) 164 rfl 0 172 j0 _ 4 64 Tryz.underlying164 bN dM dG dC rfl d_ (.slice ka k kc) k (Gz (Eb g f k) H) j_ (ra_ (w:=wc.drew) aI _) (A_ wc.heap.size 0) 1 1 [.bool wd,.slice V nb Z,.slice aw nw cw,I_ (dk:Nat)] j_ rfl (Am wc.drew _ 172) i_ d_ m_ o_ s_ ?_;intro v6 w6 H6;obtain⟨r6,g6,d6,_,q6,p6,d9⟩:=H6;have aE:=HZ.below ((bz_.drew).alloc qa_ (.cells #[.bool wd,.slice V nb Z,.slice aw nw cw,I_ (dk:Nat)] 172))
   have aC:E_ wc (wc.drew.alloc (.cells #[.bool wd,.slice V nb Z,.slice aw nw cw,I_ dk] 172)):=(bz_.drew).alloc qa_ _;have bZ:Cf (kF g f k) (.slice V nb Z,.slice aw nw cw)=[.bool wd,.slice V nb Z,.slice aw nw cw,I_ dk]:=by rw[aV];simp[Cf,d7.out.1]
   obtain⟨cA,bO⟩:=aE.feat (v6:=v6) (vb:=.slice V nb Z) (vw:=.slice aw nw cw) qa_ g6 (by rw[bZ];exact r6) d6 (by rw[aV];exact R.1.below aC) (by rw[aV];exact R.2.1.below aC);have bV:=x1_ cA;have t6:Aa _ (wc.drew.alloc (.cells _ 172)) _:=(Aa.refl _ _).grown g6 (λk hk _=>hk);have aX:¬_:=λe=>dN e;have Y:=t6.at_ ((aC.block _ c7).trans D) aX;have C:=t6.at_ aE.blk (λe=>Au aE.kn.row e aE.blk d_ rfl);have cG:=cR_ 0 C;have dQ:=fq_ 0 _ _ C;have cC:=cR_ 0 Y;have c9:=cR_ 1 Y;have bW:=cR_ 2 Y;have cQ:=cR_ 3 Y;have T6:=(Aa.of_below aC).trans bO;have dI:¬kb=w.heap.size:=o_;have dL:(w6.setCell _ _).cell? _=some (.int _ _):=cq_ 3 _ _ _ (T6.at_ D (λe=>e.elim aX dI))
   have dA:(w6.setCell (A_ w.heap.size 0) v6).cell? (A_ wr.heap.size 3)=some (.slice ax n cx):=by obtain⟨F,a6⟩:=dE;rw[cb_ (a:=(A_ wr.heap.size 3)) (T6.block wr.heap.size o_ (λe=>e.elim (λe=>Au aI e a6 d_ rfl) (λe=>o_)))];exact c3
   have cH:Hid (Ag (w6.setCell (A_ w.heap.size 0) v6) 0 (.slice ax n cx) (Av (f.getD k []))):=T6.row R.2.2 (λq hq e=>e.elim (λe=>by
    obtain⟨c1,h1⟩:=Ad R.2.2 hq
    exact Au aI e h1 d_ rfl) (λe=>Au R.2.2 hq HZ.blk d_ e))
   have f9:=T6.size;subst d9;clear r6 g6 d6 aE aC bZ cA bO t6 Y C T6 HZ R D aI;refine hK _ _ ⟨cG,cC,c9,bW,cQ⟩ (λhHeld=>?_);clear hK KK;try simp only[Act.put,sA,sB,sC]
   refine Ah 8 ?_;refine Ah 9 ?_;refine Ai (i:=10) k_ rfl k_ (λKK hK=>?_);go_simp;refine hK _ _ ?_;clear hK KK;try simp only[Act.put,sA,sB,sC]
   refine Ak k_ ?_ _;have co:_=(w6.setCell (A_ w.heap.size 0) (L_ q6 (k+1) p6)).heap.size:=rfl;clear co;generalize w6.setCell (A_ w.heap.size 0) (L_ q6 (k+1) p6)=w7 at *;clear cG dQ cC c9 bW cQ hHeld bD aZ bC b7 aF c3;go_wp2_with fail
   refine(S _ cH).mono ?_;rintro e w8 ⟨v8,rfl,bE,cY⟩;have a9:=bV.below cY;have bP:Q.length=m+1:=by have:=a9.orow.1;omega
   have c8:w8.cell? (A_ (w.heap.size+1) k)=some (Q.getD k (.slice none 0 0)):=(by rw[World.ownsRow.cellAt a9.orow k o_];simp[List.getD,bP,hkl]);have f8:w8.frozen? (A_ (w.heap.size+1) k)=false:=by obtain⟨F,a6⟩:=Ad a9.orow (k:=w.heap.size+1) rfl;exact fq_ k _ _ a6
   have HN:=x1_ (a9.out (Nat.le_succ _) hkl (bE.mono qg_));obtain⟨a8,p8,dR⟩:=bE.shape;subst dR;clear bP a9 bE cY bV cH dA dL S;go_wp2;go_roundw;case rel=>exact⟨k+1,_,_,_,g_,o_,HN⟩
   case measure=>exact z_
  have cF:k=m+1:=o_;have aX:¬k<(m:Int)+1:=o_
  have r:Hid (Mu M w wr w.heap.size (w.heap.size+1) (m+1) (m+1) (m+1) vK H Q g f):=(by rw[cF] at l;exact l);obtain⟨qk,kc,_,_,_,_,aL,_⟩:=r.kn.at (i:=0) (by rw[Dh];omega);rw[Dh] at aL;subst aL;have aF:=cR_ 0 r.blk;have J:=(Qb r.blk).1;have dP:Hid (Ao m n d g _=Ew _ f n _ _):=rfl
  have bM:∀i,i<m+1->((Gh g f (m+1)).getD i []).length=n:=λi z=>by rw[Lg _ _ z];show(Dc _ _).length=n;unfold Dc;rw[List.length_map];exact HK.lb i z
  have bK:∀i,i<m+1->((Eb g f (m+1)).getD i Ay).many<=40:=λi z=>by rw[Fi _ _ z];have:=HK.cn i z;show(g.getD i Ph).cnt+2<=40;omega
  have bQ:∀O∈Gh g f (m+1),O.length=n:=λO hO=>by
   obtain⟨i,z,rfl⟩:=List.getElem_of_mem hO;have:=bM i (by rw[dj] at z;exact z)
   simpa [List.getD,z] using this
  have aR:∀K∈Eb g f (m+1),K.many<=100:=λK hK=>by obtain⟨i,z,rfl⟩:=List.getElem_of_mem hK;have:=bK i (by rw[Dh] at z;exact z);rw[List.getD,Qd z] at this;simp at this;omega
  have a2:=iv (budget:=d) bM bK;have P:=x3_ r.kn r.outs (HF.below r.bl);have HL:Hid ((Eb g f _).length=m+1/\(Gh g f _).length=m+1/\_/\_):=⟨Dh _ _ _,dj _ _ _,bQ,aR⟩;have cR:=Zq m n _ _ _ _ _ _ _ _ _ _ hm HL.1 HL.2.1 (P.1.mono qg_) P.2.1 HL.2.2.1 hn hb HL.2.2.2;have bB:=x1_ r.bl;have bT:=x1_ r.blk;have cL:=Nat.le_trans dT (r.kb qk rfl);clear l r bM bK bQ aR cF HF;generalize Ha m (Eb g f (m+1)) (Gh g f (m+1)) n d=Gs at *;generalize Eb g f (m+1)=Ks at *;generalize Gh g f (m+1)=Os at *;go_wp2_with fail
  refine cR.mono ?_;rintro e w2 ⟨vG,rfl,d8,o⟩;obtain⟨dX,dB,Kk,U,hG⟩:=d8;obtain⟨ga,gc,dW⟩:=hG.x.form;subst dW;have HG:=x1_ hG;have HH:=x3_ (P.1.below o) (P.2.1.below o) (P.2.2.below o);have dJ:=x1_ (bB.trans (o.mono bB.size));have c5:=x1_ ((o.block _ J).trans bT)
  have aH:Hid (ay (λq=>q=w.heap.size) w2):=λq F ty hq e=>by subst e;rw[c5] at hq;simp at hq;exact .inl hq.2.symm
  have fJ:=a2.2;have cD:=x1_ a2.1;have bX:=Qh J o.size;have fB:=Qh J U;clear a2 cR hG o P bB bT aF U;generalize hgle:Gs.length=gl at *;have cV:=x1_ hgle;clear hgle;go_wp2_with fail
  go_loopw [60] (λti wr=>∃(i:Nat) (vB vX:Value) (bA:List (Value×Value)),ti=.int .i64 i/\i<=gl/\Hid (ZgS M w2 wr w.heap.size (.slice (some ⟨qk,0,none⟩) (m+1) kc) vB vX bA (Ew Os f n Ks (Gs.take i)))) (λti _=>gl-(intOf ti).toNat)
  case atStart=>
   refine⟨0,.slice none 0 0,.slice none 0 0,[],rfl,qg_,?_⟩;refine⟨⟨c5,⟨rn_,rfl,λi z=>absurd z (by simp[Ew])⟩,rn_⟩,Aa.refl _ _,λq hq=>?_⟩
   rcases hq with e|e|e
   exact .inl e;simp[Value.ownBlock] at e;simp[Value.ownBlock] at e
  case round=>
   obtain⟨i,vB,vX,bA,rfl,fQ,l⟩:=hrel;have dZ:=l.t.size
   have a5:∀G∈Gs.take i,G.fs.length<=4:=λG hG=>by have:=(cD G (List.mem_of_mem_take hG)).len;omega
   have aG:=Zfb Os f (n:=n) Ks a5 hn (by rw[List.length_take];omega);have y:=Kw Os f n Ks (Gs.take i)
   by_cases hil:i<gl
   ·have A:i<Gs.length:=(by rw[cV.out];exact hil);have cW:Gs.getD i Fq=Gs[i]:=(by rw[List.getD,Qd A];rfl);have s:nh m n (m+1) Ks (Gs.getD i Fq):=(by rw[cW];exact cD.out _ (Qf _));have aK:=HG.out.touch l.out.t (λq hq e=>o_);obtain⟨qg,fD,cT,f3,cg⟩:=aK.x.at A;have dO:ga=some ⟨qg,0,none⟩:=(by injection cT);subst dO;obtain⟨vf,vo,hK⟩:=aK.x.each i A;obtain⟨oa,d5,cI⟩:=hK.out.shape;rw[s.out] at cI;subst cI;unfold jp at cg;have aS:=hK.blk;have aT:Ag _ M _ _:=Zil hK.fs (λq hq=>by have:=aK.kb i A q (hK.kf q hq);omega);have cP:=HH.1.touchS l.t aH;have cE:=HH.2.1.touchS l.t aH;have bY:=HH.2.2.touch l.t aH;have aP:=gm Ks Os f n (Ew Os f n Ks (Gs.take i)).xs (Gs.getD i Fq).fs
    have aU:=s.sum;have bI:=s.bins;have bL:=s.len;have cX:=ot M w.heap.size (dB.getD i 0) m n qk kc qf fc _ (m+1) _ _ vB vX vf oa d5 bA H cM Q _ _ Ks g f Os _ wr o_ l.ds (cP.mono qg_) HL.1 aS aT (bY.mono qg_) HK.le cE HL.2.1 HL.2.2.1 HK.lb s.fs hn o_ (λj hj b hb=>by have h1:=HK.bin j hj b hb;have h2:=HK.cn j hj;omega) HL.2.2.2 (by rw[aP,<- aU];omega) o_ o_;have cN:=Zcm Os f n Ks _ A
    have c4:Hid (∀T:World,dv M wr T w.heap.size (L_ qk (m+1) kc) vB vX ((Ew Os f n Ks (Gs.take i)).bs++[⟨(Gs.getD i Fq).fs,(Ij Ks Os f n (Ew Os f n Ks (Gs.take i)).xs (Gs.getD i Fq).fs).N,(Ij Ks Os f n (Ew Os f n Ks (Gs.take i)).xs (Gs.getD i Fq).fs).off-1⟩]) (Ij Ks Os f n (Ew Os f n Ks (Gs.take i)).xs (Gs.getD i Fq).fs).xs->∃bH b9 aD,ZgS M w2 T w.heap.size (L_ qk (m+1) kc) bH b9 aD (Ew Os f n Ks (Gs.take (i+1)))):=λT h3=>by refine l.added ?_;rw[cN];show dv M wr T _ _ _ _ ((Ew Os f n Ks (Gs.take i)).bs++[⟨_,(Ij (Ew Os f n Ks (Gs.take i)).ks Os f n _ _).N,_⟩]) (Ij (Ew Os f n Ks (Gs.take i)).ks Os f n _ _).xs;rw[y];exact h3
    have fP:0<=(i:Int):=o_;have fR:i<(gl:Int):=o_;clear cW s aK cT hK aS aT cP cE bY aP aU bI bL cN y a5 aG;go_wp2_with fail
    refine cX.mono ?_;rintro e T ⟨rfl,h3⟩;obtain⟨bH,b9,aD,h4⟩:=c4 T h3;have dK:=x1_ h4;clear cX h3 h4 c4 l cg;go_wp2;go_roundw;case rel=>exact⟨i+1,bH,b9,aD,g_,o_,dK⟩
    case measure=>exact z_
   have f7:¬i<(gl:Int):=o_;have cS:Gs.take i=_:=List.take_of_length_le (by rw[cV];omega);rw[cS] at l aG y;rw[<- dP] at l aG y;have c2:_=some vX:=cq_ 2 _ _ _ l.ds.blk;have S:=ZdH _ _ _ l.ds.xn o_;obtain⟨xa,xc,bU⟩:=l.ds.xn.shape;have cO:=x1_ bU;have cU:=HH.1.touchS l.t aH;have cZ:Hid (Mv M wr (L_ qk (m+1) kc) H (Ao m n d g f).ks):=(by rw[y];exact cU);clear cU cS y aG a5 bU;rw[cO] at c2 S;go_wp2_with fail
   refine S.mono ?_;rintro e w4 ⟨rfl,⟨X,aB,a3,a0⟩,b8⟩
   have c6:Hid (Tc M w4 w.heap.size (Ao m n d g f)/\E_ w w4):=by
    rw[<- cO] at a0 b8;obtain⟨d4,t4,s4⟩:=l.ds.sorted b8 a0;refine⟨⟨_,_,_,_,_,X,d4,cZ.touchS t4 s4,aB,a3,λq hq=>Nat.le_trans cL (Nat.le_of_eq (by simpa [Value.ownBlock] using hq)),λq hq=>by rcases l.out.nb q (.inr (.inl hq)) with e|e<;>omega,λq hq=>by rcases l.out.nb q (.inr (.inr hq)) with e|e<;>omega⟩,?_⟩;have h1:=dJ.trans (l.t.to_below (Nat.le_of_lt bX) (λq hq=>Nat.le_of_eq hq.symm));refine h1.trans (t4.to_below o_ (λq hq=>?_))
    rcases l.out.nb q (.inr (.inr hq)) with e|e<;>omega
   clear S aB a3 a0 b8 c2;go_wp2;go_ret;exact⟨rfl,c6⟩
def Zde t u n f d p q a b L g w (l:Iq w 0 (.slice t n f) L)(I:Cq w u n g)(H:L.length=n)(C:n<=200)(G:∀v∈L,-1000000000<=v.num/\v.num<=1000000000)(F:∀z∈g,0<=z/\z<=99)(B:2<=a)(k:a<=32)(j:2<=b)(o:b<=16)(O:w.cell? (A_ p 0)=some (I_ b))(R:w.cell? (A_ q 0)=some (I_ (a:Nat)))(T:p<w.heap.size)(Q:q<w.heap.size):C_ 216 #[.slice t n f,.slice u n d,.pointer (some ⟨p,0,none⟩),.pointer (some ⟨q,0,none⟩)] w λe w'=>∃v,e=.returned v/\Sz w' w.heap.size v ⟨false,Co L g b a,[]⟩/\Below w.heap.size w w':=by
 have J:=x1_ (λW hW=>Zr _ _ n _ d _ _ L _ W ((Aa.of_below (S:=λ_=>False) hW).row l (λ_ _=>id)) (I.below hW) H C G F B k j o);go_enter Tryz.func216,Tryz.ntmps216;go_wp2_with fail
 refine(J _ bA_).mono ?_;rintro e s ⟨v,rfl,⟨U,l,h⟩,x⟩;subst l;obtain⟨r,y,i⟩:=h.shape;rw[i] at h ⊢;have c:s.heap[w.heap.size]? =some (.cells _ 170 _):=(x.block _ s_).trans hn_;have P:=cR_ 0 c;have Y:=cR_ 1 c;have N:=cR_ 2 c;have M:=fq_ 0 _ _ c;have X:=fq_ 1 _ _ c;have V:=fq_ 2 _ _ c;have A:=x1_ (bA_.trans (x.mono s_));have E:Hid (Ag s (w.heap.size+1) (.slice r (Co L g b a).length y) (Co L g b a)):=by have D:(w.alloc (.cells #[.bool false,.slice none 0 0,.slice none 0 0] 170)).heap.size=w.heap.size+1:=s_;rw[D] at h;exact h
 have m:=x1_ c;generalize (Co L g b a).length=nb at *;go_wp2;refine bodyPost_ret (v:=.agg #[.bool false,.slice r nb y,.slice none 0 0]) (by simp[results,Tryz.results216,go_sem, *]) rfl ?_;refine⟨_,rfl,⟨_,_,rfl,?_,rn_⟩,?_⟩;exact Ag.mono (As (As (As E m d_) (by exact ht_ _ _ _ _ m) d_) (by exact ht_ _ _ _ _ (ht_ _ _ _ _ m)) d_) (Nat.le_succ _);exact((A.setCell qa_ _).setCell qa_ _).setCell qa_ _
def Zgq i k a b d f g c j m l p w (h:RB w i k (.slice a d f) (.slice b g c) j m l p):C_ 155 #[.pointer (some ⟨i,0,none⟩)] w λe w'=>e=.returned (.agg #[.slice a d f,.slice b g c])/\w'=w.alloc (.cells #[.slice a d f,.slice b g c] 250):=by
 have q:=cR_ 1 h;have o:=cR_ 2 h;have n:=(Qb h).1;go_enter Tryz.func155,Tryz.ntmps155;go_wp2;refine bodyPost_ret (v:=.agg #[.slice a d f,.slice b g c]) (by simp[results,Tryz.results155,go_sem, *]) rfl ?_
 grind
def gz:∀(es:List ES) (vs:List (Value×Value×Value)),vs.length=es.length->∀k,k<es.length->∀(e:ES) (v:Value×Value×Value),Ld (es.set k e) (vs.set k v)=((((Ld es vs).set (k*4) (.bool e.wd)).set (k*4+1) v.1).set (k*4+2) v.2.1).set (k*4+3) v.2.2
 |[],_,_,k,h,_,_=>by simp at h
 |e0::es,[],h,_,_,_,_=>by simp at h
 |e0::es,v0::vs,_,0,_,e,v=>by simp[Ld,Ka]
 | e0::es,v0::vs,h,k+1,hk,e,v=>by
  simp only[List.set_cons_succ,Ld];rw[gz es vs (by simpa using h) k (by simpa using hk) e v];have hl:(Ka e0 v0).length=4:=rfl
  grind
def ZjU:(Tryz.prog.info? 266).map (λi=>(i.zero,i.size,i.bytes))=some (some (.agg #[.bool false,.slice none 0 0,.slice none 0 0,.slice none 0 0]),4,80):=k_
def Zkb n (a:n<=4):(madeCells #[.bool false,.slice none 0 0,.slice none 0 0,.slice none 0 0] (n*4)).toList=Ld (List.replicate n Ph) (List.replicate n Sg):=by
 rcases(show n=0∨n=1∨n=2∨n=3∨n=4 by omega) with rfl|rfl|rfl|rfl|rfl
 all_goals kernel_rfl
def Zkc(n:Nat)(f:n<=4) W:(Instr.makeSlice 258 (I_ n) (I_ n)).run Tryz.prog W=.ok (L_ W.heap.size n n) (W.alloc (.cells (madeCells #[.bool false,.slice none 0 0,.slice none 0 0,.slice none 0 0] (n*4)) 266)):=by obtain⟨e,a,d,b,c⟩:=info_parts ZjU;have:=run_make (P:=Tryz.prog) W 258 266 e _ Tryz.underlying258 a d .i64 .i64 (n:Int) (n:Int) o_ o_ (by rw[c];omega) o_;rw[this];simp[b,Value.cells]
def Kr(w:World) q a b c d x y z u p o (h:p≠q):((((w.setCell (A_ q a) x).setCell (A_ q b) y).setCell (A_ q c) z).setCell (A_ q d) u).cell? (A_ p o)=w.cell? (A_ p o):=by grind [World.cell?_of_block,Below.heap_setCell]
structure Jr(w wr:World)(q n k)(es)(fvs)(E:Nat->ES)(B:Nat->List Nat):Prop where
 row:wr.ownsRow 0 266 4 (L_ q n n) n (Ld es fvs)
 le:es.length=n
 lv:fvs.length=n
 ee:∀i,i<k->es.getD i Ph=E i
 each:∀i,i<k->Ag wr w.heap.size (fvs.getD i Sg).1 (E i).bs/\Cc wr w.heap.size (fvs.getD i Sg).2.1 (E i).ww/\Ag wr 0 (fvs.getD i Sg).2.2 (Av (B i))
 bl:E_ w wr
def Jr.below{w wr w2 q n k es fvs E B}(h:Jr w wr q n k es fvs E B)(hb:Below wr.heap.size wr w2):Jr w w2 q n k es fvs E B:=
 ⟨(Aa.of_below (S:=λ_=>False) hb).row h.row (λ_ _=>id),h.le,h.lv,h.ee,λi hi=>⟨(h.each i hi).1.below hb,(h.each i hi).2.1.below hb,(h.each i hi).2.2.below hb⟩,h.bl.trans (hb.mono h.bl.size)⟩
def Jr.cells{w wr q n k g d E B}(h:Jr w wr q n k g d E B)(i:k<n):((∃u,wr.cell? (A_ q (k*4))=some u)/\(∃u,wr.cell? (A_ q (k*4+1))=some u)/\(∃u,wr.cell? (A_ q (k*4+2))=some u)/\(∃u,wr.cell? (A_ q (k*4+3))=some u))/\(∀o,wr.frozen? (A_ q o)=false):=by
 have e:=h.row
 have a:∀c,c<4->∃u,wr.cell? (A_ q (k*4+c))=some u:=λc hc=>by rw[World.ownsRow.cellAt e (k*4+c) o_];have j:=e.1;exact⟨_,Qd o_⟩
 obtain⟨f,b⟩:=Ad e (k:=q) rfl;exact⟨⟨a 0 o_,a 1 o_,a 2 o_,a 3 o_⟩,λo=>fq_ o _ _ b⟩
def Jr.put{w W q n k d a E B}(h:Jr w W q n k d a E B)(g:k<n)(f:w.heap.size<=q){v}(s:Ag W w.heap.size v.1 (E k).bs)(o:Cc W w.heap.size v.2.1 (E k).ww)(r:Ag W 0 v.2.2 (Av (B k))):Jr w ((((W.setCell (A_ q (k*4)) (.bool (E k).wd)).setCell (A_ q (k*4+1)) v.1).setCell (A_ q (k*4+2)) v.2.1).setCell (A_ q (k*4+3)) v.2.2) q n (k+1) (d.set k (E k)) (a.set k v) E B:=by
 obtain⟨x,c⟩:=Ad h.row (k:=q) rfl
 have T:Aa _ W ((((W.setCell _ (.bool (E k).wd)).setCell _ v.1).setCell _ v.2.1).setCell _ v.2.2):=
  ((((Aa.refl (λz=>z=q) W).setCell (p:=(A_ q (k*4))) (λ_=>rfl) _).setCell (p:=(A_ q (k*4+1))) (λ_=>rfl) _).setCell (p:=(A_ q (k*4+2))) (λ_=>rfl) _).setCell (p:=(A_ q (k*4+3))) (λ_=>rfl) _
 have b:∀{base e size m:Nat} {u:_} {xs:_},W.ownsRow base e size u m xs->e≠266->∀z,_->¬z=q:=λhr hne z hz e=>Au hr hz c hne e;refine⟨?_,by rw[List.length_set];exact h.le,by rw[List.length_set];exact h.lv,λi hi=>?_,λi hi=>?_,(((h.bl.setCell f _).setCell f _).setCell f _).setCell f _⟩;rw[gz d a (by rw[h.le,h.lv]) k (by rw[h.le];exact g)];exact(World.ownsRow.stored (World.ownsRow.stored (World.ownsRow.stored (World.ownsRow.stored h.row _ _).1 _ _).1 _ _).1 _ _).1
 ·by_cases e:i=k
  subst e;simp[List.getD,h.le,g];have:(d.set k (E k)).getD i Ph=d.getD i Ph:=(by simp[List.getD,List.getElem?_set_ne (show k≠i by omega)]);rw[this];exact h.ee i o_
 by_cases e:i=k
 subst e;have:(a.set i v).getD i Sg=v:=(by simp[List.getD,h.lv,g]);rw[this];exact⟨T.row s (b s d_),T.row o (b o d_),T.row r (b r d_)⟩;have:(a.set k v).getD i Sg=a.getD i Sg:=(by simp[List.getD,List.getElem?_set_ne (show k≠i by omega)]);rw[this];obtain⟨j,l,t⟩:=h.each i o_;exact⟨T.row j (b j d_),T.row l (b l d_),T.row t (b t d_)⟩
def Jr.done{w wr q n c a E B}(h:Jr w wr q n n c a E B):Ub w.heap.size wr (L_ q n n) a ((List.range n).map E) ((List.range n).map B):=by
 have e:c=(List.range n).map E:=by
  apply List.ext_getElem;simp[h.le];intro i g j;have:=h.ee i w_
  grind
 subst e;have b:((List.range n).map E).length=n:=s_;refine⟨by rw[b];exact h.row,by rw[b];exact h.lv,λi hi=>?_⟩;rw[b] at hi;have d:((List.range n).map E).getD i Ph=E i:=w_;have f:((List.range n).map B).getD i []=B i:=w_;rw[d,f];exact h.each i hi
def Cc.mono0{w b v L}(h:Cc w b v L):Cc w 0 v L:=by
 refine⟨h.1,?_⟩
 rcases h.2 with d|⟨g,a,c,e,f,r⟩
 exact .inl d
 grind
theorem wi e x:Dy e x<e.cnt+2:=by grind [Dy,ES.cnt,Ky]
def Zjj(w:World)(wd:Bool)(g ka kb k3:Nat)(ct bins:Int)(size:Nat):Prop:=
 (wd=true/\g=210/\w.heap[ka]? =some (.cells #[I_ ct] 3 (0,0))/\w.heap[kb]? =some (.cells #[I_ bins] 3 (0,0))/\w.heap[k3]? =some (.cells #[.func (.func 213) #[] #[]] 261 (0,0)))∨
 (wd=false/\g=216/\w.heap[ka]? =some (.cells #[I_ bins] 3 (0,0))/\w.heap[kb]? =some (.cells #[I_ size] 3 (0,0))/\w.heap[k3]? =some (.cells #[.func (.func 218) #[] #[]] 261 (0,0)))
def dy.learns{w K i d e f u c b}{a:Nat}(h:dy w K i d e f u c b a):∃f0 c0 g ka kb k3,i=.func f0 #[] c0/\d=.func (.func g) #[] #[P_ ka,P_ kb]/\e=.func (.func 266) #[] #[P_ k3]/\Zjj w f g ka kb k3 c b a:=by
 rcases h with⟨h0,k1,k2,k3,e0,e1,e2,_,_,_,h1,h2,h3⟩|⟨h0,k0,k1,k2,k3,e0,e1,e2,_,_,_,_,h1,h2,h3,h4⟩
 exact⟨_,_,210,k1,k2,k3,e0,e1,e2,.inl ⟨h0,rfl,h1,h2,h3⟩⟩;exact⟨_,_,216,k1,k2,k3,e0,e1,e2,.inr ⟨h0,rfl,h2,h3,h4⟩⟩
def ZgN(lw:List VS->List Int->Int->Int->ES):Prop:=∀va wa n vcap wcap k1 k2 ct bins L ws w,Iq w 0 (.slice va n vcap) L->Cq w wa n ws->L.length=n->n<=200->(∀z∈ws,0<=z/\z<=99)->(∀v∈L,v.word.size<=8)->w.cell? (A_ k1 0)=some (I_ ct)->w.cell? (A_ k2 0)=some (I_ bins)->k1<w.heap.size->k2<w.heap.size->2<=bins->bins<=16->
 C_ 210 #[.slice va n vcap,.slice wa n wcap,.pointer (some ⟨k1,0,none⟩),.pointer (some ⟨k2,0,none⟩)] w λe w'=>∃v,e=.returned v/\Sz w' w.heap.size v (lw L ws ct bins)/\E_ w w'
def Ck(lw:List VS->List Int->Int->Int->ES)(wd:Bool)(ct bins:Int)(size:Nat)(L:List VS)(ws:List Int):ES:=if wd=true then lw L ws ct bins else⟨false,Co L ws bins size,[]⟩
def ZaN lw K M (tb rb fb cb m n f bV:Nat) wd sc ct q s E w (hT:w.heap[tb]? =some (.cells #[L_ fb (m+1) (m+1),I_ f,P_ rb,I_ bV] 158 (0,0)))(hR:RdM w K M rb fb cb (m+1) wd sc ct q n s)(hI:Ht (m+1) s)(hm:m+1<=4)(hb:f<=20)(bO:(∃i,i<m+1/\wd i=true)->ZgN lw)(hE:∀i,E i=Ck lw (wd i) (ct i) q n (s.cols i) s.ws)(aK:∀i,i<m+1->Ol (E i)/\(E i).wd=wd i/\(E i).cnt<=16)(hr:∀i,i<m+1->∀v∈s.cols i,(-1000000000<=v.num/\v.num<=1000000000)/\v.word.size<=8)(hz:∀z∈s.ws,0<=z/\z<=99)(hs:2<=n)(bT:n<=32)(b3:2<=q)(bG:q<=16):C_ 92 #[.pointer (some ⟨tb,0,none⟩)] w λe w'=>∃db,e=.returned (.pointer (some ⟨db,0,none⟩))/\w.heap.size<=db/\Tc w.heap.size w' db (Ao m s.ws.length f ((List.range (m+1)).map E) ((List.range (m+1)).map (λi=>(s.cols i).map (Dy (E i)))))/\Below w.heap.size w w':=by
 obtain⟨vW,vr,wv,vc,hX⟩:=hR;obtain⟨wa,wc,bP,aT,_⟩:=hX.ow.seen (λz hz'=>by have:=hz z hz';omega);subst bP;have P:=hI.ws;have aP:=Zgq _ _ _ _ _ _ _ _ _ _ _ _ w hX.rd;have t0:=cR_ 0 hT;have t1:=cR_ 1 hT;have t2:=cR_ 2 hT;have L:=(Qb hT).1;have HX:=x1_ hX;have bK:=x1_ aT;have D:=x1_ hI.col;have Q:=x1_ aK;have U:∀W:_,(Instr.makeSlice 258 (.int _ ((m:Int)+1)) (.int _ ((m:Int)+1))).run _ W=_:=Zkc (m+1) hm;have HE:=x1_ hE;clear hT hX aT hI aK hE;go_enter Tryz.func92,Tryz.ntmps92;go_wp2_with fail
 refine aP.mono ?_;rintro e T ⟨rfl,bW⟩;obtain rfl:=bW;clear aP;go_upto_region 2 with fail;generalize hW1:(w.alloc (.cells #[.slice wa s.ws.length wc,L_ cb (m+1) (m+1)] 250)).alloc (.cells #[.slice wa s.ws.length wc,L_ cb (m+1) (m+1)] 250)=T;have Z:E_ w T:=(by rw[<- hW1];exact bA_.alloc s_ _);have bB:T.heap.size=w.heap.size+1+1:=(by rw[<- hW1];simp);have aM:T.heap[w.heap.size+1]? =some (.cells #[.slice wa s.ws.length wc,L_ cb (m+1) (m+1)] 250 (0,0)):=(by rw[<- hW1];exact Em _ _ _ s_);have r0:=(Z.cell (p:=(A_ tb 0)) L).trans t0;have J:=x1_ bB;clear hW1 bB;go_upto_region 3 with fail;rw[J.out]
 have V:Hid (Jr w (T.alloc (.cells (madeCells #[.bool false,.slice none 0 0,.slice none 0 0,.slice none 0 0] ((m+1)*4)) 266)) (w.heap.size+1+1) (m+1) 0 (List.replicate (m+1) Ph) (List.replicate (m+1) Sg) E (λi=>(s.cols i).map (Dy (E i)))):=by refine⟨?_,s_,s_,λi hi=>absurd hi (Nat.not_lt_zero _),λi hi=>absurd hi (Nat.not_lt_zero _),Z.alloc Z.size _⟩;have l:=World.ownsRow_lit (base:=0) (size:=4) (e:=266) T (madeCells #[.bool false,.slice none 0 0,.slice none 0 0,.slice none 0 0] ((m+1)*4)) (m+1) qg_ m_ (by simp[madeCells]);rw[Zkb _ hm,J] at l;exact l
 have aN:Hid ((T.alloc (.cells (madeCells #[.bool false,.slice none 0 0,.slice none 0 0,.slice none 0 0] ((m+1)*4)) 266)).heap[_]? =_):=(hc_ (by rw[J];omega)).trans aM;have aO:w.heap.size+1+1<(T.alloc (.cells (madeCells #[.bool false,.slice none 0 0,.slice none 0 0,.slice none 0 0] ((m+1)*4)) 266)).heap.size:=(by simp[J.out]);generalize T.alloc (.cells (madeCells #[.bool false,.slice none 0 0,.slice none 0 0,.slice none 0 0] ((m+1)*4)) 266)=o at *;clear U r0 aM Z J;have q0:=(V.bl.cell (p:=(A_ tb 0)) L).trans t0;have q1:=(V.bl.cell (p:=(A_ tb 1)) L).trans t1;go_wp2_with fail
 go_loopw [25] (λti wr=>∃(k:Nat) (es:List ES) (aW:List (Value×Value×Value)),ti=.int .i64 k/\k<=m+1/\Hid (Jr w wr (w.heap.size+1+1) (m+1) k es aW E (λi=>(s.cols i).map (Dy (E i))))/\Hid (wr.heap[w.heap.size+1]? =some (.cells #[.slice wa s.ws.length wc,.slice (some ⟨cb,0,none⟩) (m+1) (m+1)] 250 (0,0)))) (λti _=>m+1-(intOf ti).toNat)
 case atStart=>exact⟨0,_,_,rfl,qg_,V,aN⟩
 case round=>
  clear V aN q0 q1 aO;obtain⟨k,es,aW,rfl,cF,HR,HT⟩:=hrel;have t:=HR.bl;have H:=t.size;have c3:=(Qb HT).1
  by_cases hkl:k<m+1
  ·obtain⟨cC,C,bY,_,b7⟩:=HX.fs.ex;obtain⟨v0,v1,v2,aX,aR,aU,bH⟩:=b7 k hkl;obtain⟨f0,c0,g,ka,kb,k3,e0,e1,e2,X⟩:=bH.learns;subst e0 e1 e2;have a9:=(Qb C).1;have a0:=(t.cell (p:=(A_ fb (k*3))) a9).trans ((cq_ _ _ _ _ C).trans aX);have a1:=(t.cell (p:=(A_ fb (k*3+1))) a9).trans ((cq_ _ _ _ _ C).trans aR);have a2:=(t.cell (p:=(A_ fb (k*3+2))) a9).trans ((cq_ _ _ _ _ C).trans aU);obtain⟨c8,aC,bX,aH⟩:=HX.cl;have bE:=(Qb aC).1;have I:=HX.oc k hkl;obtain⟨va,F,R⟩:=I.form;rw[D k hkl] at R;have a3:=(t.cell (p:=(A_ cb k)) bE).trans ((cq_ k _ _ _ aC).trans ((aH k hkl).trans (congrArg _ R)));rw[R] at I;have x1:=cR_ 1 HT;have x0:=cR_ 0 HT
   have aV:=x2_ ((Q k hkl).1) ((Q k hkl).2.1)
   have b9:Hid (∀W:World,E_ w W->C_ g #[.slice va s.ws.length F,.slice wa s.ws.length wc,.pointer (some ⟨ka,0,none⟩),.pointer (some ⟨kb,0,none⟩)] W λe w'=>∃v,e=.returned v/\Sz w' W.heap.size v (E k)/\E_ W w'):=λW hW=>by
    have hV:Iq W 0 _ _:=(Aa.of_below (S:=λ_=>False) (hW.mono qa_)).row I (λ_ _=>id);have c6:=hW.size;rw[HE k]
    rcases X with⟨h0,rfl,l,h2,_⟩|⟨h0,rfl,l,h2,_⟩
    unfold Ck;rw[if_pos h0];have l1:=(Qb l).1;have l2:=(Qb h2).1;exact bO ⟨k,hkl,h0⟩ va wa _ _ wc ka kb _ q _ _ W hV (bK.below hW) (D k hkl) P hz (λv hv=>(hr k hkl v hv).2) ((hW.cell (p:=(A_ ka 0)) l1).trans (cq_ 0 _ 3 _ l)) ((hW.cell (p:=(A_ kb 0)) l2).trans (cq_ 0 _ 3 _ h2)) o_ o_ b3 bG;unfold Ck;rw[if_neg (by rw[h0];decide)];have l1:=(Qb l).1;have l2:=(Qb h2).1;exact Zde va _ _ _ _ ka _ _ _ _ _ W hV (bK.below hW) (D k hkl) P (λv hv=>(hr k hkl v hv).1) hz hs bT b3 bG ((hW.cell (p:=(A_ ka 0)) l1).trans (cq_ 0 _ 3 _ l)) ((hW.cell (p:=(A_ kb 0)) l2).trans (cq_ 0 _ 3 _ h2)) o_ o_
   have aE:Hid (w.cell? (A_ k3 0)=some (.func (.func (if(E k).wd=true then 213 else 218)) #[] #[])/\k3<w.heap.size):=by
    rw[aV.2]
    rcases X with⟨h0,_,_,_,h3⟩|⟨h0,_,_,_,h3⟩
    rw[if_pos h0];exact⟨cq_ 0 _ _ _ h3,(Qb h3).1⟩;rw[if_neg (by rw[h0];decide)];exact⟨cq_ 0 _ _ _ h3,(Qb h3).1⟩
   have bZ:=x1_ I;have cG:0<=(k:Int):=o_;have cA:k<(m:Int)+1:=o_;have Y:=x1_ t;have c9:cb<wr.heap.size:=o_
   have hg:g=210∨g=216:=by
    rcases X with⟨_,h0,_⟩|⟨_,h0,_⟩
    exact .inl h0;exact .inr h0
   clear C bY b7 aX aR aU bH X aC bX aH I R t
   have cB:∀a W,Sem.run Tryz.prog (callFunc g a) W=.ok (.enter g a) W:=by
    rcases hg with rfl|rfl
    exact enters_of Tryz.func210 k_ rfl;exact enters_of Tryz.func216 k_ rfl
   clear hg;go_wp2_with fail
   refine(b9 _ (Y.trans (Below.mono ((br_ wr.heap.size wr).alloc qa_ _) H))).mono ?_;rintro e o ⟨ve,rfl,aB,a7⟩;have aG:Hid (Sz o 0 ve (E k)):=(by obtain⟨vb,vw,g1,g2,g3⟩:=aB;exact⟨vb,vw,g1,Ag.mono g2 qg_,Cc.mono0 g3⟩);have aZ:Sz o w.heap.size ve (E k):=by obtain⟨vb,vw,g1,g2,g3⟩:=aB;have a5:w.heap.size<=(wr.heap.size+1):=o_;exact⟨vb,vw,g1,Ag.mono g2 (by simpa using a5),Dt g3 (by simpa using a5)⟩
   obtain⟨eb,A,ew,y,c4,bC,aI⟩:=aZ.form;clear aZ;subst c4;have a8:o.heap[wr.heap.size]? =some (.cells _ 263 _):=(a7.block _ s_).trans hn_;have bF:=bA_.trans (a7.mono s_);have bM:=(Qb a8).1;have aA:=x2_ bC aI;have aF:=x1_ bF;clear aB a7 bC aI b9 a0 a1 a2 a3 bF;go_upto_region 8 with fail;generalize hW3:o.alloc (.cells #[.bool (E k).wd,.slice eb (E k).bs.length A,.slice ew (E k).ww.length y] 170)=d;have O:E_ o d:=(by rw[<- hW3];exact bA_);have hY:d.heap[o.heap.size]? =some (.cells #[.bool (E k).wd,.slice eb (E k).bs.length A,.slice ew (E k).ww.length y] 170 (0,0)):=(by rw[<- hW3];exact hn_);have a4:=(O.block _ bM).trans a8;clear hW3 a8;have x0:=cR_ 0 a4;have x1:=cR_ 1 a4;have x2:=cR_ 2 a4;have y0:=cR_ 0 hY
   have y1:=cR_ 1 hY;have y2:=cR_ 2 hY;have ly:=(Qb hY).1;have lx:wr.heap.size<d.heap.size:=o_
   have cE:w.heap.size+1+1<wr.heap.size:=(by obtain⟨cq,bR⟩:=Ad HR.row (k:=w.heap.size+1+1) rfl;exact(Qb bR).1);have nx:wr.heap.size≠w.heap.size+1+1:=o_;have ny:o.heap.size≠w.heap.size+1+1:=o_;have u:=x2_ (aF.trans (O.mono o_)) O
   have b8:Hid (∀W:World,E_ d W->C_ 156 #[.agg #[.func f0 #[] c0,.func (.func g) #[] #[.pointer (some ⟨ka,0,none⟩),.pointer (some ⟨kb,0,none⟩)],.func (.func 266) #[] #[.pointer (some ⟨k3,0,none⟩)]],.agg #[.bool (E k).wd,.slice eb (E k).bs.length A,.slice ew (E k).ww.length y],.slice va s.ws.length F] W λr w'=>∃v,r=.returned v/\Ag w' W.heap.size v ((s.cols k).map (λx=>(Dy (E k) x:Nat)))/\E_ W w'):=λW hW=>by have l:=u.2.trans (hW.mono o_);have h2:=(Y.trans (u.1.mono H)).trans (hW.mono o_);have c6:=hW.size;exact ZgY _ _ _ 0 k3 va _ F _ _ W (aG.below l) aV.1 ((Aa.of_below (S:=λ_=>False) h2).row bZ (λ_ _=>id)) (D k hkl) P ⟨_,_,rfl⟩ ⟨_,_,rfl⟩ ((h2.cell (p:=(A_ k3 0)) aE.2).trans aE.1) (by have:=aE.2;omega)
   have bD:Hid (∀W:_,Below d.heap.size _ W->_):=λW hW=>(HR.below (u.1.trans (hW.mono o_))).cells hkl;clear a4 hY O
   go_region_held3 (λw'=>w'.cell? (A_ wr.heap.size 0)=some (.func f0 #[] c0)/\w'.cell? (A_ wr.heap.size 1)=some (.func (.func g) #[] #[P_ ka,P_ kb])/\w'.cell? (A_ wr.heap.size 2)=some (.func (.func 266) #[] #[P_ k3])/\w'.cell? (A_ o.heap.size 0)=some (.bool (E k).wd)/\w'.cell? (A_ o.heap.size 1)=some (.slice eb (E k).bs.length A)/\w'.cell? (A_ o.heap.size 2)=some (.slice ew (E k).ww.length y)) (first|(with_reducible exact⟨(Kr _ _ _ _ _ _ _ _ _ _ _ 0 nx).trans s0,(Kr _ _ _ _ _ _ _ _ _ _ _ 1 nx).trans s1,(Kr _ _ _ _ _ _ _ _ _ _ _ 2 nx).trans s2,(Kr _ _ _ _ _ _ _ _ _ _ _ 0 ny).trans t0,(Kr _ _ _ _ _ _ _ _ _ _ _ 1 ny).trans t1,(Kr _ _ _ _ _ _ _ _ _ _ _ 2 ny).trans t2⟩)|(exact⟨(Below.cell (B:=d.heap.size) (w:=d) (p:=(A_ wr.heap.size 0)) b_ lx).trans x0,(Below.cell (B:=d.heap.size) (w:=d) (p:=(A_ wr.heap.size 1)) b_ lx).trans x1,(Below.cell (B:=d.heap.size) (w:=d) (p:=(A_ wr.heap.size 2)) b_ lx).trans x2,(Below.cell (B:=d.heap.size) (w:=d) (p:=(A_ o.heap.size 0)) b_ ly).trans y0,(Below.cell (B:=d.heap.size) (w:=d) (p:=(A_ o.heap.size 1)) b_ ly).trans y1,(Below.cell (B:=d.heap.size) (w:=d) (p:=(A_ o.heap.size 2)) b_ ly).trans y2⟩)) (first|(go_at_call 156;refine(b8 _ b_).mono ?_;rintro e w5 ⟨v5,rfl,aD,aY⟩;have c:E_ d w5:=Below.trans b_ (aY.mono f_);have c7:=c.size;have s0:=(Below.cell (B:=d.heap.size) (w:=d) (p:=(A_ wr.heap.size 0)) c lx).trans x0;have s1:=(Below.cell (B:=d.heap.size) (w:=d) (p:=(A_ wr.heap.size 1)) c lx).trans x1;have s2:=(Below.cell (B:=d.heap.size) (w:=d) (p:=(A_ wr.heap.size 2)) c lx).trans x2;have t0:=(Below.cell (B:=d.heap.size) (w:=d) (p:=(A_ o.heap.size 0)) c ly).trans y0;have t1:=(Below.cell (B:=d.heap.size) (w:=d) (p:=(A_ o.heap.size 1)) c ly).trans y1;have t2:=(Below.cell (B:=d.heap.size) (w:=d) (p:=(A_ o.heap.size 2)) c ly).trans y2;obtain⟨⟨⟨u0,z0⟩,⟨u1,z1⟩,⟨u2,z2⟩,⟨u3,z3⟩⟩,zf⟩:=bD w5 c;have bU:=zf (k*4);have bN:=zf (k*4+1);have bQ:=zf (k*4+2);have bS:=zf (k*4+3);clear zf;obtain⟨b5,c5,b6⟩:=aD.shape;rw[List.length_map] at b6;subst b6;have bI:=x1_ (Ag.mono aD qg_);clear aY aD))
   have bA:=HR.below (u.1.trans (c.mono (Nat.le_of_lt lx)));have G:=u.2.trans (c.mono (Nat.le_of_lt ly))
   have hN:=bA.put hkl o_ (v:=(.slice _ _ _,.slice ew _ _,.slice _ _ c5)) (aA.1.below G) (aA.2.below G) (by
    have l:Av ((s.cols k).map (Dy (E k)))=(s.cols k).map (λx=>((Dy (E k) x:Nat):Int)):=(by simp[Av]);rw[l]
    exact bI)
   have bL:Hid (((((w5.setCell (A_ (w.heap.size+1+1) (k*4)) (.bool (E k).wd)).setCell (A_ (w.heap.size+1+1) (k*4+1)) (.slice eb (E k).bs.length A)).setCell (A_ (w.heap.size+1+1) (k*4+2)) (.slice ew (E k).ww.length y)).setCell (A_ (w.heap.size+1+1) (k*4+3)) (.slice b5 (s.cols k).length c5)).heap[w.heap.size+1]? =some (.cells #[.slice wa s.ws.length wc,L_ cb (m+1) (m+1)] 250 (0,0))):=by have l:=λW j v=>Below.heap_setCell W (A_ (w.heap.size+1+1) j) v _ (by show w.heap.size+1≠w.heap.size+1+1;omega);show _=_;rw[l,l,l,l];exact((u.1.trans (c.mono (Nat.le_of_lt lx))).block _ c3).trans HT
   have HN:=x1_ hN;clear bA G hN HR HT bD b8 bI aA aG aF u c x0 x1 x2 y0 y1 y2 z0 z1 z2 z3 bU bN bQ bS s0 s1 s2 t0 t1 t2;generalize ((((w5.setCell (A_ (w.heap.size+1+1) (k*4)) (.bool (E k).wd)).setCell (A_ (w.heap.size+1+1) (k*4+1)) (.slice eb (E k).bs.length A)).setCell (A_ (w.heap.size+1+1) (k*4+2)) (.slice ew (E k).ww.length y)).setCell (A_ (w.heap.size+1+1) (k*4+3)) (.slice b5 (s.cols k).length c5))=w7 at *;go_wp2;go_roundw;case rel=>exact⟨k+1,_,_,g_,o_,HN,bL⟩
   case measure=>exact z_
  have aQ:k=m+1:=o_;have cD:¬k<(m:Int)+1:=o_;have hB:=HR.out;rw[aQ] at hB;have aJ:=hB.done;have q1:=(hB.bl.cell (p:=(A_ tb 1)) L).trans t1
  have N:∀i,i<m+1->((List.range (m+1)).map E).getD i Ph=E i:=λi hi=>by simp[List.getD,hi]
  have a6:∀i,i<m+1->((List.range (m+1)).map (λi=>(s.cols i).map (Dy (E i)))).getD i []=(s.cols i).map (Dy (E i)):=λi hi=>by simp[List.getD,hi]
  have aL:Po m s.ws.length ((List.range (m+1)).map E) ((List.range (m+1)).map (λi=>(s.cols i).map (Dy (E i)))):=(by refine⟨s_,λi hi=>?_,λi hi=>?_,λi hi=>?_,λi hi b hb=>?_⟩;rw[a6 i hi,List.length_map];exact D i hi;rw[N i hi];exact(Q i hi).1;rw[N i hi];exact(Q i hi).2.2;rw[a6 i hi] at hb;rw[N i hi];obtain⟨x,_,rfl⟩:=List.mem_map.1 hb;exact wi _ _);have U:=Zh5 _ m _ _ _ _ _ _ _ _ hm P hb H aJ aL;have Y:=x1_ hB.bl;clear hB aJ aL N a6 HR HT aQ;go_wp2_with fail
  refine U.mono ?_;rintro e d ⟨rfl,hM,aS⟩;have HM:=x2_ hM (Y.trans (aS.mono H));clear hM aS U;go_wp2;go_ret;exact⟨_,rfl,H,HM⟩
def xi a z p w (h:Sj w a true z p):C_ 50 #[.pointer (some ⟨a,0,none⟩)] w λe w'=>e=.returned (.tuple #[.pointer none,.int .i64 1,.int .i64 0])/\w'=w:=by
 have b:=cR_ 1 h;go_enter Tryz.func50,Tryz.ntmps50;go_wp2;refine bodyPost_ret (v:=.tuple #[.pointer none,I_ 1,I_ 0]) (by simp[results,Tryz.results50,go_sem]) rfl ?_
 grind
def ZaF a z p w (h:Sj w a false z p)(b:z=2∨z=3):C_ 50 #[.pointer (some ⟨a,0,none⟩)] w λe w'=>e=.returned (.tuple #[.pointer none,.int .i64 z,.int .i64 p])/\∃m,w'=w.drewN m:=by
 have d:=cR_ 1 h;have f:=cR_ 2 h;have c:=cR_ 3 h
 rcases b with rfl|rfl
 all_goals go_enter Tryz.func50,Tryz.ntmps50
 all_goals go_wp2_with fail
 all_goals go_big_quiet (fail)
 all_goals go_wp2
 ·refine bodyPost_ret (v:=.tuple #[.pointer none,I_ 2,I_ p]) (by simp[results,Tryz.results50,go_sem]) rfl ?_
  grind
 refine bodyPost_ret (v:=.tuple #[.pointer none,I_ 3,I_ p]) (by simp[results,Tryz.results50,go_sem]) rfl ?_
 grind
def dw(w w':World)(ib:Nat):Prop:=Sj w' ib true 0 0/\Aa (λk=>k=ib) w w'
structure Mw(w:World)(gb db:Nat)(D):Prop where
 gp:w.heap[gb]? =some (.cells #[P_ db] 110 (0,0))
 md:ZkD w db D
structure Ze9(base)(w:World)(gb db:Nat)(D):Prop where
 gp:w.heap[gb]? =some (.cells #[P_ db] 110 (0,0))
 md:Tc base w db D
 bg:base<=gb
 bd:base<=db
section
variable {w:World} {K M:Nat->Prop} {ib tb rb fb cb m:Nat} {wd:Nat->Bool} {sc ct:Nat->Int} {bins:Int} {size budget:Nat} {s:RS} {len:Nat}
def InX.shut(hX:InX w K M ib tb rb fb cb (m+1) wd sc ct bins size budget s len):Aa (λk=>k=ib) w ((w.setCell (A_ ib 1) (.bool true)).setCell (A_ ib 0) (.pointer none))/\Sj ((w.setCell (A_ ib 1) (.bool true)).setCell (A_ ib 0) (.pointer none)) ib true 0 0:=
 ⟨((Aa.refl (λk=>k=ib) w).setCell (p:=(A_ ib 1)) (λ_=>rfl) _).setCell (p:=(A_ ib 0)) (λ_=>rfl) _,hs_ _ ib 0 _ 119 _ (hs_ _ ib 1 _ 119 _ hX.ik)⟩
def ZcJ(a:InX w K M ib tb rb fb cb (m+1) wd sc ct bins size budget s len)(d:s.wt≠0):C_ 50 #[.pointer (some ⟨ib,0,none⟩)] w λe w'=>e=.returned (.tuple #[.pointer none,.int .i64 2,.int .i64 len])/\dw w w' ib:=by
 obtain⟨f,i⟩:=a.shut;have u:=cR_ 0 a.ik;have n:=cR_ 1 a.ik;have r:=cR_ 2 a.ik;have q:=fq_ 0 _ _ a.ik;have B:=fq_ 1 _ _ a.ik;have h:=f.at_ a.tx (λe=>a.ne e.symm);obtain⟨t,z,y,o,j⟩:=a.rd.touch f (λk hk e=>by rw[e] at hk;exact hk.elim a.ni.1 a.ni.2);have g:=ux _ _ _ _ _ _ _ _ _ j.rd;have c:decide (s.wt=0)=false:=(by simp[d]);rw[c] at g;have b:Hid (dw w _ _):=⟨i,f⟩;have A:=cR_ 2 h;have p:=cR_ 3 h;go_enter Tryz.func50,Tryz.ntmps50;go_upto_region 7 with fail;generalize (w.setCell (A_ ib 1) (.bool true)).setCell (A_ ib 0) (.pointer none)=w1 at *;go_wp2_with fail
 refine g.mono ?_;rintro e x ⟨rfl,l⟩;obtain rfl:=l.symm;go_wp2_with fail
 go_big_quiet (fail);go_wp2;refine bodyPost_ret (v:=.tuple #[.pointer none,I_ 2,I_ (len:Nat)]) (by simp[results,Tryz.results50,go_sem]) rfl ?_;exact⟨rfl,b.1,⟨b.2.os,b.2.tape,b.2.output,b.2.size,b.2.block⟩⟩
def xj I E (a:InX w K M ib tb rb fb cb (m+1) wd sc ct bins size budget s len)(r:s.wt=0)(U:Ht (m+1) s)(Y:m+1<=4)(W:budget<=20)(t:(∃i,i<m+1/\wd i=true)->ZgN I)(J:∀i,E i=Ck I (wd i) (ct i) bins size (s.cols i) s.ws)(x:∀i,i<m+1->Ol (E i)/\(E i).wd=wd i/\(E i).cnt<=16)(Z:∀i,i<m+1->∀v∈s.cols i,(-1000000000<=v.num/\v.num<=1000000000)/\v.word.size<=8)(V:∀z∈s.ws,0<=z/\z<=99)(P:2<=size)(B:size<=32)(u:2<=bins)(F:bins<=16):C_ 50 #[.pointer (some ⟨ib,0,none⟩)] w λe w'=>∃gb db,e=.returned (.tuple #[.pointer (some ⟨gb,0,none⟩),.int .i64 0,.int .i64 0])/\Ze9 w.heap.size w' gb db (Ao m s.ws.length budget ((List.range (m+1)).map E) ((List.range (m+1)).map (λi=>(s.cols i).map (Dy (E i)))))/\dw w w' ib:=by
 obtain⟨y,N⟩:=a.shut;have i0:=cR_ 0 a.ik;have i1:=cR_ 1 a.ik;have i2:=cR_ 2 a.ik;have g0:=fq_ 0 _ _ a.ik;have g1:=fq_ 1 _ _ a.ik;have H:=y.at_ a.tx (λe=>a.ne e.symm);have l:=a.rd.touch y (λk hk e=>by rw[e] at hk;exact hk.elim a.ni.1 a.ni.2);have f:=ZaN _ K M _ _ fb _ m _ _ _ wd _ _ _ s E _ H l U Y W t J x Z V P B u F;obtain⟨vW,vr,wv,vc,l⟩:=l;have G:=ux _ _ _ _ _ _ _ _ _ l.rd;have h:decide (s.wt=0)=true:=(by simp[r]);rw[h] at G;have n:Hid (dw w _ _):=⟨N,y⟩;have t2:=cR_ 2 H;have HE:=x1_ J;go_enter Tryz.func50,Tryz.ntmps50;go_upto_region 7 with fail;generalize (w.setCell (A_ ib 1) (.bool true)).setCell (A_ ib 0) (.pointer none)=w1 at *
 obtain⟨D,L⟩:=ex_ (Ao m s.ws.length budget ((List.range (m+1)).map E) ((List.range (m+1)).map (λi=>(s.cols i).map (Dy (E i)))));rw[<- L] at f;have C:=x1_ L;go_wp2_with fail
 refine G.mono ?_;rintro e w2 ⟨rfl,hw⟩;obtain rfl:=hw.symm;go_wp2_with fail
 refine f.mono ?_;rintro e c ⟨db,rfl,O,Q,j⟩;have b:=n.2.size;have o:=j.size;have S:Hid (Ze9 w.heap.size (c.alloc (.cells #[P_ db] 110)) c.heap.size db D/\dw w (c.alloc (.cells #[P_ db] 110)) ib):=by have g:Below _ _ (c.alloc (.cells #[P_ db] 110)):=j.alloc o _;refine⟨⟨hn_,?_,o_,o_⟩,?_,n.2.below g⟩;obtain⟨vK,R,T,p,A,X,a⟩:=Q;have d:Below _ _ (c.alloc (.cells #[P_ db] 110)):=bA_;exact⟨vK,R,T,p,A,X,(a.ds.mono b).below d,(a.kn.mono b).below d,a.perm,a.sorted,λq hq=>Nat.le_trans b (a.nk q hq),λq hq=>Nat.le_trans b (a.nb q hq),λq hq=>Nat.le_trans b (a.nx q hq)⟩;exact(g.block _ (Qb n.1).1).trans n.1
 go_wp2;refine bodyPost_ret (v:=.tuple #[P_ c.heap.size,I_ 0,I_ 0]) (by simp[results,Tryz.results50,go_sem]) rfl ?_;rw[<- C];exact⟨_,_,rfl,S⟩
end
def Ii(w:World)(o:Nat->Nat)(t:Nat)(Q:World->Prop):Prop:=∀w',Aa (λk=>o k≠t) w w'->Q w'
def Dq(w:World)(o o':Nat->Nat):Prop:=∀k,k<w.heap.size->o k=99∨o' k=o k
section
variable {w w':World} {o o':Nat->Nat} {t:Nat} {Q:World->Prop} {S:Nat->Prop}
def Dq.refl w o:Dq w o o:=λ_ _=>.inr rfl
def Dq.trans{o2}(h:Dq w o o')(hs:w.heap.size<=w'.heap.size)(g:Dq w' o' o2):Dq w o o2:=λk hk=>by
 rcases h k hk with e|e
 exact .inl e
 rcases g k o_ with e2|e2
 omega;omega
def Ii.here(h:Ii w o t Q):Q w:=h w (Aa.refl _ _)
def Ii.step(h:Ii w o t Q)(a:Aa S w w')(c:∀k,k<w.heap.size->S k->o k≠t)(g:Dq w o o')(d:t≠99:=by decide):Ii w' o' t Q:=λw2 h2=>
 h w2 ⟨h2.os.trans a.os,h2.tape.trans a.tape,h2.output.trans a.output,Nat.le_trans a.size h2.size,λk hk hn=>by
  have b:o k=t:=o_
  have f:¬o' k≠t:=by
   rcases g k hk with e|e
   omega;omega
  exact(h2.block k (Qh hk a.size) f).trans (a.block k hk (λe=>c k hk e b))⟩
def Ii.mono{Q'}(h:Ii w o t Q)(hq:∀W,Q W->Q' W):Ii w o t Q':=λw' ht=>hq _ (h w' ht)
def Ii.and{Q'}(h:Ii w o t Q)(h':Ii w o t Q'):Ii w o t (λW=>Q W/\Q' W):=λw' ht=>⟨h w' ht,h' w' ht⟩
def Ii.block{g ob}(h:w.heap[g]? =some ob)(hc:o g=t):Ii w o t (λW=>W.heap[g]? =some ob):=λ_ ht=>ht.at_ h (λe=>e hc)
def Ii.all{ty u v}(h:Gi w ty u v)(hc:∀k,v.ownBlock=some k->o k=t):Ii w o t (λW=>Gi W ty u v):=λ_ ht=>h.touch ht (λk _ hk _ e=>e (hc k hk))
end
def Ze9.stab{a w d c D o t}(h:Ze9 a w d c D)(f:∀k,a<=k->k<w.heap.size->o k=t):Ii w o t (λW=>Mw W d c D):=λw' ht=>by
 have hS:∀k,(λk=>o k≠t) k->k<w.heap.size->k<a:=λk hk hl=>w_
 have row:∀{b ty size n:Nat} {v xs},w.ownsRow b ty size v n xs->(∀k,v.ownBlock=some k->a<=k)->w'.ownsRow b ty size v n xs:=λhr hb=>ht.row hr (λk hk e=>by
  have h1:=hS k e (rl_ hr k hk).2
  grind)
 have rowb:∀{ty size n:Nat} {v:_} {xs:_},w.ownsRow _ ty size v n xs->_:=λhr=>row hr (λk hk=>(rl_ hr k hk).1);have blk:∀{k ob},w.heap[k]? =some ob->a<=k->w'.heap[k]? =some ob:=λhk hb=>ht.at_ hk (λe=>w_);obtain⟨vK,vB,vX,kvs,bvs,X,hM⟩:=h.md
 have hN:Tc a w' c D:=by
  refine⟨vK,vB,vX,kvs,bvs,X,⟨blk hM.ds.blk h.bd,⟨row hM.ds.bn.row hM.nb,hM.ds.bn.len,λi hi=>⟨rowb (hM.ds.bn.each i hi).1,?_⟩⟩,row hM.ds.xn hM.nx⟩,⟨row hM.kn.row hM.nk,hM.kn.len,λi hi=>⟨rowb (hM.kn.each i hi).1,rowb (hM.kn.each i hi).2⟩⟩,hM.perm,hM.sorted,hM.nk,hM.nb,hM.nx⟩
  rcases(hM.ds.bn.each i hi).2 with⟨h1,p,e,sb,vc,e2,hb,hX⟩|⟨h1,p,e,d2,q,e2,hb,hX⟩
  exact .inl ⟨h1,p,e,sb,vc,e2,hb,blk hX.blk hb,rowb hX.row⟩;exact .inr ⟨h1,p,e,d2,q,e2,hb,blk hX.blk hb,rowb hX.row⟩
 exact⟨blk h.gp h.bg,hN.zero⟩
def Ec(w:World)(v:Value)(w':World)(v':Value):Prop:=Aa (λk=>v.ownBlock=some k) w w'/\∀k,v'.ownBlock=some k->v.ownBlock=some k∨w.heap.size<=k
def Ec.refl w v:Ec w v w v:=⟨Aa.refl _ _,λ_ h=>.inl h⟩
def Ec.trans{w d b v a c}(h:Ec w v d a)(k:Ec d a b c):Ec w v b c:=by
 refine⟨h.1.trans2 k.1 (λz hz=>h.2 z hz),λz hz=>?_⟩
 rcases k.2 z hz with e|e
 exact h.2 z e;have:=h.1.size;omega
def Ec.pre{w w1 w2 v v2}(h:Below w.heap.size w w1)(k:Ec w1 v w2 v2):Ec w v w2 v2:=
 ⟨(Aa.of_below h).trans k.1,λz hz=>(k.2 z hz).imp id (λe=>Nat.le_trans h.size e)⟩
def Ec.of_mark{w b v a N}(g:w.grownBy b v.ownBlock)(d:a.ownBlock=v.ownBlock∨a.ownBlock=some N/\Below N w b)(c:w.heap.size<=N):Ec w v b a:=by
 refine⟨(Aa.refl _ w).grown g (λk hk _=>hk),λk hk=>?_⟩
 grind
def Zaj(w:World)(v:Value)(bs news:List Int)(e:Ending)(w':World):Prop:=∃v',e=.returned v'/\Bj w' 0 v' (bs++news)/\Ec w v w' v'
def Bj.more{w b v c a n}(h:w.ownsRow b 5 1 v (c.length+n) (c.map (Value.int .u8)++a.map (Value.int .u8)))(d:a.length=n):Bj w b v (c++a):=by grind [Bj]
def Vx:Nat->Int->Int
 |0,n=>n
 |j+1,n=>Vx j n/256
def Ba(n:Int):Nat->List Int
 |0=>[]
 |j+1=>Ba n j++[Vx j n%256]
theorem Gc n:∀j,(Ba n j).length=j
 |0=>rfl
 |j+1=>by simp[Ba,Gc n j]
def ZeZ{n}(h1: -1000000000000<=n)(h2:n<=1000000000000):∀j,-1000000000000<=Vx j n/\Vx j n<=1000000000000
 |0=>⟨h1,h2⟩
 |j+1=>by have:=ZeZ h1 h2 j;unfold Vx;omega
def Mj a c k b n w (h:Bj w 0 (.slice a b.length c) b)(P:k<=8)(Q:b.length<=1000000)(f: -1000000000000<=n)(J:n<=1000000000000):C_ 102 #[.slice a b.length c,.int .i64 n,.int .i64 (k:Nat)] w λe w'=>Zaj w (.slice a b.length c) b (Ba n k) e w':=by
 have G:=x1_ h;have r:=x1_ (ZeZ f J);obtain⟨O,i,v,o,t⟩:=info_parts Nc;go_enter Tryz.func102,Tryz.ntmps102;go_wp2_with fail
 go_loopw [0,1,8] (λtv tn ti wr=>∃(j:Nat) (m:Option Addr) (g:Nat),tv=.slice m (b.length+j) g/\tn=.int .i64 (Vx j n)/\ti=.int .i64 j/\j<=k/\Hid (Bj wr 0 (.slice m (b.length+j) g) (b++Ba n j)/\Ec w (.slice a b.length c) wr (.slice m (b.length+j) g))) (λ_ _ ti _=>k-(intOf ti).toNat)
 case atStart=>exact⟨0,a,c,rfl,rfl,rfl,qg_,by show Bj _ _ _ (b++[])/\_;rw[List.append_nil];exact⟨G,Ec.refl _ _⟩⟩
 case round=>
  obtain⟨j,m,g,rfl,rfl,rfl,M,p⟩:=hrel
  by_cases hjk:j<k
  ·have C:=r j;have A:Hid (Vx (j+1) n=_/_/\b++Ba n (j+1)=_):=⟨rfl,(List.append_assoc _ _ _).symm⟩;have d:Hid ((b++Ba n j).length=b.length+j):=(by show _=_;rw[Qe,Gc]);generalize Vx j n=x at *;have q:Hid (wr.ownsRow 0 5 1 (.slice m (b.length+j) g) (b.length+j) ((b++Ba n j).map (Value.int .u8))):=(by have f:=p.1;unfold Bj at f;rw[d] at f;exact f);generalize b++Ba n j=L0,hbl:b.length+j=bl at *;go_wp2_with (at_builtin;refine Ab rfl (.tmp 10) _ _ rfl 0 5 _ _ 1 1 Tryz.underlying66 i v o t rfl d_ _ _ _ rfl (q.alloc _) _ 1 1 [.int .u8 (x%256)] rfl rfl ?_ ?_ ?_ ?_ ?_ ?_ ?_)
   exact Am _ _ 5;intro u z;simp at z;rcases z with rfl;rfl;decide;unfold maxLen;omega;omega;simp;intro y B I;obtain⟨D,F,E,_,R,H,s⟩:=I;have N:Hid (Bj B 0 y (b++Ba n (j+1))/\Ec w (.slice a b.length c) B y):=(by refine⟨?_,p.2.trans (Ec.pre bA_ (Ec.of_mark F E s_))⟩;rw[A.2];refine Bj.more (n:=1) ?_ rfl;rw[d];exact D);subst s;refine rd_ ?_;exact⟨j+1,some _,H,by rw[<- hbl];rfl,by rw[A.1],g_,o_,w_⟩
  have L:¬j<(k:Int):=o_;have l:j=k:=o_;subst l;go_wp2;go_ret;exact⟨_,rfl,p⟩
def ZaK(z:Int):Int:=if(bits .and .u32 z 1==1)=true then bits .xor .u32 (z/2) 3988292384 else z/2
def Zk:Nat->Int->Int
 |0,z=>z
 |j+1,z=>ZaK (Zk j z)
def pc(z b:Int):Int:=Zk 8 (bits .xor .u32 z b)
def Zhs(bs:List Int):Int:=bs.foldl pc 4294967295
def Jt(bs:List Int):Int:=bits .xor .u32 4294967295 (Zhs bs)
def Rf a x y:0<=bits a .u32 x y/\bits a .u32 x y<4294967296:=by unfold bits;simp only[IntKind.wrap];constructor;exact Int.emod_nonneg _ d_;exact Int.emod_lt_of_pos _ d_
def ZjD{z}(h:0<=z/\z<4294967296):0<=ZaK z/\ZaK z<4294967296:=by unfold ZaK;split;exact Rf _ _ _;omega
def xq{z}(h:0<=z/\z<4294967296):∀j,0<=Zk j z/\Zk j z<4294967296
 |0=>h
 |j+1=>ZjD (xq h j)
def Zel:∀(bs:List Int) (z:Int),0<=z/\z<4294967296->0<=bs.foldl pc z/\bs.foldl pc z<4294967296
 |[],_,h=>h
 |b::bs,z,_=>Zel bs (pc z b) (xq (Rf _ _ _) 8)
def Bj.atK{w b a n c d}(h:Bj w b (.slice a n c) d)(i:d.length=n){k}(l:k<n):∃q,a=some ⟨q,0,none⟩/\q<w.heap.size/\w.cell? (A_ q k)=some (.int .u8 (d.getD k 0)):=by
 subst i;have f:=h
 rcases f.2 with⟨e,h0⟩|⟨g,cap,cur,e,_,hh,hnc,_⟩
 omega;injection e with e1 e2 e3;subst e1;refine⟨g,rfl,(Qb hh).1,?_⟩;have j:w.ownsRow _ 5 1 _ _ _:=h;rw[World.ownsRow.cellAt j k o_]
 grind
def xh a c d w (h:Bj w 0 (.slice a d.length c) d)(V:d.length<=1000000)(s:∀b∈d,0<=b/\b<256):C_ 103 #[.slice a d.length c] w λe w'=>e=.returned (.int .u32 (Jt d))/\w'=w:=by
 have J:=x1_ h;have M:=x1_ s;clear h s;obtain⟨n,D⟩:=ex_ d.length;have G:=x1_ D.symm;rw[<- D] at J V ⊢;clear D;go_enter Tryz.func103,Tryz.ntmps103;go_wp2_with fail
 go_loopw [9,3] (λti tr wr=>∃(k:Nat) (z:Int),ti=.int .i64 k/\tr=.int .u32 z/\k<=n/\Hid (z=(d.take k).foldl pc 4294967295)/\Hid (w=wr)) (λti _ _=>n-(intOf ti).toNat)
 case atStart=>exact⟨0,4294967295,rfl,rfl,qg_,rfl,rfl⟩
 case round=>
  obtain⟨k,z,rfl,rfl,hk,v,u⟩:=hrel;have g:=u.out;subst g;clear u;have I:0<=z/\z<4294967296:=by rw[v];exact Zel _ _ d_
  by_cases hkn:k<n
  ·obtain⟨q,O,L,c0⟩:=J.atK G hkn;subst O;have m:k<d.length:=(by rw[G];exact hkn);have f:d.getD k 0=d[k]:=w_
   have p:Hid ((d.take (k+1)).foldl pc 4294967295=Zk 8 (bits .xor .u32 z (d.getD k 0))):=(by show _=_;rw[Qi m,List.foldl_append,<- v,f];rfl);have B:0<=d.getD k 0/\d.getD k 0<256:=(by rw[f];exact M _ (Qf _));clear f v m;generalize d.getD k 0=b at *;obtain⟨F,x⟩:=I;obtain⟨P,Y⟩:=B;have W:0<=(k:Int):=o_;have N:k<(n:Int):=o_;have C:=Rf .xor z b;go_wp2_with fail
   generalize bits .xor .u32 z b=z0 at *;have H:=x1_ C;clear C;go_loopw [17,3] (λti tr wr=>∃(j:Nat) (y:Int),ti=.int .i64 j/\tr=.int .u32 y/\j<=8/\Hid (y=Zk j z0)/\Hid (w=wr)) (λti _ _=>8-(intOf ti).toNat)
   case atStart=>exact⟨0,z0,rfl,rfl,qg_,rfl,rfl⟩
   case round=>
    obtain⟨j,y,rfl,rfl,hj,l,u⟩:=hrel;have g:=u.out;subst g;clear u;have U:0<=y/\y<4294967296:=(by rw[l];exact xq H j);obtain⟨Z,a0⟩:=U
    by_cases hj8:j<8
    ·have bj:(j:Int)<8:=o_;have C:=Rf .xor (y/2) 3988292384;have S:=Rf .and y 1;have t:Hid (Zk (j+1) z0=if(bits .and .u32 y 1==1)=true then bits .xor .u32 (y/2) 3988292384 else y/2):=(by show ZaK (Zk j z0)=_;rw[<- l];rfl);generalize hA:bits .and .u32 y 1=A,hX:bits .xor .u32 (y/2) 3988292384=X at *
     by_cases s:(A==1)=true
     ·have i:Hid (X=Zk (j+1) z0):=w_;clear t l;refine rd_ ?_;exact⟨j+1,X,g_,rfl,o_,i,True.intro⟩
     have R:(A==1)=false:=by simpa using s
     have i:Hid (y/2=Zk (j+1) z0):=w_;clear t l s;refine rd_ ?_;exact⟨j+1,y/2,g_,rfl,o_,i,True.intro⟩
    have T:¬(j:Int)<8:=o_;have r:j=8:=o_
    have E:Hid (y=(d.take (k+1)).foldl pc 4294967295):=(by show _=_;rw[p,<- r];exact l);clear r l p;refine rd_ ?_;exact⟨k+1,y,g_,rfl,o_,E,True.intro⟩
  have Q:¬k<(n:Int):=o_;have o:d.take k=_:=List.take_of_length_le (by have:=G.out;omega);have E:Hid (z=Zhs d):=(by have:=v.out;rw[o] at this;exact this);clear o v;obtain⟨F,x⟩:=I;go_wp2;go_ret;unfold Jt;rw[<- E];exact⟨rfl,rfl⟩
def Zl o q n d g a c b w (N:Zal w 0 o q n d g)(h:Bj w 0 (.slice a b.length c) b)(I:(Value.slice a b.length c).ownBlock≠some q)(hp:0<g.length)(a1:g.length<=1000)(hl:b.length<=1000000):C_ 374 #[.pointer (some ⟨o,0,none⟩),.slice a b.length c] w λe w'=>Zaj w (.slice a b.length c) b (100::g) e w':=by
 have H0:=x1_ h;have L:=x1_ N;have P:=x1_ I;have X:=cR_ 2 N.blk;have T:=(Qb N.blk).1;obtain⟨Y,r,M,z,J⟩:=info_parts Nc;clear h N I;generalize hbl:b.length=bl,hpl2:g.length=pl at *;have f:=x2_ hbl hpl2;clear hbl hpl2;go_enter Tryz.func374,Tryz.ntmps374;go_upto_region 1 with fail;refine Al (λw'=>w'.cell? _=some _) 8 k_ X (λhHeld=>?_);refine Ah 0 ?_;refine Ah 3 ?_;refine Ah 4 ?_;refine Ah 5 ?_;refine Ah 6 ?_;refine Af (i:=1) k_ rfl (λKK hK=>?_);go_simp;refine hK _ _ ((Below.cell (B:=w.drew.heap.size) (p:=(A_ o 2)) bA_ T).trans X) (λhHeld=>?_);clear hK KK;try simp only[Act.put,sA,sB,sC]
 refine Af (i:=2) k_ rfl (λKK hK=>?_);have y:w.ownsRow 0 5 1 (.slice a bl c) bl (b.map (Value.int .u8)):=by have m:=H0.out;unfold Bj at m;rw[f.1] at m;exact m
 refine Az rfl _ _ 66 rfl 0 5 Y _ 1 1 Tryz.underlying66 r M z J rfl d_ _ bl _ j_ (ra_ (w:=w.drew) y _) _ 1 1 [.int .u8 100] j_ rfl (Am _ _ 5) (by intro u v;simp at v;rcases v with rfl;rfl) d_ m_ o_ s_ ?_;intro v6 w6 H6;obtain⟨V,g6,H,_,q6,p6,S⟩:=H6;have E:E_ w (w.drew.alloc (.cells #[.int .u8 100] 5)):=((br_ _ w).drew).alloc qa_ _;have l:=Ec.pre E (Ec.of_mark g6 H qa_);have t:=l.1.at_ L.blk (λe=>Au y e L.blk d_ rfl);have C:Bj _ 0 _ _:=l.1.row L.row (λk hk e=>P (by simp[Value.ownBlock] at hk;rw[hk];exact e));have Z:w6.cell? (A_ o 2)=some (L_ q pl pl):=by have m:=cR_ 2 t;rw[f.2] at m;exact m
 have s:=x1_ l;have Q:=x1_ C;have A:=x1_ V;subst S;clear V g6 H E l t C;refine hK _ _ Z (λhHeld=>?_);clear hK KK;try simp only[Act.put,sA,sB,sC]
 refine Af (i:=7) k_ rfl (λKK hK=>?_)
 refine Az rfl (.tmp 7) (.tmp 11) 66 rfl 0 5 Y (.int .u8 0) 1 1 Tryz.underlying66 r M z J rfl d_ (.slice (some ⟨q6,0,none⟩) (bl+1) p6) (bl+1) (b.map (Value.int .u8)++[.int .u8 100]) j_ A.out ⟨q,0,none⟩ pl pl (g.map (Value.int .u8)) j_ (by rw[List.length_map,f.out.2,Nat.mul_one]) (λj u v=>by
  have m:=Q.out;unfold Bj at m;have hj:j<g.length:=w_;have h2:=World.ownsRow.cellAt m j o_;rw[v] at h2
  have h3:((A_ q 0):Addr).add j=(A_ q j):=by
   by_cases hj0:j=0
   subst hj0;rfl;simp[Addr.add,hj0]
  grind) (by intro u v;obtain⟨x,_,rfl⟩:=List.mem_map.1 v;rfl) hp m_ o_ qg_ ?_
 intro W O H7;obtain⟨r7,U,G,_,q7,p7,R⟩:=H7
 have D:Hid (Bj O 0 W (b++100::g)/\Ec w (.slice a bl c) O W):=by
  refine⟨?_,s.trans (Ec.of_mark U G qa_)⟩;unfold Bj;have e1:(b++100::g).length=bl+1+pl:=by rw[Qe,List.length_cons,f.1,f.2];omega
  grind
 have c7:O.cell? (A_ o 2)=some (L_ q pl pl):=by
  have t7:=(Aa.refl _ _).grown U (λk hk _=>hk)
  have F:¬(L_ q6 (bl+1) p6).ownBlock=some o:=λe=>by
   obtain⟨a2,a0⟩:=Ad A e
   have t:=s.1.at_ L.blk (λe=>by
    obtain⟨c2,a3⟩:=Ad H0 e;have:=L.blk
    grind)
   grind
  rw[cb_ (a:=(A_ o 2)) (t7.block o (by have:=s.1.size;omega) F)];exact Z
 subst R;clear r7 U G;refine hK _ _ c7 (λhHeld=>?_);clear hK KK;try simp only[Act.put,sA,sB,sC]
 refine Ai (i:=8) k_ rfl k_ (λKK hK=>?_);go_simp;refine hK _ _ ?_;clear hK KK;try simp only[Act.put,sA,sB,sC]
 refine Ak k_ ?_ _;go_wp2;go_ret;exact⟨_,rfl,D⟩
def Ek(L:List (Nat×Nat))(k:Nat):Int:=if k=0 then -1 else(L.getD (k-1) (0,0)).1
def kv(L:List (Nat×Nat)):Nat->List Int
 |0=>[]
 |k+1=>kv L k++[((L.getD k (0,0)).1-Ek L k)%256,(L.getD k (0,0)).2%256]
theorem Vz L:∀k,(kv L k).length=k*2
 |0=>rfl
 |k+1=>by simp[kv,Vz L k];omega
def zv(L:List (Nat×Nat)):List Int:=[115,(L.length:Int)%256]++kv L L.length
def ry:∀(L:List (Nat×Nat)) (i:Nat),i<L.length->∀c,c<2->(Qk L)[i*2+c]? =(Pu (L.getD i (0,0)))[c]?
  |[],i,h=>by simp at h
  |x::L,0,_=>λc hc=>by grind [Qk,Pu]
  |x::L,i+1,h=>λc hc=>by simp only[Qk];rw[List.getElem?_append_right (by simp[Pu];omega),show(i+1)*2+c-(Pu x).length=i*2+c by simp[Pu];omega];exact ry L i (by simpa using h) c hc
def Uf.atK{w b a c L}(h:Uf w b (.slice a L.length c) L){k}(j:k<L.length):∃q,a=some ⟨q,0,none⟩/\q<w.heap.size/\w.cell? (A_ q (k*2))=some (I_ (L.getD k (0,0)).1)/\w.cell? (A_ q (k*2+1))=some (I_ (L.getD k (0,0)).2):=by
 have f:=h
 rcases f.2 with⟨e,h0⟩|⟨g,cap,cur,e,_,hh,hnc,_⟩
 omega;injection e with e1 e2 e3;subst e1;have i:w.ownsRow _ _ 2 _ _ _:=h
 have d:∀o u,o<2->(Pu (L.getD k (0,0)))[o]? =some u->w.cell? (A_ g (k*2+o))=some u:=λo u ho hu=>by rw[World.ownsRow.cellAt i (k*2+o) o_];exact(ry L k j o ho).trans hu
 exact⟨g,rfl,(Qb hh).1,d 0 _ o_ rfl,d 1 _ o_ rfl⟩
def Xu sb n d vc L a c b w (p:vt w 0 sb n d vc L)(h:Bj w 0 (.slice a b.length c) b)(hL:L.length<=1000)(hr:∀x∈L,x.1<=1000/\x.2<=1000)(hl:b.length<=1000000):C_ 370 #[.pointer (some ⟨sb,0,none⟩),.slice a b.length c] w λe w'=>Zaj w (.slice a b.length c) b (zv L) e w':=by
 have H0:=x1_ h;have T:=x1_ p;have J:=x1_ hr;obtain⟨ca,cc,Z⟩:=p.row.shape;subst Z;have d2:=cR_ 2 p.blk;have a8:=(Qb p.blk).1;obtain⟨i0,m,R,Q,O⟩:=info_parts Nc;have r:Hid _:=h;have a4:Hid (zv L=_++_):=rfl;clear h p hr;generalize hbl:b.length=bl,hll:L.length=ll at *;have g:=x2_ hbl hll;clear hbl hll;go_enter Tryz.func370,Tryz.ntmps370;go_wp2_with (at_builtin;refine Ab rfl (.tmp 8) _ _ rfl 0 5 _ _ 1 1 Tryz.underlying66 m R Q O rfl d_ _ bl _ rfl (r.alloc _) _ 2 2 [.int .u8 115,.int .u8 ((ll:Int)%256)] rfl rfl ?_ ?_ ?_ ?_ ?_ ?_ ?_)
 exact Am w _ 5
 ·intro u t;simp at t;rcases t with rfl|rfl<;>rfl
 decide;unfold maxLen;omega;omega;simp;intro v1 w1 H1;obtain⟨r1,g1,N,_,q1,p1,a1⟩:=H1;have C:=Ec.pre bA_ (Ec.of_mark g1 N s_);have S:Bj _ 0 _ (_++[_,_]):=Bj.more (n:=2) (by rw[g.1];exact r1) rfl;subst a1
 have G:Hid (∀W v,Ec w (.slice a bl c) W v->vt W 0 sb n d (.slice ca ll cc) L):=λW v hW=>by refine⟨hW.1.at_ T.blk (λe=>Au r e T.blk d_ rfl),hW.1.row T.row (λk hk e=>?_)⟩;obtain⟨c1,Y⟩:=Ad T.row hk;exact Au r e Y d_ rfl
 have A:=x2_ C S;have c2:w1.cell? _=some (.slice _ _ _):=cq_ 2 _ _ _ (G _ _ C).blk;clear r1 g1 N C S d2;go_wp2_with fail
 go_loopw [1,5,22] (λtv tah ti wr=>∃(k:Nat) (y:Option Addr) (s:Nat),tv=.slice y (bl+2+k*2) s/\tah=.int .i64 (Ek L k)/\ti=.int .i64 k/\k<=ll/\Hid (Bj wr 0 (.slice y (bl+2+k*2) s) (b++[115,(ll:Int)%256]++kv L k)/\Ec w (.slice a bl c) wr (.slice y (bl+2+k*2) s))) (λ_ _ ti _=>ll-(intOf ti).toNat)
 case atStart=>exact⟨0,_,_,rfl,rfl,rfl,qg_,by show Bj _ _ _ (_++[])/\_;rw[List.append_nil];exact⟨A.2,A.1⟩⟩
 case round=>
  clear A c2;obtain⟨k,y,s,rfl,rfl,rfl,hk,B⟩:=hrel
  by_cases hkl:k<ll
  ·have p:=G _ _ B.2;have P:k<L.length:=(by rw[g.2];exact hkl);have l:=p.row;have f:Uf wr 0 (.slice ca L.length cc) L:=(by rw[g.2];exact l);obtain⟨q,hq,aE,y0,y1⟩:=f.atK P;subst hq;have I:L.getD k (0,0)=L[k]:=w_;have F:=J _ (Qf P);rw[<- I] at F;have V:Hid (b++[115,(ll:Int)%256]++kv L (k+1)=(b++[115,(ll:Int)%256]++kv L k)++[((L.getD k (0,0)).1-Ek L k)%256,(L.getD k (0,0)).2%256]/\Ek L (k+1)=(L.getD k (0,0)).1):=⟨by simp[kv],by simp[Ek]⟩
   have a3: -1<=Ek L k/\Ek L k<=1000:=by
    unfold Ek;split;omega;have a2:k-1<L.length:=o_;have o:L.getD (k-1) (0,0)=L[k-1]:=w_;have h2:=(J _ (Qf a2)).1
    grind
   have H:Hid ((b++[115,(ll:Int)%256]++kv L k).length=bl+2+k*2):=(by show _=_;rw[Qe,Qe,Vz,g.1];rfl);have z:Hid (wr.ownsRow 0 5 1 (.slice y (bl+2+k*2) s) (bl+2+k*2) ((b++[115,(ll:Int)%256]++kv L k).map (Value.int .u8))):=by have o:=B.1;unfold Bj at o;rw[H] at o;exact o
   generalize b++[115,(ll:Int)%256]++kv L k=L0,Ek L k=ah at *;obtain⟨aC,aD⟩:=F;obtain⟨aA,a7⟩:=a3;clear I l f p;generalize (L.getD k (0,0)).1=x1,(L.getD k (0,0)).2=x2,hbn:bl+2+k*2=bn at *;have X:=x1_ hbn;have a6:bn<=1002002:=o_;clear hbn;have aG:0<=(k:Int):=o_;have a9:k<(ll:Int):=o_;go_wp2_with (at_builtin;refine Ab rfl (.tmp 26) _ 66 rfl 0 5 i0 _ 1 1 Tryz.underlying66 m R Q O rfl d_ _ bn _ rfl ((z.alloc _).alloc _) _ 2 2 [.int .u8 (((x1:Int)-ah)%256),.int .u8 ((x2:Int)%256)] rfl rfl ?_ ?_ ?_ ?_ ?_ ?_ ?_)
   intro j u t;have o:=Am (wr.alloc (.cells #[I_ (x1:Nat),I_ (x2:Nat)] 405)) #[.int _ _,.int _ _] 5 j u t;rw[show(wr.alloc (.cells #[I_ (x1:Nat),I_ (x2:Nat)] 405)).heap.size=wr.heap.size+1 by simp] at o;exact o
   ·intro u t;simp at t;rcases t with rfl|rfl<;>rfl
   decide;unfold maxLen;omega;omega;simp;intro v4 w4 H4;obtain⟨r4,g4,d4,_,q4,p4,a5⟩:=H4;have M:Below _ wr ((wr.alloc (.cells #[I_ (x1:Nat),I_ (x2:Nat)] 405)).alloc (.cells #[.int .u8 (((x1:Int)-ah)%256),.int .u8 ((x2:Int)%256)] 5)):=bA_.alloc s_ _;have D:((wr.alloc (.cells #[I_ (x1:Nat),I_ (x2:Nat)] 405)).alloc (.cells #[.int .u8 (((x1:Int)-ah)%256),.int .u8 ((x2:Int)%256)] 5)).heap[wr.heap.size]? =_:=(hc_ s_).trans hn_
   have E:=(g4.block _ t_ (λe=>by
    have:=(rl_ z _ e.symm).2
    omega)).trans D
   have aF:=cR_ 0 E;have HN:Hid (Bj w4 0 v4 (b++[115,(ll:Int)%256]++kv L (k+1))/\Ec w (.slice a bl c) w4 v4):=(by refine⟨?_,B.2.trans (Ec.pre M (Ec.of_mark g4 d4 s_))⟩;rw[V.1];refine Bj.more (n:=2) ?_ rfl;rw[H];exact r4);subst a5;have U:=x1_ V.2;clear r4 g4 d4 z B M D E V y0 y1;have i:bn+2=bl+2+(k+1)*2:=(by have:=X.out;omega);rw[i] at HN ⊢;clear i;refine rd_ ?_;exact⟨k+1,some _,p4,rfl,by rw[U],g_,o_,HN⟩
  have aB:¬k<(ll:Int):=o_;have a0:k=ll:=o_
  have HF:Hid (Bj wr 0 (.slice y (bl+2+k*2) s) (b++zv L)/\Ec w (.slice a bl c) wr (.slice y (bl+2+k*2) s)):=by
   refine⟨?_,B.2⟩;rw[a4,<- List.append_assoc];have o:=B.1
   grind
  clear a0 B;go_wp2;go_ret;exact⟨_,rfl,HF⟩
def Wq y q n d j a c b w (N:Zal w 0 y q n d j)(h:Bj w 0 (.slice a b.length c) b)(H:(Value.slice a b.length c).ownBlock≠some q)(Y:j.length=0)(hl:b.length<=1000000):C_ 374 #[.pointer (some ⟨y,0,none⟩),.slice a b.length c] w λe w'=>Zaj w (.slice a b.length c) b (100::j) e w':=by
 have H0:=x1_ h;have M:=x1_ N;have F:=x1_ H;have T:=cR_ 2 N.blk;have O:=(Qb N.blk).1;obtain⟨i0,v,P,A,L⟩:=info_parts Nc;generalize hbl:b.length=bl,hpl2:j.length=pl at *;have f:=x2_ hbl hpl2;go_enter Tryz.func374,Tryz.ntmps374;go_upto_region 1 with fail;refine Al (λw'=>w'.cell? _=some _) 8 k_ T (λhHeld=>?_);refine Ah 0 ?_;refine Ah 3 ?_;refine Ah 4 ?_;refine Ah 5 ?_;refine Ah 6 ?_;refine Af (i:=1) k_ rfl (λKK hK=>?_);go_simp;refine hK _ _ ((Below.cell (B:=w.drew.heap.size) (p:=(A_ y 2)) bA_ O).trans T) (λhHeld=>?_);try simp only[Act.put,sA,sB,sC]
 refine Af (i:=2) k_ rfl (λKK hK=>?_);have o:w.ownsRow 0 5 1 (.slice a bl c) bl (b.map (Value.int .u8)):=by have m:=H0.out;unfold Bj at m;rw[f.1] at m;exact m
 refine Az rfl _ _ 66 rfl 0 5 i0 _ 1 1 Tryz.underlying66 v P A L rfl d_ _ bl _ j_ (ra_ (w:=w.drew) o _) _ 1 1 [.int .u8 100] j_ rfl (Am _ _ 5) (by intro u S;simp at S;rcases S with rfl;rfl) d_ m_ o_ s_ ?_;intro v6 I H6;obtain⟨X,g6,G,_,W,z,J⟩:=H6;have E:E_ w (w.drew.alloc (.cells #[.int .u8 100] 5)):=((br_ _ w).drew).alloc qa_ _;have l:=Ec.pre E (Ec.of_mark g6 G qa_);have R:=l.1.at_ M.blk (λe=>Au o e M.blk d_ rfl);have C:Bj _ 0 _ _:=l.1.row M.row (λk hk e=>F (by simp[Value.ownBlock] at hk;rw[hk];exact e));have V:I.cell? (A_ y 2)=some (L_ q pl pl):=by have m:=cR_ 2 R;rw[f.2] at m;exact m
 have Q:=x1_ l;have a0:=x1_ C;have r:=x1_ X;subst J;refine hK _ _ V (λhHeld=>?_);try simp only[Act.put,sA,sB,sC]
 refine Af (i:=7) k_ rfl (λKK hK=>?_);have x:=Y;subst x
 have U:bl+1<=z:=by
  rcases r.out.2 with⟨e,_⟩|⟨g,cap,cur,e,_,_,hnc,_⟩
  ·cases e
  grind
 have D:(bl+1:Nat)<=(z:Int):=o_;go_simp;have t:Hid (Bj I 0 (L_ W (bl+1) z) (b++100::j)/\Ec w (.slice a bl c) I (L_ W (bl+1) z)):=(by refine⟨?_,Q⟩;unfold Bj;have s:=List.length_eq_zero_iff.1 f.2;have Z:(b++100::j).length=bl+1:=(by rw[s,Qe,f.1];rfl);have e2:(b++100::j).map (Value.int .u8)=b.map (Value.int .u8)++[.int .u8 100]:=(by rw[s];simp);rw[Z,e2];exact r);refine hK _ _ V (λhHeld=>?_);try simp only[Act.put,sA,sB,sC]
 refine Ai (i:=8) k_ rfl k_ (λKK hK=>?_);go_simp;refine hK _ _ ?_;try simp only[Act.put,sA,sB,sC]
 refine Ak k_ ?_ _;go_wp2;go_ret;exact⟨_,rfl,t⟩
structure Hb(W0 w)(v)(bs):Prop where
 bl:E_ W0 w
 ow:Bj w 0 v bs
 nw:∀k,v.ownBlock=some k->W0.heap.size<=k
def eo(W0:World)(L:List Int)(e:Ending)(w':World):Prop:=∃a c,e=.returned (.slice a L.length c)/\Hb W0 w' (.slice a L.length c) L
def Hb.app{d w b v a g L}(h:Hb d w v g)(f:Bj b 0 a L)(c:Ec w v b a):Hb d b a L:=by
 refine⟨h.bl.trans (c.1.to_below h.bl.size (λq hq=>h.nw q hq)),f,λk hk=>?_⟩
 rcases c.2 k hk with e|e
 exact h.nw k e;exact Nat.le_trans h.bl.size e
def Hb.below{W0 w w' v bs}(h:Hb W0 w v bs)(hb:Below w.heap.size w w'):Hb W0 w' v bs:=⟨h.bl.trans (hb.mono h.bl.size),(Aa.of_below (S:=λ_=>False) hb).row h.ow (λ_ _=>id),h.nw⟩
def Zaj.out{i w g v d b e}(h:Hb i w v d)(k:Zaj w v d b e g):eo i (d++b) e g:=by obtain⟨l,rfl,f,j⟩:=k;obtain⟨a,c,rfl⟩:=f.form;exact⟨a,c,rfl,h.app f j⟩
def Wp j q n d g a c b w (k:Zal w 0 j q n d g)(h:Bj w 0 (.slice a b.length c) b)(f:(Value.slice a b.length c).ownBlock≠some q)(i:g.length<=1000)(l:b.length<=1000000):C_ 374 #[.pointer (some ⟨j,0,none⟩),.slice a b.length c] w λe w'=>Zaj w (.slice a b.length c) b (100::g) e w':=by
 by_cases h0:g.length=0
 exact Wq _ q n d _ a c _ w k h f h0 l;exact Zl _ q n d _ a c _ w k h f o_ i l
def Kz(N:List Nat)(g:Nat):List Int:=if 4*nzN N<N.length then zv (Fu N N.length) else 100::Cd (Dr N (Lib.bitLen g)) ((N.length*Lib.bitLen g+7)/8) (N.length*Lib.bitLen g)
def Wl(fs:List Nat):List Int:=fs.map (λf=>(f:Nat)%256)
def Gw(b:BS):List Int:=[(b.fs.length:Int)%256]++Wl b.fs++Kz b.N b.g
def ZaA{a:List Nat}{k}(h:k<a.length):Wl (a.take (k+1))=Wl (a.take k)++[((a.getD k 0:Nat):Int)%256]:=by
 unfold Wl;rw[Qi h,List.map_append]
 grind
def Zg0{p:Prop}(h:p:=by
 clear HQ;go_wp2_with fail
 refine HC.mono ?_;rintro e w3 ⟨a3,c3,rfl,h3⟩;rw[<- HLE] at h3 ⊢;obtain⟨n3,hn3⟩:=ex_ ((bs++Gw b).length);rw[<- hn3] at h3 ⊢;have HN3:=x1_ hn3;have H3:=x1_ h3;clear h3 HC hn3;go_wp2;go_ret
 exact⟨a3,c3,by rw[<- HN3];rfl,by rw[<- HN3];exact H3⟩):p:=h
def Wk o G d b z a c bs w (hf:Ag o 0 (.slice G b.fs.length d) (Av b.fs))(hc:Ms o 0 z b.N b.g)(ho:Hb o w (.slice a bs.length c) bs)(aH:b.fs.length<=1000)(a1:∀f∈b.fs,f<=1000)(hl:bs.length<=900000)(C:(Fu b.N b.N.length).length<=1000/\∀x∈Fu b.N b.N.length,x.1<=1000/\x.2<=1000)(X:(Cd (Dr b.N (Lib.bitLen b.g)) ((b.N.length*Lib.bitLen b.g+7)/8) (b.N.length*Lib.bitLen b.g)).length<=1000):C_ 101 #[.agg #[.slice G b.fs.length d,z],.slice a bs.length c] w λe w'=>eo o (bs++Gw b) e w':=by
 have H0:=x1_ ho;have HF:=x1_ hf;obtain⟨t,p,hv⟩:=hc.iface
 have D:Hid (∀W a c L,Hb o W (.slice a L.length c) L->L.length<=1000000->(t=380/\Calls Tryz.prog 370 #[.pointer (some ⟨p,0,none⟩),.slice a L.length c] W λe w'=>eo o (L++Kz b.N b.g) e w')∨(t=382/\Calls Tryz.prog 374 #[.pointer (some ⟨p,0,none⟩),.slice a L.length c] W λe w'=>eo o (L++Kz b.N b.g) e w')):=λW a c L hW hL=>by
  rcases hc with⟨l,q,e,sb,vc,e2,_,hX⟩|⟨l,q,e,db,q2,e2,_,hX⟩
  left;rw[hv,e2] at e;injection e with e3 e4;injection e4 with e4;injection e4 with e4;injection e4 with e4 _;subst e4;refine⟨e3,?_⟩;have Z:=hW.bl;have E:vt W 0 p _ _ _ _:=⟨(Z.block _ (Qb hX.blk).1).trans hX.blk,(Aa.of_below (S:=λ_=>False) Z).row hX.row (λ_ _=>id)⟩;refine(Xu p _ _ _ _ a c L W E hW.ow C.1 C.2 hL).mono ?_;intro e w' h;unfold Kz;rw[if_pos l];exact h.out hW;right;rw[hv,e2] at e;injection e with e3 e4;injection e4 with e4;injection e4 with e4;injection e4 with e4 _;subst e4;refine⟨e3,?_⟩;have Z:=hW.bl;have E:Zal W 0 p _ _ _ _:=⟨(Z.block _ (Qb hX.blk).1).trans hX.blk,(Aa.of_below (S:=λ_=>False) Z).row hX.row (λ_ _=>id)⟩;refine(Wp p _ _ _ _ a c L W E hW.ow (λe=>?_) X hL).mono ?_
  have h2:=hW.nw _ e;have h3:=(rl_ hX.row q2 rfl).2;omega;intro e w' h;unfold Kz;rw[if_neg l];exact h.out hW
 subst hv;have a9:=x1_ a1;obtain⟨i0,y,a0,V,Q⟩:=info_parts Nc;have M:Hid _:=ho.ow;have a6:Hid (Gw b=_++_):=rfl
 have ht:t=380∨t=382:=by
  rcases D.out w a c bs H0 o_ with h|h
  exact .inl h.1;exact .inr h.1
 clear hf hc ho a1 C X;generalize hbl:bs.length=bl,hll:b.fs.length=ll at *;have i:=x2_ hbl hll;clear hbl hll;go_enter Tryz.func101,Tryz.ntmps101;go_wp2_with (at_builtin;refine Ab rfl (.tmp 7) _ _ rfl 0 5 _ _ 1 1 Tryz.underlying66 y a0 V Q rfl d_ _ _ _ rfl ((M.alloc _).alloc _) _ 1 1 [.int .u8 ((ll:Int)%256)] rfl rfl ?_ ?_ ?_ ?_ ?_ ?_ ?_)
 intro j u F;have l:=Am (w.alloc (.cells #[.slice G ll d,.iface t (P_ p)] 163)) #[.int _ _] 5 j u F;rw[show(w.alloc (.cells #[.slice G ll d,.iface t (P_ p)] 163)).heap.size=w.heap.size+1 by simp] at l;exact l;intro u F;simp at F;rcases F with rfl;rfl;decide;unfold maxLen;omega;omega;simp;intro v1 w1 H1;obtain⟨r1,g1,O,_,q1,p1,a7⟩:=H1;have P:Below _ w ((w.alloc (.cells #[.slice G ll d,.iface t (P_ p)] 163)).alloc (.cells #[.int .u8 ((ll:Int)%256)] 5)):=bA_.alloc s_ _;have a4:=Ec.pre P (Ec.of_mark g1 O s_);have a2:Bj _ 0 _ (_++[_]):=Bj.more (n:=1) (by rw[i.1];exact r1) rfl
 have A:w1.heap[w.heap.size]? =some (.cells #[.slice G ll d,.iface t (P_ p)] 163 (0,0)):=(g1.block _ t_ (λe=>by
  have:=(rl_ M _ e.symm).2
  omega)).trans ((hc_ s_).trans hn_)
 have h0:=H0.out;have T:=x2_ (h0.app a2 a4) A;have e0:=cR_ 0 A;subst a7;clear r1 g1 O a4 a2 A P h0;go_wp2_with fail
 go_loopw [1,17] (λtv ti wr=>∃(k:Nat) (I:Option Addr) (H:Nat),tv=.slice I (bl+1+k) H/\ti=.int .i64 k/\k<=ll/\Hid (Hb o wr (.slice I (bl+1+k) H) (bs++[(ll:Int)%256]++Wl (b.fs.take k))/\wr.heap[w.heap.size]? =some (.cells #[.slice G ll d,.iface t (.pointer (some ⟨p,0,none⟩))] 163 (0,0)))) (λ_ ti _=>ll-(intOf ti).toNat)
 case atStart=>exact⟨0,_,_,rfl,rfl,qg_,by rw[List.take_zero];show Hb _ _ _ (_++[])/\_;rw[List.append_nil];exact T⟩
 case round=>
  clear T e0;obtain⟨k,I,H,rfl,rfl,hk,r⟩:=hrel;have aF:=(Qb r.2).1;have m:Hid ((bs++[(ll:Int)%256]++Wl (b.fs.take k)).length=bl+1+k):=by show _=_;rw[Qe,Qe,i.1];have l:(Wl (b.fs.take k)).length=k:=(by unfold Wl;rw[List.length_map,List.length_take,i.2];omega);rw[l];rfl
  by_cases hkl:k<ll
  ·have U:k<b.fs.length:=(by rw[i.2];exact hkl);have R:=HF.below r.1.bl;obtain⟨q,hq,aC,_,y0,_⟩:=R.atK (by rw[Aw];exact i.2) hkl;rw[Cv] at y0;subst hq;have J:b.fs.getD k 0=b.fs[k]:=w_;have aA:=a9 _ (Qf U);rw[<- J] at aA;have HX:Hid (bs++[(ll:Int)%256]++Wl (b.fs.take (k+1))=(bs++[(ll:Int)%256]++Wl (b.fs.take k))++[((b.fs.getD k 0:Nat):Int)%256]):=(by show _=_;rw[ZaA U,List.append_assoc (bs++[(ll:Int)%256])]);have B:Hid (wr.ownsRow 0 5 1 (.slice I (bl+1+k) H) (bl+1+k) ((bs++[(ll:Int)%256]++Wl (b.fs.take k)).map (Value.int .u8))):=by have l:=r.1.ow;unfold Bj at l;rw[m] at l;exact l
   generalize bs++[(ll:Int)%256]++Wl (b.fs.take k)=L0 at *;clear J R;generalize b.fs.getD k 0=f,hbn:bl+1+k=bn at *;have a5:=x1_ hbn;have aB:bn<=902002:=o_;clear hbn;have aG:0<=(k:Int):=o_;have aD:k<(ll:Int):=o_;go_wp2_with (at_builtin;refine Ab rfl (.tmp 21) _ 66 rfl 0 5 i0 _ 1 1 Tryz.underlying66 y a0 V Q rfl d_ _ bn _ rfl (B.alloc _) _ 1 1 [.int .u8 ((f:Int)%256)] rfl rfl ?_ ?_ ?_ ?_ ?_ ?_ ?_)
   exact Am _ _ 5;intro u F;simp at F;rcases F with rfl;rfl;decide;unfold maxLen;omega;omega;simp;intro v4 w4 H4;obtain⟨r4,g4,d4,_,q4,p4,a8⟩:=H4;have HN:Hid (Hb o w4 v4 (bs++[(ll:Int)%256]++Wl (b.fs.take (k+1)))/\w4.heap[w.heap.size]? =some (.cells #[L_ q ll d,.iface t (P_ p)] 163 (0,0))):=(by have ha:=Ec.pre (v:=.slice _ _ _) bA_ (Ec.of_mark g4 d4 s_);refine⟨r.1.app ?_ ha,ha.1.at_ r.2 (λe=>Au B e r.2 d_ rfl)⟩;rw[HX];refine Bj.more (n:=1) ?_ rfl;rw[m];exact r4);subst a8;clear r4 g4 d4 B r HX y0;have s:bn+1=bl+1+(k+1):=(by have:=a5.out;omega);rw[s] at HN ⊢;clear s;refine rd_ ?_;exact⟨k+1,some _,p4,rfl,g_,o_,HN⟩
  have aE:¬k<(ll:Int):=o_;have Y:b.fs.take k=_:=List.take_of_length_le (by have:=i.2;omega);have HLE:Hid (bs++Gw b=(bs++[(ll:Int)%256]++Wl (b.fs.take k))++Kz b.N b.g):=(by show _=_;rw[a6,Y,List.append_assoc,List.append_assoc,List.append_assoc]);have e1:=cR_ 1 r.2;have HQ:=x1_ (D _ _ _ _ (by rw[m];exact r.1) (by rw[m];omega));rw[m] at HQ;generalize bs++[(ll:Int)%256]++Wl (b.fs.take k)=L0 at *;clear r Y D
  rcases ht with rfl|rfl
  ·have HC:C_ 370 #[.pointer (some ⟨p,0,none⟩),.slice I (bl+1+k) H] wr λe w'=>eo o (L0++Kz b.N b.g) e w':=by
    rcases HQ.out with h|h
    exact h.2;exact absurd h.1 d_
   exact Zg0
  have HC:C_ 374 #[.pointer (some ⟨p,0,none⟩),.slice I (bl+1+k) H] wr λe w'=>eo o (L0++Kz b.N b.g) e w':=by
   rcases HQ.out with h|h
   exact absurd h.1 d_;exact h.2
  exact Zg0
def Jz(bs:List Int):List Int:=bs.flatMap (λx=>Ba x 4)
def rt{L:List Int}{k}(h:k<L.length):Jz (L.take (k+1))=Jz (L.take k)++Ba (L.getD k 0) 4:=by
 unfold Jz;rw[Qi h,List.flatMap_append]
 grind
def fh L:(Jz L).length=L.length*4:=by
 induction L with
 |nil=>rfl
 | cons x L ih=>
  grind [Jz,Gc]
def knB(k:KS):List Int:=[110,(k.d:Int)%256,k.e.cnt%256]++Jz k.e.bs
def Zp W0 M R N X k a c l w (G:k.e.wd=false)(hI:Ag W0 0 (.slice M k.e.bs.length N) k.e.bs)(ho:Hb W0 w (.slice a l.length c) l)(aH:k.e.bs.length<=1000)(hr:∀x∈k.e.bs,-1000000000000<=x/\x<=1000000000000)(hl:l.length<=900000):C_ 100 #[.agg #[.bool k.e.wd,.slice M k.e.bs.length N,.slice R 0 X,.int .i64 k.d],.slice a l.length c] w λe w'=>eo W0 (l++knB k) e w':=by
 rw[G];have H0:=x1_ ho;have HI:=x1_ hI;have aB:=x1_ hr;have z:k.e.cnt=k.e.bs.length:=by unfold ES.cnt Ky;rw[G];rfl
 have aA:Hid (knB k=[110,(k.d:Int)%256,k.e.bs.length%256]++Jz k.e.bs):=by show _=_;unfold knB;rw[z]
 have a9:Hid (∀W:_,Calls _ 169 _ W λe w'=>e=.returned (.int _ ((k.e.bs.length:Nat):Int))/\_):=λW=>Wo false M R _ N 0 X W;obtain⟨i0,U,aG,aE,aD⟩:=info_parts Nc;have P:Hid _:=ho.ow;clear hI ho hr G z;generalize k.d=d,hbl:l.length=bl,hnb:k.e.bs.length=nb at *;have o:=x2_ hbl hnb;clear hbl hnb;go_enter Tryz.func100,Tryz.ntmps100;go_upto_region 4 with fail;generalize hW1:w.alloc (.cells #[.bool false,.slice M nb N,.slice R 0 X,I_ (d:Nat)] 172)=w1;have a7:E_ w w1:=(by rw[<- hW1];exact bA_);have g:w1.heap[w.heap.size]? =some (.cells #[.bool false,.slice M nb N,.slice R 0 X,I_ d] 172 (0,0)):=(by rw[<- hW1];exact hn_);have h:=(Qb g).1;have x0:=cR_ 0 g;have x1:=cR_ 1 g;have x2:=cR_ 2 g;have x3:=cR_ 3 g
 have a5:=x2_ g a7;clear hW1 a7 g;refine Al (λw'=>w'.cell? _=some _/\w'.cell? _=some _/\w'.cell? _=some _/\w'.cell? _=some _) 11 k_ ⟨x0,x1,x2,x3⟩ (λhHeld=>?_);refine Ah 0 ?_;refine Ah 1 ?_;refine Ah 2 ?_;refine Tx [4,9,10,11] 3 (v:=?_) ?_ ?_
 rotate_left
 ·intro w I;try obtain⟨_,_,_,_⟩:=I
  go_simp;try with_reducible rfl
 try simp only[Act.put,sA,sB,sC]
 refine Ah 4 ?_;refine Ah 5 ?_;refine Tx [7,8,9,10,11] 6 (v:=?_) ?_ ?_
 rotate_left
 ·intro w I;try obtain⟨_,_,_,_⟩:=I
  go_simp;try with_reducible rfl
 try simp only[Act.put,sA,sB,sC]
 refine Af (i:=7) k_ rfl (λKK hK=>?_);go_simp;refine(a9 _).mono ?_;rintro e C ⟨rfl,a4⟩;have b:=(br_ w1.heap.size _).drew.trans a4;have y0:=(b.cell (p:=(A_ w.heap.size 0)) h).trans x0;have y1:=(b.cell (p:=(A_ w.heap.size 1)) h).trans x1;have y2:=(b.cell (p:=(A_ w.heap.size 2)) h).trans x2;have y3:=(b.cell (p:=(A_ w.heap.size 3)) h).trans x3;have f:=Qh h b.size;go_simp;refine hK _ _ ⟨y0,y1,y2,y3⟩ (λhHeld=>?_);clear hK KK a4;try simp only[Act.put,sA,sB,sC]
 refine Ah 8 ?_;refine Af (i:=9) k_ rfl (λKK hK=>?_);go_simp;refine hK _ _ ⟨(Below.cell (B:=C.heap.size) (p:=(A_ w.heap.size 0)) bA_ f).trans y0,(Below.cell (B:=C.heap.size) (p:=(A_ w.heap.size 1)) bA_ f).trans y1,(Below.cell (B:=C.heap.size) (p:=(A_ w.heap.size 2)) bA_ f).trans y2,(Below.cell (B:=C.heap.size) (p:=(A_ w.heap.size 3)) bA_ f).trans y3⟩ (λhHeld=>?_);clear hK KK;try simp only[Act.put,sA,sB,sC]
 refine Af (i:=10) k_ rfl (λKK hK=>?_);have m:=a5.2.trans (b.mono (Nat.le_of_lt h));refine Az rfl (.tmp 13) (.tmp 22) 66 rfl 0 5 i0 (.int .u8 0) 1 1 Tryz.underlying66 U aG aE aD rfl d_ (.slice a bl c) bl (l.map (Value.int .u8)) j_ (ra_ (w:=C) ((Aa.of_below (S:=λ_=>False) m).row P (λ_ _=>id)) _) (A_ C.heap.size 0) 3 3 [.int .u8 110,.int .u8 ((d:Int)%256),.int .u8 ((nb:Int)%256)] j_ rfl (Am C _ 5) (by intro u hu;simp at hu;rcases hu with rfl|rfl|rfl<;>rfl) d_ m_ o_ s_ ?_;intro v6 w6 H6;obtain⟨r6,g6,a2,_,q6,p6,aC⟩:=H6;have A:Below _ w (C.alloc (.cells #[.int .u8 110,.int .u8 ((d:Int)%256),.int .u8 ((nb:Int)%256)] 5)):=m.alloc m.size _
 have a1:=Ec.pre A (Ec.of_mark g6 a2 qa_);have a8:Bj _ 0 _ (_++[_,_,_]):=Bj.more (n:=3) (by rw[o.1];exact r6) rfl
 have r:=(g6.block _ t_ (λe=>by
  have:=(rl_ P _ e.symm).2
  omega)).trans ((hc_ f).trans ((b.block _ h).trans a5.1))
 have h0:=H0.out;have L:=x2_ (h0.app a8 a1) r;have z0:=cR_ 0 r;have z1:=cR_ 1 r;have z2:=cR_ 2 r;have z3:=cR_ 3 r;subst aC;clear r6 g6 a2 A a1 a8 r h0 y0 y1 y2 y3 m;refine hK _ _ ⟨z0,z1,z2,z3⟩ (λhHeld=>?_);clear hK KK;try simp only[Act.put,sA,sB,sC]
 refine Ai (i:=11) k_ rfl k_ (λKK hK=>?_);go_simp;refine hK _ _ ?_;clear hK KK;try simp only[Act.put,sA,sB,sC]
 refine Ak k_ ?_ _;clear x0 x1 x2 x3 hHeld;have e1:=cR_ 1 L.2;go_wp2_with fail
 go_loopw [1,28] (λtv ti wr=>∃(j:Nat) (D:Option Addr) (E:Nat),tv=.slice D (bl+3+j*4) E/\ti=.int .i64 j/\j<=nb/\Hid (Hb W0 wr (.slice D (bl+3+j*4) E) (l++[110,(d:Int)%256,(nb:Int)%256]++Jz (k.e.bs.take j))/\wr.heap[w.heap.size]? =some (.cells #[.bool false,.slice M nb N,.slice R 0 X,.int .i64 (d:Nat)] 172 (0,0)))) (λ_ ti _=>nb-(intOf ti).toNat)
 case atStart=>exact⟨0,_,_,rfl,rfl,qg_,by rw[List.take_zero];show Hb _ _ _ (_++[])/\_;rw[List.append_nil];exact L⟩
 case round=>
  clear L e1;obtain⟨j,D,E,rfl,rfl,hj,t⟩:=hrel;have aK:=(Qb t.2).1;have s:Hid ((l++[110,(d:Int)%256,nb%256]++Jz (k.e.bs.take j)).length=bl+3+j*4):=by show _=_;rw[Qe,Qe,fh,List.length_take,o.1,o.2,Nat.min_eq_left hj];rfl
  by_cases hjl:j<nb
  ·have Z:j<k.e.bs.length:=(by rw[o.2];exact hjl);have a6:=HI.below t.1.bl;obtain⟨q,hq,aI,_,y0,_⟩:=a6.atK o.2 hjl;subst hq;have O:k.e.bs.getD j 0=k.e.bs[j]:=w_;have y:=aB _ (Qf Z);rw[<- O] at y;have HX:Hid (l++[110,(d:Int)%256,nb%256]++Jz (k.e.bs.take (j+1))=(l++[110,(d:Int)%256,nb%256]++Jz (k.e.bs.take j))++Ba (k.e.bs.getD j 0) 4):=(by show _=_;rw[rt Z,List.append_assoc (l++_)]);generalize l++[110,(d:Int)%256,(nb:Int)%256]++Jz (k.e.bs.take j)=L0 at *;clear O a6;generalize k.e.bs.getD j 0=x at *
   have T:C_ 102 #[.slice D (bl+3+j*4) E,.int .i64 x,.int .i64 4] wr λe w'=>Zaj wr (.slice D (bl+3+j*4) E) L0 (Ba x 4) e w':=(by have h1:=t.1;rw[<- s] at h1 ⊢;exact Mj _ _ 4 _ x _ h1.ow o_ (by rw[s];omega) y.1 y.2);have aM:0<=(j:Int):=o_;have aJ:j<(nb:Int):=o_;clear y hHeld z0 z1 z2 z3;go_wp2_with fail
   refine T.mono ?_;rintro e w3 ⟨v3,rfl,H,J⟩;have F:=t.1.app H J;have a0:=J.1.at_ t.2 (λe=>Au t.1.ow e t.2 d_ rfl);obtain⟨a3,c3,Y⟩:=H.form;rw[Qe,Gc,s,show bl+3+j*4+4=bl+3+(j+1)*4 by omega] at Y;subst Y;rw[<- HX] at F;have HN:=x2_ F a0;clear T H J F a0 t HX y0;refine rd_ ?_;exact⟨j+1,a3,c3,rfl,g_,o_,HN⟩
  have aL:¬j<(nb:Int):=o_;have V:k.e.bs.take j=_:=List.take_of_length_le (by have:=o.2;omega);have HF:Hid (Hb W0 wr (.slice D (bl+3+j*4) E) (l++knB k)/\(l++knB k).length=bl+3+j*4):=(by have h1:=t.1;have h2:=s.out;rw[V,List.append_assoc,<- aA] at h1 h2;exact⟨h1,h2⟩);have e2:=cR_ 2 t.2;clear V t s hHeld z0 z1 z2 z3;obtain⟨wl,Q⟩:∃wl,wl=wr:=⟨wr,rfl⟩;subst Q;go_wp2_with fail
  go_loopw [1,40] (λtv ti wr=>tv=.slice D (bl+3+j*4) E/\ti=.int .i64 0/\Hid (wl=wr)) (λ_ _ _=>0)
  case atStart=>exact⟨rfl,rfl,rfl⟩
  case round=>
   obtain⟨rfl,rfl,hw⟩:=hrel;have aF:=hw.out;subst aF;clear hw;go_wp2;go_ret;exact⟨D,E,by rw[HF.2];rfl,by rw[HF.2];exact HF.1⟩
def qt n d w:C_ 299 #[.agg #[.int .i64 n,.int .i64 d]] w λe w'=>e=.returned (.int .i64 n)/\Below w.heap.size w w':=by go_enter Tryz.func299,Tryz.ntmps299;go_wp2;go_ret;exact⟨rfl,bA_⟩
theorem ZiC:((Tryz.prog.info? 380).bind (λi=>(i.methods.find? (λm=>m.name== "Rows")).map (λm=>(m.path.toList.map (λs=>(s.struct,s.index,s.deref)),m.func))))=some ([(403,0,true)],some (299,false)):=k_
theorem ZiD:((Tryz.prog.info? 382).bind (λi=>(i.methods.find? (λm=>m.name== "Rows")).map (λm=>(m.path.toList.map (λs=>(s.struct,s.index,s.deref)),m.func))))=some ([(396,0,true)],some (299,false)):=k_
def ff{α β:Type}{o f}{i:α}{y:β}(h:o.bind f=some y)(a:o=some i):f i=some y:=by subst a;exact h
def Zgd sb w n d (s0:w.cell? (A_ sb 0)=some (I_ n))(s1:w.cell? (A_ sb 1)=some (I_ d)):(method 535 380 (P_ sb) "Rows").run Tryz.prog w=.ok (299,.agg #[I_ n,I_ d]) w:=by
 obtain⟨i,hi⟩:∃i,Tryz.prog.info? 380=some i:=by
  cases h:Tryz.prog.info? 380 with
  |none=>grind [ZiC]
  |some i=>exact⟨i,rfl⟩
 have h1:=ff ZiC hi;obtain⟨m,hm,h2⟩:=Option.map_eq_some_iff.1 h1;injection h2 with hp hf
 obtain⟨s,hs⟩:∃s,m.path.toList=[s]/\(s.struct,s.index,s.deref)=(403,0,true):=by
  cases hq:m.path.toList with
  |nil=>grind
  | cons a l=>
   grind [List.map_eq_nil_iff]
 obtain⟨hs1,hs2⟩:=hs;injection hs2 with e1 e2;injection e2 with e2 e3;unfold method;have hp2:m.path=#[s]:=w_;simp[go_sem,typeInfo,hi,hm,hp2,hf,follow,e1,e2,e3,Place.get,receiverAt,s0,s1]
def Zge sb w n d (s0:w.cell? (A_ sb 0)=some (I_ n))(s1:w.cell? (A_ sb 1)=some (I_ d)):(method 535 382 (P_ sb) "Rows").run Tryz.prog w=.ok (299,.agg #[I_ n,I_ d]) w:=by
 obtain⟨i,hi⟩:∃i,Tryz.prog.info? 382=some i:=by
  cases h:Tryz.prog.info? 382 with
  |none=>grind [ZiD]
  |some i=>exact⟨i,rfl⟩
 have h1:=ff ZiD hi;obtain⟨m,hm,h2⟩:=Option.map_eq_some_iff.1 h1;injection h2 with hp hf
 obtain⟨s,hs⟩:∃s,m.path.toList=[s]/\(s.struct,s.index,s.deref)=(396,0,true):=by
  cases hq:m.path.toList with
  |nil=>grind
  | cons a l=>
   grind [List.map_eq_nil_iff]
 obtain⟨hs1,hs2⟩:=hs;injection hs2 with e1 e2;injection e2 with e2 e3;unfold method;have hp2:m.path=#[s]:=w_;simp[go_sem,typeInfo,hi,hm,hp2,hf,follow,e1,e2,e3,Place.get,receiverAt,s0,s1]
def ia:∀(vs:List (Value×Value)) (i:Nat),i<vs.length->∀c,c<2->(Mn vs)[i*2+c]? =[(vs.getD i Oi).1,(vs.getD i Oi).2][c]?
  |[],i,h=>by simp at h
  |x::L,0,_=>λc hc=>by grind [Mn]
  |x::L,i+1,h=>λc hc=>by simp only[Mn];rw[List.getElem?_append_right t_,show(i+1)*2+c-[x.1,x.2].length=i*2+c by simp;omega];exact ia L i (by simpa using h) c hc
def Sy.at{w f b d}(h:ZlI w f b d){i}(k:i<d.length):∃q c,f=L_ q d.length c/\q<w.heap.size/\w.cell? (A_ q (i*2))=some (b.getD i Oi).1/\w.cell? (A_ q (i*2+1))=some (b.getD i Oi).2:=by
 have j:=h.row
 rcases h.row.2 with⟨_,h0⟩|⟨g,cap,cur,e,hb,hh,hnc,_⟩
 omega;subst e
 have a:∀c u,c<2->[(b.getD i Oi).1,(b.getD i Oi).2][c]? =some u->w.cell? (A_ g (i*2+c))=some u:=λc u hc hu=>by rw[World.ownsRow.cellAt j (i*2+c) o_];exact(ia _ i (by rw[h.len];exact k) c hc).trans hu
 exact⟨g,cap,rfl,(Qb hh).1,a 0 _ o_ rfl,a 1 _ o_ rfl⟩
def Sy.form{w b e d}(h:ZlI w b e d):∃a c,b=.slice a d.length c:=by
 rcases h.row.2 with⟨rfl,h0⟩|⟨q,p,cur,rfl,_⟩
 ·grind
 grind
def Nq m y x t l a X w (h:DsX w m y x t l a X)(r:0<a.length):C_ 51 #[.pointer (some ⟨m,0,none⟩)] w λe w'=>e=.returned (.int .i64 (a.getD 0 Dx).N.length)/\Below w.heap.size w w':=by
 obtain⟨q,z,i,s,n,k⟩:=h.bn.at r;subst i;have B:=cR_ 1 h.blk;have A:0<(a.length:Int):=o_;have o:=x1_ qt;have b:=(h.bn.each 0 r).2;generalize a.length=bl at *;rw[show 0*2+1=1 from rfl] at k
 rcases b with⟨h1,p,e,sb,vc,e2,_,hX⟩|⟨h1,p,e,d2,q2,e2,_,hX⟩
 ·rw[e,e2] at k;have j:=cR_ 0 hX.blk;have f:=cR_ 1 hX.blk;clear hX e e2 h1;generalize (a.getD 0 Dx).N.length=nn,Lib.bitLen (a.getD 0 Dx).g=gg at *;have v:=Zgd _ w _ _ j f;clear h n;go_enter Tryz.func51,Tryz.ntmps51;go_wp2_with fail
  refine(o _ _ _).mono ?_;rintro e u ⟨rfl,c⟩;have d:=x1_ c;clear c;go_wp2;go_ret;exact⟨rfl,d⟩
 rw[e,e2] at k;have j:=cR_ 0 hX.blk;have f:=cR_ 1 hX.blk;clear hX e e2 h1;generalize (a.getD 0 Dx).N.length=nn,Lib.bitLen (a.getD 0 Dx).g=gg at *;have v:=Zge _ w _ _ j f;clear h n;go_enter Tryz.func51,Tryz.ntmps51;go_wp2_with fail
 refine(o _ _ _).mono ?_;rintro e u ⟨rfl,c⟩;have d:=x1_ c;clear c;go_wp2;go_ret;exact⟨rfl,d⟩
def Mv.form{w b e d}(h:ZgK w b e d):∃a c,b=.slice a d.length c:=by
 rcases h.row.2 with⟨rfl,h0⟩|⟨q,p,cur,rfl,_⟩
 ·grind
 grind
def ye f i g j b d X D w (h:Sm w f i g j b d X D):C_ 93 #[.pointer (some ⟨f,0,none⟩)] w λe w'=>e=.returned (.int .i64 D.ks.length)/\w'=w:=by obtain⟨a,c,rfl⟩:=h.kn.form;have k:=cR_ 0 h.ds.blk;clear h;go_enter Tryz.func93,Tryz.ntmps93;go_wp2;go_ret;exact⟨rfl,rfl⟩
def Ie a c D f w (h:Mw w a c D)(p:D.ks.length<=1000):C_ 52 #[.pointer (some ⟨a,0,none⟩),.int .i64 f] w λe w'=>e=.returned (.bool (decide (0<=f/\f<=D.ks.length-1)))/\w'=w:=by
 have m:=cR_ 0 h.gp;obtain⟨n,o,l,d,i,X,b⟩:=h.md;have j:=ye _ _ _ _ _ _ X D w b;clear b h;generalize D.ks.length=nk at *;go_enter Tryz.func52,Tryz.ntmps52;go_wp2_with fail
 refine j.mono ?_;rintro e k ⟨rfl,g⟩;obtain rfl:=g.symm;go_wp2
 all_goals go_ret
 all_goals (refine⟨?_,rfl⟩;simp<;>omega)
def ZfB c f D w (h:Mw w c f D)(b:0<D.bs.length):C_ 26 #[.pointer (some ⟨c,0,none⟩)] w λe w'=>e=.returned (.int .i64 (D.bs.getD 0 Dx).N.length)/\Below w.heap.size w w':=by
 have n:=cR_ 0 h.gp;obtain⟨p,o,m,i,k,X,d⟩:=h.md;have j:=Nq _ _ _ _ _ _ X w d.ds b;clear d h b;generalize (D.bs.getD 0 Dx).N.length=nn at *;go_enter Tryz.func26,Tryz.ntmps26;go_wp2_with fail
 refine j.mono ?_;rintro e l ⟨rfl,a⟩;have g:=x1_ a;clear a;go_wp2;go_ret;exact⟨rfl,g⟩
end Go.Proofs.YtfcgnpchbcmdeaaGreat
