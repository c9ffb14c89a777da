import Derived.Test.YtfcgnpchbcmdeaaGreatZrbl
import Derived.Test.YtfcgnpchbcmdeaaGreatZrbo
namespace Go.Proofs.YtfcgnpchbcmdeaaGreat
set_option linter.all false
set_option maxRecDepth 100000
set_option maxHeartbeats 4000000
open Go.RowKit
def Mt.mem{n D}(_:Mt n D){i}(a:i<D.bs.length):D.bs.getD i Dx∈D.bs:=w_
def xy F f a n I J G z B X D w (h:Sm w F I J G z B X D)(b:Mt n D)(L:f<D.ks.length)(H:a<n):C_ 78 #[.pointer (some ⟨F,0,none⟩),.int .i64 a,.int .i64 f] w λe w'=>e=.returned (.int .i64 (iz D X f (Hq D f) (Yz D f) a:Nat))/\Below w.heap.size w w':=by
 have u:=b.seat L;have d:=b.mem u.hb;have c:=b.bok _ d;have M:=b.g40 _ d;have k:a<(D.bs.getD (Hq D f) Dx).N.length:=by rw[c.len];exact H
 have C:(D.bs.getD (Hq D f) Dx).N.getD a 0<=(D.bs.getD (Hq D f) Dx).g:=(by rw[Qc,Qd k];exact c.le _ (Qf _));have s:X.length<=1000000:=by rw[h.perm.length_eq];have:=b.xl;omega
 have i:Nh D (Hq D f) (Yz D f)<=100000:=by
  have E:=zy _ ((D.bs.getD _ _).fs.take (Yz D f)) (λx hx=>Nat.le_trans (b.mn x (b.fk _ d x (List.mem_of_mem_take hx))) d_);have O:=b.f4 _ d
  grind [Nh]
 have y:=b.n2;have o:D.bs.length<=1000:=(by have:=b.b4;omega);obtain⟨_,l⟩:=h.ds.bn.each (Hq D f) u.hb
 rcases l with⟨_,p,e,sb,vc,e2,_,hX⟩|⟨_,p,e,dd,q,e2,_,hX⟩
 subst e2;refine pz _ f _ _ _ _ _ _ _ _ _ X D w h u o s o_ i e (λW hW=>?_);have j:vt W 0 _ _ _ _ _:=⟨(hW.block _ (Qb hX.blk).1).trans hX.blk,(Aa.of_below (S:=λ_=>False) hW).row hX.row (λ_ _=>id)⟩;exact zw _ _ _ _ _ _ W j k (by rw[c.len];omega);subst e2;have m:Lib.bitLen (D.bs.getD (Hq D f) Dx).g<=6:=Re o_;have A:=Nat.lt_of_le_of_lt C (rq o_);refine yw _ f _ _ _ _ _ _ _ _ _ X D w h u o s o_ i e (λW hW=>?_);have r:a*Lib.bitLen (D.bs.getD (Hq D f) Dx).g+Lib.bitLen (D.bs.getD (Hq D f) Dx).g<=(D.bs.getD (Hq D f) Dx).N.length*Lib.bitLen (D.bs.getD (Hq D f) Dx).g:=by rw[<- Nat.succ_mul];exact Nat.mul_le_mul_right _ k
 have v:(D.bs.getD _ _).N.length*_<=_:=Nat.mul_le_mul (by rw[c.len];exact y) m;have j:Zal W 0 _ q _ _ _:=⟨(hW.block _ (Qb hX.blk).1).trans hX.blk,(Aa.of_below (S:=λ_=>False) hW).row hX.row (λ_ _=>id)⟩;have E:=ZaO _ q _ _ _ _ _ _ W j (λt=>Uj _ _ t) m r o_ o_;rw[Zfc _ A] at E;exact E
def ZaY q u f c m n a k i w (h:Mw w q u (Ao m n a k i))(p:m+1<=4)(s:n<=200)(o:Po m n k i)(l:f<m+1)(j:c<n):C_ 44 #[.pointer (some ⟨q,0,none⟩),.int .i64 c,.int .i64 f] w λe w'=>e=.returned (.tuple #[.int .i64 ((i.getD f []).getD c 0:Nat),.int .i64 0])/\Below w.heap.size w w':=by have d:=Jk (budget:=a) p s o;have b:(Ao m n a k i).ks.length=m+1:=(by grind [Ao,Kw,Dh]);have g:=(d.bok _ (d.mem d.b0)).len;refine ZaZ _ _ f _ _ _ w h d.b0 (by rw[b];omega) (by rw[g];exact j) (by rw[g];omega) (by rw[b];exact l) (λW hW=>?_);obtain⟨z,A,y,v,x,X,r⟩:=hW.md;have t:=xy _ f _ n _ _ _ _ _ X _ W r d (by rw[b];exact l) j;rw[Zh0 p s o r.perm l j] at t;exact t
def Zc6 c d n D w (h:Mw w c d D)(a:Mt n D):C_ 26 #[.pointer (some ⟨c,0,none⟩)] w λe w'=>e=.returned (.int .i64 n)/\Below w.heap.size w w':=by have b:=ZfB _ _ D w h a.b0;rw[(a.bok _ (a.mem a.b0)).len] at b;exact b
def ph gb db n D w (h:Mw w gb db D)(hd:Mt n D):C_ 55 #[.pointer (some ⟨gb,0,none⟩)] w λe w'=>ZkV w D e w':=
 ym gb db D w h hd.b0 (by have:=hd.b4;omega) (λi hi=>⟨hd.f0 _ (hd.mem hi),by have:=hd.f4 _ (hd.mem hi);omega⟩)
def yl gb db f n D w (h:Mw w gb db D)(hd:Mt n D)(hf:f<D.ks.length):C_ 27 #[.pointer (some ⟨gb,0,none⟩),.int .i64 f] w λe w'=>ZlG w (D.ks.getD f Ay).e e w':=
 ZaW gb db f D w h (by have:=hd.k4;omega) hf (hd.edg f hf).lb (hd.edg f hf).lw
def Dv(L:List Int):Prop:=∀b∈L,0<=b/\b<256
def Dv.nil:Dv []:=by intro b a;simp at a
theorem Dv.append{A B}(a:Dv A)(b:Dv B):Dv (A++B):=λx hx=>by
 rcases List.mem_append.1 hx with h|h
 exact a x h;exact b x h
theorem Dv.cons{x A}(h1:0<=x/\x<256)(a:Dv A):Dv (x::A):=λy hy=>by
 rcases List.mem_cons.1 hy with rfl|h
 exact h1;exact a y h
theorem Dv.flat{α:Type}{f}{L:List α}(h:∀x∈L,Dv (f x)):Dv (L.flatMap f):=λy hy=>by obtain⟨x,hx,hy⟩:=List.mem_flatMap.1 hy;exact h x hx y hy
def Xi(x:Int):0<=x%256/\x%256<256:=o_
theorem yx n:∀j,Dv (Ba n j)
 |0=>Dv.nil
 |j+1=>by unfold Ba;exact(yx n j).append (Dv.cons (Xi _) Dv.nil)
theorem Zff b:Dv (Aq b):=λx hx=>by unfold Aq at hx;obtain⟨u,_,rfl⟩:=List.mem_map.1 hx;have:=u.toNat_lt;omega
theorem Zio{f}(hf:∀t,f t<=1) nb T:Dv (Cd f nb T):=λx hx=>by grind [Cd,fx]
theorem ZiL L:∀k,Dv (kv L k)
 |0=>by unfold kv;exact Dv.nil
 |k+1=>by unfold kv;exact(ZiL L k).append (Dv.cons (Xi _) (Dv.cons (Xi _) Dv.nil))
theorem ZjB N g:Dv (Kz N g):=by
 unfold Kz;split
 ·grind [zv,Dv.cons,ZiL]
 grind [Dv.cons,Zio,Uj]
theorem ZkZ fs:Dv (Wl fs):=λx hx=>by grind [Wl]
theorem Zjv b:Dv (Gw b):=by grind [Gw,Dv.append,Dv.cons,ZkZ,ZjB]
theorem Zlj k:Dv (Pj k):=by
 unfold Pj;split
 ·unfold yo Ki
  grind [Dv.cons,Dv.flat,Zff]
 unfold knB Jz
 grind [Dv.cons,Dv.flat,yx]
theorem Zl1 x:Dv (xB x):=Dv.cons (Xi _) (Dv.cons (Xi _) (Dv.cons (Xi _) Dv.nil))
def ZeT D X:Dv (Ob D X):=by
 unfold Ob
 grind [Dv.append,Dv.flat,Zlj,Zjv,yx,Zl1,Dv.cons]
def Mt.bun{n D}(h:Mt n D):∀b∈D.bs,ZdX b:=λb hb=>by
 have h1:=h.bok b hb;have h2:=h.g40 b hb;have h3:=h.f4 b hb;have h4:=h.n2;have h5:=h.k4;have hb6:Lib.bitLen b.g<=6:=Re o_;have hmul:b.N.length*_<=_:=Nat.mul_le_mul (by rw[h1.len];exact h4) hb6;have hsl:=Vy b.N b.N.length;have hpl:=Gp (Dr b.N (Lib.bitLen b.g)) ((b.N.length*Lib.bitLen b.g+7)/8) (b.N.length*Lib.bitLen b.g);have hNl:=h1.len;refine⟨o_,λf hf=>by have:=h.fk b hb f hf;omega,⟨o_,λx hx=>?_⟩,o_,?_⟩
 ·obtain⟨a1,a2,_⟩:=(dh _ _ x).1 hx;refine⟨o_,?_⟩;rw[a2,Qc,Qd a1];have:=h1.le _ (Qf a1)
  grind
 grind [Gw,Wl,Kz,zv,Vz]
def ZaX f g n D w (h:Mw w f g D)(a:Mt n D)(c:∀K∈D.ks,oe K) X (d:X.Perm D.xs)(j:Fp X):C_ 34 #[.pointer (some ⟨f,0,none⟩)] w λe w'=>e=.returned (.string (strOfNums (Ml D X)))/\Below w.heap.size w w':=by obtain⟨o,m,l,i,k,Y,b⟩:=h.md;obtain rfl:X=Y:=ZdI a.keys d j b.perm b.sorted;exact Zc4 _ _ _ _ _ _ _ X D w h.gp b a.b0 c a.k4 a.bun a.b4 (by rw[d.length_eq];have:=a.xl;omega) (ZeT D X)
def Ze{S:Int->Prop}{size}(hs:2<=size)(hs2:size<=32):∀{Ls l},Fo Ls->Bq l->l.length<=32->Bh Ls+Ae l<=1000000000000->(∀L∈Ls,∀e∈L,S e.v)->(∀e∈l,S e.v)->∀L∈Bg size Ls l,∀e∈L,S e.v
 |[],l,_,_,_,_,_,hv=>by simpa [Bg] using hv
 | o::r,l,h,g,hl,ht,hL,hv=>by
  have go:=h.good o s_;have hr:Fo r:=⟨λx hx=>h.good x (by simp[hx]),λx hx=>h.len x (by simp[hx])⟩;have p1:=Eh hr.good;have p2:=(Df go).1;have p3:=(Df g).1;simp only[Bh] at ht;simp only[Bg];split
  ·grind
  have gj:=Gb go g o_;have gc:=gj.sub (Hf gj size);have tc:Ae (Do (Bp o l) size)=Ae o+Ae l:=(by rw[Fm,Er]);have lc:=Ia (Bp o l) hs;have ih:=Ze (S:=S) hs hs2 hr gc o_ o_ (λL hx=>hL L (by simp[hx])) (λe he=>by grind [ir,Hf])
  grind
def Zgo{S:Int->Prop}{vs ws}(h:∀v∈vs,S v/\ -1000000000<=v/\v<=1000000000):∀e∈Iz vs ws,S e.v:=λe he=>by
 have hs:=Rb (Ar vs ws);obtain⟨p,hp,h1,_⟩:=(Ru (Zb (Ar vs ws)) 0).1 e he;obtain⟨q,hq,e2⟩:=hs.sub p hp;unfold Ar at hq;obtain⟨z,hz,rfl⟩:=List.mem_map.1 hq;have hz1:=(List.of_mem_zip (a:=z.1) (b:=z.2) hz).1
 grind [Ga]
def Ul{S:Int->Prop}{size}(hs:2<=size)(hs2:size<=32):∀f Ls vs ws,Fo Ls->Bh Ls+1000*vs.length<=1000000000000->vs.length<=2097152->(∀L∈Ls,∀e∈L,S e.v)->(∀v∈vs,S v/\ -1000000000<=v/\v<=1000000000)->∀L∈Dk size f Ls vs ws,∀e∈L,S e.v
 |0,Ls,vs,ws,_,_,_,hL,_=>by simp only[Dk];exact hL
 |f+1,Ls,vs,ws,h,ht,hl,hL,hv=>by simp only[Dk];split;exact hL;have h1:=du (vs:=vs.take size) (ws:=ws.take size) t_;have hp:=Eh h.good;have hlen:(vs.take size).length+(vs.drop size).length=vs.length:=t_;have hlt:(vs.take size).length<=size:=t_;obtain⟨t1,t2⟩:=Rx (size:=(size:Int)) o_ o_ h h1.1 o_ o_;refine Ul hs hs2 f _ _ _ t1 o_ o_ ?_ (λv hv2=>hv v (List.mem_of_mem_drop hv2));exact Ze o_ o_ h h1.1 o_ o_ hL (Zgo (λv hv2=>hv v (List.mem_of_mem_take hv2)))
def Uw{S:Int->Prop}{size}(hs:2<=size)(hs2:size<=32):∀Ls al,Fo Ls->Bq al->al.length<=32->Ae al+Bh Ls<=1000000000000->(∀L∈Ls,∀e∈L,S e.v)->(∀e∈al,S e.v)->∀e∈Ff size al Ls,S e.v
 |[],al,_,_,_,_,_,hv=>hv
 |l::r,al,h,g,hl,ht,hL,hv=>by have gl:=h.good l s_;have hr:Fo r:=⟨λx hx=>h.good x (by simp[hx]),λx hx=>h.len x (by simp[hx])⟩;have p1:=Eh hr.good;simp only[Bh] at ht;have gj:=Gb g gl o_;have lc:=Ia (Bp al l) hs;have tc:Ae (Do (Bp al l) size)=Ae al+Ae l:=(by rw[Fm,Er]);simp only[Ff];exact Uw hs hs2 r _ hr (gj.sub (Hf gj _)) o_ o_ (λL hx=>hL L (by simp[hx])) (λe he=>by grind [ir,Hf])
def pi{S:Int->Prop}{a}(f:2<=a)(b:a<=32) c d (g:c.length<=2097152)(j:∀v∈c,S v/\ -1000000000<=v/\v<=1000000000):∀e∈Dl a c d,S e.v:=by obtain⟨h,i⟩:=Th f b c.length [] c d Fo.nil (by simp[Bh];omega) g;exact Uw o_ o_ _ _ h Bq.nil s_ (by simp[Ae,Bh] at i ⊢;omega) (Ul f b _ _ _ _ Fo.nil (by simp[Bh];omega) g s_ j) s_
theorem Xh:∀(L:List VS) (ws:List Int) (x:Int×Int),x∈Bi L ws->∃v∈L,v.miss=false/\v.num=x.1
 |[],_,x,h=>by simp[Bi] at h
 |_::_,[],x,h=>by simp[Bi] at h
 | v ::L,z::ws,x,h=>by
  simp only[Bi] at h;split at h
  ·obtain⟨u,hu,h1⟩:=Xh L ws x h
   grind
  rename_i hm
  rcases List.mem_cons.1 h with rfl|h
  ·grind
  obtain⟨u,hu,h1⟩:=Xh L ws x h
  grind
theorem Yu{L ws bins size}(hL:L.length<=200)(hs:2<=size)(hs2:size<=32)(hr:∀v∈L,-1000000000<=v.num/\v.num<=1000000000):∀x∈Co L ws bins size,∃v∈L,v.miss=false/\v.num=x:=λx hx=>by
 have hl:((Bi L ws).map Prod.fst).length<=2097152:=(by have:=Iw L ws;simp;omega);unfold Co at hx;have h1:=(Yo _ _).subset hx;obtain⟨e,he,rfl⟩:=List.mem_map.1 h1;refine pi (S:=λy=>∃v∈L,v.miss=false/\v.num=y) hs hs2 _ _ hl (λv hv=>?_) e (List.mem_of_mem_take he)
 grind [Xh]
theorem Zh4{L ws}{ct bins}:∀x∈(Mb L ws ct bins).ww,∃v∈L,v.miss=false/\v.word=x:=λx hx=>by
 unfold Mb at hx;simp only at hx;obtain⟨y,hy,rfl⟩:=List.mem_map.1 hx;have h1:=(List.mem_mergeSort).1 (List.mem_of_mem_take hy);have h2:=((Tv _ _ _).1 h1).1;unfold Sh at h2;obtain⟨p,hp,h3⟩:=List.any_eq_true.1 h2;unfold Qo at h3;simp only[Bool.and_eq_true,Bool.not_eq_true',decide_eq_true_eq] at h3;refine⟨p.1,(List.of_mem_zip (a:=p.1) (b:=p.2) hp).1,h3.1,?_⟩;have h4:=h3.2
 cases hw:p.1.word with
 | mk d=>
  cases hy2:y.wd with
  | mk d2=>
   grind [Array.toList_inj]
def ZhX{c e a b d L f}(l:L.length<=200)(i:2<=b)(g:b<=32)(j:2<=a)(h:a<=16)(k:∀v∈L,(-1000000000<=v.num/\v.num<=1000000000)/\v.word.size<=8):oe ⟨Ck Mb c e a b L f,d⟩:=by
 cases c
 ·left
  grind [Ck,sr,Yu]
 right
 grind [Ck,Mb,Zh4]
def Tl(L:List VS)(ws:List Int)(ct:Int):List WS:=(Le (L.zip ws) ct).mergeSort λx y=>decide (leW x y)
def Zmn L ws ct bins:(Mb L ws ct bins).ww=((Tl L ws ct).take bins.toNat).map WS.wd:=rfl
def ZaP L e d:(Tl L e d).Pairwise leW:=by have h:=List.pairwise_mergeSort (le:=λx y=>decide (leW x y)) (λa b c h1 h2=>decide_eq_true (sq (of_decide_eq_true h1) (of_decide_eq_true h2))) (λa b=>w_) (Le (L.zip e) d);exact h.imp (λh=>of_decide_eq_true h)
def Zh7 L a b x:x∈Tl L a b↔Sh (L.zip a) x.wd.data.toList=true/\x.wt=Jq (L.zip a) x.wd.data.toList/\b<=x.wt:=by unfold Tl;rw[List.mem_mergeSort];exact Tv _ _ x
def ZcR L ws ct:(Tl L ws ct).Nodup:=((List.mergeSort_perm _ _).nodup_iff).2 (Vb _ _)
def Zc5(j o n:Nat) a f D w (h:Mw w j o D)(r:¬(0<=a/\a<(n:Int)/\0<=f/\f<(D.ks.length:Int)))(v:D.ks.length<=1000)(z:0<D.bs.length)(p:(D.bs.getD 0 Dx).N.length=n)(J:n<=1000):C_ 44 #[.pointer (some ⟨j,0,none⟩),.int .i64 a,.int .i64 f] w λe w'=>e=.returned (.tuple #[.int .i64 0,.int .i64 1])/\Below w.heap.size w w':=by
 have F:=cR_ 0 h.gp;have C:=(Qb h.gp).1;have u:=x1_ h;obtain⟨H,I,E,t,B,X,q⟩:=h.md;have i:=Nq _ _ _ _ _ _ X w q.ds z;rw[p] at i
 have g:Hid (¬(0<=f/\f<D.ks.length)->∀W:World,Mw W j o D->C_ 52 #[.pointer (some ⟨j,0,none⟩),.int .i64 f] W λe w'=>e=.returned (.bool false)/\w'=W):=λk W hW=>by have s:=Ie _ _ D f W hW v;have A:decide (0<=f/\f<=D.ks.length-1)=false:=w_;rw[A] at s;exact s
 clear h q p
 by_cases hr:0<=a/\a<=(n:Int)-1
 ·have k:¬(0<=f/\f<D.ks.length):=o_;have m:=x1_ (g k);clear r k g;go_enter Tryz.func44,Tryz.ntmps44;go_wp2_with fail
  refine i.mono ?_;rintro e y ⟨rfl,b⟩;have c:=x1_ b;clear b i;go_wp2_with fail
  refine(mo _ _ _ _ hr).mono ?_;rintro e x ⟨rfl,d⟩;obtain rfl:=d.symm;go_wp2_with fail
  refine(m _ (u.below c)).mono ?_;rintro e G ⟨rfl,l⟩;obtain rfl:=l.symm;go_wp2;go_ret2
  exact⟨rfl,c⟩
 clear r g;go_enter Tryz.func44,Tryz.ntmps44;go_wp2_with fail
 refine i.mono ?_;rintro e y ⟨rfl,b⟩;have c:=x1_ b;clear b i;go_wp2_with fail
 refine(Zgy _ _ _ _ hr).mono ?_;rintro e x ⟨rfl,d⟩;obtain rfl:=d.symm;go_wp2;go_ret2
 exact⟨rfl,c⟩
def Zc3 b i f D w (h:Mw w b i D)(j:¬(0<=f/\f<(D.ks.length:Int)))(k:D.ks.length<=1000):C_ 27 #[.pointer (some ⟨b,0,none⟩),.int .i64 f] w λe w'=>e=.returned (.tuple #[.slice none 0 0,.slice none 0 0,.int .i64 1])/\w'=w:=by
 have c:C_ 52 #[.pointer (some ⟨b,0,none⟩),.int .i64 f] w λe w'=>e=.returned (.bool false)/\w'=w:=(by have d:=Ie _ _ D f w h k;have g:decide (0<=f/\f<=D.ks.length-1)=false:=w_;rw[g] at d;exact d);clear h j;go_enter Tryz.func27,Tryz.ntmps27;go_wp2_with fail
 refine c.mono ?_;rintro e l ⟨rfl,a⟩;obtain rfl:=a.symm;go_wp2;go_ret3
 exact⟨rfl,rfl⟩
def esD(m:Nat)(wd:Nat->Bool)(ct:Nat->Int)(bins:Int)(size:Nat)(s:RS):List ES:=(List.range (m+1)).map (λi=>Ck Mb (wd i) (ct i) bins size (s.cols i) s.ws)
def bbD(m:Nat)(wd:Nat->Bool)(ct:Nat->Int)(bins:Int)(size:Nat)(s:RS):List (List Nat):=(List.range (m+1)).map (λi=>(s.cols i).map (Dy (Ck Mb (wd i) (ct i) bins size (s.cols i) s.ws)))
def ZlR(m:Nat)(wd:Nat->Bool)(ct:Nat->Int)(bins:Int)(size budget:Nat)(s:RS):Zh:=Ao m s.ws.length budget (esD m wd ct bins size s) (bbD m wd ct bins size s)
section
variable {m:Nat} {wd:Nat->Bool} {sc ct:Nat->Int} {bins:Int} {size budget:Nat} {l:List Int} {s:RS}
theorem Up{i}(a:i<m+1):(esD m wd ct bins size s).getD i Ph=Ck Mb (wd i) (ct i) bins size (s.cols i) s.ws:=by simp[esD,Qc,a]
theorem Zea{i}(a:i<m+1):(bbD m wd ct bins size s).getD i []=(s.cols i).map (Dy (Ck Mb (wd i) (ct i) bins size (s.cols i) s.ws)):=by simp[bbD,Qc,a]
structure ZgT(m)(s):Prop where
 inv:Ht (m+1) s
 val:Rz (m+1) s
def Zmt(hsc:∀i,i<m+1->wd i=false->0<=sc i/\sc i<=3)(h:Ca (m+1) wd sc RS.start l 0=.ok s):ZgT m s:=
 ⟨Ht.takes o_ hsc l (Ht.start (show 1<=m+1 by omega)) h,Rz.takes o_ hsc l (Rz.start (m+1)) (Ht.start (show 1<=m+1 by omega)) h⟩
def ZgT.binok(h:ZgT m s)(a:uz Mb m wd ct bins size s):Po m s.ws.length (esD m wd ct bins size s) (bbD m wd ct bins size s):=by
 refine⟨by simp[esD],λi hi=>?_,λi hi=>?_,λi hi=>?_,λi hi b hb=>?_⟩;rw[Zea hi,List.length_map];exact h.inv.col i hi;rw[Up hi];exact(a.ok i hi).1;rw[Up hi];exact(a.ok i hi).2.2
 grind [Zea,Up,wi]
def ZgT.kn(h:ZgT m s)(e:2<=size)(b:size<=32)(d:2<=bins)(c:bins<=16):∀K∈(ZlR m wd ct bins size budget s).ks,oe K:=by intro K hK;rw[show(ZlR m wd ct bins size budget s).ks=Eb (esD m wd ct bins size s) (bbD m wd ct bins size s) (m+1) from Kw _ _ _ _ _] at hK;unfold Eb at hK;obtain⟨i,a,rfl⟩:=List.mem_map.1 hK;have a:=List.mem_range.1 a;unfold kF;rw[Up a];exact ZhX (by rw[h.inv.col i a];exact h.inv.ws) e b d c (h.val.col i a)
end
end Go.Proofs.YtfcgnpchbcmdeaaGreat
