import Derived.Test.YtfcgnpchbcmdeaaGreatZrbl
import Derived.Test.YtfcgnpchbcmdeaaGreatZrbo
namespace Go.Proofs.YtfcgnpchbcmdeaaGreat
set_option linter.all false
set_option maxRecDepth 100000
set_option maxHeartbeats 4000000
open Go.RowKit
def Mv.mem{n D}(_:Mv n D){i}(a:i<D.bs.length):D.bs.getD i Dx∈D.bs:=w_
def xx F f a n G I J z E X D w (h:So w F G I J z E X D)(b:Mv n D)(H:f<D.ks.length)(L:a<n):C_ 78 #[.pointer (some ⟨F,0,none⟩),.int .i64 a,.int .i64 f] w λe w'=>e=.returned (.int .i64 (iy D X f (Hq D f) (Yy D f) a:Nat))/\Below w.heap.size w w':=by
 have u:=b.seat H;have c:=b.mem u.hb;have d:=b.bok _ c;have M:=b.g40 _ c;have j:a<(D.bs.getD (Hq D f) Dx).N.length:=by rw[d.len];exact L
 have A:(D.bs.getD (Hq D f) Dx).N.getD a 0<=(D.bs.getD (Hq D f) Dx).g:=(by rw[Qc,Qd j];exact d.le _ (Qf _));have l:X.length<=1000000:=by rw[h.perm.length_eq];have:=b.xl;omega
 have i:Nj D (Hq D f) (Yy D f)<=100000:=by
  have y:=zx _ ((D.bs.getD _ _).fs.take (Yy D f)) (λx hx=>Nat.le_trans (b.mn x (b.fk _ c x (List.mem_of_mem_take hx))) d_);have O:=b.f4 _ c
  grind [Nj]
 have C:=b.n2;have s:D.bs.length<=1000:=(by have:=b.b4;omega);obtain⟨_,r⟩:=h.ds.bn.each (Hq D f) u.hb
 rcases r with⟨_,p,e,sb,vc,e2,_,hX⟩|⟨_,p,e,dd,q,e2,_,hX⟩
 subst e2;refine pu _ f _ _ _ _ _ _ _ _ _ X D w h u s l o_ i e (λW hW=>?_);have k:vq W 0 _ _ _ _ _:=⟨(hW.block _ (Qb hX.blk).1).trans hX.blk,(Aa.of_below (S:=λ_=>False) hW).row hX.row (λ_ _=>id)⟩;exact zv _ _ _ _ _ _ W k j (by rw[d.len];omega);subst e2;have o:Lib.bitLen (D.bs.getD (Hq D f) Dx).g<=6:=Rg o_;have v:=Nat.lt_of_le_of_lt A (rp o_);refine yv _ f _ _ _ _ _ _ _ _ _ X D w h u s l o_ i e (λW hW=>?_);have m:a*Lib.bitLen (D.bs.getD (Hq D f) Dx).g+Lib.bitLen (D.bs.getD (Hq D f) Dx).g<=(D.bs.getD (Hq D f) Dx).N.length*Lib.bitLen (D.bs.getD (Hq D f) Dx).g:=by rw[<- Nat.succ_mul];exact Nat.mul_le_mul_right _ j
 have B:(D.bs.getD _ _).N.length*_<=_:=Nat.mul_le_mul (by rw[d.len];exact C) o;have k:Zak W 0 _ q _ _ _:=⟨(hW.block _ (Qb hX.blk).1).trans hX.blk,(Aa.of_below (S:=λ_=>False) hW).row hX.row (λ_ _=>id)⟩;have y:=ZaN _ q _ _ _ _ _ _ W k (λt=>Um _ _ t) o m o_ o_;rw[Zfc _ v] at y;exact y
def ZaX t x f c m n a j i w (h:My w t x (Ao m n a j i))(p:m+1<=4)(r:n<=200)(q:Po m n j i)(k:f<m+1)(l:c<n):C_ 44 #[.pointer (some ⟨t,0,none⟩),.int .i64 c,.int .i64 f] w λe w'=>e=.returned (.tuple #[.int .i64 ((i.getD f []).getD c 0:Nat),.int .i64 0])/\Below w.heap.size w w':=by have d:=Jm (a:=a) p r q;have b:(Ao m n a j i).ks.length=m+1:=(by grind [Ao,Ky,Di]);have g:=(d.bok _ (d.mem d.b0)).len;refine ZaY _ _ f _ _ _ w h d.b0 (by rw[b];omega) (by rw[g];exact l) (by rw[g];omega) (by rw[b];exact k) (λW hW=>?_);obtain⟨y,z,A,u,v,X,s⟩:=hW.md;have o:=xx _ f _ n _ _ _ _ _ X _ W s d (by rw[b];exact k) l;rw[ZhY p r q s.perm k l] at o;exact o
def Zc6 c d n D w (h:My w c d D)(a:Mv n D):C_ 26 #[.pointer (some ⟨c,0,none⟩)] w λe w'=>e=.returned (.int .i64 n)/\Below w.heap.size w w':=by have b:=ZfB _ _ D w h a.b0;rw[(a.bok _ (a.mem a.b0)).len] at b;exact b
def pg gb db n D w (h:My w gb db D)(hd:Mv n D):C_ 55 #[.pointer (some ⟨gb,0,none⟩)] w λe w'=>ZkT w D e w':=
 yl gb db D w h hd.b0 (by have:=hd.b4;omega) (λi hi=>⟨hd.f0 _ (hd.mem hi),by have:=hd.f4 _ (hd.mem hi);omega⟩)
def yk gb db f n D w (h:My w gb db D)(hd:Mv n D)(hf:f<D.ks.length):C_ 27 #[.pointer (some ⟨gb,0,none⟩),.int .i64 f] w λe w'=>ZlB w (D.ks.getD f Ay).e e w':=
 ZaV gb db f D w h (by have:=hd.k4;omega) hf (hd.edg f hf).lb (hd.edg f hf).lw
def Dw(L:List Int):Prop:=∀b∈L,0<=b/\b<256
def Dw.nil:Dw []:=by intro b a;simp at a
def Dw.append{A B}(a:Dw A)(b:Dw B):Dw (A++B):=λx hx=>by
 rcases List.mem_append.1 hx with h|h
 exact a x h;exact b x h
def Dw.cons{x A}(h1:0<=x/\x<256)(a:Dw A):Dw (x::A):=λy hy=>by
 rcases List.mem_cons.1 hy with rfl|h
 exact h1;exact a y h
def Dw.flat{α:Type}{f}{L:List α}(h:∀x∈L,Dw (f x)):Dw (L.flatMap f):=λy hy=>by obtain⟨x,hx,hy⟩:=List.mem_flatMap.1 hy;exact h x hx y hy
def Xi(x:Int):0<=x%256/\x%256<256:=o_
def yw n:∀j,Dw (Ba n j)
 |0=>Dw.nil
 |j+1=>by unfold Ba;exact(yw n j).append (Dw.cons (Xi _) Dw.nil)
def Zff b:Dw (Aq b):=λx hx=>by unfold Aq at hx;obtain⟨u,_,rfl⟩:=List.mem_map.1 hx;have:=u.toNat_lt;omega
def Zim{f}(hf:∀t,f t<=1) nb T:Dw (Cd f nb T):=λx hx=>by grind [Cd,fm]
def ZiJ L:∀k,Dw (ku L k)
 |0=>by unfold ku;exact Dw.nil
 |k+1=>by unfold ku;exact(ZiJ L k).append (Dw.cons (Xi _) (Dw.cons (Xi _) Dw.nil))
def Zjz N g:Dw (Lb N g):=by
 unfold Lb;split
 ·grind [zu,Dw.cons,ZiJ]
 grind [Dw.cons,Zim,Um]
def ZkX fs:Dw (Wl fs):=λx hx=>by grind [Wl]
def Zjt b:Dw (Gw b):=by grind [Gw,Dw.append,Dw.cons,ZkX,Zjz]
def Zle k:Dw (Pj k):=by
 unfold Pj;split
 ·unfold yn Km
  grind [Dw.cons,Dw.flat,Zff]
 unfold knB Kb
 grind [Dw.cons,Dw.flat,yw]
def ZlV x:Dw (xB x):=Dw.cons (Xi _) (Dw.cons (Xi _) (Dw.cons (Xi _) Dw.nil))
def ZeT D X:Dw (Ob D X):=by
 unfold Ob
 grind [Dw.append,Dw.flat,Zle,Zjt,yw,ZlV,Dw.cons]
def Mv.bun{n D}(h:Mv n D):∀b∈D.bs,ZdX b:=λb hb=>by
 have h1:=h.bok b hb;have h2:=h.g40 b hb;have h3:=h.f4 b hb;have h4:=h.n2;have h5:=h.k4;have hb6:Lib.bitLen b.g<=6:=Rg o_;have hmul:b.N.length*_<=_:=Nat.mul_le_mul (by rw[h1.len];exact h4) hb6;have hsl:=Vy b.N b.N.length;have hpl:=Gp (Ds b.N (Lib.bitLen b.g)) ((b.N.length*Lib.bitLen b.g+7)/8) (b.N.length*Lib.bitLen b.g);have hNl:=h1.len;refine⟨o_,λf hf=>by have:=h.fk b hb f hf;omega,⟨o_,λx hx=>?_⟩,o_,?_⟩
 ·obtain⟨a1,a2,_⟩:=(cz _ _ x).1 hx;refine⟨o_,?_⟩;rw[a2,Qc,Qd a1];have:=h1.le _ (Qf a1)
  grind
 grind [Gw,Wl,Lb,zu,Vz]
def ZaW f j n D w (h:My w f j D)(a:Mv n D)(c:∀K∈D.ks,od K) X (d:X.Perm D.xs)(k:Fp X):C_ 34 #[.pointer (some ⟨f,0,none⟩)] w λe w'=>e=.returned (.string (strOfNums (Mm D X)))/\Below w.heap.size w w':=by obtain⟨l,m,o,i,g,Y,b⟩:=h.md;obtain rfl:X=Y:=ZdI a.keys d k b.perm b.sorted;exact Zc4 _ _ _ _ _ _ _ X D w h.gp b a.b0 c a.k4 a.bun a.b4 (by rw[d.length_eq];have:=a.xl;omega) (ZeT D X)
def Zd{S:Int->Prop}{size}(hs:2<=size)(hs2:size<=32):∀{Ls l},Fo Ls->Bo l->l.length<=32->Bh Ls+Ae l<=1000000000000->(∀L∈Ls,∀e∈L,S e.v)->(∀e∈l,S e.v)->∀L∈Bg size Ls l,∀e∈L,S e.v
 |[],l,_,_,_,_,_,hv=>by simpa [Bg] using hv
 | o::r,l,h,g,hl,ht,hL,hv=>by
  have go:=h.good o s_;have hr:Fo r:=⟨λx hx=>h.good x (by simp[hx]),λx hx=>h.len x (by simp[hx])⟩;have p1:=Eh hr.good;have p2:=(Df go).1;have p3:=(Df g).1;simp only[Bh] at ht;simp only[Bg];split
  ·grind
  have gj:=Gb go g o_;have gc:=gj.sub (Hf gj size);have tc:Ae (Dp (Bq o l) size)=Ae o+Ae l:=(by rw[Fm,Er]);have lc:=Ia (Bq o l) hs;have ih:=Zd (S:=S) hs hs2 hr gc o_ o_ (λL hx=>hL L (by simp[hx])) (λe he=>by grind [iq,Hf])
  grind
def Zgn{S:Int->Prop}{vs ws}(h:∀v∈vs,S v/\ -1000000000<=v/\v<=1000000000):∀e∈Ja vs ws,S e.v:=λe he=>by
 have hs:=Rc (Ar vs ws);obtain⟨p,hp,h1,_⟩:=(Rw (Za (Ar vs ws)) 0).1 e he;obtain⟨q,hq,e2⟩:=hs.sub p hp;unfold Ar at hq;obtain⟨z,hz,rfl⟩:=List.mem_map.1 hq;have hz1:=(List.of_mem_zip (a:=z.1) (b:=z.2) hz).1
 grind [Ga]
def Uo{S:Int->Prop}{size}(hs:2<=size)(hs2:size<=32):∀f Ls vs ws,Fo Ls->Bh Ls+1000*vs.length<=1000000000000->vs.length<=2097152->(∀L∈Ls,∀e∈L,S e.v)->(∀v∈vs,S v/\ -1000000000<=v/\v<=1000000000)->∀L∈Dl size f Ls vs ws,∀e∈L,S e.v
 |0,Ls,vs,ws,_,_,_,hL,_=>by simp only[Dl];exact hL
 |f+1,Ls,vs,ws,h,ht,hl,hL,hv=>by simp only[Dl];split;exact hL;have h1:=dj (vs:=vs.take size) (ws:=ws.take size) t_;have hp:=Eh h.good;have hlen:(vs.take size).length+(vs.drop size).length=vs.length:=t_;have hlt:(vs.take size).length<=size:=t_;obtain⟨t1,t2⟩:=Rz (size:=(size:Int)) o_ o_ h h1.1 o_ o_;refine Uo hs hs2 f _ _ _ t1 o_ o_ ?_ (λv hv2=>hv v (List.mem_of_mem_drop hv2));exact Zd o_ o_ h h1.1 o_ o_ hL (Zgn (λv hv2=>hv v (List.mem_of_mem_take hv2)))
def Uz{S:Int->Prop}{size}(hs:2<=size)(hs2:size<=32):∀Ls al,Fo Ls->Bo al->al.length<=32->Ae al+Bh Ls<=1000000000000->(∀L∈Ls,∀e∈L,S e.v)->(∀e∈al,S e.v)->∀e∈Ff size al Ls,S e.v
 |[],al,_,_,_,_,_,hv=>hv
 |l::r,al,h,g,hl,ht,hL,hv=>by have gl:=h.good l s_;have hr:Fo r:=⟨λx hx=>h.good x (by simp[hx]),λx hx=>h.len x (by simp[hx])⟩;have p1:=Eh hr.good;simp only[Bh] at ht;have gj:=Gb g gl o_;have lc:=Ia (Bq al l) hs;have tc:Ae (Dp (Bq al l) size)=Ae al+Ae l:=(by rw[Fm,Er]);simp only[Ff];exact Uz hs hs2 r _ hr (gj.sub (Hf gj _)) o_ o_ (λL hx=>hL L (by simp[hx])) (λe he=>by grind [iq,Hf])
def ph{S:Int->Prop}{a}(g:2<=a)(c:a<=32) b f (d:b.length<=2097152)(j:∀v∈b,S v/\ -1000000000<=v/\v<=1000000000):∀e∈Dm a b f,S e.v:=by obtain⟨h,i⟩:=Tj g c b.length [] b f Fo.nil (by simp[Bh];omega) d;exact Uz o_ o_ _ _ h Bo.nil s_ (by simp[Ae,Bh] at i ⊢;omega) (Uo g c _ _ _ _ Fo.nil (by simp[Bh];omega) d s_ j) s_
def Xh:∀(L:List VS) (ws:List Int) (x:Int×Int),x∈Bi L ws->∃v∈L,v.miss=false/\v.num=x.1
 |[],_,x,h=>by simp[Bi] at h
 |_::_,[],x,h=>by simp[Bi] at h
 | v ::L,z::ws,x,h=>by
  simp only[Bi] at h;split at h
  ·obtain⟨u,hu,h1⟩:=Xh L ws x h
   grind
  rename_i hm
  rcases List.mem_cons.1 h with rfl|h
  ·grind
  obtain⟨u,hu,h1⟩:=Xh L ws x h
  grind
def Yt{L ws bins size}(hL:L.length<=200)(hs:2<=size)(hs2:size<=32)(hr:∀v∈L,-1000000000<=v.num/\v.num<=1000000000):∀x∈Co L ws bins size,∃v∈L,v.miss=false/\v.num=x:=λx hx=>by
 have hl:((Bi L ws).map Prod.fst).length<=2097152:=(by have:=Ix L ws;simp;omega);unfold Co at hx;have h1:=(Yn _ _).subset hx;obtain⟨e,he,rfl⟩:=List.mem_map.1 h1;refine ph (S:=λy=>∃v∈L,v.miss=false/\v.num=y) hs hs2 _ _ hl (λv hv=>?_) e (List.mem_of_mem_take he)
 grind [Xh]
def Zh2{L ws}{ct bins}:∀x∈(Mc L ws ct bins).ww,∃v∈L,v.miss=false/\v.word=x:=λx hx=>by
 unfold Mc at hx;simp only at hx;obtain⟨y,hy,rfl⟩:=List.mem_map.1 hx;have h1:=(List.mem_mergeSort).1 (List.mem_of_mem_take hy);have h2:=((Ty _ _ _).1 h1).1;unfold Sj at h2;obtain⟨p,hp,h3⟩:=List.any_eq_true.1 h2;unfold Qo at h3;simp only[Bool.and_eq_true,Bool.not_eq_true',decide_eq_true_eq] at h3;refine⟨p.1,(List.of_mem_zip (a:=p.1) (b:=p.2) hp).1,h3.1,?_⟩;have h4:=h3.2
 cases hw:p.1.word with
 | mk d=>
  cases hy2:y.wd with
  | mk d2=>
   grind [Array.toList_inj]
def ZhV{c g b a d L h}(k:L.length<=200)(l:2<=a)(e:a<=32)(i:2<=b)(f:b<=16)(j:∀v∈L,(-1000000000<=v.num/\v.num<=1000000000)/\v.word.size<=8):od ⟨Ck Mc c g b a L h,d⟩:=by
 cases c
 ·left
  grind [Ck,sq,Yt]
 right
 grind [Ck,Mc,Zh2]
def Tn(L:List VS)(ws:List Int)(ct:Int):List WS:=(Lg (L.zip ws) ct).mergeSort λx y=>decide (leW x y)
def Zmf L ws ct bins:(Mc L ws ct bins).ww=((Tn L ws ct).take bins.toNat).map WS.wd:=rfl
def ZaO L e d:(Tn L e d).Pairwise leW:=by have h:=List.pairwise_mergeSort (le:=λx y=>decide (leW x y)) (λa b c h1 h2=>decide_eq_true (sj (of_decide_eq_true h1) (of_decide_eq_true h2))) (λa b=>w_) (Lg (L.zip e) d);exact h.imp (λh=>of_decide_eq_true h)
def Zh5 L a b x:x∈Tn L a b↔Sj (L.zip a) x.wd.data.toList=true/\x.wt=Js (L.zip a) x.wd.data.toList/\b<=x.wt:=by unfold Tn;rw[List.mem_mergeSort];exact Ty _ _ x
def ZcR L ws ct:(Tn L ws ct).Nodup:=((List.mergeSort_perm _ _).nodup_iff).2 (Vd _ _)
def Zc5(j s n:Nat) a f D w (h:My w j s D)(p:¬(0<=a/\a<(n:Int)/\0<=f/\f<(D.ks.length:Int)))(z:D.ks.length<=1000)(B:0<D.bs.length)(r:(D.bs.getD 0 Dx).N.length=n)(G:n<=1000):C_ 44 #[.pointer (some ⟨j,0,none⟩),.int .i64 a,.int .i64 f] w λe w'=>e=.returned (.tuple #[.int .i64 0,.int .i64 1])/\Below w.heap.size w w':=by
 have F:=cR_ 0 h.gp;have A:=(Qb h.gp).1;have t:=x1_ h;obtain⟨E,H,J,y,v,X,q⟩:=h.md;have i:=Nq _ _ _ _ _ _ X w q.ds B;rw[r] at i
 have g:Hid (¬(0<=f/\f<D.ks.length)->∀W:World,My W j s D->C_ 52 #[.pointer (some ⟨j,0,none⟩),.int .i64 f] W λe w'=>e=.returned (.bool false)/\w'=W):=λk W hW=>by have o:=Ie _ _ D f W hW z;have u:decide (0<=f/\f<=D.ks.length-1)=false:=w_;rw[u] at o;exact o
 clear h q r
 by_cases hr:0<=a/\a<=(n:Int)-1
 ·have k:¬(0<=f/\f<D.ks.length):=o_;have m:=x1_ (g k);clear p k g;go_enter Tryz.func44,Tryz.ntmps44;go_wp2_with fail
  refine i.mono ?_;rintro e x ⟨rfl,b⟩;have c:=x1_ b;clear b i;go_wp2_with fail
  refine(mj _ _ _ _ hr).mono ?_;rintro e C ⟨rfl,d⟩;obtain rfl:=d.symm;go_wp2_with fail
  refine(m _ (t.below c)).mono ?_;rintro e I ⟨rfl,l⟩;obtain rfl:=l.symm;go_wp2;go_ret2
  exact⟨rfl,c⟩
 clear p g;go_enter Tryz.func44,Tryz.ntmps44;go_wp2_with fail
 refine i.mono ?_;rintro e x ⟨rfl,b⟩;have c:=x1_ b;clear b i;go_wp2_with fail
 refine(Zgx _ _ _ _ hr).mono ?_;rintro e C ⟨rfl,d⟩;obtain rfl:=d.symm;go_wp2;go_ret2
 exact⟨rfl,c⟩
def Zc3 a k f D w (h:My w a k D)(i:¬(0<=f/\f<(D.ks.length:Int)))(j:D.ks.length<=1000):C_ 27 #[.pointer (some ⟨a,0,none⟩),.int .i64 f] w λe w'=>e=.returned (.tuple #[.slice none 0 0,.slice none 0 0,.int .i64 1])/\w'=w:=by
 have c:C_ 52 #[.pointer (some ⟨a,0,none⟩),.int .i64 f] w λe w'=>e=.returned (.bool false)/\w'=w:=(by have d:=Ie _ _ D f w h j;have g:decide (0<=f/\f<=D.ks.length-1)=false:=w_;rw[g] at d;exact d);clear h i;go_enter Tryz.func27,Tryz.ntmps27;go_wp2_with fail
 refine c.mono ?_;rintro e l ⟨rfl,b⟩;obtain rfl:=b.symm;go_wp2;go_ret3
 exact⟨rfl,rfl⟩
def esD(m:Nat)(wd:Nat->Bool)(ct:Nat->Int)(bins:Int)(size:Nat)(s:RS):List ES:=(List.range (m+1)).map (λi=>Ck Mc (wd i) (ct i) bins size (s.cols i) s.ws)
def bbD(m:Nat)(wd:Nat->Bool)(ct:Nat->Int)(bins:Int)(size:Nat)(s:RS):List (List Nat):=(List.range (m+1)).map (λi=>(s.cols i).map (Dy (Ck Mc (wd i) (ct i) bins size (s.cols i) s.ws)))
def ZlM(m:Nat)(wd:Nat->Bool)(ct:Nat->Int)(bins:Int)(size budget:Nat)(s:RS):Zg:=Ao m s.ws.length budget (esD m wd ct bins size s) (bbD m wd ct bins size s)
section
variable {m:Nat} {wd:Nat->Bool} {sc ct:Nat->Int} {bins:Int} {size budget:Nat} {l:List Int} {s:RS}
def Us{i}(a:i<m+1):(esD m wd ct bins size s).getD i Ph=Ck Mc (wd i) (ct i) bins size (s.cols i) s.ws:=by simp[esD,Qc,a]
def Zea{i}(a:i<m+1):(bbD m wd ct bins size s).getD i []=(s.cols i).map (Dy (Ck Mc (wd i) (ct i) bins size (s.cols i) s.ws)):=by simp[bbD,Qc,a]
structure ZgS(m)(s):Prop where
 inv:Ht (m+1) s
 val:Sb (m+1) s
def Zml(hsc:∀i,i<m+1->wd i=false->0<=sc i/\sc i<=3)(h:Ca (m+1) wd sc RS.start l 0=.ok s):ZgS m s:=
 ⟨Ht.takes o_ hsc l (Ht.start (show 1<=m+1 by omega)) h,Sb.takes o_ hsc l (Sb.start (m+1)) (Ht.start (show 1<=m+1 by omega)) h⟩
def ZgS.binok(h:ZgS m s)(a:uy Mc m wd ct bins size s):Po m s.ws.length (esD m wd ct bins size s) (bbD m wd ct bins size s):=by
 refine⟨by simp[esD],λi hi=>?_,λi hi=>?_,λi hi=>?_,λi hi b hb=>?_⟩;rw[Zea hi,List.length_map];exact h.inv.col i hi;rw[Us hi];exact(a.ok i hi).1;rw[Us hi];exact(a.ok i hi).2.2
 grind [Zea,Us,wg]
def ZgS.kn(h:ZgS m s)(e:2<=size)(c:size<=32)(d:2<=bins)(b:bins<=16):∀K∈(ZlM m wd ct bins size budget s).ks,od K:=by intro K hK;rw[show(ZlM m wd ct bins size budget s).ks=Eb (esD m wd ct bins size s) (bbD m wd ct bins size s) (m+1) from Ky _ _ _ _ _] at hK;unfold Eb at hK;obtain⟨i,a,rfl⟩:=List.mem_map.1 hK;have a:=List.mem_range.1 a;unfold kF;rw[Us a];exact ZhV (by rw[h.inv.col i a];exact h.inv.ws) e c d b (h.val.col i a)
end
end Go.Proofs.YtfcgnpchbcmdeaaGreat
