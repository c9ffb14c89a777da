import Derived.Test.YtfcgnpchbcmdeaaGreatZoav
import Derived.Test.YtfcgnpchbcmdeaaGreatZoay
namespace Go.Proofs.YtfcgnpchbcmdeaaGreat
set_option linter.all false
set_option maxRecDepth 100000
set_option maxHeartbeats 16000000
open Go.RowKit List Nat World Go.Proofs.Tryz Value IntKind Lib Region
def xB(x:XS):List Int:=[x.row%256,x.f%256,x.i%256]
def Lc(a:KS):List Int:=if a.e.a=true then kq a else knB a
def Hm(a:Ga)(b:List XS):List Int:=[71,82,((a.g.getD 0 Db).N.length:Int)%256,a.h.length%256]++a.h.flatMap Lc++[(a.g.length:Int)%256]++a.g.flatMap Dm++Ay b.length 2++b.flatMap xB
def Cb(a:Ga)(b:List XS):List Int:=Hm a b++Ay (Gp (Hm a b)) 4
def yy(a:BS):Prop:=a.fs.length<=1000/\(∀c∈a.fs,c<=1000)/\((Bu a.N a.N.length).length<=1000/\∀b∈Bu a.N a.N.length,b.1<=1000/\b.2<=1000)/\(Bg (Cd a.N (Lib.bitLen a.g)) ((a.N.length*Lib.bitLen a.g+7)/8) (a.N.length*Lib.bitLen a.g)).length<=1000/\(Dm a).length<=5000
def Wf(a:KS):Prop:=(a.e.a=false/\a.e.c=[]/\a.e.g.length<=1000/\∀b∈a.e.g,-1000000000000<=b/\b<=1000000000000)∨(a.e.a=true/\a.e.g=[]/\a.e.c.length<=1000/\∀b∈a.e.c,b.size<=8)
def Zo{d:Type}(c:d->List Int)(a:List d) e {b}(f:b<a.length):(a.take (b+1)).flatMap c=(a.take b).flatMap c++c (a.getD b e):=by
 rw[Qi f,flatMap_append]
 grind
def Di:XS:=⟨0,0,0⟩
def sg:∀(c:List XS) (b:Nat),b<c.length->∀a,a<3->(Jr c)[b*3+a]? =(Ct (c.getD b Di))[a]?
 |[],b,d=>by simp at d
 |f::c,0,_=>λa e=>by grind [Jr,Ct]
 |f::c,b+1,d=>λa e=>by simp only[Jr];rw[getElem?_append_right (by simp[Ct];omega),show(b+1)*3+a-(Ct f).length=b*3+a by simp[Ct];omega];exact sg c b (by simpa using d) a e
def Ni.b{c h f m a}(l:Ni c 0 (V h f m) a)(q:a.length=f){k}(p:k<f):∃d,h=some ⟨d,0,none⟩/\d<c.1.size/\c.cell? (J d (k*3))=some (I (a.getD k Di).row)/\c.cell? (J d (k*3+1))=some (I (a.getD k Di).f)/\c.cell? (J d (k*3+2))=some (I (a.getD k Di).i):=by
 subst q;have n:=l
 rcases n.2 with⟨i,v⟩|⟨j,t,u,i,_,o,w,_⟩
 omega;injection i with e1 e2 e3;subst e1
 have e:∀b g,b<3->(Ct (a.getD k Di))[b]? =some g->c.cell? (J j (k*3+b))=some g:=λb g r s=>by rw[World.ownsRow.cellAt l (k*3+b) O];exact(sg a k p b r).T s
 exact⟨j,rfl,(Qb o).1,e 0 _ O rfl,e 1 _ O rfl,e 2 _ O rfl⟩
theorem ZkC{a}(b:∀x∈a,x.size<=8):(Lm a).length<=9*a.length:=by
 induction a with
 |nil=>simp[Lm]
 | cons x a c=>
  grind [Lm,Rw]
def Ze3{b}(c:Wf b):(Lc b).length<=9003:=by
 unfold Lc
 rcases c with⟨a,_,d,_⟩|⟨a,_,d,e⟩
 rw[a,aC C];unfold knB;rw[Qe,zp];simp;omega
 grind [kq,ZkC]
def rx b4 g5 g4 g6 f9 d7 c a k (v:Om k b4 g5 g4 g6 f9 d7 c a)(e1:0<a.g.length)(c0:∀K∈a.h,Wf K)(h3:a.h.length<=4)(b8:∀U∈a.g,yy U)(b7:a.g.length<=4)(h8:c.length<=4000)(b9:∀U∈Hm a c,0<=U/\U<256):C_ 60 #[P_ b4] k (U_ (.string (strOfNums (Cb a c))) k):=by
 obtain⟨f8,i0,rfl⟩:=v.q.a;have D:=n_ 0 v.v.r;have e4:=(Qb v.v.r).1;have t:=Y v;have⟨h9,_⟩:=info_parts ZeY;have d4:=Y (λu o=>Mq _ _ _ _ _ _ c u (t.v.below o) e1);have Z:=x3_ c0 b8 b9;clear v c0 b8 b9;generalize c2:(a.g.getD 0 Db).N.length=n at *;generalize a5:a.h.length=l at *;have S:=T_ c2 a5;clear c2 a5;refine dl_ ?_;go_enter func60,ntmps60;go_upto_region 1 with fail;go_cut [3] (λb d=>∃fW gW,b=.slice fW 4 gW/\Hid (Hw k d (.slice fW 4 gW) [71,82,(n:Int)%256,(l:Int)%256]))
 case first=>
  refine Af (λo=>o.cell? _=some _) 13 k_ D λhHeld=>?_;refine K_ ?_;refine K_ ?_;refine K_ ?_;refine K_ ?_;refine K_ ?_;refine K_ ?_;refine K_ ?_;have b:E_ k _:=(br_ _ k).drew;generalize k.drew=d at *
  repeat' first
   |(replace fW:=fW;replace gW:=gW;refine on_ 12 λKK hK=>?_)
   |(replace fW:=fW;replace hW:=hW;refine on_ 1 λKK hK=>?_)
   |(replace fW:=fW;refine on_ 0 λKK hK=>?_)
   |(replace iW:=iW;replace gW:=gW;refine on_ 11 λKK hK=>?_)
   |(replace iW:=iW;replace hW:=hW;refine Qt (i:=1) (j:=11) k_ rfl rfl (λKK hK=>?_) (λKK hK=>?_))
   |(replace iW:=iW;refine Qt (i:=0) (j:=11) k_ rfl rfl (λKK hK=>?_) (λKK hK=>?_))
   |(replace gW:=gW;refine on_ 3 λKK hK=>?_)
   |(replace hW:=hW;refine Qt (i:=1) (j:=3) k_ rfl rfl (λKK hK=>?_) (λKK hK=>?_))
   |refine Qt (i:=0) (j:=3) k_ rfl rfl (λKK hK=>?_) (λKK hK=>?_)
   |(apply bm rfl _ (.tmp 21) rfl _ _ 71 82 _ _ (2,3) (0,0) j_ j_ hW fW;intro A B r;obtain⟨q,p,o,z,x,w⟩:=r;have s:Hid (Hw k _ _ [_,_,_%256,_%256]):=⟨b.T (o.m b.size),q,λe hk=>by rw[p] at hk;injection hk with hk;rw[<- hk];exact b.size⟩;subst w;clear q p o;refine hK _ _ (W_ s.o D) (λhHeld=>?_);clear hK KK;(try simp only[Act.put]);(try simp only[setIfInBounds_toArray,set_cons_succ,set_cons_zero]);refine Eu (i:=13) k_ rfl k_ (λKK hK=>?_);go_simp;apply hK _ _;clear hK KK;(try simp only[Act.put]);(try simp only[setIfInBounds_toArray,set_cons_succ,set_cons_zero]);refine Fn k_ ?_ _;go_wp2;go_meet;grind)
   |(go_simp;apply (d4 _ b).m;rintro m d ⟨rfl,j⟩;(try have hW:=(j.block _ (Qb hW).1).T hW);have b:=b.T (j.m b.size);have iW:Hid True:=trivial;clear j;go_simp;refine hK _ _ (W_ b D) (λhHeld=>?_);clear hK KK;(try simp only[Act.put]);(try simp only[setIfInBounds_toArray,set_cons_succ,set_cons_zero]);refine tkP 4 ?_)
   |(have y:=ZfU d lb 2 2 _ hW;have hW:=vt d lb _ 5 2 hW;(try have fW:=(Xf d lb 2).g fW O);have b:=b.T ((Xf d lb 2).b b.size (λR X=>X ▸ hl));have gW:Hid True:=trivial;go_simp;generalize World.freeze d (J lb 2) 1=d at *;clear y;refine hK _ _ (W_ b D) (λhHeld=>?_);clear hK KK;(try simp only[Act.put]);(try simp only[setIfInBounds_toArray,set_cons_succ,set_cons_zero]))
   |(have hW:=ha_ d (.cells #[.int .u8 71,.int .u8 82] 5);have hl:=b.size;(try(have u:=ne_of_lt (Qb fW).1;have fW:=(hb_ d (.cells #[.int .u8 71,.int .u8 82] 5) rb (Qb fW).1).T fW));have b:=b.alloc b.size (.cells #[.int .u8 71,.int .u8 82] 5);go_simp;generalize d.1.size=lb at *;generalize World.alloc d (.cells #[.int .u8 71,.int .u8 82] 5)=d at *;refine hK _ _ (W_ b D) (λhHeld=>?_);clear hK KK;(try simp only[Act.put]);(try simp only[setIfInBounds_toArray,set_cons_succ,set_cons_zero]))
   |(have fW:=ha_ d (.cells #[.int .u8 (IntKind.u8.wrap (n:Int)),.int .u8 (IntKind.u8.wrap (l:Int))] 5);(try(have u:=ne_of_lt (Qb hW).1;have hW:=(hb_ d (.cells #[.int .u8 (IntKind.u8.wrap (n:Int)),.int .u8 (IntKind.u8.wrap (l:Int))] 5) lb (Qb hW).1).T hW));have b:=b.alloc b.size (.cells #[.int .u8 (IntKind.u8.wrap (n:Int)),.int .u8 (IntKind.u8.wrap (l:Int))] 5);go_simp;generalize d.1.size=rb at *;generalize World.alloc d (.cells #[.int .u8 (IntKind.u8.wrap (n:Int)),.int .u8 (IntKind.u8.wrap (l:Int))] 5)=d at *;refine hK _ _ (W_ b D) (λhHeld=>?_);clear hK KK;(try simp only[Act.put]);(try simp only[setIfInBounds_toArray,set_cons_succ,set_cons_zero]))
 obtain⟨d5,d8,rfl,a1⟩:=hcut;have g1:=W_ a1.o D;go_wp2_with fail
 go_loopw [3,28] (λr iW b=>∃(e:Nat) (fW:Option Addr) (gW d:Nat),r=.slice fW d gW/\iW=.int .i64 e/\e<=l/\d<=4+e*9003/\Hid (Hw k b (.slice fW d gW) ([71,82,(n:Int)%256,(l:Int)%256]++(a.h.take e).flatMap Lc)/\([71,82,(n:Int)%256,(l:Int)%256]++(a.h.take e).flatMap Lc).length=d)) (λ_ iW _=>l-(intOf iW).toNat)
 case atStart=>exact⟨0,d5,d8,4,rfl,rfl,r_,O,by rw[take_zero];exact⟨a1,rfl⟩⟩
 clear a1 g1;obtain⟨e,fW,gW,d,rfl,rfl,hk,G,b⟩:=hrel
 by_cases e7:e<l
 ·have a3:e<a.h.length:=S.2 ▸ e7;have⟨R,c5,B,T,M,W,P,c3,x,y,Q,a8,F,a7⟩:=t.q.at a3;have a4:f8=some ⟨R,0,none⟩:=(by injection P);subst a4;have j:Wf (a.h.getD e Ai):=(by have:a.h.getD e Ai=a.h[e]:=(by simp[getD,a3]);rw[this];exact Z.1 _ (Qf _));have b5:=Y j;have z:=b.1.o;have⟨N,p,H,b1⟩:=k4_ z x y Q a8;have r:Hid ([71,82,(n:Int)%256,l%256]++(a.h.take (e+1)).flatMap Lc=([71,82,(n:Int)%256,l%256]++(a.h.take e).flatMap Lc)++Lc (a.h.getD e Ai)):=(by show _=_;rw[Zo Lc a.h Ai a3,append_assoc]);have X:=Y (Ze3 j)
  have L:Hid (∀u s,Hw k u (V fW s.length gW) s->s.length<=900000->C_ 100 #[.agg #[.bool (a.h.getD e Ai).e.a,V B (a.h.getD e Ai).e.g.length T,V M (a.h.getD e Ai).e.c.length W,I (a.h.getD e Ai).d],V fW s.length gW] u λm o=>io k (s++Lc (a.h.getD e Ai)) m o):=λu s o hW=>by
   rcases j with j|j
   have iW:=ev k _ M _ W _ fW gW s u j.1 F o j.2.2.1 j.2.2.2 hW;have p:Lc (a.h.getD e Ai)=knB (a.h.getD e Ai):=(by unfold Lc;rw[j.1];rfl);rw[p,j.2.1];exact iW;have iW:=Zt k B _ T _ _ fW gW s u j.1 a7 o j.2.2.1 j.2.2.2 hW;have p:Lc (a.h.getD e Ai)=kq (a.h.getD e Ai):=(by unfold Lc;rw[j.1];rfl);rw[p,j.2.1];exact iW
  clear j x y Q a8 F a7 P z;generalize a.h.getD e Ai=A at *;generalize [71,82,(n:Int)%256,(l:Int)%256]++(a.h.take e).flatMap Lc=a2 at *;have b0:=F_ e l;generalize A.e.a=b3 at *;generalize A.e.c.length=b2 at *;generalize A.e.g.length=q at *;generalize A.d=a9 at *;go_wp2_with fail
  have o:=b.1.below (y_.alloc x_ (O_ #[.bool b3,V B q T,V M b2 W,I (a9:Nat)] 172));have E:=L _ _ (b.2 ▸ o) (p_ b.2);rw[b.2] at E;apply E.m;rintro m e0 ⟨b6,c4,rfl,iW⟩;rw[<- r] at iW ⊢;have⟨a6,w⟩:=M_ (([71,82,(n:Int)%256,l%256]++(a.h.take (e+1)).flatMap Lc).length);have d3:a6<=4+(e+1)*9003:=by rw[w,r,Qe,b.2];have:=X.out;omega
  rw[<- w] at iW ⊢;have a0:=T_ iW w.s;clear iW w E o L r b N p H b1;go_wp2;go_roundw;case rel=>grind
  case measure=>exact z_
 have a5:¬e<(l:Int):=O;have A:a.h.take e=_:=aI (p_ S.2);rw[A] at b;have⟨d6,h0,f4⟩:=t.v.v.a;subst f4;have a9:Hid (Hm a c=([71,82,(n:Int)%256,l%256]++a.h.flatMap Lc)++[(a.g.length:Int)%256]++a.g.flatMap Dm++Ay c.length 2++c.flatMap xB):=(by show _=_;unfold Hm;rw[S.1,S.2]);generalize c1:a.g.length=q at *;have⟨a7,d0⟩:=Z_ c1 b7;clear c1 A b7;have b1:=n_ 1 t.v.r;have p:=W_ b.1.o b1;have h7:=Qh e4 b.1.o.size;generalize [71,82,(n:Int)%256,(l:Int)%256]++a.h.flatMap Lc=T at *;have M:Hid (wr.ownsRow 0 5 1 (V fW d gW) d (T.map (int .u8))):=(by have iW:=b.1.x;unfold Ax at iW;rw[b.2] at iW;exact iW);have e8:d<=36016:=O;go_wp2_with (at_builtin;refine ap_ [.int .u8 ((q:Int)%256)] (M.alloc _) ?_)
 rintro g2 g7 ⟨c6,b5,b3,_,i2,i1,f2⟩;have a8:Hid (Hw k g7 g2 (T++[(q:Int)%256])/\(T++[(q:Int)%256]).length=d+1):=(by refine⟨b.1.n ?_ (Ed.b ((br_ _ wr).alloc x_ _) (Ed.a b5 b3 s_)),by rw[Qe,b.2];rfl⟩;refine Ax.E (n:=1) ?_ rfl;rw[b.2];exact c6);have d9:=W_ a8.1.o b1;subst f2;clear c6 b5 b3 M b p G;generalize T++[(q:Int)%256]=B at *;obtain⟨c8,f6⟩:∃c8,c8=wr:=⟨wr,rfl⟩;subst f6;go_wp2_with fail
 go_loopw [3,50] (λr iW hW=>∃(j:Nat) (fW:Option Addr) (gW d:Nat),r=.slice fW d gW/\iW=.int .i64 j/\j<=q/\d<=36017+j*5000/\Hid (Hw k hW (.slice fW d gW) (B++(a.g.take j).flatMap Dm)/\(B++(a.g.take j).flatMap Dm).length=d)) (λ_ iW _=>q-(intOf iW).toNat)
 case atStart=>exact⟨0,_,_,d+1,rfl,rfl,r_,O,w_⟩
 clear a8 d9;obtain⟨j,fW,gW,d,rfl,rfl,e5,G,b⟩:=hrel;have h2:=aG e5 d0
 by_cases e6:j<q
 ·have W:j<a.g.length:=a7 ▸ e6;have⟨R,c5,P,c3,x,y⟩:=t.v.v.at W;have a4:d6=some ⟨R,0,none⟩:=(by injection P);subst a4;have H:yy (a.g.getD j Db):=(by have:a.g.getD j Db=a.g[j]:=(by simp[getD,W]);rw[this];exact Z.2.1 _ (Qf _));have⟨F,Q⟩:=t.v.v.j j W;have⟨d1,d2,a3⟩:=F.shape;have⟨c9,c7,b2⟩:=Q.iface;rw[Aj] at a3;rw[a3] at x F;rw[b2] at y Q;have z:=b.1.o;have⟨N,p⟩:=k2_ z x y;have r:Hid (B++(a.g.take (j+1)).flatMap Dm=(B++(a.g.take j).flatMap Dm)++Dm (a.g.getD j Db)):=(by show _=_;rw[Zo Dm a.g Db W,append_assoc]);have X:=Y H.2.2.2.2
  have L:=Y (λu s o hW=>
   Zc k _ _ _ _ fW gW s u F Q o H.1 H.2.1 hW H.2.2.1 H.2.2.2.1)
  clear H x y F Q P z a3 b2;generalize a.g.getD j Db=hW at *;generalize B++(a.g.take j).flatMap Dm=a2 at *;generalize hW.fs.length=s at *;have b0:=F_ j q;go_wp2_with fail
  have o:=b.1.below (y_.alloc x_ (O_ #[V d1 s d2,.iface c9 (P_ c7)] 163));have E:=L _ _ (b.2 ▸ o) (p_ b.2);rw[b.2] at E;apply E.m;rintro m e0 ⟨b6,c4,rfl,iW⟩;rw[<- r] at iW ⊢;have⟨a6,w⟩:=M_ ((B++(a.g.take (j+1)).flatMap Dm).length);have d3:a6<=36017+(j+1)*5000:=by rw[w,r,Qe,b.2];have:=X.out;omega
  rw[<- w] at iW ⊢;have a0:=T_ iW w.s;clear iW w E o L r b N p;go_wp2;go_roundw;case rel=>grind
  case measure=>exact z_
 have h5:¬j<(q:Int):=O;have A:a.g.take j=_:=aI (p_ a7.out);rw[A] at b;have⟨i5,i6,f5⟩:=t.v.j.shape;subst f5;have b2:=n_ 2 t.v.r;have H:=W_ b.1.o b2;have e8:d<=56017:=O;have d3:=Y a9;generalize e2:B++a.g.flatMap Dm=W at *;have w:C_ 102 #[V fW d gW,I c.length,I 2] wr λm o=>io k (W++Ay c.length 2) m o:=(by have iW:=b.1;rw[<- b.2] at iW ⊢;exact(Oc fW gW 2 _ _ _ iW.x O (p_ b.2) O O).m (λm o v=>v.out iW));clear A e2 a9;generalize c5:c.length=u at *;have P:=Y c5;clear c5;go_wp2_with fail
 apply w.m;rintro m i4 ⟨g9,h1,rfl,E⟩;have⟨L,F⟩:=M_ ((W++Ay u 2).length);have e9:L=d+2:=(by rw[F,Qe,Dv,b.2]);have h4:L<=56019:=O;rw[<- F] at E ⊢;have d2:=T_ E F.s;have e0:=W_ E.o b2;clear E F e9 w b H G;generalize W++Ay (u:Nat) 2=s at *;obtain⟨c9,f7⟩:∃c9,c9=wr:=⟨wr,rfl⟩;subst f7;go_wp2_with fail
 go_loopw [3,70] (λr iW x=>∃(hW:Nat) (fW:Option Addr) (gW d:Nat),r=.slice fW d gW/\iW=.int .i64 hW/\hW<=u/\d=L+hW*3/\Hid (Hw k x (.slice fW d gW) (s++(c.take hW).flatMap xB)/\(s++(c.take hW).flatMap xB).length=d)) (λ_ iW _=>u-(intOf iW).toNat)
 case atStart=>exact⟨0,_,_,L,rfl,rfl,r_,rfl,w_⟩
 clear d2 e0;obtain⟨hW,fW,gW,d,rfl,rfl,h6,G,b⟩:=hrel
 by_cases c4:hW<u
 ·have f1:hW<c.length:=P ▸ c4;have⟨R,X,c3,x,y,Q⟩:=Ni.b t.v.j P c4;subst X;have z:=b.1.o;have⟨N,p,H⟩:=k3_ z x y Q;have r:Hid (s++(c.take (hW+1)).flatMap xB=(s++(c.take hW).flatMap xB)++[((c.getD hW Di).row:Int)%256,(c.getD hW Di).f%256,(c.getD hW Di).i%256]):=(by show _=_;rw[Zo xB c Di f1,append_assoc];rfl);clear x y Q z;generalize s++(c.take hW).flatMap xB=a2 at *;generalize (c.getD hW Di).row=a3 at *;generalize (c.getD hW Di).f=a4 at *;generalize (c.getD hW Di).i=a6 at *;have M:Hid (wr.ownsRow 0 5 1 (V fW d gW) d (a2.map (int .u8))):=by have iW:=b.1.x;unfold Ax at iW;rw[b.2] at iW;exact iW
  have d1:=Y G;have f0:d<=70000:=O;clear G;have b0:=F_ hW u;go_wp2_with (at_builtin;refine ap_ [.int .u8 ((a3:Int)%256),.int .u8 ((a4:Int)%256),.int .u8 ((a6:Int)%256)] ((M.alloc _).alloc _) ?_)
  rintro g3 g8 ⟨c7,b6,iW,_,i3,g0,f3⟩;have a0:Hid (Hw k g8 g3 (s++(c.take (hW+1)).flatMap xB)/\(s++(c.take (hW+1)).flatMap xB).length=d+3):=by have e3:E_ wr ((wr.alloc (O_ #[I a3,I a4,I a6] 184)).alloc (O_ #[.int .u8 (a3%256),.int .u8 (a4%256),.int .u8 (a6%256)] 5)):=q_.alloc s_ _;rw[r];refine⟨b.1.n ?_ (Ed.b e3 (Ed.a b6 iW s_)),by rw[Qe,b.2];rfl⟩;refine Ax.E (n:=3) ?_ rfl;rw[b.2];exact c7
  subst f3;clear c7 b6 iW M b r N p H;go_wp2;go_roundw;case rel=>exact⟨hW+1,some _,g0,d+3,rfl,g_,O,p_ d1.out,a0⟩
  case measure=>exact z_
 have a2:¬hW<(u:Int):=O;have A:c.take hW=c:=aI (p_ P.out);rw[A,<- d3] at b;have f0:d<=70000:=O
 have x:C_ 103 #[V fW d gW] wr (V_ (.int .u32 (Gp (Hm a c))) wr):=(by have iW:=b.1.x;rw[<- b.2] at iW ⊢;exact uu fW gW _ _ iW (p_ b.2) Z.2.2);have z:=Pn .xor 4294967295 (ZfV (Hm a c));have R:0<=Gp _/\Gp _<_:=z;have r:Hid (Cb a c=_++_):=rfl;have w:C_ 102 #[V fW d gW,I (Gp (Hm a c)),I 4] wr λm o=>io k (Hm a c++Ay (Gp (Hm a c)) 4) m o:=(by have iW:=b.1;rw[<- b.2] at iW ⊢;exact(Oc fW gW 4 _ _ _ iW.x O (p_ b.2) O O).m (λm o v=>v.out iW));rw[<- r] at w;clear A z G r;generalize Gp (Hm a c)=c3 at *;obtain⟨a3,a4⟩:=R;go_wp2_with fail
 apply x.m;rintro m b0 ⟨rfl,Q⟩;obtain rfl:=Q.s;clear x;go_wp2_with fail
 apply w.m;rintro m b6 ⟨X,a0,rfl,iW⟩;have y:=Ou _ 0 _ _ iW.x;have N:=Y iW.o;generalize (Cb a c).length=a6 at *;clear iW w b;go_wp2;go_ret;exact⟨rfl,N⟩
def Zc6 f e v u w t s b a c (m:H_ c f #[P_ e] 110)(g:Om c e v u w t s b a)(h:0<a.g.length)(o:∀K∈a.h,Wf K)(n:a.h.length<=4)(k:∀d∈a.g,yy d)(j:a.g.length<=4)(p:b.length<=4000)(l:∀d∈Hm a b,0<=d/\d<256):C_ 34 #[P_ f] c (U_ (.string (strOfNums (Cb a b))) c):=by
 have y:=n_ 0 m;have r:=rx _ _ _ _ _ _ b a c g h o n k j p l;clear m g h o n k j p l;generalize strOfNums (Cb a b)=z at *;refine dl_ ?_;go_enter func34,ntmps34;go_wp2_with fail
 apply r.m;rintro x A ⟨rfl,i⟩;have q:=Y i;clear i;go_wp2;go_ret;exact⟨rfl,q⟩
def mx c a b:C_ 330 #[.agg #[I c,I a]] b (U_ (.int .i64 a) b):=by refine dl_ ?_;go_enter func330,ntmps330;go_wp2;go_ret;exact⟨rfl,q_⟩
theorem ZaO{d}(e:∀i,d i<=1) c:∀b a,a<b->Hc d c b/2^a%2=d (c+a)
 |0,a,g=>O
 | b +1,a,g=>by
  simp only[Hc]
  by_cases f:a=b
  ·subst f;have h:=Pw e c a
   grind [add_mul_div_right,div_eq_of_lt]
  have h:a<b:=O;have k:=ZaO e c b a h
  have j:d (c+b)*2^b=d (c+b)*2^(b-a-1)*2*2^a:=by
   have:(2:Nat)^b=2^(b-a-1)*2*2^a:=by rw[Nat.mul_assoc,<- pow_succ',<- Nat.pow_add];congr 1;omega
   grind
  grind [add_mul_div_right]
theorem Tj{b}(e:∀a,b a<=1){c a}(d:a<c):Gz b c (a/8)/2^(a%8)%2=b a:=by grind [Gz,ZaO]
def Mu{e} d c:∀a,(∀b,b<a->e (c+b)=d/2^b%2)->Hc e c a=d%2^a
 |0,_=>by simp[Hc,mod_one]
 |a+1,f=>by simp only[Hc];rw[Mu d c a (λb g=>f b O),f a O,mod_pow_succ,Nat.mul_comm (2^a)]
def ZfK c {a b}(d:c.getD b 0<2^a):Hc (Cd c a) (b*a) a=c.getD b 0:=by
 rw[Mu (c.getD b 0) (b*a) a (λf e=>?_),mod_eq_of_lt d];unfold Cd;have g:(b*a+f)/a=b:=by rw[Nat.mul_comm,mul_add_div O,div_eq_of_lt e,Nat.add_zero]
 grind [Nat.mul_comm,mul_add_mod,mod_eq_of_lt]
def Zht a (b:0<=a)(c:a<2^8):i64.wrap a=a:=As O O
def Zk4(a b:Nat)(c:a<256)(d:b<256):bits .or .i64 a b=(a|||b:Nat):=(bits_nat .i64 8 C Zht a b O O).2
def Nr y E b7 b i f q c t (m:Oa t 0 y E b7 b (Bg c i f))(R:∀c0,c c0<=1)(c9:b<=6)(b2:q*b+b<=f)(c7:f<=8*i)(c8:f<=2000):C_ 323 #[P_ y,I q] t (U_ (.int .i64 (Hc c (q*b) b:Nat)) t):=by
 have⟨X,w⟩:=Z_ m R;have T:=Dg c i f;have a0:=n_ 0 m.r;have a1:=n_ 1 m.r
 have a2:D_ t y 2 (L_ E i i):=by
  have U:=n_ 2 m.r
  grind
 have a8:=(Qb m.r).1;have G:=Y mx;have⟨e,A⟩:=M_ (q*b);have d3:q*b=(e:Int):=(by rw[A];simp);rw[<- A] at b2 ⊢;have d4:_=(e:Int):=As O O;have Z:K (Bg c i f=_/\_):=⟨rfl,T⟩;clear m R A T;refine v_ ?_;go_wp2_with fail
 apply (G _ _ _).m;rintro z e4 ⟨rfl,n⟩;have⟨a3,a4⟩:=k2_ n a0 a1;have a9:=Qh a8 n.size;have u:=Y n;clear n;go_wp2_with fail
 apply (G _ _ _).m;rintro z c2 ⟨rfl,P⟩;have v:=Y (u.T (P.m u.size));clear P a3 a4 a9 u;have c6:=W_ v a2;go_wp2_with fail
 go_loopw [5,21] (λh g j=>∃(a d:Nat),h=.int .i64 (d:Nat)/\g=.int .i64 a/\a<=b/\K (d=Hc c e a)/\K (c2=j)) (λ_ g _=>b-(intOf g).toNat)
 exact⟨0,0,rfl,rfl,r_,rfl,rfl⟩;obtain⟨a,d,rfl,rfl,d0,r,W⟩:=hrel;have b3:=W.out;subst b3;clear W
 by_cases d1:a<b
 ·have⟨g,N⟩:=M_ (e+a);have⟨h,H⟩:=M_ (g/8);have⟨l,M⟩:=M_ (g%8);have L:h<i:=O;have Q:=Kc c f L;obtain⟨b8,b0,d2,x⟩:=X.row.b rfl (k:=h) (by rw[Z.2];exact L);have b1:b8=E:=w_;subst b1;rw[Q] at x;have a5:=W_ v x;have⟨o,s⟩:=M_ (Gz c f h);have b4:o<256:=s ▸ (jg w f h);rw[<- s] at a5;have⟨p,B⟩:=M_ (c g);have a7:o/2^l%2=p:=(by rw[s,H,M,B];exact Tj w O);have n:p<=1:=O;have S:d<2^a:=r ▸ (Pw w _ _);have a6:_^a<=2^5:=Nat.pow_le_pow_right C O;have⟨j,D⟩:=M_ (p*2^a);have b5:_<=1*2^a:=aK _ n;have b6:j<256:=O
  have F:K (d+j=Hc c e (a+1)):=by show d+j=Hc c e a+c (e+a)*2^a;rw[<- r,D,B,N]
  have d5:e+a=(g:Int):=O;have d6:(g:Int).tdiv 8=h:=w_;have d7:g/8=(h:Int):=O;have d8:(g:Int).tmod 8=l:=w_;have d9:g%8=(l:Int):=O
  have e0:bits BinOp.and IntKind.u8 (o/2^l) 1=p:=by
   have z:(o/2^l)=((o/2^l:Nat):Int):=s_;rw[z];have U:=(Zcy (o/2^l) 1 (Nat.lt_of_le_of_lt (div_le_self _ _) b4) C).1
   grind
  have e1:_=(g:Int):=As O O;have e2:_=(h:Int):=As O O;have e3:i64.wrap (p*2^a)=j:=(by grind [As]);have b9:bits BinOp.or i64 d j=(d+j:Nat):=(by rw[Zk4 d j O b6,D,Zdx S]);have⟨c1,U⟩:=M_ (d+j);rw[<- U] at b9 F;have c3:=F_ a b;have c4:(a:Int)<=64:=O;have c5:=F_ h i;clear b5 a7 S a6 D U s B H M N Q x r b0;go_wp2;go_roundw;exact⟨a+1,c1,rfl,g_,O,F,True.intro⟩;exact z_
 have j:¬a<(b:Int):=O;have h:a=b:=O;have g:K (d=Hc c e b):=w_;clear h r;go_wp2;go_ret;rw[<- g];exact⟨rfl,v⟩
structure Vi(b:Ga)(f c e):Prop where
 h:c<b.g.length
 j:e<(b.g.getD c Db).fs.length
 g:(b.g.getD c Db).fs.getD e 0=f
 i:∀a d,a<=c->d<(b.g.getD a Db).fs.length->(a<c∨d<e)->(b.g.getD a Db).fs.getD d 0≠f
 A:∀a,a<=c->(b.g.getD a Db).fs.length<=100
 n:∀a d,a<=c->d<(b.g.getD a Db).fs.length->(b.g.getD a Db).fs.getD d 0<b.h.length
 q:∀a,a<b.h.length->(b.h.getD a Ai).a<=100
def Ll(a:Ga)(b c:Nat):Nat:=1+Bj a.h ((a.g.getD b Db).fs.take c)
def yf b:∀a:List Nat,(∀c∈a,(b.getD c Ai).a<=100)->Bj b a<=100*a.length
 |[],_=>by simp[Bj]
 | c::a,d=>by
  have g:=yf _ a (λf e=>d f (by simp[e]))
  grind [Bj]
def ZbK a8 t e j e5 e4 e6 d9 s c1 a d (o:Om d a8 e5 e4 e6 d9 s c1 a)(x:Vi a t e j)(f5:a.g.length<=1000):C_ 145 #[P_ a8,I t] d (U_ (.tuple #[.agg #[(s.getD e Ld).1,(s.getD e Ld).2],.int .i64 (Ll a e j:Nat)]) d):=by
 have⟨N,h⟩:=Z_ o x;have⟨e2,f2,d6,g1,_,_⟩:=o.v.v.at (i:=0) (p_ x.h);subst d6;have d1:0<a.h.length:=p_ (x.n e j x_ x.j);have⟨g8,f3,_,_,_,_,d7,_⟩:=o.q.at (i:=0) d1;subst d7;have f4:=n_ 1 o.v.r;have c6:=n_ 0 o.v.r;have f6:=(Qb o.v.r).1;clear o x;generalize b3:a.g.length=Z at *;generalize b5:a.h.length=e0 at *;have y:=T_ b3 b5;clear b3 b5;refine v_ ?_;go_wp2_with fail
 go_loopw [13] (λb c=>∃(i:Nat) (a1 a2:Value),b=.int .i64 i/\i<=e/\K (H_ c d.1.size #[a1,a2] 163/\E_ d c)) (λb _=>Z-(intOf b).toNat)
 exact⟨0,V _ 0 0,.nilIface,rfl,r_,hn_,q_⟩;obtain⟨i,a1,a2,rfl,v,c⟩:=hrel;have c9:i<Z:=oj_ h.h y.1;have b1:i<a.g.length:=y.1 ▸ c9;have⟨e1,f1,d5,g3,q,r⟩:=N.v.v.at b1;have d3:e1=e2:=w_;subst d3;have⟨E,a9⟩:=N.v.v.j i b1;have⟨u,k,H⟩:=E.shape;have⟨m,l,X⟩:=a9.iface;rw[Aj] at H;rw[H] at q E;rw[X] at r;have a7:=T_ H X;have⟨R,S⟩:=k2_ c.2 q r;have L:_=some a1:=G_ 0 _ _ _ c.1;have M:_=some a2:=G_ 1 _ _ _ c.1;have B:=R_ 0 _ _ c.1;have D:=R_ 1 _ _ c.1;have b9:=Y E;have e7:=h.A i v;have e9:=F_ i Z;clear H X E a9 q r d5;generalize b4:(a.g.getD i Db).fs.length=f at *;have P:=Y b4;clear b4
 have Q:K (((wr.setCell (J d.1.size 0) (V u f k)).setCell (J d.1.size 1) _).1[d.1.size]? =some (O_ #[V u f k,.iface m (P_ l)] 163)/\E_ d ((wr.setCell (J d.1.size 0) (V u f k)).setCell (J d.1.size 1) (.iface m (P_ l)))):=
  ⟨ht_ 1 _ _ _ (ht_ 0 _ _ _ c.1),(c.2.setCell x_ _).setCell x_ _⟩
 go_upto_region 4 with fail;generalize (wr.setCell (J d.1.size 0) (V u f k)).setCell (J d.1.size 1) (.iface m (P_ l))=g9 at *;clear L M B D R S c;have e3:=n_ 0 Q.1;go_wp2_with fail
 obtain⟨b8,d8⟩:∃b8,b8=wr:=⟨wr,rfl⟩;subst d8;go_loopw [5,20] (λp g n=>∃(b:Nat),p=.int .i64 (Ll a i b:Nat)/\g=.int .i64 b/\b<=f/\(i=e->b<=j)/\K (H_ n d.1.size #[.slice u f k,.iface m (.pointer (some ⟨l,0,none⟩))] 163/\E_ d n)) (λ_ g _=>f-(intOf g).toNat)
 exact⟨0,rfl,rfl,r_,λ_=>r_,Q⟩;clear Q e3;obtain⟨b,rfl,rfl,f7,w,c⟩:=hrel;have L:=n_ 0 c.1;have M:=n_ 1 c.1;have B:=R_ 0 _ _ c.1;have D:=R_ 1 _ _ c.1;have d4:=c.2.size
 have g0:Ll a i b<=10001:=by
  have A:=yf _ ((a.g.getD i Db).fs.take b) (λT z=>by
   obtain⟨g,G,rfl⟩:=aM z;have F:g<(a.g.getD i Db).fs.length:=w_;have n:=h.n i g v F;have p:(a.g.getD i Db).fs.getD g 0=((a.g.getD i Db).fs.take b)[g]:=w_;rw[p] at n
   exact h.q _ n)
  have g:((a.g.getD i Db).fs.take b).length<=100:=w_;unfold Ll;omega
 by_cases b2:b<f
 ·have G:b<(a.g.getD i Db).fs.length:=P ▸ b2;have U:=b9.below c.2;obtain⟨a0,d2,g2,_,a3,_⟩:=U.b (by rw[Aj];exact P) b2;rw[Br] at a3;subst d2;have W:=h.n i b v G;rw[y.2] at W
  have a6:K (Ll a i (b+1)=Ll a i b+(a.h.getD ((a.g.getD i Db).fs.getD b 0) Ai).a):=by
   show 1+Bj a.h ((a.g.getD i Db).fs.take (b+1))=1+Bj a.h ((a.g.getD i Db).fs.take b)+_
   have p:∀(g:List Nat),b<g.length->g.take (b+1)=g.take b++[g.getD b 0]:=λg n=>by rw[Qi n];grind
   have this:=p _ G;rw[this,tp];omega
  have f0:=F_ b f
  by_cases p:(a.g.getD i Db).fs.getD b 0=t
  ·have z:i=e:=by
    by_cases g:i=e
    exact g;exact absurd p (h.i i b v G (.inl O))
   have F:b=j:=by
    have A:=w z
    by_cases g:b=j
    exact g;exact absurd p (h.i i b v G (.inr O))
   have n:((a.g.getD i Db).fs.getD b 0:Nat)=(t:Int):=(by rw[p]);rw[n] at a3;have g:K ((.agg #[(s.getD e Ld).1,(s.getD e Ld).2]:Value)=.agg #[L_ a0 f k,.iface m (P_ l)]/\Ll a e j=Ll a i b):=(by rw[<- z,<- F];exact⟨by rw[a7.1,a7.2],rfl⟩);have A:K (Below _ d ((wr.setCell (J d.1.size 0) (L_ a0 f k)).setCell (J d.1.size 1) (.iface m (P_ l)))):=(c.2.setCell x_ _).setCell x_ _;clear p n z F w W a6 U;generalize Ll a i b=b7 at *;go_wp2;apply bodyPost_ret (v:=.tuple #[.agg #[L_ a0 f k,.iface m (P_ l)],I (b7:Nat)]) (by simp[results,results145,go_sem, *]) rfl;rw[g.1,g.2];exact⟨rfl,A⟩
  have f9:(((a.g.getD i Db).fs.getD b 0:Nat)==(t:Int))=false:=aO (λg=>p O);have b0:(a.g.getD i Db).fs.getD b 0<a.h.length:=y.2 ▸ W;have f8:=h.q _ b0;have⟨c2,c4,c3,c5,_,q,r,b6,_,_,_⟩:=N.q.c (i:=(a.g.getD i Db).fs.getD b 0) b0
  have d0:i=e->b+1<=j:=λg=>by
   have A:=w g
   by_cases T:b=j
   subst T;subst g;exact absurd h.g p;omega
  generalize (a.g.getD i Db).fs.getD b 0=n at *;have⟨R,S,T,c7⟩:=k4_ c.2 q r b6 c6;have a5:=KS.b (a.h.getD n Ai)
  have a4:K (∀A:World,C_ 146 #[.agg #[.bool (a.h.getD n Ai).e.a,V c2 (a.h.getD n Ai).e.g.length c4,V c3 (a.h.getD n Ai).e.c.length c5]] A (U_ (.int .i64 (a.h.getD n Ai).a) A)):=λA=>by rw[<- a5];exact Fm _ _ _ _ _ _ _ A O
  clear a5 q r b6 U p w;generalize a.h.getD n Ai=z at *;generalize z.e.a=g7 at *;generalize z.e.g.length=g5 at *;generalize z.e.c.length=g6 at *;generalize z.a=g4 at *;generalize Ll a i b=b7 at *;have e8:=F_ n e0;go_wp2_with fail
  apply (a4 _).m;rintro g h0 ⟨rfl,F⟩;have c8:=F;have c0:=T_ ((F.block _ (Qb c.1).1).T c.1) (c.2.T (F.m d4));clear F c8 c L M B D R S T c7 a4 a3;go_wp2;go_roundw;exact⟨b+1,by rw[a6];go_num,g_,O,d0,c0⟩;exact z_
 have p:¬b<(f:Int):=O
 have z:i<e:=by
  by_cases g:i=e
  have A:=w g;have n:=h.j;rw[<- g,P] at n;omega;omega
 have g:_:=c;clear L M B D;go_wp2;go_roundw;exact⟨i+1,_,_,g_,O,g⟩;exact z_
def On.below{g h f e d}(b:On g f e d)(c:E_ g h):On h f e d:=by have⟨m,l,n,k,j,i,a⟩:=b.h;exact⟨(c.block _ (Qb b.g).1).T b.g,m,l,n,k,j,i,a.v.below c,a.q.below c,a.n,a.l⟩
def Zax d e c f a x i (h:On i d e a)(z:0<a.g.length)(q:a.h.length<=1000)(L:f<(a.g.getD 0 Db).N.length)(M:(a.g.getD 0 Db).N.length<=1000)(B:c<a.h.length)(l:∀b:World,On b d e a->C_ 78 #[P_ e,I f,I c] b (U_ (.int .i64 (x:Nat)) b)):C_ 44 #[P_ d,I f,I c] i (U_ (.tuple #[.int .i64 x,.int .i64 0]) i):=by
 have y:=n_ 0 h.g;have⟨m,t⟩:=Z_ h l
 have s:K (∀b:World,On b d e a->C_ 52 #[P_ d,I c] b (V_ (.bool true) b)):=λb A=>by have g:=Jd d e a (c:Int) b A q;have j:decide (0<=(c:Int)/\c<=(a.h.length:Int)-1)=true:=t_;rw[j] at g;exact g
 have⟨Q,P,R,N,G,u,o⟩:=h.h;have n:=Mq _ _ _ _ _ _ u i o.v z;clear h o l q B;generalize (a.g.getD 0 Db).N.length=F at *;have v:0<=(f:Int):=O;have w:f<=(F:Int)-1:=O;refine dl_ ?_;go_enter func44,ntmps44;go_wp2_with fail
 apply n.m;rintro j S ⟨rfl,k⟩;have g:=Y k;have H:=W_ k y;clear k n;go_wp2_with fail
 apply (pc _ _ _ _ ⟨v,w⟩).m;rintro j W ⟨rfl,E⟩;obtain rfl:=E.s;go_wp2_with fail
 apply (s _ (m.below g)).m;rintro j T ⟨rfl,D⟩;obtain rfl:=D.s;go_wp2_with fail
 apply (t _ (m.below g)).m;rintro j U ⟨rfl,p⟩;have r:=Y (g.T (p.m g.size));clear p;go_wp2;go_ret2
 exact⟨rfl,r⟩
def Mz{f i}{g}:∀k b d {a e},Bt f i g b k d=.error (a,e)->a=2∨a=3
 |[],b,d,a,e,h=>by cases h
 | j::l,b,d,a,e,h=>by
  unfold Bt at h
  cases c:Cr f i g b j with
  |error n=>rw[c] at h;injection h with h;injection h with h1 h2;rw[<- h1];exact tl c
  |ok m=>rw[c] at h;exact Mz l _ _ h
theorem Cf a:(Ab a).length=a.size:=by unfold Ab;rw[length_map];rfl
def Fc a b c:Ab (a.extract b c)=((Ab a).take c).drop b:=by
 unfold Ab
 grind [ByteArray.data_extract,Array.toList_extract,map_take,map_drop,drop_take]
structure ua(d)(g)(c:Nat->Bool)(f:Nat->Int)(e)(h)(b:RS):Prop where
 l:(∃a,a<g+1/\c a=true)->ZhP d
 ok:∀a,a<g+1->Qv (Ck d (c a) (f a) e h (b.a a) b.k)/\(Ck d (c a) (f a) e h (b.a a) b.k).a=c a/\(Ck d (c a) (f a) e h (b.a a) b.k).b<=16
 num:∀a,a<g+1->∀i∈b.a a,(-1000000000<=i.num/\i.num<=1000000000)/\i.g.size<=8
 k:∀j∈b.k,0<=j/\j<=99
section
variable {w wr:World} {K:Nat->Prop} {a b rb fb cb m:Nat} {wd:Nat->Bool} {sc ct:Nat->Int} {bins:Int} {size budget:Nat}
end
def pn(d:World)(b:Nat)(c:Value)(a:List VS):Prop:=d.ownsRow b 335 3 c a.length (Ku a)
def pn.E{c a b L x}(d:c.ownsRow a 335 3 b (L.length+1) (Ku L++Iy x)):pn c a b (L++[x]):=by grind [pn,Wz,Ku]
def Zlw:(prog.info? 335).map (λa=>(a.zero,a.size,a.bytes))=some (some (.agg #[.bool false,I 0,Q_ ⟨#[]⟩]),3,32):=k_
def Zlx:(prog.info? 338).map (λa=>(a.zero,a.size,a.bytes))=some (some (.agg #[I 0,N_]),2,32):=k_
structure Lt where
 h:Int
 fs:List VS
 v:Value
def Lt.o(a:Lt):Int×List VS:=(a.h,a.fs)
def Rz(a:Lt):List Value:=[I a.h,a.v]
def Ra:List Lt->List Value
 |[]=>[]
 |b::a=>Rz b++Ra a
theorem vq a b:Ra (a++b)=Ra a++Ra b:=by
 induction a with
 |nil=>rfl
 |cons d a c=>simp[Ra,c]
structure Gw(d:World)(b)(e)(a):Prop where
 row:d.ownsRow b 338 2 e a.length (Ra a)
 j:∀c∈a,pn d b c.v c.fs
def Gw.nil b a:Gw b a (N_) []:=⟨rn_,s_⟩
def Gw.p{i w' e d c K}(f:Gw i e d c)(h:Aa K i w')(j:∀a,d.ownBlock=some a->¬K a)(k:∀b∈c,∀a,b.v.ownBlock=some a->¬K a):Gw w' e d c:=
 ⟨h.row f.row j,λb g=>h.row (f.j b g) (k b g)⟩
def Gw.shape{g d b a}(f:Gw g d b a):∃c e,b=.slice c a.length e:=by
 rcases f.row.2 with⟨rfl,k⟩|⟨j,h,i,rfl,_⟩
 ·grind
 grind
def Gw.below{c d base b a}(e:Gw c base b a)(f:E_ c d):Gw d base b a:=e.p (.a (S:=λ_=>False) f) (λ_ _=>id) (λ_ _ _ _=>id)
def Gw.E{b f a i v' L p}(g:Gw b a i L)(q:pn b a p.v p.fs)(j:b.grownBy f i.ownBlock)(r:f.ownsRow a 338 2 v' (L.length+1) (Ra L++Rz p)):Gw f a v' (L++[p]):=by
 have n:=(Aa.refl _ b).grown j (λm d _=>d);refine⟨?_,λe l=>?_⟩
 ·grind [vq,Ra]
 have h:pn b a e.v e.fs:=by
  rcases mem_append.1 l with c|c
  exact g.j e c
  grind
 refine n.row h (λm d c=>?_);have⟨o,k⟩:=Ac h d;exact Ah g.row c k C rfl
structure RwI(o a)(b i g d:Nat)(k)(l)(q)(e)(f)(n)(p)(h)(j):Prop where
 r:Fi a i k l q e
 u:Gw a b e f
 cf:a.1[g]? =some (O_ n 37)
 x:a.1[d]? =some (O_ #[I p,h] 338)
 A:pn a d h j
 y:Below b o a
 z:b<=i
 w:b<=g
 F:b<=d
 B:∀m∈f,∀c,m.v.ownBlock=some c->c<d
 D:∀c,e.ownBlock=some c->c<d
section
variable {w W f:World} {base a cb rb:Nat} {S:ByteArray} {k g:Nat} {z h:Int} {d:Value} {L:List Lt} {e:Array Value} {wt:Int} {c:Value} {b:List VS}
def RwI.i(i:RwI w W base a cb rb S k z d L e wt c b)(p:Fi f a S g h d)(n:Aa (λm=>m=a) W f):RwI w f base a cb rb S g h d L e wt c b:=
 ⟨p,i.u.p n (λm l j=>Ah i.u.row l i.r C j) (λq o m l j=>Ah (i.u.j q o) l i.r C j),
  n.g i.cf (λj=>by have o:=i.cf;have l:=i.r;unfold Fi at l;grind),
  n.g i.x (λj=>by have o:=i.x;have l:=i.r;unfold Fi at l;grind),
  n.row i.A (λm l j=>Ah i.A l i.r C j),i.y.T (n.b (by have:=i.y.size;have:=i.r.lt;have:=i.z;omega) (λm l=>p_ i.z)),i.z,i.w,i.F,i.B,i.D⟩
def RwI.below(g:RwI w W base a cb rb S k z d L e wt c b)(h:E_ W f):RwI w f base a cb rb S k z d L e wt c b:=by have i:=Aa.a (S:=λ_=>False) h;exact⟨g.r.below h,g.u.below h,i.g g.cf id,i.g g.x id,i.row g.A (λ_ _=>id),g.y.T (h.m (oj_ g.r.lt g.z)),g.z,g.w,g.F,g.B,g.D⟩
def RwI.o(f:RwI w W base a cb rb S k z d L e wt c b):a≠rb/\cb≠rb:=
 ⟨λh=>by have i:=f.x;have g:=f.r;unfold Fi at g;grind,λh=>by have i:=f.x;have g:=f.cf;grind⟩
def RwI.E{j m x}(f:RwI w W base a cb rb S k z d L e wt c b)(r:W.grownBy j c.ownBlock)(u:j.ownsRow rb 335 3 m (b.length+1) (Ku b++Iy x)):RwI w (j.setCell (J rb 1) m) base a cb rb S k z d L e wt m (b++[x])/\j.1[rb]? =some (O_ #[I wt,c] 338):=by
 have q:=(Aa.refl _ W).grown r (λk g _=>g);have n:=q.g f.x (λg=>Ah f.A g f.x C rfl);have l:Aa (λh=>_∨h=rb) W (j.setCell _ m):=(q.m (λ_ _=>.inl)).setCell (p:=(J rb 1)) (λ_=>.inr rfl) _;have⟨s,t⟩:=f.o;refine⟨⟨f.r.p l ?_,f.u.p l (λh i g=>?_) (λp o h i g=>?_),l.g f.cf ?_,ht_ 1 _ _ _ n,Al (pn.E u) n C,f.y.T (l.b (oj_ f.r.lt f.z) (λh i=>?_)),f.z,f.w,f.F,f.B,f.D⟩,n⟩;rintro(g|g);exact Ah f.A g f.r C rfl;exact s g
 ·rcases g with g|g
  have:=f.D h i;have:=(B_ f.A h g).1;omega;have:=f.D h i;omega
 ·rcases g with g|g
  have:=f.B p o h i;have:=(B_ f.A h g).1;omega;have:=f.B p o h i;omega
 rintro(g|g);exact Ah f.A g f.cf C rfl;exact t g;have:=f.F
 rcases i with g|g
 have:=(B_ f.A h g).1;omega;omega
end
def RwP(i:World)(e h:Nat)(g:ByteArray)(c:List Lt)(a:Int×List VS×Nat×Int)(b:World):Prop:=
 ∃f d,Fi b h g a.2.2.1 a.2.2.2 f/\Gw b e f d/\d.map Lt.o=(if a.2.2.2=0 then c.map Lt.o++[(a.1,a.2.1)] else c.map Lt.o)/\Below e i b
def Zko q v F b r U c P t a6 a7 a8 g f c9 l (D:Fi l v c F 0 P)(f7:Gw l q P t)(f8:q<=v)(i3:F<=c.size)(b4:Dq l r 0 b g f c9)(d4:r<q)(j2:b<=4)(g7:∀a,a<b->0<=f a/\(g a=false->f a<=3))(i9:t.length<=1000)(a0:c.size<=1000000000000000):C_ 236 #[P_ v,.agg #[L_ r b U,I a6,I a7,I a8]] l λd i=>d=.returned (.tuple #[])/\RwP l q v c t (fj c b g f F) i:=by
 have⟨u,c5⟩:=ez_ (fj c b g f F);rw[c5];have⟨e8,b6⟩:=M_ (l.alloc (O_ #[L_ r b U,I a6,I a7,I a8] 37));have f6:q<=l.1.size:=p_ D.lt;have S:E_ l e8:=b6 ▸ q_;have g0:H_ e8 l.1.size #[L_ r b U,I a6,I a7,I a8] 37:=b6 ▸ hn_;have⟨c8,d3⟩:=M_ l.1.size;have Q:=ef _ F 2 c 0 false _ _ (D.below S) O a0;have d7:=ZjA (S:=c) 0 2 false i3;have⟨h5,c1⟩:=ez_ (Nv c F 0 2 false);rw[c1] at Q d7;obtain⟨m,e3,g9,f0⟩:=h5;simp only at Q d7;have y:=T_ (D.below S) (f7.below S)
 have h6:K (∀R,Below q l R->∀a,a<b->D_ R r (a*3) (.bool (g a))/\D_ R r (a*3+1) (I (f a).toNat)/\D_ R r (a*3+2) (I (c9 a))):=λR d2 a Z=>by have d:=b4.v a Z;have e:=b4.z a Z;have b2:=b4.q a Z;rw[Nat.zero_add] at d e b2;refine⟨(d2.cell (p:=(J r (a*3))) d4).T d,?_,(d2.cell (p:=(J r (a*3+2))) d4).T b2⟩;rw[Int.toNat_of_nonneg (g7 a Z).1];exact(d2.cell (p:=(J r (a*3+1))) d4).T e
 have f3:=Y b6;have b0:K (_/\_[c8]? =some _):=⟨S,d3 ▸ g0⟩;have c2:=Y d3;clear b6 S g0 D f7 b4 d3;refine v_ ?_;go_wp2_with fail
 rw[<- f3,<- c2];apply Q.m;rintro d j4 ⟨rfl,X,h1⟩;have c7:=T_ X h1;clear X h1 Q f3;have c3:=bt _ _ c _ 44 _ _ c7.1 C a0;have g5:=Zfc (S:=c) (z:=f0) (b:=44) C d7.2;have⟨N,d6⟩:=Y_ (Oh c g9 f0 44);have⟨a9,g8⟩:=Y_ (Oz c g9 f0 44);rw[d6,g8] at c3;rw[d6] at g5
 have c4:K (u=if a9=0 then(m,(Ux c b g f b 0 [] N).1,(Ux c b g f b 0 [] N).2.1,(Ux c b g f b 0 [] N).2.2) else(m,[],N,a9)):=by
  show _=_;rw[<- c5];unfold fj;simp only;rw[c1]
  grind
 clear d6 g8 c5 c1;go_wp2_with fail
 apply c3.m;rintro d e9 ⟨rfl,f5,h2⟩;have⟨h4,b7⟩:=M_ (e9.alloc (O_ #[I m,N_] 338));have⟨b9,a2⟩:=M_ e9.1.size
 have f1:K (RwI l h4 q v c8 b9 c N a9 P t #[L_ r b U,I a6,I a7,I a8] m (N_) []):=by have e:=c7.2.T h2;have h:E_ e9 h4:=b7 ▸ q_;have i:=y.2.p e (λs j d=>Ah y.2.row j y.1 C d) (λp a1 s j d=>Ah (y.2.j p a1) j y.1 C d);have n:q<=e8.1.size:=p_ y.1.lt;have k:=e.g b0.2 (λd=>by have j:=b0.2;have X:=y.1;unfold Fi at X;grind);refine⟨f5.below h,i.below h,(h.block _ (Qb k).1).T k,by rw[b7,a2];exact hn_,rn_,?_,f8,c2 ▸ f6,?_,λp a1 s j=>?_,λs j=>?_⟩;exact((b0.1.m f6).T (e.b n (λs j=>O))).T (h.m (p_ e.size));have:=e.size;omega;rw[a2];exact(B_ (i.j p a1) s j).2;rw[a2];exact(B_ i.row s j).2
 have c6:=T_ b7 a2;clear f5 h2 c3 b7 a2 y c7 b0 c2;go_upto_region 5 with fail;rw[<- c6.1,<- c6.2];clear c6;go_loopw [7] (λw h=>∃(a k:Nat) (B:Int) (W:Value) (e:List VS),w=.int .i64 a/\a<=b/\k<=c.size/\K ((B=0/\e.length=a/\u=(m,(Ux c b g f (b-a) a e k).1,(Ux c b g f (b-a) a e k).2.1,(Ux c b g f (b-a) a e k).2.2))∨(B≠0/\u.2.2.1=k/\u.2.2.2=B))/\K (RwI l h q v c8 b9 c k B P t #[.slice (some ⟨r,0,none⟩) b U,.int .i64 a6,.int .i64 a7,.int .i64 a8] m W e)) (λw _=>b-(intOf w).toNat)
 case atStart=>
  refine⟨0,N,a9,_,[],rfl,r_,g5.2,?_,f1⟩
  by_cases n:a9=0
  ·grind
  exact .inr ⟨n,by rw[c4,aC n],by rw[c4,aC n]⟩
 clear f1 c4;obtain⟨a,k,B,W,e,rfl,Z,g3,b1,h⟩:=hrel;have⟨_,_,b2,_⟩:=h.r.cells;have f4:=G_ 0 _ _ _ h.out.cf;simp only[getElem?_toArray,getElem?_cons_zero] at f4
 by_cases E:a<b/\B=0
 ·obtain⟨E,rfl⟩:=E;have o:K (e.length=a/\u=(m,(Ux c b g f (b-a) a e k).1,(Ux c b g f (b-a) a e k).2.1,(Ux c b g f (b-a) a e k).2.2)):=w_;clear b1;have d1:=F_ a b;go_upto_if 38 with fail
  go_cut [8] (λi j=>i=.int .u8 (Eg a b)/\j=wr)
  case first=>
   by_cases j:a+1=b
   ·have i:K (Eg a b=_):=aD j;go_wp2;go_meet
    exact⟨by rw[i],rfl⟩
   have i:K (Eg a b=_):=aC j;have n:((a:_)==(b:Int)-1)=_:=aO O;go_wp2;go_meet
   exact⟨by rw[i],rfl⟩
  obtain⟨rfl,f2⟩:=hcut;obtain rfl:=f2.s;clear f2;have⟨g1,g4,g6⟩:=h6 wr h.y a E;have M:=Zd4 _ _ (f a).toNat c _ (c9 a) _ _ _ h.r g3 (λd=>p_ ((g7 a E).2 d)) (bf a b) a0;have h7:=Zmx (S:=c) (g a) (f a).toNat (bf a b) g3;have⟨j,a3⟩:=ez_ (gq c k (g a) (f a).toNat (Eg a b));rw[a3] at M h7
  have Q:K ((j.2.2=0/\(e++[j.1]).length=a+1/\u=(m,(Ux c b g f (b-(a+1)) (a+1) (e++[j.1]) j.2.1).1,(Ux c b g f (b-(a+1)) (a+1) (e++[j.1]) j.2.1).2.1,(Ux c b g f (b-(a+1)) (a+1) (e++[j.1]) j.2.1).2.2))∨(j.2.2≠0/\u.2.2.1=j.2.1/\u.2.2.2=j.2.2)):=by
   have d:Ux c b g f (b-a) a e k=if j.2.2=0 then Ux c b g f (b-(a+1)) (a+1) (e++[j.1]) j.2.1 else(e++[j.1],j.2.1,j.2.2):=by rw[show b-a=(b-(a+1))+1 by omega,Ux];rw[a3]
   by_cases n:j.2.2=0
   exact .inl ⟨n,by rw[Qe,o.1];rfl,by rw[o.2,d,aD n]⟩;exact .inr ⟨n,by rw[o.2,d,aC n],by rw[o.2,d,aC n]⟩
  have d8:=Y o.1;clear o a3;generalize g a=i5,(f a).toNat=i4 at *;go_wp2_with fail
  apply M.m;rintro d G ⟨rfl,e6,f9⟩;have e5:=Y (h.i e6 f9);clear e6 f9 h M b2 f4 g1 g4 g6;have H:=e5.out;have i2:=(Qb H.x).1;obtain⟨⟨n,s,w⟩,h8,h9⟩:=j;have⟨A,z⟩:=M_ ((G.alloc (O_ #[.bool n,I s,Q_ w] 335)).alloc (O_ #[.bool n,I s,Q_ w] 335));have T:E_ G A:=z ▸ (q_.alloc s_ _);have i:K (RwI l _ _ _ _ _ c h8 h9 _ t _ _ _ e):=H.below T;have a1:=Y z;have h3:_=some W:=G_ 1 _ _ _ H.x;have g2:=d8.out;have⟨e2,d5,e0,e1,b8⟩:=info_parts Zlw;clear H z T e5;go_wp2_with (at_builtin;rw[<- a1];refine Dh rfl (.tmp 48) (.tmp 50) 336 rfl b9 335 e2 _ 3 32 underlying336 d5 e0 e1 b8 rfl C W e.length (Ku e) rfl i.A _ 1 1 [.bool n,I s,Q_ w] rfl rfl ?_ ?_ ?_ ?_ ?_ ?_ ?_)
  have d:=one_new (G.alloc (O_ #[.bool n,I s,Q_ w] 335)) #[.bool n,I s,Q_ w] 335;rw[show(G.alloc (O_ #[.bool n,I s,Q_ w] 335)).1.size=G.1.size+1 by simp] at d;rw[a1];exact d
  ·intro c0 L;simp at L;rcases L with rfl|rfl|rfl<;>rfl
  decide;unfold maxLen;omega;omega;have:=(Qb i.out.x).1;omega;intro iZ a5 b5;have⟨a4,L,d0,_,e7,e4,d9⟩:=b5.out;subst d9;have⟨c0,b3⟩:=i.out.E (x:=⟨n,s,w⟩) L (d8.out ▸ a4);have i0:=Y c0;have h0:=G_ 1 _ _ _ b3;have i1:=R_ 1 _ _ b3;simp at h0;clear c0 b3 a4 L d0 b5 i h3 a1;go_wp2;go_roundw
  grind
  exact z_
 by_cases n:B=0
 ·subst n;have g6:a=b:=O
  have o:K (u=(m,e,k,0)):=by
   rcases b1.out with D|D
   show _=_;rw[D.2.2,g6,Nat.sub_self,Ux];omega
  have d1:¬a<(b:Int):=O;clear b1 E g6;have⟨i6,i7,i5⟩:=h.u.shape
  obtain⟨G,b3,i2⟩:∃h8 h9,W=.slice h8 e.length h9:=by
   rcases h.out.A.2 with⟨d,i⟩|⟨M,s,w,d,_⟩
   ·grind
   grind
  subst i5 i2;have e5:=h.r.cells.2.2.2;have h0:=n_ 0 h.x;have e6:=n_ 1 h.x;obtain⟨e2,d5,e0,e1,b8⟩:=info_parts Zlx;generalize g2:e.length=H at h e6;generalize g4:t.length=a3 at h e5;have j1:a3<=1000:=O;have f2:=Y g4;clear g2 g4;go_upto_region 13 with fail;refine Af (λi=>i.cell? _=some _/\i.cell? _=some _/\i.cell? _=some _) 10 k_ ⟨e5,h0,e6⟩ (λhHeld=>?_);refine K_ ?_;refine on_ 6 λKK hK=>?_;go_simp;have⟨A,z⟩:=M_ ((wr.alloc (O_ #[I m,V G H b3] 338)).drew);have T:E_ wr A:=z ▸ q_.drew;have i:=Y (h.below T);have i4:∀e3 c0,(#[I m,V G H b3]).toList[e3]? =some c0->A.cell? (((J wr.1.size 0):Addr).add e3)=some c0:=z ▸ (one_new _ _ _);rw[<- z]
  have i0:_/\A.cell? _=some (.int _ m)/\A.cell? _=some (V G H _):=⟨i.r.cells.2.2.2,G_ 0 _ _ _ i.x,G_ 1 _ _ _ i.x⟩;have f9:q<=A.1.size:=p_ i.r.lt;clear z T e5 h0 e6 h;refine hK _ _ i0 (λhHeld=>?_);clear hK KK;try simp only[Act.put,setIfInBounds_toArray,set_cons_succ,set_cons_zero]
  refine on_ 7 λKK hK=>?_;refine Kg rfl (.tmp 62) (.tmp 64) 281 rfl q 338 e2 _ 2 32 underlying281 d5 e0 e1 b8 rfl C (V i6 a3 i7) a3 (Ra t) j_ (by have:=i.u.row;rw[f2] at this;exact this) (J wr.1.size 0) 1 1 [I m,V G H b3] j_ rfl ?_ ?_ C m_ O f9 ?_;exact i4
  ·intro c0 L;simp at L;rcases L with rfl|rfl<;>rfl
  rintro iZ a5 ⟨a4,L,d0,_,e7,e4,d9⟩;subst d9;have g1:pn A q (V G H b3) e:=(by have j:=i.A;have X:=i.F;exact⟨j.1,j.2.imp id (λ⟨M,s,w,d,f8,a1⟩=>⟨M,s,w,d,O,a1⟩)⟩);have b5:Gw _ _ _ (t++[⟨_,e,_⟩]):=i.u.E g1 L (by rw[f2];exact a4);have w:=(Aa.refl _ _).grown L (λF a0 _=>a0);have M:=i.r.p w (λd=>Ah i.u.row d i.r C rfl);have d8:=w.g i.x (λd=>by have:=i.D b9 d;omega);have i1:_/\a5.cell? _=some (.int _ m)/\a5.cell? _=some (V G H _):=⟨M.cells.2.2.2,G_ 0 _ _ _ d8,G_ 1 _ _ _ d8⟩;have j0:=R_ 3 _ _ M
  have h7:K (RwP l q v c t (m,e,k,0) (a5.setCell (J v 3) (L_ e7 (a3+1) e4))):=(by have h3:Aa _ _ (a5.setCell _ (L_ e7 (a3+1) e4)):=(Aa.refl (λs=>s=v) _).setCell (p:=(J v 3)) (λ_=>rfl) _;have j3:=w.size;refine⟨_,_,ht_ 3 _ _ _ M,b5.p h3 (λs j d=>Ah b5.row j M C d) (λp a1 s j d=>Ah (b5.j p a1) j M C d),by rw[aD rfl,map_append];rfl,?_⟩;exact(i.y.T (w.b f9 (λs j=>(B_ i.u.row s j).1))).T (h3.b O (λs j=>O)));clear g1 b5 w M d8 a4 L d0 i;refine hK _ _ i1 (λhHeld=>?_);clear hK KK;refine K_ ?_;refine le_ ?_;go_wp2;go_end0;rw[o];exact⟨rfl,h7⟩
 have o:K (u.2.2.1=k/\u.2.2.2=B):=w_;have b8:=aO n;have i:=Y n;clear b1 E n
 by_cases E:a<b
 ·have d1:a<(b:Int):=O;go_wp2;go_end0;refine⟨rfl,?_⟩;unfold RwP;rw[o.1,o.2];exact⟨P,t,h.r,h.u,by rw[aC i],h.y⟩
 have d1:¬a<(b:Int):=O;go_wp2;go_end0;refine⟨rfl,?_⟩;unfold RwP;rw[o.1,o.2];exact⟨P,t,h.r,h.u,by rw[aC i],h.y⟩
def RdP(d:World)(g:ByteArray)(b:List (Int×List VS)×Nat×Int)(h:Ending)(e:World):Prop:=
 ∃c f a,h=.returned (P_ c)/\d.1.size<=c/\Fi e c g b.2.1 b.2.2 f/\Gw e d.1.size f a/\a.map Lt.o=b.1/\a.length<=200/\E_ d e
def tq f l q a v w x n i a2 d (a5:Dq d l 0 f n i a2)(c9:l<d.1.size)(c2:f<=4)(c3:∀H,H<f->0<=i H/\(n H=false->i H<=3))(c1:a.size<=1000000000000000):C_ 178 #[.agg #[L_ l f q,I v,I w,I x],Q_ a] d λe b=>RdP d a (Kk a f n i (a.size+1) [] 0) e b:=by
 have⟨z,Q⟩:=ez_ (Kk a f n i (a.size+1) [] 0);rw[Q];have⟨M,G⟩:=M_ ((d.alloc (O_ #[L_ l f q,I v,I w,I x] 37)).alloc (O_ #[Q_ a,I 0,I 0,N_] 283));have⟨j,W⟩:=M_ (d.1.size+1);have b0:Fi M j a 0 0 (N_):=(by have e:=ha_ (d.alloc (O_ #[L_ l f q,I v,I w,I x] 37)) (O_ #[Q_ a,I 0,I 0,N_] 283);rw[show(d.alloc (O_ #[L_ l f q,I v,I w,I x] 37)).1.size=d.1.size+1 by simp,<- G,<- W] at e;exact e);have a8:H_ M d.1.size #[L_ l f q,I v,I w,I x] 37:=by grind [Below.heap_alloc,heap_alloc_new]
 have a7:E_ d M:=G ▸ (q_.alloc s_ _);have a0:K (_/\Gw M (d.1.size+1) _ _/\_/\_):=⟨b0,Gw.nil _ _,a8,a7⟩;have y:=T_ G W;have b2:K (∀a1,Below _ d a1->_):=λa1 c0=>a5.below c0;clear G W b0 a8 a7 a5;refine dl_ ?_;go_enter func178,ntmps178;go_upto_region 2 with fail;rw[<- y.1,<- y.2];go_loopw [13] (λ_ b=>∃(g h:Nat) (k:Int) (L:Value) (c:List Lt),g<=a.size/\c.length<=200/\(k=0->a.size+1<=h+g)/\K ((k=0/\z=Kk a f n i h (c.map Lt.o) g)∨(k≠0/\z=(c.map Lt.o,g,k)))/\K (Fi b j a g k L/\Gw b (d.1.size+1) L c/\H_ b d.1.size #[L_ l f q,I v,I w,I x] 37/\E_ d b)) (λ_ b=>match b.cell? (J j 1),b.cell? (J j 2) with|some (.int _ c),some (.int _ e)=>if e=0 then a.size+1-c.toNat else 0|_,_=>0)
 case atStart=>exact⟨0,a.size+1,0,_,[],r_,s_,λ_=>O,.inl ⟨rfl,Q.s⟩,a0⟩
 clear a0 Q;obtain⟨g,h,k,L,c,a9,a6,T,B,b⟩:=hrel;have b1:=b.1.cells;obtain⟨_,b8,b9,c6⟩:=b1;have Z:=T_ b8 b9;have⟨d2,d3,X⟩:=b.2.1.shape
 by_cases U:g<a.size/\k=0
 ·obtain⟨U,rfl⟩:=U;have T:=T rfl;obtain⟨h,rfl⟩:∃R,h=R+1:=⟨h-1,O⟩;have P:K (z=Kk a f n i (h+1) (c.map Lt.o) g):=w_;have a3:g<(a.size:Int):=O
  by_cases a4:c.length=200
  ·have D:K (z=(c.map Lt.o,g,3)):=(by grind [Kk]);have b3:=R_ 2 _ _ b.1;rw[a4] at X;subst X;have E:K (RdP d a (c.map Lt.o,g,3) (.returned (P_ j)) (wr.setCell (J j 2) (I 3))):=(by have⟨A,N⟩:=b.1.put 3;have b4:=b.1.lt;have F:=y.2;have m:=b.2.1.p N (λp o e=>Ah b.2.1.row o b.1 C e) (λt s p o e=>Ah (b.2.1.j t s) o b.1 C e);exact⟨j,_,c,rfl,O,A,⟨⟨m.row.1,m.row.2.imp id (λ⟨r,o,p,e,S,u⟩=>⟨r,o,p,e,O,u⟩)⟩,λt s=>⟨(m.j t s).1,(m.j t s).2.imp id (λ⟨r,o,p,e,S,u⟩=>⟨r,o,p,e,O,u⟩)⟩⟩,rfl,a6,b.2.2.2.T (N.b O (λp o=>O))⟩);clear B P b;go_wp2;go_ret;rw[D];exact E
  have u:c.length<200:=O;have c7:((c.length:Int)==200)=_:=aO O;have o:=b.2.2.1;have b4:=n_ 0 o;have b5:=n_ 1 o;have b6:=n_ 2 o;have b7:=G_ 3 _ _ _ o;simp at b4 b5 b6 b7;have p:=Zko _ j _ f l q a L c v w x _ _ a2 wr b.1 b.2.1 (p_ y.2) a9 (b2 wr b.2.2.2) O c2 c3 O c1;have D:=ZmJ f n i a9;have⟨m,r⟩:=ez_ (fj a f n i g);rw[r] at p D;have c5:K (z=if m.2.2.2=0 then Kk a f n i h (c.map Lt.o++[(m.1,m.2.1)]) m.2.2.1 else(c.map Lt.o,m.2.2.1,m.2.2.2)):=(by show _=_;rw[P,Kk,aD U,aC w_];simp only;rw[r]);subst X;have b3:=Y u;clear B P r o a4 u;go_wp2_with fail
  apply p.m;rintro e d4 ⟨rfl,F⟩;have s:=Y F;clear F p;go_wp2;go_roundw
  case rel=>
   have⟨E,t,A,N,c4,S⟩:=s.out;have d1:=y.2;have c8:=b3.out;have d0:=congrArg length c4;refine⟨m.2.2.1,h,m.2.2.2,E,t,D.1.2,?_,?_,?_,A,N,?_,?_⟩
   ·grind
   omega
   ·grind
   exact(S.block _ O).T b.2.2.1;exact b.2.2.2.T (S.m O)
  case measure=>
   obtain⟨E,t,A,_⟩:=s;rw[A.cells.2.1,A.cells.2.2.1,Z.1,Z.2]
   grind
 have D:K (z=(c.map Lt.o,g,k)):=by
  rcases B.out with e|e
  ·show _=_;have:=T e.1;obtain⟨h,rfl⟩:∃R,h=R+1:=⟨h-1,O⟩
   grind [Kk]
  exact e.2
 have E:K (RdP d a (c.map Lt.o,g,k) (.returned (P_ j)) wr):=(by have F:=y.2;have m:=b.2.1;exact⟨j,_,c,rfl,O,b.1,⟨⟨m.row.1,m.row.2.imp id (λ⟨r,o,p,e,S,u⟩=>⟨r,o,p,e,O,u⟩)⟩,λt s=>⟨(m.j t s).1,(m.j t s).2.imp id (λ⟨r,o,p,e,S,u⟩=>⟨r,o,p,e,O,u⟩)⟩⟩,rfl,a6,b.2.2.2⟩);clear B b
 by_cases e:k=0
 ·subst e;have a3:¬g<(a.size:Int):=O;go_wp2;go_ret;rw[D];exact E
 have a3:=aO e;go_wp2;go_ret;rw[D];exact E
end Go.Proofs.YtfcgnpchbcmdeaaGreat
