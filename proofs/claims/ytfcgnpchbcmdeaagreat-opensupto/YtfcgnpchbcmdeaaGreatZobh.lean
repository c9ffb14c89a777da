import Derived.Test.YtfcgnpchbcmdeaaGreatZobg
namespace Go.Proofs.YtfcgnpchbcmdeaaGreat
set_option linter.all false
set_option maxRecDepth 100000
set_option maxHeartbeats 32000000
open Go.RowKit List Nat World Go.Proofs.Tryz Value IntKind Lib Region
def zt(c:List (Int×List VS))(b:Nat->ES)(a:Nat):List Nat:=(Bn c a).map (Gi (b a))
def yt(b:Nat)(a:Nat->ES):List ES:=(range (b+1)).map a
def Tg(c:Nat)(b:List (Int×List VS))(a:Nat->ES):List (List Nat):=(range (c+1)).map (zt b a)
def gm{c b a}(d:a<c+1):(yt c b).getD a Rj=b a:=by simp[yt,getD,d]
def Pk{d c b a}(e:a<d+1):(Tg d c b).getD a []=zt c b a:=by simp[Tg,getD,e]
def Wr{a b}{c}:(zt a b c).length=a.length:=by simp[zt,Bn]
def Zih{a E i b}(c:b<a.length):(zt a E i).getD b 0=Gi (E i) ((a.getD b lr).2.getD i Aw):=by simp[zt,Bn,getD,c]
def vi c b d:∀a,(vh c b d a).length<=a
 |0=>by simp[vh]
 |a+1=>by have:=vi c b d a;simp only[vh,Qe,exC];split<;>simp<;>omega
def ZeK d c b:∀a,(gn d c b a).length<=a*b
 |0=>by simp[gn]
 |a+1=>by have:=ZeK d c b a;have:=vi d c a b;simp only[gn,Qe,Nat.add_mul];omega
def ij(k l:World)(m f:Nat)(a:Ga):Prop:=∃i g h j e c d b,RfX l k.1.size m f i g h j e c d a.h (a.g.map BS.fs) (a.g.map BS.N) b/\b.Perm a.q/\Eh b
structure ga(a wr:World)(cf:Array Value)(p d e f:Nat)(h l i m j n o k c b g):Prop where
 q:MkY wr a.1.size (a.1.size+1+1) (a.1.size+1) p (.slice h d l) Dd Dd Dd (.slice i e m) (.slice j f n) o k c b g
 cf:wr.1[a.1.size]? =some (.cells cf 37 (0,0))
 y:E_ a wr
 len:c.length=d/\b.length=e/\g.length=f
section
variable {w wr w':World} {a:Array Value} {n i j l f p:Nat} {g h c:Option Addr} {m cb d:Nat} {kvs:List (Value×Value)} {e:List Value} {Ks:List KS} {Bb:List (List Nat)} {o:List Nat}
def ga.r{w c:World}{a n}(d:c=((w.alloc (.cells a 37)).alloc (.cells #[I (n:Nat),Dd,Dd,Dd,Dd] 142)).alloc (.cells #[P_ (w.1.size+1),Dd,Dd] 331)):ga w c a n 0 0 0 none 0 none 0 none 0 [] [] [] [] []:=by
 subst d;refine⟨⟨?_,?_,fx.nil _ _,Mb.nil _ _,Ad.nil _ _,λi b=>by simp at b,λi b=>by simp at b⟩,?_,(q_.alloc s_ _).alloc t_ _,rfl,rfl,rfl⟩
 ·simpa [MaB] using ha_ ((w.alloc (.cells a 37)).alloc (.cells #[I (n:Nat),Dd,Dd,Dd,Dd] 142)) (.cells #[P_ (w.1.size+1),Dd,Dd] 331)
 exact(hc_ s_).T (by simpa [Nh] using ha_ (w.alloc (.cells a 37)) (.cells #[I (n:Nat),Dd,Dd,Dd,Dd] 142));exact((hc_ t_).T (hc_ s_)).T hn_
def ga.below(b:ga w wr a n i j l g m h cb c d kvs e Ks Bb o)(f:E_ wr w'):ga w w' a n i j l g m h cb c d kvs e Ks Bb o:=
 ⟨b.q.below f,(f.block _ (Qb b.cf).1).T b.cf,bt_ b.y f,b.len⟩
def ga.v{b f z y t A}(k:ga w wr a n i j l g m h cb c d kvs e Ks Bb o)(r:wr.ownsRow w.1.size f z t y A)(v:f≠37)(u:wr.grownBy w' t.ownBlock)(B:w.1.size<b) q x:(w'.setCell (J b q) x).1[w.1.size]? =some (.cells a 37 (0,0))/\E_ w (w'.setCell (J b q) x):=by have s:=(Aa.refl _ _).grown u (λx p _=>p);exact⟨((Aa.refl (λx=>x=b) w').setCell (p:=(J b q)) (λ_=>rfl) _).g (s.g k.cf (λf=>Ah r f k.cf v rfl)) O,(k.y.T (s.b k.y.size λx p=>(B_ r x p).1)).setCell (by show _<=b;omega) _⟩
def ga.b(b:ga w wr a n i j l g m h cb c d kvs e Ks Bb o):wr.ownsRow w.1.size 227 4 (.slice g i m) i ((zipWith Bs Ks kvs).flatten):=by
 have:=b.q.z.row.row
 rwa [b.q.z.a,b.len.1] at this
def ga.x(b:ga w wr a n i j l g m h cb c d kvs e Ks Bb o):wr.ownsRow w.1.size 25 1 (.slice h j cb) j e:=by
 have:=b.q.w.row
 rwa [length_map,b.len.2.1] at this
def ga.u(b:ga w wr a n i j l g m h cb c d kvs e Ks Bb o):wr.ownsRow w.1.size 3 1 (.slice c l d) l ((An o).map (int .i64)):=by
 have:=b.q.y;unfold Ad at this
 rwa [Aj,b.len.2.2] at this
def ga.A{u r k}(q:ga w wr a n i j l g m h cb c d kvs e Ks Bb o)(A:Ad wr w.1.size u k.e.g)(B:Bi wr w.1.size r k.e.c)(D:Bl (.slice c l d) u)(s:wr.grownBy w' (slice g i m).ownBlock)(E:w'.ownsRow w.1.size 227 4 (L_ f (i+1) p) (i+1) ((zipWith Bs Ks kvs).flatten++[.bool k.e.a,u,r,I k.d])):w'.cell? (J (w.1.size+1+1) 0)=some (P_ (w.1.size+1))/\w'.cell? (J (w.1.size+1) 1)=some (.slice g i m)/\w'.frozen? (J (w.1.size+1) 1)=false/\K (ga w (w'.setCell (J (w.1.size+1) 1) (L_ f (i+1) p)) a n (i+1) j l (some ⟨f,0,none⟩) p h cb c d (kvs++[(u,r)]) e (Ks++[k]) Bb o)/\∀{b r n t},wr.ownsRow b 3 1 r n t->(w'.setCell (J (w.1.size+1) 1) (L_ f (i+1) p)).ownsRow b 3 1 r n t:=by
 obtain⟨v,b,x⟩:=q.q.A (u:=(u,r)) A B D s (by rw[q.len.1];exact E);have⟨y,z⟩:=q.v q.b C s (b:=w.1.size+1) O 1 (L_ f (i+1) p);exact⟨n_ 0 x,n_ 1 b,R_ 1 _ 142 b,⟨v,y,z,by simp[q.len.1],q.len.2⟩,λt=>Al (World.ownsRow.kept t s (Ao q.b t C)) b C⟩
def ga.k{q B}(k:ga w wr a n i j l g m h cb c d kvs e Ks Bb o)(x:Ad wr w.1.size q (An B))(y:∀i,i<Bb.length->Bl (e.getD i Dd) q)(z:Bl (.slice c l d) q)(s:wr.grownBy w' (slice h j cb).ownBlock)(A:w'.ownsRow w.1.size 25 1 (L_ f (j+1) p) (j+1) (e++[q])):w'.cell? (J (w.1.size+1+1) 1)=some (.slice h j cb)/\w'.frozen? (J (w.1.size+1+1) 1)=false/\K (ga w (w'.setCell (J (w.1.size+1+1) 1) (L_ f (j+1) p)) a n i (j+1) l g m (some ⟨f,0,none⟩) p c d kvs (e++[q]) Ks (Bb++[B]) o):=by obtain⟨t,r⟩:=k.q.k x y z s (by rw[k.len.2.1];exact A);have⟨u,v⟩:=k.v k.x C s (b:=w.1.size+1+1) O 1 (L_ f (j+1) p);exact⟨n_ 1 r,R_ 1 _ 331 r,t,u,v,k.len.1,by simp[k.len.2.1],k.len.2.2⟩
def ga.B{z:Nat}(k:ga w wr a n i j l g m h cb c d kvs e Ks Bb o)(r:wr.grownBy w' (slice c l d).ownBlock)(x:w'.ownsRow w.1.size 3 1 (L_ f (l+1) p) (l+1) ((An o).map (int .i64)++[I z]))(v:(L_ f (l+1) p).ownBlock=(slice c l d).ownBlock∨(L_ f (l+1) p).ownBlock=some wr.1.size/\Below wr.1.size wr w'):w'.cell? (J (w.1.size+1+1) 2)=some (.slice c l d)/\w'.frozen? (J (w.1.size+1+1) 2)=false/\K (ga w (w'.setCell (J (w.1.size+1+1) 2) (L_ f (l+1) p)) a n i j (l+1) g m h cb (some ⟨f,0,none⟩) p kvs e Ks Bb (o++[z])):=by
 have⟨s,q⟩:=k.q.B (z:=z) r (Ad.E (by rw[Aj,k.len.2.2];exact x)) (v.imp_right And.left);have⟨t,u⟩:=k.v k.u C r (b:=w.1.size+1+1) O 2 (L_ f (l+1) p);exact⟨n_ 2 q,R_ 2 _ 331 q,s,t,u,k.len.1,k.len.2.1,by simp[k.len.2.2]⟩
end
structure FeS(a b:World)(d:Nat)(e f)(c:ES)(g:Int):Prop where
 o:fy b d c.a e f g
 w:Ad b a.1.size e c.g
 os:Bi b a.1.size f c.c
 y:E_ a b
 le:a.1.size<=d
section
variable {a b w':World} {fb:Nat} {vb vw:Value} {e:ES} {d:Int}
def FeS.r{b c d e}(g:Ad c a.1.size (.slice d b.length e) b)(f:E_ a c):FeS a (c.alloc (.cells #[.bool false,.slice d b.length e,Dd,I 0] 227)) c.1.size (.slice d b.length e) Dd ⟨false,b,[]⟩ 0:=⟨hn_,g.below q_,Bi.nil _ _,bt_ f q_,f.size⟩
def FeS.lt(c:FeS a b fb vb vw e d):fb<b.1.size:=c.o.cells.2.2
def FeS.below(c:FeS a b fb vb vw e d)(f:E_ b w'):FeS a w' fb vb vw e d:=⟨(f.block _ c.lt).T c.o,c.w.below f,c.os.below f,bt_ c.y f,c.le⟩
def FeS.put(c:FeS a b fb vb vw e d) f:FeS a (b.setCell (J fb 3) (I f)) fb vb vw e f:=⟨hs_ _ fb 3 _ 227 _ c.o,Al c.w c.o C,Al c.os c.o C,c.y.setCell c.le _,c.le⟩
def FeS.fill{c g}(f:FeS a b fb vb vw e d)(i:Bi b a.1.size g c.c)(k:c.g=[]):FeS a ((((b.setCell (J fb 0) (.bool c.a)).setCell (J fb 1) Dd).setCell (J fb 2) g).setCell (J fb 3) (I 0)) fb Dd g c 0:=by have j:=Aa.e b fb (.bool c.a) Dd g (I 0);exact⟨hs_ _ fb 3 _ 227 _ (hs_ _ fb 2 _ 227 g (hs_ _ fb 1 _ 227 Dd (hs_ b fb 0 _ 227 (.bool c.a) f.o))),k ▸ Ad.nil _ _,j.row i λl h e=>Ah i h f.o C e,f.y.T (j.b f.y.size λl h=>p_ f.le),f.le⟩
end
def Znt b d c:∃(g:Nat->List KS) (f:Nat->List (List Nat)) (h:Nat->List Nat),(g 0=[]/\f 0=[]/\h 0=[])/\(∀a,a<b+1->g (a+1)=g a++[⟨c a,Wv (c a) (zt d c a)⟩]/\f (a+1)=f a++[zt d c a]/\h (a+1)=h a++[Dp (Cx (zt d c a) (Wv (c a) (zt d c a)))])/\g (b+1)=Ev (yt b c) (Tg b d c) (b+1)/\f (b+1)=Tg b d c/\h (b+1)=(range (b+1)).map (Ic (In (yt b c) (Tg b d c) (b+1))):=by
 refine⟨Ev (yt b c) (Tg b d c),λa=>(Tg b d c).take a,λa=>(range a).map (Ic (In (yt b c) (Tg b d c) (b+1))),⟨rfl,rfl,rfl⟩,λa e=>⟨?_,?_,?_⟩,rfl,aI (by simp[Tg]),rfl⟩;rw[ZaH,kF,gm e,Pk e];show List.take _ _=_;rw[Qi (by simp[Tg];omega)];simp[Tg];simp only[range_succ,map_append,map_cons,map_nil,Ic];rw[Mw _ _ e,oF,gm e,Pk e]
def ZmG{e h f m g n a d}(c:Qv a)(l:a.a=e)(k:a=Ck Px e h f m g n):Ue ⟨a,d⟩:=by have i:=c.p;have j:=c.u;refine⟨i,j,λb=>?_,λb=>?_⟩<;>(simp only at b;rw[l] at b;show _=[];rw[k,Ck,b];rfl)
def Znx{a b}(d:Ue ⟨a,0⟩):(Wc b (a.g.length+a.c.length+2)).1=Wv a b:=by have c:=d.a;simp only[KS.a] at c;rw[c,Wv,ZlV _ O];simp
def ZiP{a:List Nat}{b}(c:a.length=b):Cp (λd=>((a.getD d 0:Nat):Int)) b b=An a:=by
 rw[Id,<- c];apply ext_getElem<;>simp[An,getD]
 grind
def Tf{c m:World}{d e k b i n f l a j o}(h:c.ownsRow d e k b i n)(g:m.ownsRow c.1.size f l a j o):Bl b a:=by
 have p:=B_ h;have q:=B_ g;unfold Bl
 cases s:b.ownBlock<;>cases r:a.ownBlock<;>grind
def Zis{b dd c a}(f:b.length=c)(d:a<c):Dp ((Cx b dd).take (a+1))=Dp ((Cx b dd).take a)+(if b.getD a 0=dd then 0 else 1)/\Dp ((Cx b dd).take a)<=a:=by
 have e:a<(Cx b dd).length:=(by simp[Cx];omega);rw[Qq _ e,Ot];have:=Tl ((Cx b dd).take a);rw[length_take] at this;have:(Cx b dd).getD a false=decide (b.getD a 0≠dd):=by simp[Cx,getD,f ▸ d]
 grind
structure MkO(b g:Nat)(c:List KS)(h:List (List Bool))(e:List (List Nat)):Prop where
 j:c.length=b+1
 o:e.length=b+1
 l:∀a,a<b+1->(e.getD a []).length=g
 x:∀a,a<b+1->Ue (c.getD a Ai)
 q:∀a,a<b+1->(c.getD a Ai).a<=18
 i:∀a,a<b+1->∀d,(e.getD a []).getD d 0<(c.getD a Ai).a
 k:∀a,a<b+1->(h.getD a []).length=g
 os:∀d,d<g->∀f,f<c.length->(h.getD f []).getD d false=sO c e f d
def Zox{d n e b p s}{o:Nat->Bool}{q:Nat->Int}(h:e.length=n)(r:∀a,b a=Ck Px (o a) (q a) p s (Bn e a) (Jj e))(i:∀a,a<d+1->Qv (b a)/\(b a).a=o a/\(b a).b<=16):MkO d n (Ev (yt d b) (Tg d e b) (d+1)) (In (yt d b) (Tg d e b) (d+1)) (Tg d e b):=by
 have hK:∀a,a<d+1->(Ev (yt d b) (Tg d e b) (d+1)).getD a Ai=⟨b a,Wv (b a) (zt e b a)⟩:=λa c=>by rw[Fy _ _ c,kF,gm c,Pk c]
 have l:∀a,a<d+1->(In (yt d b) (Tg d e b) (d+1)).getD a []=Cx (zt e b a) (Wv (b a) (zt e b a)):=λa c=>by rw[Mw _ _ c,oF,gm c,Pk c]
 have m:=Et (yt d b) (Tg d e b) (d+1);refine⟨m,by simp[Tg],λa c=>by rw[Pk c,Wr,h],λa c=>hK a c ▸ ZmG (i a c).1 (i a c).2.1 (r a),λa c=>by rw[hK a c];have:=(i a c).2.2;show(b a).b+2<=18;omega,λa c k=>?_,λa c=>by rw[l a c];simp[Cx,Wr,h],λk j g f=>?_⟩
 ·rw[hK a c,Pk c]
  by_cases j:k<e.length
  rw[Zih j];exact um _ _;rw[Qc,getElem?_eq_none (by rw[Wr];omega)];show 0<(b a).b+2;omega
 rw[m] at f;rw[sO,l g f,Pk f,hK g f];simp[Cx,getD,show k<(zt e b g).length by rw[Wr,h];exact j]
section
variable {m n:Nat} {Ks:List KS} {Os:List (List Bool)} {Bb:List (List Nat)} {Gs:List GS}
def MkO.F(g:MkO m n Ks Os Bb)(t:m+1<=4)(l:(∀k∈Gs,pl m n (m+1) Ks k)/\Gs.length<=m+1):pj n Ks (Gd Gs) ((Gd Gs).map λb=>Hi Ks Bb b n):=by
 have p:(Gd Gs).length=Gs.length:=(by simp[Gd]);have o:∀a,a<Gs.length->(Gd Gs).getD a []=(Gs.getD a Fj).fs/\((Gd Gs).map λb=>Hi Ks Bb b n).getD a []=Hi Ks Bb (Gs.getD a Fj).fs n/\pl m n (m+1) Ks (Gs.getD a Fj):=λa b=>⟨by simp[Gd,getD,b],by simp[Gd,getD,b],l.1 _ (by simp[getD,b])⟩;refine⟨s_,O,λa b=>?_,λa b f=>?_,λa b=>?_,λa b c e=>?_⟩<;>(simp only[length_map,p] at b;obtain⟨h,i,d⟩:=o a b);rw[i];simp[Hi]
 ·rw[i]
  by_cases q:f<n
  have j:=(ZcO (Ks:=Ks) (Bb:=Bb) (r:=f) (λc e=>by have j:=g.i c (d.fs c e) f;have r:=g.q c (d.fs c e);omega) _ (Qa (Gs.getD a Fj).fs.length)).1;rw[take_length] at j;have s:=d.len;have r:(Hi Ks Bb (Gs.getD a Fj).fs n).getD f 0=(ph Ks Bb f (Gs.getD a Fj).fs).1:=(by simp[Hi,getD,q]);omega;rw[Qc,getElem?_eq_none (by simp[Hi];omega)];simp
 rw[h];have:=d.len;omega;rw[h] at e;rw[g.j];exact d.fs c e
def MkO.c{c e}(d:MkO m n Ks Os Bb)(t:Ev e Bb (m+1)=Ks)(u:In e Bb (m+1)=Os)(s:Hs m Ks Os n c=Gs):∃(j:Nat->Nat->Bool) (h:Nat->Nat->Nat),(∀b a,exC j h b a=if Ir Ks (Gd Gs) ((Gd Gs).map λf=>Hi Ks Bb f n) b a≠(Bb.getD a []).getD b 0 then[⟨b,a,(Bb.getD a []).getD b 0⟩] else[])/\(gn j h (m+1) n).Perm (Bw m n c e Bb).q/\Eh (gn j h (m+1) n)/\(Bw m n c e Bb).h=Ks/\(Bw m n c e Bb).g.map BS.fs=Gd Gs/\(Bw m n c e Bb).g.map BS.N=(Gd Gs).map λf=>Hi Ks Bb f n:=by
 have o:=Xm (budget:=c) d.k (Ks:=Ks) (λa i=>p_ (d.q a i));have g:=kw m n c e Bb;have k:=Ox m Ks Os n c;have l:=Vt m Ks Os n c;unfold Bw at g ⊢;rw[t,u] at g ⊢;rw[s] at o g k l ⊢;have p:=ZiJ (p:=λb a=>decide (Ir Ks (Gd Gs) ((Gd Gs).map λf=>Hi Ks Bb f n) b a≠(Bb.getD a []).getD b 0)) (b:=λb a=>(Bb.getD a []).getD b 0) g (zh d.j k l d.i d.os);exact⟨_,_,λb a=>by simp[exC],p.1,p.2,uh Os Bb n Gs ⟨Ks,[],[]⟩,by simpa [Fl] using gg Os Bb n Ks Gs ⟨Ks,[],[]⟩,zg (λi r q v=>d.j ▸ ((o.1 i r).fs q v)) (λa i=>d.i a (d.j ▸ i)) d.os⟩
def ZfT{a}(c:a<Gs.length):((Gd Gs).map λb=>Hi Ks Bb b n).take (a+1)=((Gd Gs).map λb=>Hi Ks Bb b n).take a++[Hi Ks Bb (Gs.getD a Fj).fs n]/\(((Gd Gs).map λb=>Hi Ks Bb b n).take a).length=a:=by refine⟨?_,by rw[length_take];simp[Gd];omega⟩;rw[Qi (by simp[Gd];exact c)];simp[Gd,getD,c]
def ZmW{f l g n m a}(i:Mb f l (.slice g Gs.length n) m ((Gd Gs).map An))(j:a<Gs.length):∃c b e,g=some ⟨c,0,none⟩/\f.cell? (J c a)=some (.slice b (Gs.getD a Fj).fs.length e)/\NuV f b (Gs.getD a Fj).fs:=by
 have k:a<((Gd Gs).map An).length:=by simpa [Gd] using j
 have⟨c,q,b,e,o,h,_,p,_⟩:=i.at k;have d:=i.j a k;rw[p] at d;rw[show((Gd Gs).map An).getD a []=An (Gs.getD a Fj).fs by simp[Gd,getD,j],Aj] at h d;injection o with e1;exact⟨c,b,e,e1,h,d.e rfl⟩
def ZbE{g:World}{b c a e f n h}(d:g.ownsRow c a e f n h)(l:b<=c):g.ownsRow b a e f n h:=⟨d.1,d.2.imp_right λ⟨k,i,j,a,m,o⟩=>⟨k,i,j,a,aG l m,o⟩⟩
def Zlm{pp bb c a b d}(j:a<=200)(h:c<=4)(m:b<=c):yp (gn pp bb c a++vh pp bb a b) b a d=d/\(gn pp bb c a++vh pp bb a b).length<=1000000:=by
 refine⟨sb λk g f=>?_,?_⟩
 ·have i:(gn pp bb c a++vh pp bb a b).getD k Di∈gn pp bb c a++vh pp bb a b:=by rw[Qc,Qd g];exact Qf g
  rcases mem_append.1 i with e|e
  have:=(gy a).1 e;have:=f.1;omega;have:=(Xs b).1 e;have:=f.2;omega
 rw[Qe];have e:=ZeK pp bb c a;have i:=vi pp bb a b;have l:=Nat.mul_le_mul j h;omega
def MkX.bits{wr:World}{x q c n P M N Q R S H y Z X L i r}(b:MkX wr x q c n P M N Q R S H y Z X L)(e:i<X.length)(G:r<n):∃l p d o,∀a,Aa (λm=>m=c) wr a->a.cell? (J q 0)=some (P_ c)/\a.cell? (J q 1)=some (L_ l X.length p)/\a.cell? (J l i)=some (L_ d n o)/\a.cell? (J d r)=some (I ((X.getD i []).getD r 0:Nat)):=by
 have h:=b.v;have⟨l,p,T,o,w,t,_,z,⟨U,F⟩,_⟩:=b.w.at (i:=i) (by simpa using e);have D:(X.map An).getD i []=An (X.getD i []):=(by simp[getD,e]);have f:=b.w.j i (by simpa using e);rw[z] at f;rw[D,Aj,b.u i e] at t f;rw[length_map] at w;obtain⟨d,rfl,_,_,u,_⟩:=f.b (by rw[Aj];exact b.u i e) G;rw[Br] at u;have⟨W,B⟩:=Ac f (k:=d) rfl;have g:=b.r;subst w;have j:∀a k s,Aa (λm=>m=c) wr a->wr.cell? k=some s->k.block≠c->a.cell? k=some s:=λa k s A v E=>(cb_ (A.block _ (aJ _ _ v) E)).T v;exact⟨l,p,d,o,λa m=>⟨j a _ _ m (n_ 0 g) (h.o g C),j a _ _ m (n_ 1 g) (h.o g C),j a _ _ m t (h.o F C),j a _ _ m u (h.o B C)⟩⟩
end
def ZgQ(P c2 b f2 f L y:Nat) d2 H N k7 b9 k g o (h0:Dq o P 0 (f+1) N k7 b9)(f6:Wk o d2 b (f+1) k)(h6:ip k)(a8:b<=200)(f9:f+1<=4)(j7:y<=20)(j9:2<=L)(g1:L<=32)(h1:2<=H)(h2:H<=16)(h3:∀i,i<f+1->N i=true->1<=b9 i)(c3:∀i,g i=Ck Px (N i) (b9 i) H L (Bn k i) (Jj k))(h4:∀i,i<f+1->Qv (g i)/\(g i).a=N i/\(g i).b<=16):C_ 179 #[.agg #[.slice (some ⟨P,0,none⟩) (f+1) c2,.int .i64 H,.int .i64 L,.int .i64 y],.slice d2 b f2] o λj p=>∃a,j=.returned (.pointer (some ⟨a,0,none⟩))/\ij o p a b (Bw f b y (yt f g) (Tg f k g))/\Below o.1.size o p:=by
 have⟨j1,i9,j2,U,x⟩:=Znt f k g;generalize a6:f+1=n at *;have⟨m6,f5⟩:=ez_ (((o.alloc (.cells #[L_ P n c2,I H,I L,I y] 37)).alloc (.cells #[I b,Dd,Dd,Dd,Dd] 142)).alloc (.cells #[P_ (o.1.size+1),Dd,Dd] 331));have⟨e,c9,d0,c8,e6⟩:=y5_ (ga.r f5.s) f6.1 f6 h0 h6;have W:=x3_ c3 h4 h3;replace x:=Y x;replace a6:=Y a6;clear f6 h0 h6 c3 h4 h3;go_enter func179,ntmps179;go_upto_region 3 with fail;rw[f5];clear f5;go_loopw [6] (λm a=>∃(d:Nat) (e8:Option Addr) (f3:Nat) (e9:Option Addr) (b7:Nat) (f0:Option Addr) (f4:Nat) (d5:List (Value×Value)) (f1:List Value),m=.int .i64 d/\d<=n/\Hid (ga o a #[L_ P n c2,I H,I L,I y] b d d d e8 f3 e9 b7 f0 f4 d5 f1 (j1 d) (i9 d) (j2 d))) (λm _=>n-(intOf m).toNat)
 case atStart=>exact⟨0,_,_,_,_,_,_,_,_,rfl,r_,by rw[U.1,U.2.1,U.2.2];exact e⟩
 clear e U;obtain⟨d,e8,f3,e9,b7,f0,f4,d5,f1,rfl,a7,e⟩:=hrel;have b2:=n_ 0 e.cf;have i6:=n_ 1 e.cf;have i7:=n_ 2 e.cf;have iZ:=n_ 3 e.cf;have c4:=(Qb e.cf).1
 by_cases Q:d<n
 case neg=>
  obtain rfl:n=d:=O;rw[x.2.1,x.2.2.1,x.2.2.2] at e;obtain rfl:=a6.out;clear a6;have⟨w,a7⟩:=Y_ (Ev (yt f g) (Tg f k g) (f+1));have⟨h8,g0⟩:=Y_ (In (yt f g) (Tg f k g) (f+1));have⟨h,f8⟩:=Y_ (Hs f w h8 b y);have K:=Zox c9 W.1 W.2.1;rw[a7,g0] at K e;have⟨u,r,e2,e3⟩:=K.c a7 g0 f8;have X:=Xm (budget:=y) K.k (Ks:=w) (λi t=>p_ (K.q i t));have G:=e.q.h (by rw[K.j,K.o]) (λi t=>K.l i (K.o ▸ t)) (λi t=>K.x i (K.j ▸ t));have e4:=ZjS _ _ _ b f y _ Dd Dd _ _ d5 f1 _ _ _ wr G K.j a8 f9 j7 (λi t=>p_ (K.q i t)) K.k K.os;rw[f8] at X e4;have h7:=Y (K.F f9 X);have g6:=T_ e.cf e.y;have c4:=e.y.size;have k6:h.length<=4:=p_ X.2;replace G:=Y G;replace K:=Y K;replace X:=Y X;replace e2:=Y e2;replace e3:=Y e3;clear a7 g0 f8 e x W c8 e6 d0 c9
  generalize slice e8 (f+1) f3=b0,slice e9 (f+1) b7=g2,slice f0 (f+1) f4=l2 at *;generalize a6:f+1=n at *;obtain⟨g4,rfl⟩:=M_ wr;go_wp2_with fail
  apply e4.m;rintro _ M ⟨rfl,l1,i0,c0,D,a9⟩;have⟨a4,a5,c5⟩:=D.shape;rw[show((Gd h).map An).length=h.length by simp[Gd]] at c5;subst c5;replace G:=Y (G.h a9 c0);have U:Hid (CoI M M (o.1.size+1) b b0 (.slice a4 h.length a5) (.slice none 0 0) Dd [] []):=⟨Aa.refl _ _,c0,Mb.nil _ _,c0.lt⟩;replace D:=x3_ c0 D a9;have i5:=a9.size;clear c0 a9 e4;go_wp2_with fail
  go_loopw [12] (λm c=>∃(l:Nat) (Z:Option Addr) (a0:Nat) (d3:List Value),m=.int .i64 l/\l<=h.length/\Hid (CoI M c (o.1.size+1) b b0 (.slice a4 h.length a5) (.slice Z l a0) Dd d3 (((Gd h).map λa=>Hi w (Tg f k g) a b).take l))) (λm _=>h.length-(intOf m).toNat)
  case atStart=>exact⟨0,_,_,_,rfl,r_,U⟩
  clear U;obtain⟨l,Z,a0,d3,rfl,k8,j⟩:=hrel;have A:=G.h j.u j.v;have R:=D.2.1.h D.1 j.u;have v:=n_ 0 A.r;have e0:=n_ 2 j.v
  by_cases f7:l<h.length
  case neg=>
   obtain rfl:l=h.length:=O;rw[aI (by simp[Gd])] at j;generalize ((Gd h).map λa=>Hi w (Tg f k g) a b)=e1 at *;replace D:=D.2.2.T j.u;have g5:Hid (∀z,Aa (λs=>s=o.1.size+1) wr z->_):=λz m=>n_ 0 ((D.T m).g g6.1 O);have c:Hid (ExI wr wr (o.1.size+1) b b0 (.slice a4 h.length a5) (.slice Z h.length a0) Dd (gn u r n 0)):=⟨Aa.refl _ _,j.v,Wl.nil _ _ _ _,j.v.lt⟩;obtain⟨g3,rfl⟩:=M_ wr;replace A:=Y A;replace R:=T_ R D;clear G X D;go_wp2_with fail
   go_loopw [14] (λm p=>∃(a:Nat) (b1:Value),m=.int .i64 a/\a<=b/\Hid (ExI g3 p (o.1.size+1) b b0 (.slice a4 h.length a5) (.slice Z h.length a0) b1 (gn u r n a))) (λm _=>b-(intOf m).toNat)
   case atStart=>exact⟨0,_,rfl,r_,c⟩
   clear c v e0;obtain⟨a,b1,rfl,h5,c⟩:=hrel
   by_cases d4:a<b
   case neg=>
    obtain rfl:b=a:=O;have v:=n_ 0 (A.h c.u c.v).r;have c3:Hid (ij o wr (o.1.size+1) b (Bw f b y (yt f g) (Tg f k g))/\E_ o wr):=(by obtain⟨q,b5,t,E,F⟩:=e3;refine⟨⟨b0,.slice a4 h.length a5,.slice Z h.length a0,b1,d5,i0,d3,_,?_,q,b5⟩,g6.2.T ((R.2.T c.u).b c4 λs p=>O)⟩;rw[t,E,F];exact⟨c.v,(A.h c.u c.v).z,(R.1.h j.v c.u).m c4,(j.co.h j.v c.u).m (aG c4 i5),⟨ZbE c.q.row (aG c4 R.2.size),c.q.h⟩,(A.h c.u c.v).x,le_succ _⟩);go_wp2;go_ret;exact⟨_,rfl,c3.1,c3.2⟩
   have b2:=g5 wr c.u;rw[<- append_nil (gn u r n a)] at c;have⟨k3,k4⟩:=F_ a b;go_wp2_with fail
   rename_i l3;go_loopw [15] (λm p=>∃(i:Nat) (b1:Value),m=.int .i64 i/\i<=n/\Hid (ExI g3 p (o.1.size+1) b b0 (.slice a4 h.length a5) (.slice Z h.length a0) b1 (gn u r n a++vh u r a i))) (λm _=>n-(intOf m).toNat)
   case atStart=>exact⟨0,_,rfl,r_,c⟩
   clear c b2;obtain⟨i,b1,rfl,t,c⟩:=hrel;have b2:=g5 wr c.u
   by_cases k9:i<n
   case neg=>
    obtain rfl:n=i:=O;go_wp2;go_roundw;case rel=>exact⟨a+1,_,g_,O,c⟩
    case measure=>exact z_
   have⟨g9,i2⟩:=Zlm (pp:=u) (bb:=r) (d:=Ir w (Gd h) e1 a i) (aG h5 a8) (a6 ▸ f9) t;have e5:=lu _ b a i w (Gd h) e1 _ wr ⟨(A.h c.u c.v).view.i,⟨_,n_ 2 c.v,(R.1.h j.v c.u).view⟩,⟨_,n_ 3 c.v,(j.co.h j.v c.u).view⟩,⟨_,n_ 4 c.v,XsV.E c.q⟩⟩ h7 d4 (p_ K.j) i2;rw[g9] at e5;have⟨l0,k1,k5,k0,b8⟩:=A.bits (i:=i) (p_ K.o) d4;have⟨v,c1,g7,g8⟩:=b8 wr c.u;have T:gn u r n a++vh u r a (i+1)=gn u r n a++vh u r a i++exC u r a i:=(by simp[vh]);rw[e2 a i] at T;replace T:=Y T;replace b8:=Y b8;have⟨i4,j3⟩:=F_ i n;have k2:=(F_ i (Tg f k g).length (p_ K.o)).2;clear g9;generalize gn u r n a++vh u r a i=e7 at *;generalize Ir w (Gd h) e1 a i=j6,((Tg f k g).getD i []).getD a 0=b6 at *;go_wp2_with fail
   apply e5.m;rintro _ c7 ⟨rfl,q⟩;have E:=X_ v;have b3:=X_ c1;have b4:=X_ g7;have F:=X_ g8;replace c:=Y (c.below q);clear q e5 v c1 g7 g8 b2
   cases s:j6==(b6:Int)
   case true=>
    rw[aC (p_ (beq_iff_eq.1 s)),append_nil] at T;go_wp2;go_roundw;case rel=>exact⟨i+1,_,g_,O,T ▸ c⟩
    case measure=>exact z_
   rw[aD (p_ (beq_eq_false_iff_ne.1 s))] at T;have⟨h9,i1,c5⟩:=c.q.shape;rw[length_map] at c5;subst c5;have S:=n_ 4 c.v;have g1:=c.u.size
   have b5:Hid (∀a2,(c7.alloc a2).drew.ownsRow g3.1.size 231 3 (.slice h9 e7.length i1) e7.length ((e7.map Ct).flatten)):=λa2=>by
    have:=(c.below (q_ (o:=a2)).drew).q.row
    rwa [length_map] at this
   go_upto_region 37 with fail;refine Af (λp=>p.cell? _=some _/\p.cell? _=some _/\p.cell? _=some _/\p.cell? _=some _/\p.cell? _=some _) 28 k_ ⟨E,S,b3,b4,F⟩ λhHeld=>?_;refine K_ ?_;refine on_ 24 λKK hK=>?_;go_simp;refine hK _ _ ⟨X_ E,X_ S,X_ b3,X_ b4,X_ F⟩ λhHeld=>?_;clear hK KK E S b3 b4 F;try simp only[Act.put,tA_,tB_,tC_]
   refine on_ 25 λKK hK=>?_;refine aq_ [I a,I i,I b6] (b5 _) ?_;rintro j8 a3 ⟨c6,a1,_,_,j4,j0,rfl⟩;have⟨d1,p⟩:=(c.below q_.drew).E (x:=⟨a,i,b6⟩) a1 c6;rw[<- T] at d1;replace d1:=Y d1;have⟨d6,d7,d8,d9⟩:=b8 a3 ((c.below q_.drew).u.grown a1 λd a7 i3=>p_ (B_ c.q.row d a7).1);have j5:=n_ 4 p;have i3:=R_ 4 _ 142 p;clear c6 a1 p c b5 b8;refine hK _ _ ⟨d6,j5,d7,d8,d9⟩ λhHeld=>?_;clear hK KK;refine K_ ?_;refine le_ ?_;go_wp2;go_roundw;case rel=>exact⟨i+1,_,g_,O,d1⟩
   case measure=>exact z_
  obtain⟨e5,b1,d6,rfl,b7,b3⟩:=ZmW R f7;have m:=X.1 (h.getD l Fj) (by simp[getD,f7]);have⟨s,S⟩:=ZfT (Ks:=w) (Bb:=Tg f k g) (n:=b) f7;have z:=Zbk _ _ b d6 b1 _ w (Tg f k g) wr A.view b3 (λc p=>K.j ▸ m.fs c p) a8 (p_ m.len) (λc p a=>oj_ (K.q c (m.fs c p)) (K.i c (m.fs c p) a));have d4:(Hi w (Tg f k g) (h.getD l Fj).fs b).length=b:=(by simp[Hi]);replace s:=Y s;clear R A m b3;generalize ((Gd h).map λa=>Hi w (Tg f k g) a b).take l=b4 at *;generalize Hi w (Tg f k g) (h.getD l Fj).fs b=b8 at *;generalize (h.getD l Fj).fs.length=d7 at *;have⟨d8,d9⟩:=F_ l h.length;go_wp2_with fail
  apply z.m;rintro _ c7 ⟨e7,rfl,a,q⟩;obtain⟨d1,e1,rfl⟩:=a.shape;rw[Aj,d4] at a ⊢;have T:=Y (λi (t:i<b4.length)=>Tf (j.co.j i (by rw[length_map];exact t)) a);replace a:=Y (a.m j.u.size);replace j:=Y (j.below q);have E:=n_ 0 (G.h j.u j.v).r;have F:=n_ 3 j.v;have g1:=j.u.size
  have b5:Hid (∀a2,(c7.alloc a2).drew.ownsRow M.1.size 25 1 (.slice Z l a0) l d3):=λa2=>by
   have:=(j.below (q_ (o:=a2)).drew).co.row
   rwa [length_map,S] at this
  clear v e0 z q b7;go_upto_region 28 with fail;refine Af (λp=>p.cell? _=some _/\p.cell? _=some _) 16 k_ ⟨E,F⟩ λhHeld=>?_;refine K_ ?_;refine on_ 12 λKK hK=>?_;go_simp;refine hK _ _ ⟨X_ E,X_ F⟩ λhHeld=>?_;clear hK KK E F;try simp only[Act.put,tA_,tB_,tC_]
  refine on_ 13 λKK hK=>?_;refine aq_ [.slice d1 b e1] (b5 _) ?_;rintro j8 a3 ⟨c6,a1,_,_,j4,j0,rfl⟩;obtain⟨c,p⟩:=(j.below q_.drew).E (N:=b8) (a.below q_.drew) T a1 (by rw[S];exact c6);rw[<- s] at c;replace c:=Y c;have b6:=n_ 0 (G.h ((j.below q_.drew).u.grown a1 λt c1 i3=>by have:=(B_ j.co.row t c1).1;omega) p).r;have t:=n_ 3 p;have i3:=R_ 3 _ 142 p;clear c6 a1 p j a b5;refine hK _ _ ⟨b6,t⟩ λhHeld=>?_;clear hK KK;refine K_ ?_;refine le_ ?_;go_wp2;go_roundw;case rel=>exact⟨l+1,_,_,_,g_,O,c⟩
  case measure=>exact z_
 have g9:=c8.lt O;have a2:wr.cell? (J P (d*3))=some (.bool (N d)):=kd_ e.y (by simpa using c8.v d Q) g9;have b5:wr.cell? (J P (d*3+2))=some (I (b9 d)):=kd_ e.y (by simpa using c8.q d Q) g9;have u:=W.1 d;unfold Ck at u;have⟨a0,j0⟩:=Z_ (W.2.1 d Q) (W.2.2 d Q);have b8:=xu d2 b n f2 d L H y (some ⟨P,0,none⟩) n c2 k wr (d0.below e.y) Q e6 a8 j9 g1 h1 h2;obtain⟨g4,rfl⟩:=M_ wr;go_wp2_with fail
 apply b8.m;rintro j M ⟨d1,e1,rfl,h8,f8⟩;clear b8;generalize Ey (Bn k d) (Jj k) H L=k2 at *;have c:=Y (FeS.r h8 f8);go_upto_region 6 with fail;generalize M.alloc (.cells #[.bool false,.slice d1 k2.length e1,Dd,I 0] 227)=i5 at *;have E:=X_ b2 c.y;have b3:=X_ i6 c.y;have b4:=X_ i7 c.y;have F:=X_ iZ c.y;have S:=X_ a2 c.y;clear h8;go_upto_if 40 with fail
 go_cut [7] (λm a=>m=.pointer (some ⟨M.1.size,0,none⟩)/\∃g2 i3,Hid (FeS g4 a M.1.size g2 i3 (g d) 0))
 case first=>
  cases r:N d with
  | false=>
   rw[r] at S;rw[r,aC C] at u;rw[<- u] at c;clear u a2;go_wp2;go_meet
   exact⟨rfl,_,_,c⟩
  | true=>
   rw[r] at S;have h:=ZdN d2 b n f2 d H L y (b9 d) P c2 k i5 (d0.below (bt_ e.y c.y)) Q e6 a8 h1 h2 (X_ b5 c.y) (j0 r);rw[r,aD rfl] at u;have G:(g d).g=[]:=u ▸ rfl;rw[<- u] at h;clear a2;go_wp2_with fail
   apply h.m;rintro j A ⟨m,p,rfl,a,l⟩;replace a:=Y (a.c c.y.size);replace c:=c.below l;have⟨⟨t,v,w,z⟩,h9,_⟩:=c.o.cells;replace c:=Y (c.fill a G);clear h a l E b3 b4 F S u;have c:Hid (∀N,N=(g d).a->_):=λN s=>s ▸ c;generalize (g d).c.length=q at *;go_wp2;go_meet
   exact⟨rfl,_,_,c _ (by rw[a0.2.1,r])⟩
 clear E b3 b4 F S b2 i6 i7 iZ a2 b5 u c i5 f8;obtain⟨rfl,g2,i3,c⟩:=hcut;obtain⟨b1,c5,rfl⟩:=c.w.shape;obtain⟨c0,c6,rfl⟩:=c.os.a;have⟨A,b0⟩:=Z_ (ZmG (d:=0) a0.1 a0.2.1 (W.1 d)) (λa (s:a<b)=>Zih (E:=g) (i:=d) (c9.s ▸ s));have D:(zt k g d).length=b:=Wr.T c9;replace x:=Y (x.1 d Q);have⟨⟨d6,d7,d8,d9⟩,_,l6⟩:=c.o.cells;have l7:=c.le;have k0:=c.y.size;generalize M.1.size=g5 at *;generalize zt k g d=B at *;generalize g d=j at *;have j8:=Gf b O;have Z:=Ge b wc wc.1.size O x_;rw[<- Ie (λa=>((B.getD a 0:Nat):Int))] at Z;replace Z:=Y Z;go_wp2_with fail
 go_loopw [9] (λm h=>∃a:Nat,m=.int .i64 a/\a<=b/\Hid (Ad h wc.1.size (L_ wc.1.size b b) (Cp (λa=>((B.getD a 0:Nat):Int)) b a))/\Hid (E_ wc h)) (λm _=>b-(intOf m).toNat)
 case atStart=>exact⟨0,rfl,r_,Z,q_⟩
 clear j8 Z;obtain⟨a,rfl,d4,h,l⟩:=hrel;have l:=l.out
 by_cases w:a<b
 case neg=>
  obtain rfl:b=a:=O;rw[ZiP D] at h;have e5:Hid (∀z,E_ wr z->_):=λz a4=>Zbq (some ⟨wc.1.size,0,none⟩) b b (j.g.length+j.c.length+2) B z ((h.below a4).m r_) D a8 (by have:=A.a;have:=a0.2.2;simp only[KS.a] at *;omega);rw[Znx A] at e5;have g3:=Ke b1 c0 j.g.length j.c.length c5 c6 j.a 0 wr A.1 A.2.1;replace c:=c.below l;have⟨⟨d6,d7,d8,d9⟩,_⟩:=c.o.cells;replace c:=Y c;generalize Wv j B=m at *;obtain⟨m8,rfl⟩:=M_ wr;clear b0;go_wp2_with fail
  apply g3.m;rintro _ c7 ⟨rfl,q⟩;go_wp2_with fail
  apply (e5 _ q).m;rintro _ l2 ⟨rfl,rfl⟩;replace c:=c.below q;have⟨⟨k8,a9,k9,l0⟩,h9,_⟩:=c.o.cells;replace h:=Y (Al (j:=3) (u:=I m) ((h.below q).m k0) c.o C);replace c:=Y (c.put m);clear g3 e5 d6 d7 d8 d9 q l;go_upto_region 16 with fail;generalize l2.setCell (J g5 3) (I m)=a3 at *;clear k8 a9 k9 l0 h9;go_loopw [10,11] (λr p s=>∃(a a1:Nat),p=.int .i64 a/\a<=b/\r=.int .i64 (Dp ((Cx B m).take a):Nat)/\s=a3.drewN a1) (λ_ p _=>b-(intOf p).toNat)
  case atStart=>exact⟨0,0,rfl,r_,rfl,rfl⟩
  obtain⟨a,a1,rfl,h5,rfl,rfl⟩:=hrel
  by_cases w:a<b
  case pos=>
   have r:=(Ad.c h (by rw[Aj,D]) w).1;rw[Br] at r;have⟨p,R⟩:=Zis (dd:=m) D w;replace p:=Y p;generalize B.getD a 0=t at *;generalize Dp ((Cx B m).take a)=G at *;have v:=F_ a b;have T:=c.o.cells.1.2.2.2
   cases s:t==(m:Int)
   case' false=>rw[aC (p_ (beq_eq_false_iff_ne.1 s))] at p
   case' true=>rw[aD (p_ (beq_iff_eq.1 s))] at p
   all_goals
    go_upto_region 18 with fail;go_quiet (fail);go_wp2;go_roundw;case rel=>exact⟨a+1,_,g_,O,by rw[p];go_num,by first|rfl|simp⟩
    case measure=>exact z_
  obtain rfl:b=a:=O;rw[aI (by simp[Cx,D])];have k1:=Tl (Cx B m);rw[show(Cx B m).length=b by simp[Cx,D]] at k1;generalize Dp (Cx B m)=l3 at *;have g0:E_ a3 (a3.drewN a1):=below_drewN y_ _;generalize a3.drewN a1=m7 at *;have T:=x4_ (Tf e.u c.w) (Tf e.u h) (λi t=>Tf (e.q.w.j i (by rw[length_map];exact t)) h) (λt c1=>(B_ e.b t c1).2);have r:=e.y.size;replace c:=Y (c.below g0);replace h:=Y ((Ad.below h g0).m r);replace e:=Y (e.below c.y);have⟨⟨t,G,R,X⟩,_⟩:=c.o.cells;have v:=n_ 0 e.q.r;have a5:=n_ 1 e.q.v;have h7:=e.y.size;generalize g8:j.a=e3,j.g.length=d3,j.c.length=e2 at *;go_upto_region 20 with fail
  refine Af (λp=>p.cell? _=some _/\p.cell? _=some _/\p.cell? _=some _/\p.cell? _=some _/\p.cell? _=some _/\p.cell? _=some _) 16 k_ ⟨v,a5,t,G,R,X⟩ λhHeld=>?_;refine K_ ?_;refine on_ 12 λKK hK=>?_;go_simp;refine hK _ _ ⟨X_ v,X_ a5,X_ t,X_ G,X_ R,X_ X⟩ λhHeld=>?_;clear hK KK v a5 t G R X;try simp only[Act.put,tA_,tB_,tC_]
  refine on_ 13 λKK hK=>?_;refine aq_ [.bool e3,.slice b1 d3 c5,.slice c0 e2 c6,I m] (e.below q_.drew).b ?_;rintro m2 i4 ⟨i2,e4,_,_,k6,k4,rfl⟩;have⟨b6,c1,j5,p,f7⟩:=(e.below q_.drew).A (k:=⟨j,m⟩) ((c.below q_.drew).w.m r) ((c.below q_.drew).os.c r) T.1 e4 (g8 ▸ i2);have e7:fy i4 g5 e3 (.slice b1 d3 c5) (.slice c0 e2 c6) m:=((Aa.refl _ _).grown e4 λ_ s _=>s).g (g8 ▸ (c.below q_.drew).o) λs=>p_ (T.2.2.2 _ s);have⟨⟨t,G,R,X⟩,_⟩:=e7.cells;replace h:=Y (f7 (Ad.below h q_.drew));clear i2 e4 e7 f7 e c;refine hK _ _ ⟨b6,c1,t,G,R,X⟩ λhHeld=>?_;clear hK KK;refine K_ ?_;refine le_ ?_;clear b6 c1 j5 t G R X hHeld;generalize i4.setCell (J (o.1.size+1) 1) (L_ k6 (d+1) k4)=m3 at *;have v:=n_ 1 p.q.r;have h7:=p.y.size
  go_wp2_with (at_builtin;refine ap_ [L_ wc.1.size b b] (p.below q_).x ?_)
  rintro m0 l1 ⟨i0,g6,_,_,k5,k3,rfl⟩;have⟨j3,j6,e⟩:=(p.below q_).k (B:=B) (Ad.below h q_) T.2.2.1 T.2.1 g6 i0;clear i0 g6 p h T v;go_upto_region 22 with fail;generalize l1.setCell (J (o.1.size+1+1) 1) (L_ k5 (d+1) k3)=m4 at *;have e0:=n_ 2 e.q.r;have h7:=e.y.size;clear j3 j6;go_wp2_with (at_builtin;refine ap_ [I l3] (e.below q_).u ?_)
  rintro m1 m5 ⟨i1,g7,j4,_,l9,l8,rfl⟩;have⟨l4,l5,e⟩:=(e.below q_).B g7 i1 (by simpa using j4);rw[<- x.1,<- x.2.1,<- x.2.2] at e;clear i1 g7 e0;go_wp2;go_roundw;case rel=>exact⟨d+1,_,_,_,_,_,_,_,_,g_,O,e⟩
  case measure=>exact z_
 rcases(d0.below (bt_ e.y c.y)).2 with G|⟨s,rfl,p⟩
 omega;have⟨_,e0,c1,X,_,R⟩:=p a w;have⟨a1,a3,a9⟩:=R d Q;have i4:=aJ _ _ X;have j3:=aJ _ _ a1;have m:Hid (∀z,E_ wc z->_):=λz a4=>ZjR g4.1.size _ _ 0 j ((k.getD a lr).2.getD d Aw) z (c.below a4).w (c.below a4).os a0.1 A.2.2.1 A.2.2.2;rw[<- b0 a w] at m;have T:=Y (Jz (λa=>((B.getD a 0:Nat):Int)) w);have r:=Y (Fd (λa=>((B.getD a 0:Nat):Int)) d4).s;clear p R;generalize (k.getD a lr).2.getD d Aw=t at *;obtain⟨e5,e7,f7⟩:=t;generalize Cp (λa=>((B.getD a 0:Nat):Int)) b a=e4 at *;generalize B.getD a 0=b6 at *;generalize j.a=e3,j.g.length=d3,j.c.length=e2 at *;go_upto_region 12 with fail;refine rg_ wc 13 λhHeld=>?_;refine K_ ?_;refine oc_ 11 (m _ l.drew) ?_;rintro _ c7 ⟨rfl,q⟩
 replace h:=h.below (bt_ y_.drew q);have⟨v,a5⟩:=Ad.c h r w;replace h:=Y (Ad.put (k:=a) h r b6).1;rw[T] at h;replace l:=bt_ l.drew q;clear m b0;refine⟨_,rfl,l,λhHeld=>K_ ?_⟩;refine le_ ?_;go_wp2;go_roundw;case rel=>exact⟨a+1,g_,O,h,l.setCell x_ _⟩
 case measure=>exact z_
end Go.Proofs.YtfcgnpchbcmdeaaGreat
