import Derived.Test.YtfcgnpchbcmdeaaGreatZobm
namespace Go.Proofs.YtfcgnpchbcmdeaaGreat
set_option linter.all false
set_option maxRecDepth 100000
set_option maxHeartbeats 8000000
open Go.RowKit List Nat World Go.Proofs.Tryz Value IntKind Lib Region
def Zki g c h f U d w (j:Hp w g c h f)(l:∀L∈h,cm U L)(p:f<=9000000)(r:U.length<=2097152)(a:OpR w d)(q:d.vl<=2097152)(t:d.d<=2097152)(n:∀z∈d.o,Gj z∈U)(k:d.a=2):C_ 41 #[P_ g,.agg #[I d.a,I d.n,I d.w,V d.c d.A d.e,I d.k,I d.size,I d.b,V d.i d.vl d.h,V d.j d.d d.l,Q_ d.g,I d.x,I d.y]] w λe w'=>cp U g c f w e w':=by
 have i:=j.lt;rw[k];have b:K (Below _ w (w.alloc (O_ #[I d.a,I d.n,I d.w,V d.c d.A d.e,I d.k,I d.size,I d.b,V d.i d.vl d.h,V d.j d.d d.l,Q_ d.g,I d.x,I d.y] 93))):=q_;rw[k] at b;have o:=hdc (Zd2 g c h f U d.n d.w d.c d.A d.e d.k d.size d.b d.i d.vl d.h _ _ d.l d.g d.x d.y _ _ _ (j.below b) l p r (Ex a.o b (Tr a.o)) (Ex a.p b (Tr a.p)) a.e a.g q t n);clear j l a n k;refine v_ ?_;go_wp2_with fail
 refine o.m ?_;rintro e w' m;have s:=Y (m.b b i);obtain⟨rfl,_⟩:=m;go_wp2;go_ret;exact s
def Zcf(w wc:World)(g:Nat)(arr:Array Value)(k:Nat)(wr:World):Prop:=Bq (gZ g w.1.size) wr g (5*k) (25*k) k/\De (gZ g w.1.size) wc wr/\yz wr w.1.size arr
def Zcf.next{w wc wr w2 g k arr}{d:OpD}(h:Zcf w wc g arr k wr)(hE:Bq (gZ g w.1.size) w2 g (5*k+5) (25*k+d.g.size) (k+1))(hK:De (gZ g w.1.size) wr w2)(hd:d.g.size<=25):Zcf w wc g arr (k+1) w2:=
 ⟨hE.E O O x_,h.2.1.T hK,h.2.2.kept hK⟩
def ZaA g (B:Int) c w (h7:7<=B)(a4:B<=14)(u:Hp w g c [] 0)(hc:∀j,j<12->c[j]? =some (N_)):C_ 40 #[P_ g,I B] w λe w'=>e=.returned (.bool true)/\Bq (λk=>k<g) w' g 30 150 6/\Below g w w':=by
 have⟨HS,HC⟩:=Z_ u hc;have y:=u.lt;clear u hc;refine v_ ?_;go_upto_region 1 with fail;go_cut [5] (λv wx=>v=.slice (some ⟨w.1.size+4,0,none⟩) 6 6/\Zmm w wx/\∃b,yz wx w.1.size b)
 case first=>
  go_wp2;go_meet
  refine⟨rfl,?_,?_⟩
  ·refine⟨?_,?_,?_,?_,?_,?_,?_,?_,?_,?_,?_,?_,?_,?_,?_,?_,?_,?_,?_,?_,?_,?_,?_,?_,?_⟩;exact(((q_.alloc u_ _).alloc u_ _).alloc u_ _).alloc u_ _;simp
   all_goals go_simp
  refine⟨_,?_,?_,iw _ _ _ s_,λk h1 h5=>?_⟩;exact(hc_ s_).T ((hc_ s_).T (iw _ _ _ s_));exact(hc_ s_).T (iw _ _ _ s_)
  rcases(show k=1∨k=2∨k=3∨k=4∨k=5 by omega) with rfl|rfl|rfl|rfl|rfl<;>rfl
 obtain⟨rfl,G,b,hB⟩:=hcut;have⟨HG,m,f⟩:=y3_ G hB G.B;clear hB;obtain⟨_,a5,k0,_,_,_,_,_,f1,f2,f3,f4,f5,f6,f7,f8,f9,A,q,_,_,_,_,_,_⟩:=G;go_wp2_with fail
 go_loopw [6] (λi wr=>∃k:Nat,k<=6/\i=.int .i64 k/\K ((k=0/\wr=wc)∨(0<k/\Zcf w wc g b k wr))) (λi _=>6-(intOf i).toNat)
 grind
 obtain⟨k,p,rfl,t⟩:=hrel
 by_cases h0:k=0
 ·subst h0
  obtain rfl:wr=wc:=by
   rcases t.out with h|h
   exact h.2;omega
  go_wp2_with fail
  refine(Zki g c _ 0 [5,3] _ _ (HS.below f) s_ O s_ (qo HG) (by simp[Hl]) (by simp[Hl]) (λz hz=>by
   simp[Hl] at hz
   rcases hz with rfl|rfl|rfl
   exact mem_cons_self;exact mem_cons_of_mem _ mem_cons_self
   exact mem_cons_self) rfl).m ?_
  rintro e Q s;obtain rfl:e=.returned (.bool true):=s.1;have a:K (Zcf w wr g b 1 Q):=(by have⟨q1,N⟩:=Zaz s f m HC;exact⟨q1.E O O O,N,m.kept N⟩);clear s;go_wp2;go_roundw
  grind
  exact z_
 have a:K (Zcf w wc g b k wr):=by
  rcases t.out with h|h
  omega;exact h.2
 clear k0 f1 f2 f3 f4 f5 f6 f7 f8 f9 A q t
 by_cases h6:k=6
 ·subst h6;have HF:K (Bq _ _ g 30 150 6/\_):=⟨a.1.sub (λk p=>.inl p),(f.m (Nat.le_of_lt y)).T (a.2.1.A (λk p=>.inl p) O)⟩;clear a;go_wp2;go_ret;exact⟨rfl,HF⟩
 have⟨r,Z,R,F,X,U,H,W,S,P,n,o⟩:=Znz a.2.2.op (a.2.2.g k O O);have a3:0<=(k:Int):=O;have a6:(k:Int)<6:=O
 by_cases h5:k=5
 ·subst h5;have d0:wr.cell? ⟨_,60,_⟩=some (.int _ 15):=r;have x:K (Zcf w _ g _ 6 _):=⟨a.1.E O O O,a.2⟩;clear r Z R F X U H W S P n o a;go_wp2
  grind [intOf]
 have⟨T,D,L,E,r5⟩:=a.2.2.a (k:=k) O O;have l:=x4_ T D L E;clear T D L E;generalize jy w.1.size k=d at *;go_wp2_with fail
 refine(Zkh _ g _ _ k d _ a.1 O O (p_ l.2.2.1) l.1 (p_ l.2.1) l.2.2.2 O).m ?_;rintro e Q ⟨rfl,M,hK⟩;have x:=Y (a.next M hK l.2.2.1);clear M hK r Z R F X U H W S P n o a l;go_wp2;go_roundw
 grind
 exact z_
def ZhX(hi:Int):Prop:=∀Z g N L R d w,Bq Z w g N L R->R<=10000000->N<=10000000->L+d.g.size<=200000000000000->OpR w d->d.A<=2097152->d.g.size<=2000000->5<=d.a->d.a<=hi->
  C_ 41 #[P_ g,.agg #[I d.a,I d.n,I d.w,V d.c d.A d.e,I d.k,I d.size,I d.b,V d.i d.vl d.h,V d.j d.d d.l,Q_ d.g,I d.x,I d.y]] w λe w'=>e=.returned (.bool true)/\Bq Z w' g (N+5) (L+d.g.size) (R+1)/\De Z w w'
structure uf(len)(D:Nat->OpD):Prop where
 a:len<=1048576
 A:∀i,i<len->(D i).A<=1048576
 g:∀i,i<len->(D i).g.size<=1048576
def Zek(g k:Nat)(W w:World):Prop:=Bq (λk=>k<g) w g (30+5*k) (150+1048576*k) (6+k)/\Below g W w
def ze(g N L k:Nat)(W w:World)(v1 v2:Value)(rs:List RP)(ds:List Nat):Prop:=(∃o c,Dx (λk=>k<g) w o g c (N+6000*k) L v1 v2 rs ds)/\Below g W w
def ze.next{g N L k d W w l j f b}(h:ze g N L k W w l j f b)(m:N+6000*k<=9000000)(r:b[k]? =some d)(y:g<=w.1.size):C_ 42 #[P_ g,P_ d] w λe w'=>e=.returned (.bool true)/\ze g N L (k+1) W w' l j f b:=by obtain⟨⟨o,c,a⟩,v⟩:=h;have⟨G,Q,H,i,n,D,F,P,M,E,B,p,u,X,t,A⟩:=a.x d (mem_of_getElem? r);refine(ZkX (Gv.a a.p y_ a.D x_) m t C C A).m (λ_ _ q=>⟨q.1,?_⟩);have⟨⟨z,x,s⟩,hK⟩:=a.l q.2;exact⟨⟨z,x,w_⟩,v.T (hK.A (λ_ h=>h) y)⟩
def Zbf r a f H D w (B:ZhX r)(h7:7<=r)(F:r<=14)(E:gd w a f D)(T:uf f D):C_ 15 #[V a f H,I 5,I r] w (U_ (.bool true) w):=by
 obtain⟨_,E⟩:=E;have a4:=T.a;have⟨X,v,S⟩:=y3_ T E B;clear E T B;have HN:=Y (Zhd w);have y:K (Below _ w (w.alloc (O_ #[N_,N_,N_,N_,N_,N_,N_,N_,N_,N_,N_,N_,I 0] 90))):=q_;refine v_ ?_;go_wp2_with fail
 refine(ZaA _ r _ _ h7 F HN (λj hj=>by rcases(show j=0∨j=1∨j=2∨j=3∨j=4∨j=5∨j=6∨j=7∨j=8∨j=9∨j=10∨j=11 by omega) with rfl|rfl|rfl|rfl|rfl|rfl|rfl|rfl|rfl|rfl|rfl|rfl<;>rfl)).m ?_;rintro e w1 ⟨rfl,U,l⟩;have R:K (Zek _ 0 w _):=⟨U,y.T l⟩;clear HN y U l;go_wp2_with fail
 go_loopw [9] (λi wr=>∃k:Nat,k<=f/\i=.int .i64 k/\K (Zek w.1.size k w wr)) (λi _=>f-(intOf i).toNat)
 grind
 obtain⟨k,hk,rfl,n⟩:=hrel;clear R
 by_cases hlt:k<f
 ·rcases v.out with h0|⟨b,aB,rfl,l,hC⟩
  omega;have⟨z,s⟩:=hC k hlt;have⟨c0,c1,c2,c3,c4,c5,c6,c7,c8,c9,A,t⟩:=z.below n.2 l;have HR:=Y (s.below n.2);have aA:=X.A k hlt;have a6:=X.g k hlt;clear z s hC
  by_cases hkd:5<=(D k).a/\(D k).a<=r
  ·obtain⟨Q,N⟩:=hkd;go_wp2_with fail
   refine(S _ _ _ _ _ _ _ n.1 O O O HR O O Q N).m ?_;rintro e w2 ⟨rfl,hE,hK⟩;have R:K (Zek _ (k+1) w _):=⟨hE.E O O O,n.2.T (hK.A (λ_ h=>h) n.2.size)⟩;clear c0 c1 c2 c3 c4 c5 c6 c7 c8 c9 A t hE hK n;go_wp2;go_roundw
   grind
   exact z_
  have R:K (Zek _ (k+1) w _):=⟨n.1.E O O O,n.2⟩;clear c1 c2 c3 c4 c5 c6 c7 c8 c9 A t;go_wp2
  all_goals
   grind [intOf]
 obtain⟨⟨o,c,v1,v2,rs,m,g,a8,a5⟩,l⟩:=n;obtain⟨M,Z,rfl,hq⟩:=My g.u;rw[length_map] at *;have p:K (ze _ (_+_) _ 0 w _ _ _ _ _):=⟨⟨o,c,g⟩,l⟩
 have G:K (0<m.length->∃q,M=some ⟨q,0,none⟩):=λh=>w_
 clear g l hq v;go_wp2_with fail
 go_loopw [10] (λi wr=>∃j:Nat,j<=12/\j<=m.length/\i=.int .i64 j/\K (ze w.1.size (30+5*k) (150+1048576*k) j w wr v1 (.slice M m.length Z) rs m)) (λi _=>12-(intOf i).toNat)
 grind
 clear p;obtain⟨j,a3,a9,rfl,p⟩:=hrel;have⟨⟨o,c,g⟩,l⟩:=p.out;have e2:wr.cell? (J w.1.size 2)=some (V M m.length Z):=by rw[g.p.v.cell];exact g.q
 by_cases hj:j<m.length/\j<12
 ·obtain⟨q,rfl⟩:=G O;obtain⟨d,P⟩:∃d,m[j]? =some d:=⟨m[j],Qd hj.1⟩;have dq:wr.cell? _=some (.pointer _):=Pd (x:=ptD d) (by have:=g.u;rw[length_map] at this;exact this) (by rw[getElem?_map,P];rfl)
  have W:=hdc<|p.next O P (Nat.le_of_lt g.p.v.lt)
  have g1:j<(m.length:Int):=O;have g2:(j:Int)<12:=O;have g3:0<=(j:Int):=O;clear g l P p;go_wp2_with fail
  refine W.m ?_;rintro e w2 ⟨rfl,hT⟩
  have L:=show K _ from hT
  clear hT W e2 dq;go_wp2;go_roundw;exact⟨j+1,O,O,g_,L⟩;exact z_
 have HL:=hdc<|g.p.c O
 have HB:=Y l;have a7:=g.p.v.lt;clear g l p;go_upto_region 18 with fail
 all_goals
  go_wp2_with fail
  refine HL.m ?_;rintro e w2 ⟨rfl,u⟩;have HF:=Y (HB.T (u.m O));clear u;go_wp2;go_ret;exact⟨rfl,HF⟩
end Go.Proofs.YtfcgnpchbcmdeaaGreat
namespace Go.Proofs.YtfcgnpchbcmdeaaGreat
set_option linter.all false
set_option maxRecDepth 100000
set_option maxHeartbeats 8000000
open Go.ChangeShapes Go.WideShapes Go.ChangeAt Go.RowKit List Nat World Go.Proofs.Tryz Value IntKind Lib Region
open Go.Deep
section
variable {H:Type} {enc:TypeId×Value->H} {w:World} {held:Bool}
def Znc{n d x}(h:DataW.trod enc prog w 0 (λ_=>true) held n 35 d=some x){a b c}(e:d=[V a b c]):b<=Rows.uptoBulk x.1:=by
 rcases open_slice underlying35 h with⟨e2,_⟩|⟨a',len',cap',m,k,D,Pl,e2,_,hl,hm,hmm,hxx,hx⟩
 ·grind
 rw[e] at e2;simp at e2;obtain⟨_,rfl,_⟩:=e2;rw[hxx];simp only[Rows.uptoBulk];have:=jd ((range b).map D)
 grind
def ZlZ{n cs x}(h:DataW.trod enc prog w 0 (λ_=>true) held n 93 cs=some x):∃d:OpD,cs=[I d.a,I d.n,I d.w,V d.c d.A d.e,I d.k,I d.size,I d.b,V d.i d.vl d.h,V d.j d.d d.l,Q_ d.g,I d.x,I d.y]/\OpR w d/\d.A<=Rows.uptoBulk x.1/\d.g.size<=Rows.uptoBulk x.1:=by
 have⟨d,hd,hr⟩:=ZnD h;refine⟨d,hd,hr,?_⟩;have⟨xs,m,_,hxx,hl,hlen,hf⟩:=DataW.trod_struct underlying93 h;obtain⟨x0,x1,x2,x3,x4,x5,x6,x7,x8,rfl⟩:=ZmB hlen;have g3:=hf 3 ⟨ "C",37,3,false, "", "",24⟩ rfl;have g6:=hf 6 ⟨ "S",9,9,false, "", "",120⟩ rfl;rw[hd] at g3 g6;simp only[Zey,Zik,drop_zero,drop_succ_cons,take_succ_cons,take_zero,getElem?_cons_zero,getElem?_cons_succ] at g3 g6;have⟨s,e1,e2,_⟩:=DataW.trod_string underlying9 g6;have⟨ys,m',_,hyy,_,hlen',hf'⟩:=DataW.trod_struct underlying37 g3;obtain⟨y0,y1,y2,y3,rfl⟩:=ZmA hlen';have k0:=hf' 0 ⟨ "Features",35,0,false, "", "",0⟩ rfl;simp only[Zex,drop_zero,take_succ_cons,take_zero,getElem?_cons_zero] at k0;have b0:=Znc k0 rfl;simp at e1;subst e1
 have b3:Rows.uptoBulk y0.1<=Rows.uptoBulk x3.1:=(by grind [Rows.uptoBulk,Rows.uptoBulkAll]);have b6:d.g.size<=Rows.uptoBulk x6.1:=(by rw[e2];simp only[Rows.uptoBulk];show d.g.data.size<=d.g.data.toList.length+1;grind);rw[hxx];simp only[Rows.uptoBulk,Rows.uptoBulkAll,map_cons,map_nil];omega
def Za5{n A x}(h:DataW.trod enc prog w 0 (λ_=>true) held n 22 A=some x)(B:Rows.uptoBulk x.1<=1048576):∃a len cap D,A=[V a len cap]/\gd w a len D/\uf len D:=by
 have inh:Inhabited OpD:=⟨⟨0,0,0,none,0,0,0,0,0,none,0,0,none,0,0,⟨#[]⟩,0,0,λ_=>false,λ_=>0,λ_=>0,[],[]⟩⟩
 rcases open_slice underlying22 h with⟨rfl,_⟩|⟨a,len,cap,m,k,D,Pl,rfl,_,hl,hm,hmm,hxx,hx⟩
 exact⟨none,0,0,λ_=>default,rfl,⟨O,Or.inl rfl⟩,⟨O,λi c=>O,λi c=>O⟩⟩;simp only[if_true] at hmm;subst hmm;rw[ZeA] at hx;have v:∀i,i<m->∃d:OpD,((∀j,j<12->w.cell? (a.add (i*12+j))=([I d.a,I d.n,I d.w,V d.c d.A d.e,I d.k,I d.size,I d.b,V d.i d.vl d.h,V d.j d.d d.l,Q_ d.g,I d.x,I d.y]:List Value)[j]?)/\OpR w d)/\d.A<=Rows.uptoBulk (D i)/\d.g.size<=Rows.uptoBulk (D i):=(by intro i c;have⟨L,E,H⟩:=hx i c;obtain⟨d,rfl,F,t,u⟩:=ZlZ H;obtain⟨_,_,G⟩:=cells?_some E;exact⟨d,⟨λj hj=>by have:=G j hj;rwa [add_add] at this,F⟩,t,u⟩);have⟨f,q⟩:=choose_lt v;have e:Rows.uptoBulkAll ((range len).map D)<=1048576:=by grind [Rows.uptoBulk]
 have o:=jd ((range len).map D);simp at o;have r:=λi c=>aG (zv _ _ (mem_map.2 ⟨i,by simpa using c,rfl⟩)) e;refine⟨some a,len,m,f,rfl,⟨O,?_⟩,⟨O,λi c=>?_,λi c=>?_⟩⟩
 ·by_cases h0:len=0
  exact Or.inl h0;right;obtain⟨b,s,p⟩:=a;have z:w.cell? _=some _:=(q 0 O).1.1 0 O
  have l:p=none:=by simpa [Addr.add] using cell?_spot z
  subst l;simp only[add_plain] at q;refine⟨b,s,rfl,us z,λi c=>⟨?_,(q i O).1.2⟩⟩;have g:=(q i O).1.1;exact⟨g 0 O,g 1 O,g 2 O,g 3 O,g 4 O,g 5 O,g 6 O,g 7 O,g 8 O,g 9 O,g 10 O,g 11 O⟩
 ·grind
 grind
end
end Go.Proofs.YtfcgnpchbcmdeaaGreat
namespace Go.Proofs.YtfcgnpchbcmdeaaGreat
set_option linter.all false
set_option maxRecDepth 100000
set_option maxHeartbeats 8000000
open Go.RowKit List Nat World Go.Proofs.Tryz Value IntKind Lib Region
theorem Sz(a:ByteArray):strOfNums (Ab a)=a:=by
 cases a with
 | mk b=>
  unfold strOfNums Ab;congr 1;apply Array.ext';simp[map_map,Function.comp_def]
structure Ci(d:World)(c:Nat)(b:List Int):Prop where
 q:∃a:ByteArray,d.1[c]? =some (O_ #[Q_ a] 180)/\Ab a=b/\a.size<=140737488355328
def Ci.p{c w':World}{a:Nat}{b:List Int}{K:Nat->Prop}(d:Ci c a b)(i:Aa K c w')(h:¬K a):Ci w' a b:=by have⟨S,e,f,g⟩:=d.q;exact⟨S,i.g e h,f,g⟩
def Ci.below{c d:World}{b:Nat}{a:List Int}(e:Ci c b a)(f:E_ c d):Ci d b a:=e.p (K:=λ_=>False) (.a f) id
def Ci.lt{b:World}{a:Nat}{d:List Int}(c:Ci b a d):a<b.1.size:=by
 have⟨e,f,_⟩:=c.q
 grind
def Ci.a{g:World}{e:Nat}{c:List Int}(d:Ci g e c):∀a∈c,0<=a/\a<=255:=λa b=>by obtain⟨h,_,rfl,_⟩:=d.q;unfold Ab at b;obtain⟨f,_,rfl⟩:=mem_map.1 b;have:=f.toNat_lt;omega
def Ci.len{e:World}{d:Nat}{a:List Int}(b:Ci e d a):a.length<=140737488355328:=by obtain⟨f,_,rfl,c⟩:=b.q;rw[Cf];exact c
def ZcE{a:ByteArray}(c:a.size=0):a=⟨#[]⟩:=by
 cases a with
 | mk b=>
  have:b.size=0:=c
  grind
def Dz(b:Nat)(d:List Int)(e:World)(f:Ci e b d):C_ 165 #[P_ b] e λc a=>c=.returned (.int .i64 (d.headD 0))/\Ci a b d.tail/\Aa (λi=>i=b) e a:=by
 have⟨a,g,h,q⟩:=f.q;have n:=n_ 0 g;have p:e.frozen? (J b 0)=false:=R_ 0 _ 180 g
 by_cases j:a.size=0
 ·have i:=ZcE j;subst i;have c:d=[]:=(by rw[<- h];rfl);subst c;refine dl_ ?_;go_enter func165,ntmps165;go_wp2;go_ret;exact⟨rfl,f,Aa.refl _ _⟩
 have c:0<a.size:=O
 have s:a.toList.isEmpty=false:=by
  rw[toList_data]
  cases i:a.data.toList with
  | nil=>
   have:a.size=a.data.toList.length:=by rw[Array.length_toList];rfl
   grind
  |cons m l=>rfl
 have k:K (d=((a[0]'c).toNat:Int)::Ab (a.extract 1 a.size)):=by
  show _=_;rw[<- h,Fc,aI (by rw[Cf];omega),drop_one];have i:0<(Ab a).length:=(by rw[Cf];omega);have o:(Ab a)[0]'i=((a[0]'c).toNat:Int):=getElem_map (λl:UInt8=>(l.toNat:Int)) (l:=a.data.toList) (i:=0) (h:=i)
  cases r:Ab a with
  |nil=>grind
  | cons m l=>
   grind
 have m:=(a[0]'c).toNat_lt;have o:wrap64 ((a[0]'c).toNat:Int)=((a[0]'c).toNat:Int):=(by simp[wrap64];omega);have l:(1:Int)<=(a.size:Int):=O;clear f h j;go_enter func165,ntmps165;go_wp2;go_ret;rw[k];refine⟨?_,⟨a.extract 1 a.size,hs_ _ b 0 _ 180 _ g,rfl,?_⟩,(Aa.refl (λi=>i=b) _).setCell (p:=(J b 0)) (λ_=>rfl) _⟩;rfl;rw[ByteArray.size_extract];omega
def Kx(b:List Int):Nat->Nat
 |0=>0
 |a+1=>Kx b a+(b.getD a 0).toNat*2^(8*a)
def Il{a:List Int}(c:∀x∈a,0<=x/\x<=255)(b:Nat):0<=a.getD b 0/\a.getD b 0<=255:=by grind [Qf]
def wm{b:List Int}(c:∀x∈b,0<=x/\x<=255):∀a,Kx b a<2^(8*a)
 |0=>by simp[Kx]
 | a+1=>by
  have f:=wm c a;have e:=Il c a;have d:(b.getD a 0).toNat*2^(8*a)<=255*2^(8*a):=aK _ O
  grind [Kx]
def Zef(a:Int)(b:0<=a)(c:a<2^40):i64.wrap a=a:=As O O
def Zh6(a b:Nat)(c:a<2^40)(d:b<2^40):bits .or .i64 a b=((a|||b:Nat):Int):=(bits_nat .i64 40 C Zef a b c d).2
def Fr(b:List Int)(a:Nat):(b.drop a).headD 0=b.getD a 0:=by rw[headD_eq_head?_getD,head?_drop,Qc]
def Ih(b:List Int)(a:Nat):(b.drop a).tail=b.drop (a+1):=by rw[tail_drop]
def nc(d c:Nat)(b:List Int)(j:World)(r:Ci j d b)(F:c<=4):C_ 233 #[P_ d,I (c:Nat)] j λq a=>q=.returned (.int .i64 (Kx b c:Nat))/\Ci a d (b.drop c)/\Aa (λe=>e=d) j a:=by
 have p:=Y r.a;refine v_ ?_;go_wp2_with fail
 go_loopw [5,8] (λh f g=>∃a:Nat,a<=c/\f=.int .i64 a/\h=.int .i64 (Kx b a:Nat)/\K (Ci g d (b.drop a)/\Aa (λe=>e=d) j g)) (λ_ f _=>c-(intOf f).toNat)
 exact⟨0,r_,rfl,rfl,r,Aa.refl _ _⟩;obtain⟨a,D,rfl,rfl,k⟩:=hrel
 by_cases E:a<c
 ·have m:=wm p a;have x:=Il p a;have h:K (Kx b (a+1)=Kx b a+(b.getD a 0).toNat*2^(8*a)):=rfl;have l:=Dz d (b.drop a) wr k.1;rw[Fr,Ih] at l;obtain⟨e,v⟩:∃e:Nat,b.getD a 0=(e:Int):=⟨(b.getD a 0).toNat,O⟩;rw[v] at l x;have w:(b.getD a 0).toNat=e:=O;rw[w] at h;generalize Kx b a=i at *;have⟨f,s⟩:=M_ (8*a);rw[<- s] at m h;have t:(2:Nat)^f<=2^24:=Nat.pow_le_pow_right C O;have⟨g,o⟩:=M_ (e*2^f);have A:e*2^f<=255*2^24:=Nat.mul_le_mul O t;have G:(8:Int)*(a:Int)=(f:Int):=O
  have H:i64.wrap ((e:Int)*2^f)=(g:Int):=(by grind [As]);have B:bits BinOp.or i64 (i:Int) (g:Int)=((i+g:Nat):Int):=(by rw[Zh6 i g O O,o,Zdx m]);have⟨L,n⟩:=M_ (i+g);rw[<- o,<- n] at h;rw[<- n] at B;clear A m t o n s;go_wp2_with fail
  apply l.m;rintro q M ⟨rfl,y,z⟩;have u:=T_ y (k.2.T z);go_wp2;go_roundw;exact⟨a+1,O,g_,by rw[h],u⟩;exact z_
 have f:¬(a:Int)<(c:Int):=O;have e:a=c:=O;subst e;go_wp2;go_ret;exact⟨rfl,k⟩
def mu(a:List Int):Int:=i32.wrap (Kx a 4:Nat)
def ya(a:List Int): -2147483648<=mu a/\mu a<=2147483647:=by unfold mu;simp[wrap,IntKind.bits,signed];omega
def ra(b:Nat)(a:List Int)(c:World)(f:Ci c b a):C_ 277 #[P_ b] c λd e=>d=.returned (.int .i64 (mu a))/\Ci e b (a.drop 4)/\Aa (λg=>g=b) c e:=by
 have e:=nc b 4 a c f x_;have h:=ya a;have j:i32.wrap (Kx a 4:Nat)=mu a:=rfl;generalize mu a=l at *;generalize Kx a 4=i at *;refine v_ ?_;go_wp2_with fail
 apply e.m;rintro d k ⟨rfl,g⟩;go_wp2;go_ret;exact⟨rfl,g⟩
def ZfR(a:ByteArray)(b:World)(e:a.size<=281474976710656):C_ 223 #[Q_ a] b (U_ (.string a) b):=by
 have c:=Tryz.stringslite_Clone a b e;refine dl_ ?_;go_enter func223,ntmps223;go_wp2_with fail
 apply c.m;rintro f g ⟨rfl,d⟩;clear c;go_wp2;go_ret;exact⟨rfl,d⟩
def dz(c d:Nat)(e:List Int)(g:World)(h:Ci g c e):C_ 164 #[P_ c,I (d:Nat)] g λn f=>(∃a,n=.returned (.string a)/\Ab a=e.take d)/\Ci f c (e.drop d)/\Aa (λb=>b=c) g f:=by
 have⟨a,o,f,A⟩:=h.q;have v:=h.lt;clear h;have t:=n_ 0 o;have⟨b,q⟩:=M_ (min d a.size);have B:min (d:Int) (a.size:Int)=(b:Int):=O;have l:=λs=>ZfR (a.extract 0 b) s (by rw[ByteArray.size_extract];omega);have w:(0:Int)<=(b:Int):=O;have x:(b:Int)<=(a.size:Int):=O;have u:e.length=a.size:=by rw[<- f];exact Cf a
 have m:K (Ab (a.extract 0 b)=e.take d/\Ab (a.extract b a.size)=e.drop d):=by
  constructor
  ·rw[Fc,drop_zero,f,q,<- u]
   grind
  rw[Fc,aI w_,f]
  grind [drop_eq_nil_of_le]
 clear q f;refine dl_ ?_;go_enter func164,ntmps164;go_wp2_with fail
 apply (l _).m;clear l;rintro n k ⟨rfl,j⟩;have i:H_ k c #[Q_ a] 180:=(j.block c v).T o;have y:=n_ 0 i;have z:k.frozen? (J c 0)=false:=R_ 0 _ 180 i;have r:K (Aa (λb=>b=c) g k):=Aa.a j;clear j t;go_wp2;go_ret;refine⟨⟨a.extract 0 b,rfl,m.1⟩,⟨a.extract b a.size,hs_ _ c 0 _ 180 _ i,m.2,?_⟩,r.setCell (p:=(J c 0)) (λ_=>rfl) _⟩;rw[ByteArray.size_extract];omega
def Rf(b:List Int)(c:Nat):Bool:=(range c).all λa=>decide (b.getD a 0<b.getD (a+1) 0)
def Re(a:List Int):Bool:=Rf a (a.length-1)
def ZdQ(b:List Int)(a:Nat):Rf b (a+1)=(Rf b a&&decide (b.getD a 0<b.getD (a+1) 0)):=by unfold Rf;grind
def ZbC{c:List Int}{a b:Nat}(d:Rf c a=false)(e:a<=b):Rf c b=false:=by grind [Rf]
def Zj1(h:Option Addr)(c i m:Nat)(b:List Int)(f:World)(p:Ad f m (V h c i) b)(j:b.length=c)(w:c<=1000000):C_ 278 #[V h c i] f (U_ (.bool (Re b)) f):=by
 have k:K (∀g,E_ f g->Ad g m (V h c i) b):=λg q=>p.below q;refine v_ ?_;go_wp2_with fail
 go_loopw [3] (λd e=>∃a:Nat,d=.int .i64 ((a:Int)+1)/\(a=0∨a+1<=c)/\K (Rf b a=true)/\K (E_ f e)) (λd _=>c+1-(intOf d).toNat)
 exact⟨0,rfl,.inl rfl,rfl,y_⟩;obtain⟨a,rfl,v,o,d⟩:=hrel
 by_cases s:a+1<c
 ·obtain⟨y,rfl,_,_,A,_⟩:=(k wr d).b j (show a<c by omega);have⟨z,D,_,_,B,_⟩:=(k wr d).b j s;injection D with D;injection D with D;subst D;have l:=Y (ZdQ b a);have n:K (Rf b (a+1)=false->Re b=false):=λr=>ZbC r (p_ j);generalize b.getD a 0=t at *;generalize b.getD (a+1) 0=u at *
  by_cases x:u<=t
  ·have e:=Y (n (by rw[l,aE O];simp));go_upto_region 4 with fail;go_big_quiet (fail);go_wp2;go_ret;exact⟨by rw[e];rfl,below_drewN d _⟩
  have e:K (Rf b (a+1)=true):=(by show _=_;rw[l,o,aF O];rfl);go_upto_region 4 with fail;go_big_quiet (fail);go_wp2;go_roundw;exact⟨a+1,g_,.inr O,e,below_drewN d _⟩;exact z_
 have l:¬(a:Int)+1<(c:Int):=O
 have e:K (Re b=true):=by
  unfold Re
  grind
 go_wp2;go_ret;exact⟨by rw[e];rfl,d⟩
def Zdc(a:ByteArray)(i:World)(s:a.size<=200000000000000):C_ 321 #[Q_ a] i (V_ (.bool (Ei a)) i):=by
 have j:K (∀f e,C_ 312 #[.int .u8 f] e (V_ (.bool (Fz f)) e)):=λf e=>kh f e;refine v_ ?_;go_wp2_with fail
 go_loopw [6] (λc d=>∃b:Nat,c=.int .i64 b/\b<=a.size/\K (((Ab a).take b).all Fz=true)/\d=i) (λc _=>a.size-(intOf c).toNat)
 exact⟨0,rfl,r_,rfl,rfl⟩;obtain⟨b,rfl,r,k,n⟩:=hrel;subst n
 by_cases d:b<a.size
 ·have⟨p,q⟩:=F_ b a.size;have m:(Ab a).take (b+1)=(Ab a).take b++[((a[b]'d).toNat:Int)]:=by rw[Qi (by rw[Cf];exact d)];congr 2;simp only[Ab,getElem_map];rfl
  cases g:Fz ((a[b]'d).toNat:Int) with
  | true=>
   have c:K (((Ab a).take (b+1)).all Fz=true):=w_;go_wp2_with fail
   apply (j _ _).m;rintro l o ⟨rfl,h⟩;obtain rfl:=h.s;rw[g];go_wp2;go_roundw;exact⟨b+1,g_,O,c,trivial⟩;exact z_
  | false=>
   have c:K (Ei a=false):=(by unfold Ei;have:(Ab a).all Fz=false:=(by rw[all_eq_false];refine⟨((a[b]'d).toNat:Int),?_,by simp[g]⟩;have:((a[b]'d).toNat:Int)∈(Ab a).take (b+1):=(by rw[m];simp);exact aL this);rw[this];rfl);go_wp2_with fail
   apply (j _ _).m;rintro l o ⟨rfl,h⟩;obtain rfl:=h.s;rw[g];go_wp2;go_ret;exact⟨by rw[c];rfl,rfl⟩
 have h:¬(b:Int)<(a.size:Int):=O
 have c:K (Ei a=decide ((a.size:Int)<=8)):=by
  show _=_;have g:=k.out
  grind [Cf,Ei]
 go_wp2;go_ret;exact⟨by rw[c];rfl,rfl⟩
def Ij(b:List ByteArray)(c:Nat):Bool:=(range c).all λa=>Ei (b.getD a ⟨#[]⟩)&&!Lib.containsS (b.take a) (b.getD a ⟨#[]⟩)
def Df(a:List ByteArray):Bool:=Ij a a.length
def ej(b:List ByteArray)(a:Nat):Ij b (a+1)=(Ij b a&&(Ei (b.getD a ⟨#[]⟩)&&!Lib.containsS (b.take a) (b.getD a ⟨#[]⟩))):=by unfold Ij;grind
def yn{c:List ByteArray}{a b:Nat}(d:Ij c a=false)(e:a<=b):Ij c b=false:=by grind [Ij]
def Bi.g{h:World}{e:Nat}{d:Option Addr}{a c:Nat}{b:List ByteArray}(g:Bi h e (V d a c) b)(m:b.length=a):a<=c:=by
 rcases g.2 with⟨f,l⟩|⟨k,i,j,f,_,_,n,_⟩
 omega
 grind
def uj(r:Option Addr)(c h x:Nat)(b:List ByteArray)(j:World)(n:Bi j x (V r c h) b)(t:b.length=c)(M:c<=1000000)(B:∀F∈b,F.size<=200000000000000):C_ 279 #[V r c h] j (V_ (.bool (Df b)) j):=by
 have g:=Y t;have N:=n.g t;have v:K (∀f,f<c->∀m,C_ 321 #[Q_ (b.getD f ⟨#[]⟩)] m _):=λf A m=>Zdc _ m (B _ w_);refine v_ ?_;go_wp2_with fail
 go_loopw [7] (λd e=>∃a:Nat,d=.int .i64 a/\a<=c/\K (Ij b a=true)/\e=j) (λd _=>c-(intOf d).toNat)
 exact⟨0,rfl,r_,rfl,rfl⟩;obtain⟨a,rfl,L,w,D⟩:=hrel;subst D
 by_cases s:a<c
 ·obtain⟨u,rfl,_,Q⟩:=n.d g s ⟨#[]⟩
  have p:K (C_ 322 #[L_ u a h,Q_ (b.getD a ⟨#[]⟩)] wr (V_ (.bool (containsS (b.take a) (b.getD a ⟨#[]⟩))) wr)):=Tryz.slices_Contains_string u 0 a h _ _ _ (p_ g) O (λf A=>by
   have⟨e,d,_,i⟩:=n.d g (show f<c by omega) ByteArray.empty
   grind)
  have o:=v a s wr;have l:=Y (ej b a);have q:K (Ij b (a+1)=false->Df b=false):=λz=>yn z (p_ g);generalize containsS (b.take a) (b.getD a ⟨#[]⟩)=y at *;generalize Ei (b.getD a ⟨#[]⟩)=E at *;generalize b.getD a ⟨#[]⟩=P at *;have⟨G,H⟩:=F_ a c
  cases E with
  | false=>
   have e:=Y (q (by rw[l];simp));go_wp2_with fail
   apply o.m;rintro i k ⟨rfl,d⟩;obtain rfl:=d.s;go_wp2;go_ret;exact⟨by rw[e];rfl,rfl⟩
  | true=>
   cases y with
   | true=>
    have e:=Y (q (by rw[l];simp));go_wp2_with fail
    apply o.m;rintro i k ⟨rfl,d⟩;obtain rfl:=d.s;go_wp2_with fail
    apply p.m;rintro i k ⟨rfl,d⟩;obtain rfl:=d.s;go_wp2;go_ret;exact⟨by rw[e];rfl,rfl⟩
   | false=>
    have e:K (Ij b (a+1)=true):=(by show _=_;rw[l,w];rfl);go_wp2_with fail
    apply o.m;rintro i k ⟨rfl,d⟩;obtain rfl:=d.s;go_wp2_with fail
    apply p.m;rintro i k ⟨rfl,d⟩;obtain rfl:=d.s;go_wp2;go_roundw;exact⟨a+1,g_,O,e,trivial⟩;exact z_
 have d:¬(a:Int)<(c:Int):=O
 have e:K (Df b=true):=by
  unfold Df
  grind
 go_wp2;go_ret;exact⟨by rw[e];rfl,rfl⟩
def Zy(a:ES):Bool:=decide (a.b<=16)&&Re a.g&&Df a.c
def Zgu(a:ES)(i h:Option Addr)(f j g k z:Nat)(d:World)(H:Ad d z (V i f j) a.g)(N:Bi d z (V h g k) a.c)(L:a.g.length=f)(M:a.c.length=g)(c:f<=1000000)(P:g<=1000000)(R:∀U∈a.c,U.size<=200000000000000):C_ 225 #[.agg #[.bool a.a,V i f j,V h g k]] d (U_ (.bool (Zy a)) d):=by
 have⟨D,o⟩:=M_ (d.alloc (O_ #[.bool a.a,V i f j,V h g k] 170));have B:H_ _ _ _ _:=o ▸ (ha_ d _);have A:E_ d _:=o ▸ q_
 have e:K (∀b,E_ D b->E_ d b/\D_ b d.1.size 0 (.bool a.a)/\D_ b d.1.size 1 (V i f j)/\D_ b d.1.size 2 (V h g k)):=λb l=>by have m:=(l.block _ ((Qb B).1)).T B;exact⟨A.T (l.m A.size),G_ 0 _ _ _ m,G_ 1 _ _ _ m,G_ 2 _ _ _ m⟩
 have y:=Y (λb l=>Zj1 _ _ _ _ _ b (H.below (e b l).1) L c);have F:=Y (λb l=>uj h _ _ _ _ b (N.below (e b l).1) M P R)
 have r:K (∀b,C_ 169 #[.agg #[.bool a.a,V i f j,V h g k]] b (U_ (.int .i64 (a.b:Nat)) b)):=λb=>by
  have:=Tm a.a i h f j g k b;unfold ES.b
  grind
 have W:K (Zy a=(_&&_)):=rfl;generalize Zy a=s at *;generalize Re a.g=S at *;generalize Df a.c=T at *;generalize a.b=t at *;generalize a.a=a0 at *;have⟨_,u,v,w⟩:=e D y_
 by_cases X:t<=16
 ·have G:decide ((t:Int)<=16)=true:=t_
  cases S with
  | false=>
   have n:K (s=false):=w_;refine v_ ?_;go_wp2_with fail
   rw[<- o];apply (r _).m;rintro p q ⟨rfl,c⟩;have⟨_,u,v,w⟩:=e q c;go_wp2_with fail
   apply (y _ c).m;rintro p E ⟨rfl,x⟩;have m:=Y (c.T (x.m c.size));go_wp2;go_ret;exact⟨by rw[n];rfl,(e _ m).1⟩
  | true=>
   have n:K (s=T):=w_;refine v_ ?_;go_wp2_with fail
   rw[<- o];apply (r _).m;rintro p q ⟨rfl,c⟩;have⟨_,u,v,w⟩:=e q c;go_wp2_with fail
   apply (y _ c).m;rintro p E ⟨rfl,x⟩;have m:=Y (c.T (x.m c.size));have⟨_,u,v,w⟩:=e E m;go_wp2_with fail
   apply (F _ m).m;rintro p Z ⟨rfl,Q⟩;obtain rfl:=Q.s;go_wp2;go_ret;exact⟨by rw[n];rfl,(e _ m).1⟩
 have G:decide ((t:Int)<=16)=false:=t_;have n:K (s=false):=w_;refine v_ ?_;go_wp2_with fail
 rw[<- o];apply (r _).m;rintro p q ⟨rfl,c⟩;go_wp2;go_ret;exact⟨by rw[n];rfl,(e _ c).1⟩
def Og(b:ES)(a:Int):Bool:=decide (a<(b.b:Int)+2)
def Vr(a:ES)(d e:Option Addr)(b g c h:Nat)(l f:Int)(i:World)(o:a.g.length=b)(p:a.c.length=c)(r:a.b<=1000000):C_ 226 #[.agg #[.bool a.a,V d b g,V e c h,I l],I f] i (U_ (.bool (Og a f)) i):=by
 have n:Kr a.a b c=a.b:=by unfold ES.b;rw[o,p]
 have j:=Y (λk=>by
  have:=Fm a.a d e b g c h k O;rw[n] at this
  exact this)
 unfold Og;generalize a.b=q at *;generalize a.a=t at *;refine v_ ?_;go_wp2_with fail
 apply (j _).m;rintro u s ⟨rfl,k⟩;have m:=q_.T (k.m s_);go_wp2;go_ret;exact⟨rfl,m⟩
def Ss(c:List Int)(b:Nat):List Int:=(range b).map λa=>mu (c.drop (4*a))
def Zds(b:List Int)(a:Nat):Ss b (a+1)=Ss b a++[mu (b.drop (4*a))]:=by simp[Ss,range_succ]
def ae(b:List Int)(a:Nat):(Ss b a).length=a:=by simp[Ss]
structure Yq(a wr:World)(b:Nat)(e:List Int)(h:Bool)(f g:Value)(c:Int):Prop where
 q:wr.1[a.1.size+1]? =some (O_ #[.bool h,f,g,I c] 172)
 o:wr.1[a.1.size]? =some (O_ #[.bool false,N_,N_,I 0] 172)
 u:Ci wr b e
 lt:b<a.1.size
 t:Aa (λd=>d=b) a wr
section
variable {w wr w2:World} {a:Nat} {l b:List Int} {wd:Bool} {vb vw:Value} {d:Int}
def Yq.step(c:Yq w wr a l wd vb vw d)(g:Ci w2 a b)(e:Aa (λh=>h=a) wr w2):Yq w w2 a b wd vb vw d:=
 ⟨e.g c.q (λf=>p_ c.lt),e.g c.o (λf=>p_ c.lt),g,c.lt,c.t.T e⟩
def Yq.below(b:Yq w wr a l wd vb vw d)(c:E_ wr w2):=
 b.step (b.u.below c) (.a c)
def Yq.put(b:Yq w wr a l wd vb vw d)(c:Nat)(v:Value){i:Bool}{g h:Value}{e:Int}(j:(#[.bool wd,vb,vw,I d]:Array Value).setIfInBounds c v=#[.bool i,g,h,I e]):Yq w (wr.setCell ⟨w.1.size+1,c,none⟩ v) a l i g h e:=by have f:Aa _ _ (wr.setCell ⟨_,c,_⟩ v):=(Aa.refl (λk=>k=w.1.size+1) _).setCell (p:=J _ c) (λ_=>rfl) v;refine⟨?_,f.g b.o O,b.u.p f (p_ b.lt),b.lt,b.t.setCell (p:=J _ c) (λm=>by simp at m;omega) v⟩;rw[ht_ c _ 172 _ b.q,j]
def Yq.grown(b:Yq w wr a l wd vb vw d){f s p:Nat}{m:Value}{t:List Value}(e:wr.ownsRow w.1.size f s m p t)(i:f≠172)(o:f≠180)(h:wr.grownBy w2 m.ownBlock):Yq w w2 a l wd vb vw d:=by have g:=(Aa.refl _ _).grown h (λj c _=>c);have⟨n,k,q,r⟩:=b.u.q;exact⟨g.g b.q (λc=>Ah e c b.q i rfl),g.g b.o (λc=>Ah e c b.o i rfl),⟨n,g.g k (λc=>Ah e c k o rfl),q,r⟩,b.lt,b.t.grown h (λj c u=>absurd (B_ e j c).1 O)⟩
def Yq.cell(b:Yq w wr a l wd vb vw d):wr.cell? (J (w.1.size+1) 0)=some (.bool wd)/\wr.cell? (J (w.1.size+1) 1)=some vb/\wr.cell? (J (w.1.size+1) 2)=some vw/\wr.cell? (J (w.1.size+1) 3)=some (I d)/\∀c,wr.frozen? ⟨w.1.size+1,c,none⟩=false:=
 ⟨G_ 0 _ 172 (0,0) b.q,G_ 1 _ 172 (0,0) b.q,G_ 2 _ 172 (0,0) b.q,G_ 3 _ 172 (0,0) b.q,λc=>R_ c _ 172 b.q⟩
def Yq.next(c:Yq w wr a l wd vb vw d):C_ 165 #[P_ a] wr λe f=>e=.returned (.int .i64 (l.headD 0))/\K (Yq w f a l.tail wd vb vw d):=(Dz a l wr c.u).m λ_ _ b=>⟨b.1,c.step b.2.1 b.2.2⟩
def Yq.r(b:Ci w a l):Yq w ((w.alloc (O_ #[.bool false,N_,N_,I 0] 172)).alloc (O_ #[.bool false,N_,N_,I 0] 172)) a l false (N_) (N_) 0:=by have c:E_ w ((w.alloc (O_ #[.bool false,N_,N_,I 0] 172)).alloc (O_ #[.bool false,N_,N_,I 0] 172)):=q_.alloc s_ _;refine⟨by simpa using ha_ (w.alloc _) _,?_,b.below c,b.lt,.a c⟩;rw[hc_ s_];exact ha_ w _
def Yq.row{c h:Nat}{j:Value}{k:List Value}(f:Yq w wr a l wd vb vw d)(e:wr.ownsRow w.1.size c 1 j h k)(i:Aa (λb=>b=a) wr w2):=i.row e (λb g c=>oj_ (B_ e b g).1 f.lt)
def Yq.e(b:Yq w wr a l wd vb vw d):wr.cell? (J w.1.size 0)=some (.bool false)/\wr.cell? (J w.1.size 1)=some (N_)/\wr.cell? (J w.1.size 2)=some (N_)/\wr.cell? (J w.1.size 3)=some (I 0)/\∀c,wr.frozen? (J w.1.size c)=false:=⟨n_ 0 b.o,n_ 1 b.o,n_ 2 b.o,n_ 3 b.o,λc=>R_ c _ 172 b.o⟩
def Yq.c{e k:Nat}{m:Value}{n:List Value}(h:Yq w wr a l wd vb vw d)(j:wr.ownsRow w.1.size e 1 m k n)(q:e≠172){v0 v1 v2 v3:Value}{g:World}(o:g=(((wr.setCell (J w.1.size 0) v0).setCell (J w.1.size 1) v1).setCell (J w.1.size 2) v2).setCell (J w.1.size 3) v3):g.ownsRow w.1.size e 1 m k n/\Ci g a l/\Aa (λf=>f=a) w g:=by have b:=o ▸ (Aa.e _ _ _ _ _ _);have r:=h.lt;refine⟨b.row j (λf i e=>Ah j i h.o q e),h.u.p b O,?_⟩;have c:=h.t;exact⟨b.os.T c.os,b.tape.T c.tape,b.output.T c.output,aG c.size b.size,λf i p=>(b.block f (Qh i c.size) O).T (c.block f i p)⟩
end
def ZjU(a:List Int):a.tail.headD 0=a.getD 1 0/\a.tail.tail.headD 0=a.getD 2 0/\a.tail.tail.tail=a.drop 3:=by rcases a with _|⟨c,_|⟨d,_|⟨e,b⟩⟩⟩<;>simp
def qu(o:Nat)(c:List Int)(e:World)(q:Ci e o c)(z:c.headD 0≠119):Calls prog 224 #[P_ o] e λn p=>∃a,n=.returned (.agg #[.bool false,a,.slice none 0 0,.int .i64 (c.getD 1 0)])/\Ad p e.1.size a (Ss (c.drop 3) (c.getD 2 0).toNat)/\Ci p o ((c.drop 3).drop (4*(c.getD 2 0).toNat))/\Aa (λb=>b=o) e p:=by
 have H:=Il q.a 2;obtain⟨g,x⟩:∃g:Nat,c.getD 2 0=(g:Int):=⟨(c.getD 2 0).toNat,O⟩;have M:=aO z;have⟨m,a⟩:=Z_ (ZjU c) (Yq.r q);have f:=a.next;have T:=q.lt;rw[x] at H m ⊢;clear q z x;generalize c.headD 0=a0,c.getD 1 0=t,c.drop 3=v at *;refine v_ ?_;go_upto_region 2 with fail;generalize (e.alloc (O_ #[.bool false,N_,N_,I 0] 172)).alloc (O_ #[.bool false,N_,N_,I 0] 172)=W at *;go_wp2_with fail
 apply f.m;rintro n N ⟨rfl,a⟩;have⟨h,i,j,k,l⟩:=a.cell;go_wp2_with fail
 replace a:=Y (a.put 0 (.bool false) rfl);generalize N.setCell (J (e.1.size+1) 0) (.bool false)=X at *;clear h i j k l;have f:=a.next;rw[m.1] at f;apply f.m;rintro n E ⟨rfl,a⟩;have⟨h,i,j,k,l⟩:=a.cell;go_wp2_with fail
 replace a:=Y (a.put 3 (I t) rfl);generalize E.setCell (J (e.1.size+1) 3) (I t)=Z at *;clear h i j k l;have f:=a.next;rw[m.2.1,m.2.2] at f;apply f.m;rintro n P ⟨rfl,a⟩;clear f m M;go_wp2_with fail
 go_loopw [15] (λd p=>∃(b:Nat) (r:Option Addr) (s:Nat),d=.int .i64 b/\b<=g/\K (Yq e p o (v.drop (4*b)) false (.slice r b s) (.slice none 0 0) t)/\K (p.ownsRow e.1.size 3 1 (.slice r b s) b ((Ss v b).map (int .i64)))) (λd _=>g-(intOf d).toNat)
 case atStart=>exact⟨0,none,0,rfl,r_,a,Ad.nil _ _⟩
 clear a;obtain⟨b,r,s,rfl,R,a,d⟩:=hrel
 by_cases S:b<g
 case neg=>
  obtain rfl:b=g:=O;have⟨A,B,D,F,y⟩:=a.e;have⟨h,i,j,k,l⟩:=a.cell;have p:=Y (λv0 v1 v2 v3=>a.c d C (v0:=v0) (v1:=v1) (v2:=v2) (v3:=v3) rfl);clear a d;go_wp2;apply bodyPost_ret (v:=.agg #[.bool false,V r b s,N_,I t]) (by simp[results,results224,go_sem, *]) rfl;obtain⟨u,w⟩:=p _ _ _ _;exact⟨_,rfl,by unfold Ad;rw[ae];exact u,w⟩
 have⟨h,i,j,k,l⟩:=a.cell;go_upto_region 8 with fail;clear h j k l;refine Af (λp=>p.cell? _=some _) 9 k_ i (λhHeld=>?_);refine K_ ?_;refine on_ 4 λKK hK=>?_;go_simp;replace a:=a.below y_.drew;replace d:wr.drew.ownsRow _ 3 1 (V _ b _) b _:=World.ownsRow.drew d;apply (ra _ _ _ a.u).m;rintro n E ⟨rfl,y,u⟩;replace d:=Y (a.row d u);replace a:=a.step y u;rw[drop_drop,show 4*b+4=4*(b+1) by omega] at a;have p:=a.cell.2.1;replace a:=Y a;have L:=(Qb a.q).1;clear y u;go_simp;refine hK _ _ p (λhHeld=>?_);clear hK KK;try simp only[Act.put,tA_,tB_,tC_]
 refine on_ 5 λKK hK=>?_;go_simp;refine hK _ _ (X_ p) (λhHeld=>?_);clear hK KK;try simp only[Act.put,tA_,tB_,tC_]
 refine on_ 6 λKK hK=>?_;refine aq_ [I (mu (v.drop (4*b)))] (ra_ d _) ?_;rintro U P ⟨D,w,_,_,B,A,rfl⟩;replace a:=(a.below q_).grown (ra_ d _) C C w;have G:=a.cell.2.1;have Q:=a.cell.2.2.2.2;have F:=Y (Al D a.q C (j:=1) (u:=L_ B (b+1) A));rw[<- map_singleton,<- map_append,<- Zds] at F;replace a:=Y (a.put 1 (L_ B (b+1) A) rfl);clear D w d p L;refine hK _ _ G (λhHeld=>?_);clear hK KK;refine K_ ?_;refine le_ ?_;go_wp2;go_roundw;case rel=>grind
 case measure=>exact z_
def tb(a:List Int):List Int:=a.tail.drop (a.headD 0).toNat
def restW(a:List Int):Nat->List Int
 |0=>a
 |b+1=>tb (restW a b)
def ei(a:List Int):ByteArray:=strOfNums (a.tail.take (a.headD 0).toNat)
def Vf(c:List Int)(b:Nat):List ByteArray:=(range b).map λa=>ei (restW c a)
def Zeg(b:List Int)(a:Nat):Vf b (a+1)=Vf b a++[ei (restW b a)]:=by simp[Vf,range_succ]
def cg(b:List Int)(a:Nat):(Vf b a).length=a:=by simp[Vf]
def ZkB{a:List Int}(c:∀x∈a,0<=x/\x<=255):∃b:Nat,K (a.headD 0=(b:Int))/\K (strOfNums (a.tail.take b)=ei a/\a.tail.drop b=tb a):=by have e:=Il c 0;have d:a.headD 0=a.getD 0 0:=(by cases a<;>rfl);exact⟨(a.headD 0).toNat,by show _=_;omega,rfl,rfl⟩
def ma(h:Nat)(c:List Int)(f:World)(u:Ci f h c)(B:c.headD 0=119):Calls prog 224 #[P_ h] f λn g=>∃a,n=.returned (.agg #[.bool true,.slice none 0 0,a,.int .i64 (c.getD 1 0)])/\Bi g f.1.size a (Vf (c.drop 3) (c.getD 2 0).toNat)/\Ci g h (restW (c.drop 3) (c.getD 2 0).toNat)/\Aa (λb=>b=h) f g:=by
 have Q:=Il u.a 2;obtain⟨i,A⟩:∃i:Nat,c.getD 2 0=(i:Int):=⟨(c.getD 2 0).toNat,O⟩;have T:=beq_iff_eq.2 B;have⟨q,a⟩:=Z_ (ZjU c) (Yq.r u);have d:=a.next;have a2:=u.lt;rw[A] at Q q ⊢;clear u B A;generalize c.headD 0=a6,c.getD 1 0=v,c.drop 3=p at *;refine v_ ?_;go_upto_region 2 with fail;generalize (f.alloc (O_ #[.bool false,N_,N_,I 0] 172)).alloc (O_ #[.bool false,N_,N_,I 0] 172)=a4 at *;go_wp2_with fail
 apply d.m;rintro n U ⟨rfl,a⟩;have⟨j,k,l,m,o⟩:=a.cell;go_wp2_with fail
 replace a:=Y (a.put 0 (.bool true) rfl);generalize U.setCell (J (f.1.size+1) 0) (.bool true)=a5 at *;clear j k l m o;have d:=a.next;rw[q.1] at d;apply d.m;rintro n G ⟨rfl,a⟩;have⟨j,k,l,m,o⟩:=a.cell;go_wp2_with fail
 replace a:=Y (a.put 3 (I v) rfl);generalize G.setCell (J (f.1.size+1) 3) (I v)=W at *;clear j k l m o;have d:=a.next;rw[q.2.1,q.2.2] at d;apply d.m;rintro n X ⟨rfl,a⟩;clear d q T;go_wp2_with fail
 go_loopw [15] (λe g=>∃(b:Nat) (s:Option Addr) (t:Nat),e=.int .i64 b/\b<=i/\K (Yq f g h (restW p b) true (.slice none 0 0) (.slice s b t) v)/\K (g.ownsRow f.1.size 9 1 (.slice s b t) b ((Vf p b).map string))) (λe _=>i-(intOf e).toNat)
 case atStart=>exact⟨0,none,0,rfl,r_,a,Bi.nil _ _⟩
 clear a;obtain⟨b,s,t,rfl,a0,a,e⟩:=hrel
 by_cases a1:b<i
 case neg=>
  obtain rfl:b=i:=O;have⟨y,z,D,E,x⟩:=a.e;have⟨j,k,l,m,o⟩:=a.cell;have g:K (∀v0 v1 v2 v3,_):=λv0 v1 v2 v3=>a.c e C (v0:=v0) (v1:=v1) (v2:=v2) (v3:=v3) rfl;clear a e;go_wp2;apply bodyPost_ret (v:=.agg #[.bool true,N_,V s b t,I v]) (by simp[results,results224,go_sem, *]) rfl;obtain⟨r,w⟩:=g _ _ _ _;exact⟨_,rfl,by unfold Bi;rw[cg];exact r,w⟩
 have⟨j,k,l,m,o⟩:=a.cell;have⟨S,H,x⟩:=ZkB a.u.a;go_upto_region 7 with fail;clear j k m o;refine Af (λg=>g.cell? _=some _) 11 k_ l (λhHeld=>?_);refine K_ ?_;refine on_ 5 λKK hK=>?_;go_simp;replace a:=a.below y_.drew;replace e:wr.drew.ownsRow f.1.size 9 1 (V s b t) b _:=World.ownsRow.drew e;have d:=Dz h _ _ a.u;rw[H] at d;apply d.m;rintro n G ⟨rfl,r,g⟩;replace e:=Y (a.row e g);replace a:=Y (a.step r g);have y:=a.cell.2.2.1;clear r g d;go_simp;refine hK _ _ y (λhHeld=>?_);clear hK KK;try simp only[Act.put,tA_,tB_,tC_]
 refine on_ 6 λKK hK=>?_;go_simp;apply (dz h S _ _ a.u).m;rintro n W ⟨⟨M,rfl,P⟩,r,g⟩;obtain rfl:M=ei (restW p b):=(by rw[<- x.1,<- P,Sz]);replace e:=Y (a.row e g);replace a:=a.step r g;rw[x.2,<- show restW p (b+1)=tb (restW p b) from rfl] at a;have w:=a.cell.2.2.1;replace a:=Y a;have R:=(Qb a.q).1;clear r g y;go_simp;refine hK _ _ w (λhHeld=>?_);clear hK KK;try simp only[Act.put,tA_,tB_,tC_]
 refine on_ 7 λKK hK=>?_;go_simp;refine hK _ _ (X_ w) (λhHeld=>?_);clear hK KK;try simp only[Act.put,tA_,tB_,tC_]
 refine on_ 8 λKK hK=>?_;refine aq_ [Q_ (ei (restW p b))] (ra_ e _) ?_;rintro a3 X ⟨F,z,_,_,E,D,rfl⟩;replace a:=(a.below q_).grown (ra_ e _) C C z;have N:=a.cell.2.2.1;have Z:=a.cell.2.2.2.2;have L:=Y (Al F a.q C (j:=2) (u:=L_ E (b+1) D));rw[<- map_singleton,<- map_append,<- Zeg] at L;replace a:=Y (a.put 2 (L_ E (b+1) D) rfl);clear F z e w R;refine hK _ _ N (λhHeld=>?_);clear hK KK;refine K_ ?_;refine le_ ?_;go_wp2;go_roundw;case rel=>grind
 case measure=>exact z_
def Yd(a:List Int):ES:=if a.headD 0=119 then⟨true,[],Vf (a.drop 3) (a.getD 2 0).toNat⟩ else⟨false,Ss (a.drop 3) (a.getD 2 0).toNat,[]⟩
def rdR(a:List Int):List Int:=if a.headD 0=119 then restW (a.drop 3) (a.getD 2 0).toNat else(a.drop 3).drop (4*(a.getD 2 0).toNat)
def rdD(a:List Int):Nat:=(a.getD 1 0).toNat
theorem np(a:List Int):(strOfNums a).size=a.length:=by show(strOfNums a).data.size=_;simp[strOfNums]
theorem ti(b:List Int):∀a,(restW b a).length<=b.length
 |0=>x_
 |a+1=>by have:=ti b a;simp only[restW,tb,length_drop,length_tail];omega
def ZgY{a:List Int}(f:a.length<=140737488355328)(c:∀x∈a,0<=x/\x<=255):(Yd a).g.length<=255/\(Yd a).c.length<=255/\∀b∈(Yd a).c,b.size<=200000000000000:=by
 have e:=Il c 2;unfold Yd;split
 ·refine⟨s_,by rw[cg];omega,λb d=>?_⟩;obtain⟨g,_,rfl⟩:=mem_map.1 d
  grind [ti,ei,np]
 refine⟨by rw[ae];omega,s_,s_⟩
def qt(e:Nat)(a:List Int)(b:World)(i:Ci b e a):Calls prog 224 #[P_ e] b λh d=>∃f g,h=.returned (.agg #[.bool (Yd a).a,f,g,.int .i64 (rdD a:Nat)])/\Ad d b.1.size f (Yd a).g/\Bi d b.1.size g (Yd a).c/\Ci d e (rdR a)/\Aa (λc=>c=e) b d:=by
 have n:((rdD a:Nat):Int)=a.getD 1 0:=(by have:=Il i.a 1;unfold rdD;omega);rw[n]
 by_cases c:a.headD 0=119
 unfold Yd rdR;rw[aD c,aD c];apply (ma _ a b i c).m;rintro h d ⟨g,j,k,l,m⟩;exact⟨N_,g,j,Ad.nil _ _,k,l,m⟩;unfold Yd rdR;rw[aC c,aC c];apply (qu _ a b i c).m;rintro h d ⟨f,j,k,l,m⟩;exact⟨f,N_,j,k,Bi.nil _ _,l,m⟩
def Wb(b:List Int):Nat->Option (List KS×List Int)
 |0=>some ([],b)
 | d+1=>match Wb b d with
  |none=>none
  |some (c,a)=>if(Zy (Yd a)&&Og (Yd a) (rdD a:Nat))=true then some (c++[⟨Yd a,rdD a⟩],rdR a) else none
def ZiZ(a:List Int){k n:Nat}(d:Wb a k=none)(e:k<=n):Wb a n=none:=by
 induction n with
 |zero=>grind
 | succ n b=>
  by_cases c:k=n+1
  ·grind
  simp only[Wb,b O]
def Jk.E{g l:World}{c:Nat}{q v' h i:Value}{f:List (Value×Value)}{a:List KS}{K:KS}(d:Jk c g q f a)(w:Ad g c h K.e.g)(x:Bi g c i K.e.c)(s:g.grownBy l q.ownBlock)(v:l.ownsRow 0 172 4 v' (a.length+1) (Ha a f++Bs K (h,i))):Jk c l v' (f++[(h,i)]) (a++[K]):=by
 have p:=(Aa.refl _ g).grown s (λo b _=>b)
 have t:∀{k:Value} {m:List Int},Ad g c k m->Ad l c k m:=λj=>p.row j (λo b e=>by
  have⟨r,n⟩:=Ac j b
  exact Ah d.row e n C rfl)
 have u:∀{k:Value} {m:List ByteArray},Bi g c k m->Bi l c k m:=λj=>p.row j (λo b e=>by
  have⟨r,n⟩:=Ac j b
  exact Ah d.row e n C rfl)
 refine⟨?_,by simp[d.len],λb o=>?_⟩;rw[Oe _ _ _ _ d.len,Qe];exact v;rw[Qe] at o;simp at o
 by_cases e:b<a.length
 have n:(f++[(h,i)]).getD b Ld=f.getD b Ld:=(by simp[getD,getElem?_append_left (show b<f.length by rw[d.len];exact e)]);have r:(a++[K]).getD b Ai=a.getD b Ai:=w_;rw[n,r];exact⟨t (d.j b e).1,u (d.j b e).2⟩
 have r:b=a.length:=O;subst r;have n:(f++[(h,i)]).getD a.length Ld=(h,i):=by simp[getD,d.len.s]
 grind
structure FtS(c wr:World)(d e:Nat)(h:List Int)(b:Value)(g:List (Value×Value))(f:List KS):Prop where
 r:wr.1[d]? =some (O_ #[b,N_,N_] 168)
 q:Jk c.1.size wr b g f
 u:Ci wr e h
 t:Aa (λa=>a=e∨a=d) c wr
 B:∀a,b.ownBlock=some a->c.1.size<=a
section
variable {w wr w2:World} {db a:Nat} {l c:List Int} {b:Value} {kvs:List (Value×Value)} {Ks:List KS}
def FtS.step(d:FtS w wr db a l b kvs Ks)(h:Ci w2 a c)(g:Aa (λf=>f=a) wr w2):FtS w w2 db a c b kvs Ks:=by
 have⟨S,n,_⟩:=d.u.q;refine⟨g.g d.r (λe=>?_),d.q.p g (λf i o k m e=>?_),h,d.t.T (g.m (λf _ e=>.inl e)),d.B⟩
 ·have j:=d.r
  grind
 grind
def FtS.below(c:FtS w wr db a l b kvs Ks)(d:E_ wr w2):=c.step (c.u.below d) (.a d)
def FtS.cell(c:FtS w wr db a l b kvs Ks):wr.cell? (J db 0)=some b:=G_ 0 _ 168 (0,0) c.r
end
structure KbX(e:World)(b:Nat)(f:Bool)(c d:Value)(a:Nat):Prop where
 r:e.1[b]? =some (O_ #[.bool f,c,d,I (a:Nat)] 172)
section
variable {w w2:World} {a d:Nat} {wd:Bool} {vb vw:Value}
def KbX.below(b:KbX w a wd vb vw d)(c:E_ w w2):KbX w2 a wd vb vw d:=⟨(c.block _ (Qb b.r).1).T b.r⟩
def KbX.v(b:KbX w a wd vb vw d):w.cell? (J a 0)=some (.bool wd):=G_ 0 _ 172 (0,0) b.r
def KbX.z(b:KbX w a wd vb vw d):w.cell? (J a 1)=some vb:=G_ 1 _ 172 (0,0) b.r
def KbX.q(b:KbX w a wd vb vw d):w.cell? (J a 2)=some vw:=G_ 2 _ 172 (0,0) b.r
def KbX.e(b:KbX w a wd vb vw d):w.cell? (J a 3)=some (I (d:Nat)):=G_ 3 _ 172 (0,0) b.r
end
structure FtT(b wr:World)(i l:Nat)(k:List Int)(d:Value)(j:List (Value×Value))(g:List KS)(c:Nat)(a:ES)(h:Nat)(e f:Value):Prop where
 q:FtS b wr i l k d j g
 w:Ad wr b.1.size e a.g
 os:Bi wr b.1.size f a.c
 n:KbX wr c a.a e f h
 o:¬d.ownBlock=some c
section
variable {w wr w2 w3:World} {db c b d:Nat} {l f:List Int} {a vb vw v6:Value} {kvs:List (Value×Value)} {Ks:List KS} {e:ES}
def FtT.below(f:FtT w wr db c l a kvs Ks b e d vb vw)(g:E_ wr w2):FtT w w2 db c l a kvs Ks b e d vb vw:=⟨f.q.below g,f.w.below g,f.os.below g,f.n.below g,f.o⟩
def FtT.cells(f:FtT w wr db c l a kvs Ks b e d vb vw):wr.cell? (J db 0)=some a/\wr.cell? (J b 0)=some (.bool e.a)/\wr.cell? (J b 1)=some vb/\wr.cell? (J b 2)=some vw/\wr.cell? (J b 3)=some (I d):=⟨f.q.cell,f.n.v,f.n.z,f.n.q,f.n.e⟩
def FtT.start(b:FtS w wr db c l a kvs Ks)(h:Ad w2 wr.1.size vb e.g)(i:Bi w2 wr.1.size vw e.c)(j:Ci w2 c f)(m:Aa (λk=>k=c) wr w2):FtT w (w2.alloc (O_ #[.bool e.a,vb,vw,I d] 172)) db c f a kvs Ks w2.1.size e d vb vw:=
 have g:=b.step j m
 ⟨g.below q_,Ad.below (Ce h b.t.size) q_,Bi.below (Ce i b.t.size) q_,⟨hn_⟩,λe=>Nat.lt_irrefl _ (B_ g.q.row _ e).2⟩
def FtT.E(f:FtT w wr db c l a kvs Ks b e d vb vw)(i:wr.grownBy w3 a.ownBlock)(p:w3.ownsRow 0 172 4 v6 (Ks.length+1) (Ha Ks kvs++[.bool e.a,vb,vw,I d]))(u:v6.ownBlock=a.ownBlock∨v6.ownBlock=some wr.1.size):w3.1[db]? =some (O_ #[a,N_,N_] 168)/\KbX w3 b e.a vb vw d/\Hid (FtS w (w3.setCell (J db 0) v6) db c l v6 (kvs++[(vb,vw)]) (Ks++[⟨e,d⟩])):=by
 have j:=(Aa.refl _ _).grown i (λg h _=>h);have hK:=f.q.q.E (K:=⟨e,d⟩) f.w f.os i p;have k:=j.g f.q.r (λe=>Ah f.q.q.row e f.q.r C rfl);have⟨o,m,q,r⟩:=f.q.u.q;have s:=j.g m (λe=>Ah f.q.q.row e m C rfl);have n:Aa _ _ (w3.setCell _ v6):=(Aa.refl (λg=>g=db) _).setCell (p:=J _ 0) (λ_=>rfl) _;refine⟨k,⟨j.g f.n.r f.o⟩,⟨hs_ _ db 0 _ 168 _ k,hK.p n (λg t y h x e=>?_),⟨o,n.g s (λe=>?_),q,r⟩,(f.q.t.grown i (λg h v=>absurd (f.q.B g h) O)).setCell (p:=J db 0) (λ_=>.inr rfl) _,λg h=>?_⟩⟩
 ·grind
 ·grind
 have:=f.q.B g;have:=f.q.t.size
 grind
end
def ZiY{d c b a}(e:Wb d c=some (b,a)):Wb d (c+1)=if(Zy (Yd a)&&Og (Yd a) (rdD a:Nat))=true then some (b++[⟨Yd a,rdD a⟩],rdR a) else none:=by simp only[Wb,e]
def FtE(e f:World)(a d:Nat)(i:Option (List KS×List Int))(b:Ending):Prop:=match i with
 |none=>b=.returned (.bool false)/\Aa (λc=>c=d∨c=a) e f
 |some (g,j)=>b=.returned (.bool true)/\∃k h,FtS e f a d j k h g
def ay(p s c:Nat)(e:List Int)(l:World)(q:Ci l s e)(N:l.1[p]? =some (O_ #[N_,N_,N_] 168))(a4:c<=1000):Calls prog 166 #[P_ p,P_ s,I (c:Nat)] l λL m=>FtE l m p s (Wb e c) L:=by
 have a:Hid (FtS l l _ _ e _ [] []):=⟨N,⟨rn_,rfl,s_⟩,q,Aa.refl _ _,by simp[ownBlock]⟩;clear q N;refine v_ ?_;go_wp2_with fail
 go_loopw [9] (λb f=>∃(d:Nat) (o:List KS) (k:List Int) (T:Value) (R:List (Value×Value)),b=.int .i64 d/\d<=c/\o.length<=d/\Hid (Wb e d=some (o,k))/\Hid (FtS l f p s k T R o)) (λb _=>c-(intOf b).toNat)
 case atStart=>exact⟨0,[],e,_,_,rfl,r_,x_,rfl,a⟩
 clear a;obtain⟨d,o,k,T,R,rfl,a5,a6,K,a⟩:=hrel
 by_cases W:d<c
 case neg=>
  obtain rfl:d=c:=O;go_wp2;go_ret;show FtE _ _ _ _ (Wb e d) _;rw[K];exact⟨rfl,_,_,a⟩
 have⟨b8,b9,a0⟩:=ZgY a.u.len a.u.a;have⟨u,v⟩:=Z_ (ZiY K) (λq=>ZiZ e (k:=d+1) (n:=c) q W);have E:=qt _ k _ a.u;obtain⟨a7,a9,rfl⟩:=(a.q.m r_).a;clear K;generalize Yd k=b,rdD k=n,rdR k=a2 at *;have U:b.b<=1000000:=(by unfold ES.b Kr;split<;>omega);go_wp2_with fail
 apply E.m;rintro L w2 ⟨b3,b4,rfl,B,D,P,Q⟩;obtain⟨w,y,rfl⟩:=B.shape;obtain⟨x,z,rfl⟩:=D.b;go_upto_region 4 with fail;replace a:=Y (FtT.start (d:=n) a B D P Q);clear B D P Q E;generalize w2.alloc (O_ #[.bool b.a,V w b.g.length y,V x b.c.length z,I n] 172)=b5,w2.1.size=a8 at *;have⟨f,g,h,i,j⟩:=a.cells;go_wp2_with fail
 apply (Zgu b _ _ _ _ _ _ _ _ a.w a.os rfl rfl O O a0).m;rintro Z b6 ⟨rfl,F⟩;replace a:=Y (a.below F);clear F f g h i j;have⟨f,g,h,i,j⟩:=a.cells
 cases r:Zy b
 ·have m:=v (by rw[u,r];simp);go_wp2;go_ret;show FtE _ _ _ _ (Wb e c) _;rw[m];exact⟨rfl,a.q.t⟩
 go_wp2_with fail
 apply (Vr b _ _ _ _ _ _ _ _ _ rfl rfl U).m;rintro Z X ⟨rfl,G⟩;replace a:=Y (a.below G);clear G f g h i j
 cases A:Og b n
 ·have m:=v (by rw[u,r,A];simp);go_wp2;go_ret;show FtE _ _ _ _ (Wb e c) _;rw[m];exact⟨rfl,a.q.t⟩
 rw[r,A] at u;clear v r A;have⟨f,g,h,i,j⟩:=a.cells;go_upto_region 6 with fail;refine Af (λm=>m.cell? _=some _/\m.cell? _=some _/\m.cell? _=some _/\m.cell? _=some _/\m.cell? _=some _) 10 k_ ⟨f,g,h,i,j⟩ (λhHeld=>?_);refine K_ ?_;refine on_ 6 λKK hK=>?_;go_simp;refine hK _ _ ⟨X_ f,X_ g,X_ h,X_ i,X_ j⟩ (λhHeld=>?_);clear hK KK f g h i j;try simp only[Act.put,tA_,tB_,tC_]
 refine on_ 7 λKK hK=>?_;replace a:=Y (a.below (w2:=(X.alloc (O_ #[.bool b.a,V w b.g.length y,V x b.c.length z,I n] 172)).drew) q_.drew);refine aq_ [.bool b.a,V w b.g.length y,V x b.c.length z,I n] (Ce a.q.q.row r_) ?_;rintro b2 b7 ⟨S,M,H,_,b1,b0,rfl⟩;have⟨t,m,a1⟩:=a.E M S (H.imp id And.left);have a3:=R_ 0 _ _ t;refine hK _ _ ⟨n_ 0 t,m.v,m.z,m.q,m.e⟩ (λhHeld=>?_);clear hK KK S M H a t m;refine K_ ?_;refine le_ ?_;go_wp2;go_roundw;case rel=>grind
 case measure=>exact z_
def lstK(a:List Int):List Int:=(range (a.headD 0).toNat).map λb=>a.tail.getD b 0
def lstR(a:List Int):List Int:=a.tail.drop (a.headD 0).toNat
def xv(d:Nat)(a:List Int)(e:World)(q:Ci e d a):C_ 227 #[P_ d] e λf c=>∃b,f=.returned b/\Ad c e.1.size b (lstK a)/\Ci c d (lstR a)/\Aa (λk=>k=d) e c:=by
 have R:=Il q.a 0;have S:a.headD 0=a.getD 0 0:=(by have:=Fr a 0;grind);obtain⟨b,E⟩:∃b:Nat,a.headD 0=(b:Int):=⟨(a.headD 0).toNat,O⟩;have U:b<=255:=O
 have p:K (lstK a=Cp (λg=>a.tail.getD g 0) b b/\lstR a=a.tail.drop b):=by have f:(a.headD 0).toNat=b:=O;exact⟨by rw[Id];unfold lstK;rw[f],by unfold lstR;rw[f]⟩
 have t:K (∀(i:World) (a:List Int) (s:Int),a.headD 0=s->Ci i d a->C_ 165 #[P_ d] i λf c=>f=.returned (.int .i64 s)/\Ci c d a.tail/\Aa (λk=>k=d) i c):=λi a s L A=>by rw[<- L];exact Dz d a i A
 have j:=t e a (b:Int) E q;have T:=Gf b O;have W:=q.lt;have⟨c,D⟩:=Y_ a.tail;rw[D] at p j;generalize lstK a=M at *;generalize lstR a=N at *;refine v_ ?_;go_wp2_with fail
 apply j.m;rintro f h ⟨rfl,F,H⟩;have l:=T_ F H;go_wp2_with fail
 go_loopw [10] (λm n=>∃k:Nat,m=.int .i64 k/\k<=b/\K (Ad n e.1.size (.slice (some ⟨h.1.size,0,none⟩) b b) (Cp (λg=>c.getD g 0) b k))/\K (Ci n d (c.drop k)/\Aa (λk=>k=d) e n)) (λm _=>b-(intOf m).toNat)
 case atStart=>
  refine⟨0,rfl,r_,?_,?_,?_⟩;rw[Ie];exact Ge b h e.1.size O l.2.size;exact l.1.below q_;exact l.2.alloc _
 obtain⟨k,rfl,B,n,o⟩:=hrel
 by_cases w:k<b
 ·have⟨P,Q⟩:=F_ k b;have j:=t wr (c.drop k) (c.getD k 0) (Fr c k) o.1;rw[Ih] at j;go_wp2_with fail
  apply j.m;rintro f m ⟨rfl,G,x⟩;have u:Ad m e.1.size (L_ h.1.size b b) (Cp (λg=>c.getD g 0) b k):=x.row n (λr g f=>p_ (B_ n r g).1);have v:=Fd (λg=>c.getD g 0) B;have⟨a0,a1⟩:=u.c v.s w;have⟨y,Z⟩:=u.put (k:=k) v.s (c.getD k 0);rw[Jz (λg=>c.getD g 0) w] at y;have X:=l.2.size;have z:K (Ci (m.setCell (J h.1.size k) (I (c.getD k 0))) d (c.drop (k+1))/\Aa (λk=>k=d) e (m.setCell (J h.1.size k) (I (c.getD k 0)))):=(by exact⟨G.p ((Aa.refl (λr=>r=h.1.size) m).setCell (p:=(J h.1.size k)) (λ_=>rfl) _) O,(o.2.T x).setCell (p:=(J h.1.size k)) (λg=>by simp at g;omega) _⟩);generalize c.getD k 0=g at *;go_wp2;go_roundw;exact⟨k+1,g_,O,y,z⟩;exact z_
 have m:¬(k:Int)<(b:Int):=O;have g:k=b:=O;subst g;go_wp2;go_ret;rw[p.1,p.2];exact⟨_,rfl,n,o⟩
def Dj(b:List Int):Bool:=b.all λa=>decide (a=1)
def Zco(g:Option Addr)(c h o:Nat)(b:List Int)(d:World)(p:Ad d o (V g c h) b)(k:b.length=c)(y:c<=1000000):C_ 232 #[V g c h] d (V_ (.bool (Dj b)) d):=by
 refine v_ ?_;go_wp2_with fail
 go_loopw [7] (λe f=>∃a:Nat,e=.int .i64 a/\a<=c/\K (Dj (b.take a)=true)/\f=d) (λe _=>c-(intOf e).toNat)
 exact⟨0,rfl,r_,rfl,rfl⟩;obtain⟨a,rfl,w,n,s⟩:=hrel;subst s
 by_cases j:a<c
 ·obtain⟨z,rfl,_,_,A,_⟩:=p.b k j;have r:a<b.length:=k ▸ j;have q:b.take (a+1)=b.take a++[b.getD a 0]:=(by rw[Qi r];grind);have x:b.getD a 0∈b:=w_
  have m:K (b.getD a 0=1->Dj (b.take (a+1))=true):=λi=>by unfold Dj;rw[q,all_append,i];have:=n.out;unfold Dj at this;rw[this];rfl
  have l:K (¬b.getD a 0=1->Dj b=false):=λi=>by grind [Dj]
  have⟨u,v⟩:=F_ a c;generalize b.getD a 0=t at *
  by_cases f:t=1
  ·have e:=m f;subst f;go_wp2;go_roundw;exact⟨a+1,g_,O,e,trivial⟩;exact z_
  have e:=Y (l f);go_wp2;go_ret;exact⟨by rw[e];rfl,rfl⟩
 have f:¬(a:Int)<(c:Int):=O;have e:K (Dj b=true):=w_;go_wp2;go_ret;exact⟨by rw[e];rfl,rfl⟩
structure DkX(a:World)(b:Nat)(c:Value)(e:List (Value×Value))(d:List KS):Prop where
 v:a.cell? (J b 0)=some c
 lt:b<a.1.size
 q:ZfF a c e d
def DkX.below{g h:World}{d:Nat}{f:Value}{e:List (Value×Value)}{c:List KS}(a:DkX g d f e c)(b:E_ g h):DkX h d f e c:=
 ⟨W_ b a.v,Qh a.lt b.size,a.q.below b⟩
def Cz(a:List KS)(c:List Int):Nat:=(c.map λb=>(a.getD b.toNat Ai).e.b+2).sum
def Zcw(c:List KS)(a:List Int){b:Nat}(e:b<a.length):Cz c (a.take (b+1))=Cz c (a.take b)+((c.getD (a.getD b 0).toNat Ai).e.b+2):=by have d:a.take (b+1)=a.take b++[a.getD b 0]:=(by rw[Qi e];grind);unfold Cz;rw[d];simp
def zo(c:List KS)(e:∀K∈c,K.e.b<=16):∀a:List Int,(∀b∈a,0<=b/\b<c.length)->Cz c a<=18*a.length
 |[],_=>by simp[Cz]
 | b::a,d=>by
  have h:=zo _ e a (λg f=>d g (by simp[f]));have f:=d b s_
  grind [Cz]
def iz(r f q E:Nat)(p:Option Addr)(W:Value)(T:List (Value×Value))(a:List KS)(d:List Int)(g:World)(L:DkX g r W T a)(H:Ad g E (V p f q) d)(v:d.length=f)(b0:f<=1000)(j:∀b∈d,0<=b/\b<a.length)(t:∀K∈a,K.e.b<=16):C_ 230 #[P_ r,V p f q] g (U_ (.int .i64 (Cz a d:Nat)) g):=by
 have z:Hid (∀e,E_ g e->_):=λe m=>L.below m;have A:Hid (∀e,E_ g e->_):=λe m=>H.below m;have o:=Y j;refine v_ ?_;go_wp2_with fail
 go_loopw [5,10] (λi h k=>∃c:Nat,h=.int .i64 c/\c<=f/\i=.int .i64 (Cz a (d.take c):Nat)/\Hid (E_ g k)) (λ_ h _=>f-(intOf h).toNat)
 exact⟨0,rfl,r_,rfl,y_⟩;obtain⟨c,rfl,a8,rfl,h⟩:=hrel
 by_cases j:c<f
 ·have R:=v ▸ j;obtain⟨b5,rfl,_,_,X,_⟩:=(A wr h).b v j;have S:d.getD c 0∈d:=w_;have M:=o _ S;have i:=Y (Zcw a _ R);have Q:=zo _ t (d.take c) (λx k=>o x (aL k));rw[length_take] at Q;obtain⟨b,N⟩:∃b:Nat,d.getD c 0=(b:Int):=⟨(d.getD c 0).toNat,O⟩;rw[N] at X M i;have P:b<a.length:=O;rw[Int.toNat_natCast] at i;have u:=z _ h;obtain⟨b2,b1,B,F,D,G,rfl,a9,a4,a5,a6,_,_,_⟩:=u.q.at P;have a7:=t (a.getD b Ai) w_;have a3:=u.v;have n:Hid (∀e,C_ 146 _ e (U_ (.int .i64 (((a.getD b Ai).e.b:Nat)+2)) e)):=λe=>Fm _ B D _ F _ G e (by show(a.getD b Ai).e.b<=_;omega);have⟨Z,a0⟩:=F_ c f;have⟨a1,a2⟩:=F_ b a.length;generalize (a.getD b Ai).e.g.length=b3 at *;generalize (a.getD b Ai).e.c.length=b4 at *
  generalize (a.getD b Ai).e.a=b8 at *;generalize (a.getD b Ai).e.b=l at *;generalize Cz a (d.take c)=k at *;go_wp2_with fail
  apply (n _).m;rintro x b7 ⟨rfl,s⟩;have y:=Y (h.T (s.m h.size));have U:i64.wrap ((k:Int)+((l:Int)+2))=((k+(l+2):Nat):Int):=(by rw[As O O];omega);have⟨b6,w⟩:=M_ (k+(l+2));rw[<- w] at U i;clear s w h n;go_wp2;go_roundw;exact⟨c+1,g_,O,by rw[i],y⟩;exact z_
 have k:¬(c:Int)<(f:Int):=O;have i:Hid (Cz a (d.take c)=Cz a d):=w_;go_wp2;go_ret;rw[<- i];exact⟨rfl,h⟩
def Ul(b:List KS)(a:List Int):Bool:=(a.all λc=>decide (c<b.length))&&(decide (0<a.length)&&decide (Cz b a<=40))
def Zdl(p c k x:Nat)(j:Option Addr)(G:Value)(F:List (Value×Value))(d:List KS)(a:List Int)(f:World)(l:DkX f p G F d)(q:Ad f x (V j c k) a)(m:a.length=c)(D:c<=1000)(g:∀e∈a,0<=e)(B:∀K∈d,K.e.b<=16):C_ 228 #[P_ p,V j c k] f (U_ (.bool (Ul d a)) f):=by
 have v:=Y g;have u:=Y (λs=>iz _ c k _ j _ _ _ _ f l q m D s B);obtain⟨Q,R,rfl⟩:=l.q.a;have H:=l.v;generalize M:d.length=h at *;refine v_ ?_;go_wp2_with fail
 go_loopw [9] (λi n=>∃b:Nat,i=.int .i64 b/\b<=c/\Hid (((a.take b).all λe=>decide (e<d.length))=true)/\n=f) (λi _=>c-(intOf i).toNat)
 exact⟨0,rfl,r_,rfl,rfl⟩;obtain⟨b,rfl,s,w,E⟩:=hrel;subst E
 by_cases g:b<c
 ·have y:=m ▸ g;obtain⟨S,rfl,_,_,T,_⟩:=q.b m g;have N:a.getD b 0∈a:=w_;have L:a.take (b+1)=a.take b++[a.getD b 0]:=(by rw[Qi y];grind);have t:Hid (a.getD b 0<(h:Int)->((a.take (b+1)).all λe=>decide (e<d.length))=true):=w_
  have r:Hid (¬a.getD b 0<(h:Int)->Ul d a=false):=λn=>by grind [Ul]
  have⟨z,A⟩:=F_ b c;generalize a.getD b 0=o at *
  by_cases n:o<(h:Int)
  ·have i:=Y (t n);have P:¬(h:Int)<=o:=O;go_wp2;go_roundw;exact⟨b+1,g_,O,i,trivial⟩;exact z_
  have i:=Y (r n);go_wp2;go_ret;exact⟨by rw[i];rfl,y_⟩
 have N:¬(b:Int)<(c:Int):=O
 have L:(a.all λe=>decide (e<d.length))=true:=by
  have:=w.out
  grind
 have n:Hid (Ul d a=(decide (0<c)&&decide (Cz d a<=40))):=(by show _=_;unfold Ul;grind);have z:=u (λe i=>⟨v e i,w_⟩);generalize Cz d a=t at *
 by_cases r:0<c
 ·have y:decide ((0:Int)<(c:Int))=true:=t_
  have i:Hid (Ul d a=decide ((t:Int)<=40)):=by
   show _=_;rw[n,aF r,Bool.true_and]
   grind
  go_wp2_with fail
  apply z.m;rintro o P ⟨rfl,A⟩;go_wp2;go_ret;exact⟨by rw[i];rfl,A⟩
 have y:decide ((0:Int)<(c:Int))=false:=t_;have i:Hid (Ul d a=false):=(by show _=_;rw[n,aE r];rfl);go_wp2;go_ret;exact⟨by rw[i];rfl,y_⟩
end Go.Proofs.YtfcgnpchbcmdeaaGreat
