import Derived.Test.YtfcgnpchbcmdeaaGreatZoao
namespace Go.Proofs.YtfcgnpchbcmdeaaGreat
set_option linter.all false
set_option maxRecDepth 100000
set_option maxHeartbeats 4000000
open Go.RowKit List Nat World Go.Proofs.Tryz Value IntKind Lib Region
def iw(a:World) b c (d:a.1.size=c):(a.alloc b).1[c]? =some b:=by subst d;exact ha_ a b
def Hl(a:Nat):OpD:={a:=2,n:=0,w:=0,c:=none,A:=0,e:=0,k:=0,size:=0,b:=0,i:=some (J a 0),vl:=3,h:=3,j:=some (J (a+1) 0),d:=3,l:=3,g:=⟨#[]⟩,x:=0,y:=0,r:=λ_=>false,fs:=λ_=>0,q:=λ_=>0,o:=[5,3,5],p:=[1,2,4]}
def qo{d f}(a:Zmm d f):OpR f (Hl d.1.size):=by
 have g:=a.size;refine⟨by simp[Hl],by simp[Hl,maxLen],by simp[Hl,maxLen],?_,?_,?_,λb=>by simp[Hl] at b,λb=>by simp[Hl] at b⟩;exact .inl rfl
 ·refine⟨rfl,(by intro e c;simp[Hl] at c;rcases c with rfl|rfl|rfl<;>decide),.inr ⟨d.1.size,0,rfl,O,λc e=>?_⟩⟩;have b:c=0∨c=1∨c=2:=by simp[Hl] at e;omega
  rcases b with rfl|rfl|rfl
  exact a.l;exact a.n;exact a.o
 refine⟨rfl,(by intro e c;simp[Hl] at c;rcases c with rfl|rfl|rfl<;>decide),.inr ⟨d.1.size+1,0,rfl,O,λc e=>?_⟩⟩;have b:c=0∨c=1∨c=2:=by simp[Hl] at e;omega
 rcases b with rfl|rfl|rfl
 exact a.c;exact a.d;exact a.k
theorem My{f:World}{g h j a:Nat}{e k}(i:f.ownsRow g h j e a k):∃c d,e=.slice c a d/\(0<a->∃b,c=some ⟨b,0,none⟩/\b<f.1.size):=by
 rcases i.2 with⟨rfl,m⟩|⟨b,d,l,rfl,_,n,_⟩
 ·grind
 grind
theorem Pd{d:World}{f g c j b:Nat}{e}(h:d.ownsRow f g 1 (L_ b c j) c e){a x}(i:e[a]? =some x):d.cell? (J b a)=some x:=by
 have:=World.ownsRow.cells h (g:=b) rfl a x i;have k:((J b 0):Addr).add a=(J b a):=by unfold Addr.add;split<;>simp_all
 grind
def OpR.below{d e c}(a:OpR d c)(b:E_ d e):OpR e c:=
 ⟨a.A,a.vl,a.d,a.c.below b,Ex a.o b (Tr a.o),Ex a.p b (Tr a.p),a.e,a.g⟩
def Zhd(b:World):Hp (b.alloc (O_ #[N_,N_,N_,N_,N_,N_,N_,N_,N_,N_,N_,N_,I 0] 90)) b.1.size #[N_,N_,N_,N_,N_,N_,N_,N_,N_,N_,N_,N_,I 0] [] 0:=by refine⟨V _ 0 0,V _ 0 0,V _ 0 0,[],[],[],ha_ b _,rfl,rfl,rfl,rfl,rfl,rn_,rn_,Ad.nil _ _,.inl rfl,rfl,rfl,s_,s_,λc a=>by simp at a,λc a=>by simp at a⟩
end Go.Proofs.YtfcgnpchbcmdeaaGreat
namespace Go.Proofs.YtfcgnpchbcmdeaaGreat
set_option linter.all false
set_option maxRecDepth 100000
set_option maxHeartbeats 4000000
open Go.ChangeShapes Go.WideShapes Go.ChangeAt Go.RowKit List Nat World Go.Proofs.Tryz Value IntKind Lib Region
open Go.Deep
def Zii{b}(a:DataW b):1<=Rows.uptoBulk a:=by
 cases a with
 |lit c=>cases c<;>simp[Rows.uptoBulk]
 |_=>simp[Rows.uptoBulk]
def jd{b}:∀a:List (DataW b),a.length<=Rows.uptoBulkAll a
 |[]=>s_
 |c::d=>by have:=Zii c;have:=jd d;simp[Rows.uptoBulkAll];omega
def zv{d}:∀c (a:DataW d),a∈c->Rows.uptoBulk a<=Rows.uptoBulkAll c
 |[],a,b=>by cases b
 | f::e,a,b=>by
  simp only[Rows.uptoBulkAll]
  rcases mem_cons.1 b with rfl|b
  omega;have:=zv e a b;omega
section
variable {H:Type} {enc:TypeId×Value->H} {w:World} {a:Bool}
end
end Go.Proofs.YtfcgnpchbcmdeaaGreat
namespace Go.Proofs.YtfcgnpchbcmdeaaGreat
set_option linter.all false
set_option maxRecDepth 100000
set_option maxHeartbeats 4000000
open Go.RowKit List Nat World Go.Proofs.Tryz Value IntKind Lib Region
def Zjv(a:Int):ByteArray:=({data:=#[109,97,114,107]}:ByteArray)++strOfNums [a%256,a/256%256]
def rj.below{m d e:World}{g f k j l i c h}(a:rj m d g f k j l i c h)(b:E_ d e):rj m e g f k j l i c h:=
 ⟨(Aa.a (S:=λ_=>False) b).row a.row (λ_ _=>id),a.u.below b,a.v.below b a.v.lt⟩
def xi j i l B q h r v a g (P:WB g j i)(M:i[8]? =some B)(N:i[9]? =some q)(L:i[12]? =some (I a))(z:Bi g 0 l h)(S:g.ownsRow 0 47 1 B r.length r)(R:g.ownsRow 0 9 1 q v.length v)(Q:q.ownBlock=none∨q.ownBlock≠l.ownBlock)(b8:h.length<=4194304)(b9:r.length<=100000000)(c0:v.length<=100000000)(a5:0<=a/\a<=100000000):C_ 143 #[.pointer (some (J j 4)),l] g λd b=>d=.returned (.tuple #[])/\∃U T e,Yv g b j 8 i 47 9 (λc=>Do c 9 (Q_ (Zjv (a+1)))) (Q_ (Zjv (a+1))) l B q r v (a+1) U T e:=by
 obtain⟨F,G,rfl⟩:=z.a;have E:K (_=(h.map string).length):=(length_map _).s;obtain⟨f,d,Z,p,u⟩:=Za9 (I (a+1)) (Se (h.map string) (Q_ (Zjv (a+1)))) P (by rw[Zj];exact z) S R Q M N L;generalize h.length=k,h.map string=W at *;obtain⟨c1,c2⟩:=a5;have⟨c,t⟩:=ez_ (Zjv (a+1));rw[t] at d ⊢;clear P z S R Q M N L;have b0:_/2^8=(a+1)/256:=rfl;refine v_ ?_;go_upto_region 1 with fail;generalize g.setCell (J j 12) (I (a+1))=s at *;clear Z p
 have a3:(convert 66 9 (L_ s.1.size 2 2)).run prog (s.alloc (O_ #[.int .u8 (IntKind.u8.wrap (a+1)),.int .u8 (IntKind.u8.wrap ((a+1)/256))] 5)).drew=.ok (Q_ (strOfNums [(a+1)%256,(a+1)/256%256])) (s.alloc (O_ #[.int .u8 (IntKind.u8.wrap (a+1)),.int .u8 (IntKind.u8.wrap ((a+1)/256))] 5)).drew:=by
  have e:∀b:_,IntKind.u8.wrap b=b%256:=λb=>by simp only[wrap,IntKind.bits,signed];simp
  apply Ou _ 0 _ _;rw[e,e];exact World.ownsRow.drew (ownsRow_lit (base:=0) (size:=1) (e:=5) _ _ 2 r_ m_ rfl)
 unfold Zjv at t;have a4:¬9223372036854775807<4+(strOfNums [(a+1)%256,(a+1)/256%256]).size:=(by simp[strOfNums,ByteArray.size]);generalize strOfNums [(a+1)%256,(a+1)/256%256]=c5 at *;go_cut [4] (λl b=>l=.string c/\K (E_ s b))
 case first=>
  refine Af (λb=>b.cell? _=some _) 14 k_ u (λhHeld=>?_);refine K_ ?_;refine on_ 11 λKK hK=>?_;go_simp;refine hK _ _ (X_ u) (λhHeld=>?_);clear hK KK;refine K_ ?_;refine on_ 12 λKK hK=>?_;go_simp;refine hK _ _ (X_ u) (λhHeld=>?_);clear hK KK;refine K_ ?_;refine le_ ?_;go_wp2;go_meet
  exact⟨by rw[<- t],(by show Below _ _ _;grind [Below.refl,Below.drew,Below.alloc])⟩
 obtain⟨rfl,D⟩:=hcut;replace d:=Y (d.below D);clear a4 a3 u D t b0;go_upto_region 3 with fail;go_loopw [5] (λb n=>∃e:Nat,e<=k/\b=.int .i64 e/\K (rj g n j (i.setIfInBounds 12 (I (a+1))) 9 1 (.slice F k G) k (Se W (.string c)) e)) (λb _=>k-(intOf b).toNat)
 case atStart=>exact⟨0,r_,rfl,d⟩
 clear d;obtain⟨e,b7,rfl,d⟩:=hrel
 by_cases A:e<k
 ·obtain⟨w,rfl⟩:=d.ptr A;have⟨⟨x,n⟩,o,b⟩:=d.next E A f.l;clear d;refine J_ ?_;exact⟨e+1,A,g_,b⟩
 obtain rfl:e=k:=O;have w:=Y (d.E Do.mark (by rw[E,Zi]) m_);clear d;go_wp2_with (at_builtin;refine ap_ [Q_ c] (w.n.row.alloc _) ?_)
 intro d0 s b;have x:=w.E Do.mark (m:=1) f.l b;obtain⟨b1,a6,rfl⟩:=b.2.2.2.2;clear b w;go_wp2_with (at_builtin;refine ap_ [Q_ c,Q_ c] (x.n.row.alloc _) ?_)
 intro d1 c6 b;have y:=x.E Do.mark (m:=2) f.l b;obtain⟨b2,a7,rfl⟩:=b.2.2.2.2;clear b x;go_wp2_with (at_builtin;refine ap_ [Q_ c,Q_ c,Q_ c] (y.n.row.alloc _) ?_)
 intro d2 c7 b;have o:=y.E Do.mark (m:=3) f.l b;obtain⟨b3,a8,rfl⟩:=b.2.2.2.2;clear b y;have a0:=(o.v.cell 8).T f.v;have p:=o.v.frozen;go_wp2_with (at_builtin;refine ap_ [V F e G,L_ b1 (e+1) a6,L_ b2 (e+2) a7,L_ b3 (e+3) a8] ((f.row o).1.alloc _) ?_)
 intro U b5 b;have⟨a2,H,n⟩:=o.F Do.mark f b;obtain⟨b4,a9,rfl⟩:=b.2.2.2.2;clear b o a0 p;go_upto_region 10 with fail;generalize b5.setCell (J j 8) (L_ b4 (r.length+4) a9)=c8 at *;have a1:=n.cell f;have p:=n.v.frozen;clear a2 H;go_wp2_with (at_builtin;refine ap_ [Q_ c,Q_ c,Q_ c,Q_ c] (n.w.alloc _) ?_)
 intro T c9 b;obtain⟨b6,H,X⟩:=n.E Do.mark f q_ rfl b;obtain⟨c4,c3,rfl⟩:=b.2.2.2.2;clear b n a1 p;go_wp2;go_end0;exact⟨rfl,_,_,_,X⟩
def Hc(c:Nat->Nat)(b:Nat):Nat->Nat
 |0=>0
 |a+1=>Hc c b a+c (b+a)*2^a
def Pw{f}(c:∀d,f d<=1) b:∀a,Hc f b a<2^a
 |0=>by simp[Hc]
 |a+1=>by have:=Pw c b a;have e:f (b+a)*2^a<=_:=aK _ (c _);simp only[Hc,Nat.pow_succ];omega
def Gz(c:Nat->Nat)(b a:Nat):Nat:=Hc c (8*a) (min 8 (b-8*a))
theorem jg{c}(d:∀e,c e<=1) b a:Gz c b a<256:=by have f:=Pw d (8*a) (min 8 (b-8*a));have:(2:Nat)^(min 8 (b-8*a))<=2^8:=Nat.pow_le_pow_right C O;unfold Gz;omega
def je b a:Gz b (a+1) (a/8)=Gz b a (a/8)+b a*2^(a%8):=by
 unfold Gz;have c:min 8 (a-8*(a/8))=a%8:=O;have d:min 8 (a+1-8*(a/8))=a%8+1:=O
 grind [Hc]
def jf{b}(d:∀e,b e<=1) a:Gz b a (a/8)<2^(a%8):=by unfold Gz;have c:min 8 (a-8*(a/8))=a%8:=O;rw[c];exact Pw d _ _
theorem ZcC c a {b}(d:b≠a/8):Gz c (a+1) b=Gz c a b:=by grind [Gz]
def Bg(b:Nat->Nat)(d a:Nat):List Int:=(range d).map (λc=>(Gz b a c:Nat))
theorem Dg c a b:(Bg c a b).length=a:=by simp[Bg]
theorem Kc c {d a} b (e:a<d):(Bg c d b).getD a 0=(Gz c b a:Nat):=by simp[Bg,getD,e]
def ll b a:Bg b a 0=replicate a 0:=by apply ext_getElem;simp[Bg];intro e c d;simp[Bg,Gz,Hc]
theorem ai b c a:(Bg b c a).set (a/8) (Gz b (a+1) (a/8):Nat)=Bg b c (a+1):=by
 apply ext_getElem;simp[Bg]
 grind [Bg,ZcC]
def Yp a (b:0<=a)(c:a<2^8):IntKind.u8.wrap a=a:=by simp[wrap,IntKind.bits,signed];omega
def Zcy(a b:Nat)(c:a<256)(d:b<256):=bits_nat .u8 8 C Yp a b O O
def Zdx{x b a}(c:x<2^a):x|||(b*2^a)=x+b*2^a:=by grind [two_pow_add_eq_or_of_lt,Nat.mul_comm]
def Jp(a:Nat):GS:=⟨[],replicate a false,0,0⟩
def Bc(c:List KS)(d:List (List Bool))(f e:Nat)(b:List GS)(a:Nat):List GS:=
 if b.findIdx (Ek (d.getD a []) (c.getD a Ai).a e)<b.length then b.set (b.findIdx (Ek (d.getD a []) (c.getD a Ai).a e)) (Ug (b.getD (b.findIdx (Ek (d.getD a []) (c.getD a Ai).a e)) Fj) a (d.getD a []) (c.getD a Ai).a)
 else b++[Ug (Jp f) a (d.getD a []) (c.getD a Ai).a]
def Hs(d:Nat)(b:List KS)(a:List (List Bool))(e c:Nat):List GS:=(Dl d a).foldl (Bc b a e c) []
structure uc(d c)(b:List GS):Prop where
 len:b.length<=c
 j:∀a∈b,a.out.length=d/\a.g<=400/\a.k<=400/\a.fs.length<=c
def Zag{a b}(c:a.length=b.length):Fx a b<=b.length:=by have:=Tl (Hy a b);rw[Th c] at this;exact this
def uc.step{c g budget Ks Os a f}(e:uc c g a)(p:(Os.getD f []).length=c)(w:c<=200)(u:budget<=20)(v:(Ks.getD f Ai).a<=100):uc c (g+1) (Bc Ks Os c budget a f):=by
 unfold Bc;split
 ·rename_i i;have q:=findIdx_getElem (w:=i);generalize a.findIdx (Ek (Os.getD f []) (Ks.getD f Ai).a budget)=d at *;have n:a.getD d Fj=a[d]:=w_;rw[n];have⟨o,r,s,t⟩:=e.j a[d] (Qf i);simp only[Ek,Bool.and_eq_true,decide_eq_true_eq] at q;refine⟨by rw[length_set];have:=e.len;omega,λh b=>?_⟩
  rcases mem_or_eq_of_mem_set b with b|rfl
  have⟨j,k,l,m⟩:=e.j h b;omega;refine⟨?_,?_,?_,?_⟩;show(orL _ _).length=c;rw[Lx O];exact o;show a[d].g+Fx a[d].out (Os.getD f [])<=400;omega;show a[d].k+_<=400;omega;show(a[d].fs++[f]).length<=g+1;simp;omega
 refine⟨by rw[Qe];have:=e.len;simp;omega,λh b=>?_⟩
 rcases mem_append.1 b with b|b
 have⟨j,k,l,m⟩:=e.j h b;omega;simp only[mem_cons,not_mem_nil,or_false] at b;subst b;have d:(Jp c).out.length=(Os.getD f []).length:=p ▸ length_replicate;refine⟨?_,?_,?_,?_⟩;show(orL _ _).length=c;rw[Lx d];simp[Jp];show 0+Fx (Jp c).out (Os.getD f [])<=400;have:=Zag d;omega;show 0+_<=400;omega;show([]++[f]).length<=g+1;simp
def uc.ok{d c b}(f:uc d c b)(k:c<=100):∀a∈b,GOk d a:=λa g=>by have⟨e,h,i,j⟩:=f.j a g;exact⟨e,O,O,O⟩
def Jk.c{b c l h m a}(j:ZfF b (L_ c l h) m a){i}(k:i<a.length):∃d f e g,c<b.1.size/\b.cell? (J c (i*4))=some (.bool (a.getD i Ai).e.a)/\b.cell? (J c (i*4+1))=some (V d (a.getD i Ai).e.g.length f)/\b.cell? (J c (i*4+2))=some (V e (a.getD i Ai).e.c.length g)/\b.cell? (J c (i*4+3))=some (I (a.getD i Ai).d)/\Ad b 0 (V d (a.getD i Ai).e.g.length f) (a.getD i Ai).e.g/\Bi b 0 (V e (a.getD i Ai).e.c.length g) (a.getD i Ai).e.c:=by
 have⟨p,n,d,f,e,g,o,q⟩:=j.at k
 grind
def Ik.c{b a h e d c}(f:Ik b (L_ a h e) d c){i}(g:i<c.length):a<b.1.size/\b.cell? (J a i)=some (d.getD i (N_)):=by
 have⟨l,j,k,m⟩:=f.at g
 grind
def ZdA{k:World}{g e j b d c i l f}(h:k.ownsRow g e j (.slice b d c) i l)(a:(slice b d c).ownBlock=some f):b=some ⟨f,0,none⟩:=by
 rcases h.2 with⟨e,_⟩|⟨o,m,n,e,_⟩
 rw[e] at a;cases a;injection e with e _ _;subst e;simp[ownBlock] at a;rw[a]
def KS.b(a:KS):(Kr a.e.a a.e.g.length a.e.c.length:Nat)+2=(a.a:Int):=by unfold KS.a ES.b;omega
def Zpb(g:World)(d:Nat)(f:Value)(b:List GS):Prop:=∃a e c,d<=a/\Ln g a f e c b
def ew(j a l e8 e6 G e7:Nat) iZ i4 e g D (h6:j+1<=4)(g9:e.length=j+1)(d6:g.length=j+1)(hK:ZfF D (L_ e8 (j+1) e6) iZ e)(d5:Ik D (L_ G (j+1) e7) i4 g)(e4:∀g1∈g,g1.length=a)(W:a<=200)(h1:l<=20)(h2:∀K∈e,K.a<=100):C_ 206 #[L_ e8 (j+1) e6,L_ G (j+1) e7,I l] D λp c=>∃b,p=.returned b/\Zpb c D.1.size b (Hs j e g a l)/\E_ D c:=by
 have f3:=Y (Ws j _ _ a _ _ D h6 d6 d5 e4 W);have o:=x6_ hK d5 g9 d6 e4 h2;have H:=T_ (Ky j g) (hh j g);refine dl_ ?_;go_enter func206,ntmps206;go_wp2_with fail
 apply f3.m;rintro p u ⟨k9,rfl,c0,d8⟩;have⟨k7,k8,e5⟩:=c0.shape;rw[Aj,H.1] at e5;subst e5;obtain⟨i5,h9,j5,j4,_,_⟩:=c0.b (k:=0) (by rw[Aj];exact H.1) O;subst h9;have c1:=d8.size;have⟨g0,c7⟩:=Z_ c0 d8;have f8:Hid (Hs j e g a l=(Dl j _).foldl _ _):=rfl;generalize Dl j g=m at *;go_wp2_with fail
 go_loopw [15,7] (λb d c=>∃(k:Nat) (n:List Nat) (A:Nat->Nat->Prop),b=.int .i64 k/\k<=j+1/\Hid (Ln c u.1.size d n A ((m.take k).foldl (Bc e g a l) [])/\uc a k ((m.take k).foldl (Bc e g a l) []))/\Hid (E_ u c)) (λb _ _=>j+1-(intOf b).toNat)
 case atStart=>
  refine⟨0,[],λ_ _=>False,rfl,r_,⟨⟨⟨rn_,rfl,(λi x=>by simp at x),(λi t x=>by simp at x)⟩,(λi x=>by simp at x),(λk e1=>by simp[ownBlock] at e1),(λi x=>by simp at x)⟩,⟨s_,s_⟩⟩,y_⟩
 obtain⟨k,n,A,rfl,e1,P,N⟩:=hrel;have i0:=N.size
 by_cases e3:k<j+1
 ·have e2:k<m.length:=H.out.1 ▸ e3;have F:m.getD k 0<j+1:=by have:m.getD k 0=m[k]:=(by simp[getD,e2]);rw[this];exact H.2 _ (Qf _)
  have h3:(m.take (k+1)).foldl (Bc e g a l) []=Bc e g a l ((m.take k).foldl (Bc e g a l) []) (m.getD k 0):=by
   rw[Qi e2,foldl_append]
   grind
  have a1:=Y h3;have i9:wr.cell? (J i5 k)=some (I (m.getD k 0:Nat)):=(by have:=(g0.c (by rw[Aj];exact H.1.s) e3).1;rw[Br] at this;exact W_ N this);generalize m.getD k 0=c,(m.take k).foldl (Bc e g a l) []=f at *;have d9:=c7.T (N.m c1);have d7:=o.2.1.below d9;have⟨g2,g4,g3,g5,j2,j9,k0,k1,k2,_⟩:=(o.1.below d9).c (i:=c) (o.2.2.1 ▸ F);have⟨j3,c3⟩:=d7.c (i:=c) (o.2.2.2.1 ▸ F);have a9:=d7.j c (o.2.2.2.1 ▸ F);have b8:(g.getD c []).length=a:=o.2.2.2.2.1 _ (by simp[getD,show c<g.length by rw[o.2.2.2.1];exact F]);have h7:(e.getD c Ai).a<=_:=o.2.2.2.2.2 _ (by simp[getD,show c<e.length by rw[o.2.2.1];exact F]);have⟨L,Q,M⟩:=a9.shape;rw[M] at c3 a9;rw[b8] at c3 a9;have f9:=KS.b (e.getD c Ai)
  have f7:Hid (∀a5:World,C_ 146 #[.agg #[.bool (e.getD c Ai).e.a,V g2 (e.getD c Ai).e.g.length g4,V g3 (e.getD c Ai).e.c.length g5]] a5 (U_ (.int .i64 (e.getD c Ai).a) a5)):=λa5=>by rw[<- f9];exact Fm _ _ _ _ _ _ _ a5 O
  have d1:=T_ a9 b8;have d2:Hid (Bc e g a l f c=if _<_ then _ else _):=rfl;have d0:=Y (P.2.step b8 W h1 h7)
  have b9:∀b,L=some ⟨b,0,none⟩->b<D.1.size:=λb h=>by have d:=o.2.1.j c (o.2.2.2.1 ▸ F);rw[M,h] at d;exact(B_ d b rfl).2
  generalize e.getD c Ai=a4,g.getD c []=s at *;generalize a4.e.a=k5,a4.e.g.length=k3,a4.e.c.length=k4,a4.a=z,Bc e g a l f c=c6 at *;have⟨a7,a8,h5⟩:=P.1.x.a;subst h5;go_wp2_with fail
  apply (f7 _).m;rintro p f0 ⟨rfl,T⟩;have j6:=T.size;have i2:=W_ T c3;have c9:Hid (Ln f0 u.1.size (V a7 f.length a8) n A f):=(by refine P.1.p (S:=λ_=>False) (Aa.a T) (λ_ _=>id));have a2:=T_ (d1.1.below T) d1.2;have f2:=Y (N.T (T.m i0));have a3:=Y P.2;have f5:=Y (Wy a7 L a8 a Q z l _ A f s f0 c9.x (a3.ok O) a2.1 a2.2 W O (p_ a3.len));generalize h4:f.length=B at *;have w:=Y h4;go_wp2_with fail
  apply f5.m;rintro p d ⟨rfl,U⟩;have j7:=U.size;have i3:=W_ U i2;have r:=Y (c9.p (S:=λ_=>False) (Aa.a U) (λ_ _=>id));have E:=T_ (a2.1.below U) a2.2;have a0:=Y (f2.T (U.m O));generalize f.findIdx (Ek s z l)=q at *
  by_cases y:q<B
  ·have M:Zc4 n B q=.pointer (some (J (n.getD q 0) 0)):=(by unfold Zc4;rw[aD y];rfl);rw[M];have⟨b0,b1,R⟩:=r.x.j q (w ▸ y);have X:=a3.out.ok O (f.getD q Fj) (by simp[getD,show q<f.length by rw[w.out];exact y])
   have Z:=Y (Zer _ _ c z b0 b1 L a Q s _ d R E.out.1 X.out E.out.2 W X.g X.k O X.fs (λb h t=>by
     have x:=r.v _ (w ▸ y) b t;have:=b9 b (ZdA E.1 h)
     omega))
   have b4:Hid (c6=f.set q (Ug (f.getD q Fj) c s z)):=(by have:=d2.out;rw[aD y] at this;exact this);have⟨c2,a6⟩:=M_ (n.getD q 0);have b6:=Y a6;rw[<- a6] at Z ⊢;clear a6;go_wp2_with fail
   refine Z.m ?_;rintro p v ⟨rfl,⟨K',b5,b7⟩,b3⟩;have x:Hid (Ln v u.1.size (V a7 B a8) n (λt=>if t=q then K' else A t) ((m.take (k+1)).foldl (Bc e g a l) [])):=(by rw[a1,b4];exact r.put (w ▸ y) b3 (by rw[<- b6];exact b5) b7 O);have b2:Hid (E_ u v):=a0.T (b3.b a0.size λb t=>p_ (r.v q (by rw[w];exact y) b t));have t:Hid (uc a (k+1) ((m.take (k+1)).foldl (Bc e g a l) [])):=a1 ▸ d0;refine J_ ?_;exact⟨k+1,n,_,g_,O,⟨x,t⟩,b2⟩
  have M:Zc4 n B q=.pointer none:=(by unfold Zc4;rw[aC y]);rw[M];have b4:Hid (c6=f++[Ug (Jp a) c s z]):=(by have:=d2.out;rw[aC y] at this;exact this);have j1:=Qk a O;have b3:Hid (d.ownsRow 0 313 1 (V a7 B a8) B (n.map qp)):=(by have:=r.x.row;rw[w] at this;exact this);have j0:B<=100:=oj_ a3.len w.out;go_wp2_with (at_builtin;refine ap_ [P_ (d.1.size+1)] (((b3.alloc _).alloc _).alloc _) ?_)
  rintro i7 v ⟨i6,a6,d3,_,_⟩;have⟨c5,X⟩:=M_ (((d.alloc (O_ (madeCells #[.bool false] a) 4)).alloc (O_ #[N_,L_ d.1.size a a,I 0,I 0] 351)).alloc (O_ #[P_ (d.1.size+1)] 313));rw[<- X] at a6 d3;have i1:c5.1.size=d.1.size+1+1+1:=(by rw[X];simp);have e0:E_ d c5:=X ▸ ((q_.alloc s_ _).alloc t_ _)
  have h8:ud c5 (λb=>b=d.1.size∨b=d.1.size+1) (d.1.size+1) (Jp a):=by refine⟨V _ 0 0,L_ d.1.size a a,⟨?_,Ad.nil _ _,?_,.inr rfl,λb h=>by simp[ownBlock] at h,λb h=>by simp[ownBlock] at h;exact .inl h.s,λb h=>O⟩⟩;rw[X];have:=ha_ (d.alloc (O_ (madeCells #[.bool false] a) 4)) (O_ #[N_,L_ d.1.size a a,I 0,I 0] 351);rw[show(d.alloc (O_ (madeCells #[.bool false] a) 4)).1.size=d.1.size+1 by simp] at this;exact(hc_ s_).T this;rw[X];exact((Pz a d 0 O r_).alloc _).alloc _
  have b6:Ln v u.1.size i7 (n++[d.1.size+1]) (λt=>if t=f.length then(λb=>b=d.1.size∨b=d.1.size+1) else A t) (f++[Jp a]):=by
   refine(r.p (S:=λ_=>False) (Aa.a e0) (λ_ _=>id)).a (w ▸ i6) a6 ?_ h8 (λi x b h t=>?_) (λb h t=>?_) (λb h=>O) O
   ·rcases d3 with p|p
    exact .inl p;exact .inr ⟨_,p.1,O⟩
   have⟨b0,b1,R⟩:=r.x.j i x;have:=R.j b h;omega;have:=(B_ b3 b h).2;omega
  have c4:=(Aa.a e0).T ((Aa.refl _ _).grown a6 (λb h _=>h));have j8:d.1.size+1+1+1<=v.1.size:=by rw[<- i1];exact a6.size
  have k6:v.cell? (J G c)=some (V L a Q):=by
   have:v.1[G]? =d.1[G]?:=c4.block G O (λh=>by
    have⟨x,R⟩:=Ac b3 h;have t:=r.i _ h;have:=o.2.1.c (i:=c) (o.2.2.2.1 ▸ F)
    omega)
   rw[cb_ (a:=(J G c)) this];exact i3
  have h0:Ej v 0 (V L a Q) s:=c4.row E.1 (λb h t=>by
   have x:=r.i b t;have:=b9 b (ZdA E.1 h)
   omega)
  have⟨b0,b1,R⟩:=b6.x.j f.length s_;have g6:(f++[Jp a]).getD f.length Fj=Jp a:=(by simp[getD]);have d4:(n++[d.1.size+1]).getD f.length 0=d.1.size+1:=(by have:=r.x.len;simp[getD,<- this]);rw[g6,d4] at R;simp only[if_true] at R
  have Z:=Y (Zer _ _ c z b0 b1 L a Q s _ v R h0 (by simp[Jp]) E.2 W (by simp[Jp]) (by simp[Jp]) O (by simp[Jp]) (λb h t=>by
    have:=b9 b (ZdA E.1 h)
    omega))
  have f6:=Y b6;have c8:Hid (E_ u v):=a0.T (c4.b a0.size λb t=>p_ (r.i b t));have⟨g7,g8,c2⟩:=b6.x.a;rw[Qe] at c2;simp only[length_cons,length_nil,Nat.zero_add,w.out] at c2;subst c2;have f4:=Y d4;go_wp2_with fail
  apply Z.m;rintro p f1 ⟨rfl,⟨K',b5,b7⟩,e9⟩;have x:Hid (Ln f1 u.1.size (V g7 (B+1) g8) (n++[d.1.size+1]) (λt=>if t=f.length then K' else(if t=f.length then(λb=>b=d.1.size∨b=d.1.size+1) else A t)) ((m.take (k+1)).foldl (Bc e g a l) [])):=(by rw[a1,b4];have:=f6.put (i:=f.length) (K':=K') (G':=Ug (Jp a) c s z) s_ (by simpa using e9) (f4 ▸ b5) (by simpa using b7) O;have p:(f++[Jp a]).set f.length (Ug (Jp a) c s z)=f++[Ug (Jp a) c s z]:=(by rw[set_append_right _ _ x_,Nat.sub_self,set_cons_zero]);rw[p] at this;exact this);have b2:Hid (E_ u f1):=c8.T (e9.b c8.size λb t=>O);refine J_ ?_;exact⟨k+1,_,_,g_,O,⟨x,(a1 ▸ d0)⟩,b2⟩
 have b:¬k<(j:Int)+1:=O;have x:Hid (Ln wr u.1.size u7 n A (Hs j e g a l)/\E_ D wr):=(by have t:=P.1;rw[aI (p_ H.1)] at t;rw[f8];exact⟨t,c7.T (N.m c1)⟩);go_wp2;go_ret;exact⟨_,rfl,⟨_,_,_,c1,x.1⟩,x.2⟩
def cd b a c:C_ 330 #[.agg #[I b,I a]] c λd e=>d=.returned (.int .i64 a)/\e=c.alloc (O_ #[I b,I a] 379):=by refine er_ ?_;exact⟨rfl,rfl⟩
def ZbF a b c:C_ 299 #[.agg #[I a,I b]] c λd e=>d=.returned (.int .i64 a)/\e=c.alloc (O_ #[I a,I b] 379):=by refine er_ ?_;exact⟨rfl,rfl⟩
def Ax.put{b f a g d k e}(h:Ax b f (L_ a d g) e)(l:d=e.length) c:Ax (b.setCell (J a k) (.int .u8 c)) f (L_ a d g) (e.set k c)/\b.grownBy (b.setCell (J a k) (.int .u8 c)) (some a):=by subst l;have⟨i,j⟩:=World.ownsRow.stored h k (.int .u8 c);refine⟨?_,j⟩;unfold Ax;rw[length_set,map_set];exact i
def Ax.c{c f a g b k d}(e:Ax c f (L_ a b g) d)(h:b=d.length)(i:k<b):c.cell? (J a k)=some (.int .u8 (d.getD k 0))/\c.frozen? (J a k)=false:=by
 subst h;refine⟨?_,World.ownsRow.frozenAt e k⟩;rw[World.ownsRow.cellAt e k O]
 grind
def Ax.alloc{w a c d}(e:Ax w a c d) b:Ax (w.alloc b) a c d:=ra_ e b
def Zl2 D s c8 a c o b i m e n (t:n.1[D]? =some (.cells #[I (c8:Nat),I a,L_ c b o] 396 (0,0)))(E:Ax n s (L_ c b o) (Bg e b (i*a)))(Z:∀c9,e c9<=1)(a1:∀L,L<a->e (i*a+L)=m/2^L%2)(e1:i*a+a<=8*b)(b5:i<=200)(b1:a<=6):C_ 331 #[.pointer (some ⟨D,0,none⟩),.int .i64 i,.int .i64 m] n λq w=>q=.returned (.tuple #[])/\Ax w s (.slice (some ⟨c,0,none⟩) b o) (Bg e b (i*a+a))/\Aa (λk=>k=c) n w:=by
 have a6:=n_ 0 t;have a7:=n_ 1 t;have d7:=(Qb t).1
 have b4:D≠c:=λq=>by
  have⟨d,f⟩:=Ac E (k:=c) rfl
  grind
 have d9:_<=1200:=Nat.mul_le_mul b5 b1;have e0:i*a=((i*a:Nat):Int):=s_;have⟨a5,N,a4,P⟩:=y4_ a1 Z t E;clear t E Z a1;generalize i*a=h at *;refine v_ ?_;go_wp2_with fail
 apply (cd _ _ _).m;rintro q d0 ⟨rfl,rfl⟩;go_wp2_with fail
 apply (cd _ _ _).m;rintro q d0 ⟨rfl,rfl⟩;go_wp2_with fail
 go_loopw [21] (λd f=>∃k:Nat,d=.int .i64 k/\k<=a/\K (Ax f s (.slice (some ⟨c,0,none⟩) b o) (Bg e b (h+k))/\Aa (λw=>w=c) n f)) (λd _=>a-(intOf d).toNat)
 exact⟨0,rfl,r_,(P.alloc _).alloc _,((Aa.refl _ _).alloc _).alloc _⟩;clear P a6 a7;obtain⟨k,rfl,d8,r⟩:=hrel
 by_cases b2:k<a
 ·have W:=r.2.g a4 b4;have R:=n_ 2 W;have⟨g,A⟩:=M_ (h+k);have⟨f,F⟩:=M_ (g/8);have⟨d,G⟩:=M_ (g%8);have U:f<b:=O;have⟨z,S⟩:=r.1.c (k:=f) (by rw[Dg]) U;rw[Kc e _ U] at z;have⟨l,u⟩:=M_ (Gz e (h+k) f);have⟨j,X⟩:=M_ (m/2^k%2);have a0:e g=j:=(by rw[A,a5 k b2,X]);have b6:l<256:=u ▸ (jg N _ _);have a3:l<2^d:=(by rw[u,F,G,<- A];exact jf N g);have a9:j<=1:=O;have d6:d<8:=O
  have d5:2^d<=128:=by
   have:(2:Nat)^d<=2^7:=Nat.pow_le_pow_right C O
   simpa using this
  have b0:_<=1*2^d:=aK _ a9;have b3:Gz e (h+k+1) f=l+j*2^d:=by rw[u,F,G,<- A,je,a0]
  have Q:K ((Bg e b (h+k)).set f (l+j*2^d:Nat)=Bg e b (h+(k+1))):=by
   show _=_
   grind [ai]
  have a2:_=l+j*_:=Zdx a3;have b8:h+k=(g:Int):=O;have c0:(g:Int).tdiv 8=f:=w_;have c1:g/8=(f:Int):=O;have c2:(g:Int).tmod 8=d:=w_;have c3:g%8=(d:Int):=O
  have c4:bits BinOp.and IntKind.u8 (m/2^k%256) 1=j:=by
   have q:(m/2^k%256)=((m/2^k%256:Nat):Int):=s_;rw[q];have:=(Zcy (m/2^k%256) 1 O C).1
   grind
  have c5:_=(g:Int):=As O O;have c6:_=(f:Int):=As O O;have⟨x,v⟩:=M_ (j*2^d);have b7:x<256:=O
  have c7:IntKind.u8.wrap (j*2^d)=x:=by rw[Yp _ w_ w_];rw[v];simp
  have⟨M,H⟩:=M_ (l+x);have b9:bits BinOp.or IntKind.u8 l x=M:=(by rw[(Zcy l x b6 b7).2,v,a2,H,v]);rw[<- v,<- H] at Q;have d3:0<=(d:Int):=O;have d4:(d:Int)<=8:=O;clear v H a2 b0 a3;rw[<- u] at z;have T:wr.drew.cell? _=_:=z;have a8:wr.drew.frozen? _=_:=S;have d2:=F_ k a;have d1:=F_ f b;have B:_:=r;clear W A F G z S u X a0 b3 r;go_upto_region 5 with fail;refine Af (λw=>w.cell? _=some _/\w.cell? _=some _) 18 k_ ⟨R,T⟩ (λhHeld=>?_);refine K_ ?_;refine le_ ?_;have y:K (Ax (wr.setCell (J c f) (.int .u8 M)).drew s (L_ c b o) (Bg e b (h+(k+1)))/\Aa (λw=>w=c) n (wr.setCell (J c f) (.int .u8 M)).drew):=by rw[<- Q];exact⟨World.ownsRow.drew (B.1.put (by rw[Dg]) _).1,(B.2.setCell (p:=(J c f)) (λ_=>rfl) _).drew⟩
  clear B hHeld R T a8 b8 c0 c1 c2 c3 c4 c5 c6 c7 b9;refine J_ ?_;exact⟨k+1,g_,O,y⟩
 have d:¬k<(a:Int):=O;have y:K (Ax wr s (L_ c b o) (Bg e b (h+a))/\Aa (λw=>w=c) n wr):=w_;clear r;go_wp2;go_end0;exact⟨rfl,y.1,y.2⟩
def Qj(a:Nat)(c:a<=1000000) b:(Instr.makeSlice 66 (I a) (I a)).run prog b=.ok (L_ b.1.size a a) (b.alloc (O_ (madeCells #[.int .u8 0] a) 5)):=mk_ 1
theorem Py a (b:World) c (e:a<=1000000)(d:c<=b.1.size):Ax (b.alloc (O_ (madeCells #[.int .u8 0] a) 5)) c (L_ b.1.size a a) (replicate a 0):=by
 have:=ownsRow_lit (base:=c) (size:=1) (e:=5) b (madeCells #[.int .u8 0] a) a d m_ (by simp[madeCells]);rw[Sq] at this;unfold Ax
 simpa using this
def Cd(c:List Nat)(a b:Nat):Nat:=c.getD (b/a) 0/2^(b%a)%2
theorem Ix b c:∀a,Cd b c a<=1:=λa=>by unfold Cd;omega
theorem Mm d {a c b}(e:b<a):Cd d a (c*a+b)=d.getD c 0/2^b%2:=by
 unfold Cd;have f:(c*a+b)/a=c:=by rw[Nat.mul_comm,mul_add_div O,div_eq_of_lt e,Nat.add_zero]
 grind [Nat.mul_comm,mul_add_mod,mod_eq_of_lt]
structure Oa(c:World)(d f b g e:Nat)(a:List Int):Prop where
 r:c.1[f]? =some (O_ #[I g,I e,L_ b a.length a.length] 396)
 row:Ax c d (L_ b a.length a.length) a
def ZfA(h:World)(b:Nat)(g:Value)(e d:Nat)(c:List Int):Prop:=∃a f,g=P_ a/\b<=a/\Oa h b a f e d c
def Xu Q (b a g R:Nat) h e (N:Ad e 0 (V Q g R) (An h))(D:h.length=g)(b5:g<=b)(a3:b<=200)(H:a<=6):C_ 301 #[.agg #[I b,I a],V Q g R] e λn f=>∃c,n=.returned c/\ZfA f e.1.size c b a (Bg (Cd h a) ((b*a+7)/8) (g*a))/\E_ e f:=by
 have z:=T_ N D;have⟨j,o⟩:=M_ (b*a);have b1:j<=1200:=o ▸ (Nat.mul_le_mul a3 H);have b4:b*a=(j:Int):=(by rw[o];simp);have⟨c,u⟩:=M_ ((j+7)/8);have w:K (c=_/\_/\_):=⟨by rw[u,o],o,u⟩;have a6:((j:Int)+7).tdiv 8=c:=w_;have a7:_=(j:Int):=As O O;have a8:_=(j:Int)+7:=As O O;have a9:_=(c:Int):=As O O;have a2:=Qj c O;have b6:c<=151:=O;rw[<- w.1];clear N D o u;refine v_ ?_;go_upto_region 1 with fail;have⟨d,k⟩:=M_ (e.alloc (O_ #[I b,I a] 379));rw[<- k];have a5:d.1.size=e.1.size+1:=(by rw[k];simp);have A:D_ d e.1.size 0 (I b):=(by rw[k];simp[go_sem]);have B:D_ d e.1.size 1 (I a):=by rw[k];simp[go_sem]
 have S:K (E_ e d):=(by show Below _ _ _;rw[k];exact q_);have b3:e.1.size<d.1.size:=O;clear k a5;go_region_held3 (λf=>D_ f e.1.size 0 (I (b:Nat))/\D_ f e.1.size 1 (I (a:Nat))) (exact⟨X_ A,X_ B⟩) (first|(go_at_call 299;apply (ZbF _ _ _).m;rintro n f ⟨rfl,rfl⟩)|(go_at_call 330;apply (cd _ _ _).m;rintro n f ⟨rfl,rfl⟩))
 have⟨m,l⟩:=M_ (((((d.alloc (O_ #[I b,I a] 379)).alloc (O_ #[I b,I a] 379)).alloc (O_ (madeCells #[.int .u8 0] c) 5)).alloc (O_ #[I b,I a,L_ (d.1.size+1+1) c c] 396)).drew);rw[<- l];have b9:m.1.size=d.1.size+1+1+1+1:=by rw[l];simp
 have T:K (E_ e m):=(by show Below _ _ _;rw[l];exact(S.T (((((y_.alloc O _).alloc t_ _).alloc t_ _).alloc t_ _).drew)));have F:H_ m (d.1.size+1+1+1) #[I b,I a,L_ (d.1.size+1+1) c c] 396:=by rw[l];have:=ha_ (((d.alloc (O_ #[I (b:Nat),I (a:Nat)] 379)).alloc (O_ #[I (b:Nat),I (a:Nat)] 379)).alloc (O_ (madeCells #[.int .u8 0] c) 5)) (O_ #[I (b:Nat),I (a:Nat),L_ (d.1.size+1+1) c c] 396);rw[show(((d.alloc (O_ #[I (b:Nat),I (a:Nat)] 379)).alloc (O_ #[I (b:Nat),I (a:Nat)] 379)).alloc (O_ (madeCells #[.int .u8 0] c) 5)).1.size=d.1.size+1+1+1 by simp] at this;exact this
 have E:Ax m e.1.size (L_ (d.1.size+1+1) c c) (Bg (Cd h a) c 0):=(by rw[ll,l];have:=Py c ((d.alloc (O_ #[I (b:Nat),I (a:Nat)] 379)).alloc (O_ #[I (b:Nat),I (a:Nat)] 379)) e.1.size O t_;have f:=(this.alloc (O_ #[I (b:Nat),I (a:Nat),L_ (d.1.size+1+1) c c] 396));rw[show((d.alloc (O_ #[I (b:Nat),I (a:Nat)] 379)).alloc (O_ #[I (b:Nat),I (a:Nat)] 379)).1.size=d.1.size+1+1 by simp] at f;exact f);have⟨U,x⟩:=Z_ F E;clear l F E A B a2 a6 a7 a8 a9;have b7:e.1.size<=d.1.size+1+1:=O;have X:K (d.1.size+1+1+1<m.1.size/\d.1.size+1+1+1≠d.1.size+1+1):=⟨O,O⟩;generalize d.1.size+1+1=p at *;go_wp2_with fail
 go_loopw [21] (λi n=>∃f:Nat,i=.int .i64 f/\f<=g/\K (Ax n e.1.size (.slice (some ⟨p,0,none⟩) c c) (Bg (Cd h a) c (f*a))/\Aa (λr=>r=p) m n)) (λi _=>g-(intOf i).toNat)
 exact⟨0,rfl,r_,by rw[Nat.zero_mul];exact⟨x,Aa.refl _ _⟩⟩;clear x;obtain⟨f,rfl,b2,i⟩:=hrel;have s:E_ e wr:=(by have q:=i.2;have n:=T.out;exact⟨q.os.T n.os,q.tape.T n.tape,q.output.T n.output,aG n.size q.size,λr t=>(q.block r O O).T (n.block r t)⟩);have W:=Y s;have q:=i.2.g U X.2
 by_cases a1:f<g
 ·obtain⟨c0,a4,b8,_,G,_⟩:=z.1.b (by rw[Aj];exact z.2) a1;subst a4;have Z:=W_ s G;rw[Br] at Z;have L:f*a+a=(f+1)*a:=w_;have a0:(f+1)*a<=b*a:=aK _ O;have t:=Y (Zl2 _ _ b a p _ _ f _ _ _ q i.1 (Ix h a) (λr n=>Mm h n) (p_ w.out) O H);rw[L] at t;generalize h.getD f 0=r at *;have b0:=F_ f g;have y:=Y i.2;clear G L a0 i q s;go_wp2_with fail
  apply t.m;rintro n c1 ⟨rfl,M,P⟩;have v:=T_ M (y.T P);clear M P t y;go_wp2;go_roundw
  grind
  exact z_
 have n:¬f<(g:Int):=O;have v:K (Oa wr e.1.size (p+1) p b a (Bg (Cd h a) c (g*a))):=(by have:f=g:=O;subst this;exact⟨by rw[Dg];exact q,by rw[Dg];exact i.1⟩);clear i q s;go_wp2;go_ret;exact⟨_,rfl,⟨_,_,rfl,O,v⟩,W⟩
def nzL(a:List Nat):List Bool:=a.map (λb=>decide (b≠0))
def nzN(a:List Nat):Nat:=Dp (nzL a)
theorem Xw a:(nzL a).length=a.length:=by simp[nzL]
def Za0{N k}(a:k<N.length):(nzL N).getD k false=decide (N.getD k 0≠0):=by simp[nzL,getD,a]
def ZaX j c h b g (o:Ad g 0 (V j c h) (An b))(m:b.length=c)(u:c<=200):C_ 298 #[V j c h] g (V_ (.int .i64 (nzN b:Nat)) g):=by
 have e:=T_ o m;refine v_ ?_;go_wp2_with fail
 go_loop [8,3] (λd f=>∃a:Nat,d=.int .i64 a/\a<=c/\f=.int .i64 (Dp ((nzL b).take a):Nat)/\Dp ((nzL b).take a)<=a) (λd _=>c-(intOf d).toNat)
 exact⟨0,rfl,r_,rfl,x_⟩;obtain⟨a,rfl,s,rfl,t⟩:=hrel
 by_cases n:a<c
 ·obtain⟨x,rfl,w,_,l,_⟩:=e.1.b (by rw[Aj];exact e.2) n;rw[Br] at l;have i:=Ot ((nzL b).take a) ((nzL b).getD a false);rw[<- Qq _ (by rw[Xw];have:=e.2;omega),Za0 (p_ e.2)] at i;have q:=Y i;generalize Dp ((nzL b).take a)=f,b.getD a 0=k at *;have r:=F_ a c
  by_cases p:k=0
  ·subst p;have d:K (Dp ((nzL b).take (a+1))=f):=w_;refine J_ ?_;exact⟨a+1,g_,O,by rw[d],by rw[d];omega⟩
  have v:((k:Int) !=0)=true:=w_;have d:K (Dp ((nzL b).take (a+1))=f+1):=w_;refine J_ ?_;exact⟨a+1,g_,O,by rw[d];go_num,by rw[d];omega⟩
 have i:¬a<(c:Int):=O;have d:K (Dp ((nzL b).take a)=nzN b):=(by show _=_;rw[aI (by rw[Xw];have:=e.2;omega)];rfl);generalize Dp ((nzL b).take a)=f at *;go_wp2;go_ret;exact⟨by rw[d];rfl,rfl⟩
def jb(a:Nat) b (f:a<=1000):C_ 282 #[I a] b (V_ (.int .i64 (Lib.bitLen a:Nat)) b):=by
 have c:K (C_ 150 #[.int .u64 a] b (V_ (.int .i64 (Lib.bitLen a:Nat)) b)):=(by have:=Tryz.bits_Len (a:Nat) b O O;rw[Int.toNat_natCast] at this;exact this);generalize Lib.bitLen a=d at *;refine v_ ?_;go_wp2_with fail
 apply c.m;rintro e g ⟨rfl,rfl⟩;go_wp2;go_ret;exact⟨rfl,rfl⟩
def Bu(b:List Nat):Nat->List (Nat×Nat)
 |0=>[]
 |a+1=>Bu b a++(if b.getD a 0=0 then[] else[(a,b.getD a 0)])
def Lz b:∀a,(Bu b a).length<=a
 |0=>by simp[Bu]
 | a+1=>by
  have:=Lz b a;simp only[Bu]
  grind
def Ry(a:Nat×Nat):List Value:=[I a.1,I a.2]
def Sh:List (Nat×Nat)->List Value
  |[]=>[]
  |b::a=>Ry b++Sh a
def vo a b:Sh (a++b)=Sh a++Sh b:=by
 induction a with
 |nil=>rfl
 |cons e d c=>simp[Sh,c]
def Wj(d:World)(b:Nat)(c:Value)(a:List (Nat×Nat)):Prop:=d.ownsRow b 405 2 c a.length (Sh a)
def Wj.E{c a b L x}(d:c.ownsRow a 405 2 b (L.length+1) (Sh L++Ry x)):Wj c a b (L++[x]):=by
 unfold Wj;rw[vo,Qe]
 simpa [Sh] using d
def Wj.shape{g d b a}(f:Wj g d b a):∃c e,b=.slice c a.length e:=by
 rcases f.2 with⟨rfl,i⟩|⟨k,j,h,rfl,_⟩
 ·grind
 grind
structure iq(b:World)(d g f e:Nat)(a)(c):Prop where
 r:b.1[g]? =some (O_ #[I f,I e,a] 403)
 row:Wj b d a c
def Zcl(h:World)(b:Nat)(f:Value)(e d:Nat)(c:List (Nat×Nat)):Prop:=∃a g,f=P_ a/\b<=a/\iq h b a e d g c
def qm A (h g f B:Nat) c a (S:Ad a 0 (V A f B) (An c))(H:c.length=f)(b2:f<=200):C_ 300 #[.agg #[I h,I g],V A f B] a λk d=>∃b,k=.returned b/\Zcl d a.1.size b h g (Bu c f)/\E_ a d:=by
 have u:=T_ S H;have⟨i,n⟩:=M_ ((a.alloc (O_ #[I h,I g] 379)).alloc (O_ #[I h,I g,N_] 403));have t:K (E_ a i):=(by show Below _ _ _;rw[n];exact q_.alloc s_ _);have b4:i.1.size=a.1.size+1+1:=by rw[n];simp
 have E:K (i.1[a.1.size+1]? =some (O_ #[I h,I g,N_] 403)):=by
  show _=_
  grind [heap_alloc_new]
 refine v_ ?_;go_wp2_with fail
 go_loopw [13] (λe j=>∃(b:Nat) (D:Value),e=.int .i64 b/\b<=f/\K (iq j (a.1.size+1+1) (a.1.size+1) h g D (Bu c b)/\Aa (λd=>d=a.1.size+1) i j)) (λe _=>f-(intOf e).toNat)
 case atStart=>
  refine⟨0,N_,rfl,r_,?_,?_⟩;rw[<- n];exact⟨E,rn_⟩;rw[<- n];exact Aa.refl _ _
 obtain⟨b,D,rfl,a9,e⟩:=hrel;have b5:=e.2.size
 by_cases M:b<f
 ·obtain⟨m,R,Q,_,y,_⟩:=u.1.b (by rw[Aj];exact u.2) M;subst R;have a1:wr.cell? (J m b)=some (I (c.getD b 0:Nat)):=(by rw[Br] at y;rw[cb_ (a:=(J m b)) ((e.2.block m O O).T (t.block m Q))];exact y);have G:K (Bu c (b+1)=_++_):=rfl;have⟨v,w,T⟩:=e.1.row.shape;subst T;have a4:=n_ 2 e.1.r;have b0:=Lz c b;generalize c.getD b 0=d at *;have a3:=F_ b f
  by_cases s:d=0
  ·subst s;have j:K (iq wr (a.1.size+1+1) (a.1.size+1) h g (V v (Bu c b).length w) (Bu c (b+1))/\Aa (λd=>d=a.1.size+1) i wr):=(by rw[G,aD rfl,append_nil];exact e);go_wp2
   grind [intOf]
  have b3:((d:Int) !=0)=true:=w_;have F:K (Bu c (b+1)=Bu c b++[(b,d)]):=w_;have N:=(Qb e.1.r).1;have r:K _:=e.1.row;generalize L:(Bu c b).length=X at *;go_wp2_with (at_builtin;refine ap_ [I (b:Nat),I (d:Nat)] (r.alloc _) ?_)
  rintro o q ⟨W,x,a7,_,_⟩;have l:q.1[a.1.size+1]? =some (O_ #[I h,I g,V v X w] 403):=(by rw[x.block (a.1.size+1) t_ (λk=>Ah r k.s e.1.r C rfl)];have:=e.1.r;exact(hc_ N).T this);have a5:=n_ 2 l;have a8:=R_ 2 _ _ l;have k:Wj q (a.1.size+1+1) o (Bu c (b+1)):=(by rw[F];apply Wj.E;rw[L];exact W);have⟨a2,a6,z⟩:=k.shape
  have j:K (iq (q.setCell (J (a.1.size+1) 2) o) (a.1.size+1+1) (a.1.size+1) h g o (Bu c (b+1))/\Aa (λd=>d=a.1.size+1) i (q.setCell (J (a.1.size+1) 2) o)):=(by refine⟨⟨ht_ 2 _ _ _ l,Al k l C⟩,?_⟩;have Z:Aa _ i (wr.alloc (O_ #[I (b:_),I (d:Nat)] 405)):=e.2.alloc _;have a0:=Z.grown x (λU P b1=>p_ (B_ r U P).1);exact a0.setCell (p:=(J (a.1.size+1) 2)) (λ_=>rfl) _);rw[z] at j;subst z;generalize (Bu c (b+1)).length=P at *;go_wp2;go_roundw
  grind
  exact z_
 have z:¬b<(f:Int):=O
 have j:K (Zcl wr a.1.size (P_ (a.1.size+1)) h g (Bu c f)/\E_ a wr):=by
  have:b=f:=O;subst this;have m:=e.2;have l:=t.out;refine⟨⟨_,_,rfl,O,e.1.r,?_⟩,⟨m.os.T l.os,m.tape.T l.tape,m.output.T l.output,aG l.size m.size,λd s=>(m.block d O O).T (l.block d s)⟩⟩;have o:=e.1.row;refine⟨o.1,?_⟩
  rcases o.2 with w|⟨v,q,r,k,y,x⟩
  exact .inl w;exact .inr ⟨v,q,r,k,O,x⟩
 go_wp2;go_ret;exact⟨_,rfl,j.1,j.2⟩
def Zcx:∀a:Fin 64,Lib.bitLen a.val<=6:=by decide+kernel
def Gc{a}(b:a<64):Lib.bitLen a<=6:=Zcx ⟨a,b⟩
def uo:∀a:Fin 64,a.val<2^Lib.bitLen a.val:=by decide+kernel
def Mc{a}(b:a<64):a<2^Lib.bitLen a:=uo ⟨a,b⟩
def Hv(f:World)(d:Nat)(e:Value)(a:List Nat)(b:Nat):Prop:=
 (4*nzN a<a.length/\∃c,e=.iface 380 c/\Zcl f d c a.length (Lib.bitLen b) (Bu a a.length))∨
 (¬4*nzN a<a.length/\∃c,e=.iface 382 c/\ZfA f d c a.length (Lib.bitLen b) (Bg (Cd a (Lib.bitLen b)) ((a.length*Lib.bitLen b+7)/8) (a.length*Lib.bitLen b)))
def rz U (a W c:Nat) d b (t:Ad b 0 (V U a W) (An d))(s:d.length=a)(E:a<=200)(D:c<64):C_ 257 #[V U a W,I c] b λf g=>∃h,f=.returned h/\Hv g b.1.size h d c/\E_ b g:=by
 have Z:=Gc D;have L:=Y (jb c b O);have a9:nzN d<=a:=(by grind [Tl,Xw,nzN]);have⟨M,x,w⟩:=y3_ (λe f=>ZaX _ a _ d e (t.below f) s E) (λe f=>qm _ a (Lib.bitLen c) a _ d e (t.below f) s E) (λe f=>Xu _ a _ a _ d e (t.below f) s x_ E Z)
 have r:K (∀e h,((4*nzN d<a/\∃f,h=.iface 380 f/\Zcl e b.1.size f a (Lib.bitLen c) (Bu d a))∨(¬4*nzN d<a/\∃f,h=.iface 382 f/\ZfA e b.1.size f a (Lib.bitLen c) (Bg (Cd d (Lib.bitLen c)) ((a*Lib.bitLen c+7)/8) (a*Lib.bitLen c))))->Hv e b.1.size h d c):=λe h a7=>by
  unfold Hv
  grind
 clear t s;generalize Lib.bitLen c=m,nzN d=q at *;have a4:4*(q:Int)<=800:=O;have b1:_=4*(q:Int):=As O O;refine dl_ ?_;go_enter func257,ntmps257;go_wp2_with fail
 apply L.m;rintro f X ⟨rfl,T⟩;obtain rfl:=T.s;clear T;go_upto_region 2 with fail;have⟨i,j⟩:=M_ (b.alloc (O_ #[I a,I m] 379));rw[<- j];have a1:i.1.size=b.1.size+1:=(by rw[j];simp);have N:D_ i b.1.size 0 (I a):=(by rw[j];simp[go_sem]);have P:D_ i b.1.size 1 (I m):=(by rw[j];simp[go_sem]);have v:K (E_ b i):=(by show Below _ _ _;rw[j];exact q_);have a8:b.1.size<i.1.size:=O;clear j a1;go_region_held3 (λg=>D_ g b.1.size 0 (I (a:Nat))/\D_ g b.1.size 1 (I (m:Nat))) (exact⟨X_ N,X_ P⟩) (first|(go_at_call 298;apply (M _ v.drew).m;rintro f X ⟨rfl,rfl⟩)|(go_at_call 299;apply (ZbF _ _ _).m;rintro f X ⟨rfl,rfl⟩))
 generalize G:(i.alloc (O_ #[I (a:Nat),I (m:Nat)] 379)).drew=u;have k:K (E_ b u):=(by show Below _ _ _;rw[<- G];exact(v.alloc O _).drew);have b0:u.1.size=i.1.size+1:=(by rw[<- G];simp);have a5:D_ u b.1.size 0 (I a):=w_;have a6:D_ u b.1.size 1 (I m):=w_;have S:=k.size;clear G N P v M L
 by_cases R:4*q<a
 ·have a0:4*q<(a:Int):=O;go_wp2_with fail
  apply (x _ k).m;rintro f p ⟨a3,rfl,B,n⟩;obtain⟨Q,a2,rfl,A,g⟩:=B
  have l:K (Hv p b.1.size (.iface 380 (P_ Q)) d c/\E_ b p):=by
   refine⟨r _ _ (.inl ⟨R,_,rfl,Q,a2,rfl,O,g.r,?_⟩),k.T (n.m S)⟩;have o:=g.row;refine⟨o.1,?_⟩
   rcases o.2 with F|⟨c,y,z,f,D,H⟩
   exact .inl F;exact .inr ⟨c,y,z,f,O,H⟩
  clear A g n x w r;go_wp2;go_ret;exact⟨_,rfl,l.1,l.2⟩
 have a0:¬4*q<(a:Int):=O;go_wp2_with fail
 apply (w _ k).m;rintro f p ⟨a3,rfl,B,n⟩;obtain⟨Q,a2,rfl,A,g⟩:=B
 have l:K (Hv p b.1.size (.iface 382 (P_ Q)) d c/\E_ b p):=by
  refine⟨r _ _ (.inr ⟨R,_,rfl,Q,a2,rfl,O,g.r,?_⟩),k.T (n.m S)⟩;have o:=g.row;refine⟨o.1,?_⟩
  rcases o.2 with F|⟨c,y,z,f,D,H⟩
  exact .inl F;exact .inr ⟨c,y,z,f,O,H⟩
 clear A g n x w r;go_wp2;go_ret;exact⟨_,rfl,l.1,l.2⟩
structure XS where
 row:Nat
 f:Nat
 i:Nat
structure BS where
 fs:List Nat
 N:List Nat
 g:Nat
structure Ga where
 h:List KS
 g:List BS
 q:List XS
def Ct(x:XS):List Value:=[I x.row,I x.f,I x.i]
def Jr:List XS->List Value
 |[]=>[]
 |b::a=>Ct b++Jr a
theorem vr a b:Jr (a++b)=Jr a++Jr b:=by
 induction a with
 |nil=>rfl
 |cons e d c=>simp[Jr,c]
def sh a:(Jr a).length=a.length*3:=by
 induction a with
 |nil=>rfl
 |cons c a b=>simp[Jr,Ct,b];omega
def Ni(d:World)(b:Nat)(c:Value)(a:List XS):Prop:=d.ownsRow b 184 3 c a.length (Jr a)
def Ni.E{c a b L x}(d:c.ownsRow a 184 3 b (L.length+1) (Jr L++Ct x)):Ni c a b (L++[x]):=by grind [Ni,vr,Jr]
def Ni.shape{g d b a}(f:Ni g d b a):∃c e,b=.slice c a.length e:=by
 rcases f.2 with⟨rfl,i⟩|⟨k,j,h,rfl,_⟩
 ·grind
 grind
def gc(c:Nat->Prop)(e:World):Prop:=∀b d a,e.1[b]? =some (O_ d a)->c b->a=168∨a=163∨a=184
def gc.row{d f}(i:gc d f){g a r q:Nat}{e s}(o:f.ownsRow g a r e q s)(j:a≠168)(k:a≠163)(l:a≠184):∀c,e.ownBlock=some c->¬d c:=λc n p=>by
 have⟨h,m⟩:=Ac o n
 rcases i c h a m p with b|b|b
 exact j b;exact k b;exact l b
def gc.at{c e}(f:gc c e){k b:Nat}{d}(j:H_ e k d b)(g:b≠168)(h:b≠163)(i:b≠184):¬c k:=λl=>by
 rcases f k d b j l with a|a|a
 exact g a;exact h a;exact i a
def ZfA.p{S b w' c i g e d}(l:ZfA b c i g e d)(h:Aa S b w')(f:gc S b):ZfA w' c i g e d:=by obtain⟨j,n,k,m,a⟩:=l;exact⟨j,n,k,m,h.g a.r (f.at a.r C C C),h.row a.row (f.row a.row C C C)⟩
def Zcl.p{S b w' d i g e c}(l:Zcl b d i g e c)(h:Aa S b w')(f:gc S b):Zcl w' d i g e c:=by obtain⟨j,n,k,m,a⟩:=l;exact⟨j,n,k,m,h.g a.r (f.at a.r C C C),h.row a.row (f.row a.row C C C)⟩
def Hv.p{S e w' g k f h}(l:Hv e g k f h)(j:Aa S e w')(i:gc S e):Hv w' g k f h:=by
 rcases l with⟨b,d,a,c⟩|⟨b,d,a,c⟩
 exact .inl ⟨b,d,a,c.p j i⟩;exact .inr ⟨b,d,a,c.p j i⟩
def gc.none b:gc (λ_=>False) b:=λ_ _ _ _ a=>a.elim
def Hv.below{a g base f b c}(d:Hv a base f b c)(e:E_ a g):=d.p (Aa.a e) (gc.none a)
def Hv.m{l h g k f i}(n:Hv l h k f i)(j:g<=h):Hv l g k f i:=by
 rcases n with⟨d,e,b,q,r,c,o,a⟩|⟨d,e,b,m,p,c,o,a⟩
 exact .inl ⟨d,e,b,q,r,c,O,a.r,Ce a.row j⟩;exact .inr ⟨d,e,b,m,p,c,O,a.r,Ce a.row j⟩
def Hv.zero{f b e a c}(d:Hv f b e a c):=d.m r_
def Hv.iface{j d b c g}(h:Hv j d b c g):∃i a,b=.iface i (P_ a):=by
 rcases h with⟨_,a,e,m,n,f,_⟩|⟨_,a,e,k,l,f,_⟩
 ·grind
 grind
def Db:BS:=⟨[],[],0⟩
def Od:List (Value×Value)->List Value
  |[]=>[]
  |a::b=>[a.1,a.2]++Od b
def Uv a b:Od (a++b)=Od a++Od b:=by
 induction a with
 |nil=>rfl
 |cons e d c=>simp[Od,c]
structure Ok(e)(d:World)(f)(c)(a:List BS):Prop where
 row:d.ownsRow 0 163 2 f a.length (Od c)
 len:c.length=a.length
 j:∀b,b<a.length->Ad d e (c.getD b Ld).1 (An (a.getD b Db).fs)/\Hv d e (c.getD b Ld).2 (a.getD b Db).N (a.getD b Db).g
def Ok.m{j d c h i b}(a:Ok d j h i b)(e:c<=d):Ok c j h i b:=⟨a.row,a.len,λg f=>⟨Ce (a.j g f).1 e,(a.j g f).2.m e⟩⟩
abbrev Zn4(d:World)(b:Value)(c:List (Value×Value))(a:List BS):Prop:=Ok 0 d b c a
def mh(e:Nat)(d:List Bool)(c b:List Nat)(a:Nat):Nat:=if d.getD a false=true/\b.getD a 0=0 then e+c.getD a 0 else b.getD a 0
def Zg4(e:Nat)(d:List Bool)(b c:List Nat)(a:Nat):List XS:=if d.getD a false=true/\c.getD a 0≠0 then[⟨a,e,b.getD a 0⟩] else[]
def Jh(e:Nat)(d:List Bool)(c a:List Nat)(b:Nat):List Nat:=(range b).map (mh e d c a)++a.drop b
def Jq(d:Nat)(c:List Bool)(a b:List Nat):Nat->List XS
 |0=>[]
 |e+1=>Jq d c a b e++Zg4 d c a b e
def lq e d c a {b}(f:b<=a.length):(Jh e d c a b).length=a.length:=by simp[Jh];omega
def ZgM d c b a:Jh d c b a 0=a:=by simp[Jh]
theorem Zfk e d c b {a}:(Jh e d c b a).getD a 0=b.getD a 0:=by simp[Jh,getD,getElem?_append_right]
def Zbg e d c b {a}(f:a<b.length):(Jh e d c b a).set a (mh e d c b a)=Jh e d c b (a+1):=by unfold Jh;rw[aN f,set_append_right _ _ s_,length_map,length_range,Nat.sub_self,set_cons_zero,range_succ,map_append,append_assoc];rfl
def ZgL e d c a {b}(g:b<a.length)(f:mh e d c a b=a.getD b 0):Jh e d c a (b+1)=Jh e d c a b:=by
 rw[<- Zbg e d c a g,f];apply ext_getElem;simp
 grind [Zfk]
theorem Yb e d b c:∀a,(Jq e d b c a).length<=a
 |0=>by simp[Jq]
 | a+1=>by
  have:=Yb e d b c a
  grind [Jq,Zg4]
structure CS where
 N:List Nat
 q:List XS
 off:Nat
def Ak(f:List KS)(d:List (List Bool))(c:List (List Nat))(e:Nat)(b:CS)(a:Nat):CS:=
 ⟨Jh b.off (d.getD a []) (c.getD a []) b.N e,b.q++Jq a (d.getD a []) (c.getD a []) b.N e,b.off+(f.getD a Ai).a⟩
def Jm(c:List KS)(d:List (List Bool))(b:List (List Nat))(a:Nat)(f:List XS)(e:List Nat):CS:=e.foldl (Ak c d b a) ⟨replicate a 0,f,1⟩
def Lh(d:List (List Bool))(c:List (List Nat))(e:Nat)(a:Ga)(b:GS):Ga:=
 ⟨a.h,a.g++[⟨b.fs,(Jm a.h d c e a.q b.fs).N,(Jm a.h d c e a.q b.fs).off-1⟩],(Jm a.h d c e a.q b.fs).q⟩
def Rj:ES:=⟨false,[],[]⟩
def Un:Value×Value×Value:=(N_,N_,N_)
def Lu(b:ES)(a:Value×Value×Value):List Value:=[.bool b.a,a.1,a.2.1,a.2.2]
def Ms:List ES->List (Value×Value×Value)->List Value
 |[],_=>[]
 |_::_,[]=>[]
 |b::a,c::d=>Lu b c++Ms a d
def jo:∀(c:List ES) (e:List (Value×Value×Value)),e.length=c.length->∀a,a<c.length->∀b,b<4->(Ms c e)[a*4+b]? =(Lu (c.getD a Rj) (e.getD a Un))[b]?
 |[],_,_,a,d=>by simp at d
 |f::c,[],d,_,_=>by simp at d
 |f::c,h::e,_,0,_=>λb g=>by grind [Ms,Lu]
 |f::c,h::e,d,a+1,i=>λb g=>by simp only[Ms];rw[getElem?_append_right (by simp[Lu];omega),show(a+1)*4+b-(Lu f h).length=a*4+b by simp[Lu];omega];exact jo _ _ (by simpa using d) a (by simpa using i) b g
structure Yt(e)(d:World)(g)(c)(b)(f:List (List Nat)):Prop where
 row:d.ownsRow 0 266 4 g b.length (Ms b c)
 len:c.length=b.length
 j:∀a,a<b.length->Ad d e (c.getD a Un).1 (b.getD a Rj).g/\Bi d e (c.getD a Un).2.1 (b.getD a Rj).c/\Ad d 0 (c.getD a Un).2.2 (An (f.getD a []))
abbrev Zo4(e:World)(c:Value)(d:List (Value×Value×Value))(b:List ES)(a:List (List Nat)):Prop:=Yt 0 e c d b a
def Yt.m{k f e i j g d}(a:Yt f k i j g d)(h:e<=f):Yt e k i j g d:=⟨a.row,a.len,λc b=>⟨Ce (a.j c b).1 h,Ce (a.j c b).2.1 h,(a.j c b).2.2⟩⟩
def Yt.p{S f w' h j k i g}(a:Yt h f j k i g)(e:Aa S f w')(d:gc S f):Yt h w' j k i g:=
 ⟨e.row a.row (d.row a.row C C C),a.len,λc b=>⟨e.row (a.j c b).1 (d.row (a.j c b).1 C C C),e.row (a.j c b).2.1 (d.row (a.j c b).2.1 C C C),e.row (a.j c b).2.2 (d.row (a.j c b).2.2 C C C)⟩⟩
def Yt.below{a h base f g c b}(d:Yt base a f g c b)(e:E_ a h):=d.p (Aa.a e) (gc.none a)
def Yt.cells{c l b s a d e k}(h:Yt l c (L_ b s a) d e k){i}(p:i<e.length):b<c.1.size/\c.cell? (J b (i*4))=some (.bool (e.getD i Rj).a)/\c.cell? (J b (i*4+1))=some (d.getD i Un).1/\c.cell? (J b (i*4+2))=some (d.getD i Un).2.1/\c.cell? (J b (i*4+3))=some (d.getD i Un).2.2:=by
 have q:=h.row
 rcases h.row.2 with⟨_,v⟩|⟨g,t,u,m,w,o,x,_⟩
 omega;injection m with e1 e2 e3;injection e1 with e1;injection e1 with e1 _;subst e1 e2
 have f:∀a j,a<4->(Lu (e.getD i Rj) (d.getD i Un))[a]? =some j->c.cell? (J b (i*4+a))=some j:=λa j n r=>by rw[World.ownsRow.cellAt q (i*4+a) O];exact(jo _ _ h.len i p a n).T r
 exact⟨(Qb o).1,f 0 _ O rfl,f 1 _ O rfl,f 2 _ O rfl,f 3 _ O rfl⟩
def Jk.b{b a k d i j c}(e:Jk d a i j c)(h:Aa b a k)(g:gc b a):=
 e.p h (λn l o f m=>g.at f w_ w_ w_)
def Ik.b{c a f d e b}(g:Ik a d e b)(j:Aa c a f)(i:gc c a):Ik f d e b:=
 g.p j (λm k n h l=>i.at h w_ w_ w_)
structure ci(d)(a:World)(g:Nat)(h b c)(f)(e)(i):Prop where
 r:a.1[g]? =some (O_ #[h,b,c] 168)
 v:Ok d a b f e
 j:Ni a 0 c i
abbrev DsX(g:World)(c:Nat)(e d f:Value)(b:List (Value×Value))(a:List BS)(h:List XS):Prop:=ci 0 g c e d f b a h
def ci.m{j c b f h g i e d k}(a:ci c j f h g i e d k)(l:b<=c):ci b j f h g i e d k:=⟨a.r,a.v.m l,a.j⟩
def DsS(b:Nat)(c d:Value):Nat->Prop:=λa=>a=b∨c.ownBlock=some a∨d.ownBlock=some a
def ci.a{f g c n d e i h o}(b:ci g f c n d e i h o):gc (DsS c d e) f:=λq p r l m=>by
 rcases m with a|a|a
 ·subst a;rw[b.r] at l
  grind
 ·have⟨j,k⟩:=Ac b.v.row a
  grind
 have⟨j,k⟩:=Ac b.j a
 grind
def Ok.p{S f w' h e k g}(a:Ok h f e k g)(d:Aa S f w')(l:∀j,e.ownBlock=some j->¬S j)(i:gc S f):Ok h w' e k g:=
 ⟨d.row a.row l,a.len,λc b=>⟨d.row (a.j c b).1 (i.row (a.j c b).1 C C C),(a.j c b).2.p d i⟩⟩
def Ok.below{a g base e f b}(c:Ok base a e f b)(d:E_ a g):=c.p (S:=λ_=>False) (Aa.a d) (λ_ _=>id) (gc.none a)
def ci.below{i j base b g f h e d k}(a:ci base i b g f h e d k)(c:E_ i j):ci base j b g f h e d k:=
 ⟨(c.block b (Qb a.r).1).T a.r,a.v.below c,(Aa.a (S:=λ_=>False) c).row a.j (λ_ _=>id)⟩
def ci.E{g e i d q p r f k j D s}(c:ci i g d q p r k j D)(y:g.grownBy e r.ownBlock)(A:Ni e 0 f s):ci i (e.setCell (J d 2) f) d q p f k j s:=by
 have o:=(Aa.refl _ g).grown y (λa b _=>b);have z:gc _ g:=λa v B b n=>c.a a _ _ b (.inr (.inr n))
 have l:=o.g c.r (λh=>by
  have⟨t,w⟩:=Ac c.j h;have:=c.r
  grind)
 have m:=c.v.p o (λa b h=>by
  have⟨t,w⟩:=Ac c.j h;have⟨u,x⟩:=Ac c.v.row b
  grind) z
 have w:=(Aa.refl (λa=>a=d) e).setCell (p:=(J d 2)) (λ_=>rfl) f
 have t:gc (λa=>a=d) e:=λa v B b n=>w_
 refine⟨ht_ 2 _ _ _ l,m.p w (λa b h=>?_) t,Al A l C⟩;subst h;have⟨u,x⟩:=Ac m.row b
 grind
def Zjx a (b x:Nat):(An a).set b x=An (a.set b x):=by simp[An,map_set]
end Go.Proofs.YtfcgnpchbcmdeaaGreat
