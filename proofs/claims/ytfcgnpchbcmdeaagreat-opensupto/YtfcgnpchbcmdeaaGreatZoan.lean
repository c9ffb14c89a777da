import Derived.Test.YtfcgnpchbcmdeaaGreatZoai
import Derived.Test.YtfcgnpchbcmdeaaGreatZoam
namespace Go.Proofs.YtfcgnpchbcmdeaaGreat
set_option linter.all false
set_option maxRecDepth 100000
set_option maxHeartbeats 4000000
open Go.RowKit List Nat World Go.Proofs.Tryz Value IntKind Lib Region
def Bi(d:World)(b:Nat)(c:Value)(a:List ByteArray):Prop:=d.ownsRow b 9 1 c a.length (a.map string)
def Bi.nil b a:Bi b a (N_) []:=ownsRow_nil b a 9 1
structure ES where
 a:Bool
 g:List Int
 c:List ByteArray
def ES.b(a:ES):Nat:=Kr a.a a.g.length a.c.length
def Vg(e:World)(b:Nat)(f:Value)(a:ES):Prop:=∃c d,f=.agg #[.bool a.a,c,d]/\Ad e b c a.g/\Bi e b d a.c
def Gi(a:ES)(b:VS):Nat:=if b.a=true then a.b+1 else if a.a=true then a.c.findIdx (λd=>decide (d=b.g)) else a.g.countP (λc=>decide (c<b.num))
def Bi.below{c d base b a}(e:Bi c base b a)(f:E_ c d):Bi d base b a:=(Aa.a (S:=λ_=>False) f).row e (λ_ _=>id)
def Vg.below{d e base c a}(f:Vg d base c a)(b:E_ d e):Vg e base c a:=by obtain⟨j,k,g,h,i⟩:=f;exact⟨j,k,g,h.below b,i.below b⟩
def Ad.shape{g d b a}(f:Ad g d b a):∃c e,b=.slice c a.length e:=by
 rcases f.2 with⟨rfl,i⟩|⟨k,j,h,rfl,_⟩
 ·grind
 grind
def Bi.a{g d b a}(f:Bi g d b a):∃c e,b=.slice c a.length e:=by
 rcases f.2 with⟨rfl,i⟩|⟨k,j,h,rfl,_⟩
 ·grind
 grind
def Vg.a{g d h a}(i:Vg g d h a):∃b e c f,h=.agg #[.bool a.a,V b a.g.length e,V c a.c.length f]/\Ad g d (V b a.g.length e) a.g/\Bi g d (V c a.c.length f) a.c:=by
 obtain⟨m,n,l,j,k⟩:=i;obtain⟨b,e,rfl⟩:=j.shape;obtain⟨c,f,rfl⟩:=k.a
 grind
def ZdR e c h a x b (f:Ad b h (V e a.length c) a)(r:a.Pairwise (· <= ·))(p:a.length<=1000000):C_ 275 #[V e a.length c,I x] b λd j=>(∃i,d=.returned (.tuple #[.int .i64 (a.countP (λg=>decide (g<x)):Nat),.bool i]))/\E_ b j:=by
 have i:=f
 rcases f.2 with⟨d,j⟩|⟨g,l,m,d,_,n,q,_⟩
 ·rw[j];apply (Tryz.slices_BinarySearch_int_empty e c x b).m
  grind [Below.refl]
 injection d with e1 e2 e3;subst e1 e3;refine(Tryz.slices_BinarySearch_int g 0 _ c _ x b x_ O (λk o=>?_) w_).m ?_
 ·rw[Nat.zero_add,World.ownsRow.cellAt i k O]
  grind
 grind [below_drewN,Below.refl]
def eo e x g a (b:VS) d (h:Vg d g e a)(l:a.g.Pairwise (· <= ·))(k:a.g.length<=1000000)(m:x=.agg #[.bool b.a,I b.num,Q_ b.g]):C_ 218 #[e,x] d (U_ (.int .i64 (a.g.countP (λc=>decide (c<b.num)):Nat)) d):=by
 obtain⟨n,p,o,q,rfl,j,_⟩:=h.a;subst m;have f:=Y (λc i=>ZdR _ _ _ _ b.num c (j.below i) l k);generalize a.g.countP (λc=>decide (c<b.num))=u,a.g.length=s at *;refine v_ ?_;go_wp2_with fail
 apply (f _ (q_.alloc s_ _)).m;rintro t v ⟨⟨r,rfl⟩,c⟩;have i:=(q_.alloc s_ _).T (c.m t_);go_wp2;go_ret;exact⟨rfl,i⟩
def ZaE:∀(c:List ByteArray) (b:ByteArray) (a:Nat),(if 0<=idxFromS c b a then idxFromS c b a else((a+c.length:Nat):Int))=((a+c.findIdx (λd=>decide (d=b)):Nat):Int)
 |[],b,a=>by simp[idxFromS]
 | e::c,b,a=>by
  have f:=ZaE c b (a+1)
  by_cases d:e=b
  subst d;simp[idxFromS,findIdx_cons];simp only[idxFromS,findIdx_cons,d,decide_false,cond_false,length_cons,if_false];omega
def Zge d c h a x b (f:Bi b h (V d a.length c) a)(p:a.length<=1000000):C_ 267 #[V d a.length c,Q_ x] b (V_ (.int .i64 (idxOfS a x)) b):=by
 have j:=f
 rcases f.2 with⟨e,g⟩|⟨i,l,m,e,_,n,q,_⟩
 rw[g];have:a=[]:=length_eq_zero_iff.1 g;subst this;exact Tryz.slices_Index_string_empty d c x b;injection e with e1 e2 e3;subst e1 e3
 have:=Tryz.slices_Index_string i 0 a.length c a x b x_ O (λk o=>by
  rw[Nat.zero_add,World.ownsRow.cellAt j k O]
  grind)
 rw[take_length] at this;exact this
def px i x j b (a:VS) e (k:Vg e j i b)(n:b.c.length<=1000000)(o:x=.agg #[.bool a.a,I a.num,Q_ a.g]):C_ 213 #[i,x] e (U_ (.int .i64 (b.c.findIdx (λc=>decide (c=a.g)):Nat)) e):=by
 obtain⟨t,v,u,w,rfl,_,l⟩:=k.a;subst o;have f:=Y (λc d=>Zge _ _ _ _ a.g c (l.below d) n);have g:=ZaE b.c a.g 0;simp only[Nat.zero_add] at g;have s:K ((if 0<=idxOfS _ _ then idxOfS _ _ else _)=_):=g;generalize b.c.findIdx (λc=>decide (c=a.g))=h,idxOfS b.c a.g=c,b.c.length=p at *
 by_cases y:0<=c
 ·have m:¬c<0:=O;have d:K (c=h):=w_;refine v_ ?_;go_wp2_with fail
  apply (f _ (q_.alloc s_ _)).m;rintro q r ⟨rfl,rfl⟩;go_wp2;go_ret;exact⟨by rw[d];rfl,(q_.alloc s_ _)⟩
 have m:c<0:=O;have d:K (p=(h:Int)):=w_;refine v_ ?_;go_wp2_with fail
 apply (f _ (q_.alloc s_ _)).m;rintro q r ⟨rfl,rfl⟩;go_wp2;go_ret;exact⟨by rw[d];rfl,(q_.alloc s_ _)⟩
structure Qv(a:ES):Prop where
 e:a.g.Pairwise (· <= ·)
 p:a.g.length<=1000
 u:a.c.length<=1000
def Zk3 i x A r a c j (o:Vg j A i a)(h:Qv a)(q:x=.agg #[.bool c.a,I c.num,Q_ c.g])(p:D_ j r 0 (.func (.func (if a.a=true then 213 else 218)) #[] #[]))(Q:r<j.1.size):C_ 266 #[i,x,P_ r] j (U_ (.int .i64 (Gi a c:Nat)) j):=by
 have⟨L,N,M,P,t,_,_⟩:=o.a
 have l:K (∀b:World,C_ 191 #[i] b (U_ (.int .i64 (a.b+1)) b)):=λb=>by rw[t];exact dr _ _ _ _ _ _ _ b (by have:=h.p;have:=h.u;unfold Kr;split<;>omega)
 have⟨m,n⟩:=Z_ (λb d=>eo i x _ a c b (o.below d) h.e (p_ h.p) q) (λb d=>px i x _ a c b (o.below d) (p_ h.u) q);have k:K (Gi a c=if _=_ then _ else _):=rfl;subst t q;obtain⟨v,w,y⟩:=c;simp only at l m n k ⊢;generalize a.c.findIdx (λd=>decide (d=y))=G,a.g.countP (λd=>decide (d<w))=H,Gi a ⟨v,w,y⟩=s,a.b=B at *;obtain⟨F,D,E⟩:=a;simp only at l m n k p ⊢;generalize D.length=R,E.length=S at *
 cases v with
 | true=>
  have d:K (s=B+1):=w_;refine v_ ?_;go_wp2_with fail
  apply (l _).m;rintro u z ⟨rfl,f⟩;have g:=(q_.alloc s_ _).T (f.m t_);go_wp2;go_ret;exact⟨by rw[d];rfl,g⟩
 | false=>
  have e:=k.out;rw[aC C] at e
  cases F with
  | true=>
   have d:K (s=G):=(by rw[aD rfl] at e;exact e);rw[aD rfl] at p;refine v_ ?_;go_wp2_with fail
   apply (n _ (q_.alloc s_ _)).m;rintro u z ⟨rfl,f⟩;have g:=(q_.alloc s_ _).T (f.m t_);go_wp2;go_ret;exact⟨by rw[d];rfl,g⟩
  | false=>
   have d:K (s=H):=(by rw[aC C] at e;exact e);rw[aC C] at p;refine v_ ?_;go_wp2_with fail
   apply (m _ (q_.alloc s_ _)).m;rintro u z ⟨rfl,f⟩;have g:=(q_.alloc s_ _).T (f.m t_);go_wp2;go_ret;exact⟨by rw[d];rfl,g⟩
def Sq b a:(madeCells #[b] a).toList=replicate a b:=by apply ext_getElem;simp[madeCells];intro e c d;simp[madeCells,mod_one]
def Gf(a:Nat)(c:a<=1000000) b:(Instr.makeSlice 25 (I a) (I a)).run prog b=.ok (L_ b.1.size a a) (b.alloc (O_ (madeCells #[I 0] a) 3)):=mk_ 1
def Ge a (b:World) c (e:a<=1000000)(d:c<=b.1.size):Ad (b.alloc (O_ (madeCells #[I 0] a) 3)) c (L_ b.1.size a a) (replicate a 0):=by
 have:=ownsRow_lit (base:=c) (size:=1) (e:=3) b (madeCells #[I 0] a) a d m_ (by simp[madeCells]);rw[Sq] at this;unfold Ad
 simpa using this
def Ad.put{b f a g d k e}(h:Ad b f (L_ a d g) e)(l:d=e.length) c:Ad (b.setCell (J a k) (I c)) f (L_ a d g) (e.set k c)/\b.grownBy (b.setCell (J a k) (I c)) (some a):=by subst l;have⟨i,j⟩:=World.ownsRow.stored h k (I c);refine⟨?_,j⟩;unfold Ad;rw[length_set,map_set];exact i
theorem Ad.c{c f a g b k d}(e:Ad c f (L_ a b g) d)(h:b=d.length)(i:k<b):c.cell? (J a k)=some (I (d.getD k 0))/\c.frozen? (J a k)=false:=by
 subst h;refine⟨?_,World.ownsRow.frozenAt e k⟩;rw[World.ownsRow.cellAt e k O]
 grind
def Cp(b:Nat->Int)(c a:Nat):List Int:=(range a).map b++replicate (c-a) 0
def Fd c {a b}(d:b<=a):(Cp c a b).length=a:=by simp[Cp];omega
def Ie b a:Cp b a 0=replicate a 0:=by simp[Cp]
def Id b a:Cp b a a=(range a).map b:=by simp[Cp]
def Jz c {b a}(d:a<b):(Cp c b a).set a (c a)=Cp c b (a+1):=by unfold Cp;rw[show b-a=b-(a+1)+1 by omega,replicate_succ,set_append_right _ _ s_,length_map,length_range,Nat.sub_self,set_cons_zero,range_succ,map_append,append_assoc];rfl
def lx{c f:Type}(b:c->f) d (a:List c):(range a.length).map (λe=>b (a.getD e d))=a.map b:=by
 apply ext_getElem;simp
 grind
def Zh5 Q R T b1 j S b A c e a (F:Vg a b1 T c)(H:Qv c)(c9:Kq a 0 (V S b A) e)(G:e.length=b)(e1:b<=200)(c2:∃n m,Q=.func n #[] m)(c3:∃n m,R=.func n #[] m)(c0:D_ a j 0 (.func (.func (if c.a=true then 213 else 218)) #[] #[]))(L:j<a.1.size):C_ 156 #[.agg #[Q,R,.func (.func 266) #[] #[P_ j]],T,V S b A] a λt f=>∃d,t=.returned d/\Ad f a.1.size d (e.map (λg=>(Gi c g:Nat)))/\E_ a f:=by
 have⟨y,B,z,D,d0,_,_⟩:=F.a;have⟨a0,a7,a5⟩:=y3_ (λf g d=>Zk3 _ _ _ _ c g f (F.below d) H rfl ((d.cell (p:=(J j 0)) L).T c0) (Qh L d.size)) c9 G;have e0:=Gf b O;obtain⟨b5,b7,rfl⟩:=c2;obtain⟨b6,b8,rfl⟩:=c3;have a3:K (e.map (λg=>((Gi c g:Nat):Int))=Cp (λf=>(Gi c (e.getD f Aw):Nat)) b b):=(by show _=_;rw[Id,<- G,lx (λg=>((Gi c g:Nat):Int)) Aw e]);subst d0;generalize c.g.length=N,c.c.length=P,c.a=E at *;have⟨l,i⟩:=M_ ((a.alloc (O_ #[.func b5 #[] b7,.func b6 #[] b8,.func (.func 266) #[] #[P_ j]] 263)).alloc (O_ #[.bool E,V y N B,V z P D] 170));have u:K (E_ a l):=by show Below _ _ _;rw[i];exact q_.alloc s_ _
 have M:l.1.size=a.1.size+1+1:=(by rw[i];simp);refine dl_ ?_;go_enter func156,ntmps156;go_wp2_with fail
 go_loopw [15] (λg h=>∃d:Nat,g=.int .i64 d/\d<=b/\K (Ad h (a.1.size+1+1) (.slice (some ⟨a.1.size+1+1,0,none⟩) b b) (Cp (λf=>((Gi c (e.getD f Aw):Nat):Int)) b d))/\K (Below (a.1.size+1+1) l h)) (λg _=>b-(intOf g).toNat)
 case atStart=>
  refine⟨0,rfl,r_,?_,?_⟩;rw[Ie];have:=Ge b l (a.1.size+1+1) O O;rw[M,i] at this;exact this;show Below _ _ _;rw[i];exact y_.alloc s_ _
 obtain⟨d,rfl,H,w,a1⟩:=hrel;have h:=a1.out;have c8:=h.size;rw[M] at c8;have d4:wr.cell? _=some (.func (.func 266) #[] #[P_ j]):=(h.cell (p:=(J a.1.size 2)) w_).T (by rw[i];simp[go_sem]);have d5:wr.cell? _=some (.bool E):=(h.cell (p:=(J (a.1.size+1) 0)) w_).T (by rw[i];simp[go_sem]);have d6:wr.cell? _=some (V y N B):=(h.cell (p:=(J (a.1.size+1) 1)) w_).T (by rw[i];simp[go_sem]);have d7:wr.cell? _=some (V z P D):=(h.cell (p:=(J (a.1.size+1) 2)) w_).T (by rw[i];simp[go_sem])
 by_cases q:d<b
 ·have c5:d<e.length:=a5 ▸ q;obtain⟨s,rfl,r,b2,b3,b4⟩:=a7.at c5;have k:=u.T (h.m O);have a8:=(k.cell (p:=(J s (d*3))) r).T b2;have a9:=(k.cell (p:=(J s (d*3+1))) r).T b3;have b0:=(k.cell (p:=(J s (d*3+2))) r).T b4;have c4:=Fd (λf=>((Gi c (e.getD f Aw):Nat):Int)) (show d<=b by omega);have c7:=Jz (λf=>((Gi c (e.getD f Aw):Nat):Int)) q;have⟨a6,v⟩:=Z_ c7 c4.s;generalize e.getD d Aw=g at *;obtain⟨U,W,X⟩:=g;simp only at a8 a9 b0;have d1:=F_ d b;have⟨a2,a4⟩:=Z_ k h;have d8:a.1.size<wr.1.size:=O;have d9:a.1.size+1<wr.1.size:=O;go_wp2_with fail
  apply (a0 _ ⟨U,W,X⟩ (a2.alloc O _)).m;rintro t e2 ⟨rfl,o⟩;have c6:=o.size;simp at c6;have x:=Y ((w.alloc _).below o);have c1:=x.c v q;obtain⟨d2,d3⟩:=c1;have b9:=a4.T (((y_.alloc O _)).T (o.m t_));have Z:=Y b9;generalize (Cp (λf=>((Gi c (e.getD f Aw):Nat):Int)) b d)=f,Gi c ⟨U,W,X⟩=t at *;generalize f.getD d 0=e3 at *;go_wp2;go_roundw
  case rel=>
   refine⟨d+1,g_,O,?_,?_⟩;rw[<- a6];exact(x.put v _).1;exact Z.setCell x_ _
  case measure=>exact z_
 have k:¬d<(b:Int):=O;have f:K (Ad wr a.1.size (L_ (a.1.size+1+1) b b) (e.map (λg=>(Gi c g:Nat)))/\E_ a wr):=(by rw[a3];have:d=b:=O;subst this;exact⟨w.m O,u.T (h.m O)⟩);go_wp2;go_ret;exact⟨_,rfl,f.1,f.2⟩
def An(a:List Nat):List Int:=a.map (λb:Nat=>b)
def Znw(x a:Nat):((x !=(a:Int)))=decide (x≠a):=w_
def Aj a:(An a).length=a.length:=by simp[An]
def Br a b:(An a).getD b 0=(a.getD b 0:Nat):=by
 simp only[An,getD,getElem?_map]
 grind
def Ad.b{b f e c g d}(i:Ad b f (V e c g) d)(r:d.length=c){k}(q:k<c):∃a,e=some ⟨a,0,none⟩/\a<b.1.size/\f<=a/\b.cell? (J a k)=some (I (d.getD k 0))/\b.frozen? (J a k)=false:=by
 rcases i.2 with⟨h,n⟩|⟨m,j,l,h,o,p,s,_⟩
 omega
 grind [Ad.c]
def Ej(d:World)(b:Nat)(c:Value)(a:List Bool):Prop:=d.ownsRow b 4 1 c a.length (a.map Value.bool)
def Ej.below{c d base b a}(e:Ej c base b a)(f:E_ c d):Ej d base b a:=(Aa.a (S:=λ_=>False) f).row e (λ_ _=>id)
def Ej.alloc{w a c d}(e:Ej w a c d) b:Ej (w.alloc b) a c d:=ra_ e b
def Ej.m{e b b' d a}(c:Ej e b' d a)(j:b<=b'):Ej e b d a:=by
 refine⟨c.1,?_⟩
 rcases c.2 with l|⟨i,f,g,h,k,m⟩
 exact .inl l;exact .inr ⟨i,f,g,h,aG j k,m⟩
def Ej.shape{g d b a}(f:Ej g d b a):∃c e,b=.slice c a.length e:=by
 rcases f.2 with⟨rfl,i⟩|⟨k,j,h,rfl,_⟩
 ·grind
 grind
def Ej.put{b f a g d k e}(h:Ej b f (L_ a d g) e)(l:d=e.length) c:Ej (b.setCell (J a k) (.bool c)) f (L_ a d g) (e.set k c)/\b.grownBy (b.setCell (J a k) (.bool c)) (some a):=by subst l;have⟨i,j⟩:=World.ownsRow.stored h k (.bool c);refine⟨?_,j⟩;unfold Ej;rw[length_set,map_set];exact i
def Ej.b{b g f d i e}(c:Ej b g (V f d i) e)(n:e.length=d){k}(r:k<d):∃a,f=some ⟨a,0,none⟩/\a<b.1.size/\g<=a/\b.cell? (J a k)=some (.bool (e.getD k false))/\b.frozen? (J a k)=false:=by
 rcases c.2 with⟨h,q⟩|⟨j,o,p,h,l,m,s,_⟩
 omega;injection h with e1 e2 e3;subst e1 e3 n;refine⟨j,rfl,(Qb m).1,l,?_,World.ownsRow.frozenAt c k⟩;rw[World.ownsRow.cellAt c k O]
 grind
def Qk(a:Nat)(c:a<=1000000) b:(Instr.makeSlice 101 (I a) (I a)).run prog b=.ok (L_ b.1.size a a) (b.alloc (O_ (madeCells #[.bool false] a) 4)):=mk_ 1
def Pz a (b:World) c (e:a<=1000000)(d:c<=b.1.size):Ej (b.alloc (O_ (madeCells #[.bool false] a) 4)) c (L_ b.1.size a a) (replicate a false):=by
 have:=ownsRow_lit (base:=c) (size:=1) (e:=4) b (madeCells #[.bool false] a) a d m_ (by simp[madeCells]);rw[Sq] at this;unfold Ej
 simpa using this
def Qz(b:Nat->Bool)(c a:Nat):List Bool:=(range a).map b++replicate (c-a) false
def Zf0 c {a b}(d:b<=a):(Qz c a b).length=a:=by simp[Qz];omega
def ZcX b a:Qz b a 0=replicate a false:=by simp[Qz]
def ZcW b a:Qz b a a=(range a).map b:=by simp[Qz]
def Zf1 c {b a}(d:a<b):(Qz c b a).set a (c a)=Qz c b (a+1):=by unfold Qz;rw[show b-a=b-(a+1)+1 by omega,replicate_succ,set_append_right _ _ s_,length_map,length_range,Nat.sub_self,set_cons_zero,range_succ,map_append,append_assoc];rfl
def Cx(a:List Nat)(c:Nat):List Bool:=a.map (λb=>decide (b≠c))
def fn m (a i c:Nat) b d (r:Ad d 0 (V m a i) (An b))(j:b.length=a)(w:a<=200):C_ 205 #[V m a i,I c] d λg f=>∃e,g=.returned e/\Ej f d.1.size e (Cx b c)/\E_ d f:=by
 have v:=Qk a O;have n:K (Cx b c=Qz (λe=>decide (b.getD e 0≠c)) a a):=(by show _=_;rw[ZcW,<- j,Cx,lx (λe=>decide (e≠c)) 0 b]);refine v_ ?_;go_wp2_with fail
 go_loopw [13] (λf g=>∃k:Nat,f=.int .i64 k/\k<=a/\K (Ej g d.1.size (.slice (some ⟨d.1.size,0,none⟩) a a) (Qz (λe=>decide (b.getD e 0≠c)) a k))/\E_ d g) (λf _=>a-(intOf f).toNat)
 exact⟨0,rfl,r_,by rw[ZcX];exact Pz a d _ O x_,q_⟩;obtain⟨k,rfl,u,h,f⟩:=hrel
 by_cases g:k<a
 ·obtain⟨z,rfl,x,_,q,_⟩:=(Y r).b (by rw[Aj];exact(Y j)) g;have p:=W_ f q;rw[Br] at p;have l:=Zf0 (λe=>decide (b.getD e 0≠c)) (show k<=a by omega);have o:=Y (Zf1 (λe=>decide (b.getD e 0≠c)) g);have⟨A,E,y,_,s,t⟩:=h.b l g;injection E with E;injection E with E _;subst E;generalize Qz (λe=>decide (b.getD e 0≠c)) a k=e at *;generalize e.getD k false=D,b.getD k 0=B at *;go_wp2;go_roundw
  case rel=>
   refine⟨k+1,g_,O,?_,?_⟩;rw[<- o];rw[Znw];exact(h.put (k:=k) (Y l).s _).1;exact f.setCell x_ _
  exact z_
 have l:¬k<(a:Int):=O
 have e:K (Ej wr d.1.size (L_ d.1.size a a) (Cx b c)):=by
  rw[n]
  grind
 go_wp2;go_ret;exact⟨_,rfl,e,f⟩
def Bz(a:List Nat)(c:Nat):List Int:=(range c).map (λb=>(a.count b:Nat))
def Co b a:(Bz b a).length=a:=by simp[Bz]
def ZcJ a:Bz [] a=replicate a 0:=by apply ext_getElem;simp[Bz];intro d b c;simp[Bz]
def Zad c {a b}(d:a<b):(Bz c b).set a ((Bz c b).getD a 0+1)=Bz (c++[a]) b:=by
 apply ext_getElem;simp[Bz]
 grind [Bz]
def ZfS a c b:0<=(Bz a c).getD b 0/\(Bz a c).getD b 0<=a.length:=by grind [Bz]
def Xt(a:List Nat)(b:Nat):Int:=Lib.idxOf (Bz a b) (maxOf (Bz a b))
def ac m d i a b c (x:Ad c 0 (V m d i) (An b))(t:b.length=d)(G:d<=200)(B:∀r∈b,r<a)(s:0<a)(y:a<=1000):C_ 204 #[V m d i,I a] c (U_ (.int .i64 (Xt b a)) c):=by
 have h:=Y t;have F:=Gf a O;refine v_ ?_;go_wp2_with fail
 go_loopw [12] (λe f=>∃k:Nat,e=.int .i64 k/\k<=d/\K (Ad f c.1.size (.slice (some ⟨c.1.size,0,none⟩) a a) (Bz (b.take k) a))/\E_ c f) (λe _=>d-(intOf e).toNat)
 exact⟨0,rfl,r_,by rw[take_zero,ZcJ];exact Ge a c _ O x_,q_⟩;obtain⟨k,rfl,D,f,g⟩:=hrel
 by_cases l:k<d
 ·obtain⟨N,rfl,H,_,u,_⟩:=(Y x).b (by rw[Aj];exact h) l;have q:=W_ g u;rw[Br] at q;have v:k<b.length:=h ▸ l;have e:b.getD k 0<a:=(by grind [Qf]);have w:b.take (k+1)=b.take k++[b.getD k 0]:=(by rw[Qi v];grind);have p:K ((Bz (b.take k) a).set (b.getD k 0) ((Bz (b.take k) a).getD (b.getD k 0) 0+1)=Bz (b.take (k+1)) a):=(by show _=_;rw[w,Zad _ e]);have E:((b.take k).length:Int)<=200:=t_;have⟨P,R,_,_,z,A⟩:=f.b (Co _ _) e;injection R with R;injection R with R _;subst R;have⟨L,M⟩:=(ZfS (b.take k) a (b.getD k 0));have o:K (a=(Bz (b.take k) a).length):=(Co _ _).s;generalize Bz (b.take k) a=n,b.getD k 0=j at *;generalize n.getD j 0=Q at *;go_wp2;go_roundw
  case rel=>
   refine⟨k+1,g_,O,?_,?_⟩;rw[<- p];exact(f.put (k:=j) o _).1;exact g.setCell x_ _
  exact z_
 have q:¬k<(d:Int):=O
 have j:Ad wr c.1.size (L_ c.1.size a a) (Bz b a):=by
  have:=f.out
  grind
 have o:K (C_ 253 #[L_ c.1.size a a] wr (V_ (.int .i64 (maxOf (Bz b a))) wr)):=(by have:=Tryz.slices_Max_int c.1.size 0 a a (Bz b a) wr s (by rw[Co];omega) O (λp e=>by rw[Nat.zero_add];exact(j.c (Co _ _).s (by rw[Co] at e;exact e)).1);rw[aI (by rw[Co];omega)] at this;exact this);have n:K (C_ 252 #[L_ c.1.size a a,I (maxOf (Bz b a))] wr (V_ (.int .i64 (Xt b a)) wr)):=(by have:=Tryz.slices_Index_int c.1.size 0 a a (Bz b a) (maxOf (Bz b a)) wr (by rw[Co];omega) O (λp e=>by rw[Nat.zero_add];exact(j.c (Co _ _).s (by rw[Co] at e;exact e)).1);rw[aI (by rw[Co];omega)] at this;exact this);generalize maxOf (Bz b a)=u at *;go_wp2_with fail
 apply o.m;rintro e p ⟨rfl,rfl⟩;go_wp2_with fail
 apply n.m;rintro e p ⟨rfl,rfl⟩;go_wp2;go_ret;exact⟨rfl,g⟩
def Dp(a:List Bool):Nat:=a.count true
def Ot b a:Dp (b++[a])=Dp b+(if a=true then 1 else 0):=by simp[Dp,count_append];cases a<;>simp
def Qq(a:List Bool){b}(c:b<a.length):a.take (b+1)=a.take b++[a.getD b false]:=by rw[Qi c];grind
def ZeE h c g b e (l:Ej e 0 (V h c g) b)(j:b.length=c)(q:c<=200):C_ 296 #[V h c g] e (V_ (.int .i64 (Dp b:Nat)) e):=by
 have f:=Y j;refine v_ ?_;go_wp2_with fail
 go_loop [8,3] (λd i=>∃a:Nat,d=.int .i64 a/\a<=c/\i=.int .i64 (Dp (b.take a):Nat)/\Dp (b.take a)<=a) (λd _=>c-(intOf d).toNat)
 exact⟨0,rfl,r_,rfl,x_⟩;obtain⟨a,rfl,o,rfl,p⟩:=hrel
 by_cases d:a<c
 ·obtain⟨s,rfl,r,_,n,_⟩:=(Y l).b f d;have k:=Ot (b.take a) (b.getD a false);rw[<- Qq b (f ▸ d)] at k;generalize Dp (b.take a)=m,b.getD a false=i at *
  cases i with
  | true=>
   refine J_ ?_
   grind
  | false=>
   refine J_ ?_
   grind
 have k:¬a<(c:Int):=O;have i:K (Dp (b.take a)=Dp b):=w_;generalize Dp (b.take a)=m at *;go_wp2;go_ret;exact⟨by rw[i];rfl,rfl⟩
structure GS where
 fs:List Nat
 out:List Bool
 g:Nat
 k:Nat
def Hy(a b:List Bool):List Bool:=zipWith (λc d=>c&&d) a b
def Fx(a b:List Bool):Nat:=Dp (Hy a b)
def Th{a b}(c:a.length=b.length):(Hy a b).length=b.length:=by simp[Hy,c]
def jc{a b}(c:a.length=b.length){k}(d:k<b.length):(Hy a b).getD k false=(a.getD k false&&b.getD k false):=by grind [Hy]
theorem Tl a:Dp a<=a.length:=count_le_length
def Nq l p n d k o b c f (D:D_ f l 1 (V n d o))(w:Ej f 0 (V n d o) c)(x:Ej f 0 (V p d k) b)(v:c.length=d)(u:b.length=d)(H:d<=200):C_ 297 #[P_ l,V p d k] f (V_ (.int .i64 (Fx c b:Nat)) f):=by
 have⟨r,q⟩:=Z_ x w;have g:=T_ u v;have G:=Th (a:=c) (b:=b) O;have j:K ((Hy c b).length=d):=w_;refine dl_ ?_;go_enter func297,ntmps297;go_wp2_with fail
 go_loop [10,5] (λe h=>∃a:Nat,e=.int .i64 a/\a<=d/\h=.int .i64 (Dp ((Hy c b).take a):Nat)/\Dp ((Hy c b).take a)<=a) (λe _=>d-(intOf e).toNat)
 case atStart=>exact⟨0,rfl,r_,rfl,x_⟩
 obtain⟨a,rfl,E,rfl,F⟩:=hrel
 by_cases i:a<d
 ·obtain⟨N,rfl,L,_,z,_⟩:=r.b g.1 i;obtain⟨P,rfl,M,_,A,_⟩:=q.b g.2 i;have m:=Ot ((Hy c b).take a) ((Hy c b).getD a false);rw[<- Qq _ (j ▸ i),jc (p_ g.out) (p_ g.out)] at m;have y:=Y m;generalize Dp ((Hy c b).take a)=h,b.getD a false=s,c.getD a false=t at *;have B:=F_ a d
  cases s with
  | true=>
   cases t with
   | true=>
    have e:K (Dp ((Hy c b).take (a+1))=h+1):=w_;refine J_ ?_;exact⟨a+1,g_,O,by rw[e];go_num,by rw[e];omega⟩
   | false=>
    have e:K (Dp ((Hy c b).take (a+1))=h):=w_;refine J_ ?_;exact⟨a+1,g_,O,by rw[e],by rw[e];omega⟩
  | false=>
   have e:K (Dp ((Hy c b).take (a+1))=h):=w_;refine J_ ?_;exact⟨a+1,g_,O,by rw[e],by rw[e];omega⟩
 have m:¬a<(d:Int):=O;have e:K (Dp ((Hy c b).take a)=Fx c b):=(by show _=_;rw[aI (p_ j.out)];rfl);generalize Dp ((Hy c b).take a)=h at *;go_wp2;go_ret;exact⟨by rw[e];rfl,rfl⟩
structure ZfD(c:World)(K:Nat->Prop)(f:Nat)(d e)(b:GS):Prop where
 r:c.1[f]? =some (O_ #[d,e,I b.g,I b.k] 351)
 fs:Ad c 0 d (An b.fs)
 out:Ej c 0 e b.out
 h:K f
 g:∀a,d.ownBlock=some a->K a
 i:∀a,e.ownBlock=some a->K a
 j:∀a,K a->a<c.1.size
def ud(e:World)(K:Nat->Prop)(b:Nat)(a:GS):Prop:=∃c d,ZfD e K b c d a
def ZfD.p{S j w' K g h i f}(a:ZfD j K g h i f)(d:Aa S j w')(e:∀b,K b->¬S b):ZfD w' K g h i f:=
 ⟨d.g a.r (e _ a.h),d.row a.fs (λb c=>e b (a.g b c)),d.row a.out (λb c=>e b (a.i b c)),a.h,a.g,a.i,λb c=>Qh (a.j b c) d.size⟩
def ud.p{S e w' K c b}(a:ud e K c b)(g:Aa S e w')(f:∀d,K d->¬S d):ud w' K c b:=by obtain⟨h,i,a⟩:=a;exact⟨h,i,a.p g f⟩
def orL(a b:List Bool):List Bool:=zipWith (λc d=>c||d) a b
def Ug(a:GS)(d:Nat)(b:List Bool)(c:Nat):GS:=⟨a.fs++[d],orL a.out b,a.g+Fx a.out b,a.k+c⟩
def ZaU a b:An (a++b)=An a++An b:=by simp[An]
def orK(a c:List Bool)(b:Nat):List Bool:=(orL a c).take b++a.drop b
theorem Lx{a b}(c:a.length=b.length):(orL a b).length=a.length:=by simp[orL,c]
def Zfi{a b}(d:a.length=b.length){c}(e:c<=a.length):(orK a b c).length=a.length:=by have:=Lx d;simp[orK];omega
def ZnE{a c}(d:a.length=c.length){b}(e:b<a.length):(orK a c b).getD b false=a.getD b false:=by grind [Lx,orK]
def Zl0{b c}(e:b.length=c.length){a}(d:a<b.length):(orK b c a).set a (b.getD a false||c.getD a false)=orK b c (a+1):=by have h:=Lx e;have g:a<c.length:=O;have f:(orL b c)[a]' O=(b.getD a false||c.getD a false):=(by simp[orL,getD,d,g]);unfold orK;rw[Qi O,f,append_assoc,aN d,set_append_right _ _ t_];have:a-(List.take a (orL b c)).length=0:=t_;rw[this];rfl
def Zer K (f l u:Nat) e0 e1 a1 c G b a d (r:ZfD d K f e0 e1 a)(W:Ej d 0 (V a1 c G) b)(N:a.out.length=c)(M:b.length=c)(d6:c<=200)(e7:a.g<=1000)(e5:a.k<=1000)(e6:u<=1000)(e9:a.fs.length<=1000)(b6:∀k,(slice a1 c G).ownBlock=some k->¬K k):Calls prog 256 #[P_ f,I l,V a1 c G,I u] d λe j=>e=.returned (.tuple #[])/\(∃m,ud j m f (Ug a l b u)/\∀k,m k->K k∨d.1.size<=k)/\Aa K d j:=by
 have⟨Q,x,b8⟩:=r.out.shape;rw[N] at b8;subst b8;have⟨a7,a8,b7⟩:=r.fs.shape;rw[Aj] at b7;subst b7;have b2:=n_ 1 r.r;have U:=n_ 2 r.r;have d2:=Tl (Hy a.out b);rw[Th O,M] at d2;have e8:Fx a.out b<=200:=(by unfold Fx;omega);have⟨a3,h⟩:=Z_ (Nq _ _ _ c G _ b _ d.drew b2 r.out W N M d6) r;have g:=x4_ W M N b6;have b3:=λd9=>R_ d9 _ _ r.r;have d3:d.drew.frozen? _=_:=b3 2;clear r W M N b6 b2 b3;refine dl_ ?_;go_enter func256,ntmps256;go_upto_region 0 with fail;refine Af (λj=>j.cell? _=some _) 10 k_ U (λhHeld=>?_);refine K_ ?_;refine on_ 6 λKK hK=>?_;go_simp;apply (a3).m;rintro e j ⟨rfl,rfl⟩;go_simp;refine hK _ _ U (λhHeld=>?_);clear hK KK;refine K_ ?_;refine le_ ?_;rw[As O O]
 have⟨a2,P⟩:=M_ ((d.setCell (J f 2) (I (a.g+(Fx a.out b:Int)))).drew);rw[<- P];have a0:Aa K d a2:=P ▸ ((Aa.refl K d).setCell (p:=(J f 2)) (λ_=>h.h) _).drew;have D:ZfD a2 K f (V a7 a.fs.length a8) (V Q c x) {a with g:=a.g+Fx a.out b}:=(by rw[P];refine⟨?_,?_,?_,h.h,h.g,h.i,λk hk=>by simpa using h.out.j k hk⟩;exact hs_ d _ 2 _ _ _ h.r;exact Al h.out.fs h.out.r C;exact Al h.out.out h.out.r C);have⟨i,a6,c5⟩:=y3_ D a0 h.j;have c6:=n_ 0 D.r;have d4:=D.j _ D.h;have f2:=a0.size;clear P a0 D h a3 U d3 hHeld;go_wp2_with (at_builtin;refine Bx rfl (.tmp 24) _ rfl 0 _ (An a.fs) l rfl (i.fs.alloc _) _ 1 rfl ?_ ?_ ?_ ?_)
 ·simp[go_sem]
 rw[Aj];omega;simp;rintro f3 c1 ⟨Z,E,b9⟩;have v:c1.1[f]? =some (O_ #[V a7 a.fs.length a8,V Q c x,I (a.g+Fx a.out b:Nat),I a.k] 351):=(by rw[E.block f t_ (λe=>Ah i.fs e.s i.r C rfl)];exact(hc_ d4).T i.out.r);have b5:Ej _ 0 _ a.out:=World.ownsRow.kept (i.out.out.alloc _) E (Ao (i.out.fs.alloc _) (i.out.out.alloc (O_ #[I l] 3)) C);have c0:Aa K d c1:=(by have m:Aa K _ (a2.alloc (O_ #[I l] 3)):=(Aa.refl K _).alloc _;exact a6.T (m.grown E (λk hk _=>i.g k hk)));have⟨A,B,X⟩:=Z.shape;rw[Qe,Aj] at X;simp only[length_cons,length_nil,Nat.zero_add] at X;subst X;have c2:=x4_ v b5 c0 Z
 have c4:Hid (∀k,(slice A (a.fs.length+1) B).ownBlock=some k->K k∨d.1.size<=k):=λk hk=>by
  rcases b9 with e|e
  exact .inl (i.g k (e ▸ hk));rw[e.1] at hk;injection hk with hk;exact .inr (by rw[<- hk];omega)
 have z:=T_ i.h i.i;have c7:=n_ 0 v;have d0:=R_ 0 _ _ v;have c8:=n_ 3 v;have d1:=R_ 3 _ _ v;clear Z E b9 v b5 c0 i a6 c6;go_wp2_with fail
 go_loopw [40] (λn m=>∃k:Nat,n=.int .i64 k/\k<=c/\Hid (m.1[f]? =some (.cells #[.slice A (a.fs.length+1) B,.slice Q c x,.int .i64 ((a.g+Fx a.out b:Nat):Int),.int .i64 ((a.k:Int)+(u:Int))] 351 (0,0))/\Ej m 0 (.slice Q c x) (orK a.out b k)/\Aa K d m/\Ad m 0 (.slice A (a.fs.length+1) B) (An a.fs++[(l:Int)]))) (λn _=>c-(intOf n).toNat)
 case atStart=>
  obtain⟨q,R,m,n⟩:=c2;refine⟨0,rfl,r_,?_,?_,?_,?_⟩;exact ht_ 3 _ _ _ (ht_ 0 _ _ _ q);have e:orK a.out b 0=a.out:=(by simp[orK]);rw[e];exact Al (Al R q C) (ht_ 0 _ _ _ q) C;exact(m.setCell (p:=(J f 0)) (λ_=>z.1) _).setCell (p:=(J f 3)) (λ_=>z.1) _;exact Al (Al n q C) (ht_ 0 _ _ _ q) C
 clear c7 d0 c8 d1;obtain⟨k,rfl,hk,S⟩:=hrel
 by_cases b4:k<c
 ·have⟨m,n,t,s⟩:=S.out;have w:a.out.length=b.length:=p_ g.out;obtain⟨o,d7,f0,_,T,a9⟩:=n.b (k:=k) (by rw[Zfi w (by have:=g.out;omega)];exact g.2.2.1) b4;subst d7;have b1:Ej _ 0 _ b:=t.row g.1 g.2.2.2;have⟨E,d8,f1,_,e4,_⟩:=b1.b g.2.1 b4;subst d8;rw[ZnE w (p_ g.out)] at T;have H:=n_ 1 m;have a5:Hid (_=orK _ b (k+1)):=Zl0 w (p_ g.out);have a4:Hid (c=(orK a.out b k).length):=by rw[Zfi w (by have:=g.out;omega)];exact g.2.2.1.s
  have d5:f≠o:=λe=>by
   rcases n.2 with⟨e2,_⟩|⟨L,y,F,e2,_,q,_⟩
   ·cases e2
   injection e2 with e2;injection e2 with e2;injection e2 with e2;rw[e,e2,q] at m;simp at m
  have c3:=x4_ m n t s;have L:wr.drew.cell? _=_:=T;have b0:wr.drew.frozen? _=_:=a9;have e3:=F_ k c
  have F:Hid (∀y,y=(a.out.getD k false||b.getD k false)->(wr.setCell (J o k) (.bool y)).drew.1[f]? =some (O_ #[V A (a.fs.length+1) B,L_ o c x,I (a.g+Fx a.out b:Nat),I (a.k+u)] 351)/\Ej (wr.setCell (J o k) (.bool y)).drew 0 (L_ o c x) (orK a.out b (k+1))/\Aa K d (wr.setCell (J o k) (.bool y)).drew/\Ad (wr.setCell (J o k) (.bool y)).drew 0 (V A (a.fs.length+1) B) (An a.fs++[(l:Int)])):=by rintro y rfl;have⟨q,R⟩:=n.put (k:=k) a4 (a.out.getD k false||b.getD k false);rw[a5] at q;refine⟨?_,q,(t.setCell (p:=(J o k)) (λ_=>z.2 o rfl) _).drew,?_⟩;exact(R.block _ (Qb m).1 (λe=>d5 (by injection e))).T m;exact World.ownsRow.drew (Ad.kept s R (Ao n s C))
  clear S m n t s b1 T a9 a5 a4 c3;generalize b.getD k false=R at *;generalize a.out.getD k false=c9 at *
  cases c9 with
  | true=>
   go_upto_region 6 with fail;refine Af (λj=>j.cell? _=some _/\j.cell? _=some _) 16 k_ ⟨H,L⟩ (λhHeld=>?_);refine K_ ?_;refine le_ ?_;have q:=F true s_;have y:=Y q;clear q F hHeld H L b0;go_wp2;go_roundw;case rel=>exact⟨k+1,g_,O,y⟩
   case measure=>exact z_
  | false=>
   go_upto_region 6 with fail;refine Af (λj=>j.cell? _=some _/\j.cell? _=some _) 16 k_ ⟨H,L⟩ (λhHeld=>?_);refine K_ ?_;refine le_ ?_;have q:=F R s_;have y:=Y q;clear q F hHeld H L b0;go_wp2;go_roundw;case rel=>exact⟨k+1,g_,O,y⟩
   case measure=>exact z_
 have o:¬k<(c:Int):=O
 have q:Hid ((∃m,ud wr m f (Ug a l b u)/\∀k,m k->K k∨d.1.size<=k)/\Aa K d wr):=by
  obtain⟨m,n,t,s⟩:=S;have w:a.out.length=b.length:=p_ g.out;have e:orK a.out b k=orL a.out b:=(by have:=Lx w;unfold orK;rw[aI (p_ g.out),drop_eq_nil_of_le (p_ g.out),append_nil]);rw[e] at n;refine⟨⟨λk=>K k∨(slice _ _ _).ownBlock=some k,⟨_,_,⟨m,?_,n,.inl z.1,λk hk=>.inr hk,λk hk=>.inl (z.2 k hk),λk hk=>?_⟩⟩,λk hk=>?_⟩,t⟩;show Ad wr 0 _ (An (a.fs++[l]));rw[ZaU];exact s
  ·rcases hk with hk|hk
   exact Qh (c5 k hk) t.size;exact(B_ s k hk).2
  rcases hk with hk|hk
  exact .inl hk;exact c4 k hk
 skip
 go_wp2;go_end0;exact⟨rfl,q.1,q.2⟩
def Fj:GS:=⟨[],[],0,0⟩
def qp(a:Nat):Value:=P_ a
structure We(g:World)(h)(d:List Nat)(c:Nat->Nat->Prop)(b:List GS):Prop where
 row:g.ownsRow 0 313 1 h b.length (d.map qp)
 len:d.length=b.length
 j:∀a,a<b.length->ud g (c a) (d.getD a 0) (b.getD a Fj)
 apart:∀a e,a<b.length->e<b.length->a≠e->∀f,c a f->¬c e f
def Ek(b:List Bool)(c d:Nat)(a:GS):Bool:=decide (a.g+Fx a.out b<=d)&&decide (a.k+c<=40)
structure GOk(b)(a:GS):Prop where
 out:a.out.length=b
 g:a.g<=1000
 k:a.k<=1000
 fs:a.fs.length<=1000
def We.at{c f d g a}(e:We c f d g a){i}(r:i<a.length):∃b h,f=L_ b a.length h/\b<c.1.size/\c.cell? (J b i)=some (qp (d.getD i 0)):=by
 have n:=e.row
 rcases e.row.2 with⟨_,p⟩|⟨l,j,o,k,q,m,s,_⟩
 omega;subst k;refine⟨l,j,rfl,(Qb m).1,?_⟩;rw[World.ownsRow.cellAt n i O]
 grind
def We.a{h b f c a}(g:We h b f c a):∃d e,b=.slice d a.length e:=by
 rcases g.row.2 with⟨rfl,j⟩|⟨l,k,i,rfl,_⟩
 ·grind
 grind
def Zc4(b:List Nat)(c:Nat)(a:Nat):Value:=if a<c then qp (b.getD a 0) else .pointer none
def Wy M a0 (N o x d e:Nat) t a3 b c p (P:We p (V M b.length N) t a3 b)(U:∀h∈b,GOk o h)(X:Ej p 0 (V a0 o x) c)(Q:c.length=o)(a9:o<=200)(b4:d<=1000)(a8:b.length<=1000):C_ 255 #[V M b.length N,V a0 o x,I d,I e] p (U_ (Zc4 t b.length (b.findIdx (Ek c d e))) p):=by
 have⟨G,a2⟩:=Z_ P U;have s:=T_ X Q;have⟨n,F⟩:=M_ b.length;have w:=Y F;rw[<- F] at a8 ⊢;clear P U X Q F;refine v_ ?_;go_wp2_with fail
 go_loopw [13] (λf i=>∃a:Nat,f=.int .i64 a/\a<=n/\K (∀g,g<a->Ek c d e (b.getD g Fj)=false)/\∃L,i=p.drewN L) (λf _=>n-(intOf f).toNat)
 exact⟨0,rfl,r_,λg D=>O,0,rfl⟩;obtain⟨a,rfl,b6,l,L,rfl⟩:=hrel
 by_cases T:a<n
 ·have E:a<b.length:=(by rw[<- w];exact T);have⟨c2,b3,aA,b9,R⟩:=G.at E;injection aA with aA _ hgc;subst aA hgc;have⟨c3,c4,hK⟩:=G.j a E;have m:=a2 _ (show b.getD a Fj∈b by grind);have k:K (Ek c d e (b.getD a Fj)=(_&&_)):=rfl
  have q:K (Ek c d e (b.getD a Fj)=true->b.findIdx (Ek c d e)=a):=λW=>by
   have f:b.getD a Fj=b[a]:=w_;rw[f] at W;rw[findIdx_eq E];refine⟨W,λg D=>?_⟩;have:=l g D
   grind
  have r:K (Ek c d e (b.getD a Fj)=false->∀g,g<a+1->Ek c d e (b.getD g Fj)=false):=λa7 g D=>by
   by_cases f:g=a
   rw[f];exact a7;exact l g O
  generalize b.getD a Fj=h at *;have⟨a6,B⟩:=M_ (t.getD a 0);have a1:K (qp a6=qp (t.getD a 0)):=(by show _=_;rw[B]);rw[<- B] at hK R;clear B;have⟨c0,c1,Z⟩:=hK.out.shape;rw[m.out] at Z;subst Z;have H:=n_ 1 hK.r;have b1:=n_ 2 hK.r;have b2:=n_ 3 hK.r;have S:=Tl (Hy h.out c);rw[Th (oj_ s.2 m.out),s.2] at S;have b5:Fx h.out c<=200:=(by unfold Fx;omega);have b7:=m.g;have b8:=m.k;have v:=Y (λf=>Nq _ _ _ o x _ c _ (p.drewN f) H hK.out s.1 m.out s.2 a9);clear hK m S H;generalize Fx h.out c=y at *;generalize h.g=A at *;generalize h.k=z at *;unfold qp at R;have b0:=F_ a n
  by_cases j:A+y<=e
  ·have a4:decide (A+y<=(e:Int))=true:=t_
   by_cases u:z+d<=40
   ·have a5:decide (z+(d:Int)<=40)=true:=t_;have i:=Y (q (by rw[k];simp[j,u]));clear q k j u;go_upto_region 4 with fail;go_quiet (first|(go_at_call 297;exact(v _).m (λ_ _ f=>⟨f.1,_,f.2⟩)));go_wp2;go_ret;refine⟨?_,below_drewN y_ _⟩;rw[i];unfold Zc4;rw[aD T,<- a1];rfl
   have a5:decide (z+(d:Int)<=40)=false:=t_;have i:=Y (r (by rw[k];simp[j,u]));clear q k j u l r;go_upto_region 4 with fail;go_quiet (first|(go_at_call 297;exact(v _).m (λ_ _ f=>⟨f.1,_,f.2⟩)));go_wp2;go_roundw;exact⟨a+1,g_,O,i,_,rfl⟩;exact z_
  have a4:decide (A+y<=(e:Int))=false:=t_;have i:=Y (r (by rw[k];simp[j]));clear q k j l r;go_upto_region 4 with fail;go_quiet (first|(go_at_call 297;exact(v _).m (λ_ _ f=>⟨f.1,_,f.2⟩)));go_wp2;go_roundw;exact⟨a+1,g_,O,i,_,rfl⟩;exact z_
 have k:¬a<(n:Int):=O
 have i:K (¬b.findIdx (Ek c d e)<n):=λf=>by
  rw[w] at f;have j:=findIdx_getElem (w:=f);have:=l (b.findIdx (Ek c d e)) (p_ w.out)
  grind
 clear l;go_wp2;go_ret;refine⟨?_,below_drewN y_ _⟩;unfold Zc4;rw[aC i];rfl
end Go.Proofs.YtfcgnpchbcmdeaaGreat
namespace Go.Proofs.YtfcgnpchbcmdeaaGreat
set_option linter.all false
set_option maxRecDepth 100000
set_option maxHeartbeats 4000000
open Go.RowKit Go.Lib Go.Sort List Nat World Go.Proofs.Tryz Value IntKind Lib Region
structure Ik(d:World)(e)(c)(a:List (List Bool)):Prop where
 row:d.ownsRow 0 101 1 e a.length c
 j:∀b,b<a.length->Ej d 0 (c.getD b (N_)) (a.getD b [])
def Ik.below{f g d e a}(b:Ik f d e a)(c:E_ f g):Ik g d e a:=
 ⟨(Aa.a (S:=λ_=>False) c).row b.row (λ_ _=>id),λi h=>(b.j i h).below c⟩
def Ik.at{c e f a}(d:Ik c e f a){i}(p:i<a.length):∃b g,e=L_ b a.length g/\b<c.1.size/\c.cell? (J b i)=some (f.getD i (N_)):=by
 have r:=d.row
 rcases d.row.2 with⟨_,m⟩|⟨l,h,j,k,n,o,q,_⟩
 omega
 grind [World.ownsRow.cellAt]
def ZfM u v w k c d n a f (i:Ik f (L_ v a.length w) n a)(q:∀A∈a,A.length=k)(r:k<=200)(S:D_ f u 0 (L_ v a.length w))(o:c<a.length)(p:d<a.length):C_ 295 #[I c,I d,P_ u] f λb e=>b=.returned (.int .i64 (compareInt (Dp (a.getD d []):Nat) (Dp (a.getD c []):Nat)))/\∃j,e=f.drewN j:=by
 have⟨T,N,e1,_,E⟩:=i.at o;injection e1 with e1 _ _;injection e1 with e1;injection e1 with e1 _;subst e1;have⟨U,P,e2,_,F⟩:=i.at p;injection e2 with e2 _ _;injection e2 with e2;injection e2 with e2 _;subst e2;have l:=i.j c o;have m:=i.j d p;have s:=q _ (show a.getD c []∈a by grind);have t:=q _ (show a.getD d []∈a by grind);generalize a.getD c []=g,a.getD d []=h,n.getD c (N_)=X,n.getD d (N_)=Z at *;obtain⟨B,G,rfl⟩:=l.shape;obtain⟨D,L,rfl⟩:=m.shape;rw[s] at l E;rw[t] at m F;have⟨x,y⟩:=Z_ (λb=>ZeE _ k _ g (f.drewN b) l s r) (λb=>ZeE _ k _ h (f.drewN b) m t r);have z:K (∀b,Calls _ _ #[.int _ (Dp h:Nat),.int _ (Dp g:Nat)] _ λj e=>_):=λb=>Tryz.cmp_Compare_int _ _ (f.drewN b);generalize compareInt (Dp h:Nat) (Dp g:Nat)=W,Dp g=Q,Dp h=R,a.length=j at *
 have H:=F_ c j;have M:=F_ d j;refine dl_ ?_;go_enter func295,ntmps295;go_upto_region 1 with fail;go_quiet (first|(go_at_call_of 296 (D);exact(y _).m (λ_ _ e=>⟨e.1,_,e.2⟩))|(go_at_call_of 296 (B);exact(x _).m (λ_ _ e=>⟨e.1,_,e.2⟩))|(go_at_call 151;exact(z _).m (λ_ _ e=>⟨e.1,_,e.2⟩)));go_wp2;go_ret;exact⟨rfl,_,rfl⟩
def Uj{m}(x:Fin m):Value:=I x.val
def Ui{m}(a:List (List Bool))(x b:Fin m):Int:=compareInt (Dp (a.getD b.val []):Nat) (Dp (a.getD x.val []):Nat)
def Zpj{a}:OneCell (Uj (m:=a)):=λ_=>rfl
def ZdY a c j h (e:Array (Fin (a+1))) b (u:a+1<=4)(o:e.size=a+1) f (t:CmpReads (α:=Fin (a+1)) prog 295 #[P_ h] Uj (Ui f) c 0 (a+1) b)(n:Holds Uj b c 0 e):
  C_ 294 #[L_ c (a+1) j,.func (.func 295) #[] #[P_ h]] b λd i=>d=.returned (.tuple #[])/\∃g,i=(putRow Uj b c 0 (Sort.insertionSort (ltOf (Ui f)) e 0 (a+1))).drewN g:=by
 have l:K (C_ 346 #[L_ c (a+1) j,I 0,I (a+1:Nat),.func (.func 295) #[] #[P_ h]] b λd i=>d=.returned (.tuple #[])/\∃g,i=(putRow Uj b c 0 (Sort.insertionSort (ltOf (Ui f)) e 0 (a+1))).drewN g):=(by have:=Tryz.insertionSortCmpFunc_one Uj Zpj (Ui f) 295 #[P_ h] c 0 j 0 (a+1) e b (enters_of func295 k_ rfl) w_ n r_ O O;rw[o] at this;exact this);generalize putRow Uj b c 0 (Sort.insertionSort (ltOf (Ui f)) e 0 (a+1))=k at *
 have m:K (C_ 329 #[L_ c (a+1) j,I (a+1:Nat),.func (.func 295) #[] #[P_ h]] b λd i=>d=.returned (.tuple #[])/\∃g,i=k.drewN g):=by
  have r:¬20<=(a:Int)+1:=O;have s:¬20<(a:Int)+1:=O;refine dl_ ?_;go_enter func329,ntmps329;go_wp2_with fail
  go_loopw [7,8] (λd g i=>d=I 0/\g=I 20/\i=b) (λ_ _ _=>0)
  grind
  obtain⟨rfl,rfl,rfl⟩:=hrel;go_wp2_with fail
  apply (l).m;rintro d p ⟨rfl,i,rfl⟩;go_wp2_with fail
  go_loopw [6] (λg q=>g=I 20/\q=k.drewN i) (λ_ _=>0)
  grind
  obtain⟨rfl,rfl⟩:=hrel;go_wp2;go_end0
  grind
 refine v_ ?_;go_wp2_with fail
 apply (m).m;rintro d p ⟨rfl,i,rfl⟩;go_wp2;go_end0
 grind
def Zeb{d}[Inhabited d] g c a k j (e:Array d) l:Aa (λb=>b=a) c (sortWorld g c a k j e l):=by refine⟨rfl,rfl,rfl,?_,λb h i=>?_⟩;unfold sortWorld;simp;unfold sortWorld;rw[Go.Sort.heap_grow_old _ _ (by simpa using h)];have:a≠b:=λf=>i f.s;simp[Go.Sort.putRow,Go.Sort.mapBlock,Go.Sort.ahead,Array.getElem?_modify,this]
def Zhq{d}[Inhabited d] g c a i (e:Array d):Aa (λb=>b=a) c (putRow g c a i e):=by refine⟨rfl,rfl,rfl,?_,λb j h=>?_⟩;simp[Go.Sort.putRow,Go.Sort.mapBlock];have:a≠b:=λf=>h f.s;simp[Go.Sort.putRow,Go.Sort.mapBlock,Array.getElem?_modify,this]
def Ik.p{S f w' k l g}(a:Ik f k l g)(j:Aa S f w')(n:∀b c e,f.1[b]? =some (O_ c e)->e=101∨e=4->¬S b):Ik w' k l g:=
 ⟨j.row a.row (λb d=>by obtain⟨c,m⟩:=Ac a.row d;grind),λi h=>j.row (a.j i h) (λb d=>by obtain⟨c,m⟩:=Ac (a.j i h) d;grind)⟩
def ZdB{g h a d b u j}{D:Array (Fin (u+1))}(k:Ad g h (L_ a b d) j)(z:j.length=b)(n:D.size=b):Ad (putRow Uj g a 0 D) h (L_ a b d) (D.toList.map (λf=>f.val)):=by
 rcases k.2 with⟨c,_⟩|⟨w,v,i,c,o,r,x,p,q,y⟩
 simp at c;simp only[slice.injEq,Option.some.injEq,Addr.mk.injEq,and_true] at c;obtain⟨rfl,_,rfl⟩:=c;have s:H_ (putRow Uj g a 0 D) a (Go.Sort.putCells Uj 0 D i) 3:=(by simp[Go.Sort.putRow,Go.Sort.mapBlock,Array.getElem?_modify,r,Go.Sort.onCells]);have e:(D.toList.map (λf=>(f.val:Int))).length=b:=(by simp[n]);refine⟨w_,.inr ⟨a,d,_,by rw[e],o,s,p_ e,p,by simp[Go.Sort.putCells,q],?_⟩⟩;rw[e,Nat.mul_one];apply ext_getElem?;intro f
 by_cases t:f<b
 rw[getElem?_take_of_lt t,Array.getElem?_toList];have l:f<i.size:=O;have m:f<D.size:=O;simp[Go.Sort.putCells,l,m,Uj]
 grind
def Jn b:Array (Fin (b+1)):=Array.ofFn (λa=>a)
def Dl(a:Nat)(b:List (List Bool)):List Nat:=(Sort.insertionSort (ltOf (Ui (m:=a+1) b)) (Jn a) 0 (a+1)).toList.map (λc=>c.val)
def Zir c d h f i e t a b (v:a.length=c+1)(m:Ik b (L_ f a.length i) t a)(p:∀k∈a,k.length=e)(q:e<=200)(n:H_ b h #[L_ f a.length i] 309)(o:∃g,H_ b d g 3):CmpReads (α:=Fin (c+1)) prog 295 #[P_ h] Uj (Ui a) d 0 (c+1) b:=by
 intro r s l _ x y;have j:=Zeb (Uj (m:=c+1)) b d 0 r l s;obtain⟨g,w⟩:=o;refine ZfM _ f _ e _ _ _ _ _ (m.p j ?_) p q ?_ O O
 ·grind
 have:=j.g n (λu=>w_);exact G_ 0 _ _ _ this
theorem Ze0{d}[Inhabited d] c (e:SWO c)(b:Array d) a (g:b.size=a):(Sort.insertionSort c b 0 a).size=a:=by have:=(Sort.insertionSort_holds (lt:=c) e b 0 a r_ O).1;obtain⟨f,_⟩:=this;omega
theorem ltF{c} a (x b:Fin c):ltOf (Ui a) x b=decide (Dp (a.getD b.val [])<Dp (a.getD x.val [])):=by
 unfold ltOf Ui compareInt
 grind
theorem ZnO{e} b:SWO (ltOf (Ui (m:=e) b)) where
 irrefl a:=by rw[ltF];simp
 trans a f g c d:=by rw[ltF] at *;simp at *;omega
 ntrans a f g c d:=by rw[ltF] at *;simp at *;omega
theorem Tp a:(Jn a).size=a+1:=by simp[Jn]
theorem Ky a b:(Dl a b).length=a+1:=by grind [Dl,Ze0,ZnO,Tp]
def hh a b:∀c∈Dl a b,c<a+1:=by grind [Dl]
def Ws a g l p t d b (F:a+1<=4)(z:d.length=a+1)(y:Ik b (L_ g (a+1) l) t d)(E:∀v∈d,v.length=p)(H:p<=200):C_ 254 #[L_ g (a+1) l] b λe h=>∃c,e=.returned c/\Ad h b.1.size c (An (Dl a d))/\E_ b h:=by
 have i:=x3_ y z E;have G:=Gf (a+1) O;have P:∀w:_,(Instr.makeSlice 25 (.int _ ((a:Int)+1)) (I ((a:Int)+1))).run _ w=_:=G;refine dl_ ?_;go_enter func254,ntmps254;go_wp2_with fail
 go_loopw [10] (λf h=>∃c:Nat,f=.int .i64 c/\c<=a+1/\K (Ad h (b.1.size+1) (.slice (some ⟨b.1.size+1,0,none⟩) (a+1) (a+1)) (Cp (λe=>(e:Int)) (a+1) c))/\K (Below (b.1.size+1) (b.alloc (.cells #[.slice (some ⟨g,0,none⟩) (a+1) l] 309)) h)) (λf _=>a+1-(intOf f).toNat)
 case atStart=>
  refine⟨0,rfl,r_,?_,?_⟩
  ·rw[Ie];have:=Ge (a+1) (b.alloc (O_ #[L_ g (a+1) l] 309)) (b.1.size+1) O s_;show Ad _ _ _ _
   simpa using this
  exact y_.alloc s_ _
 obtain⟨c,rfl,r,n,m⟩:=hrel;have M:=m.size;simp at M
 by_cases s:c<a+1
 ·have j:=Fd (λe=>(e:Int)) (show c<=a+1 by omega);have⟨h,f⟩:=Z_ (Jz (λe=>(e:Int)) s) j.s;have⟨q,u⟩:=n.c j.s s;generalize Cp (λe=>(e:Int)) (a+1) c=e at *;generalize e.getD c 0=x at *;have k:0<=(c:Int):=O;have o:c<(a:Int)+1:=O;go_wp2;go_roundw
  case rel=>
   refine⟨c+1,g_,O,?_,?_⟩;rw[<- h];exact(n.put f _).1;exact m.setCell x_ _
  case measure=>exact z_
 have Q:¬c<(a:Int)+1:=O;have B:=(m.block _ O).T hn_;have f:=q_.T (m.m O);have o:Ad wr (b.1.size+1) (L_ (b.1.size+1) (a+1) (a+1)) (Cp (λe=>e) (a+1) (a+1)):=(by have:c=a+1:=O;subst this;exact n);have j:=Fd (λe=>(e:Int)) (Qa (a+1));have x:Holds Uj wr (b.1.size+1) 0 (Jn a):=(by intro h e;rw[Tp] at e;rw[Nat.zero_add];have⟨k,q⟩:=o.c j.s e;refine⟨?_,q⟩;rw[k,Id];have:(Jn a)[h]! =⟨h,e⟩:=(by simp[Jn,e]);rw[this];simp[Uj,getD,e]);have A:Ik wr (L_ g d.length l) t d:=i.2.1 ▸ (i.1.below f)
 have D:=Zir a _ _ g _ p _ _ _ i.2.1 A i.2.2 H (i.2.1 ▸ B) (by
  have⟨e,h⟩:=Ac o (k:=b.1.size+1) rfl
  exact⟨e,h⟩)
 have u:K (C_ 294 #[L_ (b.1.size+1) (a+1) (a+1),.func (.func 295) #[] #[P_ b.1.size]] wr λe h=>e=.returned (.tuple #[])/\Ad h b.1.size (L_ (b.1.size+1) (a+1) (a+1)) (An (Dl a d))/\E_ b h):=by
  apply (ZdY a _ _ _ _ _ F (Tp a) _ D x).m;rintro e h ⟨rfl,q,rfl⟩;have L:=ZdB (D:=Sort.insertionSort _ _ 0 _) o j (Ze0 _ (ZnO d) _ _ (Tp a));have k:=Zhq (Uj (m:=a+1)) wr (b.1.size+1) 0 (Sort.insertionSort (ltOf (Ui (m:=a+1) d)) (Jn a) 0 (a+1));refine⟨rfl,?_,?_⟩;have e:An (Dl a d)=(Sort.insertionSort (ltOf (Ui (m:=a+1) d)) (Jn a) 0 (a+1)).toList.map (λN=>(N.val:Int)):=(by simp[An,Dl]);rw[e];exact(Ad.below (Ad.m L O) (below_drewN y_ q));refine below_drewN ?_ q;exact⟨k.os.T f.os,k.tape.T f.tape,k.output.T f.output,aG f.size k.size,λc r=>(k.block c O O).T (f.block c r)⟩
 go_wp2_with fail
 apply u.m;rintro e L ⟨rfl,q,k⟩;have h:=T_ q k;go_wp2;go_ret;exact⟨_,rfl,h.1,h.2⟩
end Go.Proofs.YtfcgnpchbcmdeaaGreat
namespace Go.Proofs.YtfcgnpchbcmdeaaGreat
set_option linter.all false
set_option maxRecDepth 100000
set_option maxHeartbeats 4000000
open Go.RowKit List Nat World Go.Proofs.Tryz Value IntKind Lib Region
structure KS where
 e:ES
 d:Nat
def Ai:KS:=⟨⟨false,[],[]⟩,0⟩
def KS.a(a:KS):Nat:=a.e.b+2
def Bs(a:KS)(b:Value×Value):List Value:=[.bool a.e.a,b.1,b.2,I a.d]
def Ha:List KS->List (Value×Value)->List Value
 |[],_=>[]
 |_::_,[]=>[]
 |b::a,c::d=>Bs b c++Ha a d
def Ld:Value×Value:=(N_,N_)
def js:∀(c:List KS) (e:List (Value×Value)),e.length=c.length->∀a,a<c.length->∀b,b<4->(Ha c e)[a*4+b]? =(Bs (c.getD a Ai) (e.getD a Ld))[b]?
 |[],_,_,a,d=>by simp at d
 |f::c,[],d,_,_=>by simp at d
 |f::c,h::e,_,0,_=>λb g=>by grind [Ha,Bs]
 |f::c,h::e,d,a+1,i=>λb g=>by simp only[Ha];rw[getElem?_append_right (by simp[Bs];omega),show(a+1)*4+b-(Bs f h).length=a*4+b by simp[Bs];omega];exact js _ _ (by simpa using d) a (by simpa using i) b g
def Ce{h:World}{b c a f e:Nat}{g i}(d:h.ownsRow c a f g e i)(m:b<=c):h.ownsRow b a f g e i:=by
 refine⟨d.1,?_⟩
 rcases d.2 with o|⟨l,j,k,a,n,p⟩
 exact .inl o;exact .inr ⟨l,j,k,a,aG m n,p⟩
structure Jk(e)(d:World)(f)(c)(a):Prop where
 row:d.ownsRow 0 172 4 f a.length (Ha a c)
 len:c.length=a.length
 j:∀b,b<a.length->Ad d e (c.getD b Ld).1 (a.getD b Ai).e.g/\Bi d e (c.getD b Ld).2 (a.getD b Ai).e.c
abbrev ZfF(d:World)(b:Value)(c:List (Value×Value))(a:List KS):Prop:=Jk 0 d b c a
def Jk.m{j d c h i b}(a:Jk d j h i b)(e:c<=d):Jk c j h i b:=⟨a.row,a.len,λg f=>⟨Ce (a.j g f).1 e,Ce (a.j g f).2 e⟩⟩
def Jk.p{S i w' k m n j}(a:Jk k i m n j)(h:Aa S i w')(o:∀c d g,i.1[c]? =some (O_ d g)->g=172∨g=3∨g=9->¬S c):Jk k w' m n j:=
 ⟨h.row a.row (λc b=>by obtain⟨d,l⟩:=Ac a.row b;grind),a.len,λf e=>⟨h.row (a.j f e).1 (λc b=>by obtain⟨d,l⟩:=Ac (a.j f e).1 b;grind),h.row (a.j f e).2 (λc b=>by obtain⟨d,l⟩:=Ac (a.j f e).2 b;grind)⟩⟩
def Jk.below{h i base f g c}(a:Jk base h f g c)(b:E_ h i):Jk base i f g c:=
 ⟨(Aa.a (S:=λ_=>False) b).row a.row (λ_ _=>id),a.len,λe d=>⟨(a.j e d).1.below b,(a.j e d).2.below b⟩⟩
def Jk.at{b l t u a}(j:Jk l b t u a){i}(s:i<a.length):∃d c e g f h,t=L_ d a.length c/\d<b.1.size/\b.cell? (J d (i*4))=some (.bool (a.getD i Ai).e.a)/\b.cell? (J d (i*4+1))=some (.slice e (a.getD i Ai).e.g.length g)/\b.cell? (J d (i*4+2))=some (.slice f (a.getD i Ai).e.c.length h)/\b.cell? (J d (i*4+3))=some (I (a.getD i Ai).d)/\Ad b l (.slice e (a.getD i Ai).e.g.length g) (a.getD i Ai).e.g/\Bi b l (.slice f (a.getD i Ai).e.c.length h) (a.getD i Ai).e.c:=by
 have z:=j.row
 rcases j.row.2 with⟨_,D⟩|⟨p,v,B,w,E,y,F,_⟩
 omega;subst w;have⟨m,n⟩:=j.j i s;have⟨e,g,q⟩:=m.shape;have⟨f,h,r⟩:=n.a;rw[q] at m;rw[r] at n
 have k:∀c o,c<4->(Bs (a.getD i Ai) (u.getD i Ld))[c]? =some o->b.cell? (J p (i*4+c))=some o:=λc o x A=>by rw[World.ownsRow.cellAt z (i*4+c) O];exact(js _ _ j.len i s c x).T A
 refine⟨p,v,e,g,f,h,rfl,(Qb y).1,k 0 _ O rfl,?_,?_,k 3 _ O rfl,m,n⟩;rw[<- q];exact k 1 _ O rfl;rw[<- r];exact k 2 _ O rfl
structure Ln(h)(f)(e)(g)(d)(c):Prop where
 x:We h e g d c
 j:∀b,b<c.length->∀a,e.ownBlock=some a->¬d b a
 i:∀a,e.ownBlock=some a->f<=a
 v:∀b,b<c.length->∀a,d b a->f<=a
def We.p{S j w' f g e d}(c:We j f g e d)(i:Aa S j w')(k:∀b,f.ownBlock=some b->¬S b)(l:∀a,a<d.length->∀b,e a b->¬S b):We w' f g e d:=
 ⟨i.row c.row k,c.len,λa h=>(c.j a h).p i (l a h),c.apart⟩
def Ln.p{S j w' c i g f e}(b:Ln j c i g f e)(m:Aa S j w')(h:∀a,c<=a->¬S a):Ln w' c i g f e:=
 ⟨b.x.p m (λa d=>h a (b.i a d)) (λl k a d=>h a (b.v l k a d)),b.j,b.i,b.v⟩
def Ln.put{n x r i z s l h K' G'}(b:Ln n r z s l h)(j:i<h.length)(y:Aa (l i) n x)(D:ud x K' (s.getD i 0) G')(f:∀k,K' k->l i k∨n.1.size<=k)(B:r<=n.1.size):Ln x r z s (λa=>if a=i then K' else l a) (h.set i G'):=by
 have E:∀a,a<h.length->∀k,l a k->k<n.1.size:=λa e k f=>by have⟨d,g,c⟩:=b.x.j a e;exact c.j k f
 refine⟨⟨?_,?_,λa e=>?_,λq o u v A k=>?_⟩,λa e k w=>?_,b.i,λa e k=>?_⟩;rw[length_set];exact y.row b.x.row (λk f=>b.j i j k f);rw[length_set];exact b.x.len
 ·rw[length_set] at e
  by_cases c:a=i
  ·grind
  simp only[aC c];have:(h.set i G').getD a Fj=h.getD a Fj:=(by simp[getD,Ne.s c]);rw[this];exact(b.x.j a e).p y (λk f=>b.x.apart a i e j c k f)
 ·rw[length_set] at u v
  by_cases p:q=i
  ·have m:o≠i:=O;simp only[aD p,aC m];intro g t
   rcases f k g with d|d
   exact b.x.apart i o j v (λc=>m c.s) k d t
   grind
  by_cases m:o=i
  ·simp only[aC p,aD m];intro g t
   rcases f k t with d|d
   exact b.x.apart q i u j p k g d
   grind
  simp only[aC p,aC m];exact b.x.apart q o u v A k
 ·rw[length_set] at e
  by_cases c:a=i
  ·simp only[aD c];intro g
   rcases f k g with d|d
   exact b.j i j k w d;have:=(B_ b.x.row k w).2;omega
  simp only[aC c];exact b.j a e k w
 rw[length_set] at e
 by_cases c:a=i
 ·simp only[aD c];intro g
  rcases f k g with d|d
  exact b.v i j k d;omega
 simp only[aC c];exact b.v a e k
def Ln.a{h w s k u v l q c i n}(g:Ln h s u l q c)(t:w.ownsRow 0 313 1 v (c.length+1) (l.map qp++[qp k]))(H:h.grownBy w u.ownBlock)(B:v.ownBlock=u.ownBlock∨∃r,v.ownBlock=some r/\h.1.size<=r)(m:ud h i k n)(e:∀E,E<c.length->∀a,q E a->¬i a)(L:∀a,u.ownBlock=some a->¬i a)(P:∀a,i a->s<=a)(N:s<=h.1.size):Ln w s v (l++[k]) (λb=>if b=c.length then i else q b) (c++[n]):=by
 have Q:∀b,b<c.length->∀a,q b a->a<h.1.size:=λb d a e=>by have⟨f,j,m⟩:=g.x.j b d;exact m.j a e
 have R:∀a,i a->a<h.1.size:=λa e=>by obtain⟨f,j,m⟩:=m;exact m.j a e
 have F:=(Aa.refl _ h).grown H (λa e _=>e);have M:=g.x.len;refine⟨⟨?_,?_,λb d=>?_,λx y z A G a=>?_⟩,λb d a p=>?_,λa p=>?_,λb d a=>?_⟩
 ·grind
 simp[M]
 ·rw[Qe] at d;simp at d
  by_cases j:b=c.length
  subst j;simp only[if_true];have f:(c++[n]).getD c.length Fj=n:=(by simp[getD]);have o:(l++[k]).getD c.length 0=k:=w_;rw[f,o];exact m.p F (λa e t=>L a t e);have D:b<c.length:=O;simp only[aC j];have f:(c++[n]).getD b Fj=c.getD b Fj:=w_;have o:(l++[k]).getD b 0=l.getD b 0:=w_;rw[f,o];exact(g.x.j b D).p F (λa e t=>g.j b D a t e)
 ·rw[Qe] at z A;simp at z A
  by_cases f:x=c.length
  ·grind
  by_cases j:y=c.length
  ·grind
  simp only[aC f,aC j];exact g.x.apart x y O O G a
 ·rw[Qe] at d;simp at d
  rcases B with f|⟨r,f,o⟩
  ·rw[f] at p
   by_cases j:b=c.length
   ·grind
   simp only[aC j];exact g.j b O a p
  grind
 ·rcases B with f|⟨r,f,o⟩
  rw[f] at p;exact g.i a p
  grind
 rw[Qe] at d;simp at d
 by_cases j:b=c.length
 ·grind
 simp only[aC j];exact g.v b O a
def Do(j:World)(g:Nat)(h i:Value):Prop:=∃b a f,i=.slice b a f/\a<=maxLen/\(a=0∨∃d c,b=some ⟨d,0,none⟩/\j.1[d]? =some (O_ c g)/\∀e,e<a->c[e]? =some h)
section
variable {w w' a:World} {ty:Nat} {u v:Value}
def Do.nil w ty u a b:Do w ty u (V a 0 b):=⟨a,0,b,rfl,by simp[maxLen],.inl rfl⟩
theorem Do.of_row{g c d h a f e}(l:w.ownsRow g ty 1 (L_ c a h) a (replicate a u))(n:a<=maxLen)(s:d<=a)(j:e=some ⟨c,0,none⟩):Do w ty u (V e d f):=by
 subst j
 rcases l.2 with⟨b,_⟩|⟨p,o,i,b,_,k,_,_,_,t⟩
 ·cases b
 injection b with e1 e2 e3;injection e1 with e1;injection e1 with e1;subst e1;refine⟨_,d,f,rfl,O,.inr ⟨c,i,rfl,k,λm r=>?_⟩⟩;have q:(replicate a u)[m]? =some u:=w_
 grind
def Do.q{c a}(b:w.ownsRow c ty 1 v a (replicate a u))(i:a<=maxLen):Do w ty u v:=by
 have j:=b
 rcases b.2 with⟨rfl,_⟩|⟨g,d,e,f,_,h,_,_,_,k⟩
 exact .nil _ _ _ _ _
 grind [of_row]
def Do.p{S}(i:Do w ty u v)(m:Aa S w w')(l:∀b a,v.ownBlock=some b->w.1[b]? =some (O_ a ty)->¬S b):Do w' ty u v:=by obtain⟨h,g,c,rfl,f,k|⟨d,a,rfl,e,j⟩⟩:=i;exact⟨h,g,c,rfl,f,.inl k⟩;exact⟨_,g,c,rfl,f,.inr ⟨d,a,rfl,m.g e (l d _ rfl e),j⟩⟩
def Do.below(a:Do w ty u v)(b:E_ w w'):Do w' ty u v:=a.p (S:=λ_=>False) (.a b) (λ_ _ _ _=>id)
def Do.append{x c m b d}(h:Do w ty u x)(y:w.grownBy w' v.ownBlock)(e:c.ownBlock=v.ownBlock∨c.ownBlock=some d/\Below d w w')(q:w.1.size=d)(D:w'.ownsRow m ty 1 c b (replicate b u))(B:b<=maxLen)(t:∃a g,c=L_ a b g)(A:Zdg x<=b):Do w' ty u x:=by
 subst q
 rcases e with e|⟨_,r⟩
 ·obtain⟨l,k,f,rfl,j,z|⟨a,n,rfl,i,s⟩⟩:=h;exact⟨l,k,f,rfl,j,.inl z⟩;obtain⟨p,g,rfl⟩:=t
  by_cases o:a=p
  ·grind [of_row,Zdg]
  refine⟨_,k,f,rfl,j,.inr ⟨a,n,rfl,?_,s⟩⟩;rw[y.block a (Qb i).1 (by rw[<- e];simpa [ownBlock] using o)];exact i
 exact h.below r
structure Wi(ty j:Nat)(c:Nat->List Value)(b:World->Value->Prop):Prop where
 add:∀i a,c i++c a=c (i+a)
 q:∀{w f a v},w.ownsRow f ty j v a (c a)->a<=maxLen->b w v
 p:∀{S w w' v},b w v->Aa S w w'->(∀g l,v.ownBlock=some g->w.1[g]? =some (O_ l ty)->¬S g)->b w' v
 n:∀{w w':World} {h v d:Value} {f a e},b w h->w.grownBy w' v.ownBlock->(d.ownBlock=v.ownBlock∨d.ownBlock=some e/\Below e w w')->w.1.size=e->w'.ownsRow f ty j d a (c a)->a<=maxLen->(∃m k,d=L_ m a k)->Zdg h<=a->b w' h
def Do.mark{ty u}:Wi ty 1 (replicate · u) (λw=>Do w ty u):=⟨λ_ _=>replicate_append_replicate,Do.q,Do.p,Do.append⟩
def Gq.mark{b}:Wi 98 4 (λa=>flat (replicate a (Lp b))) (λw=>Gq w b):=
 ⟨λa i=>qc b a i,λh=>Gq.q (by unfold Am;rw[length_replicate];exact h),Gq.p,λc d e f g=>Gq.append c d e f (by unfold Am;rw[length_replicate];exact g)⟩
structure rh(a w:World)(ty i:Nat)(g:Nat->List Value)(f:World->Value->Prop)(v)(d j)(e:List Value)(h):Prop where
 row:w.ownsRow 0 ty i v d (g d)
 all:∀c∈e,f w c/\Zdg c<=d+j/\∀b,c.ownBlock=some b->v.ownBlock=some b∨a.1.size<=b
 lt:∀c∈e,∀b,c.ownBlock=some b->b<w.1.size
 u:Aa h a w
variable {n j size:Nat} {b:List Value} {S:Nat->Prop} {R:Nat->List Value} {A:World->Value->Prop}
def rh.start(f:Wi ty size R A)(c:w.ownsRow 0 ty size v n (R n))(g:n<=maxLen)(h:Aa S a w):rh a w ty size R A v n 0 [v] S:=by
 refine⟨c,λi b=>?_,λi b e d=>?_,h⟩
 ·simp only[mem_singleton] at b;subst b;refine⟨f.q c g,?_,λe d=>.inl d⟩
  rcases c.2 with⟨rfl,m⟩|⟨l,j,k,rfl,_⟩
  exact r_;exact x_
 simp only[mem_singleton] at b;subst b;exact(B_ c e d).2
def rh.E{v' m}(f:Wi ty size R A)(g:rh a w ty size R A v n j b S) k (D:j<=m)(z:w'.ownsRow 0 ty size v' (n+m) (R n++R m)/\(w.alloc k).grownBy w' v.ownBlock/\(v'.ownBlock=v.ownBlock∨v'.ownBlock=some (w.1.size+1)/\Below (w.1.size+1) (w.alloc k) w')/\w'.ownsRow 0 ty size v n (R n)/\∃o l,v'=L_ o (n+m) l)(y:∀d,v.ownBlock=some d->S d)(q:n+m<=maxLen):rh a w' ty size R A v n m (b++[v']) S:=by
 obtain⟨h,i,t,u,p⟩:=z;rw[f.add] at h;have E:=g.u.size;refine⟨u,λx c=>?_,λx c d e=>?_,(g.u.alloc k).grown i (λd e _=>y d e)⟩
 ·rcases mem_append.1 c with c|c
  have⟨r,B,s⟩:=g.all x c;exact⟨f.n (f.p (S:=λ_=>False) r (.a q_) (λ_ _ _ _=>id)) i t s_ h q p O,O,s⟩;simp only[mem_singleton] at c;subst c;refine⟨f.q h q,?_,λd e=>?_⟩;obtain⟨o,l,rfl⟩:=p;exact x_
  grind
 rcases mem_append.1 c with c|c
 have:=g.lt x c d e;have:=i.size;simp at this;omega;simp only[mem_singleton] at c;subst c;exact(B_ h d e).2
end
def Se(b:List Value)(c:Value)(a:Nat):List Value:=replicate a c++b.drop a
def Zj a b:Se a b 0=a:=by simp[Se]
def ZiN a c {b}(d:b<=a.length):(Se a c b).length=a.length:=by simp[Se];omega
def Zi a b:Se a b a.length=replicate a.length b:=by simp[Se]
def ZiO b c {a}(d:a<b.length):(Se b c a).set a c=Se b c (a+1):=by unfold Se;rw[aN d,set_append_right _ _ s_,length_replicate,Nat.sub_self,set_cons_zero,replicate_succ'];simp
structure Yv(g d:World)(h i)(p:Array Value)(s t:Nat)(o:World->Value->Prop)(q k m l:Value)(n j)(r)(f e)(c):Prop where
 v:WB d h (((p.setIfInBounds 12 (I r)).setIfInBounds i f).setIfInBounds (i+1) e)
 x:d.ownsRow 0 s 1 f (n.length+4) (n++c)
 w:d.ownsRow 0 t 1 e (j.length+4) (j++replicate 4 q)
 len:c.length=4
 all:∀b∈c,o d b/\∀a,b.ownBlock=some a->k.ownBlock=some a∨g.1.size<=a
 u:Aa (λa=>a=h∨k.ownBlock=some a∨m.ownBlock=some a∨l.ownBlock=some a) g d
 z:∀a,f.ownBlock=some a->m.ownBlock=some a∨g.1.size<=a
 y:∀a,e.ownBlock=some a->l.ownBlock=some a∨g.1.size<=a
 A:∀b∈c,∀a,b.ownBlock=some a->e.ownBlock≠some a
 B:∀b∈c,∀a,b.ownBlock=some a->f.ownBlock≠some a
 lt:∀b∈c,∀a,b.ownBlock=some a->a<d.1.size
end Go.Proofs.YtfcgnpchbcmdeaaGreat
