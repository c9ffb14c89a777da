import Derived.Test.YtfcgnpchbcmdeaaGreatZobh
namespace Go.Proofs.YtfcgnpchbcmdeaaGreat
set_option linter.all false
set_option maxRecDepth 100000
set_option maxHeartbeats 8000000
open Go.RowKit List Nat World Go.Proofs.Tryz Value IntKind Lib Region
section
variable {w:World} {base db n:Nat} {vF vB vC vX:Value} {kvs:List (Value×Value)} {bvs cvs:List Value} {Ks:List KS} {Fs Cs:List (List Nat)} {a:List XS}
def RfX.m{e}(b:RfX w base db n vF vB vC vX kvs bvs cvs Ks Fs Cs a)(c:e<=base):RfX w e db n vF vB vC vX kvs bvs cvs Ks Fs Cs a:=by
 have d:∀{k j i:Nat} {l m},w.ownsRow base k j l i m->w.ownsRow e k j l i m:=λg=>⟨g.1,by
  rcases g.2 with f|⟨p,h,o,f,q,r⟩
  exact .inl f
  exact .inr ⟨p,h,o,f,aG c q,r⟩⟩
 exact⟨b.v,⟨⟨d b.z.row.row,b.z.row.h⟩,b.z.len,λh f=>⟨d (b.z.j h f).1,d (b.z.j h f).2⟩⟩,b.r.m c,b.co.m c,⟨d b.q.row,b.q.h⟩,b.x,aG c b.y⟩
def ZcP i (b:RfX w base db n vF vB vC vX kvs bvs cvs Ks Fs Cs a)(c:i<Ks.length):C_ 139 #[P_ db,I i] w λd f=>d=.returned (.tuple #[(kvs.getD i Ld).1,(kvs.getD i Ld).2,.int .i64 0])/\∃e,f=w.drewN e:=by
 have⟨z,t,d,_,_,_,_,e⟩:=b.z.row.at (i:=i) (b.z.a ▸ c);rw[b.z.a] at d;subst d;have u:=n_ 1 b.v;have h:(zipWith Bs Ks kvs).getD i []=Bs (Ks.getD i Ai) (kvs.getD i Ld):=by simp[getD,getElem?_zipWith,c,show i<kvs.length by rw[b.z.len];exact c]
 rw[h] at e;have o:=e 1 O _ rfl;have p:=e 2 O _ rfl;have⟨j,l,f⟩:=(b.z.j i c).1.shape;have⟨k,m,g⟩:=(b.z.j i c).2.a;generalize kvs.getD i Ld=s at *;obtain⟨A,B⟩:=s;simp only at f g o p ⊢;subst f g;have v:¬(i:Int)<0:=O;have x:¬Ks.length<=(i:Int):=O;have y:=F_ i Ks.length;generalize (Ks.getD i Ai).e.g.length=q at *;generalize (Ks.getD i Ai).e.c.length=r at *;clear b e h;refine dl_ ?_;go_enter func139,ntmps139;go_upto_region 3 with fail;go_quiet (fail);go_wp2;apply bodyPost_ret (v:=.tuple #[V j q l,V k r m,I 0]) (by simp[results,results139,go_sem]) rfl
 grind
def Zaj a (b:DkV w db n Ks)(i:¬(0<=a/\a<(Ks.length:Int))):C_ 139 #[P_ db,I a] w (V_ (.tuple #[Dd,Dd,.int .i64 1]) w):=by
 have⟨j,f,c⟩:=b.i;obtain⟨d,e,rfl⟩:=c.1;clear b c;refine dl_ ?_;go_enter func139,ntmps139
 by_cases g:a<0
 ·go_wp2;apply bodyPost_ret (v:=.tuple #[Dd,Dd,I 1]) (by simp[results,results139,go_sem]) rfl
  grind
 have h:Ks.length<=a:=O;go_wp2;apply bodyPost_ret (v:=.tuple #[Dd,Dd,I 1]) (by simp[results,results139,go_sem]) rfl
 grind
end
def qq c f g e i j k l h d a (b:pg a c f g e i j k d l h true):C_ 126 #[P_ c] a (V_ (.tuple #[.pointer none,.int .i64 1,.int .i64 0]) a):=by
 have m:=b.cells.2.2.2;clear b;refine v_ ?_;go_wp2;go_ret3
 exact⟨rfl,rfl⟩
def xp d i l h n o p b e f a (c:pg a d i l h n o p f b e false)(j:b≠0):C_ 126 #[P_ d] a λg m=>g=.returned (.tuple #[.pointer none,.int .i64 b,.int .i64 e])/\∃k,m=a.drewN k:=by
 have⟨_,g,k,m⟩:=c.cells;have q:=bne_iff_ne.2 j;clear c;refine v_ ?_;go_upto_region 4 with fail;go_quiet (fail);go_wp2;go_ret3
 exact⟨rfl,_,rfl⟩
def RcP(h:World)(g m b l:Nat)(k:Int)(o e:Nat)(j:ByteArray)(d:Nat->ES)(a:List (Int×List VS)×Nat×Int)(f:Ending)(c:World):Prop:=
 pg c g m (b+1) l k o e j 0 0 true/\Aa (λn=>n=g) h c/\
 ((a.2.2≠0/\f=.returned (.tuple #[.pointer none,I a.2.2,I a.2.1]))∨(a.2.2=0/\∃i,f=.returned (.tuple #[P_ i,I 0,I 0])/\ij h c i a.1.length (Bw b a.1.length e (yt b d) (Tg b a.1 d))))
def ZdL(b i f p m o:Nat) l d n s M q k (D:pg k b i (f+1) p l m o d 0 0 false)(v:Dq k i 0 (f+1) n s M)(U:i≠b)(F:i<k.1.size)(T:f+1<=4)(b8:∀a,a<f+1->0<=s a/\(n a=false->s a<=3))(b4:d.size<=1000000000000000)(a8:o<=20)(b6:2<=m)(b7:m<=32)(a6:2<=l)(y:l<=16)(b2:∀a,a<f+1->n a=true->1<=M a)(b5:∀c,c=Kk d (f+1) n s (d.size+1) [] 0->c.2.2=0->ip c.1/\(∀c0∈c.1,c0.2.length=f+1)/\(∀a,q a=Ck Px (n a) (M a) l m (Bn c.1 a) (Jj c.1))/\∀a,a<f+1->Qv (q a)/\(q a).a=n a/\(q a).b<=16):C_ 126 #[P_ b] k λN g=>RcP k b i f p l m o d q (Kk d (f+1) n s (d.size+1) [] 0) N g:=by
 have⟨⟨_,_,_,_,_⟩,c7,_,c8⟩:=D.cells;have d1:=R_ 7 _ _ D;have⟨A,G⟩:=M_ (k.setCell (J b 7) (.bool true));have t:Aa (λe=>e=b) k A:=G ▸ ((Aa.refl (λe=>e=b) k).setCell (p:=(J b 7)) (λ_=>rfl) _);have a4:pg A b i (f+1) p l m o d 0 0 true:=G ▸ (ht_ 7 _ _ _ D);have Q:Dq A _ 0 _ n s _:=⟨v.le,λd5=>Qh (v.lt d5) t.size,λa z=>by rw[<- v.v a z];simp[cell?,t.block i F U],λa z=>by rw[<- v.z a z];simp[cell?,t.block i F U],λa z=>by rw[<- v.q a z];simp[cell?,t.block i F U]⟩;have b3:=Qh F t.size;have a1:=Y (λh g=>tq _ _ p d l m o _ _ _ h (Q.below g) (Qh b3 g.size) T b8 b4);have x:=b5 _ rfl;generalize Kk d (f+1) n s (d.size+1) [] 0=c at *
 have⟨H,a0,a2⟩:=y3_ (λh j r B g e u w=>ZgQ _ p B r f _ _ j _ _ _ _ _ q h (Q.below g) w (x e).1 u T a8 b6 b7 a6 y b2 (x e).2.2.1 (x e).2.2.2) (λe=>(x e).2.1) G;have u:=T_ a4 t;have⟨B,S⟩:=M_ (f+1);have L:=Y S;rw[<- S] at a1 H a0 u;clear D v Q G a4 t b4 b5 x b2 b8 S T a8 b6 b7 a6 y b3;refine v_ ?_;go_upto_region 6 with fail;rw[<- a2];clear a2 c7 c8 d1;have a9:=u.1.cells.1;refine Af (λg=>g.cell? _=some _/\g.cell? _=some _/\g.cell? _=some _/\g.cell? _=some _/\g.cell? _=some _) 9 k_ a9 (λhHeld=>?_);refine K_ ?_;refine on_ 8 λKK hK=>?_;go_simp;apply (a1 _ y_.drew).m;rintro N j ⟨c2,e4,w,rfl,e3,b9,R,E,a5,y⟩;have r:Below A.1.size _ _:=y_.drew.T y;have P:pg _ _ _ B _ _ _ _ d 0 0 _:=(r.block _ (Qb u.1).1).T u.1
 have Z:=u.2.below r;obtain⟨X,c1,rfl⟩:=R.shape
 have h:K (Fi j c2 d c.2.1 c.2.2 (V X w.length c1)/\pg j b i B p l m o d 0 0 true/\Aa (λe=>e=b) k j/\k.1.size<=j.1.size/\E_ A j/\w.length=c.1.length/\w.length<=200/\(c.2.2=0->Wk j X w.length B c.1)):=⟨b9,P,Z,Z.size,r,by rw[<- E];simp,a5,λe=>by
  rw[<- E]
  refine R.view rfl (λc0 g=>a0 e _ (by rw[<- E];exact mem_map_of_mem g)) (by rw[L];omega)⟩
 have b0:=P.cells.1;clear b9 P Z y r u a9 R E a5;go_simp;refine hK _ _ b0 (λhHeld=>?_);clear hK KK;try simp only[Act.put,setIfInBounds_toArray,set_cons_succ,set_cons_zero]
 refine le_ ?_;have⟨_,d0,a3,_⟩:=h.1.cells
 by_cases e:c.2.2=0
 ·have d6:(c.2.2 !=0)=false:=(by rw[e];rfl);rw[e] at a3;go_upto_region 9 with fail;have b1:D_ j b 0 (L_ i B p)/\D_ j b 1 (I l)/\D_ j b 2 (I m)/\D_ j b 3 (I o)/\D_ j c2 3 (V X w.length c1):=w_;clear d0 a3 b0;refine Af (λg=>g.cell? _=some _/\g.cell? _=some _/\g.cell? _=some _/\g.cell? _=some _/\g.cell? _=some _) 8 k_ b1 (λhHeld=>?_);refine K_ ?_;refine la1_ λKK hK=>?_;go_simp;apply (H _ _ _ _ (h.2.2.2.2.1.T (y_.drew)) e h.2.2.2.2.2.2.1 ((h.2.2.2.2.2.2.2 e).below y_.drew)).m;rintro N e2 ⟨c3,rfl,g,r⟩
  have c4:K (RcP k b i f p l m o d q c (.returned (.tuple #[P_ c3,I 0,I 0])) e2):=(by have a7:Below j.1.size _ _:=y_.drew.T r;have W:=h.2.1;rw[L] at W;rw[h.2.2.2.2.2.1] at g;obtain⟨e0,d8,d9,e1,d7,c6,c9,c5,d2,d3,d4⟩:=g;exact⟨(a7.block _ (Qb W).1).T W,h.2.2.1.below a7,.inr ⟨e,c3,rfl,e0,d8,d9,e1,d7,c6,c9,c5,d2.m h.2.2.2.1,d3,d4⟩⟩);clear g r b1 h H;go_simp;apply hK _ _;clear hK KK;try simp only[Act.put,setIfInBounds_toArray,set_cons_succ,set_cons_zero]
  refine Eu (i:=9) k_ rfl k_ (λKK hK=>?_);go_simp;apply hK _ _;clear hK KK;try simp only[Act.put,setIfInBounds_toArray,set_cons_succ,set_cons_zero]
  refine Eu (i:=10) k_ rfl k_ (λKK hK=>?_);go_simp;apply hK _ _;clear hK KK;try simp only[Act.put,setIfInBounds_toArray,set_cons_succ,set_cons_zero]
  refine Eu (i:=11) k_ rfl k_ (λKK hK=>?_);go_simp;apply hK _ _;clear hK KK;try simp only[Act.put,setIfInBounds_toArray,set_cons_succ,set_cons_zero]
  refine Fn k_ ?_ _;go_wp2;go_ret3
  exact c4
 have d6:=bne_iff_ne.2 e;go_upto_region 8 with fail;go_quiet (fail);go_wp2;go_ret3
 rw[L] at h;exact⟨h.2.1,h.2.2.1.drewN _,.inl ⟨e,rfl⟩⟩
def Zjm b:∀a,a<=4->Ay (b+4294967296) a=Ay b a:=λa c=>by
 rcases(show a=0∨a=1∨a=2∨a=3∨a=4 by omega) with rfl|rfl|rfl|rfl|rfl
 rfl
 all_goals
  simp only[Ay,Sy,nil_append,cons_append]
  grind [Ay,Sy]
def Zbp a b d (f:b<=4)(g: -4294967296<=a)(h:a<=1000000000000):C_ 135 #[I a,I (b:Nat)] d (U_ (.string (strOfNums (Ay a b))) d):=by
 by_cases e:0<=a
 have c:a.toNat=a:=O;have:=Su a a.toNat b d O O (.inl ⟨e,c.s⟩);rw[c] at this;exact this;have c:(a+4294967296).toNat=a+4294967296:=O;have:=Su a (a+4294967296).toNat b d O O (.inr ⟨O,O⟩);rw[c,Zjm a b f] at this;exact this
def ZcF{a}(b:Dw a):Ab (strOfNums a)=a:=by
 unfold Ab strOfNums;simp only[map_map]
 conv=>rhs;rw[<- map_id a]
 refine map_congr_left λd c=>?_;have:=b d c
 grind [UInt8.toNat_ofNat']
def ZmD:∀(a:List Int) {z:Nat},z<4294967296->Dw a->nF z a<4294967296
 |[],z,b,_=>by simpa [nF,nJ,Zb0] using b
 |d::a,z,b,c=>by have e:=c d s_;rw[wq z e];exact ZmD a (ZaT (xor_lt_two_pow (n:=32) b O) 8) (λg f=>c g (by simp[f]))
def Zm6{a}(b:Dw a):0<=Gp a/\Gp a<4294967296:=by
 have d:ZfV a=_:=jk a (z:=4294967295) C b;have c:=ZmD a (z:=4294967295) C b;unfold Gp;rw[d];have e:=Wo 4294967295 _ C c;have f:4294967295^^^_<_:=xor_lt_two_pow (n:=32) C c
 grind
def du a c (f:Dw a)(o:a.length<=1000000):C_ 134 #[Q_ (strOfNums a)] c (U_ (.string (strOfNums (a++Ay (Gp a) 4))) c):=by
 have d:=Zbl (strOfNums a) c (by rw[Bk];omega);rw[ZcF f] at d;have n:=Zm6 f;have j:K (∀b,Calls _ _ #[_,.int _ 4] b λe _=>_):=λb=>Zbp (Gp a) 4 b O O O;have i:K (strOfNums (a++Ay (Gp a) 4)=_):=(Na _ _).s;have s:¬9223372036854775807<(strOfNums a).size+(strOfNums (Ay (Gp a) 4)).size:=(by rw[Bk,Bk,Dv];omega);generalize strOfNums a=l at *;generalize strOfNums (Ay (Gp a) 4)=p at *;generalize Gp a=m at *;refine dl_ ?_;go_enter func134,ntmps134;go_wp2_with fail
 apply d.m;rintro e q ⟨rfl,k⟩;obtain rfl:=k.s;go_wp2_with fail
 apply (j _).m;rintro e r ⟨rfl,g⟩;have h:=Y g;clear g;go_wp2;go_ret;exact⟨by rw[i];rfl,h⟩
end Go.Proofs.YtfcgnpchbcmdeaaGreat
