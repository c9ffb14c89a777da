import Derived.Test.YtfcgnpchbcmdeaaGreatZoaj
namespace Go.Proofs.YtfcgnpchbcmdeaaGreat
set_option linter.all false
set_option maxRecDepth 100000
set_option maxHeartbeats 4000000
open Go.RowKit List Nat World Go.Proofs.Tryz Value IntKind Lib Region
def Eg(b a:Nat):Int:=if b+1=a then 10 else 44
def qz e g a i q p r l h b j o d (m:RB d e (V g a i) q p r l (V h b j) o)(u:a<=1000)(v:b<=1000):C_ 219 #[P_ e] d λc k=>c=.returned (.int .u8 (Eg b a))/\∃f,k=d.drewN f:=by
 have⟨s,_,_,_,_,t⟩:=m.head
 by_cases f:b+1=a
 ·have c:K (Eg _ _=_):=aD f;have n:_=(a:Int)-1:=As O O;have k:(b==(a:Int)-1)=true:=t_;refine v_ ?_;go_wp2_with fail
  go_big_quiet (fail);go_wp2;go_ret;rw[c];exact⟨rfl,_,rfl⟩
 have c:K (Eg _ _=_):=aC f;have n:_=(a:Int)-1:=As O O;have k:((b:Int)==(a:_)-1)=_:=aO O;refine v_ ?_;go_wp2_with fail
 go_big_quiet (fail);go_wp2;go_ret;rw[c];exact⟨rfl,_,rfl⟩
def Ou a g f d (e:Ax a g f d):(convert 66 9 f).run prog a=.ok (Q_ (strOfNums d)) a:=by
 rcases e.2 with⟨rfl,h⟩|⟨c,i,j,rfl,_,l,_⟩
 have b:=eq_nil_of_length_eq_zero h;subst b;rw[run_convert_bytes_nil a 66 5 underlying66 underlying5 0 0 9 underlying9];rfl
 refine run_convert_bytes_arg a _ 5 underlying66 underlying5 c 0 _ _ _ rfl (λb m=>?_) 9 underlying9;have:=World.ownsRow.cells e (g:=c) rfl b (.int .u8 (d.getD b 0)) w_;have k:((J c 0):Addr).add b=(J c b):=by unfold Addr.add;split<;>simp_all
 grind
def Sr(a:Ch):Int:=if a.neg=true then -a.num else a.num
def Zhr f M U T S X Q W p b a (g:RW a f M U T S X Q W p b)(a1: -1000000000000<=p.num)(a2:p.num<=1000000000000):C_ 221 #[.pointer (some ⟨f,6,none⟩)] a λd c=>d=.returned (.agg #[.bool (decide (p.g=0)),.int .i64 (Sr p),.string (strOfNums b)])/\E_ a c:=by
 have⟨x,y,_,_,v,w,_⟩:=g.1.part;have a0:=g.1.lt;have⟨r,s,G⟩:=g.2.a;have n:=λe R=>Ou e _ _ _ ((Aa.a (S:=λ_=>False) R).row g.2 (λ_ _=>id));have h:Below _ a (a.alloc (.cells #[.bool false,I 0,.string ⟨#[]⟩] 308)):=q_;have B:=n _ h.drew;have D:(convert 66 9 p.e).run _ ((a.alloc _).alloc (.cells #[.bool false,I 0,.string ⟨#[]⟩] 308)).drew=_:=n _ (h.alloc s_ _).drew;have⟨P,A,N,z⟩:=k4_ h x y v w;have L:K (∀e,E_ a e->(convert 66 9 (.slice r b.length s)).run prog e=.ok (.string (strOfNums b)) e):=(by rw[<- G];exact n);have m:=Y h;have a3:(a.alloc (.cells #[.bool false,I 0,.string ⟨#[]⟩] 308)).1.size=a.1.size+1:=s_;have a8:(a.alloc (.cells #[.bool false,I 0,.string ⟨#[]⟩] 308)).cell? (J a.1.size 0)=some (.bool false):=s_
 have a9:(a.alloc (.cells #[.bool false,I 0,.string ⟨#[]⟩] 308)).cell? (J a.1.size 1)=some (I 0):=s_;have b0:(a.alloc (.cells #[.bool false,I 0,.string ⟨#[]⟩] 308)).cell? (J a.1.size 2)=some (.string ⟨#[]⟩):=s_;have t:K ((a.alloc (.cells #[.bool false,I 0,.string ⟨#[]⟩] 308)).1[_]? =_):=ha_ a _;have b1:∀H,(a.alloc (.cells #[.bool false,I 0,.string ⟨#[]⟩] 308)).frozen? _=_:=λH=>R_ H _ _ (ha_ a _);clear g n h x y v w;rw[G] at z B D;refine v_ ?_;go_wp2_with fail
 generalize a.alloc (.cells #[.bool false,I 0,.string ⟨#[]⟩] 308)=l at *;have a5:=new_ne _ _ P;have a6:=new_ne _ _ N;have a7:=new_ne _ _ z;clear B D;go_region_held3 (λc=>(c.cell? ⟨f,6,none⟩=some (I p.g)/\c.cell? ⟨f,10,none⟩=some (I p.num)/\c.cell? ⟨f,11,none⟩=some (.slice r b.length s))/\(convert 66 9 (.slice r b.length s)).run prog c=.ok (.string (strOfNums b)) c) (exact⟨by go_keep,L.out _ (by repeat(first|with_reducible exact m.out|with_reducible apply Below.drew|(refine Below.alloc ?_ O _)|(refine Below.setCell ?_ (by first|omega|(simp;omega)) _)))⟩) (fail)
 have Z:K (Below _ a (l.alloc (.cells #[.bool (p.g==0),I p.num,.string (strOfNums b)] 308)).drew):=(m.alloc O _).drew;have F:(p.g==0)=decide (p.g=0):=w_;have u:=Y F;clear F;have a4:_= -p.num:=As O O
 by_cases d:p.neg=true
 ·have q:K (Sr p=_):=aD d;rw[d] at A;clear d;have c:(((((l.setCell (J a.1.size 0) (.bool (p.g==0))).setCell (J a.1.size 1) (I (-p.num))).setCell (J a.1.size 2) (.string (strOfNums b))).alloc (.cells #[.bool (p.g==0),I (-p.num),.string (strOfNums b)] 308)).drew).1[a.1.size]? =some (.cells #[.bool (p.g==0),I (-p.num),.string (strOfNums b)] 308 (0,0)):=by have j:=ht_ 0 _ _ (.bool (p.g==0)) t;have k:=ht_ 1 _ _ (I (-p.num)) j;have i:=ht_ 2 _ _ (.string (strOfNums b)) k;exact(hc_ (Qb i).1).T i
  have i:=n_ 0 c;have j:=n_ 1 c;have k:=n_ 2 c;have o:K (E_ a ((((l.setCell (J a.1.size 0) (.bool (p.g==0))).setCell (J a.1.size 1) (I (-p.num))).setCell (J a.1.size 2) (.string (strOfNums b))).alloc (.cells #[.bool (p.g==0),I (-p.num),.string (strOfNums b)] 308)).drew):=((((m.setCell (p:=(J a.1.size 0)) x_ _).setCell (p:=(J a.1.size 1)) x_ _).setCell (p:=(J a.1.size 2)) x_ _).alloc (by simp[World.setCell];omega) _).drew;clear c;go_wp2;exact bodyPost_ret (v:=.agg #[.bool (p.g==0),I (-p.num),.string (strOfNums b)]) (by simp at i j k;simp[results,results221,go_sem,i,j,k]) rfl ⟨by rw[q,u],o⟩
 have E:p.neg=false:=by simpa using d
 have q:K (Sr p=_):=aC d;rw[E] at A;clear d E;have c:(((((l.setCell (J a.1.size 0) (.bool (p.g==0))).setCell (J a.1.size 1) (I (p.num))).setCell (J a.1.size 2) (.string (strOfNums b))).alloc (.cells #[.bool (p.g==0),I (p.num),.string (strOfNums b)] 308)).drew).1[a.1.size]? =some (.cells #[.bool (p.g==0),I (p.num),.string (strOfNums b)] 308 (0,0)):=by have j:=ht_ 0 _ _ (.bool (p.g==0)) t;have k:=ht_ 1 _ _ (I (p.num)) j;have i:=ht_ 2 _ _ (.string (strOfNums b)) k;exact(hc_ (Qb i).1).T i
 have i:=n_ 0 c;have j:=n_ 1 c;have k:=n_ 2 c;have o:K (E_ a ((((l.setCell (J a.1.size 0) (.bool (p.g==0))).setCell (J a.1.size 1) (I (p.num))).setCell (J a.1.size 2) (.string (strOfNums b))).alloc (.cells #[.bool (p.g==0),I (p.num),.string (strOfNums b)] 308)).drew):=((((m.setCell (p:=(J a.1.size 0)) x_ _).setCell (p:=(J a.1.size 1)) x_ _).setCell (p:=(J a.1.size 2)) x_ _).alloc (by simp[World.setCell];omega) _).drew;clear c;go_wp2;exact bodyPost_ret (v:=.agg #[.bool (p.g==0),I (p.num),.string (strOfNums b)]) (by simp at i j k;simp[results,results221,go_sem,i,j,k]) rfl ⟨by rw[q,u],o⟩
def kh a f:C_ 312 #[.int .u8 a] f (V_ (.bool (Fz a)) f):=by
 have b:=Y (λc=>Ps a c)
 by_cases e:Ft a=true
 ·have c:K (Fz a=true):=(by show Fz a=true;unfold Fz;rw[e];rfl);rw[e] at b;refine v_ ?_;go_wp2_with (go_at_call 310;apply (b _).m;rintro g n ⟨rfl,d⟩;obtain rfl:=d.s)
  go_ret;rw[c];exact⟨rfl,rfl⟩
 have i:Ft a=false:=by simpa using e
 have c:K (Fz a=(decide (a=32)||decide (a=44)||decide (a=10)||decide (a=34))):=(by show Fz a=_;unfold Fz;grind);rw[i] at b;have h:a=32∨a=44∨a=10∨a=34∨(¬a=32/\¬a=44/\¬a=10/\¬a=34):=O
 rcases h with rfl|rfl|rfl|rfl|⟨j,k,l,m⟩
 all_goals try
  have d:=aO j;have g:=aO k;have n:=aO l;have o:=aO m
 all_goals go_enter func312,ntmps312
 all_goals go_wp2_with (go_at_call 310;apply (b _).m;rintro g n ⟨rfl,d⟩;obtain rfl:=d.s)
 all_goals go_ret
 all_goals refine⟨?_,rfl⟩
 all_goals rw[c]
 all_goals first|rfl|simp_all
section
variable (b base:Nat) (d a vC:Value) (wt:Int) (fl:Bool) (f:Value) (p:Ch) (bs:List Int) (c:Int) (w:World)
def oa(e:RW w b base d a vC wt fl f p bs)(B:base<=w.1.size)(T:bs.length<=1000):C_ 263 #[.pointer (some (J b 6)),.int .u8 c] w λg q=>Fk b base d a vC wt fl f p bs (Nx bs c) w g q:=by
 obtain⟨L,_,_,_,_,H,M⟩:=e.1.part;have l:=Y e;have G:=Y (λh=>Ps c h);have i:=Y (jx b _ _ _ _ _ _ _ p _ w e)
 have s:K (some b≠p.e.ownBlock):=λg=>by
  obtain⟨j,k⟩:=Ac e.2 g.s;have:=e.1;unfold RB at this
  grind
 have u:K (Ax (w.setCell (J b 6) (I 7)) base p.e bs):=((Aa.refl (λh=>h=b) w).setCell (p:=(J b 6)) (λ_=>rfl) _).row e.2 (λh m g=>by
  obtain⟨j,k⟩:=Ac e.2 m;subst g;have:=e.1;unfold RB at this
  grind)
 have m:=Y (e.1.g 7);have x:K (Aa _ w (w.setCell _ (I 7))):=(Aa.refl (λh=>h=b) w).setCell (p:=(J b 6)) (λ_=>rfl) _
 have v:K (_<=(w.setCell (J b 6) (I 7)).1.size):=show base<=_ by simp[World.setCell];exact B
 have P:_=some p.e:=(e.1.g 7).part.2.2.2.2.2.1;have Q:=(e.1.g 7).part.2.2.2.2.2.2
 by_cases k:c=34
 ·subst k
  by_cases j:bs.length=8
  ·have h:K (Nx _ 34=_):=aC (λe=>e.2 j);have n:=aF j;rw[n] at i;refine v_ ?_;go_wp2_with ((go_at_call 311;apply (i).m;rintro g q ⟨rfl,o⟩;obtain rfl:=o.s))
   go_ret;rw[h];exact Fk.none l
  have h:K (Nx _ _=_):=aD ⟨rfl,j⟩;have n:=aE j;rw[n] at i;refine v_ ?_;go_upto_region 4 with((go_at_call 311;apply (i).m;rintro g q ⟨rfl,o⟩;obtain rfl:=o.s))
  generalize w.setCell (J b 6) (I 7)=F at *;have U:=v.out;go_wp2_with (at_builtin;refine ap_ [.int .u8 34] (ra_ u _) ?_)
  intro Z X A;obtain⟨E,r,D,_,W,N,rfl⟩:=A;have y:RB (F.alloc (O_ #[.int .u8 34] 5)) b _ _ _ _ _ _ _:=(hb_ _ _ b m.lt).T m;have z:=y.grown r s;obtain⟨_,_,_,_,_,R,S⟩:=z.part;have t:=Y (Zq l m x E r D O);go_wp2;go_ret;rw[h];exact t
 have h:K (Nx bs c=_):=aC (λe=>k e.1);refine er_ ?_;rw[h];exact Fk.none l
def Zic{p:Prop}(h:p:=by
 refine v_ ?_;go_wp2_with (first|(go_at_call 312;apply (h _).m;rintro e w' ⟨rfl,hw'⟩;obtain rfl:=hw'.s)|(go_at_call 311;apply (HF).m;rintro e w' ⟨rfl,hw'⟩;obtain rfl:=hw'.s))
 go_ret;rw[i]
 exact Fk.none l):p:=h
def yi(g:RW w b base d a vC wt fl f p bs)(y:base<=w.1.size)(P:bs.length<=1000):C_ 262 #[.pointer (some (J b 6)),.int .u8 c] w λe w'=>Fk b base d a vC wt fl f p bs (dy p.g bs c) w e w':=by
 obtain⟨E,_,_,_,_,D,F⟩:=g.1.part;have l:=Y g;have h:=Y (λi=>kh c i);have HF:=Y (jx b _ _ _ _ _ _ _ p _ w g)
 have q:K (some b≠p.e.ownBlock):=λe=>by
  obtain⟨i,j⟩:=Ac g.2 e.s;have:=g.1;unfold RB at this
  grind
 have s:=Y g.2;have m:=Y g.1;have t:K (Aa (λi=>i=b) w w):=Aa.refl _ _;have B:=Y y;have H:=g.1.part.2.2.2.2.2.1;have L:=g.1.part.2.2.2.2.2.2
 by_cases k:Fz c=true
 ·rw[k] at h
  by_cases j:bs.length=8
  have i:K (dy p.g _ c=_):=aC (λg=>g.2 j);have n:=aF j;rw[n] at HF;exact Zic;have i:K (dy p.g _ c=_):=aD ⟨k,j⟩;have n:=aE j;rw[n] at HF;refine v_ ?_;go_upto_region 3 with(first|(go_at_call 312;apply (h _).m;rintro e w' ⟨rfl,hw'⟩;obtain rfl:=hw'.s)|(go_at_call 311;apply (HF).m;rintro e w' ⟨rfl,hw'⟩;obtain rfl:=hw'.s))
  go_wp2_with (at_builtin;refine ap_ [.int .u8 c] (ra_ s _) ?_)
  intro S R x;obtain⟨A,o,z,_,Q,G,rfl⟩:=x;have u:RB (w.alloc (O_ #[.int .u8 c] 5)) b _ _ _ _ _ _ _:=(hb_ w _ b m.lt).T m;have v:=u.grown o q;obtain⟨_,_,_,_,_,M,N⟩:=v.part;have r:=Y (Zq l m t A o z O);go_wp2;go_ret;rw[i];exact r
 have j:Fz c=false:=by simpa using k
 have i:K (dy p.g bs c=_):=aC (λg=>k g.1);rw[j] at h;exact Zic
end
def Zi6{g h i:World}{c}(a:g.grownBy h c)(b:h.grownBy i c):g.grownBy i c:=
 ⟨b.os.T a.os,b.tape.T a.tape,b.output.T a.output,aG a.size b.size,λf d e=>(b.block f (Qh d a.size) e).T (a.block f d e)⟩
def Dk(c:Int)(a:Ch)(b:Int):Option Ch:=
 if a.g=0 then(Qm a b).orElse (λ_=>If c a b)
 else if a.g=1 then If c a b
 else if a.g=3 then(Lj a b).orElse (λ_=>Mx a b)
 else if a.g=2 then Mx a b
 else Iw a b
def Cl(c:Int)(a:List Int)(b:Int):Option (Int×List Int):=
 if c=0 then(if b=34 then some (7,a) else none).orElse (λ_=>Lw a b)
 else if c=6 then Lw a b
 else if c=7 then(if b=34 then some (8,a) else none).orElse (λ_=>dy c a b)
 else Nx a b
section
variable {g f i:Nat} {c d h:Array Value} {w:World} {Q a:Ending->World->Prop} {b:Bool}
def ts_(X:C_ f c w Q)(j:∀e h,Q e h->e=.returned (.bool b)/\a e h)(i:C_ f c w (λe h=>e=.returned (.bool b)/\K (a e h))->C_ g d w a:=by intro X;refine v_ ?_;go_wp2_with fail;apply X.m;rintro e w2 ⟨rfl,HT⟩;go_wp2;go_ret;exact HT):=i (X.m j)
def tt_(X:C_ f c w Q)(l:∀e j,Q e j->(e=.returned (.bool true)/\a e j)∨(e=.returned (.bool false)/\C_ i h j λe w2=>e=.returned (.bool b)/\a e w2))(k:C_ f c w (λe j=>(e=.returned (.bool true)/\K (a e j))∨(e=.returned (.bool false)/\K (C_ i h j λe w2=>e=.returned (.bool b)/\K (a e w2))))->C_ g d w a:=by intro X;refine v_ ?_;go_wp2_with fail;apply X.m;rintro e w1 (⟨rfl,HT⟩|⟨rfl,Y⟩);(focus (go_wp2;go_ret;exact HT));go_wp2_with fail;apply Y.m;rintro e w2 ⟨rfl,HT⟩;go_wp2;go_ret;exact HT):=k (X.m l)
end
def Gm.a{a i h g m c j f k l b e}(d:Gm a i h g m c j f e k b l):=d.1
def Gm.or{c i h g k d j e p b a m n o r q}(w:Gm c i h g k d j e m p a b)(x:(m.orElse λ_=>n)=o)(v:∀b,RB b c i h g k d j e->C_ r q b (Gm c i h g k d j e n b)):(a=.returned (.bool true)/\Gm c i h g k d j e o p a b)∨(a=.returned (.bool false)/\C_ r q b λa u=>a=.returned (.bool n.isSome)/\Gm c i h g k d j e o p a u):=by
 subst x;obtain⟨l,s,t⟩:=w
 cases m with
 |none=>exact .inr ⟨l,(v _ s).m λa u f=>⟨f.1,f.1,f.2.1,Zi6 t f.2.2⟩⟩
 |some f=>exact .inl ⟨l,l,s,t⟩
def nz d z y x B q A a e h f (g:RB f d z y x B q A a)(v:0<=h)(w:h<=1000000)(t:0<=a.unit)(u:a.unit<=1000000)(r:0<=a.num)(s:a.num<=1000000000000)(D:0<=a.dig)(E:a.dig<=1000):C_ 215 #[.pointer (some (J d 6)),.int .u8 e,I h] f λi p=>Gm d z y x B q A a (Dk h a e) f i p:=by
 obtain⟨l,_,_,_,_,_,_⟩:=g.part;have j:=Y g;clear g;obtain⟨M,b⟩:=ez_ (Dk h a e);rw[b];unfold Dk at b
 by_cases m:a.g=0
 rw[m] at l;rw[aD m] at b;exact tt_ (re d _ _ _ _ _ _ a e f j) λi k c=>c.or b λk g=>Vd d _ _ _ _ _ _ a e k g h v w;rw[aC m] at b
 by_cases n:a.g=1
 rw[n] at l;rw[aD n] at b;exact ts_ (Vd d _ _ _ _ _ _ a e f j h v w) λi p c=>⟨c.1,b.out ▸ c⟩;rw[aC n] at b
 by_cases o:a.g=3
 rw[o] at l;rw[aD o] at b;exact tt_ (rc d _ _ _ _ _ _ a e f j t u r s D E) λi k c=>c.or b λk g=>Ve d _ _ _ _ _ _ a e k g;rw[aC o] at b
 by_cases k:a.g=2
 rw[k] at l;rw[aD k] at b;exact ts_ (Ve d _ _ _ _ _ _ a e f j) λi p c=>⟨c.1,b.out ▸ c⟩;rw[aC k] at b;have F:=aO m;have G:=aO n;have H:=aO k;have L:=aO o;exact ts_ (nr d _ _ _ _ _ _ a e f j t u r s) λi p c=>⟨c.1,b.out ▸ c⟩
section
variable {b base:Nat} {c a vC:Value} {wt:Int} {fl:Bool} {d:Value} {p:Ch} {bs:List Int}
def Fk.e{l n o i m k}(v:k.ownBlock=p.e.ownBlock∨∃e,k.ownBlock=some e/\l.1.size<=e)(f:Aa (λe=>e=b∨some e=p.e.ownBlock) l n)(q:Fk b base c a vC wt fl d {p with e:=k} bs m n i o):Fk b base c a vC wt fl d p bs m l i o:=by
 obtain⟨r,⟨u,s,h⟩,g⟩:=q;refine⟨r,⟨u,s,?_⟩,⟨g.os.T f.os,g.tape.T f.tape,g.output.T f.output,aG f.size g.size,λe j t=>(g.block e (Qh j f.size) (λi=>?_)).T (f.block e j t)⟩⟩
 ·rcases h with h|⟨e,h,j⟩
  ·grind
  exact .inr ⟨e,h,p_ f.size⟩
 grind
def Fk.or{h e f j k l o n}(i:Fk b base c a vC wt fl d p bs j h f e)(w:(j.orElse λ_=>k)=l)(s:∀g e,RW e b base c a vC wt fl d {p with e:=g} bs->h.1.size<=e.1.size->C_ o n e (Fk b base c a vC wt fl d {p with e:=g} bs k e)):(f=.returned (.bool true)/\Fk b base c a vC wt fl d p bs l h f e)∨(f=.returned (.bool false)/\C_ o n e λf r=>f=.returned (.bool k.isSome)/\Fk b base c a vC wt fl d p bs l h f r):=by
 subst w
 cases j with
 | none=>
  obtain⟨t,⟨g,u,v⟩,q⟩:=i;exact .inr ⟨t,(s g e u q.size).m λf r m=>⟨m.1,m.e v q⟩⟩
 |some m=>exact .inl ⟨i.1,i⟩
end
def yj c p v u t x r w b h d f (g:RW f c p v u t x r w b h)(s:p<=f.1.size)(m:h.length<=1000):C_ 209 #[.pointer (some (J c 6)),.int .u8 d] f λi k=>Fk c p v u t x r w b h (Cl b.g h d) f i k:=by
 obtain⟨q,_,_,_,_,_,_⟩:=g.1.part;have l:=Y g;clear g;obtain⟨B,a⟩:=ez_ (Cl b.g h d);rw[a];unfold Cl at a
 by_cases n:b.g=0
 rw[n] at q;rw[aD n] at a;exact tt_ (fq c _ _ _ _ _ _ _ b _ d f l) λi k e=>e.or a λz k g y=>Tc c _ _ _ _ _ _ _ _ _ d k g O m;rw[aC n] at a
 by_cases o:b.g=6
 rw[o] at q;rw[aD o] at a;exact ts_ (Tc c _ _ _ _ _ _ _ b _ d f l s m) λi k e=>⟨e.1,a.out ▸ e⟩;rw[aC o] at a
 by_cases j:b.g=7
 rw[j] at q;rw[aD j] at a;clear j;exact tt_ (rf c _ _ _ _ _ _ _ b _ d f l) λi k e=>e.or a λz k g y=>yi c _ _ _ _ _ _ _ _ _ d k g O m;rw[aC j] at a;have y:=aO n;have z:=aO o;have A:=aO j;exact ts_ (oa c _ _ _ _ _ _ _ b _ d f l s m) λi k e=>⟨e.1,a.out ▸ e⟩
def ZbB d i l k j n g m a e b c (q:RB c d l k j n g m a)(z:D_ c i 0 (I b))(x:0<=b)(y:b<=1000000)(v:0<=a.unit)(w:a.unit<=1000000)(t:0<=a.num)(u:a.num<=1000000000000)(r:0<=a.dig)(s:a.dig<=1000):C_ 214 #[.pointer (some (J d 6)),.int .u8 e,P_ i] c λf h=>Gm d l k j n g m a (Dk b a e) c f h:=by
 have o:=Y q;refine dl_ ?_;go_enter func214,ntmps214;go_wp2_with fail
 apply (nz d _ _ _ _ _ _ a e b c o x y v w t u r s).m;rintro f A h;have p:=Y h;obtain rfl:=h.a;go_wp2;go_ret;exact p
structure VS where
 a:Bool
 num:Int
 g:ByteArray
def Iy(a:VS):List Value:=[.bool a.a,I a.num,Q_ a.g]
def Ku:List VS->List Value
 |[]=>[]
 |b::a=>Iy b++Ku a
theorem Wz a b:Ku (a++b)=Ku a++Ku b:=by
 induction a with
 |nil=>rfl
 |cons e d c=>simp[Ku,c]
def Kq(d:World)(b:Nat)(c:Value)(a:List VS):Prop:=d.ownsRow b 308 3 c a.length (Ku a)
def Kq.nil b a:Kq b a (N_) []:=ownsRow_nil b a 308 3
def Zhl b j c e i l f k h d a (g:RB a b j (V c 200 e) i l f k h):C_ 98 #[P_ b,.int .u8 d] a (V_ (.int .i64 3) a):=by obtain⟨_,m,_,_,_,_⟩:=g.head;refine dl_ ?_;go_enter func98,ntmps98;go_wp2;go_ret;exact⟨rfl,rfl⟩
def ZnQ:ZhZ->Int
 |none=>2
 |_=>0
def ZbW d o k g l n c p j a h (m:RB h d o (V k g l) n c false p j)(y:g<200)(s:0<=c)(t:c<=99)(u:0<=a)(v:a<=255):C_ 98 #[P_ d,.int .u8 a] h λe f=>e=.returned (.int .i64 (ZnQ (Aq c a)))/\∃b,Zmq d o (V k g l) n c false p j (Aq c a) h b f:=by
 obtain⟨_,w,_,_,x,_⟩:=m.head;have z:((g:Int)==200)=_:=aO O;have q:=Y m;refine dl_ ?_;go_enter func98,ntmps98;go_wp2_with fail
 apply (bw d _ _ _ _ _ _ j a h q s t u v).m;rintro e A b;have r:=Y b
 have f:(e=.returned (.bool false)/\ZnQ (Aq c a)=2)∨(e=.returned (.bool true)/\ZnQ (Aq c a)=0):=by
  obtain⟨_,b⟩:=b
  rcases i:Aq c a with _|_|B
  rw[i] at b;exact .inl ⟨b.1,rfl⟩;rw[i] at b;exact .inr ⟨b.1,rfl⟩;rw[i] at b;exact .inr ⟨b.1,rfl⟩
 rcases f with⟨rfl,f⟩|⟨rfl,f⟩
 all_goals
  have i:=show K _ from f
  go_wp2;go_ret;rw[i];exact⟨rfl,_,r⟩
end Go.Proofs.YtfcgnpchbcmdeaaGreat
