import Derived.Test.YtfcgnpchbcmdeaaGreatZoag
namespace Go.Proofs.YtfcgnpchbcmdeaaGreat
set_option linter.all false
set_option maxRecDepth 100000
set_option maxHeartbeats 2000000
open Go.RowKit List Nat World Go.Proofs.Tryz Value IntKind Lib Region
structure Ch where
 g:Int
 neg:Bool
 dig:Int
 unit:Int
 num:Int
 e:Value
def RB(h:World)(b:Nat)(f e d:Value)(i:Int)(c:Bool)(g:Value)(a:Ch):Prop:=
 h.1[b]? =some (O_ #[f,e,d,I i,.bool c,g,I a.g,.bool a.neg,I a.dig,I a.unit,I a.num,a.e] 256)
section
variable {w:World} {b:Nat} {c a vC:Value} {wt:Int} {fl:Bool} {d:Value} {p:Ch}
def RB.part(e:RB w b c a vC wt fl d p):w.cell? (J b 6)=some (I p.g)/\w.cell? (J b 7)=some (.bool p.neg)/\w.cell? (J b 8)=some (I p.dig)/\w.cell? (J b 9)=some (I p.unit)/\w.cell? (J b 10)=some (I p.num)/\w.cell? (J b 11)=some p.e/\(∀f,w.frozen? (J b f)=false):=by unfold RB at e;refine⟨?_,?_,?_,?_,?_,?_,λf=>fr_ w b f _ _ e⟩<;>simp[cell?,e]
def RB.head(e:RB w b c a vC wt fl d p):w.cell? (J b 0)=some c/\w.cell? (J b 1)=some a/\w.cell? (J b 2)=some vC/\w.cell? (J b 3)=some (I wt)/\w.cell? (J b 4)=some (.bool fl)/\w.cell? (J b 5)=some d:=by unfold RB at e;refine⟨?_,?_,?_,?_,?_,?_⟩<;>simp[cell?,e]
def RB.lt(e:RB w b c a vC wt fl d p):b<w.1.size:=(Qb e).1
def RB.grown{g f}(e:RB w b c a vC wt fl d p)(h:w.grownBy g f)(i:some b≠f):RB g b c a vC wt fl d p:=(h.block b e.lt i).T e
def RB.below{f e}(g:RB w b c a vC wt fl d p)(h:Below e w f)(i:b<e):RB f b c a vC wt fl d p:=(h.block b i).T g
def RB.drew(e:RB w b c a vC wt fl d p):RB w.drew b c a vC wt fl d p:=e
def RB.g(f:RB w b c a vC wt fl d p) e:RB (w.setCell (J b 6) (I e)) b c a vC wt fl d {p with g:=e}:=hs_ w b 6 _ 256 _ f
def RB.neg(f:RB w b c a vC wt fl d p) e:RB (w.setCell (J b 7) (.bool e)) b c a vC wt fl d {p with neg:=e}:=hs_ w b 7 _ 256 _ f
def RB.dig(f:RB w b c a vC wt fl d p) e:RB (w.setCell (J b 8) (I e)) b c a vC wt fl d {p with dig:=e}:=hs_ w b 8 _ 256 _ f
def RB.unit(f:RB w b c a vC wt fl d p) e:RB (w.setCell (J b 9) (I e)) b c a vC wt fl d {p with unit:=e}:=hs_ w b 9 _ 256 _ f
def RB.num(f:RB w b c a vC wt fl d p) e:RB (w.setCell (J b 10) (I e)) b c a vC wt fl d {p with num:=e}:=hs_ w b 10 _ 256 _ f
def RB.e(f:RB w b c a vC wt fl d p) e:RB (w.setCell (J b 11) e) b c a vC wt fl d {p with e:=e}:=hs_ w b 11 _ 256 _ f
end
theorem As{z}(a: -9000000000000000000<=z)(b:z<=9000000000000000000):i64.wrap z=z:=by simp[wrap,IntKind.bits,signed];omega
def Cc(a:Int):Bool:=decide (48<=a)&&decide (a<=57)
def Ft(a:Int):Bool:=decide (97<=a)&&decide (a<=122)
def Sm a c:C_ 315 #[.int .u8 a] c (V_ (.bool (Cc a)) c):=by
 unfold Cc
 by_cases b:48<=a
 refine er_ ?_;exact⟨by simp[b],rfl⟩;have d:=aE b;refine v_ ?_;go_wp2;go_ret;exact⟨rfl,rfl⟩
def Ps a c:C_ 310 #[.int .u8 a] c (V_ (.bool (Ft a)) c):=by
 unfold Ft
 by_cases b:97<=a
 refine er_ ?_;exact⟨by simp[b],rfl⟩;have d:=aE b;refine v_ ?_;go_wp2;go_ret;exact⟨rfl,rfl⟩
def ce a b d (f:48<=a)(g:a<=57)(c:0<=b)(e:b<=1000000):C_ 316 #[.int .u8 a,I b] d (V_ (.int .i64 ((a-48)*b)) d):=by have j:IntKind.u8.wrap (a-48)=a-48:=(by simp[wrap,IntKind.bits,signed];omega);have h:0<=(a-48)*b:=Int.mul_nonneg O c;have i:(a-48)*b<=9*_:=Int.mul_le_mul O e c O;have k:i64.wrap (a-48)=a-48:=(by simp[wrap,IntKind.bits,signed];omega);refine er_ ?_;exact⟨rfl,rfl⟩
def Qm(b:Ch)(a:Int):Option Ch:=if a=45 then some {b with g:=1,neg:=true} else none
def If(b:Int)(c:Ch)(a:Int):Option Ch:=if Cc a=true then some {c with g:=if a=48 then 2 else 3,dig:=1,unit:=b,num:=(a-48)*b} else none
def Lj(a:Ch)(b:Int):Option Ch:=if Cc b=true/\a.dig≠5 then some {a with dig:=a.dig+1,num:=a.num*10+(b-48)*a.unit} else none
def Mx(a:Ch)(b:Int):Option Ch:=if b=46/\a.unit≠1 then some {a with g:=4} else none
def Iw(a:Ch)(b:Int):Option Ch:=if Cc b=true/\a.unit≠1 then some {a with g:=5,unit:=a.unit/10,num:=a.num+(b-48)*(a.unit/10)} else none
def Gm(a:Nat)(i h g:Value)(l:Int)(e:Bool)(j:Value)(f:Ch)(b:Option Ch)(k:World)(d:Ending)(c:World):Prop:=
 d=.returned (.bool b.isSome)/\RB c a i h g l e j (b.getD f)/\k.grownBy c (some a)
section
variable (b:Nat) (d a vC:Value) (wt:Int) (fl:Bool) (e:Value) (p:Ch) (c:Int) (w:World)
def re(h:RB w b d a vC wt fl e p):C_ 268 #[.pointer (some (J b 6)),.int .u8 c] w λj k=>Gm b d a vC wt fl e p (Qm p c) w j k:=by
 obtain⟨l,m,_,_,_,_,n⟩:=h.part;have g:=Y h
 by_cases f:c=45
 subst f;refine er_ ?_;exact⟨rfl,(g.g 1).neg _,Bd (Bd (Az _ _) _ _) _ _⟩;have o:=aO f;have i:K (Qm p c=_):=aC f;refine v_ ?_;go_wp2;go_ret;unfold Gm;rw[i];exact⟨rfl,g,Az _ _⟩
def Ve(g:RB w b d a vC wt fl e p):C_ 271 #[.pointer (some (J b 6)),.int .u8 c] w λl n=>Gm b d a vC wt fl e p (Mx p c) w l n:=by
 obtain⟨o,_,_,k,_,_,q⟩:=g.part;have i:=Y g
 by_cases j:c=46
 ·subst j
  by_cases h:p.unit=1
  have f:K (Mx p 46=_):=aC (by simp[h]);rw[h] at k;refine er_ ?_;unfold Gm;rw[f];exact⟨rfl,i,Az _ _⟩;have m:=aO h;have f:K (Mx p _=_):=aD ⟨rfl,h⟩;refine er_ ?_;unfold Gm;rw[f];exact⟨rfl,i.g 4,Bd (Az _ _) _ _⟩
 have m:=aO j;have f:K (Mx p c=_):=aC (λg=>j g.1);refine er_ ?_;unfold Gm;rw[f];exact⟨rfl,i,Az _ _⟩
def Vd(n:RB w b d a vC wt fl e p) f (u:0<=f)(v:f<=1000000):C_ 269 #[.pointer (some (J b 6)),.int .u8 c,I f] w λh i=>Gm b d a vC wt fl e p (If f p c) w h i:=by
 obtain⟨z,_,A,B,y,_,D⟩:=n.part;have m:=Y n;have j:=Y (λk=>Sm c k);clear n
 by_cases g:Cc c=true
 ·have r:48<=c/\c<=57:=by simpa [Cc] using g
  obtain⟨s,t⟩:=r;have o:=Y (λk=>ce c f k s t u v);rw[g] at j
  by_cases l:c=48
  ·have k:K (If f p c=some {p with g:=2,dig:=1,unit:=f,num:=(c-48)*f}):=(by show If f p c=_;unfold If;grind);have q:(c==48)=true:=(by simp[l]);generalize (c-48)*f=x at *;clear l g;refine v_ ?_;go_wp2_with (first|(go_at_call 315;apply (j _).m;rintro h i ⟨rfl,rfl⟩)|(go_at_call 316;apply (o _).m;rintro h i ⟨rfl,rfl⟩))
   go_ret;unfold Gm;rw[k];exact⟨rfl,((((m.g 3).dig 1).unit f).num _).g 2,Bd (Bd (Bd (Bd (Bd (Az _ _) _ _) _ _) _ _) _ _) _ _⟩
  have k:K (If f p c=some {p with g:=3,dig:=1,unit:=f,num:=(c-48)*f}):=(by show If f p c=_;unfold If;grind);have q:=aO l;generalize (c-48)*f=x at *;clear l g;refine v_ ?_;go_wp2_with (first|(go_at_call 315;apply (j _).m;rintro h i ⟨rfl,rfl⟩)|(go_at_call 316;apply (o _).m;rintro h i ⟨rfl,rfl⟩))
  go_ret;unfold Gm;rw[k];exact⟨rfl,(((m.g 3).dig 1).unit f).num _,Bd (Bd (Bd (Bd (Az _ _) _ _) _ _) _ _) _ _⟩
 have k:K (If f p c=_):=aC g
 have l:Cc c=false:=by simpa using g
 rw[l] at j;clear g l;refine v_ ?_;go_wp2_with (go_at_call 315;apply (j _).m;rintro h i ⟨rfl,rfl⟩)
 go_ret;unfold Gm;rw[k];exact⟨rfl,m,Az _ _⟩
def uq{p:Prop}(h:p:=by
 refine v_ ?_;go_wp2_with (go_at_call 315;apply (f _).m;rintro j k ⟨rfl,rfl⟩)
 go_ret;unfold Gm;rw[i]
 exact⟨rfl,m,Az _ _⟩):p:=h
def rc(g:RB w b d a vC wt fl e p)(o:0<=p.unit)(q:p.unit<=1000000)(F:0<=p.num)(G:p.num<=1000000000000)(A:0<=p.dig)(B:p.dig<=1000):C_ 270 #[.pointer (some (J b 6)),.int .u8 c] w λj k=>Gm b d a vC wt fl e p (Lj p c) w j k:=by
 obtain⟨_,_,s,y,x,_,z⟩:=g.part;have m:=Y g;have f:=Y (λn=>Sm c n)
 by_cases h:Cc c=true
 ·have t:48<=c/\c<=57:=by simpa [Cc] using h
  obtain⟨u,v⟩:=t
  by_cases l:p.dig=5
  have i:K (Lj p c=_):=aC (λg=>g.2 l);rw[h] at f;rw[l] at s;exact uq;have H:=aO l;have i:K (Lj p c=_):=aD ⟨h,l⟩;have r:=Y (λn=>ce c _ n u v o q);have D:0<=(c-48)*_:=Int.mul_nonneg O o;have E:(c-48)*_<=9*_:=Int.mul_le_mul O q o O;rw[h] at f;generalize (c-48)*p.unit=n at *;have L:_=p.num*10:=As O O;have M:_=p.num*10+n:=As O O;refine v_ ?_;go_wp2_with (go_at_call 315;apply (f _).m;rintro j k ⟨rfl,rfl⟩)
  go_region_with (go_at_call 316;apply (r _).m;rintro j k ⟨rfl,rfl⟩)
  all_goals go_wp2
  all_goals go_ret
  all_goals unfold Gm
  all_goals rw[i]
  all_goals exact⟨rfl,((m.dig _).num _).drew,Pr (Bd (Bd (Az _ _) _ _) _ _)⟩
 have i:K (Lj p c=_):=aC (λg=>h g.1)
 have l:Cc c=false:=by simpa using h
 rw[l] at f;exact uq
def nr(g:RB w b d a vC wt fl e p)(x:0<=p.unit)(M:p.unit<=1000000)(F:0<=p.num)(G:p.num<=1000000000000):C_ 272 #[.pointer (some (J b 6)),.int .u8 c] w λj k=>Gm b d a vC wt fl e p (Iw p c) w j k:=by
 obtain⟨A,_,_,s,z,_,B⟩:=g.part;have m:=Y g;have f:=Y (λn=>Sm c n)
 by_cases h:Cc c=true
 ·have t:48<=c/\c<=57:=by simpa [Cc] using h
  obtain⟨u,v⟩:=t
  by_cases l:p.unit=1
  have i:K (Iw p c=_):=aC (λg=>g.2 l);rw[h] at f;rw[l] at s;exact uq;have H:=aO l;have L:p.unit.tdiv 10=_/10:=Int.tdiv_eq_ediv_of_nonneg x;have o:0<=p.unit/10:=O;have q:p.unit/10<=1000000:=O;have i:K (Iw p c=_):=aD ⟨h,l⟩;have r:=Y (λn=>ce c _ n u v o q);have D:0<=(c-48)*_:=Int.mul_nonneg O o;have E:(c-48)*_<=9*_:=Int.mul_le_mul O q o O;rw[h] at f;generalize (c-48)*(p.unit/10)=n at *;generalize p.unit/10=y at *;have N:_=p.num+n:=As O O;have P:_=y:=As O O;refine v_ ?_;go_wp2_with (go_at_call 315;apply (f _).m;rintro j k ⟨rfl,rfl⟩)
  go_region_with (go_at_call 316;apply (r _).m;rintro j k ⟨rfl,rfl⟩)
  all_goals go_wp2
  all_goals go_ret
  all_goals unfold Gm
  all_goals rw[i]
  all_goals exact⟨rfl,(((m.g _).unit _).num _).drew,Pr (Bd (Bd (Bd (Az _ _) _ _) _ _) _ _)⟩
 have i:K (Iw p c=_):=aC (λg=>h g.1)
 have l:Cc c=false:=by simpa using h
 rw[l] at f;exact uq
end
section
variable {w:World} {b:Nat} {a c vC:Value} {wt:Int} {fl:Bool} {d:Value} {p:Ch}
def RB.i(f:RB w b a c vC wt fl d p) e:RB (w.setCell (J b 3) (I e)) b a c vC e fl d p:=hs_ w b 3 _ 256 _ f
def RB.j(f:RB w b a c vC wt fl d p) e:RB (w.setCell (J b 4) (.bool e)) b a c vC wt e d p:=hs_ w b 4 _ 256 _ f
def RB.h(f:RB w b a c vC wt fl d p) e:RB (w.setCell (J b 5) e) b a c vC wt fl e p:=hs_ w b 5 _ 256 _ f
def RB.k(f:RB w b a c vC wt fl d p) e:RB (w.setCell (J b 1) e) b a e vC wt fl d p:=hs_ w b 1 _ 256 _ f
end
def Ep(a:Int):Bool:=!(decide (a=1)||decide (a=4)||decide (a=7))
def Zdk h m l k o i n a g (j:RB g h m l k o i n a):C_ 220 #[.pointer (some (J h 6))] g (V_ (.bool (Ep a.g)) g):=by
 obtain⟨f,_,_,_,_,_,_⟩:=j.part
 by_cases c:a.g=1
 have b:K (Ep a.g=false):=(by show Ep a.g=false;rw[c];rfl);rw[c] at f;refine er_ ?_;rw[b];exact⟨rfl,rfl⟩
 by_cases d:a.g=4
 have b:K (Ep a.g=false):=(by show Ep a.g=false;rw[d];rfl);rw[d] at f;refine er_ ?_;rw[b];exact⟨rfl,rfl⟩
 by_cases e:a.g=7
 have b:K (Ep a.g=false):=(by show Ep a.g=false;rw[e];rfl);rw[e] at f;refine er_ ?_;rw[b];exact⟨rfl,rfl⟩;have b:K (Ep a.g=true):=(by show Ep a.g=true;unfold Ep;simp[c,d,e]);have p:=aO c;have q:=aO d;have r:=aO e;refine er_ ?_;rw[b];exact⟨rfl,rfl⟩
def tw d k j i c f l h b (g:RB b d k j i c f l h):C_ 91 #[P_ d] b (V_ (.bool (decide (c=0))) b):=by
 obtain⟨_,_,_,m,_,_⟩:=g.head
 by_cases a:c=0
 subst a;refine er_ ?_;exact⟨rfl,rfl⟩;have n:=aO a;have e:=Y (aE a);refine er_ ?_
 first|exact⟨rfl,rfl⟩|(rw[e];exact⟨rfl,rfl⟩)
abbrev ZhZ:=Option (Option Int)
def Aq(b a:Int):ZhZ:=
 if a=44/\0<b then some none
 else if 48<=a/\a<=57/\1<=b*10+(a-48)/\b*10+(a-48)<=99 then some (some (b*10+(a-48)))
 else none
def Zmq(a:Nat)(g f e:Value)(j:Int)(i:Bool)(h:Value)(d:Ch)(k:ZhZ)(l:World)(c:Ending)(b:World):Prop:=
 l.grownBy b (some a)/\match k with
  |none=>c=.returned (.bool false)/\RB b a g f e j i h d
  |some none=>c=.returned (.bool true)/\RB b a g f e j true h d
  |some (some m)=>c=.returned (.bool true)/\RB b a g f e m i h d
def bw f o n m b j p l a i (g:RB i f o n m b j p l)(w:0<=b)(x:b<=99)(y:0<=a)(z:a<=255):C_ 162 #[P_ f,.int .u8 a] i λc d=>Zmq f o n m b j p l (Aq b a) i c d:=by
 obtain⟨_,_,_,r,s,_⟩:=g.head;have t:=g.part.2.2.2.2.2.2;have d:=Y g
 by_cases k:a=44/\0<b
 have c:K (Aq _ a=_):=aD k;obtain⟨rfl,e⟩:=k;refine er_ ?_;rw[c];exact⟨Bd (Az _ _) _ _,rfl,d.j _⟩
 by_cases q:48<=a/\a<=57
 ·obtain⟨u,v⟩:=q;have F:¬a=44:=O;have A:IntKind.u8.wrap (a-48)=a-48:=(by simp[wrap,IntKind.bits,signed];omega);have B:_=a-48:=As O O;have D:_=b*10:=As O O;have E:_=b*10+(a-48):=As O O
  by_cases h:1<=b*10+(a-48)/\b*10+(a-48)<=99
  ·have c:K (Aq b a=some (some (b*10+(a-48)))):=(by show Aq b a=_;grind [Aq]);obtain⟨e,G⟩:=h;refine v_ ?_;go_wp2;go_ret;rw[c];exact⟨Bd (Az _ _) _ _,rfl,d.i _⟩
  have c:K (Aq b a=none):=(by show Aq b a=_;grind [Aq]);have e:b*10+(a-48)<1∨99<b*10+(a-48):=O
  rcases e with e|e
  all_goals
   refine v_ ?_;go_wp2;go_ret;rw[c];exact⟨Az _ _,rfl,d⟩
 have c:K (Aq b a=none):=(by show Aq b a=_;grind [Aq]);have e:a<48∨57<a:=O;have h:(a=44/\b=0)∨¬a=44:=O
 rcases h with⟨rfl,rfl⟩|h
 ·clear e;refine v_ ?_;go_wp2;go_ret;rw[c];exact⟨Az _ _,rfl,d⟩
 have u:=aO h
 rcases e with e|e
 all_goals
  refine v_ ?_;go_wp2;go_ret;rw[c];exact⟨Az _ _,rfl,d⟩
def ZeY:(prog.info? 5).map (λa=>(a.zero,a.size,a.bytes))=some (some (.int .u8 0),1,1):=k_
def Ax(d:World)(b:Nat)(c:Value)(a:List Int):Prop:=d.ownsRow b 5 1 c a.length (a.map (int .u8))
def Ax.a{g d b a}(f:Ax g d b a):∃c e,b=.slice c a.length e:=by
 rcases f.2 with⟨rfl,i⟩|⟨k,j,h,rfl,_⟩
 ·grind
 grind
def RW(b:World)(c d:Nat)(i h g:Value)(k:Int)(f:Bool)(j:Value)(a:Ch)(e:List Int):Prop:=RB b c i h g k f j a/\Ax b d a.e e
def Fk(e i:Nat)(n m l:Value)(p:Int)(k:Bool)(o:Value)(b:Ch)(f:List Int)(c:Option (Int×List Int))(g:World)(j:Ending)(h:World):Prop:=
 j=.returned (.bool c.isSome)/\(∃d,RW h e i n m l p k o {b with g:=(c.getD (b.g,f)).1,e:=d} (c.getD (b.g,f)).2/\(d.ownBlock=b.e.ownBlock∨∃a,d.ownBlock=some a/\g.1.size<=a))/\Aa (λa=>a=e∨some a=b.e.ownBlock) g h
def Fk.none{c d i h g k f j a e b}(l:RW b c d i h g k f j a e):Fk c d i h g k f j a e none b (.returned (.bool false)) b:=
 ⟨rfl,⟨a.e,l,.inl rfl⟩,Aa.refl _ _⟩
section
variable (b base:Nat) (d a vC:Value) (wt:Int) (fl:Bool) (e:Value) (p:Ch) (bs:List Int) (c:Int) (w:World)
def jx(g:RW w b base d a vC wt fl e p bs):C_ 311 #[.pointer (some (J b 6))] w (V_ (.bool (decide (bs.length=8))) w):=by
 obtain⟨_,_,_,_,_,f,j⟩:=g.1.part;obtain⟨i,k,h⟩:=g.2.a;rw[h] at f
 by_cases c:bs.length=8
 rw[c] at f;refine er_ ?_;exact⟨by simp[c],rfl⟩;have l:((bs.length:Int)==8)=_:=aO O;refine er_ ?_;exact⟨by simp[c],rfl⟩
def fq(f:RW w b base d a vC wt fl e p bs):C_ 259 #[.pointer (some (J b 6)),.int .u8 c] w λh l=>Fk b base d a vC wt fl e p bs (if c=34 then some (7,bs) else none) w h l:=by
 obtain⟨m,_,_,_,_,_,n⟩:=f.1.part;have H:=Y f
 have j:K (∀g,Ax (w.setCell (J b 6) g) base p.e bs):=λg=>((Aa.refl (λi=>i=b) w).setCell (p:=(J b 6)) (λ_=>rfl) g).row f.2 (λi k h=>by
  obtain⟨o,q⟩:=Ac f.2 k;subst h;have:=f.1;unfold RB at this
  grind)
 by_cases q:c=34
 ·subst q;refine v_ ?_;go_wp2;go_ret;exact⟨rfl,⟨p.e,⟨H.1.g 7,j _⟩,.inl rfl⟩,(λg=>(Aa.refl _ w).setCell (p:=(J b 6)) (λ_=>.inl rfl) g) _⟩
 have i:=aO q;refine v_ ?_;go_wp2;go_ret
 first|exact Fk.none H|(rw[(aC q)];exact Fk.none H)
def rf(f:RW w b base d a vC wt fl e p bs):C_ 261 #[.pointer (some (J b 6)),.int .u8 c] w λh l=>Fk b base d a vC wt fl e p bs (if c=34 then some (8,bs) else none) w h l:=by
 obtain⟨m,_,_,_,_,_,n⟩:=f.1.part;have H:=Y f
 have j:K (∀g,Ax (w.setCell (J b 6) g) base p.e bs):=λg=>((Aa.refl (λi=>i=b) w).setCell (p:=(J b 6)) (λ_=>rfl) g).row f.2 (λi k h=>by
  obtain⟨o,q⟩:=Ac f.2 k;subst h;have:=f.1;unfold RB at this
  grind)
 by_cases q:c=34
 ·subst q;refine v_ ?_;go_wp2;go_ret;exact⟨rfl,⟨p.e,⟨H.1.g 8,j _⟩,.inl rfl⟩,(λg=>(Aa.refl _ w).setCell (p:=(J b 6)) (λ_=>.inl rfl) g) _⟩
 have i:=aO q;refine v_ ?_;go_wp2;go_ret
 first|exact Fk.none H|(rw[(aC q)];exact Fk.none H)
end
def Lw(a:List Int)(b:Int):Option (Int×List Int):=if Ft b=true/\a.length≠8 then some (6,a++[b]) else none
def Fz(a:Int):Bool:=Ft a||decide (a=32)||decide (a=44)||decide (a=10)||decide (a=34)
def dy(c:Int)(a:List Int)(b:Int):Option (Int×List Int):=if Fz b=true/\a.length≠8 then some (c,a++[b]) else none
def Nx(a:List Int)(b:Int):Option (Int×List Int):=if b=34/\a.length≠8 then some (7,a++[b]) else none
def Zq{a l p o n s m q e b g r f j w i h k}(t:RW r a l p o n s m q e b)(u:RB f a p o n s m q {e with g:=w})(x:Aa (λd=>d=a) r f)(z:j.ownsRow l 5 1 (L_ i (b.length+1) h) (b.length+1) (b.map (int .u8)++[.int .u8 g]))(v:(f.alloc (O_ #[.int .u8 g] 5)).grownBy j e.e.ownBlock)(B:(L_ i (b.length+1) h).ownBlock=e.e.ownBlock∨(L_ i (b.length+1) h).ownBlock=some k/\Below k (f.alloc (O_ #[.int .u8 g] 5)) j)(E:f.1.size<=k):Fk a l p o n s m q e b (some (w,b++[g])) r (.returned (.bool true)) (j.setCell (J a 11) (L_ i (b.length+1) h)):=by
 have A:some a≠e.e.ownBlock:=λc=>by
  obtain⟨y,D⟩:=Ac t.2 c.s;have:=t.1;unfold RB at this
  grind
 have y:RB (f.alloc (O_ #[.int .u8 g] 5)) a _ _ _ _ _ _ _:=(hb_ _ _ a u.lt).T u;refine⟨rfl,⟨V _ _ _,⟨(y.grown v A).e _,?_⟩,?_⟩,?_⟩
 ·have D:Aa _ _ (j.setCell _ (L_ i (b.length+1) h)):=(Aa.refl (λd=>d=a) _).setCell (p:=(J a 11)) (λ_=>rfl) _;have F:=D.row z (λd G c=>by grind [RB])
  grind [Ax]
 ·rcases B with c|⟨c,_⟩
  exact .inl c;exact .inr ⟨k,c,p_ x.size⟩
 exact(((x.m (λd _ c=>.inl c)).alloc _).grown v (λd c _=>.inr c.s)).setCell (p:=(J a 11)) (λ_=>.inl rfl) _
section
variable (b base:Nat) (d a vC:Value) (wt:Int) (fl:Bool) (e:Value) (p:Ch) (bs:List Int) (c:Int) (w:World)
def Tc(f:RW w b base d a vC wt fl e p bs)(z:base<=w.1.size)(P:bs.length<=1000):C_ 260 #[.pointer (some (J b 6)),.int .u8 c] w λg h=>Fk b base d a vC wt fl e p bs (Lw bs c) w g h:=by
 obtain⟨F,_,_,_,_,E,G⟩:=f.1.part;have i:=Y f;have j:=Y (λk=>Ps c k);have l:=Y (jx b _ _ _ _ _ _ _ p _ w f)
 have t:K (Ax (w.setCell (J b 6) (I 6)) base p.e bs):=((Aa.refl (λk=>k=b) w).setCell (p:=(J b 6)) (λ_=>rfl) _).row f.2 (λk m g=>by
  obtain⟨r,x⟩:=Ac f.2 m;subst g;have:=f.1;unfold RB at this
  grind)
 have o:=Y (f.1.g 6);have v:K (Aa _ w (w.setCell _ (I 6))):=(Aa.refl (λk=>k=b) w).setCell (p:=(J b 6)) (λ_=>rfl) _
 have u:K (_<=(w.setCell (J b 6) (I 6)).1.size):=show base<=_ by simp[World.setCell];exact z
 have L:_=some p.e:=(f.1.g 6).part.2.2.2.2.2.1
 by_cases n:Ft c=true
 ·rw[n] at j
  by_cases m:bs.length=8
  ·have k:K (Lw _ c=_):=aC (λf=>f.2 m);have q:=aF m;rw[q] at l;refine v_ ?_;go_wp2_with (first|(go_at_call 310;apply (j _).m;rintro g h ⟨rfl,rfl⟩)|(go_at_call 311;apply (l).m;rintro g h ⟨rfl,rfl⟩))
   go_ret;rw[k];exact Fk.none i
  have k:K (Lw _ c=_):=aD ⟨n,m⟩;rw[(aE m)] at l;refine v_ ?_;go_upto_region 4 with(first|(go_at_call 310;apply (j _).m;rintro g h ⟨rfl,q⟩;obtain rfl:=q.s)|(go_at_call 311;apply (l).m;rintro g h ⟨rfl,q⟩;obtain rfl:=q.s))
  have s:K (some b≠p.e.ownBlock):=λg=>by
   obtain⟨r,x⟩:=Ac i.2 g.s;have:=i.1;unfold RB at this
   grind
  generalize w.setCell (J b 6) (I 6)=D at *;have Q:=u.out;go_wp2_with (at_builtin;refine ap_ [.int .u8 c] (ra_ t _) ?_)
  intro T S y;obtain⟨B,r,A,_,R,H,rfl⟩:=y;have x:RB (D.alloc (O_ #[.int .u8 c] 5)) b _ _ _ _ _ _ _:=(hb_ _ _ b o.lt).T o;obtain⟨_,_,_,_,_,M,N⟩:=(x.grown r s).part;go_wp2;go_ret;rw[k];exact(Y (Zq i o v B r A O))
 have k:K (Lw bs c=_):=aC (λf=>n f.1)
 have m:Ft c=false:=by simpa using n
 rw[m] at j;refine v_ ?_;go_wp2_with (go_at_call 310;apply (j _).m;rintro g h ⟨rfl,rfl⟩)
 go_ret;rw[k];exact Fk.none i
end
end Go.Proofs.YtfcgnpchbcmdeaaGreat
