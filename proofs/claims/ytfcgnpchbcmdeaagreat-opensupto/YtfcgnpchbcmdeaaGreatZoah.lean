import Derived.Test.YtfcgnpchbcmdeaaGreatZoag
namespace Go.Proofs.YtfcgnpchbcmdeaaGreat
set_option linter.all false
set_option maxRecDepth 100000
set_option maxHeartbeats 4000000
open Go.RowKit List Nat World Go.Proofs.Tryz Value IntKind Lib Region
def atK(a:List Cm)(b k:Nat):Nat:=if k=0 then 1 else Cw a b k
def Zgy{a}(k:Be a){b d j:Nat}{f e}(h:3<=a.length)(s:2<=b)(q:0<=e)(o:e<(b:Int)-1)(n:f*(b-1)+e=4*(d+1:Nat)*Ae a)(g:Zej a (if 0<e then f+1 else f) (atK a b d) j):j=Cw a b (d+1):=by
 have r:∀c,Jo a c+Jo a (c+1)<(if 0<e then f+1 else f)↔Rd a b (d+1) c=true:=λc=>by rw[Zi4 O q o n];unfold Rd;grind
 have p:1<=atK a b d:=(by unfold atK;split;omega;exact(Gb a b d h).g);refine yx.a ⟨aG p g.ge,g.le,λc l m=>?_,?_⟩ (Gb a b _ h)
 ·by_cases i:atK a b d<=c
  exact(r c).1 (g.h c i m);unfold atK at i;split at i;omega;exact ta k ((Gb a b d h).h c l O)
 rcases g.i with i|i
 exact .inl i
 grind
def Zoh{a} c b (d:3<=a.length):atK a c b+2<=a.length:=by unfold atK;split;omega;exact(Gb a c b d).le
def kp{L} b:∀a,(Fb L b a).length<=a+1
 |0=>by simp[Fb]
 | a+1=>by
  have:=kp (L:=L) b a;simp only[Fb]
  grind
def Zc2{l j c b}(h:Le l j c b):∀a k,(flat b)[a]? =some k->l.cell? (((J j c):Addr).add a)=some k:=by
 intro a k m;have o:a<b.length*4:=by rw[<- Es];grind
 have n:∀b f i,f<b.length->i<4->(flat b)[f*4+i]? =(En (b.getD f e0))[i]?:=by
  intro b
  induction b with
  |nil=>grind
  | cons e b p=>
   intro f i g d
   cases f with
   |zero=>grind [flat,En]
   | succ f=>
    grind [flat,En]
 have d:=n b (a/4) (a%4) O O;rw[show a/4*4+a%4=a by omega,m] at d;rw[(Go.WideShapes.add_plain j c a)];have g:a/4<b.length:=O
 rcases(show a%4=0∨a%4=1∨a%4=2∨a%4=3 by omega) with e|e|e|e
 rw[e] at d;rw[show c+a=c+a/4*4 by omega,h.v _ g];exact d.s;rw[e] at d;rw[show c+a=c+a/4*4+1 by omega,h.y _ g];exact d.s;rw[e] at d;rw[show c+a=c+a/4*4+2 by omega,h.g _ g];exact d.s;rw[e] at d;rw[show c+a=c+a/4*4+3 by omega,h.h _ g];exact d.s
def qb b:∀c∈flat b,c.oneCell'=true:=by
 induction b with
 |nil=>simp[flat]
 | cons e b d=>
  intro c a;simp only[flat,mem_append] at a
  rcases a with a|a
  ·simp[En] at a;rcases a with rfl|rfl|rfl|rfl<;>rfl
  exact d c a
def ZkA{d e a c b:Int}(h:0<a)(k:0<=e)(g:c<=a)(i:0<=b)(j:d*a+e=c*b):d<=b:=by
 have f:d*a<=b*a:=by
  have:c*b<=a*b:=Int.mul_le_mul_of_nonneg_right g i
  grind
 exact Int.le_of_mul_le_mul_right f h
def Am.kept{e f c a b d}(g:Am e c a b)(h:e.grownBy f (some d))(i:a.ownBlock≠some d):Am f c a b:=World.ownsRow.kept g h (.inr i)
def Am.b{e g d f b j k l m}(h:Am e g d f)(i:Pj e b j k l m):d.ownBlock≠some b:=by
 intro a
 rcases h.2 with⟨rfl,_⟩|⟨p,n,o,rfl,_,c,_⟩
 simp[ownBlock] at a;simp[ownBlock] at a;subst a;rw[i] at c;simp at c
def Zog{b:World}{s:Array Oper}{t:List Oper}{e:Oper}{x:Act}{l:Exit->Act->World->Prop}{f g:Operand}{d a i}(c:Ee b d a)(A:d=none->i=0)(hK:∀k h,K (Am h b.1.size k a/\E_ b h)->wpList prog s l t (x.put e.dst k) h)(m:e.guard=none:=by rfl)(o:e.op=.call {callee:=.builtin .append,args:=#[f,g],argTypes:=#[29,29]}:=by rfl)(p:x.eval f=.slice none 0 0:=by rfl)(q:x.eval g=.slice d a.length i:=by rfl):wpList prog s l (e::t) x b:=by
 have⟨r,n,B,D,E⟩:=info_parts kc;obtain⟨L,c⟩:=c
 cases d with
 | none=>
  obtain rfl:a=[]:=w_;obtain rfl:=A rfl;exact wpList_append_own_none m f g 29 o b.1.size 98 r 4 underlying29 n _ 0 [] p (Am.nil _ _) q (hK _ _ ⟨Am.nil _ _,y_⟩)
 | some u=>
  refine wpList_append_own b m f g 29 o b.1.size 98 r _ 4 32 underlying29 n B D E rfl C _ 0 [] p (Am.nil _ _) u a.length i (flat a) q (Es a) (λF G j=>?_) (qb a) m_ O x_ λk h w y _=>hK _ _ ⟨?_,y_.grown y x_ (λz v=>by cases v)⟩
  ·rcases c with c|⟨H,M,v,z⟩
   rw[eq_nil_of_length_eq_zero c] at j;cases j
   cases v;exact Zc2 z F G j
  simpa [Am] using w
def ZeG R b S p d (u:Ee d R b)(m:Be b)(c7:R=none->S=0):C_ 47 #[V R b.length S,I p] d λg A=>∃c,g=.returned c/\Am A d.1.size c (Eo b p)/\E_ d A:=by
 have⟨n,D⟩:=Z_ u m;have e2:=u.1;obtain⟨a,c9⟩:∃a:Nat,max p 2=a:=⟨(max p 2).toNat,O⟩;have d0:2<=a:=O
 have r:K (Eo b p=if b.length<=a then b else Fb b a (a-2)++[b.getD (b.length-1) e0]):=show _=_ by grind [Eo]
 refine v_ ?_;go_upto_region 1 with fail;go_cut [1] (λc f=>c=I a/\f=d)
 case first=>
  by_cases c:p<2<;>(go_wp2;go_meet;grind)
 obtain⟨rfl,d2⟩:=hcut;obtain rfl:=d2.s;clear c9 u m
 by_cases b2:b.length<=a
 ·rw[aD b2] at r;go_wp2_with (at_builtin;apply Zog n c7)
  intro y a0 c;refine wr_ ?_;exact⟨_,rfl,by rw[r];exact c.1,c.2⟩
 rw[aC b2] at r;have H:3<=b.length:=O;obtain⟨d5,e8,rfl,a5,a6,a7,a8,d7⟩:=n.at (i:=0) O;simp only[Nat.zero_mul,Nat.add_zero] at a5 a6 a7 a8;have b8:K (Fb b a 0=[_]):=rfl;generalize b.getD 0 e0=e at *;have d6:0<b.length:=O;have c6:∀k:World,(Instr.makeSlice 29 (I 0) (I a)).run prog k=.ok (L_ k.1.size 0 a) (k.alloc (O_ (madeCells #[I 0,I 0,I 0,I 0] (a*4)) 98)):=λ_=>mk_ 4;go_upto_region 5 with fail;go_cut [6] (λc f=>K (Am f d.1.size c [e])/\E_ d f)
 case first=>
  have j:∀(k:World) m,d.1.size<=m->k.1.size=m->Am (k.alloc (O_ (madeCells #[I 0,I 0,I 0,I 0] (a*4)) 98)) d.1.size (L_ m 0 a) []:=λk m u g=>by subst g;exact ownsRow_made k _ a u m_ (size_madeCells _ _)
  have⟨x,s,t,v,w⟩:=info_parts kc;have l:∀f h,([I e.v,I e.y,I e.g,I e.h]:List Value)[f]? =some h->_:=one_at (w:=d.alloc (O_ (madeCells #[I 0,I 0,I 0,I 0] (a*4)) 98)) (g:=d.1.size+1) (c:=#[I e.v,I e.y,I e.g,I e.h]) (t:=98) s_;go_region_law (refine Ri rfl _ _ 29 rfl _ 98 x _ 4 32 underlying29 s t v w rfl C (V _ 0 a) 0 [] rfl (by first|exact(j d _ x_ rfl).alloc _|exact j (d.alloc _) (d.1.size+1) O s_) _ 1 1 [I e.v,I e.y,I e.g,I e.h] rfl rfl (by first|exact l|exact λf h c=>X_ (one_new d _ 98 f h c)) (by simp[oneCell']) m_ O u_ ?_;intro y a0 H q;have o:=((q_.alloc s_ _).drew).grown q u_ (λc b1=>by simp[ownBlock] at b1;omega))
  all_goals go_wp2
  all_goals go_meet
  all_goals exact⟨by simpa [Am,flat,En,Hid] using H,o⟩
 obtain⟨a3,v⟩:=hcut;have f1:=(Ec D).1;have f2:=(Ec D).2;have d8:=v.size;go_wp2_with fail
 apply (ZbZ _ b _ _ (n.below v)).m;rintro g A ⟨rfl,rfl⟩;generalize Q:Ae b=N at *;replace Q:=Y Q;clear a5 a6 a7 a8 c6;go_wp2_with fail
 go_loopw [6,8,9,36] (λo q s h l=>∃(c:Nat) (j f:Int),c<=a-2/\q=I (atK b a c:Nat)/\s=I (Jt b a c:Nat)/\h=I c/\K (Am l d.1.size o (Fb b a c)/\Pj l A.1.size (4*N) ((a:Int)-1) j f/\j*((a:Int)-1)+f=(c:Int)*(4*N))/\0<=f/\f<(a:Int)-1/\0<=j/\E_ d l) (λ_ _ _ h _=>a-(intOf h).toNat)
 case atStart=>exact⟨0,0,0,r_,rfl,rfl,rfl,⟨b8 ▸ (a3.alloc _),hn_,s_⟩,O,O,O,v.alloc v.size _⟩
 clear a3 v;obtain⟨c,f5,f0,b1,rfl,rfl,rfl,f,c8,e4,e6,w⟩:=hrel;have e7:=ZkA O c8 O O f.2.2;have b4:=w.size;have a1:=Y (Zoh a c H);have d9:=kp (L:=b) a c
 by_cases e1:c<a-2
 case neg=>
  have q:¬c<(a:Int)-2:=O;obtain⟨l,o⟩:∃l,b.length=l+1:=⟨b.length-1,O⟩;rw[show a-2=c by omega,show b.length-1=l by omega] at r;obtain⟨_,_,⟨⟩,c0,c1,c2,c3,_⟩:=(n.below w).at (i:=l) O;generalize b.getD l e0=h,Fb b a c=d3 at *;go_wp2_with (at_builtin;refine ap_ [I h.v,I h.y,I h.g,I h.h] (f.1.alloc _) ?_)
  intro d4 b7 j;have U:=(w.alloc b4 _).grown j.2.1 t_ (λM x=>(f.1.lt M x).1);have x:=Y (Am.E j.1);clear j;refine wr_ ?_;exact⟨_,rfl,r ▸ x,U⟩
 have e3:c<(a:Int)-2:=O;go_wp2_with fail
 apply (Zjz _ _ _ _ _ _ f.2.1 O O O O).m;rintro g f3 ⟨rfl,q,z,a9,b3,X,Z,b6,e9,W⟩;have P:K (q*(a-1)+z=(c+1:Nat)*(4*N)):=(by show _=_;rw[b3,f.2.2,show((c+1:Nat):Int)=(c:Int)+1 by omega,Int.add_mul,Int.one_mul]);have t:=T_ (f.1.kept W (f.1.b f.2.1)) a9;have b0:=w.grown W b4 (λM x=>by simp at x;omega);clear b3 W a9 f w;go_wp2_with fail
 apply (qw _ _ _ _ _ _ t.2 O).m;rintro g f4 ⟨rfl,rfl⟩;generalize s:(if 0<z then q+1 else q)=c4;generalize a2:atK b a c=b9 at *;replace s:=T_ s a2;clear a2;go_wp2_with fail
 apply (ZaV _ b S b9 c4 _ (Y (n.below b0)) D a1).m;rintro g a0 ⟨l,rfl,T,o⟩;have a4:=Y (Zgy D H d0 X Z (by rw[Q,P,<- Int.mul_assoc,Int.mul_comm 4 ((c+1:Nat):Int),Int.mul_assoc]) (by rw[s.2,s.1];exact T));have e5:=T.le;have G:=Y (t.1.below o);have F:K (Pj _ _ _ _ _ _):=(o.block _ t.2.lt).T t.2;have L:=bt_ b0 o;have d1:=L.size;have B:K (atK b a (c+1)=l/\Jt b a (c+1)=l):=by rw[a4];exact⟨by simp[atK],by simp[Jt]⟩
 have E:K (Fb b a (c+1)=if l=Jt b a c then Fb b a c else Fb b a c++[b.getD l e0]):=(by show _=_;rw[a4];rfl);clear T o t s a1;generalize Jt b a c=b5 at *
 by_cases y:l=b5
 ·rw[aD y] at E;have h:(l !=(b5:Int))=false:=(by rw[bne_eq_false_iff_eq];omega);replace y:=Y y;refine J_ ?_;exact⟨c+1,q,z,O,by rw[B.1],by rw[B.2,y],g_,⟨E ▸ G,F,P⟩,X,Z,b6,L⟩
 rw[aC y] at E;obtain⟨_,_,⟨⟩,c0,c1,c2,c3,_⟩:=(n.below L).at (i:=l) O;generalize b.getD l e0=h,Fb b a c=d3 at *;go_wp2_with (at_builtin;refine ap_ [I h.v,I h.y,I h.g,I h.h] (G.alloc _) ?_)
 intro d4 b7 j;have U:=(L.alloc d1 _).grown j.2.1 t_ (λM x=>(G.lt M x).1);have x:=Y (Am.E j.1);have M:K (Pj b7 A.1.size (4*N) (a-1) q z):=(by have c5:=F.lt;unfold Pj;rw[j.2.1.block _ t_ (λg=>(G.b F) g.s),hb_ a0 _ _ c5];exact F);clear j;refine J_ ?_;exact⟨c+1,q,z,O,by rw[B.1],by rw[B.2],g_,⟨E ▸ x,M,P⟩,X,Z,b6,U⟩
def Kj(a:Int×Int):Cm:=⟨a.1,0,0,a.2⟩
def Xa{a B x c b}(f:a.length=c)(e:b<4) d:(flat (a++x::B)).set (c*4+b) d=flat a++((En x).set b d++flat B):=by grind [Cq,flat,Es]
def Zl{a b}{x:Cm}{c}(e:a.length=c) d:(flat (a++x::b)).set (c*4+1) (I d)=flat (a++⟨x.v,d,x.g,x.h⟩::b):=by rw[Xa e O,Cq];rfl
def Zm{a b}{x:Cm}{c}(e:a.length=c) d:(flat (a++x::b)).set (c*4+2) (I d)=flat (a++⟨x.v,x.y,d,x.h⟩::b):=by rw[Xa e O,Cq];rfl
def Zn{a b}{x:Cm}{c}(e:a.length=c) d:(flat (a++x::b)).set (c*4+3) (I d)=flat (a++⟨x.v,x.y,x.g,d⟩::b):=by rw[Xa e O,Cq];rfl
theorem Am.at{b i a j e g x k n}(h:Am b i (L_ a n j) (e++x::g))(l:n=(e++x::g).length)(o:e.length=k):b.cell? (J a (k*4))=some (I x.v)/\b.cell? (J a (k*4+1))=some (I x.y)/\b.cell? (J a (k*4+2))=some (I x.g)/\b.cell? (J a (k*4+3))=some (I x.h)/\∀f,b.frozen? (J a f)=false:=by
 subst l
 have d:∀c,c<4->b.cell? (J a (k*4+c))=(En x)[c]?:=λc m=>by
  rw[World.ownsRow.cellAt h (k*4+c) t_,Cq]
  grind [flat,Es]
 exact⟨d 0 O,d 1 O,d 2 O,d 3 O,λf=>World.ownsRow.frozenAt h f⟩
def Am.store{i g c h e d a b f}(j:Am i g (L_ c e h) a)(k:e=a.length)(m:b.length=a.length)(l:(flat a).set d f=flat b):Am (i.setCell (J c d) f) g (L_ c e h) b:=by
 subst k;have:=(World.ownsRow.stored j d f).1;unfold Am
 grind
def Qo{M}(f:∀c∈M,0<=c.2) b:0<=Bv (M.take b)/\Bv (M.take b)<=Bv M:=by
 have e:∀a:List (Int×Int),(∀c∈a,0<=c.2)->0<=Bv a:=by
  intro a d
  induction a with
  |nil=>simp[Bv]
  |cons c h g=>grind [Bv]
 have d:=Tb (M.take b) (M.drop b);rw[take_append_drop] at d
 grind
def Va(a:List (Int×Int))(b:Nat):List Cm:=Bo 0 (a.take b)++(a.drop b).map Kj
def ZgT a b:(Va a b).length=a.length:=by simp[Va,Pb];omega
def ZjT c d a e f (v:Am f e (L_ c a.length d) (a.map Kj))(y:∀B∈a,0<=B.2)(L:Bv a<=1000000000000)(H:a.length<=4194304):C_ 84 #[L_ c a.length d] f λh b=>h=.returned (.tuple #[])/\Am b e (L_ c a.length d) (Bo 0 a)/\f.grownBy b (some c):=by
 have⟨p,g⟩:=Z_ v y;refine ew_ ?_;go_loopw [2,7] (λj i h=>∃b:Nat,b<=a.length/\i=I b/\j=I (Bv (a.take b))/\K (Am h e (L_ c a.length d) (Va a b)/\f.grownBy h (some c))) (m2_ a.length)
 exact⟨0,r_,rfl,rfl,by simpa [Va,Bo] using p.out,Az _ _⟩;obtain⟨b,G,rfl,rfl,q⟩:=hrel;obtain⟨l,x⟩:=q;have m:=Y x
 by_cases i:b<a.length
 ·have z:=aN i;have w:Va a b=Bo 0 (a.take b)++Kj a[b]::(a.drop (b+1)).map Kj:=(by unfold Va;rw[z];rfl);have j:(Bo 0 (a.take b)).length=b:=(by rw[Pb];simp;omega);have k:=ZgT a b;rw[w] at l k;have⟨r,s,t,u,F⟩:=l.at (by rw[k]) j;have M:=Qo g b;have A:=Qo g (b+1);have n:Bv (a.take (b+1))=Bv (a.take b)+a[b].2:=by rw[Qi i,Tb];simp[Bv]
  have o:K (Am ((wr.setCell (J c (b*4+1)) (I (Bv (a.take b)))).setCell (J c (b*4+2)) (I (Bv (a.take b)+a[b].2))) e (L_ c a.length d) (Va a (b+1))):=(by have D:=l.store (by rw[k]) s_ (Zl j (Bv (a.take b)));have E:=D.store w_ s_ (Zm j (Bv (a.take b)+a[b].2));have h:Va a (b+1)=Bo 0 (a.take b)++⟨a[b].1,Bv (a.take b),Bv (a.take b)+a[b].2,a[b].2⟩::(a.drop (b+1)).map Kj:=(by grind [Va,Yc,Bo]);rw[h];exact E);have h:=Y n;have E:=g _ (Qf i);simp only[Kj] at r s t u;rw[n] at A;generalize Bv (a.take b)=N,a[b].2=Q,a[b].1=P at *;have D:=F_ b a.length;refine J_ ?_;exact⟨b+1,O,g_,by rw[h],o,Bd (Bd m _ _) _ _⟩
 have j:a.length=b:=O;have h:K (Am wr e (L_ c a.length d) (Bo 0 a)):=(by grind [Va]);go_wp2;go_end0;exact⟨rfl,h,m⟩
def Ng{i F G l m t}(W:l.guard=none) H x (a2:l.op=.call {callee:=.builtin .append,args:=#[H,x],argTypes:=#[29,29]}) q (X:prog.info? 98=some q)(p:q.size=4) v f g r e a b d c (n:a.length=e)(a0:r=(a++d::b).length)(a3:m.eval H=L_ f e g)(R:Am i v (L_ f r g) (a++d::b)) u w (a5:m.eval x=.slice (some u) 1 w)(a1:∀E L,[I c.v,I c.y,I c.g,I c.h][E]? =some L->i.cell? (u.add E)=some L)(Q:∀s,Am s v (L_ f r g) (a++c::b)->i.grownBy s (some f)->wpList prog F t G (m.put l.dst (L_ f (e+1) g)) s):wpList prog F t (l::G) m i:=by
 subst a0
 rcases R.2 with⟨j,_⟩|⟨a7,a6,h,j,S,A,B,U,y,a4⟩
 simp at j;simp only[slice.injEq,Option.some.injEq,Addr.mk.injEq,and_true,true_and] at j;obtain⟨rfl,rfl⟩:=j;have Z:(a++d::b).length=e+1+b.length:=(by simp[n];omega);have z:(flat a).length=e*4:=(by rw[Es,n]);refine wpList_plain W λK hK=>?_;have D:=run_append_room (P:=prog) i 29 l.type 98 q underlying29 X f e g _ A _ 1 w _ (by rw[p];rfl) a1 (by simp[oneCell']) O (by rw[p,y];simp;omega);rw[p] at D;have T:h.toList=flat (a++d::b)++h.toList.drop ((a++d::b).length*4):=by rw[<- a4,take_append_drop]
 have o:h.toList.take (e*4)++[I c.v,I c.y,I c.g,I c.h]++h.toList.drop (e*4+4)=flat (a++c::b)++h.toList.drop ((a++d::b).length*4):=by
  rw[T];generalize h.toList.drop ((a++d::b).length*4)=k;rw[Cq,Cq];have M:(flat a++flat (d::b)++k).take (e*4)=flat a:=by rw[append_assoc,<- z,take_left]
  have N:(flat a++flat (d::b)++k).drop (e*4+4)=flat b++k:=(by rw[append_assoc,<- drop_drop,<- z,drop_left];simp[flat,En]);have P:List.drop ((a++d::b).length*4) (flat a++flat (d::b)++k)=k:=(by rw[<- Cq,<- Es,drop_left]);rw[M,N,P];simp[flat,En]
 have M:(flat (a++c::b)++h.toList.drop ((a++d::b).length*4)).length=g*4:=(by have k:h.toList.length=g*4:=(by rw[Array.length_toList,y]);rw[Qe,Es,length_drop,k];rw[Z] at B ⊢;have:(a++c::b).length=e+1+b.length:=(by simp[n]<;>omega);omega);unfold Oper.wp;simp only[execOp,a2,resolve,invoke,builtin,Sem.run_bind,Sem.run_pure,Result.andThen_ok,map_toArray,map_cons,map_nil,a3,a5,D];refine hK _ _ (Q _ ?_ ?_)
 ·refine⟨by rw[Es],.inr ⟨f,g,_,s_,S,setRow_heap i f _ _ _ _ A,?_,U,?_,?_⟩⟩
  ·simpa using B
  simp only[length_cons,length_nil] at o ⊢;rw[size_toArray];simp only[Nat.zero_add,reduceAdd];rw[o];exact M;simp only[length_cons,length_nil,Nat.zero_add,reduceAdd];rw[o,show(a++c::b).length*4=(flat (a++c::b)).length by rw[Es],take_left]
 exact⟨rfl,rfl,rfl,by simp[setRow],λN _ k=>setRow_other i f N _ (λj=>k (by rw[j]))⟩
def Am.e{i f e d h g a c}(k:Am i f (L_ e h d) (a++c))(q:h=(a++c).length)(p:g=a.length):Am i f (L_ e g d) a:=by
 subst q p
 rcases k.2 with⟨b,_⟩|⟨u,t,j,b,l,o,r,m,n,s⟩
 simp at b;simp only[slice.injEq,Option.some.injEq,Addr.mk.injEq,and_true,true_and] at b;obtain⟨rfl,rfl⟩:=b;refine⟨Es a,.inr ⟨e,d,j,rfl,l,o,by simp at r;omega,m,n,?_⟩⟩;have:(flat (a++c)).take (a.length*4)=flat a:=(by rw[Cq,<- Es,take_left]);rw[<- this,<- s,take_take];congr 1;simp<;>omega
def Zkv{a}(c:∀b∈a,1<=b.2) g:Ph a g<=Bv a:=by
 induction a with
 |nil=>simp[Ph,Bv]
 | cons b i e=>
  have h:=e (λf d=>c f (by simp[d]));have d:=c b s_;simp only[Ph,Bv];split<;>omega
def lg(a:World){d}(f:a.1.size=d) b:∀c e,b.toList[c]? =some e->(a.alloc (O_ b 98)).cell? (((J d 0):Addr).add c)=some e:=by subst f;exact one_new a b _
def Im{g h i:World}{c}(a:g.grownBy h c)(b:h.grownBy i c):g.grownBy i c:=
 ⟨b.os.T a.os,b.tape.T a.tape,b.output.T a.output,aG a.size b.size,λf d e=>(b.block f (Qh d a.size) e).T (a.block f d e)⟩
def Ns{b c f}(a:E_ b c):b.grownBy c f:=⟨a.os,a.tape,a.output,a.size,λe d _=>a.block e d⟩
structure Rr(d:List (Int×Int))(b)(a)(c:List Cm):Prop where
 sum:Ef (d.take b) a
 len:a.length+c.length=b
def Fg(c:List (Int×Int))(d:Nat)(b:List (Int×Int))(a:List Cm):List Cm:=b.map Kj++(a++(c.drop d).map Kj)
def Zdm{a b d c}(e:Rr a b d c)(f:b<=a.length):(Fg a b d c).length=a.length:=by have:=e.len;simp[Fg];omega
def oh{a:List (Int×Int)}{b} c:a.take (b+1)=a.take b++[a[b]]:=Qi c
def Zdn{a b e d c g}(f:Rr a b (e++[(c,g)]) d) i (h:c=a[b].1):Rr a (b+1) (e++[(c,g+a[b].2)]) (d++[Kj a[b]]):=by refine⟨?_,by have:=f.len;simp at this ⊢;omega⟩;rw[oh i];have:=f.sum.b a[b].2;rw[show a[b]=(c,a[b].2) from Prod.ext h.s rfl];exact this
def ld{c b d q}(h:Rr c b d q) t (m:c.Pairwise λx i=>x.1<=i.1)(v:∀p y r,d=r++[(p,y)]->p≠c[b].1):Ef (c.take (b+1)) (d++[c[b]]):=by
 rw[oh t];refine h.sum.E _ λi l=>?_;have u:i.1<=c[b].1:=by have⟨j,g,e⟩:=mem_iff_getElem.1 l;rw[getElem_take] at e;rw[<- e];exact pairwise_iff_getElem.1 m j b (by simp at g;omega) _ (by simp at g;omega)
 rcases Int.lt_or_eq_of_le u with k|k
 exact k;exfalso;have⟨o,a,z⟩:=h.sum.all i l;have f:=ne_nil_of_mem a;have n:=(dropLast_concat_getLast f).s;apply v _ _ _ n;have A:(d.getLast f).1<=c[b].1:=by have⟨B,w,s⟩:=h.sum.sub _ (getLast_mem f);have⟨j,g,e⟩:=mem_iff_getElem.1 w;rw[getElem_take] at e;rw[<- s,<- e];exact pairwise_iff_getElem.1 m j b (by simp at g;omega) _ (by simp at g;omega)
 have g:o.1<=(d.getLast f).1:=by
  have e:=h.sum.e;rw[n] at a e
  rcases mem_append.1 a with a|a
  have:=(pairwise_append.1 e).2.2 o a (d.getLast f) s_;omega;simp at a;rw[a];exact Int.le_refl _
 omega
def dm{b a d c}(h:Rr b a d c) i:∃e f g,Fg b a d c=d.map Kj++e::f/\Fg b (a+1) (d++[b[a]]) g=d.map Kj++Kj b[a]::f/\(d++[b[a]]).length+g.length=a+1:=by
 have f:=h.len;have g:=aN i
 cases c with
 |nil=>exact⟨Kj _,(b.drop (a+1)).map _,[],by unfold Fg;rw[g,map_cons,nil_append],by unfold Fg;simp,by simp at f ⊢;omega⟩
 |cons e c=>exact⟨e,c++Kj _::(b.drop (a+1)).map _,c++[Kj b[a]],by unfold Fg;rw[g,map_cons];rfl,by unfold Fg;simp,by simp at f ⊢;omega⟩
def la e j (a:List (Int×Int)) n r (U:Am r n (L_ e a.length j) (a.map Kj))(a6:a.Pairwise λq i=>q.1<=i.1)(a3:∀q∈a,1<=q.2/\q.2<=1000)(d0:a.length<=2097152):C_ 83 #[L_ e a.length j] r λu b=>∃c,u=.returned (.slice (some ⟨e,0,none⟩) c.length j)/\Ef a c/\c.length<=a.length/\Am b n (L_ e c.length j) (c.map Kj)/\r.grownBy b (some e):=by
 have⟨a9,a2,d4,a8,d5⟩:=info_parts kc;have c8:=(B_ U e rfl).2;have⟨b0,a0,R⟩:=y3_ U a6 a3;clear U a6 a3;refine v_ ?_;go_wp2_with fail
 go_loopw [3,11] (λh g d=>∃(b:Nat) (c:List (Int×Int)) (f:List Cm),b<=a.length/\g=I b/\h=.slice (some (J e 0)) c.length j/\K (Rr a b c f/\Am d n (L_ e a.length j) (Fg a b c f)/\r.grownBy d (some e))) (m2_ a.length)
 exact⟨0,[],[],r_,rfl,rfl,⟨Ef.nil,rfl⟩,by simpa [Fg] using b0.out,Az _ _⟩;obtain⟨b,c,f,c9,rfl,rfl,b1⟩:=hrel;obtain⟨g,o,G⟩:=b1;have E:=Y G;have d3:=G.size;have c7:e<wr.1.size:=O
 by_cases H:b<a.length
 ·have c6:=g.len;have a7:=aN H;have a1:Fg a b c f=(c.map Kj++f)++Kj a[b]::(a.drop (b+1)).map Kj:=(by unfold Fg;rw[a7,map_cons,append_assoc]);have x:=Zdm g O;have W:=o;rw[a1] at W;have⟨b2,b3,b4,b5,c4⟩:=W.at (by rw[<- a1,x]) (show(c.map Kj++f).length=b by simp;omega);simp only[Kj] at b2 b3 b4 b5;have d1:=R _ (Qf H);have c1:=F_ b a.length;have P:=Y o;clear o W G
  rcases eq_nil_or_concat c with F|⟨d,q,F⟩
  ·subst F;have⟨D,s,t,m,A,B⟩:=dm g H;have l:Rr a _ _ _:=⟨ld g _ a0 (λw r d u=>by simp at u),B⟩;have⟨u,S,Q⟩:=y3_ l A (m ▸ P)
   have N:K (_=(_++D::s).length):=show _=_ by rw[<- m,x]
   clear l m A B;generalize a[b]=i at *;go_wp2_with fail
   go_big_quiet (fail);go_wp2_with (at_builtin;refine Ng rfl _ _ rfl a9 a2 a8 _ e j _ 0 [] s D (Kj i) rfl N rfl (Q.below (by repeat(first|with_reducible exact y_|with_reducible refine below_drewN ?_ _|with_reducible apply Below.drew|with_reducible refine Below.alloc ?_ u_ _))) _ 1 rfl (lg _ s_ _) ?_)
   intro Z z w;have T:K (Am Z n (L_ e a.length j) (Fg a (b+1) ([]++[i]) t)):=S ▸ z;have M:=Y (Im E (Im (Ns (by repeat(first|with_reducible exact y_|with_reducible refine below_drewN ?_ _|with_reducible apply Below.drew|with_reducible refine Below.alloc ?_ u_ _))) w));clear z w;refine J_ ?_;exact⟨b+1,[]++[i],t,O,g_,s_,u,T,M⟩
  rw[concat_eq_append] at F;subst F;obtain⟨h,k⟩:=q;have v:Fg a b (d++[(h,k)]) f=d.map Kj++Kj (h,k)::(f++(a.drop b).map Kj):=(by unfold Fg;simp);have y:=P.out;rw[v] at y;have⟨b6,b7,b8,b9,_⟩:=y.at (by rw[<- v,x]) (show(d.map Kj).length=d.length by simp);simp only[Kj] at b6 b7 b8 b9;have a5:k=Ph _ h:=g.sum.h (h,k) s_;have a4:∀L∈a.take b,_:=λL X=>(R L (aL X)).1;have d2:0<=k/\k<=1000*2097152:=by have l:=Yo a4 h;have m:=Zkv a4 h;have p:=Ub (ps:=a.take b) (λL X=>(R L (aL X)).2);have s:(a.take b).length<=2097152:=t_;omega
  have c2:0<=(d.length:Int):=O;have c5:d.length<b:=(by have:=g.len;simp at this;omega);have c3:d.length<(d.length:Int)+1:=O
  by_cases p:h=a[b].1
  ·have l:=Zdn g _ p;have u:=Y l
   have m:K (Fg a (b+1) (d++[(h,k+a[b].2)]) (f++[Kj a[b]])=d.map Kj++⟨h,0,0,k+a[b].2⟩::(f++(a.drop b).map Kj)):=show _=_ by unfold Fg;rw[a7];simp only[map_append,map_cons,map_nil,append_assoc,cons_append,nil_append,Kj]
   have t:=Y y
   have s:K (_=(d.map _++_).length):=show _=_ by rw[<- v,x]
   have c0:=beq_iff_eq.2 p;clear l a5 y v p;generalize a[b]=i at *;go_wp2_with fail
   go_big_quiet (fail);go_wp2_with fail
   go_region
   all_goals go_wp2
   all_goals
    go_roundw
    case rel=>
     refine⟨b+1,d++[(h,k+i.2)],f++[Kj i],O,g_,s_,u,?_,?_⟩;rw[m];exact(t.below (by repeat(first|with_reducible exact y_|with_reducible refine below_drewN ?_ _|with_reducible apply Below.drew|with_reducible refine Below.alloc ?_ u_ _))).store s s_ (Zn s_ _);refine Bd (Im E (Ns ?_)) _ _
     repeat(first|with_reducible exact y_|with_reducible refine below_drewN ?_ _|with_reducible apply Below.drew|with_reducible refine Below.alloc ?_ u_ _)
    exact z_
  have c0:=aO p;have⟨D,s,t,m,A,B⟩:=dm g H;have l:Rr a _ _ _:=⟨ld g _ a0 (λw r z u=>by have:=(append_inj_right' u rfl);simp at this;rw[<- this.1];exact p),B⟩;have⟨u,S,Q⟩:=y3_ l A (m ▸ P)
  have N:K (_=(_++D::s).length):=show _=_ by rw[<- m,x]
  clear l m A B;clear a5 y v p;generalize a[b]=i at *;go_wp2_with fail
  go_big_quiet (fail);go_wp2_with (at_builtin;refine Ng rfl _ _ rfl a9 a2 a8 _ e j _ _ _ s D (Kj i) s_ N rfl (Q.below (by repeat(first|with_reducible exact y_|with_reducible refine below_drewN ?_ _|with_reducible apply Below.drew|with_reducible refine Below.alloc ?_ u_ _))) _ 1 rfl (lg _ s_ _) ?_)
  intro Z z w;have T:K (Am Z n (L_ e a.length j) (Fg a (b+1) ((d++[(h,k)])++[i]) t)):=(by rw[S];simp only[map_append,map_cons,map_nil,append_assoc,cons_append,nil_append];exact z);have M:=Y (Im E (Im (Ns (by repeat(first|with_reducible exact y_|with_reducible refine below_drewN ?_ _|with_reducible apply Below.drew|with_reducible refine Below.alloc ?_ u_ _))) w));clear z w;refine J_ ?_;exact⟨b+1,(d++[(h,k)])++[i],t,O,g_,s_,u,T,M⟩
 have k:a.length=b:=O;have d:K (Ef a c/\Am wr n (L_ e c.length j) (c.map Kj)):=by refine⟨by have:=g.sum;rwa [aI O] at this,?_⟩;have h:Fg a b c f=c.map Kj++f:=(by unfold Fg;rw[drop_eq_nil_of_le O];simp);rw[h] at o;exact o.e (by have:=g.len;simp;omega) s_
 have h:K (c.length<=a.length):=show _<=_ by have:=g.len;omega
 clear o G k g;go_wp2;go_ret;exact⟨c,rfl,d.1,h,d.2,E⟩
def Zlv:(prog.info? 29).map (λa=>(a.zero,a.size,a.bytes))=some (some (N_),1,24):=k_
theorem Am.d{c n m b}(j:Am c n m b)(l:b.length<=4194304):∃g h,m=.slice g b.length h/\Ee c g b/\(g=none->h=0)/\b.length<=h:=by
 have i:=j
 rcases j.2 with⟨rfl,k⟩|⟨d,o,s,rfl,_,p,q,_⟩
 exact⟨none,0,by rw[k],⟨l,.inl k⟩,λ_=>rfl,O⟩;refine⟨_,o,rfl,⟨l,.inr ⟨d,0,rfl,?_⟩⟩,(λe=>by cases e),q⟩
 have t:∀a,a<b.length->D_ c d (a*4) (I (b.getD a e0).v)/\D_ c d (a*4+1) (I (b.getD a e0).y)/\D_ c d (a*4+2) (I (b.getD a e0).g)/\D_ c d (a*4+3) (I (b.getD a e0).h)/\∀r,c.frozen? (J d r)=false:=λa f=>by have e:b=b.take a++b.getD a e0::b.drop (a+1):=(by grind [drop_eq_getElem_cons,take_append_drop]);rw[e] at i;exact Am.at (n:=b.length) (by rw[<- e] at i ⊢;exact i) (by rw[<- e]) t_
 refine⟨λ_=>(Qb p).1,λa f=>?_,λa f=>?_,λa f=>?_,λa f=>?_⟩
 ·grind
 ·grind
 ·grind
 grind
def Am.m{e b b' d a}(c:Am e b' d a)(j:b<=b'):Am e b d a:=by
 refine⟨c.1,?_⟩
 rcases c.2 with l|⟨i,f,g,h,k,m⟩
 exact .inl l;exact .inr ⟨i,f,g,h,aG j k,m⟩
structure ii(e:World)(c)(f)(d)(a:List (List Cm)):Prop where
 row:e.ownsRow c 29 1 f a.length d
 j:∀b,b<a.length->Am e c (d.getD b (N_)) (a.getD b [])
def Zci(e:World)(b:Nat)(c:Value)(a:List (List Cm)):Prop:=∃d,ii e b c d a
def Am.grown{w g}{b h c m l:Nat}{f e a n}(d:Am w b f a)(i:w.ownsRow h c m e l n)(k:c≠98)(j:w.grownBy g e.ownBlock):Am g b f a:=
 World.ownsRow.kept d j (Ao i d k)
def ii.below{f g base d e a}(b:ii f base d e a)(c:E_ f g):ii g base d e a:=
 ⟨(Aa.a (S:=λ_=>False) c).row b.row (λ_ _=>id),λi h=>(b.j i h).below c⟩
def ii.put{h k e o j i d c b g}(f:ii h k (L_ e j o) d c)(s:j=c.length)(t:Am h k b g)(u:i<j):ii (h.setCell (J e i) b) k (L_ e j o) (d.set i b) (c.set i g)/\h.grownBy (h.setCell (J e i) b) (some e):=by
 subst s;obtain⟨r,n⟩:=World.ownsRow.stored f.row i b;have v:d.length=c.length:=p_ f.row.1;refine⟨⟨by simpa using r,λa p=>?_⟩,n⟩;simp only[length_set] at p
 by_cases q:a=i
 subst q;have l:(d.set a b).getD a (N_)=b:=w_;have m:(c.set a g).getD a []=g:=w_;rw[l,m];exact t.grown f.row C n;have l:(d.set i b).getD a (N_)=d.getD a (N_):=w_;have m:(c.set i g).getD a []=c.getD a []:=w_;rw[l,m];exact(f.j a p).grown f.row C n
def ii.view{e h i g c}(d:ii e h i g c)(m:0<c.length):∃b f,i=L_ b c.length f/\h<=b/\b<e.1.size/\(∀a,a<c.length->e.cell? (J b a)=some (g.getD a (N_)))/\∀a,e.frozen? (J b a)=false:=by
 have p:g.length=c.length:=p_ d.row.1
 rcases d.row.2 with⟨_,n⟩|⟨b,f,l,rfl,j,k,_⟩
 omega;refine⟨b,f,rfl,j,(Qb k).1,λa o=>?_,λa=>World.ownsRow.frozenAt d.row a⟩;rw[World.ownsRow.cellAt d.row a O]
 grind
def Pv(b:List (List Cm))(a:Nat):List (List Cm):=replicate a []++b.drop a
def kv{a b}(c:b<=a.length):(Pv a b).length=a.length:=by simp[Pv];omega
def ZlD{b}{a}:(Pv b a).getD a []=b.getD a []:=by simp[Pv,getD,getElem?_append_right]
def ZaN{b a}(d:a<b.length) c:(Pv b a).set a c=replicate a []++c::b.drop (a+1):=by unfold Pv;rw[aN d,set_append_right _ _ s_,length_replicate,Nat.sub_self,set_cons_zero]
def Zgm{b a}(c:a<b.length):(Pv b a).set a []=Pv b (a+1):=by rw[ZaN c,Pv,replicate_succ',append_assoc];rfl
def Zd6{size}{a:List (List Cm)}{l b}(c:b<a.length)(d:(a.getD b []).length=0):Au size (a.drop b) l=l::a.drop (b+1):=by
 rw[aN c]
 grind [Au]
def ZbV{size}{a:List (List Cm)}{l b}(c:b<a.length)(d:(a.getD b []).length≠0):Au size (a.drop b) l=[]::Au size (a.drop (b+1)) (Eo (Bf (a.getD b []) l) size):=by
 rw[aN c]
 grind [Au]
def eh{a:List (List Cm)}{b}(c:b<a.length):Av (a.drop b)=Ae (a.getD b [])+Av (a.drop (b+1)):=by rw[aN c];have:a.getD b []=a[b]:=(by simp[getD,c]);rw[this];rfl
def To{a:List (List Cm)}{b}(c:b<a.length):a.getD b []∈a:=w_
def Zd5 e a5 c1 b g d p (d0:Zci p e a5 b)(l:Am p e c1 g)(b9:Gk b)(s:Be g)(a2:g.length<=32)(d6:2<=d)(f8:d<=32)(y:Av b+Ae g<=1000000000000)(d3:b.length<=1000)(f6:e<=p.1.size):C_ 318 #[a5,c1,I d] p λR c=>∃a,R=.returned a/\Zci c e a (Au d b g)/\Below e p c:=by
 obtain⟨f0,T⟩:=d0;obtain⟨g0,_⟩:=info_parts Zlv
 have d9:∃c6 c8,a5=.slice c6 b.length c8:=by
  rcases T.row.2 with⟨rfl,c⟩|⟨k,c9,a,rfl,_⟩
  ·grind
  grind
 obtain⟨c2,P,rfl⟩:=d9;have a8:=Y T;have w:=x4_ l s a2 y;have Q:=Y b9;obtain⟨f,a3⟩:=M_ b.length;have q:=Y a3;rw[<- a3] at d3 ⊢;clear T l b9 s a2 y a3;refine v_ ?_;go_wp2_with fail
 go_loopw [11,1] (λj k h=>∃(a:Nat) (c:List Cm) (o:List Value),j=I a/\a<=f/\K (ii h e (V c2 f P) o (Pv b a)/\Am h e k c/\Be c/\c.length<=32/\Av (b.drop a)+Ae c<=1000000000000/\Au d b g=replicate a []++Au d (b.drop a) c)/\Below e p h) (m4_ f)
 exact⟨0,g,f0,rfl,r_,⟨by have:=a8.out;rw[<- q] at this;exact this,w.1,w.2.1,w.2.2.1,w.2.2.2,rfl⟩,y_⟩;clear a8 w;obtain⟨a,c,o,rfl,b5,c5,H⟩:=hrel;obtain⟨n,l,s,a2,y,u⟩:=c5
 skip
 have f9:=H.size
 by_cases a0:a<f
 ·have h:a<b.length:=(by rw[<- q];exact a0);have a1:=kv (show a<=b.length by omega);obtain⟨k,c9,d8,b4,f7,X,Z⟩:=n.view O;injection d8 with hv1 hv2 hv3;subst hv1 hv3;clear hv2;have L:=X a O;have F:=n.j a O;rw[ZlD] at F;have B:=Q.j _ (To h);have e0:=Q.len _ (To h);have e7:=eh h;obtain⟨c7,a9,a4,S,d4,_⟩:=F.d O;rw[a4] at L;have d2:=Z a;have f3:=F_ a f;have A:=Y n;obtain⟨m,j,M,x,t,_⟩:=l.d O;subst M
  by_cases E:(b.getD a []).length=0
  ·have r:=Zd6 (size:=d) (l:=c) h E;have v:K (Zci (wr.setCell (J k a) (V m c.length j)) e (L_ k f P) (Au d b g)/\Below e p (wr.setCell (J k a) (V m c.length j))):=(by obtain⟨N,c0⟩:=n.put (i:=a) (a1 ▸ q) l a0;refine⟨⟨o.set a (V m c.length j),?_⟩,H.setCell b4 _⟩;rw[u,r,<- ZaN h];exact N);rw[E] at L;clear n l X F S x a4 u Z r a1 t;go_wp2;go_ret;exact⟨_,rfl,v.1,v.2⟩
  have r:=ZbV (size:=d) (l:=c) h E;have f5:(((b.getD a []).length:Int)==0)=_:=aO O;have e4:=(Ec B).1;have e5:=(Ec s).1;have e6:=Fv (Ls:=b.drop (a+1)) (λz v=>Q.j z (mem_of_mem_drop v));have D:=Hb B s O;have b0:=D.sub (Hz D d);have e1:=Ja (Bf (b.getD a []) c) d6;have e2:=Me (b.getD a []) c;have e8:Ae (Eo (Bf (b.getD a []) c) d)=Ae (b.getD a [])+Ae c:=(by rw[Gg,Fa]);have a7:=Y (ZaF _ _ _ _ a9 j _ S x B s)
  have z:K (Be (Bf (b.getD a []) c)/\(Bf (b.getD a []) c).length<=64/\Be (Eo (Bf (b.getD a []) c) d)/\(Eo (Bf (b.getD a []) c) d).length<=32/\Av (b.drop (a+1))+Ae (Eo (Bf (b.getD a []) c) d)<=1000000000000/\Au d b g=replicate (a+1) []++Au d (b.drop (a+1)) (Eo (Bf (b.getD a []) c) d)):=(by refine⟨D,O,b0,O,O,?_⟩;rw[u,r,replicate_succ',append_assoc];rfl);have c4:=Y h;clear n l X F S x a4 u Z r a1 D b0 e1 e2 e8 e4 e5 e6 B e0 e7 y s d4 t E h;generalize (b.getD a []).length=e3 at *;go_wp2_with fail
  apply a7.m;rintro R f1 ⟨g2,rfl,b8,W⟩;have d7:=W.size;obtain⟨f2,f4,rfl,b2,b6,_⟩:=b8.d (p_ z.2.1);have a6:=Y (ZeG _ _ _ d _ b2 z.1 b6);clear b8 b2 b6 a7;generalize (Bf (b.getD a []) c).length=g1 at *;go_wp2_with fail
  apply a6.m;rintro R v ⟨e9,rfl,b7,b3⟩;have G:=W.T (b3.m d7)
  have d1:∃c3,K (ii (v.setCell (J k a) (N_)) e (L_ k f P) c3 (Pv b (a+1))/\Am (v.setCell (J k a) (N_)) e e9 (Eo (Bf (b.getD a []) c) d)/\Be (Eo (Bf (b.getD a []) c) d)/\(Eo (Bf (b.getD a []) c) d).length<=32/\Av (b.drop (a+1))+Ae (Eo (Bf (b.getD a []) c) d)<=1000000000000/\Au d b g=replicate (a+1) []++Au d (b.drop (a+1)) (Eo (Bf (b.getD a []) c) d))/\Below e p (v.setCell (J k a) (N_))/\D_ v k a (V c7 e3 a9)/\v.frozen? (J k a)=false:=by
   have U:=A.below G;have h:=c4.out;have t:f=(Pv b a).length:=(kv (Nat.le_of_lt h)) ▸ q;obtain⟨N,c0⟩:=U.put (i:=a) t (Am.nil v e) a0;rw[Zgm h] at N;have d5:=(b7.m (show e<=f1.1.size by omega)).grown U.row C c0;refine⟨_,⟨N,d5,z.2.2⟩,?_,?_,?_⟩;exact(H.T (G.m O)).setCell b4 _;exact W_ G L;have b1:=U.row;rw[<- t] at b1;exact World.ownsRow.frozenAt b1 a
  obtain⟨c3,N,U,b1,c0⟩:=d1;clear b7 b3 G W A a6 z L d2;go_wp2;go_roundw
  grind
  exact z_
 have X:a=f:=O;have r:Au d b g=replicate a []++[c]:=(by rw[u,drop_eq_nil_of_le (p_ q.out)];rfl);have t:(Pv b a).length=f:=(by rw[kv (by have:=q.out;omega)];exact q.s);have E:Pv b a=replicate a []:=(by unfold Pv;rw[drop_eq_nil_of_le (p_ q.out),append_nil]);have Z:¬a<(f:Int):=O;obtain⟨m,j,M,x,S,_⟩:=l.d O;subst M;have A:=Y n;have h:K (wr.ownsRow e 29 1 (V c2 f P) f o):=gh_ n.row;have N:=Y l;have L:K (Au d b g=Pv b a++[c]):=E ▸ r;clear n l r E u s y x S;go_wp2_with (at_builtin;refine ap_ [V m c.length j] (h.alloc _) ?_)
 intro U F G
 have v:K (Zci F e U (Au d b g)/\Below e p F):=by
  obtain⟨a1,B,a4,_⟩:=G;have M:o.length=f:=p_ h.1;refine⟨⟨o++[V m c.length j],?_⟩,?_⟩
  ·rw[L];refine⟨w_,λi D=>?_⟩;rw[Qe,t] at D;simp at D
   by_cases W:i<f
   have k:(o++[slice m c.length j]).getD i (N_)=o.getD i (N_):=w_;have z:(Pv b a++[c]).getD i []=(Pv b a).getD i []:=w_;rw[k,z];exact((A.j i O).alloc _).grown (h.alloc _) C B;have R:i=f:=O;subst R;have k:(o++[slice m c.length j]).getD i (N_)=.slice m c.length j:=w_;have z:(Pv b a++[c]).getD i []=c:=w_;rw[k,z];exact(N.alloc _).grown (h.alloc _) C B
  exact H.T ((y_.alloc O _).grown B t_ (λa b5=>(h.lt a b5).1))
 skip
 go_wp2;go_ret;exact⟨_,rfl,v.1,v.2⟩
def ZhT:Prop:=∀f i b l c wc g j a,Cn a f b g->Cn a i c j->b<=2097152->c<=2097152->
  C_ 45 #[V f b l,V i c wc] a λk h=>∃e d,k=.returned e/\Ef (Ap g j) d/\Am h a.1.size e (Bo 0 d)/\E_ a h
def ic{vs ws}(f:vs.length<=2097152):Be (Kh vs ws)/\(Kh vs ws).length<=vs.length/\Ae (Kh vs ws)<=1000*vs.length:=by
 have c:=Ta (Ap vs ws);have d:Be (Kh _ _):=c.j f;have j:=Kz vs ws;refine⟨d,?_,?_⟩
 ·have:=d.len (U:=(Ap vs ws).map λa=>a.1) (λe h=>by
   obtain⟨a,b,g,_⟩:=(Tx (ec (Ap vs ws)) 0).1 e h;obtain⟨l,k,i⟩:=c.sub a b
   grind)
  grind
 have g:=(gf.a c).e;have e:=Ub (ps:=Ap vs ws) (λa b=>(Jg b).1.2)
 grind [Kh]
def Cn.part{d a c b fr m e}(f:Cn d (some (J a c)) b e)(l:fr+m<=b):Cn d (some (J a (c+fr))) m ((e.drop fr).take m):=by
 obtain⟨j,g,k⟩:=f;refine⟨t_,λi h=>g i (mem_of_mem_drop (aL h)),?_⟩
 grind
def Tq{i j a b h d k}(l:Cn i (some (J a b)) h k)(f:Below d i j)(r:a<d):Cn j (some (J a b)) h k:=by
 obtain⟨m,n,c⟩:=l;refine⟨m,n,?_⟩
 rcases c with c|⟨t,u,e,s,o⟩
 exact .inl c;injection e with e;injection e with e1 e2;subst e1 e2;exact .inr ⟨a,b,rfl,Qh s f.size,λg q=>(f.cell (p:=(J a (b+g))) r).T (o g q)⟩
def wg(a3:ZhT) b6 b8 (d t u a:Nat) e f h (s:Cn h b6 d e)(L:Cn h b8 d f)(f6:d<=1000)(e9:d<=t)(f0:d<=u)(f8:2<=a)(f9:a<=32):C_ 274 #[V b6 d t,V b8 d u,I a] h λi k=>∃j,i=.returned j/\Am k h.1.size j (Ds a e f)/\E_ h k:=by
 have T:=Y s;have U:=Y L;have S:=Y a3;have v:=T_ s.1 L.1;clear s L a3;refine v_ ?_;go_wp2_with fail
 go_loopw [7,8] (λi g c=>∃(fr p:Nat) (b:List (List Cm)),g=I fr/\fr<=d+a/\K (Zci c h.1.size i b/\Gk b/\Av b<=1000*(fr:Int)/\b.length<=fr/\d-fr<=p/\Dr a p b (e.drop fr) (f.drop fr)=Dr a d [] e f)/\E_ h c) (m2_ (d+a))
 exact⟨0,d,[],rfl,r_,⟨⟨[],rn_,λg0 c6=>by simp at c6⟩,Gk.nil,by simp[Av],s_,O,rfl⟩,y_⟩;obtain⟨fr,p,b,rfl,f1,l,y⟩:=hrel;have b4:=y.size
 by_cases f5:fr<d
 ·rcases T.out with⟨_,_,a1|⟨Z,b2,rfl,a4,_⟩⟩;omega;rcases U.out with⟨_,_,a1|⟨a0,b3,rfl,a6,_⟩⟩;omega;obtain⟨g,R⟩:=M_ (min (fr+a) d);have b5:fr<(d:Int):=O;have N:fr<=(g:Int):=O;have P:g<=(t:Int):=O;have Q:g<=(u:Int):=O;have c0:¬t=fr:=O;have c1:¬u=fr:=O;have n:=Y R;clear R;have b9:g-fr<=a:=p_ n.out;go_upto_region 5 with fail;go_cut [9] (λj c=>j=I g/\c=wr)
  case first=>
   by_cases j:(fr:Int)+(a:Int)<=(d:Int)
   ·have c:g=fr+(a:Int):=p_ n.out;have i:=Y c;clear c N P Q;go_wp2;go_meet
    exact⟨by rw[i.out],rfl⟩
   have c:g=(d:Int):=p_ n.out;have i:=Y c;clear c N P Q;go_wp2;go_meet
   exact⟨by rw[i.out],rfl⟩
  obtain⟨rfl,W⟩:=hcut;obtain rfl:=W.s;clear W
  have E:K (∀c:World,E_ h c->C_ 45 #[V (some (J Z (b2+fr))) (g-fr) (t-fr),V (some (J a0 (b3+fr))) (g-fr) (u-fr)] c λi k=>∃j,i=.returned j/\Am k c.1.size j (Kh ((e.drop fr).take a) ((f.drop fr).take a))/\E_ c k):=by
   intro c q;have F:=(Tq T q a4);have G:=(Tq U q a6);have w:=F.part (fr:=fr) (m:=g-fr) (p_ n.out);have z:=G.part (fr:=fr) (m:=g-fr) (p_ n.out)
   have r:∀o:List Int,o.length=d->(o.drop fr).take (g-fr)=(o.drop fr).take a:=λo M=>by
    by_cases j:fr+a<=d
    rw[show g-fr=a by have:=n.out;omega];rw[aI (by simp;have:=n.out;omega),aI t_]
   rw[r _ v.1] at w;rw[r _ v.2] at z;apply (S _ _ _ _ _ _ _ _ c w z O O).m;rintro i k ⟨j,H,rfl,A,D,B⟩;refine⟨j,rfl,?_,B⟩;unfold Kh;rw[ZbS A];exact D
  obtain⟨G,z,b0,a9,a8,j⟩:=l.out;have A:=ic (vs:=(e.drop fr).take a) (ws:=(f.drop fr).take a) w_;have a7:((e.drop fr).take a).length<=a:=t_;have B:=Uc (size:=(a:Int)) O O z A.1 O O;obtain⟨o,M⟩:∃o,p=o+1:=⟨p-1,O⟩;have H:Dr a o (Au a b (Kh ((e.drop fr).take a) ((f.drop fr).take a))) (e.drop (fr+a)) (f.drop (fr+a))=Dr a d [] e f:=by rw[<- j,M];simp only[Dr];rw[aC w_,drop_drop,drop_drop]
  have X:K (Gk (Au a b (Kh ((e.drop fr).take a) ((f.drop fr).take a)))/\Av (Au a b (Kh ((e.drop fr).take a) ((f.drop fr).take a)))<=1000*(fr+a:Nat)/\(Au a b (Kh ((e.drop fr).take a) ((f.drop fr).take a))).length<=fr+a/\d-(fr+a)<=o/\Dr a o (Au a b (Kh ((e.drop fr).take a) ((f.drop fr).take a))) (e.drop (fr+a)) (f.drop (fr+a))=Dr a d [] e f):=by refine⟨B.1,?_,?_,O,H⟩;rw[B.2];omega;have:=nv (a:Int) b (Kh ((e.drop fr).take a) ((f.drop fr).take a));omega
  have D:K (∀c w,E_ wr c->Am c h.1.size w (Kh ((e.drop fr).take a) ((f.drop fr).take a))->C_ 318 #[u7,w,I a] c λi k=>∃q,i=.returned q/\Zci k h.1.size q (Au a b (Kh ((e.drop fr).take a) ((f.drop fr).take a)))/\Below h.1.size c k):=(by intro c w q i;obtain⟨b7,r⟩:=G;exact Zd5 _ u7 w b _ _ c ⟨b7,r.below q⟩ i z A.1 O O O O O (p_ q.size));clear G z b0 a9 a8 j A a7 B H l;generalize Kh ((e.drop fr).take a) ((f.drop fr).take a)=c at *;go_wp2_with fail
  go_region_held3 (λ_=>True) (trivial) (first|(go_at_call 45;apply (E.out _ y.drew).m;rintro i e2 ⟨k,rfl,b1,x⟩)|(go_at_call 318;apply (D _ _ (y_.drew.T x) (b1.m (by have:=x.size;simp at this ⊢;omega))).m;rintro i e3 ⟨k,rfl,a2,a5⟩))
  have k:=Y a2;have F:=(y.drew.T (x.m b4)).T a5;clear a2 a5 x b1 E D M;refine J_ ?_;exact⟨fr+a,o,_,g_,O,⟨k,X⟩,F⟩
 have f7:¬fr<(d:Int):=O
 have n:K (Zci wr h.1.size u7 b/\Gk b/\Av b<=2000000/\b.length<=2000/\Ds a e f=Fq a [] b):=by
  obtain⟨i,c,o,q,j,g⟩:=l;refine⟨i,c,O,O,?_⟩;unfold Ds;rw[v.1,<- g]
  cases p with
  |zero=>rfl
  | succ k=>
   simp only[Dr];rw[aD (by simp;have:=v.out;omega)]
 obtain⟨b7,r⟩:=n.1
 have d4:∃c0 c1,u7=.slice c0 b.length c1:=by
  rcases r.row.2 with⟨rfl,i⟩|⟨c5,c3,c,rfl,_⟩
  ·grind
  grind
 obtain⟨g1,g3,rfl⟩:=d4;have b9:=Y r;have q:=x3_ n.2.1 n.2.2.1 n.2.2.2.2;have c8:=n.2.2.2.1;obtain⟨m,H⟩:=M_ b.length;have R:=Y H;rw[<- H] at c8 ⊢;clear r H n S;obtain⟨N,d5⟩:∃N,N=wr:=⟨wr,rfl⟩;subst d5;go_wp2_with fail
 go_loopw [40,10] (λj M i=>∃(c:Nat) (g:List Cm),j=I c/\c<=m/\K (Am i h.1.size M g/\Be g/\g.length<=32/\Ae g+Av (b.drop c)<=2000000/\Fq a g (b.drop c)=Fq a [] b)/\E_ N i) (m4_ m)
 exact⟨0,[],rfl,r_,⟨Am.nil _ _,Be.nil,s_,by have:=q.2.1;simpa [Ae] using this,rfl⟩,y_⟩;obtain⟨c,g,rfl,f4,l,z⟩:=hrel;have d2:=z.size
 by_cases c7:c<m
 ·have o:c<b.length:=(by rw[<- R];exact c7);obtain⟨a4,D,g2,M,j⟩:=l.out;have E:=b9.below z;obtain⟨c5,c3,s,f2,f3,a7,_⟩:=E.view O;injection s with hv1 hv2 hv3;subst hv1 hv3;clear hv2;have a8:=a7 c o;have X:=E.j c o;have B:=q.1.j _ (To o);have d6:=q.1.len _ (To o);have d9:=eh o;have e0:=Fv (Ls:=b.drop (c+1)) (λk i=>q.1.j k (mem_of_mem_drop i));obtain⟨e6,c4,b5,a1,d0,_⟩:=X.d O;rw[b5] at a8;obtain⟨e4,c2,d3,Z,c9,_⟩:=a4.d O;subst d3;have a9:b.drop c=b.getD c []::b.drop (c+1):=by rw[aN o];grind
  rw[a9] at j;simp only[Fq] at j;have w:=Hb D B O;have W:=w.sub (Hz w a);have d7:=Ja (Bf g (b.getD c [])) (size:=(a:Int)) O;have d8:=Me g (b.getD c []);have e1:Ae (Eo (Bf g (b.getD c [])) a)=Ae g+Ae (b.getD c []):=(by rw[Gg,Fa]);have Q:=Y (ZaF _ _ _ _ c2 c4 _ Z a1 D B);have A:K (Be (Bf g (b.getD c []))/\(Bf g (b.getD c [])).length<=64/\Be (Eo (Bf g (b.getD c [])) a)/\(Eo (Bf g (b.getD c [])) a).length<=32/\Ae (Eo (Bf g (b.getD c [])) a)+Av (b.drop (c+1))<=2000000/\_):=⟨w,O,W,O,O,j⟩;have e7:=F_ c m;clear a4 D M j E a7 X B d6 d9 e0 b5 a1 d0 Z c9 a9 w W d7 d8 e1 l;generalize (b.getD c []).length=g5 at *;go_wp2_with fail
  apply Q.m;rintro i e2 ⟨g7,rfl,b3,G⟩;have d1:=G.size;obtain⟨e5,e8,rfl,a0,b0,_⟩:=b3.d (p_ A.2.1);have P:=Y (ZeG _ _ _ a _ a0 A.1 b0);clear b3 a0 b0 Q;generalize (Bf g (b.getD c [])).length=g4 at *;go_wp2_with fail
  apply P.m;rintro i e3 ⟨g6,rfl,b2,a6⟩;have F:=z.T ((G.T (a6.m d1)).m d2);have k:K (Am _ h.1.size _ _):=b2.m O;clear b2 a6 G P a8;refine J_ ?_;exact⟨c+1,_,g_,O,⟨k,A.2.2⟩,F⟩
 have o:¬c<(m:Int):=O;have k:K (Am wr h.1.size u10 (Ds a e f)/\E_ h wr):=by obtain⟨i,_,_,_,j⟩:=l;rw[drop_eq_nil_of_le (p_ R.out)] at j;simp only[Fq] at j;rw[q.2.2,<- j];exact⟨i,y.T (z.m b4)⟩
 skip
 go_wp2;go_ret;exact⟨_,rfl,k.1,k.2⟩
end Go.Proofs.YtfcgnpchbcmdeaaGreat
