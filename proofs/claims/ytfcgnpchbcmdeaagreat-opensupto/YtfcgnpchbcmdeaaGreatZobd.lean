import Derived.Test.YtfcgnpchbcmdeaaGreatZobc
namespace Go.Proofs.YtfcgnpchbcmdeaaGreat
set_option linter.all false
set_option maxRecDepth 100000
set_option maxHeartbeats 16000000
open Go.RowKit List Nat World Go.Proofs.Tryz Value IntKind Lib Region
def Zns:ZhP Px:=by
 intro a3 a7 M a5 Q a0 a1 f h e k d c u q t w v o p H L r s;have l:=Y (λb a=>ku _ _ M _ Q f _ e _ b ((Aa.a (S:=λ_=>False) a).row c (λ_ _=>id)) (u.below a) q t w v r s);have D:(d.alloc (O_ #[.bool false,N_,N_] 170)).cell? _=_:=W_ q_ o;have E:(d.alloc (O_ #[.bool false,N_,N_] 170)).cell? _=_:=W_ q_ p;have n:K ((Px e k f h).a=true/\(Px e k f h).g=[]):=⟨rfl,rfl⟩;clear c u q t w v r s;go_enter func210,ntmps210;go_wp2_with fail
 apply (l _ q_).m;rintro U P ⟨a2,rfl,⟨a4,a6,c,g,i⟩,j⟩;rw[n.1] at c;rw[n.2] at g;obtain⟨y,A,rfl⟩:=g.shape;have⟨z,B,F⟩:=i.b;subst F;subst c;have a:P.1[d.1.size]? =some (O_ _ 170 _):=(j.block _ s_).T hn_;have R:=n_ 0 a;have S:=n_ 1 a;have T:=n_ 2 a;have W:=R_ 0 _ _ a;have X:=R_ 1 _ _ a;have Z:=R_ 2 _ _ a;have x:=Y (q_.T (j.m s_));have m:K (Bi _ d.1.size _ _/\Ad _ d.1.size _ _):=⟨i.c s_,g.m s_⟩;have b:=Y a;clear j i g a l o p H L D E;generalize G:(Px e k f h).c.length=N at *;clear G;go_wp2;apply bodyPost_ret (v:=.agg #[.bool true,V y 0 A,V z N B]) (by simp[results,results210,go_sem, *]) rfl
 refine⟨_,rfl,⟨V _ 0 _,V _ _ _,rfl,?_,?_⟩,((x.setCell x_ _).setCell x_ _).setCell x_ _⟩;exact Al (Al (Al m.2 b C) (by exact ht_ _ _ _ _ b) C) (by exact ht_ _ _ _ _ (ht_ _ _ _ _ b)) C;exact Al (Al (Al m.1 b C) (by exact ht_ _ _ _ _ b) C) (by exact ht_ _ _ _ _ (ht_ _ _ _ _ b)) C
def Zjo:ZhO Px:=by
 refine⟨Zns,λa d c b h i j=>?_⟩
 have e:(Px a d c b).c.length<=16:=by
  show((((Mt (a.zip d) c).mergeSort λf g=>decide (leW f g)).take b.toNat).map WS.a).length<=16
  grind
 refine⟨⟨Pairwise.nil,by simp[Px],O⟩,rfl,?_⟩;show Kr true 0 (Px a d c b).c.length<=16;simp only[Kr,if_true];exact e
def Sa{c f d ct b e n g}(m:∀a,a<c+1->f a=false->0<=d a/\d a<=3)(i:2<=b)(j:b<=16)(k:2<=e)(l:e<=32)(h:Bt (c+1) f d RS.start n 0=.ok g):ua Px c f ct b e g:=Zaa (λ_=>Zjo) m i j k l h
def eg{S:Int->Prop}{e}(l:2<=e)(r:e<=32):∀{f a},Gk f->Be a->a.length<=32->Av f+Ae a<=1000000000000->(∀c∈f,∀b∈c,S b.v)->(∀b∈a,S b.v)->∀c∈Au e f a,∀b∈c,S b.v
 |[],a,_,_,_,_,_,m=>by simpa [Au] using m
 | g::t,a,h,n,v,s,q,m=>by
  have p:=h.j g s_;have k:Gk t:=⟨λi d=>h.j i (by simp[d]),λi d=>h.len i (by simp[d])⟩;have y:=Fv k.j;simp only[Av] at s;simp only[Au];split
  ·grind
  have j:=Hb p n O;have o:=j.sub (Hz j e);have z:Ae (Eo (Bf g a) e)=Ae g+Ae a:=(by rw[Gg,Fa]);have x:=Ja (Bf g a) l;have w:=eg (S:=S) l r k o O O (λc d=>q c (by simp[d])) (λb u=>by grind [ki,Hz])
  grind
def Zhh{e:Int->Prop}{a d}(n:∀c∈a,e c/\ -1000000000<=c/\c<=1000000000):∀b∈Kh a d,e b.v:=λb h=>by
 have j:=Ta (Ap a d);have⟨l,i,o,_⟩:=(Tx (ec (Ap a d)) 0).1 b h;have⟨q,f,m⟩:=j.sub l i;unfold Ap at f;obtain⟨g,k,rfl⟩:=mem_map.1 f;have p:=(of_mem_zip (a:=g.1) (b:=g.2) k).1
 grind [Gj]
def Wp{h:Int->Prop}{b}(o:2<=b)(p:b<=32):∀j d a f,Gk d->Av d+1000*a.length<=1000000000000->a.length<=2097152->(∀g∈d,∀i∈g,h i.v)->(∀c∈a,h c/\ -1000000000<=c/\c<=1000000000)->∀g∈Dr b j d a f,∀i∈g,h i.v
 |0,d,a,f,_,_,_,e,_=>by simp only[Dr];exact e
 |j+1,d,a,f,l,u,r,e,n=>by simp only[Dr];split;exact e;have m:=ic (vs:=a.take b) (ws:=f.take b) t_;have s:(a.take b).length+(a.drop b).length=a.length:=t_;have t:(a.take b).length<=b:=t_;have⟨q,v⟩:=Uc (size:=(b:Int)) O O l m.1 O O;refine Wp o p j _ _ _ q O O ?_ (λc k=>n c (mem_of_mem_drop k));exact eg O O l m.1 O O e (Zhh (λc k=>n c (aL k)))
def Xd{h:Int->Prop}{f}(m:2<=f)(s:f<=32):∀d a,Gk d->Be a->a.length<=32->Ae a+Av d<=1000000000000->(∀g∈d,∀b∈g,h b.v)->(∀b∈a,h b.v)->∀b∈Fq f a d,h b.v
 |[],a,_,_,_,_,_,n=>n
 |e::o,a,i,p,u,t,r,n=>by have q:=i.j e s_;have l:Gk o:=⟨λj c=>i.j j (by simp[c]),λj c=>i.len j (by simp[c])⟩;have w:=Fv l.j;simp only[Av] at t;have k:=Hb p q O;have v:=Ja (Bf a e) m;have x:Ae (Eo (Bf a e) f)=Ae a+Ae e:=(by rw[Gg,Fa]);simp only[Fq];exact Xd m s o _ l (k.sub (Hz k _)) O O (λg c=>r g (by simp[c])) (λb g=>by grind [ki,Hz])
def qe{S:Int->Prop}{b}(e:2<=b)(f:b<=32) a g (d:a.length<=2097152)(k:∀c∈a,S c/\ -1000000000<=c/\c<=1000000000):∀h∈Ds b a g,S h.v:=by have⟨i,j⟩:=Vl e f a.length [] a g Gk.nil (by simp[Av];omega) d;exact Xd O O _ _ i Be.nil s_ (by simp[Ae,Av] at j ⊢;omega) (Wp e f _ _ _ _ Gk.nil (by simp[Av];omega) d s_ k) s_
theorem Zz:∀(c:List VS) (d:List Int) (b:Int×Int),b∈Ba c d->∃e∈c,e.a=false/\e.num=b.1
 |[],_,b,a=>by simp[Ba] at a
 |_::_,[],b,a=>by simp[Ba] at a
 | e ::c,j::d,b,a=>by
  simp only[Ba] at a;split at a
  ·have⟨h,g,f⟩:=Zz c d b a
   grind
  rename_i i
  rcases mem_cons.1 a with rfl|a
  ·grind
  have⟨h,g,f⟩:=Zz c d b a
  grind
theorem dl{b d g c}(o:b.length<=200)(l:2<=c)(m:c<=32)(p:∀a∈b,-1000000000<=a.num/\a.num<=1000000000):∀f∈Ey b d g c,∃a∈b,a.a=false/\a.num=f:=λf e=>by
 have k:((Ba b d).map Prod.fst).length<=2097152:=(by have:=Kb b d;simp;omega);unfold Ey at e;have i:=(cz _ _).subset e;obtain⟨h,j,rfl⟩:=mem_map.1 i;refine qe (S:=λn=>∃a∈b,a.a=false/\a.num=n) l m _ _ k (λa n=>?_) h (aL j)
 grind [Zz]
theorem Zjp{d m}{i h}:∀g∈(Px d m i h).c,∃f∈d,f.a=false/\f.g=g:=λg c=>by
 unfold Px at c;simp only at c;obtain⟨n,l,rfl⟩:=mem_map.1 c;have j:=(mem_mergeSort).1 (aL l);have e:=((Vu _ _ _).1 j).1;unfold Uo at e;have⟨a,k,b⟩:=any_eq_true.1 e;unfold Sk at b;simp only[Bool.and_eq_true,Bool.not_eq_true',decide_eq_true_eq] at b;refine⟨a.1,(of_mem_zip (a:=a.1) (b:=a.2) k).1,b.1,?_⟩
 cases q:a.1.g with
 | mk o=>
  cases r:n.a with
  | mk p=>
   grind [Array.toList_inj]
def Zjh{e f b c g a h}(i:a.length<=200)(m:2<=c)(n:c<=32)(j:2<=b)(k:b<=16)(l:∀d∈a,(-1000000000<=d.num/\d.num<=1000000000)/\d.g.size<=8):Wf ⟨Ck Px e f b c a h,g⟩:=by
 cases e
 ·left
  grind [Ck,sr,dl]
 right
 grind [Ck,Px,Zjp]
def Vn(a:List VS)(c:List Int)(b:Int):List WS:=(Mt (a.zip c) b).mergeSort λd e=>decide (leW d e)
def Zpi a d c b:(Px a d c b).c=((Vn a d c).take b.toNat).map WS.a:=rfl
def Zam b d c:(Vn b d c).Pairwise leW:=by have a:=pairwise_mergeSort (le:=λe f=>decide (leW e f)) (λe f i g h=>aF (sq (of_decide_eq_true g) (of_decide_eq_true h))) (λe f=>w_) (Mt (b.zip d) c);exact a.imp (λa=>of_decide_eq_true a)
def Zjs a b c x:x∈Vn a b c↔Uo (a.zip b) x.a.data.toList=true/\x.h=Lb (a.zip b) x.a.data.toList/\c<=x.h:=by unfold Vn;rw[mem_mergeSort];exact Vu _ _ x
def ZcQ a c b:(Vn a c b).Nodup:=((mergeSort_perm _ _).nodup_iff).2 (Xi _ _)
theorem mm{b c:ByteArray}:b.data.toList=c.data.toList↔b=c:=by
 constructor
 ·intro a
  cases b;cases c
  simp at a;rw[a]
 intro a;rw[a]
theorem Zja a b:Sk a b.data.toList=(!a.a&&decide (a.g=b)):=by grind [Sk,mm]
def Zkz:∀(a:List (Int×List VS)) (b:Nat) (c:ByteArray),Te a b c=Lb ((Bn a b).zip (Jj a)) c.data.toList
  |[],_,_=>rfl
  | e::a,b,c=>by
    have d:=Zkz a b c
    grind [Lb,Bn,Jj,Zja,Te]
abbrev jh(b:List ByteArray)(c:ByteArray->Int)(d:Int)(a:VS):Prop:=a.a=false/\containsS b a.g=false/\d<=c a.g
abbrev Zeu(c:ByteArray->Int)(a:ByteArray×Int)(b:VS):Prop:=a.2<c b.g∨c b.g=a.2/\Js b.g a.1
def pkS(d:List ByteArray)(b:ByteArray->Int)(e:Int)(c:ByteArray×Int)(a:VS):ByteArray×Int:=if jh d b e a/\Zeu b c a then(a.g,b a.g) else c
def yv(a:List ByteArray)(b:ByteArray->Int)(c:Int)(d:List VS):ByteArray×Int:=d.foldl (pkS a b c) (⟨#[]⟩,0)
def Zbe a b c e d:yv a b c (e++[d])=pkS a b c (yv a b c e) d:=by
 unfold yv
 grind
def ZjO d b {e}(i:1<=e):∀g c,c.length=g->(yv d b e c=(⟨#[]⟩,0)/\∀a∈c,¬jh d b e a)∨((∃a∈c,jh d b e a/\yv d b e c=(a.g,b a.g))/\∀a∈c,jh d b e a->¬Zeu b (yv d b e c) a)
 |0,c,f=>by obtain rfl:=eq_nil_of_length_eq_zero f;exact .inl ⟨rfl,s_⟩
 | g+1,c,f=>by
  obtain⟨h,a,rfl⟩:∃h a,c=h++[a]:=⟨c.dropLast,c.getLast w_,(dropLast_concat_getLast _).s⟩;have k:=ZjO d b i g _ (by simpa using f);rw[Zbe]
  by_cases j:jh d b e a/\Zeu b (yv d b e h) a
  ·grind [pkS]
  grind [pkS]
section
variable {L:List (Int×List VS)} {i:Nat} {ct:Int}
def Zfb{x}:x∈Vn (Bn L i) (Jj L) ct↔(∃a∈Bn L i,a.a=false/\a.g=x.a)/\x.h=Te L i x.a/\ct<=x.h:=by
 rw[Zjs,Zkz];refine and_congr_left λ_=>?_;unfold Uo;rw[any_eq_true];constructor;rintro⟨c,b,a⟩;simp only[Sk,Bool.and_eq_true,Bool.not_eq_true',decide_eq_true_eq,mm] at a;exact⟨c.1,(of_mem_zip b).1,a⟩;rintro⟨a,d,e,f⟩;obtain⟨b,c,rfl⟩:=aM d;refine⟨((Bn L i)[b],(Jj L)[b]'(by simpa [Bn,Jj] using c)),?_,?_⟩
 ·grind [Bn,Jj]
 grind [Sk]
def ZgK(p:1<=ct){a}(w:a<=(Vn (Bn L i) (Jj L) ct).length):yv (((Vn (Bn L i) (Jj L) ct).take a).map WS.a) (Te L i) ct (Bn L i)=if d:a<(Vn (Bn L i) (Jj L) ct).length then((Vn (Bn L i) (Jj L) ct)[a].a,(Vn (Bn L i) (Jj L) ct)[a].h) else(⟨#[]⟩,0):=by
 have y:=Zam (Bn L i) (Jj L) ct;have t:=ZcQ (Bn L i) (Jj L) ct;have j:∀o,o∈Vn (Bn L i) _ ct↔_:=λo=>Zfb;generalize Vn (Bn L i) (Jj L) ct=b at *
 have q:∀d,b[a].a ∉ (b.take a).map WS.a:=λd r=>by
  have⟨m,l,g⟩:=mem_map.1 r;obtain⟨f,n,rfl⟩:=aM l;rw[length_take] at n;rw[getElem_take] at g;have c:=((j b[f]).1 (Qf _)).2.1;have e:=((j b[a]).1 (Qf _)).2.1
  have:b[f]=b[a]:=by
   cases k:b[f];cases h:b[a]
   rw[k,h] at g;rw[k] at c;rw[h] at e;simp only at g c e;rw[c,e,g]
  have:=(getElem_inj t).1 this;omega
 have v:∀d,∃c∈Bn L i,jh ((b.take a).map WS.a) (Te L i) ct c/\c.g=b[a].a:=λd=>by have⟨⟨c,l,e,h⟩,m,f⟩:=(j b[a]).1 (Qf _);exact⟨c,l,⟨e,by rw[h,<- Bool.not_eq_true,containsS_iff];exact q d,w_⟩,h⟩
 rcases ZjO ((b.take a).map WS.a) (Te L i) p _ (Bn L i) rfl with⟨e,h⟩|⟨⟨c,l,e,m⟩,h⟩
 ·grind
 have k:⟨c.g,Te L i c.g⟩∈b:=(j _).2 ⟨⟨c,l,e.1,rfl⟩,rfl,e.2.2⟩;have⟨f,n,u⟩:=aM k
 have x:a<=f:=by
  apply Nat.le_of_not_lt;intro d;have g:=e.2.1;rw[<- Bool.not_eq_true,containsS_iff] at g
  grind [mem_iff_getElem]
 have s:a<b.length:=O;rw[dif_pos s,m]
 by_cases g:a=f
 ·grind
 grind [pairwise_iff_getElem,Xo]
end
def fy(e:World)(a:Nat)(f:Bool)(c d:Value)(b:Int):Prop:=e.1[a]? =some (O_ #[.bool f,c,d,I b] 227)
def fy.cells{b a h f g e}(c:fy b a h f g e):(b.cell? (J a 0)=some (.bool h)/\b.cell? (J a 1)=some f/\b.cell? (J a 2)=some g/\b.cell? (J a 3)=some (I e))/\(∀d,b.frozen? (J a d)=false)/\a<b.1.size:=
 ⟨⟨G_ 0 _ 227 (0,0) c,G_ 1 _ 227 (0,0) c,G_ 2 _ 227 (0,0) c,G_ 3 _ 227 (0,0) c⟩,λd=>R_ d _ 227 c,(Qb c).1⟩
def Bi.add{d b c a}{x:ByteArray}(e:d.ownsRow b 9 1 c (a.length+1) (a.map string++[Q_ x])):Bi d b c (a++[x]):=by
 unfold Bi
 simpa using e
def jl(b:World)(a:Nat):Nat:=(b.cell? (J a 2)).elim 0 Zdg
structure WdI(i g a:World)(d b)(e)(f)(c):Prop where
 r:fy a d true (N_) (V e b f) 0
 q:Bi a g.1.size (V e b f) c
 len:c.length=b
 u:Aa (λh=>h=d) g a
def WdI.below{j k d e f i h g c}(a:WdI j k d f i g h c)(b:E_ d e):WdI j k e f i g h c:=⟨(b.block _ a.r.cells.2.2).T a.r,a.q.below b,a.len,a.u.below b⟩
def Zig{p:Prop}(h:p:=by
 have⟨⟨P,G,L,a9⟩,_,_⟩:=j.r.cells;have g:fy _ _ _ _ _ 0:=j.u.g t.2.2 O;have⟨⟨Z,a0,a2,a4⟩,n,_⟩:=g.cells;have a7:=n 0;have b6:=n 1;have U:=n 2;have b7:=n 3;have z:=t.1.T (j.u.b t.1.size (λa3 Q=>O));have l:K (fy wr (d.1.size+1) false (N_) (N_) 0/\Bi wr d.1.size (V q c r) s/\E_ d wr):=(by refine⟨g,?_,z⟩;rw[<- y];exact j.q.c t.1.size);have B:c=s.length:=(by rw[<- y];exact j.len.s);clear j g n z o;subst B;go_wp2;apply bodyPost_ret (v:=.agg #[.bool true,N_,V q s.length r,I 0]) (by simp[results,results238,go_sem, *]) rfl;have A:=Aa.e wr (d.1.size+1) (.bool true) (N_) (V q s.length r) (I 0)
 exact⟨q,r,rfl,A.row l.2.1 (λc u i=>Ah l.2.1 u l.1 C i),l.2.2.T (A.b l.2.2.size (λc u=>O))⟩):p:=h
def ZdN c5 w v c9 b m S T f F M a d (h:Wk d c5 w v a)(d7:b<v)(d8:ip a)(h3:w<=200)(g9:2<=m)(h0:m<=16)(d4:D_ d F (b*3+2) (I f))(f3:1<=f):C_ 238 #[.agg #[L_ F v M,I m,I S,I T],V c5 w c9,I b] d λi g=>∃c e,i=.returned (.agg #[.bool true,.slice none 0 0,.slice c (Px (Bn a b) (Jj a) f m).c.length e,.int .i64 0])/\Bi g d.1.size (V c (Px (Bn a b) (Jj a) f m).c.length e) (Px (Bn a b) (Jj a) f m).c/\E_ d g:=by
 have c2:=Y h;have e2:∀e∈a,0<=e.1/\e.1<=99:=λe f6=>p_ (d8 e f6).1;have⟨e7,a6⟩:=Z_ e2 h.1;have⟨s,b0⟩:=ez_ ((Px (Bn a b) (Jj a) f m).c);rw[b0.out];have a5:K (s=((Vn _ _ _).take _).map _):=b0.out.s;have c0:K (∀c,c<=_->_):=λc u=>ZgK (L:=a) (i:=b) f3 u;have⟨p,b1⟩:=Y_ (Vn (Bn a b) (Jj a) f);rw[b1] at a5 c0
 have e6:K (∀E∈p,_):=λE a1=>by rw[<- b1] at a1;exact((Zfb.1 a1).2.2)
 have⟨x,R⟩:=M_ (((d.alloc (O_ #[L_ F v M,I m,I S,I T] 37)).alloc (O_ #[.bool false,N_,N_,I 0] 227)).alloc (O_ #[.bool true,N_,N_,I 0] 227));have d0:E_ d x:=R ▸ ((q_.alloc s_ _).alloc t_ _);have f7:x.1.size=d.1.size+1+1+1:=by rw[R];simp
 have X:H_ x d.1.size #[L_ F v M,I m,I S,I T] 37/\fy x (d.1.size+1) false (N_) (N_) 0/\fy x (d.1.size+1+1) true (N_) (N_) 0:=by
  rw[R];refine⟨?_,?_,?_⟩;exact((hc_ t_).T (hc_ s_)).T hn_;exact(hc_ s_).T (by have i:=ha_ (d.alloc (O_ #[L_ F v M,I m,I S,I T] 37)) (O_ #[.bool false,N_,N_,I 0] 227);simpa using i);have i:=ha_ ((d.alloc (O_ #[L_ F v M,I m,I S,I T] 37)).alloc (O_ #[.bool false,N_,N_,I 0] 227)) (O_ #[.bool true,N_,N_,I 0] 227)
  simpa [fy] using i
 have t:=x3_ d0 X.1 X.2.1;have b8:K (WdI d _ _ _ 0 _ 0 _):=⟨X.2.2,Bi.nil _ _,rfl,Aa.refl _ _⟩;have c3:=Y R;have d6:=aJ _ _ d4;simp only at d6;clear h d8 e2 b0 R d0 f7 X d6 b1;refine v_ ?_;go_upto_region 2 with fail;rw[<- c3];clear c3;go_loopw [8] (λ_ g=>∃(c:Nat) (q:Option Addr) (r:Nat),c<=p.length/\(c:Int)<=m/\K (WdI d x g (d.1.size+1+1) c q r ((p.take c).map WS.a))) (λ_ g=>m.toNat-jl g (d.1.size+1+1))
 exact⟨0,none,0,r_,O,b8⟩;clear b8;obtain⟨c,q,r,f5,h2,o⟩:=hrel;have⟨⟨e9,f0,a8,f1⟩,_,h1⟩:=o.r.cells;have b2:=o.u.g t.2.1 O;have g1:=n_ 0 b2;have h7:=n_ 1 b2;have d3:=t.1.T (o.u.b t.1.size (λa3 Q=>O));clear b2
 by_cases f4:(c:Int)<m
 ·have ⟨e4, f8⟩:=M_ wr;subst f8;have⟨k,W⟩:=Y_ ((p.take c).map WS.a);have b9:K (yv k (Te a b) f (Bn a b)=if h:c<p.length then(p[c].a,p[c].h) else(⟨#[]⟩,0)):=(by rw[<- W];exact c0 c f5);have c1:=Y W;rw[W] at o;clear W;go_wp2_with fail
  go_loopw [8,9,10] (λi j g l=>∃e:Nat,g=.int .i64 e/\e<=w/\i=.string (yv k (Te a b) f ((Bn a b).take e)).1/\j=.int .i64 (yv k (Te a b) f ((Bn a b).take e)).2/\E_ e4 l) (λ_ _ g _=>w-(intOf g).toNat)
  exact⟨0,rfl,r_,rfl,rfl,y_⟩;obtain⟨e,rfl,h4,rfl,rfl,H⟩:=hrel;have N:=d3.T (H.m d3.size)
  by_cases b3:e<w
  ·rcases(c2.below N).2 with g8|⟨a3,rfl,Q⟩
   omega;have⟨_,g7,g4,e8,_,d1⟩:=Q e b3;have⟨c6,c7,c8⟩:=d1 b d7;have d5:e<(Bn a b).length:=by unfold Bn;rw[length_map,a6];exact b3
   have d9:yv k (Te a b) f ((Bn a b).take (e+1))=pkS k (Te a b) f (yv k (Te a b) f ((Bn a b).take e)) ((a.getD e lr).2.getD b Aw):=by have g:e<a.length:=a6 ▸ b3;rw[oe _ d5,Zbe];congr 1;simp[Bn,getD,g]
   have U:=Y d9;clear Q d1 d9 d5;generalize (a.getD e lr).2.getD b Aw=E at *;generalize yv k (Te a b) f ((Bn a b).take e)=g0 at *;obtain⟨L,e5,g⟩:=E;obtain⟨n,l⟩:=g0;simp only at c6 c7 c8 ⊢;have g2:=F_ e w;have g3:=F_ b v;have b6:=Ag H a8;have⟨b7,a2⟩:=M_ (wr.alloc (O_ #[.bool L,I e5,Q_ g] 335));have a0:E_ wr b7:=a2 ▸ q_;have b5:H_ b7 wr.1.size #[.bool L,I e5,Q_ g] 335:=a2 ▸ hn_;have h8:=n_ 0 b5;have h9:=n_ 2 b5;have i0:=Ag a0 b6;have c4:=Y a2;have Z:=H.T (a0.m H.size);clear a2 b5;go_upto_region 9 with fail;rw[<- c4];clear c4 e8 c6 c7 c8;go_wp2_with fail
   apply (Zbn x.1.size c r q k g _ ((o.below Z).q) o.len O).m;rintro i h5 ⟨rfl,e0⟩;obtain rfl:=e0.s;clear e0;have⟨a4,b4⟩:=Y_ (containsS k g);rw[b4];have a7:=Y b4;clear b4
   by_cases P:L=true∨a4=true
   ·have y:K (yv k (Te a b) f ((Bn a b).take (e+1))=(n,l)):=by
     show _=_;rw[U];refine aC (λh=>?_);have A:=h.1.1;have B:=h.1.2.1;simp only[a7.out] at A B
     rcases P with i|i
     rw[i] at A;cases A;rw[i] at B;cases B
    clear U
    cases L<;>cases a4
    ·rcases P with i|i<;>cases i
    all_goals
     go_wp2;go_roundw;exact⟨e+1,g_,O,by rw[y],by rw[y],Z⟩;exact z_
   obtain⟨rfl,rfl⟩:L=false/\a4=false:=⟨by cases L;rfl;exact absurd (.inl rfl) P,by cases a4;rfl;exact absurd (.inr rfl) P⟩;clear P;go_wp2_with fail
   apply (Zbv (some (J a3 0)) w v c9 b a g _ (c2.below (N.T (a0.m N.size))) d7 e7 O).m;rintro i h6 ⟨rfl,e3,e1⟩;obtain rfl:=e1.s;clear e1;have y:K (yv k (Te a b) f ((Bn a b).take (e+1))=if f<=Te a b g/\(l<Te a b g∨Te a b g=l/\Js g n) then(g,Te a b g) else(n,l)):=(by show _=_;rw[U];unfold pkS jh Zeu;simp only[a7.out,true_and]);have f9:=N.T (a0.m N.size);have g5:=Ag Z g1;have g6:=Ag f9 d4;have d2:=below_drewN Z e3;clear U a7;generalize Te a b g=j at *;go_upto_region 12 with fail;go_cut [73] (λz A=>z=.bool (decide (f<=j/\(l<j∨j=l/\Js g n)))/\A=b7.drewN e3)
   case first=>
    by_cases A:f<=j
    ·by_cases B:l<j
     ·go_wp2;go_meet
      exact⟨by rw[aF (p:=_/\_) ⟨A,.inl B⟩],rfl⟩
     by_cases D:j=l
     ·have a9:=beq_iff_eq.2 D
      by_cases G:Js g n
      ·have f2:Op.bytesLess g.toList n.toList=true:=(by rw[wi];exact aF G);have z:K (_/\(l<j∨_/\_)):=⟨A,.inr ⟨D,G⟩⟩;clear D G;go_wp2;go_meet
       exact⟨by rw[aF z.out],rfl⟩
      have f2:Op.bytesLess g.toList n.toList=false:=by rw[wi];exact aE G
      have z:K (¬(f<=j/\(l<j∨j=l/\Js g n))):=λh=>by rcases h.2 with h|h;exact B h;exact G h.2
      clear D G;go_wp2;go_meet
      exact⟨by rw[aE z],rfl⟩
     have a9:=aO D
     have z:K (¬(f<=j/\(l<j∨j=l/\Js g n))):=λh=>by rcases h.2 with h|h;exact B h;exact D h.1
     clear D;go_wp2;go_meet
     exact⟨by rw[aE z],rfl⟩
    have z:K (¬(_/\(l<j∨j=l/\Js g n))):=λh=>A h.1;go_wp2;go_meet
    exact⟨by rw[aE z],rfl⟩
   obtain⟨rfl,B⟩:=hcut;obtain rfl:=B.s;clear B
   by_cases z:f<=j/\(l<j∨j=l/\Js g n)
   ·rw[aF z];have A:K (yv k (Te a b) f ((Bn a b).take (e+1))=(g,j)):=(by show _=_;rw[y,aD z]);clear z y;go_wp2;go_roundw;exact⟨e+1,g_,O,by rw[A],by rw[A],d2⟩;exact z_
   rw[aE z];have A:K (yv k (Te a b) f ((Bn a b).take (e+1))=(n,l)):=(by show _=_;rw[y,aC z]);clear z y;go_wp2;go_roundw;exact⟨e+1,g_,O,by rw[A],by rw[A],d2⟩;exact z_
  have b4:¬e<(w:Int):=O;have b5:(Bn a b).take e=_:=aI (by unfold Bn;rw[length_map,a6];omega);rw[b5,b9]
  by_cases D:c<p.length
  ·rw[dif_pos D];have a9:=e6 _ (Qf D);have a7:K ((p.take (c+1)).map WS.a=k++[p[c].a]):=(by show _=_;rw[Qi D,map_append,c1];rfl);generalize p[c]=E at *;obtain⟨g,c6⟩:=E;simp only at a9 ⊢;have P:(c6==0)=_:=aO O;have j:=o.below H;have⟨⟨_,_,b6,_⟩,_,c7⟩:=j.r.cells;have z:K (∀y,WdI d _ (wr.alloc y) _ c _ _ k):=λy=>j.below q_;have c8:=j.u.size;have L:=o.len
   have A:K (∀y,(wr.alloc y).ownsRow x.1.size 9 1 (V q c r) c (k.map string)):=λy=>by have:=(z y).q;unfold Bi at this;rw[L] at this;exact this
   clear j o b9;go_wp2_with (at_builtin;refine ap_ [Q_ g] (A _) ?_)
   rintro a2 a3 ⟨Z,G,_,_,c4,b7,Q⟩;have a0:=(Aa.refl _ _).grown G (λc u _=>u);have B:fy _ _ _ _ _ 0:=a0.g (z _).r (λi=>Ah (A (O_ #[] 9)) i (z _).r C rfl);have l:K (WdI d x (a3.setCell (J (d.1.size+1+1) 2) a2) (d.1.size+1+1) (c+1) (some (J c4 0)) b7 (k++[g])):=by subst Q;refine⟨ht_ 2 _ _ _ B,?_,by rw[Qe,L];rfl,?_⟩;have i:=Bi.add (by rw[L];exact Z);exact Al i B C;exact((z _).u.grown G (λE a1 i=>p_ (B_ (A (O_ #[] 9)) E a1).1)).setCell (p:=(J (d.1.size+1+1) 2)) (λ_=>rfl) _
   have⟨⟨_,_,d1,_⟩,n,_⟩:=B.cells;have U:=n 2;have i:K (jl e4 (d.1.size+1+1)=c):=by show _=_;unfold jl;rw[a8];rfl
   have a4:K (jl (a3.setCell (J (d.1.size+1+1) 2) a2) (d.1.size+1+1)=c+1):=(by show _=_;unfold jl;rw[l.r.cells.1.2.2.1];rfl);subst Q;clear Z G a0 B n z A b6 e9 f0 a8 f1;go_wp2;go_roundw;exact⟨c+1,_,_,O,O,a7 ▸ l⟩;rw[i,a4];omega
  rw[dif_neg D];have y:K (k=s):=(by show _=_;rw[a5,<- c1,aI O,aI O]);have j:=o.below H;exact Zig
 have b4:=f4;have y:K ((p.take c).map WS.a=s):=(by show _=_;rw[a5,show m.toNat=c by omega]);have j:=o.out;exact Zig
end Go.Proofs.YtfcgnpchbcmdeaaGreat
namespace Go.Proofs.YtfcgnpchbcmdeaaGreat
set_option linter.all false
set_option maxRecDepth 100000
set_option maxHeartbeats 16000000
open Go.RowKit Go.Sort List Nat World Go.Proofs.Tryz Value IntKind Lib Region
section
variable {α:Type} [Inhabited α]
def Rb g h (c:α->Nat)(f:∀x e,c e<c x->g x e=h x e):∀a b,a<b.size->(∀d,d<a->c b[d]!<c b[a]!)->insInner g 0 a b=insInner h 0 a b
 |0,_,_,_=>rfl
 | a +1,b,j,i=>by
  unfold insInner;rw[f _ _ (i a O)];split
  ·refine Rb _ _ _ f a _ (by rw[Go.Sort.swp_size];omega) (λd k=>?_)
   grind [swp_other,swp_right]
  rfl
def di e (f:α->Nat) c:∀d b,d<=c->c<b.size->(∀a,a<=c->f b[a]!<=c)->(∀a,a<=c->f (insInner e 0 d b)[a]!<=c)/\(∀a,c<a->(insInner e 0 d b)[a]! =b[a]!)/\(insInner e 0 d b).size=b.size
 |0,_,_,_,g=>⟨g,λ_ _=>rfl,rfl⟩
 | d+1,b,m,l,g=>by
  unfold insInner;split;obtain⟨i,j,k⟩:=di e f c d (swp b (d+1) d) O (by rw[Go.Sort.swp_size];exact l) (λa h=>by grind [swp_right,swp_left,swp_other]);exact⟨i,λa h=>by rw[j a h,swp_other b _ _ a O O],by rw[k,Go.Sort.swp_size]⟩
  grind
def Rc g f (e:α->Nat)(l:∀x k,e k<e x->g x k=f x k) d:∀i a c,d-a=i->a<=d->c.size=d->(∀b,b<a->e c[b]!<a)->(∀b,a<=b->b<d->e c[b]! =b)->insOuter g 0 d a c=insOuter f 0 d a c
 |0,a,c,p,q,_,_,_=>by rw[insOuter.eq_1 g,insOuter.eq_1 f,aC O,aC O]
 |i+1,a,c,p,q,r,u,o=>by have h:a<d:=O;have s:=o a x_ h;rw[insOuter.eq_1 g,insOuter.eq_1 f,aD h,aD h,Rb g f e l a c O (λb j=>w_)];have⟨m,t,n⟩:=di f e a a c x_ O (λb j=>w_);exact Rc _ _ _ l d i _ _ O h (n ▸ r) (λb j=>lt_succ_of_le (m b O)) (λb j v=>w_)
end
def Ic(a:List (List Bool))(b:Nat):Nat:=Dp (a.getD b [])
def ltG{m}(a:List (List Bool))(x b:Fin m):Bool:=decide (Ic a b.val<Ic a x.val∨Ic a x.val=Ic a b.val/\x.val<b.val)
def Zpl{e} b:SWO (ltG (m:=e) b):=by
 refine⟨λa=>?_,λa f g c d=>?_,λa f g c d=>?_⟩;simp[ltG];simp only[ltG,decide_eq_true_eq] at *;omega
 grind [ltG]
def ZaC b {a}(c:a<b+1):((Jn b)[a]!).val=a:=by rw[getElem!_pos (Jn b) a (by simp[Jn];exact c)];simp[Jn]
theorem ZgE a c:insertionSort (ltOf (Ui (m:=a+1) c)) (Jn a) 0 (a+1)=insertionSort (ltG c) (Jn a) 0 (a+1):=by
 unfold insertionSort;refine Rc _ _ _ (λe f b=>?_) _ _ 1 _ rfl O (by simp[Jn]) (λd b=>by rw[ZaC a O];exact b) (λd _ b=>ZaC a b)
 grind [ltF,ltG,Ic]
def ZgD a b {i j}(d:i<j)(e:j<a+1):Ic b ((Dl a b).getD j 0)<=Ic b ((Dl a b).getD i 0)/\(Ic b ((Dl a b).getD j 0)=Ic b ((Dl a b).getD i 0)->(Dl a b).getD i 0<=(Dl a b).getD j 0):=by
 have c:=(insertionSort_holds (lt:=ltG (m:=a+1) b) (Zpl _) (Jn a) 0 (a+1) r_ (by simp[Jn]));have h:=c.1.1;have f:=c.2 i j r_ d e;have g:(Jn a).size=a+1:=by simp[Jn]
 grind [Dl,ltG,ZgE]
end Go.Proofs.YtfcgnpchbcmdeaaGreat
namespace Go.Proofs.YtfcgnpchbcmdeaaGreat
set_option linter.all false
set_option maxRecDepth 100000
set_option maxHeartbeats 16000000
open Go.RowKit List Nat World Go.Proofs.Tryz Value IntKind Lib Region
def ph(d:List KS)(c:List (List Nat))(e:Nat)(f:List Nat):Nat×Nat:=f.foldl (λa b=>(if sO d c b e=true/\a.1=0 then a.2+(c.getD b []).getD e 0 else a.1,a.2+(d.getD b Ai).a)) (0,1)
def Hi(b:List KS)(a:List (List Nat))(c:List Nat)(d:Nat):List Nat:=(range d).map (λe=>(ph b a e c).1)
theorem Zai{Ks Bb r}{a:List Nat}{b}(d:b<a.length):ph Ks Bb r (a.take (b+1))=(if sO Ks Bb (a.getD b 0) r=true/\(ph Ks Bb r (a.take b)).1=0 then(ph Ks Bb r (a.take b)).2+(Bb.getD (a.getD b 0) []).getD r 0 else(ph Ks Bb r (a.take b)).1,(ph Ks Bb r (a.take b)).2+(Ks.getD (a.getD b 0) Ai).a):=by have c:a.getD b 0=a[b]:=w_;unfold ph;rw[Qi d,foldl_append,c];rfl
def Ziz{d h f j c}(n:c<j)(l:∀b,b<d.length->(h.getD b []).getD c false=sO d f b c):∀(g:List Nat) a e,(∀b∈g,b<d.length)->a.N.getD c 0=e.1->a.off=e.2->(g.foldl (Ak d h f j) a).N.getD c 0=(g.foldl (λa b=>(if sO d f b c=true/\a.1=0 then a.2+(f.getD b []).getD c 0 else a.1,a.2+(d.getD b Ai).a)) e).1
 |[],a,e,_,i,_=>i
 | b::g,a,e,m,i,k=>by
  simp only[foldl_cons];refine Ziz n l _ _ _ (λp o=>m p (by simp[o])) ?_ ?_
  ·grind [Ak,Xz,mh]
  show a.off+_=_;rw[k]
def Ziu{b f e a d}(k:∀c,c<a->∀g,g<b.length->(f.getD g []).getD c false=sO b e g c)(l:∀g∈d,g<b.length)(j:(Jy b f e a d).length=a):Hi b e d a=Jy b f e a d:=by apply ext_getElem;rw[j];simp[Hi];intro c m n;have h:c<a:=O;have:=Ziz h (k c h) d ⟨replicate a 0,[],1⟩ (0,1) l w_ rfl;simp only[Hi,getElem_map,getElem_range];have i:(Jy b f e a d)[c]=(Jy b f e a d).getD c 0:=w_;rw[i];exact this.s
def ZcO{Ks Bb r}{b:List Nat}(d:∀c∈b,(Bb.getD c []).getD r 0<=5000/\(Ks.getD c Ai).a<=5000):∀a,a<=b.length->(ph Ks Bb r (b.take a)).1<=5000*a+5001/\(ph Ks Bb r (b.take a)).2<=5000*a+1
 |0,_=>by simp[ph]
 | a+1,g=>by
  have⟨e,f⟩:=ZcO d a O
  grind [Zai]
def Zbk E R d e1 a9 b c e f (z:MkV f E R d c e)(A:NuV f a9 b)(c2:∀g∈b,g<c.length)(g4:d<=200)(f1:b.length<=1000)(T:∀g∈b,∀a,(e.getD g []).getD a 0<=5000/\(c.getD g Ai).a<=5000):C_ 242 #[P_ E,V a9 b.length e1] f λS h=>∃n,S=.returned n/\Ad h f.1.size n (An (Hi c e b d))/\E_ f h:=by
 have a5:=Y z;have a3:=T_ A c2;have⟨d6,d4⟩:=Z_ (λa k c3=>ZcO (λg A=>T g A a) k c3) T;have c5:=z.j;have e5:=z.i.h;have d7:K (An (Hi c e b d)=Cp (λa=>(ph c e a b).1) d d):=(by show _=_;rw[Id];simp[An,Hi]);have⟨t,U⟩:=Y_ b.length;have a4:=Y U;rw[U] at f1 ⊢;have f2:=Gf d O;clear z A c2 U T;refine v_ ?_;go_wp2_with fail
 go_loopw [6] (λh i=>∃a:Nat,h=.int .i64 a/\a<=d/\K (Ad i f.1.size (.slice (some ⟨f.1.size,0,none⟩) d d) (Cp (λa=>(((ph c e a b).1:Nat):Int)) d a))/\K (E_ f i)) (λh _=>d-(intOf h).toNat)
 case atStart=>
  refine⟨0,rfl,r_,?_,?_⟩;rw[Ie];exact Ge d f _ O x_;exact q_
 clear f2;obtain⟨a,rfl,g5,i,j⟩:=hrel;have Z:=Ag j c5;have e6:=Ag j e5
 by_cases s:a<d
 ·have e8:=F_ a d;have G:K (d=(Cp (λa=>(ph c e a b).1) d a).length):=(Fd _ O).s;have d9:=Y (Jz (λa=>(((ph c e a b).1:Nat):Int)) s);have e0:K ((Cp (λa=>(ph c e a b).1) d a).set a 0=Cp (λa=>(ph c e a b).1) d a):=(by show _=_;unfold Cp;rw[show d-a=(d-a-1)+1 by omega,replicate_succ,set_append_right _ _ s_];simp);generalize Cp (λa=>(((ph c e a b).1:Nat):Int)) d a=a1 at *;go_wp2_with fail
  rename_i h1;go_loopw [7,8] (λm h l=>∃k:Nat,h=.int .i64 k/\k<=t/\m=.int .i64 ((ph c e a (b.take k)).2:Nat)/\K (Ad l f.1.size (.slice (some ⟨f.1.size,0,none⟩) d d) (a1.set a ((ph c e a (b.take k)).1:Nat)))/\K (E_ f l)) (λ_ h _=>t-(intOf h).toNat)
  exact⟨0,rfl,r_,rfl,by have:=i.out;rw[<- e0] at this;exact this,j⟩;clear i j Z e6;obtain⟨k,rfl,c3,rfl,i,j⟩:=hrel
  by_cases f0:k<t
  ·have B:k<b.length:=a4 ▸ f0;have q:=j.out;obtain⟨c7,rfl,N⟩:=a3.1 k B;have r:=a3.2 _ (Ov B);have g1:=d4 _ (Ov B) a;have b2:=Ag q N;have l:=a5.below q;obtain⟨a0,f6⟩:=i.c (k:=a) (by rw[length_set];exact G) s;rw[Qc,getElem?_set_self (by rw[<- G];exact s)] at a0;simp only[Option.getD_some] at a0;have g2:=d6 a k O;have a7:=Y (Zai (Ks:=c) (Bb:=e) (r:=a) B);have⟨g8,b4,c0⟩:=l.k;obtain⟨c8,e4,f9,e3,rfl,M,b0⟩:=c0.2 (b.getD k 0) (l.len ▸ r);have X:=l.u _ (l.len ▸ r);rw[X] at M;obtain⟨b9,rfl,b1⟩:=b0 a (X ▸ s);have⟨w,e2,H,P,L,Q,b3,b5,b6,b7,b8⟩:=a5.i.A r;have D:=l.i.x _ r;have c1:=Ke H L (c.getD (b.getD k 0) Ai).e.g.length (c.getD (b.getD k 0) Ai).e.c.length P Q (c.getD (b.getD k 0) Ai).e.a (c.getD (b.getD k 0) Ai).d
   have d3:K (∀y:World,C_ 189 #[.agg #[.bool (c.getD (b.getD k 0) Ai).e.a,V H (c.getD (b.getD k 0) Ai).e.g.length P,V L (c.getD (b.getD k 0) Ai).e.c.length Q,I (c.getD (b.getD k 0) Ai).d]] y (U_ (.int .i64 (c.getD (b.getD k 0) Ai).a) y)):=λy=>by rw[<- D.a];exact c1 y D.1 D.2.1
   have a6:=Y l;have g3:=l.len;have Z:=l.j;clear c1 D l c0 X b0;generalize (c.getD (b.getD k 0) Ai).a=c6 at *;generalize (c.getD (b.getD k 0) Ai).e.a=f8 at *;generalize (c.getD (b.getD k 0) Ai).e.g.length=f4 at *;generalize (c.getD (b.getD k 0) Ai).e.c.length=f5 at *;generalize (c.getD (b.getD k 0) Ai).d=e7 at *;generalize (e.getD (b.getD k 0) []).getD a 0=p at *;generalize b.getD k 0=g at *;generalize ph c e a (b.take k)=f7 at *;obtain⟨n,o⟩:=f7;simp only at *;have e9:=F_ k t;have g0:=F_ g c.length;have g6:_=(o:Int)+(c6:_):=As O O;have g7:_=(o:Int)+(p:_):=As O O;go_wp2_with fail
   apply (a6.a r s).m;rintro S g9 ⟨rfl,u,f3⟩;subst f3;have⟨v,W⟩:=Y_ (sO c e g a);rw[W];have a8:K (ph c e a (b.take (k+1))=(if v=true/\n=0 then o+p else n,o+c6)):=(by rw[<- W];exact a7);clear W a7 a6;go_upto_region 10 with fail;go_cut [49] (λm h=>m=.bool (decide (v=true/\n=0))/\h=wr.drewN u)
   case first=>
    cases v<;>
     (go_wp2
      go_meet
      exact⟨by first|(simp;done)|(simp;rw[Bool.eq_iff_iff];simp),rfl⟩)
   obtain⟨rfl,c4⟩:=hcut;obtain rfl:=c4.s;clear c4;go_upto_if 49 with fail
   go_cut [9] (λ_ h=>K (Ad h f.1.size (.slice (some ⟨f.1.size,0,none⟩) d d) (a1.set a ((if v=true/\n=0 then o+p else n:Nat))))/\K (E_ f h))
   case first=>
    by_cases m:v=true/\n=0
    ·rw[aF m];have F:=Y m;have x:K (Below _ f (wr.drewN u)):=below_drewN q _;have c9:K (∀a2,Ad _ _ _ ((a1.set a _).set a a2)):=λa2=>(Ad.put (i.below ((below_drewN y_ u).drew)) (by rw[length_set];exact G) a2).1;clear m i;go_upto_region 11 with fail;refine Af (λh=>D_ h E 1 (L_ c8 e.length e4)/\D_ h c7 k (I (g:Nat))/\D_ h c8 g (L_ b9 d e3)/\D_ h b9 a (I (p:Nat))) 18 k_ ⟨b4,b2,M,b1⟩ (λhHeld=>?_);refine K_ ?_;refine le_ ?_;go_wp2;go_meet
     refine⟨?_,x.out.drew.setCell x_ _⟩;rw[aD F.out];have:=c9 ((o+p:Nat):Int);rw[set_set] at this;exact this
    rw[aE m];have F:=Y m;have x:K (Ad (wr.drewN u) _ _ _/\Below _ f (wr.drewN u)):=⟨i.below (below_drewN y_ _),below_drewN q _⟩;clear m i;go_wp2;go_meet
    exact⟨(aC F) ▸ x.1,x.2⟩
   obtain⟨d8,d5⟩:=hcut;have m:=d5.out;have x:=Ag m c5;have F:=Ag m b3;have a2:=Ag m N;have c9:=Ag m b5;have d0:=Ag m b6;have d1:=Ag m b7;have d2:=Ag m b8;clear Z b2 b3 N b5 b6 b7 b8 b4 M b1 a0 f6 i j q;go_upto_region 12 with fail;go_region_held3 (λh=>D_ h E 0 (P_ R)/\D_ h R 1 (L_ w c.length e2)/\D_ h c7 k (I (g:Nat))/\D_ h w (g*4) (.bool f8)/\D_ h w (g*4+1) (V H f4 P)/\D_ h w (g*4+2) (V L f5 Q)/\D_ h w (g*4+3) (I (e7:Nat))) (first|exact⟨x,F,a2,c9,d0,d1,d2⟩|exact⟨Ag aA x,Ag aA F,Ag aA a2,Ag aA c9,Ag aA d0,Ag aA d1,Ag aA d2⟩) (first|(go_at_call 189;apply (d3 _).m;rintro S h0 ⟨rfl,h⟩;have aA:Below wc.1.size _ _:=y_.drew.T h))
   go_wp2;go_roundw;exact⟨k+1,g_,O,by rw[a8];go_num,a8 ▸ (d8.below aA),m.T (aA.m m.size)⟩;exact z_
  have e9:¬k<(t:Int):=O;have h:b.take k=_:=aI (p_ a4.out);rw[h] at i;rw[h,d9] at *;go_wp2;go_roundw;exact⟨a+1,g_,O,i,j⟩;exact z_
 have e8:¬a<(d:Int):=O;obtain rfl:a=d:=O;have h:K (Ad wr f.1.size (L_ f.1.size a a) (An (Hi c e b a))):=d7 ▸ i;clear i;go_wp2;go_ret;exact⟨_,rfl,h,j⟩
def GUn(d:List (List Bool))(c:Nat)(a:GS):Prop:=a.out.length=c/\∀b,b<c->a.out.getD b false=a.fs.any (λe=>(d.getD e []).getD b false)
def ZnF{c a}(d:c.length=a.length){b}(e:b<a.length):(orL c a).getD b false=(c.getD b false||a.getD b false):=by grind [orL]
def GUn.add{a e b i c}(d:GUn a e c)(f:(a.getD b []).length=e):GUn a e (Ug c b (a.getD b []) i):=by refine⟨?_,λh g=>?_⟩;show(orL c.out (a.getD b [])).length=e;rw[Lx (by rw[d.1,f])];exact d.1;show(orL c.out (a.getD b [])).getD h false=(c.fs++[b]).any _;rw[ZnF (by rw[d.1,f]) (f ▸ g),d.2 h g,any_append];simp
def GUn.new b a:GUn b a (Jp a):=⟨by simp[Jp],λd c=>by simp[Jp,getD,c]⟩
def Zde{k c b l i h}(f:∀a∈h,GUn c b a)(j:(c.getD i []).length=b):∀a∈Bc k c b l h i,GUn c b a:=λa e=>by
 unfold Bc at e;split at e
 ·rename_i m
  rcases mem_or_eq_of_mem_set e with g|d
  exact f a g;rw[d,getD,Qd m];exact(f _ (Qf _)).add j
 rcases mem_append.1 e with g|d
 exact f a g;simp only[mem_singleton] at d;rw[d];exact(GUn.new _ b).add j
def Zjg{Ks b e budget k}(h:∀j,j<k+1->(b.getD j []).length=e):∀(d:List Nat) a,(∀c∈d,c<k+1)->(∀f∈a,GUn b e f)->∀f∈d.foldl (Bc Ks b e budget) a,GUn b e f
 |[],a,_,g=>g
 |c::d,a,i,g=>Zjg h d _ (λm l=>i m (by simp[l])) (Zde g (h c (i c s_)))
def cy{a b n}(e:a.length=n)(f:b.length=n):Hy a b=(range n).map (λc=>a.getD c false&&b.getD c false):=by
 apply ext_getElem;simp[Hy,e,f];intro c g d;simp only[getElem_map,getElem_range]
 have h:c<n:=by simpa using d
 have:=jc (a:=a) (b:=b) O (k:=c) O
 grind
def ZcM{b g h e c f}(i:GUn g e f)(m:(g.getD c []).length=e)(k:∀a,a<e->∀d,d<b.length->(g.getD d []).getD a false=sO b h d a)(l:c<b.length)(o:∀d∈f.fs,d<b.length):Fx f.out (g.getD c [])=clF b h f.fs c e:=by
 unfold Fx clF Dp;rw[cy i.1 m,count_eq_countP,countP_map];refine countP_congr λa n=>?_
 have j:a<e:=by simpa using n
 simp only[Function.comp_apply,beq_true];rw[i.2 a j,k a j c l,Bool.and_comm]
 grind
def Xn(e:Nat)(b:List KS)(a:List (List Bool))(f c d:Nat):List GS:=((Dl e a).take d).foldl (Bc b a f c) []
def Zgj{b Ks Os n budget a}(c:a<b+1):Xn b Ks Os n budget (a+1)=Bc Ks Os n budget (Xn b Ks Os n budget a) ((Dl b Os).getD a 0):=by
 have d:a<(Dl b Os).length:=(by rw[Ky];exact c);unfold Xn
 grind [Qi]
def Zje a b c e d:Xn a b c e d (a+1)=Hs a b c e d:=by grind [Xn,Hs,Ky]
def ZnK{b a c d}(r:c<b+1)(k:d<b+1)(v:d ∉ (Dl b a).take c)(u:∀e,e<b+1->e ∉ (Dl b a).take c->Ic a e<=Ic a d/\(e<d->Ic a e<Ic a d)):d=(Dl b a).getD c 0:=by
 have h:=af b a;have w:=h.nodup_iff.2 nodup_range;have t:=Ky b a;have m:c<(Dl b a).length:=O;have g:∀i _,(Dl b a).getD i 0=(Dl b a)[i]:=w_;have l:=h.mem_iff.2 (by simpa using k);have⟨f,n,j⟩:=aM l;have s:c<=f:=by grind [mem_iff_getElem]
 by_cases p:c=f
 ·grind
 have o:=ZgD b a (i:=c) (j:=f) O O;rw[g f n,j,g c m] at o;have x:(Dl b a)[c]<b+1:=w_
 have y:(Dl b a)[c] ∉ (Dl b a).take c:=λq=>by grind [getElem_of_mem,getElem_inj]
 grind
def dnL(a:Nat)(b:List (List Bool))(d:Nat):List Bool:=(range (a+1)).map (λc=>decide (c∈(Dl a b).take d))
def Zlg{b c d a}(e:a<b+1):(dnL b c d).getD a false=decide (a∈(Dl b c).take d):=by simp[dnL,getD,e]
def Zlh a b c:(dnL a b c).length=a+1:=by simp[dnL]
def ZiC a b:dnL a b 0=replicate (a+1) false:=by apply ext_getElem;simp[dnL];intro e c d;simp[dnL]
def Zli{b Os a}(d:a<b+1):(dnL b Os a).set ((Dl b Os).getD a 0) true=dnL b Os (a+1):=by
 have e:a<(Dl b Os).length:=(by rw[Ky];exact d);have c:(Dl b Os).getD a 0=(Dl b Os)[a]:=w_;rw[c];apply ext_getElem;simp[dnL];intro h f g;rw[getElem_set];simp only[dnL,getElem_map,getElem_range,Qi e,mem_append,mem_singleton]
 grind
end Go.Proofs.YtfcgnpchbcmdeaaGreat
