import Derived.Test.YtfcgnpchbcmdeaaGreatZoal
namespace Go.Proofs.YtfcgnpchbcmdeaaGreat
set_option linter.all false
set_option maxRecDepth 100000
set_option maxHeartbeats 4000000
open Go.RowKit List Nat World Go.Proofs.Tryz Value IntKind Lib Region
def Ax.nil b a:Ax b a (N_) []:=ownsRow_nil b a 5 1
def ZdI{d f e}{c u:Value}(g:(d.alloc e).grownBy f c.ownBlock) b {j}:Aa (λa=>a=b∨c.ownBlock=some a) d (f.setCell (J b j) u):=
 (((Aa.refl (λa=>a=b∨c.ownBlock=some a) d).alloc e).grown g (λ_ a _=>.inr a)).setCell (p:=(J b j)) (λ_=>.inl rfl) u
def ZjP{b h:World}{d}{f a:Value}(g:a.ownBlock=f.ownBlock∨a.ownBlock=some (b.alloc d).1.size/\Below (b.alloc d).1.size (b.alloc d) h):a.ownBlock=f.ownBlock∨∃e,a.ownBlock=some e/\b.1.size<=e:=by
 rcases g with c|⟨c,_⟩
 exact .inl c;exact .inr ⟨_,c,s_⟩
def Er(c:Nat)(f:Nat->Bool)(e:Nat->Int)(a:RS)(b:Int):Option RS:=
 match Ar (f a.row.length) (Ca (e a.row.length).toNat) a.p a.g b with
 |some d=>some {a with p:=d.1,g:=d.2}
 |none=>if b=Eg a.row.length c/\Ep a.p.g=true then some (He c a (a.row++[Hn a.p a.g])) else none
def Aa.d{b c d}(a:Aa b c.drew d):Aa b c d:=⟨a.os,a.tape,a.output,a.size,a.block⟩
section
variable {w:World} {K M:Nat->Prop} {rb fb cb n:Nat} {wd:Nat->Bool} {sc ct:Nat->Int} {bins size:Int} {s:RS} {a c d:Value} {b:Nat->Value}
def fp i (m:Qx w K M rb fb cb n wd sc ct bins size s a c d b)(r:Is n s)(f5:n<=4)(h0:s.k.length<200)(f8:∀h,h<n->wd h=false->0<=sc h/\sc h<=3):C_ 163 #[P_ rb,.int .u8 i] w λe w'=>e=.returned (.bool (Er n wd sc s i).isSome)/\ZfG w K M rb fb cb n wd sc ct bins size ((Er n wd sc s i).getD s) w':=by
 obtain⟨H,L,rfl⟩:=m.or.a;have⟨d8,_,_,_,_,d9⟩:=m.v.head;have⟨f9,h1,h2,X,d0⟩:=m.A r.row;have g2:0<=(s.row.length:Int):=O;have g3:s.row.length<(n:Int):=p_ r.row;have b6:=m.p (S:=λ_=>False) (Aa.refl _ w).drew (λ_ _=>id)
 have f6:∃(a0:Nat) (Z:Array Value),f9=.func (.func a0) #[] Z/\C_ a0 (#[.pointer (some (J rb 6)),.int .u8 i]++Z) w.drew (λe w'=>zd w.drew K M rb fb cb n wd sc ct bins size s a (V H s.row.length L) b (Ar (wd s.row.length) (Ca (sc s.row.length).toNat) s.p s.g i) e w')/\((a0=209/\Z=#[])∨∃y,a0=214/\Z=#[P_ y]):=by
  rcases d0 with⟨e,j,k,l,u,_⟩|⟨e,y,j,k,l,u,_,_,_,_,_,_,f,_⟩
  refine⟨209,#[],u,?_,.inl ⟨rfl,rfl⟩⟩;rw[e];exact Zg1 b6 i _ r.g;refine⟨214,_,u,?_,.inr ⟨y,rfl,rfl⟩⟩;have:=f8 _ r.row e;have g:=oj (sc s.row.length).toNat O;rw[e];exact ZjX b6 i _ _ f O g.2 r.num
 obtain⟨a0,Z,rfl,P,b8⟩:=f6;have⟨g1,a9⟩:=Z_ m r;have g6:=m.k;have d1:=λf e=>(m.z f e).2;have b7:K fb:=(by obtain⟨_,_,_,f0,_⟩:=m.fs;exact f0);have a2:=(m.z _ b7).1;have W:=Y (d1 _ b7);have g9:=r.row;clear m b6 d0 r d1 b7
 cases Q:Ar (wd s.row.length) (Ca (sc s.row.length).toNat) s.p s.g i with
 | some T=>
  have o:Hid (Er n wd sc s i=some {s with p:=T.1,g:=T.2}):=(by show Er n wd sc s i=_;unfold Er;rw[Q]);rw[Q] at P;have D:=Y P;clear P Q
  rcases b8 with⟨rfl,rfl⟩|⟨y,rfl,rfl⟩
  ·refine v_ ?_;go_wp2_with fail
   go_region_held3 (λw'=>w'.cell? (J rb 0)=some (L_ fb n n)/\w'.cell? (J rb 5)=some (V H s.row.length L)/\w'.cell? (J fb (s.row.length*3))=some (.func (.func 209) #[] #[])) (go_keep) (first|(go_at_call 209;apply (D).m;rintro e w' ⟨rfl,⟨q,z,g,x,l⟩,j⟩;have u:=g.v.head.1;have N:=g.v.head.2.2.2.2.2;have A:w'.cell? _=some (.func (.func 209) _ _):=(cb_ (w:=w.drew) (a:=(J fb (s.row.length*3))) (j.block _ a2 W)).T X;have t:Hid (ZfG w K M _ _ _ n _ _ _ _ _ {s with p:=T.1,g:=T.2} _):=⟨⟨q,⟨_,_,_,_,g⟩,l⟩,j.d⟩;clear g x l j))
   all_goals go_wp2
   all_goals go_ret
   all_goals rw[o]
   all_goals exact⟨rfl,t⟩
  refine v_ ?_;go_wp2_with fail
  go_region_held3 (λw'=>w'.cell? (J rb 0)=some (L_ fb n n)/\w'.cell? (J rb 5)=some (V H s.row.length L)/\w'.cell? (J fb (s.row.length*3))=some (.func (.func 214) #[] #[P_ y])) (go_keep) (first|(go_at_call 214;apply (D).m;rintro e w' ⟨rfl,⟨q,z,g,x,l⟩,j⟩;have u:=g.v.head.1;have N:=g.v.head.2.2.2.2.2;have A:w'.cell? _=some (.func (.func 214) _ _):=(cb_ (w:=w.drew) (a:=(J fb (s.row.length*3))) (j.block _ a2 W)).T X;have t:Hid (ZfG w K M _ _ _ n _ _ _ _ _ {s with p:=T.1,g:=T.2} _):=⟨⟨q,⟨_,_,_,_,g⟩,l⟩,j.d⟩;clear g x l j))
  all_goals go_wp2
  all_goals go_ret
  all_goals rw[o]
  all_goals exact⟨rfl,t⟩
 | none=>
  rw[Q] at P;have D:=Y P
  have c4:=show Hid _ from Q
  clear P Q;refine v_ ?_;go_wp2_with fail
  go_cut [21] (λj g=>j=.bool false/\∃k v,Hid (Qx g K k rb fb cb n wd sc ct bins size s a (V H s.row.length L) v b)/\Hid ((∀f,k f->M f∨w.1.size<=f)/\Aa M w g))
  case first=>
   rcases b8 with⟨rfl,rfl⟩|⟨y,rfl,rfl⟩
   ·go_region_held3 (λw'=>w'.cell? (J rb 0)=some (L_ fb n n)/\w'.cell? (J rb 5)=some (V H s.row.length L)/\w'.cell? (J fb (s.row.length*3))=some (.func (.func 209) #[] #[])) (go_keep) (first|(go_at_call 209;apply (D).m;rintro e w' ⟨rfl,⟨q,z,g,x,l⟩,j⟩;have u:=g.v.head.1;have N:=g.v.head.2.2.2.2.2;have A:w'.cell? _=some (.func (.func 209) _ _):=(cb_ (w:=w.drew) (a:=(J fb (s.row.length*3))) (j.block _ a2 W)).T X;have t:Hid (∃k v,Hid (Qx w' K k rb fb cb n wd sc ct _ _ s a _ v b)/\Hid ((∀f,k f->M f∨w.1.size<=f)/\_)):=⟨q,z,g,l,j.d⟩;clear g x l j))
    all_goals go_wp2
    all_goals go_meet
    all_goals exact⟨rfl,t⟩
   go_region_held3 (λw'=>w'.cell? (J rb 0)=some (L_ fb n n)/\w'.cell? (J rb 5)=some (V H s.row.length L)/\w'.cell? (J fb (s.row.length*3))=some (.func (.func 214) #[] #[P_ y])) (go_keep) (first|(go_at_call 214;apply (D).m;rintro e w' ⟨rfl,⟨q,z,g,x,l⟩,j⟩;have u:=g.v.head.1;have N:=g.v.head.2.2.2.2.2;have A:w'.cell? _=some (.func (.func 214) _ _):=(cb_ (w:=w.drew) (a:=(J fb (s.row.length*3))) (j.block _ a2 W)).T X;have t:Hid (∃k v,Hid (Qx w' K k rb fb cb n wd sc ct _ _ s a _ v b)/\Hid ((∀f,k f->M f∨w.1.size<=f)/\_)):=⟨q,z,g,l,j.d⟩;clear g x l j))
   all_goals go_wp2
   all_goals go_meet
   all_goals exact⟨rfl,t⟩
  obtain⟨rfl,k,v,a5,j⟩:=hcut;clear d8 d9 X a2 W D b8;have F:=Y (qz _ _ n n _ _ _ _ _ _ _ _ _ a5.v O O);have aA:Hid (∀g,Calls _ _ _ _ λe w'=>e=.returned (.bool (Ep s.p.g))/\_):=λg=>Zdk _ _ _ _ _ _ _ {s.p with e:=v} (wc.drewN g) a5.v;have a7:Hid (∀g,Qx (wc.drewN g) K _ _ _ _ n _ _ _ _ _ s _ _ _ _):=λg=>a5.p (S:=λ_=>False) ⟨rfl,rfl,rfl,x_,λ_ _ _=>rfl⟩ (λ_ _=>id);have a4:Hid (∀g,Aa M w (wc.drewN g)):=λg=>⟨j.2.os,j.2.tape,j.2.output,j.2.size,j.2.block⟩;have E:Hid (Er n wd sc s i=if i=Eg s.row.length n/\Ep s.p.g=true then some (He n s (s.row++[Hn s.p s.g])) else none):=(by show Er n wd sc s i=_;unfold Er;rw[c4]);clear c4
  by_cases B:i=Eg s.row.length n
  ·by_cases R:Ep s.p.g=true
   ·have o:Hid (Er n wd sc s i=some (He n s (s.row++[Hn s.p s.g]))):=(by show _=_;rw[E,aD ⟨B,R⟩]);rw[R] at aA;rw[<- B] at F;clear B R E;go_upto_region 5 with(first|(go_at_call 219;apply (F).m;rintro e w' ⟨rfl,g,rfl⟩)|(go_at_call 220;apply (aA _).m;rintro e w' ⟨rfl,aB⟩;obtain rfl:=aB.s))
    have⟨G,c6⟩:=Z_ ((a7 g).p (S:=λ_=>False) (Aa.refl _ _).drew (λ_ _=>id)) ((a4 g).drew);clear a7 a4 F aA a5;generalize wc.drewN g=g0 at *;have g8:=a9.num.le;have g7:=a9.num.b;have c7:Hid (C_ 221 _ g0.drew λe w'=>e=.returned (.agg #[.bool (decide (s.p.g=0)),.int .i64 (Sr s.p),.string (strOfNums s.g)])/\_):=Zhr _ 0 _ _ _ _ _ _ {s.p with e:=v} _ _ ⟨G.v,G.w⟩ (by show _<=s.p.num;omega) (by show s.p.num<=_;omega);have c9:=G.v.head.2.2.2.2.2;refine Af (λw'=>w'.cell? _=some _) 13 k_ c9 (λhHeld=>?_);refine K_ ?_;refine on_ 8 λKK hK=>?_;go_simp;apply (c7).m;rintro e c2 ⟨rfl,a8⟩;have c8:=W_ a8 G.v.head.2.2.2.2.2;have⟨y,b4⟩:=Z_ (G.p (Aa.a (S:=λ_=>False) a8) (λ_ _=>id)) (c6.below a8);clear a8;go_simp;refine hK _ _ c8 (λhHeld=>?_)
    clear hK KK;try simp only[Act.put,sA,sB,sC]
    refine on_ 9 λKK hK=>?_;go_simp;refine hK _ _ (by go_keep) (λhHeld=>?_);clear hK KK;try simp only[Act.put,sA,sB,sC]
    refine on_ 10 λKK hK=>?_;refine aq_ (Iy (Hn s.p s.g)) (ra_ y.or _) ?_ (h1:=by simp[Iy,oneCell']);rintro h3 c3 ⟨d4,b9,d3,_,u,t,rfl⟩;have A:=RB.grown (w:=c2.alloc _) ((hc_ y.v.lt).T y.v) b9 (λe=>Ah y.or e.s y.v C rfl);have N:=A.head.2.2.2.2.2;have e2:=A.part.2.2.2.2.2.2;have d2:=(((((((A.h (L_ u (s.row.length+1) t)).g 0).neg false).dig 0).unit 0).num 0).e (N_));have d6:=((((((ZdI (u:=L_ u (s.row.length+1) t) (j:=5) b9 rb).setCell (p:=(J rb 6)) (λ_=>.inl rfl) (I 0)).setCell (p:=(J rb 7)) (λ_=>.inl rfl) (.bool false)).setCell (p:=(J rb 8)) (λ_=>.inl rfl) (I 0)).setCell (p:=(J rb 9)) (λ_=>.inl rfl) (I 0)).setCell (p:=(J rb 10)) (λ_=>.inl rfl) (I 0)).setCell (p:=(J rb 11)) (λ_=>.inl rfl) (N_)
    have c1:=Kq.E d4;have d5:=((((((Aa.refl (λf=>f=rb) c3).setCell (p:=(J rb 5)) (λ_=>rfl) (L_ u (s.row.length+1) t)).setCell (p:=(J rb 6)) (λ_=>rfl) (I 0)).setCell (p:=(J rb 7)) (λ_=>rfl) (.bool false)).setCell (p:=(J rb 8)) (λ_=>rfl) (I 0)).setCell (p:=(J rb 9)) (λ_=>rfl) (I 0)).setCell (p:=(J rb 10)) (λ_=>rfl) (I 0);have c5:=Y (y.putRow (s:=s) (p:=part0) (bs:=[]) (wt:=s.h) (fl:=s.A) d6 d2 (c1.p (d5.setCell (p:=(J rb 11)) (λ_=>rfl) _) (λf a3 e=>Ah c1 a3 A C e)) (by rcases ZjP d3 with l|l;exact .inl l;exact .inr (.inr l)) (Ax.nil _ _) (.inl rfl));have e0:(c3.setCell _ (L_ u (s.row.length+1) t)).cell? _=_:=(A.h _).head.2.2.2.2.2;have e1:=(A.h (L_ u (s.row.length+1) t)).part;obtain⟨e5,e6,e7,e8,e3,e4,e9⟩:=e1
    clear d4 b9 d3 A d2 d6 c1 d5;refine hK _ _ N (λhHeld=>?_);clear hK KK;refine K_ ?_;refine le_ ?_;have b2:=Y c5;clear c5 c7 G c6 hHeld c8 N e2 c9;go_upto_region 7 with fail;clear e5 e6 e7 e8 e3 e4 e9 e0;generalize (((((((c3.setCell (J rb 5) (L_ u (s.row.length+1) t)).setCell (J rb 6) (I 0)).setCell (J rb 7) (.bool false)).setCell (J rb 8) (I 0)).setCell (J rb 9) (I 0)).setCell (J rb 10) (I 0)).setCell (J rb 11) (N_))=U at *;obtain⟨z,b5⟩:∃z:Nat->Prop,z=(λf=>k f∨(L_ u (s.row.length+1) t).ownBlock=some f):=⟨_,rfl⟩;have b0:Hid ((∀f,z f->k f∨c2.1.size<=f)/\Aa k c2 U):=b5 ▸ b2.2;have a6:Hid (Qx U K z rb fb cb n wd sc ct bins size {s with row:=s.row++[Hn s.p s.g],p:=part0,g:=[]} a (L_ u (s.row.length+1) t) (N_) b):=b5 ▸ b2.1;have x:=Y (b4.c b0.2 j.1)
    have b1:Hid (∀f,z f->M f∨w.1.size<=f):=λf a3=>by
     rcases b0.out.1 f a3 with l|l
     exact j.1 f l;exact .inr (p_ b4.size)
    have g4:=a6.v.head.1;have g5:=a6.v.head.2.2.2.2.2;have f3:∀h,_->(s.a h).length<=200:=λh f4=>p_ (a9.h h f4);clear b5 b2 b0 y b4 j
    by_cases c0:s.row.length+1=n
    ·have b3:Hid (He n s (s.row++[Hn s.p s.g])={({s with row:=s.row++[Hn s.p s.g],p:=part0,g:=[]}:RS) with k:=s.k++[s.h],a:=λh=>if h<n then s.a h++[(s.row++[Hn s.p s.g]).getD h Aw] else s.a h,h:=0,A:=false,row:=[]}):=by show _=_;unfold He;rw[aD (by simp;exact c0)]
     have d7:Hid (∀g,C_ 222 #[P_ rb] (U.drewN g) λe w'=>e=.returned (.tuple #[])/\ZfG (U.drewN g) K z rb fb cb n wd sc ct bins size {({s with row:=s.row++[Hn s.p s.g],p:=part0,g:=[]}:RS) with k:=s.k++[s.h],a:=λh=>if h<n then s.a h++[(s.row++[Hn s.p s.g]).getD h Aw] else s.a h,h:=0,A:=false,row:=[]} w'):=λg=>ZcT (w:=U.drewN g) (a6.p (w':=U.drewN g) (S:=λ_=>False) ⟨rfl,rfl,rfl,x_,λ_ _ _=>rfl⟩ (λ_ _=>id)) (by simp;exact c0) f5 (by show s.k.length<=200;omega) f3;go_big_quiet (fail);go_wp2_with (go_at_call 222;apply (d7 _).m;rintro e l ⟨rfl,f1⟩)
     go_ret;rw[o,b3];obtain⟨⟨q,f2,f7⟩,a1⟩:=f1;refine⟨rfl,⟨q,f2,λf a3=>?_⟩,x.c ⟨a1.os,a1.tape,a1.output,a1.size,a1.block⟩ b1⟩
     rcases f7 f a3 with l|l
     exact b1 f l;exact .inr (aG x.size l)
    have b3:Hid (He n s (s.row++[Hn s.p s.g])={s with row:=s.row++[Hn s.p s.g],p:=part0,g:=[]}):=(by show _=_;unfold He;rw[aC (by simp;exact c0)]);have l:(((s.row.length:_)+1)==(n:Int))=_:=aO O;go_big_quiet (fail);go_wp2;go_ret;rw[o,b3];exact⟨rfl,⟨z,⟨_,_,_,_,a6.p (S:=λ_=>False) ⟨rfl,rfl,rfl,x_,λ_ _ _=>rfl⟩ (λ_ _=>id)⟩,b1⟩,⟨x.os,x.tape,x.output,x.size,x.block⟩⟩
   have q:Ep s.p.g=false:=by simpa using R
   have o:Hid (Er n wd sc s i=none):=(by show _=_;rw[E,aC (λl=>R l.2)]);rw[q] at aA;rw[<- B] at F;clear B R q E;go_wp2_with (first|(go_at_call 219;apply (F).m;rintro e w' ⟨rfl,g,rfl⟩)|(go_at_call 220;apply (aA _).m;rintro e w' ⟨rfl,aB⟩;obtain rfl:=aB.s))
   go_ret;rw[o];exact⟨rfl,⟨k,⟨_,_,_,_,a7 _⟩,j.1⟩,a4 _⟩
  have o:Hid (Er n wd sc s i=none):=(by show _=_;rw[E,aC (λl=>B l.1)]);have l:=aO B;generalize Eg s.row.length n=q at *;clear E;go_wp2_with (first|(go_at_call 219;apply (F).m;rintro e w' ⟨rfl,g,rfl⟩)|(go_at_call 220;apply (aA _).m;rintro e w' ⟨rfl,aB⟩;obtain rfl:=aB.s))
  go_ret;rw[o];exact⟨rfl,⟨k,⟨_,_,_,_,a7 _⟩,j.1⟩,a4 _⟩
end
def Zgf{g d b a}(f:Ad g d b a):∃c e,b=.slice c a.length e:=by
 rcases f.2 with⟨rfl,i⟩|⟨k,j,h,rfl,_⟩
 ·grind
 grind
def Zmp(c:World)(K a:Nat->Prop)(k h f i:Nat)(o:Nat->Bool)(m g:Nat->Int)(e n:Int)(j:Except Int RS)(b:Ending)(d:World):Prop:=
 match j with
 |.error p=>b=.returned (.int .i64 p)/\Aa a c d
 |.ok l=>b=.returned (.int .i64 0)/\ZfG c K a k h f i o m g e n l d
def Is.take{n i e b h f}(a:Is n b)(q:1<=n)(k:∀c,c<n->i c=false->0<=e c/\e c<=3)(r:Cr n i e b f=.ok h):Is n h:=by
 unfold Cr at r;split at r
 ·cases r
 rename_i p;split at r
 ·split at r
  ·cases r
  injection r with r;subst r;exact⟨a.k,a.h,a.d,a.e,a.row,a.num,a.g⟩;rename_i g d;injection r with r;subst r;have:=rg d;exact⟨a.k,a.h,w_,w_,a.row,a.num,a.g⟩
 split at r
 ·rename_i m j hf;injection r with r;subst r
  have g:Gt m/\j.length<=8:=by
   unfold Ar at hf;split at hf
   ·cases d:Cl b.p.g b.g f with
    |none=>grind
    | some o=>
     rw[d] at hf;injection hf with hf;injection hf with h1 h2;subst h1 h2;exact⟨a.num.g _,ym d a.g⟩
   rename_i l
   cases d:Dk (Ca (e b.row.length).toNat) b.p f with
   |none=>grind
   | some o=>
    rw[d] at hf;injection hf with hf;injection hf with h1 h2;subst h1 h2;have:=k _ a.row (by simpa using l);have r:=oj (e b.row.length).toNat O;exact⟨a.num.step r.1 r.2 d,a.g⟩
  exact⟨a.k,a.h,a.d,a.e,a.row,g.1,g.2⟩
 split at r
 ·injection r with r;subst r;unfold He;split;rename_i g;refine⟨?_,λc d=>?_,Int.le_refl 0,w_,by show 0<n;omega,Gt.part0,r_⟩;show(b.k++[b.h]).length<=200;have:=a.k;simp;omega;show(if c<n then b.a c++[(b.row++[Hn b.p b.g]).getD c Aw] else b.a c).length=(b.k++[b.h]).length;rw[aD d];have:=a.h c d;simp[this];rename_i g;have:=a.row;refine⟨a.k,a.h,a.d,a.e,?_,Gt.part0,r_⟩
  grind
 cases r
section
variable {w:World} {K M:Nat->Prop} {rb fb cb n:Nat} {wd:Nat->Bool} {sc ct:Nat->Int} {bins size:Int} {s:RS}
def Zkp c (B:RdM w K M rb fb cb n wd sc ct bins size s)(g:Is n s)(F:n<=4)(G:∀h,h<n->wd h=false->0<=sc h/\sc h<=3)(D:0<=c)(E:c<=255):C_ 98 #[P_ rb,.int .u8 c] w λa m=>Zmp w K M rb fb cb n wd sc ct bins size (Cr n wd sc s c) a m:=by
 obtain⟨P,R,A,Q,d⟩:=B;have⟨H,L,k⟩:=Zgf d.x
 by_cases q:s.k.length=200
 have f:Hid (Cr n wd sc s c=_):=aD q;rw[q] at k;subst k;apply (Zhl _ _ _ _ _ _ _ _ _ c w d.v).m;rintro a m ⟨rfl,rfl⟩;rw[f];exact⟨rfl,Aa.refl _ _⟩;have u:s.k.length<200:=p_ g.k;subst k
 cases j:s.A with
 | false=>
  have y:=d.v;rw[j] at y;apply (ZbW _ _ _ _ _ _ _ _ _ c w y u g.d g.e D E).m;rintro a m ⟨rfl,N,e⟩
  have f:Cr n wd sc s c=match Aq s.h c with|none=>.error 2|some none=>.ok {s with A:=true}|some (some o)=>.ok {s with h:=o}:=by grind [Cr]
  rw[f];obtain⟨t,e⟩:=e;have i:Aa (λb=>b=_∨some b=A.ownBlock) w _:=(Aa.refl _ w).grown t (λb hk _=>.inl (by injection hk with hk;exact hk.s))
  have l:=i.m (λb _ a=>by
   rcases a with a|a
   exact a ▸ d.E
   exact d.F b a.s)
  have v:=d.w.p ((Aa.refl (λb=>b=rb) w).grown t (λb hk _=>w_)) (λb hk a=>by
   have⟨x,r⟩:=Ac d.w hk
   exact d.e r C a)
  have r:∀b,(M b∨A.ownBlock=some b)->M b∨w.1.size<=b:=λb a=>by
   rcases a with a|a
   exact .inl a;exact .inl (d.F b a)
  rcases z:Aq s.h c with _|_|o
  exact⟨rfl,l⟩
  ·skip
   rw[z] at e;exact⟨rfl,⟨_,⟨_,_,_,_,d.g (p:=s.p) (bs:=s.g) (wt:=s.h) (fl:=true) i e.2 v (.inl rfl)⟩,r⟩,l⟩
  skip
  rw[z] at e;have x:=e.2;rw[<- j] at x;exact⟨rfl,⟨_,⟨_,_,_,_,d.g (p:=s.p) (bs:=s.g) (wt:=o) (fl:=s.A) i x v (.inl rfl)⟩,r⟩,l⟩
 | true=>
  have b:=Y (fp c d g F u G)
  have f:Hid (Cr n wd sc s c=match Er n wd sc s c with|some m=>.ok m|none=>.error 2):=by
   show Cr n wd sc s c=_
   grind [Cr,Er]
  have⟨_,t,_,_,o,_⟩:=d.v.head;rw[j] at o;have v:((s.k.length:Int)==200)=_:=aO O;have x:¬(s.k.length:Int)=200:=O;rw[f]
  cases l:Er n wd sc s c with
  | none=>
   rw[l] at b;refine dl_ ?_;go_enter func98,ntmps98;go_wp2_with fail
   apply b.m;rintro a r ⟨rfl,i⟩
   have e:=show Hid _ from i
   simp only[Option.isSome];go_wp2;go_ret;exact⟨rfl,e.2⟩
  | some m=>
   rw[l] at b;go_enter func98,ntmps98;go_wp2_with fail
   apply b.m;rintro a r ⟨rfl,i⟩
   have e:=show Hid _ from i
   simp only[Option.isSome];go_wp2;go_ret;exact⟨rfl,e⟩
end
def Ab(a:ByteArray):List Int:=a.data.toList.map (λb=>b.toNat)
def Bt(c:Nat)(e:Nat->Bool)(d:Nat->Int):RS->List Int->Nat->Except (Int×Nat) RS
 |a,[],_=>.ok a
 | a,f::g,b=>match Cr c e d a f with
  |.error i=>.error (i,b)
  |.ok h=>Bt c e d h g (b+1)
theorem Kl d g f:∀b c e a,Bt d g f e (b++c) a=match Bt d g f e b a with
  |.error i=>.error i
  |.ok h=>Bt d g f h c (a+b.length)
 |[],c,e,a=>by simp[Bt]
 | j ::b,c,e,a=>by
  simp only[cons_append,Bt]
  cases Cr d g f e j with
  |error i=>rfl
  | ok h=>
   have:=Kl d g f b c h (a+1)
   grind
def Is.a{a j f}(k:1<=a)(l:∀c,c<a->j c=false->0<=f c/\f c<=3):∀i {b d h},Is a b->Bt a j f b i h=.ok d->Is a d
 |[],b,d,h,g,e=>by injection e with e;subst e;exact g
 | n::i,b,d,h,g,e=>by
  simp only[Bt] at e
  cases m:Cr a j f b n with
  |error p=>grind
  |ok o=>rw[m] at e;exact Is.a k l i (g.take k l m) e
def tl{c f e d b a}(g:Cr c f e d b=.error a):a=2∨a=3:=by grind [Cr]
structure InX(e:World)(K b)(c a g f j d:Nat)(p)(n k)(h o i)(m)(l:Nat):Prop where
 q:e.1[c]? =some (O_ #[P_ a,.bool false,I 0,I 0] 119)
 r:e.1[a]? =some (O_ #[L_ f d d,I i,P_ g,I l] 158)
 v:RdM e K b g f j d p n k h o m
 w:¬K c/\¬b c
 x:¬K a/\¬b a
section
variable {w:World} {K M:Nat->Prop} {b c rb fb cb n:Nat} {wd:Nat->Bool} {sc ct:Nat->Int} {bins size budget:Int} {s:RS} {a:Nat}
def InX.o(d:InX w K M b c rb fb cb n wd sc ct bins size budget s a):b≠c:=λf=>by have e:=d.q;rw[f,d.r] at e;simp at e
def ZfB(w:World)(K M:Nat->Prop)(b c rb fb cb n:Nat)(wd:Nat->Bool)(sc ct:Nat->Int)(bins size budget:Int)(a:Nat)(g:Except (Int×Nat) RS)(e:World):Prop:=
 (match g with
 |.error (j,h)=>e.1[b]? =some (O_ #[.pointer none,.bool false,I j,I h] 119)
 |.ok i=>∃f,InX e K f b c rb fb cb n wd sc ct bins size budget i a/\(∀d,f d->M d∨w.1.size<=d))/\Aa (λd=>M d∨d=b∨d=c) w e
def Zda e (a1:InX w K M b c rb fb cb n wd sc ct bins size budget s a)(Z:Is n s)(a7:1<=n)(a6:n<=4)(L:∀A,A<n->wd A=false->0<=sc A/\sc A<=3)(b6:a+e.size<=4000000000000000000):C_ 58 #[P_ b,Q_ e] w λj w'=>j=.returned (.tuple #[])/\ZfB w K M b c rb fb cb n wd sc ct bins size budget (a+e.size) (Bt n wd sc s (Ab e) a) w':=by
 have X:=Y a1;refine dl_ ?_;go_enter func58,ntmps58;go_wp2_with fail
 go_loopw [8] (λg f=>∃(d:Nat) (u:RS) (z:Nat->Prop),d<=e.size/\g=I d/\Hid (Bt n wd sc s ((Ab e).take d) a=.ok u)/\Hid (InX f K z b c rb fb cb n wd sc ct bins size budget u (a+d))/\Hid ((∀h,z h->M h∨w.1.size<=h)/\Aa (λh=>M h∨h=b∨h=c) w f)) (m1_ e.size)
 case atStart=>exact⟨0,s,M,r_,rfl,rfl,X,λ_ j=>.inl j,Aa.refl _ _⟩
 obtain⟨d,u,z,a4,rfl,D,g,k⟩:=hrel;have b0:=n_ 0 g.q;have b3:=n_ 2 g.r
 by_cases a5:d<e.size
 ·have b5:=F_ d e.size;go_upto_region 3 with fail;have R:Hid (Calls _ 98 #[_,.int .u8 (e[d].toNat:Int)] _ λj w'=>_):=Zkp (w:=wr.drew) _ (g.v.p (w':=wr.drew) (S:=λ_=>False) (Aa.refl _ _).drew (λ_ _=>id)) (Is.a a7 L _ Z D) a6 L O (p_ (UInt8.toNat_lt e[d]));refine Af (λw'=>w'.cell? _=some _/\w'.cell? _=some _) 10 k_ ⟨b0,b3⟩ (λhHeld=>?_);refine K_ ?_;refine Eu (i:=10) k_ rfl k_ (λKK hK=>?_);go_simp;apply (R).m;intro j x r;have q:=Y r
  have a2:∃h:Int,j=.returned (I h):=by
   unfold Zmp at r
   cases t:Cr n wd sc u (e[d].toNat:Int) with
   |error h=>rw[t] at r;exact⟨h,r.1⟩
   |ok P=>rw[t] at r;exact⟨0,r.1⟩
  obtain⟨h,rfl⟩:=a2;go_simp;apply hK _ _;try simp only[Act.put,sA,sB,sC]
  refine Eu (i:=11) k_ rfl k_ (λKK hK=>?_);go_simp;apply hK _ _;refine Fn k_ ?_ _;have T:Hid ((Ab e).take (d+1)=(Ab e).take d++[(e[d].toNat:Int)]):=(by show _=_;rw[Qi (by unfold Ab;rw[length_map];exact a5)];congr 2;simp only[Ab,getElem_map];rfl);have y:Hid (Bt n wd sc s ((Ab e).take (d+1)) a=match Cr n wd sc u e[d].toNat with|.error h=>.error (h,a+d)|.ok P=>.ok P):=(by show _=_;rw[T,Kl,D];have f:((Ab e).take d).length=d:=(by rw[length_take];unfold Ab;rw[length_map];exact Nat.min_eq_left a4);simp only[f,Bt]);have a8:=g.o
  cases G:Cr n wd sc u (e[d].toNat:Int) with
  | error b8=>
   rw[G] at q y;have B:Hid (_/\_):=⟨by have:=q.1;injection this,q.2⟩;obtain⟨hz,t⟩:=B;injection hz with _ hz;subst hz;have m:=t.d;have l:=m.g g.q g.w.2;have v:=m.g g.r g.x.2;have b1:=n_ 0 l;have Q:=n_ 2 l;have U:=n_ 3 l;have W:=λH=>R_ H _ _ l;have b4:=n_ 3 v;have F:(((x.setCell (J b 2) (I h)).setCell (J b 3) (I (a+d:Nat))).setCell (J b 0) (.pointer none)).1[b]? =some (O_ #[.pointer none,.bool false,I h,I (a+d:Nat)] 119):=ht_ 0 _ _ _ (ht_ 3 _ _ _ (ht_ 2 _ _ _ l))
   have E:Hid (ZfB w K M b c rb fb cb n wd sc ct bins size budget (a+e.size) (Bt n wd sc s (Ab e) a) (((x.setCell (J b 2) (I h)).setCell (J b 3) (I (a+d:Nat))).setCell (J b 0) (.pointer none))):=(by have j:Bt n wd sc s (Ab e) a=.error (h,a+d):=(by have:Ab e=(Ab e).take (d+1)++(Ab e).drop (d+1):=(take_append_drop _ _).s;rw[this,Kl,y]);rw[j];refine⟨F,?_⟩;have N:=k.2.c m (λi o=>by rcases k.out.1 i o with f|f;exact .inl (.inl f);exact .inr f);exact((N.setCell (p:=(J b 2)) (λ_=>.inr (.inl rfl)) _).setCell (p:=(J b 3)) (λ_=>.inr (.inl rfl)) _).setCell (p:=(J b 0)) (λ_=>.inr (.inl rfl)) _);have f:=Y (tl G)
   rcases f.out with rfl|rfl
   ·go_wp2;exact bodyPost_ret (results_none rfl _ _ _) rfl ⟨rfl,E⟩
   go_wp2;exact bodyPost_ret (results_none rfl _ _ _) rfl ⟨rfl,E⟩
  | ok Q=>
   rw[G] at q y;have B:Hid (_/\_):=⟨by have:=q.1;injection this,q.2⟩;obtain⟨hz,⟨E,a0,F⟩,t⟩:=B;injection hz with _ hz;subst hz;have m:=t.d;have l:=m.g g.q g.w.2;have v:=m.g g.r g.x.2;have b1:=n_ 0 l;have b4:=n_ 3 v;have b7:=λH=>R_ H _ _ v;have a3:=(Qb g.q).1;have a9:=(Qb g.r).1
   have b2:¬_:=λj=>by rcases F b j with f|f;exact g.w.2 f;exact absurd a3 (by simpa using f)
   have N:¬_:=λj=>by rcases F c j with f|f;exact g.x.2 f;exact absurd a9 (by simpa using f)
   have W:Hid (InX (x.setCell (J c 3) (I ((a+d:Nat)+1))) K E b c rb fb cb n wd sc ct bins size budget Q (a+(d+1))):=by
    refine⟨(Below.heap_setCell _ _ _ _ (λj=>a8 j)).T l,?_,a0.p ((Aa.refl (λi=>i=c) _).setCell (p:=(J c 3)) (λ_=>rfl) _) ?_,⟨g.w.1,b2⟩,⟨g.x.1,N⟩⟩;have:=hs_ x c 3 _ 158 (I (((a+d:Nat):Int)+1)) v;rw[this];have:(((a+d:Nat):Int)+1)=((a+(d+1):Nat):Int):=O;rw[this];rfl;intro i o j;subst j
    rcases o with f|f
    exact g.x.1 f;exact N f
   have U:Hid ((∀i,E i->M i∨w.1.size<=i)/\Aa (λi=>M i∨i=b∨i=c) w (x.setCell (J c 3) (I ((a+d:Nat)+1)))):=by
    refine⟨λi o=>?_,?_⟩
    ·rcases F i o with f|f
     exact k.1 i f;exact .inr (aG k.2.size f)
    exact(k.2.c m (λi o=>by rcases k.out.1 i o with f|f;exact .inl (.inl f);exact .inr f)).setCell (p:=(J c 3)) (λ_=>.inr (.inr rfl)) _
   have i:_=((a+d:_):Int)+1:=As O O;generalize ((a+d:Nat):Int)=o at *;go_wp2;go_roundw;case rel=>exact⟨d+1,Q,E,O,g_,y,W,U⟩
   case measure=>exact z_
 obtain rfl:d=e.size:=O;have f:Hid ((Ab e).take e.size=_):=aI (by unfold Ab;rw[length_map];exact x_);go_wp2;go_end0;refine⟨rfl,?_,k.2⟩;rw[<- f,D];exact⟨z,g,k.1⟩
end
def Pq:Except (Int×Nat) RS->Int×Int
  |.error (b,a)=>(b,a)
  |.ok _=>(0,0)
def Uq(d:World)(b:Nat)(a:Bool)(e c:Int):Prop:=d.1[b]? =some (O_ #[.pointer none,.bool a,I e,I c] 119)
section
variable {w:World} {K M:Nat->Prop} {b c rb fb cb n:Nat} {wd:Nat->Bool} {sc ct:Nat->Int} {bins size budget:Int} {s:RS} {a:Nat}
def ZfB.drewN{f o}(j:ZfB w K M b c rb fb cb n wd sc ct bins size budget a f o) h:ZfB w K M b c rb fb cb n wd sc ct bins size budget a f (o.drewN h):=by
 obtain⟨g,d⟩:=j;refine⟨?_,⟨d.os,d.tape,d.output,d.size,d.block⟩⟩
 cases f with
 |error l=>exact g
 | ok m=>
  obtain⟨i,e,k⟩:=g;exact⟨i,⟨e.q,e.r,e.v.p (w':=o.drewN h) (S:=λ_=>False) ⟨rfl,rfl,rfl,x_,λ_ _ _=>rfl⟩ (λ_ _=>id),e.w,e.x⟩,k⟩
def ZiM d (f:InX w K M b c rb fb cb n wd sc ct bins size budget s a)(m:Is n s)(r:1<=n)(q:n<=4)(t:∀g,g<n->wd g=false->0<=sc g/\sc g<=3)(p:a+d.size<=4000000000000000000):C_ 32 #[P_ b,Q_ d] w λh e=>h=.returned (.tuple #[.int .i64 (Pq (Bt n wd sc s (Ab d) a)).1,.int .i64 (Pq (Bt n wd sc s (Ab d) a)).2])/\ZfB w K M b c rb fb cb n wd sc ct bins size budget (a+d.size) (Bt n wd sc s (Ab d) a) e:=by
 have k:=Y (Zda d f m r q t p);have v:=n_ 1 f.q;have x:=n_ 2 f.q;refine dl_ ?_;go_enter func32,ntmps32;go_wp2_with fail
 apply k.m;rintro h j ⟨rfl,e⟩;have l:=Y e
 have o:D_ j b 2 (I (Pq (Bt n wd sc s (Ab d) a)).1)/\D_ j b 3 (I (Pq (Bt n wd sc s (Ab d) a)).2):=by
  cases i:Bt n wd sc s (Ab d) a with
  | error y=>
   rw[i] at e;exact⟨G_ 2 _ _ _ e.1,G_ 3 _ _ _ e.1⟩
  | ok z=>
   rw[i] at e;obtain⟨⟨u,f,_⟩,_⟩:=e;exact⟨G_ 2 _ _ _ f.q,G_ 3 _ _ _ f.q⟩
 obtain⟨i,u⟩:=o;go_wp2_with fail
 go_big_quiet (fail);go_wp2;go_ret2
 exact⟨rfl,l.drewN _⟩
end
def ZcV f d a e c (b:Uq c d false a e)(h:a=2∨a=3):C_ 32 #[P_ d,Q_ f] c λg j=>g=.returned (.tuple #[.int .i64 a,.int .i64 e])/\∃i,j=c.drewN i:=by
 have g:=n_ 1 b;have i:=n_ 2 b;have j:=n_ 3 b
 rcases h with rfl|rfl
 all_goals go_enter func32,ntmps32
 all_goals go_wp2_with fail
 all_goals go_big_quiet (fail)
 all_goals go_wp2
 all_goals go_ret2
 all_goals exact⟨rfl,_,rfl⟩
def Zaq c b f e a (d:Uq a b true f e):C_ 32 #[P_ b,Q_ c] a (V_ (.tuple #[.int .i64 1,.int .i64 0]) a):=by
 have g:=n_ 1 d;refine dl_ ?_;go_enter func32,ntmps32;go_wp2;go_ret2
 exact⟨rfl,rfl⟩
def Xy(a:Int)(b:Nat):Nat:=((if a<0 then -(a+1) else a)%b).toNat
def Pa a {b}(c:0<b):Xy a b<b:=by unfold Xy;have:=Int.emod_lt_of_pos (if a<0 then -(a+1) else a) (show(0:Int)<b by omega);omega
def au(a:List Int)(b:Nat):Int:=if a.length=0 then 0 else a.getD (b%a.length) 0
end Go.Proofs.YtfcgnpchbcmdeaaGreat
namespace Go.Proofs.YtfcgnpchbcmdeaaGreat
set_option linter.all false
set_option maxRecDepth 100000
set_option maxHeartbeats 4000000
open Go List Nat World Go.Proofs.Tryz Value IntKind Lib Region
section
variable {P:Program} {a:Array Oper} {Q:Exit->Act->World->Prop} {b:Region.Mode} {S:World->Prop} {c:Nat}
def Qt{i j k l n h e d}(t:ready b a h=[i,j])(v:a.toList[i]? =some k)(w:a.toList[j]? =some l)(q:∀f:Act->World->Prop,Shut (∀e d,S d->(S d->Cy P b a Q S c n (h.setIfInBounds i true) e d)->f e d)->if wanted k (yielded a e.tmps)=true then Oper.wp P k e d f Q else f (e.put k.dst undef) d)(r:∀f:Act->World->Prop,Shut (∀e d,S d->(S d->Cy P b a Q S c n (h.setIfInBounds j true) e d)->f e d)->if wanted l (yielded a e.tmps)=true then Oper.wp P l e d f Q else f (e.put l.dst undef) d):Cy P b a Q S c (n+1) h e d:=by
 refine⟨λu=>w_,λx p=>?_⟩;rw[t] at p;simp only[mem_cons,not_mem_nil,or_false] at p
 rcases p with m|m
 subst m;exact wpOp_step w_ (λf s=>q _ (λe d g o=>s e d ⟨.inr g,o g⟩));subst m;exact wpOp_step w_ (λf s=>r _ (λe d g o=>s e d ⟨.inr g,o g⟩))
end
end Go.Proofs.YtfcgnpchbcmdeaaGreat
