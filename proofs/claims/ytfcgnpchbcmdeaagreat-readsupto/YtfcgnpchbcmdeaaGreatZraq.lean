import Derived.Test.YtfcgnpchbcmdeaaGreatZrao
import Derived.Deep.Light
namespace Go.Proofs.YtfcgnpchbcmdeaaGreat
set_option linter.all false
set_option maxRecDepth 100000
set_option maxHeartbeats 4000000
open Go.RowKit
def Lo{w t rest o a Q}(D:o.guard=none) s x (J:o.op=.call {callee:=.builtin .append,args:=#[s,x],argTypes:=#[29,29]}) i (O:Tryz.prog.info? 98=some i)(d:i.size=4) p g b n m A B y z (E:A.length=m)(L:n=(A++y::B).length)(V:a.eval s=L_ g m b)(R:Aj w p (L_ g n b) (A++y::B)) I c (S:a.eval x=.slice (some I) 1 c)(q:∀j u,[I_ z.v,I_ z.lo,I_ z.hi,I_ z.wt][j]? =some u->w.cell? (I.add j)=some u)(h:∀w',Aj w' p (L_ g n b) (A++z::B)->w.grownBy w' (some g)->wpList Tryz.prog t Q rest (a.put o.dst (L_ g (m+1) b)) w'):wpList Tryz.prog t Q (o::rest) a w:=by
 subst L
 rcases R.2 with⟨e,_⟩|⟨g',cap',cur,e,hb,hg,hnc,hcm,hcs,htake⟩
 simp at e;simp only[Value.slice.injEq,Option.some.injEq,Addr.mk.injEq,and_true,true_and] at e;obtain⟨rfl,rfl⟩:=e;have r:(A++y::B).length=m+1+B.length:=(by simp[E];omega);have C:(flat A).length=m*4:=(by rw[Ef,E]);refine wpList_plain D λK hK=>?_;have l:=run_append_room (P:=Tryz.prog) w 29 o.type 98 i Tryz.underlying29 O g m b _ hg _ 1 c _ (by rw[d];rfl) q (Ql _ _ _ _) o_ (by rw[d,hcs];simp;omega);rw[d] at l;have H:cur.toList=flat (A++y::B)++cur.toList.drop ((A++y::B).length*4):=by rw[<- htake,List.take_append_drop]
 have f:cur.toList.take (m*4)++[I_ z.v,I_ z.lo,I_ z.hi,I_ z.wt]++cur.toList.drop (m*4+4)=flat (A++z::B)++cur.toList.drop ((A++y::B).length*4):=by
  rw[H];generalize cur.toList.drop ((A++y::B).length*4)=T;rw[Cu,Cu];have U:(flat A++flat (y::B)++T).take (m*4)=flat A:=by rw[List.append_assoc,<- C,List.take_left]
  have M:(flat A++flat (y::B)++T).drop (m*4+4)=flat B++T:=(by rw[List.append_assoc,<- List.drop_drop,<- C,List.drop_left];simp[flat,Ee]);have N:List.drop ((A++y::B).length*4) (flat A++flat (y::B)++T)=T:=(by rw[<- Cu,<- Ef,List.drop_left]);rw[U,M,N];simp[flat,Ee]
 have G:(flat (A++z::B)++cur.toList.drop ((A++y::B).length*4)).length=b*4:=(by have F:cur.toList.length=b*4:=(by rw[Array.length_toList,hcs]);rw[Qe,Ef,List.length_drop,F];rw[r] at hnc ⊢;have:(A++z::B).length=m+1+B.length:=(by simp[E]<;>omega);omega);unfold Oper.wp;simp only[execOp,J,resolve,invoke,builtin,Sem.run_bind,Sem.run_pure,Result.andThen_ok,List.map_toArray,List.map_cons,List.map_nil,V,S,l];refine hK _ _ (h _ ?_ ?_)
 ·refine⟨by rw[Ef],.inr ⟨g,b,_,s_,hb,setRow_heap w g _ _ _ _ hg,?_,hcm,?_,?_⟩⟩
  ·simpa using hnc
  simp only[List.length_cons,List.length_nil] at f ⊢;rw[List.size_toArray];simp only[Nat.zero_add,Nat.reduceAdd];rw[f];exact G;simp only[List.length_cons,List.length_nil,Nat.zero_add,Nat.reduceAdd];rw[f,show(A++z::B).length*4=(flat (A++z::B)).length by rw[Ef],List.take_left]
 exact⟨rfl,rfl,rfl,by simp[World.setRow],λk _ hk=>setRow_other w g k _ (λe=>hk (by rw[e]))⟩
def Aj.prefix{w a g b n m A B}(h:Aj w a (L_ g n b) (A++B))(d:n=(A++B).length)(c:m=A.length):Aj w a (L_ g m b) A:=by
 subst d c
 rcases h.2 with⟨e,_⟩|⟨g',cap',cur,e,hb,hg,hnc,hcm,hcs,htake⟩
 simp at e;simp only[Value.slice.injEq,Option.some.injEq,Addr.mk.injEq,and_true,true_and] at e;obtain⟨rfl,rfl⟩:=e;refine⟨Ef A,.inr ⟨g,b,cur,rfl,hb,hg,by simp at hnc;omega,hcm,hcs,?_⟩⟩;have:(flat (A++B)).take (A.length*4)=flat A:=(by rw[Cu,<- Ef,List.take_left]);rw[<- this,<- htake,List.take_take];congr 1;simp<;>omega
def ZiY{a}(b:∀p∈a,1<=p.2) v:Mt a v<=By a:=by
 induction a with
 |nil=>simp[Mt,By]
 | cons p r ih=>
  have d:=ih (λq hq=>b q (by simp[hq]));have c:=b p s_;simp only[Mt,By];split<;>omega
def je(W:World){n}(a:W.heap.size=n) c:∀j u,c.toList[j]? =some u->(W.alloc (.cells c 98)).cell? (((A_ n 0):Addr).add j)=some u:=by subst a;exact Am W c _
def Hp{w w' w'':World}{r}(h:w.grownBy w' r)(k:w'.grownBy w'' r):w.grownBy w'' r:=
 ⟨k.os.trans h.os,k.tape.trans h.tape,k.output.trans h.output,Nat.le_trans h.size k.size,λi hi hne=>(k.block i (Qh hi h.size) hne).trans (h.block i hi hne)⟩
def Lz{w w' r}(h:Below w.heap.size w w'):w.grownBy w' r:=⟨h.os,h.tape,h.output,h.size,λk hk _=>h.block k hk⟩
structure Pq(S:List (Int×Int))(i)(M)(G:List Ct):Prop where
 sum:Ed (S.take i) M
 len:M.length+G.length=i
def Ey(S:List (Int×Int))(i:Nat)(M:List (Int×Int))(G:List Ct):List Ct:=M.map Jd++(G++(S.drop i).map Jd)
def Zdi{S i M G}(h:Pq S i M G)(a:i<=S.length):(Ey S i M G).length=S.length:=by have:=h.len;simp[Ey];omega
def lq{S:List (Int×Int)}{i} hi:S.take (i+1)=S.take i++[S[i]]:=Qi hi
def Zdj{S i M G v w}(h:Pq S i (M++[(v,w)]) G) a (b:v=S[i].1):Pq S (i+1) (M++[(v,w+S[i].2)]) (G++[Jd S[i]]):=by refine⟨?_,by have:=h.len;simp at this ⊢;omega⟩;rw[lq a];have:=h.sum.same S[i].2;rw[show S[i]=(v,S[i].2) from Prod.ext b.symm rfl];exact this
def jd{S i M G}(h:Pq S i M G) s (o:S.Pairwise λp q=>p.1<=q.1)(l:∀v w N,M=N++[(v,w)]->v≠S[i].1):Ed (S.take (i+1)) (M++[S[i]]):=by
 rw[lq s];refine h.sum.more _ λq hq=>?_;have k:q.1<=S[i].1:=by obtain⟨j,f,e⟩:=List.mem_iff_getElem.1 hq;rw[List.getElem_take] at e;rw[<- e];exact List.pairwise_iff_getElem.1 o j i (by simp at f;omega) _ (by simp at f;omega)
 rcases Int.lt_or_eq_of_le k with n|n
 exact n;exfalso;obtain⟨r,b,x⟩:=h.sum.all q hq;have c:=List.ne_nil_of_mem b;have d:=(List.dropLast_concat_getLast c).symm;refine l _ _ _ d ?_;have u:(M.getLast c).1<=S[i].1:=by obtain⟨t,g,m⟩:=h.sum.sub _ (List.getLast_mem c);obtain⟨j,f,e⟩:=List.mem_iff_getElem.1 g;rw[List.getElem_take] at e;rw[<- m,<- e];exact List.pairwise_iff_getElem.1 o j i (by simp at f;omega) _ (by simp at f;omega)
 have y:r.1<=(M.getLast c).1:=by
  have a:=h.sum.rise;rw[d] at b a
  rcases List.mem_append.1 b with b|b
  have:=(List.pairwise_append.1 a).2.2 r b (M.getLast c) s_;omega;simp at b;rw[b];exact Int.le_refl _
 omega
def Yu{S i M G}(h:Pq S i M G) c:∃y B G',Ey S i M G=M.map Jd++y::B/\Ey S (i+1) (M++[S[i]]) G'=M.map Jd++Jd S[i]::B/\(M++[S[i]]).length+G'.length=i+1:=by
 have b:=h.len;have a:=List.drop_eq_getElem_cons c
 cases G with
 |nil=>exact⟨Jd _,(S.drop (i+1)).map _,[],by unfold Ey;rw[a,List.map_cons,List.nil_append],by unfold Ey;simp,by simp at b ⊢;omega⟩
 |cons y G=>exact⟨y,G++Jd _::(S.drop (i+1)).map _,G++[Jd S[i]],by unfold Ey;rw[a,List.map_cons];rfl,by unfold Ey;simp,by simp at b ⊢;omega⟩
def jc g a (S:List (Int×Int)) j w (h:Aj w j (L_ g S.length a) (S.map Jd))(hs:S.Pairwise λp q=>p.1<=q.1)(hp:∀p∈S,1<=p.2/\p.2<=1000)(hl:S.length<=2097152):C_ 83 #[.slice (some ⟨g,0,none⟩) S.length a] w λe w'=>∃M,e=.returned (.slice (some ⟨g,0,none⟩) M.length a)/\Ed S M/\M.length<=S.length/\Aj w' j (.slice (some ⟨g,0,none⟩) M.length a) (M.map Jd)/\w.grownBy w' (some g):=by
 obtain⟨i0,D,aE,U,a5⟩:=info_parts Qq;have aB:=(rl_ h g rfl).2
 have a2:S.length<=a:=by
  rcases h.2 with⟨e,_⟩|⟨g',cap',cur,e,hb,hg,hnc,_⟩
  simp at e;simp only[Value.slice.injEq,Option.some.injEq,Addr.mk.injEq,and_true] at e;simp at hnc;omega
 have HO:=x1_ h;have HS:=x1_ hs;have HP:=x1_ hp;clear h hs hp;go_enter Tryz.func83,Tryz.ntmps83;go_wp2_with fail
 go_loopw [3,11] (λtm ti wr=>∃(i:Nat) (M:List (Int×Int)) (G:List Ct),i<=S.length/\ti=.int .i64 i/\tm=.slice (some ⟨g,0,none⟩) M.length a/\Hid (Pq S i M G/\Aj wr j (.slice (some ⟨g,0,none⟩) S.length a) (Ey S i M G)/\w.grownBy wr (some g))) (λ_ ti _=>S.length-(intOf ti).toNat)
 case atStart=>exact⟨0,[],[],qg_,rfl,rfl,⟨Ed.nil,rfl⟩,by simpa [Ey] using HO.out,Bp _ _⟩
 case round=>
  obtain⟨i,M,G,hi,rfl,rfl,HR⟩:=hrel;obtain⟨n,f,C⟩:=HR;have X:=x1_ C;have aC:=C.size;have a4:g<wr.heap.size:=o_
  by_cases hil:i<S.length
  ·have a6:=n.len;have V:=List.drop_eq_getElem_cons hil;have E:Ey S i M G=(M.map Jd++G)++Jd S[i]::(S.drop (i+1)).map Jd:=(by unfold Ey;rw[V,List.map_cons,List.append_assoc]);have x:=Zdi n o_;have m:=f;rw[E] at m;obtain⟨c0,c1,c2,c3,cf⟩:=m.at (by rw[<- E,x]) (show(M.map Jd++G).length=i by simp;omega);simp only[Jd] at c0 c1 c2 c3;have a9:=HP _ (Qf hil);have a7:0<=(i:Int):=o_;have aD:i<(S.length:Int):=o_;have F:=x1_ f;clear f m C
   rcases List.eq_nil_or_concat M with W|⟨N,p,W⟩
   ·subst W;obtain⟨y,B,Q,l,z,A⟩:=Yu n hil;have k:Pq S _ _ _:=⟨jd n _ HS (λv w N e=>by simp at e),A⟩;have s:=x1_ k;have H:=x1_ z;have L:=x1_ (l ▸ F)
    have I:Hid (_=(_++y::B).length):=show _=_ by rw[<- l,x]
    clear k l z A;generalize S[i]=q at *;go_wp2_with fail
    go_big_quiet (fail);go_wp2_with (at_builtin;refine Lo rfl _ _ rfl i0 D U _ g a _ 0 [] B y (Jd q) rfl I rfl (L.below h_) _ 1 rfl (je _ s_ _) ?_)
    intro w5 c t;have O:Hid (Aj w5 j (L_ g S.length a) (Ey S (i+1) ([]++[q]) Q)):=(by rw[H];exact c);have J:=x1_ (Hp X (Hp (Lz h_) t));clear c t;refine rd_ ?_;exact⟨i+1,[]++[q],Q,o_,g_,s_,s,O,J⟩
   rw[List.concat_eq_append] at W;subst W;obtain⟨o,u⟩:=p;have b:Ey S i (N++[(o,u)]) G=N.map Jd++Jd (o,u)::(G++(S.drop i).map Jd):=(by unfold Ey;simp);have d:=F.out;rw[b] at d;obtain⟨d0,d1,d2,d3,_⟩:=d.at (by rw[<- b,x]) (show(N.map Jd).length=N.length by simp);simp only[Jd] at d0 d1 d2 d3;have P:u=Mt _ o:=n.sum.wt (o,u) s_;have R:∀r∈S.take i,_:=λr hr=>(HP r (List.mem_of_mem_take hr)).1;have a3:0<=u/\u<=1000*2097152:=by have h1:=We R o;have h2:=ZiY R o;have h3:=Ry (ps:=S.take i) (λr hr=>(HP r (List.mem_of_mem_take hr)).2);have h4:(S.take i).length<=2097152:=t_;omega
   have aF:0<=(N.length:Int):=o_;have aA:N.length<i:=(by have:=n.len;simp at this;omega);have a8:N.length<(N.length:Int)+1:=o_;have dg:decide (_<=_)=_:=decide_eq_true o_
   by_cases hv:o=S[i].1
   ·have k:=Zdj n _ hv;have s:=x1_ k
    have Z:Hid (Ey S (i+1) (N++[(o,u+S[i].2)]) (G++[Jd S[i]])=N.map Jd++⟨o,0,0,u+S[i].2⟩::(G++(S.drop i).map Jd)):=show _=_ by unfold Ey;rw[V];simp only[List.map_append,List.map_cons,List.map_nil,List.append_assoc,List.cons_append,List.nil_append,Jd]
    have T:=x1_ d
    have Y:Hid (_=(N.map _++_).length):=show _=_ by rw[<- b,x]
    have a0:=beq_iff_eq.2 hv;clear k P d b hv;generalize S[i]=q at *;go_wp2_with fail
    go_big_quiet (fail);go_wp2_with fail
    go_region
    all_goals go_wp2
    all_goals
     go_roundw
     case rel=>
      refine⟨i+1,N++[(o,u+q.2)],G++[Jd q],o_,g_,s_,s,?_,?_⟩;rw[Z];exact(T.below h_).store Y s_ (Wz s_ _);refine Bm (Hp X (Lz ?_)) _ _
      repeat(first|with_reducible exact bz_|with_reducible refine below_drewN ?_ _|with_reducible refine Below.drew ?_|with_reducible refine Below.alloc ?_ u_ _)
     case measure=>exact z_
   have a0:=beq_eq_false_iff_ne.2 hv;obtain⟨y,B,Q,l,z,A⟩:=Yu n hil;have k:Pq S _ _ _:=⟨jd n _ HS (λv w N2 e=>by have:=(List.append_inj_right' e rfl);simp at this;rw[<- this.1];exact hv),A⟩;have s:=x1_ k;have H:=x1_ z;have L:=x1_ (l ▸ F)
   have I:Hid (_=(_++y::B).length):=show _=_ by rw[<- l,x]
   clear k l z A;clear P d b hv;generalize S[i]=q at *;go_wp2_with fail
   go_big_quiet (fail);go_wp2_with (at_builtin;refine Lo rfl _ _ rfl i0 D U _ g a _ _ _ B y (Jd q) s_ I rfl (L.below h_) _ 1 rfl (je _ s_ _) ?_)
   intro w5 c t;have O:Hid (Aj w5 j (L_ g S.length a) (Ey S (i+1) ((N++[(o,u)])++[q]) Q)):=(by rw[H];simp only[List.map_append,List.map_cons,List.map_nil,List.append_assoc,List.cons_append,List.nil_append];exact c);have J:=x1_ (Hp X (Hp (Lz h_) t));clear c t;refine rd_ ?_;exact⟨i+1,(N++[(o,u)])++[q],Q,o_,g_,s_,s,O,J⟩
  have a1:S.length=i:=o_;have HF:Hid (Ed S M/\Aj wr j (L_ g M.length a) (M.map Jd)):=by refine⟨by have:=n.sum;rwa [List.take_of_length_le o_] at this,?_⟩;have hd:Ey S i M G=M.map Jd++G:=(by unfold Ey;rw[List.drop_eq_nil_of_le o_];simp);rw[hd] at f;exact f.prefix (by have:=n.len;simp;omega) s_
  have HL:Hid (M.length<=S.length):=show _<=_ by have:=n.len;omega
  clear f C a1 n;go_wp2;go_ret;exact⟨M,rfl,HF.1,HL,HF.2,X⟩
def ZjT:(Tryz.prog.info? 29).map (λi=>(i.zero,i.size,i.bytes))=some (some (.slice none 0 0),1,24):=k_
def Aj.seen{w b v L}(h:Aj w b v L)(f:L.length<=4194304):∃a c,v=.slice a L.length c/\Dh w a L/\(a=none->c=0)/\L.length<=c:=by
 have d:=h
 rcases h.2 with⟨rfl,h0⟩|⟨g,cap,cur,rfl,_,hh,hnc,_⟩
 exact⟨none,0,by rw[h0],⟨f,.inl h0⟩,λ_=>rfl,o_⟩;refine⟨_,cap,rfl,⟨f,.inr ⟨g,0,rfl,?_⟩⟩,(λe=>by cases e),hnc⟩
 have j:∀i,i<L.length->w.cell? (A_ g (i*4))=some (I_ (L.getD i e0).v)/\w.cell? (A_ g (i*4+1))=some (I_ (L.getD i e0).lo)/\w.cell? (A_ g (i*4+2))=some (I_ (L.getD i e0).hi)/\w.cell? (A_ g (i*4+3))=some (I_ (L.getD i e0).wt)/\∀o,w.frozen? (A_ g o)=false:=λi hi=>by have e:L=L.take i++L.getD i e0::L.drop (i+1):=(by grind [List.drop_eq_getElem_cons,List.take_append_drop]);rw[e] at d;exact Aj.at (n:=L.length) (by rw[<- e] at d ⊢;exact d) (by rw[<- e]) t_
 refine⟨λ_=>(Qb hh).1,λi hi=>?_,λi hi=>?_,λi hi=>?_,λi hi=>?_⟩
 ·grind
 ·grind
 ·grind
 grind
def Aj.mono{w b b' v L}(h:Aj w b' v L)(d:b<=b'):Aj w b v L:=by
 refine⟨h.1,?_⟩
 rcases h.2 with i|⟨g,c,a,e,f,r⟩
 exact .inl i;exact .inr ⟨g,c,a,e,Nat.le_trans d f,r⟩
structure dx(w:World)(base)(v)(vs)(Ls:List (List Ct)):Prop where
 row:w.ownsRow base 29 1 v Ls.length vs
 each:∀i,i<Ls.length->Aj w base (vs.getD i (.slice none 0 0)) (Ls.getD i [])
def Zch(w:World)(base:Nat)(v:Value)(Ls:List (List Ct)):Prop:=∃vs,dx w base v vs Ls
def Aj.grown{w w'}{base b2 e2 s2 n2:Nat}{v u L xs}(h:Aj w base v L)(g:w.ownsRow b2 e2 s2 u n2 xs)(hne:e2≠98)(hg:w.grownBy w' u.ownBlock):Aj w' base v L:=
 World.ownsRow.kept h hg (An g h hne)
def dx.below{w w' base v vs Ls}(h:dx w base v vs Ls)(hb:Below w.heap.size w w'):dx w' base v vs Ls:=
 ⟨(Aa.of_below (S:=λ_=>False) hb).row h.row (λ_ _=>id),λi hi=>(h.each i hi).below hb⟩
def dx.put{w a g d n i c b u l}(h:dx w a (L_ g n d) c b)(p:n=b.length)(o:Aj w a u l)(r:i<n):dx (w.setCell (A_ g i) u) a (L_ g n d) (c.set i u) (b.set i l)/\w.grownBy (w.setCell (A_ g i) u) (some g):=by
 subst p;obtain⟨q,k⟩:=World.ownsRow.stored h.row i u;have s:c.length=b.length:=(by have:=h.row.1;omega);refine⟨⟨by simpa using q,λj hj=>?_⟩,k⟩;simp only[List.length_set] at hj
 by_cases e:j=i
 subst e;have m:(c.set j u).getD j (.slice none 0 0)=u:=w_;have f:(b.set j l).getD j []=l:=w_;rw[m,f];exact o.grown h.row d_ k;have m:(c.set i u).getD j (.slice none 0 0)=c.getD j (.slice none 0 0):=w_;have f:(b.set i l).getD j []=b.getD j []:=w_;rw[m,f];exact(h.each j hj).grown h.row d_ k
def dx.view{w a v c b}(h:dx w a v c b)(e:0<b.length):∃g cap,v=L_ g b.length cap/\a<=g/\g<w.heap.size/\(∀i,i<b.length->w.cell? (A_ g i)=some (c.getD i (.slice none 0 0)))/\∀i,w.frozen? (A_ g i)=false:=by
 have d:c.length=b.length:=by have:=h.row.1;omega
 rcases h.row.2 with⟨_,h1⟩|⟨g,cap,cur,rfl,hb,hh,_⟩
 omega;refine⟨g,cap,rfl,hb,(Qb hh).1,λi hi=>?_,λi=>World.ownsRow.frozenAt h.row i⟩;rw[World.ownsRow.cellAt h.row i o_]
 grind
def Nz(Ls:List (List Ct))(k:Nat):List (List Ct):=List.replicate k []++Ls.drop k
def iw{a k}(h:k<=a.length):(Nz a k).length=a.length:=by simp[Nz];omega
def Zj4{a}{k}:(Nz a k).getD k []=a.getD k []:=by simp[Nz,List.getD,List.getElem?_append_right]
def Zbd{a k}(h:k<a.length) l:(Nz a k).set k l=List.replicate k []++l::a.drop (k+1):=by unfold Nz;rw[List.drop_eq_getElem_cons h,List.set_append_right _ _ s_,List.length_replicate,Nat.sub_self,List.set_cons_zero]
def ZfK{a k}(h:k<a.length):(Nz a k).set k []=Nz a (k+1):=by rw[Zbd h,Nz,List.replicate_succ',List.append_assoc];rfl
def ZdQ{size}{a:List (List Ct)}{l k}(h:k<a.length)(b:(a.getD k []).length=0):Bg size (a.drop k) l=l::a.drop (k+1):=by
 rw[List.drop_eq_getElem_cons h]
 grind [Bg]
def Zb1{size}{a:List (List Ct)}{l k}(h:k<a.length)(b:(a.getD k []).length≠0):Bg size (a.drop k) l=[]::Bg size (a.drop (k+1)) (Dp (Bq (a.getD k []) l) size):=by
 rw[List.drop_eq_getElem_cons h]
 grind [Bg]
def Zf{a:List (List Ct)}{k}(h:k<a.length):Bh (a.drop k)=Ae (a.getD k [])+Bh (a.drop (k+1)):=by rw[List.drop_eq_getElem_cons h];have:a.getD k []=a[k]:=(by simp[List.getD,h]);rw[this];rfl
def Ro{a:List (List Ct)}{k}(h:k<a.length):a.getD k []∈a:=w_
def ZdP d v u f l b w (hL:Zch w d v f)(E:Aj w d u l)(a3:Fo f)(N:Bo l)(T:l.length<=32)(hs:2<=b)(aL:b<=32)(ht:Bh f+Ae l<=1000000000000)(hn:f.length<=1000)(aK:d<=w.heap.size):C_ 318 #[v,u,.int .i64 b] w λe w'=>∃v',e=.returned v'/\Zch w' d v' (Bg b f l)/\Below d w w':=by
 obtain⟨aD,Q⟩:=hL;obtain⟨j0,a0,aO,aQ,aP⟩:=info_parts ZjT
 have aH:∃a c,v=.slice a f.length c:=by
  rcases Q.row.2 with⟨rfl,h1⟩|⟨g,aJ,cur,rfl,_⟩
  ·grind
  grind
 obtain⟨va,t,rfl⟩:=aH;have a8:=x1_ Q;have HU:=x4_ E N T ht;have O:=x1_ a3;obtain⟨n,U⟩:=ex_ f.length;have L:=x1_ U;rw[<- U] at hn ⊢;clear Q E a3 N T ht U;go_enter Tryz.func318,Tryz.ntmps318;go_wp2_with fail
 go_loopw [11,1] (λti tu wr=>∃(k:Nat) (j:List Ct) (F:List Value),ti=.int .i64 k/\k<=n/\Hid (dx wr d (.slice va n t) F (Nz f k)/\Aj wr d tu j/\Bo j/\j.length<=32/\Bh (f.drop k)+Ae j<=1000000000000/\Bg b f l=List.replicate k []++Bg b (f.drop k) j)/\Below d w wr) (λti _ _=>n-(intOf ti).toNat)
 case atStart=>exact⟨0,l,aD,rfl,qg_,⟨by have:=a8.out;rw[<- L] at this;exact this,HU.1,HU.2.1,HU.2.2.1,HU.2.2.2,rfl⟩,bz_⟩
 case round=>
  clear a8 HU;obtain⟨k,j,F,rfl,hk,HR,y⟩:=hrel;obtain⟨H,E,N,T,ht,A⟩:=HR
  skip
  have aZ:=y.size
  by_cases hkn:k<n
  ·have m:k<f.length:=(by rw[<- L];exact hkn);have B:=iw (show k<=f.length by omega);obtain⟨g,aJ,hv,aA,aM,s,V⟩:=H.view o_;injection hv with hv1 hv2 hv3;subst hv1 hv3;clear hv2;have J:=s k o_;have hE:=H.each k o_;rw[Zj4] at hE;have gO:=O.good _ (Ro m);have lO:=O.len _ (Ro m);have tO:=Zf m;obtain⟨ao,co,X,W,aF,_⟩:=hE.seen o_;rw[X] at J;have aI:=V k;have aW:0<=(k:Int):=o_;have aV:k<(n:Int):=o_;have HX:=x1_ H;obtain⟨I,D,G,C,r,_⟩:=E.seen o_;subst G
   by_cases h0:(f.getD k []).length=0
   ·have M:=ZdQ (b:=b) (l:=j) m h0;have HF:Hid (Zch (wr.setCell (A_ g k) (.slice I j.length D)) d (L_ g n t) (Bg b f l)/\Below d w (wr.setCell (A_ g k) (.slice I j.length D))):=(by obtain⟨p1,p2⟩:=H.put (i:=k) (by rw[B];exact L) E hkn;refine⟨⟨F.set k (.slice I j.length D),?_⟩,y.setCell aA _⟩;rw[A,M,<- Zbd m];exact p1);rw[h0] at J;clear H E s hE W C X A V M B r;go_wp2;go_ret;exact⟨_,rfl,HF.1,HF.2⟩
   have M:=Zb1 (b:=b) (l:=j) m h0;have aY:(((f.getD k []).length:Int)==0)=_:=beq_eq_false_iff_ne.2 o_;have pj:=(Df gO).1;have pl:=(Df N).1;have pr:=Eh (f:=f.drop (k+1)) (λx hx=>O.good x (List.mem_of_mem_drop hx));have gj:=Gb gO N o_;have gc:=gj.sub (Hf gj b);have lc:=Ia (Bq (f.getD k []) j) hs;have lj:=Kp (f.getD k []) j;have tc:Ae (Dp (Bq (f.getD k []) j) b)=Ae (f.getD k [])+Ae j:=(by rw[Fm,Er]);have HJ:=x1_ (Za5 _ _ _ _ co D _ W C gO N)
   have o:Hid (Bo (Bq (f.getD k []) j)/\(Bq (f.getD k []) j).length<=64/\Bo (Dp (Bq (f.getD k []) j) b)/\(Dp (Bq (f.getD k []) j) b).length<=32/\Bh (f.drop (k+1))+Ae (Dp (Bq (f.getD k []) j) b)<=1000000000000/\Bg b f l=List.replicate (k+1) []++Bg b (f.drop (k+1)) (Dp (Bq (f.getD k []) j) b)):=(by refine⟨gj,o_,gc,o_,o_,?_⟩;rw[A,M,List.replicate_succ',List.append_assoc];rfl);have aE:=x1_ m;clear H E s hE W C X A V M B gj gc lc lj tc pj pl pr gO lO tO ht N aF r h0 m;generalize (f.getD k []).length=no at *;go_wp2_with fail
   refine HJ.mono ?_;rintro e w1 ⟨vj,rfl,a5,R⟩;have aN:=R.size;obtain⟨aj,cj,rfl,a1,aB,_⟩:=a5.seen (by have:=o.2.1;omega);have a2:=x1_ (Zem _ _ _ b _ a1 o.1 aB);clear a5 a1 aB HJ;generalize (Bq (f.getD k []) j).length=nj at *;go_wp2_with fail
   refine a2.mono ?_;rintro e Y ⟨vc,rfl,a7,S⟩;have aL:=S.size;have z:=R.trans (S.mono aN)
   have aC:∃a6,Hid (dx (Y.setCell (A_ g k) (.slice none 0 0)) d (L_ g n t) a6 (Nz f (k+1))/\Aj (Y.setCell (A_ g k) (.slice none 0 0)) d vc (Dp (Bq (f.getD k []) j) b)/\Bo (Dp (Bq (f.getD k []) j) b)/\(Dp (Bq (f.getD k []) j) b).length<=32/\Bh (f.drop (k+1))+Ae (Dp (Bq (f.getD k []) j) b)<=1000000000000/\Bg b f l=List.replicate (k+1) []++Bg b (f.drop (k+1)) (Dp (Bq (f.getD k []) j) b))/\Below d w (Y.setCell (A_ g k) (.slice none 0 0))/\Y.cell? (A_ g k)=some (.slice ao no co)/\Y.frozen? (A_ g k)=false:=by
    have P:=HX.below z;have m:=aE.out;have r:n=(Nz f k).length:=(by rw[iw (Nat.le_of_lt m)];exact L);obtain⟨p1,p2⟩:=P.put (i:=k) r (Aj.nil Y d) hkn;rw[ZfK m] at p1;have a9:=(a7.mono (show d<=w1.heap.size by omega)).grown P.row d_ p2;refine⟨_,⟨p1,a9,o.2.2⟩,?_,?_,?_⟩;exact(y.trans (z.mono o_)).setCell aA _;exact(z.cell (p:=(A_ g k)) aM).trans J;have h2:=P.row;rw[<- r] at h2;exact World.ownsRow.frozenAt h2 k
   obtain⟨a6,aR,aX,aU,aT⟩:=aC;clear a7 S z R HX a2 o J aI;go_wp2;go_roundw;case rel=>grind
   case measure=>exact z_
  have aS:k=n:=o_;have M:Bg b f l=List.replicate k []++[j]:=by rw[A,List.drop_eq_nil_of_le (by have:=L.out;omega)];rfl
  have r:(Nz f k).length=n:=(by rw[iw (by have:=L.out;omega)];exact L.symm);have a4:Nz f k=List.replicate k []:=(by unfold Nz;rw[List.drop_eq_nil_of_le (by have:=L.out;omega),List.append_nil]);have b3:¬k<(n:Int):=o_;obtain⟨I,D,G,C,Z,_⟩:=E.seen o_;subst G;have HX:=x1_ H;have q:Hid (wr.ownsRow d 29 1 (.slice va n t) n F):=(by have:=H.row;grind);have aG:=x1_ E;have HT:Hid (Bg b f l=Nz f k++[j]):=(by rw[a4];exact M);clear H E M a4 A N ht C Z;go_wp2_with (at_builtin;refine Ab rfl (.tmp 33) _ 80 rfl _ 29 j0 _ 1 24 Tryz.underlying80 a0 aO aQ aP rfl d_ _ n F rfl (q.alloc _) _ 1 1 [.slice I j.length D] rfl rfl ?_ ?_ ?_ ?_ ?_ ?_ ?_)
  rfl;unfold maxLen;omega;omega;omega;intro v3 w3 H3
  have HF:Hid (Zch w3 d v3 (Bg b f l)/\Below d w w3):=by
   obtain⟨q1,q2,q3,_⟩:=H3;have G:F.length=n:=(by have:=q.1;omega);refine⟨⟨F++[.slice I j.length D],?_⟩,?_⟩
   ·rw[HT];refine⟨w_,λi hi=>?_⟩;rw[Qe,r] at hi;simp at hi
    by_cases hin:i<n
    have e1:(F++[Value.slice I j.length D]).getD i (.slice none 0 0)=F.getD i (.slice none 0 0):=w_;have e2:(Nz f k++[j]).getD i []=(Nz f k).getD i []:=w_;rw[e1,e2];exact((HX.each i o_).alloc _).grown (q.alloc _) d_ q2;have e0:i=n:=o_;subst e0;have e1:(F++[Value.slice I j.length D]).getD i (.slice none 0 0)=.slice I j.length D:=w_;have e2:(Nz f k++[j]).getD i []=j:=w_;rw[e1,e2];exact(aG.alloc _).grown (q.alloc _) d_ q2
   exact y.trans ((bz_.alloc o_ _).grown q2 t_ (λk hk=>(q.lt k hk).1))
  skip
  go_wp2;go_ret;exact⟨_,rfl,HF.1,HF.2⟩
def ZgO:Prop:=∀va wa vl vc wl wc vz wz w,Cq w va vl vz->Cq w wa wl wz->vl<=2097152->wl<=2097152->
  C_ 45 #[.slice va vl vc,.slice wa wl wc] w λe w'=>∃v M,e=.returned v/\Ed (Ar vz wz) M/\Aj w' w.heap.size v (Bv 0 M)/\E_ w w'
def dj{vs ws}(h:vs.length<=2097152):Bo (Ja vs ws)/\(Ja vs ws).length<=vs.length/\Ae (Ja vs ws)<=1000*vs.length:=by
 have b:=Rc (Ar vs ws);have c:Bo (Ja _ _):=b.good h;have j:=Jo vs ws;refine⟨c,?_,?_⟩
 ·have:=c.len (U:=(Ar vs ws).map λp=>p.1) (λe he=>by
   obtain⟨p,a,d,_⟩:=(Rw (Za (Ar vs ws)) 0).1 e he;obtain⟨q,i,g⟩:=b.sub p a
   grind)
  grind
 have d:=(Rf.of_sum b).total;have f:=Ry (ps:=Ar vs ws) (λp a=>(Ig a).1.2)
 grind [Ja]
def Cq.part{w b a n fr m c}(h:Cq w (some ⟨b,a,none⟩) n c)(g:fr+m<=n):Cq w (some ⟨b,a+fr,none⟩) m ((c.drop fr).take m):=by
 obtain⟨f,d,e⟩:=h;refine⟨t_,λz hz=>d z (List.mem_of_mem_drop (List.mem_of_mem_take hz)),?_⟩
 grind
def Rq{w k b a n B j}(h:Cq w (some ⟨b,a,none⟩) n j)(g:Below B w k)(d:b<B):Cq k (some ⟨b,a,none⟩) n j:=by
 obtain⟨m,l,f⟩:=h;refine⟨m,l,?_⟩
 rcases f with f|⟨q,r,e,c,o⟩
 exact .inl f;injection e with e;injection e with e1 e2;subst e1 e2;exact .inr ⟨b,a,rfl,Qh c g.size,λi hi=>(g.cell (p:=(A_ b (a+i))) d).trans (o i hi)⟩
def ym(a6:ZgO) va wa (n p o b:Nat) j l w (hv:Cq w va n j)(hw:Cq w wa n l)(hn:n<=1000)(bD:n<=p)(bC:n<=o)(hs:2<=b)(b5:b<=32):C_ 274 #[.slice va n p,.slice wa n o,.int .i64 b] w λe w'=>∃v,e=.returned v/\Aj w' w.heap.size v (Dm b j l)/\Below w.heap.size w w':=by
 have HV:=x1_ hv;have HW:=x1_ hw;have aH:=x1_ a6;have H:=x2_ hv.1 hw.1;clear hv hw a6;go_enter Tryz.func274,Tryz.ntmps274;go_wp2_with fail
 go_loopw [7,8] (λtl tf wr=>∃(d fu:Nat) (h:List (List Ct)),tf=.int .i64 d/\d<=n+b/\Hid (Zch wr w.heap.size tl h/\Fo h/\Bh h<=1000*(d:Int)/\h.length<=d/\n-d<=fu/\Dl b fu h (j.drop d) (l.drop d)=Dl b n [] j l)/\E_ w wr) (λ_ tf _=>n+b-(intOf tf).toNat)
 case atStart=>exact⟨0,n,[],rfl,qg_,⟨⟨[],rn_,λi hi=>by simp at hi⟩,Fo.nil,by simp[Bh],s_,o_,rfl⟩,bz_⟩
 case round=>
  obtain⟨d,fu,h,rfl,bF,Z,y⟩:=hrel;have a9:=y.size
  by_cases hkn:d<n
  ·rcases HV.out with⟨_,_,h0|⟨b1,o1,rfl,hb1,_⟩⟩;omega;rcases HW.out with⟨_,_,h0|⟨b2,o2,rfl,hb2,_⟩⟩;omega;obtain⟨D,aI⟩:=ex_ (min (d+b) n);have b8:d<(n:Int):=o_;have N:d<=(D:Int):=o_;have J:D<=(p:Int):=o_;have O:D<=(o:Int):=o_;have b6:¬p=d:=o_;have b7:¬o=d:=o_;have s:=x1_ aI;clear aI;have bG:D-d<=b:=(by have:=s.out;omega);go_upto_region 5 with fail;go_cut [9] (λv wx=>v=.int .i64 D/\wx=wr)
   case first=>
    by_cases hc:(d:Int)+(b:Int)<=(n:Int)
    ·have e1:D=d+(b:Int):=(by have:=s.out;omega);have E1:=x1_ e1;clear e1 N J O;go_wp2;go_meet
     exact⟨by rw[E1.out],rfl⟩
    have e1:D=(n:Int):=(by have:=s.out;omega);have E1:=x1_ e1;clear e1 N J O;go_wp2;go_meet
    exact⟨by rw[E1.out],rfl⟩
   case rest=>
    obtain⟨rfl,aK⟩:=hcut;obtain rfl:=aK.symm;clear aK
    have aA:Hid (∀W:World,E_ w W->C_ 45 #[.slice (some ⟨b1,o1+d,none⟩) (D-d) (p-d),.slice (some ⟨b2,o2+d,none⟩) (D-d) (o-d)] W λe w'=>∃v,e=.returned v/\Aj w' W.heap.size v (Ja ((j.drop d).take b) ((l.drop d).take b))/\E_ W w'):=by
     intro W hW;have aQ:=(Rq HV hW hb1);have aZ:=(Rq HW hW hb2);have q1:=aQ.part (d:=d) (m:=D-d) (by have:=s.out;omega);have q2:=aZ.part (d:=d) (m:=D-d) (by have:=s.out;omega)
     have el:∀z:List Int,z.length=n->(z.drop d).take (D-d)=(z.drop d).take b:=λz hz=>by
      by_cases hc:d+b<=n
      rw[show D-d=b by have:=s.out;omega];rw[List.take_of_length_le (by simp;have:=s.out;omega),List.take_of_length_le t_]
     rw[el _ H.1] at q1;rw[el _ H.2] at q2;refine(aH _ _ _ _ _ _ _ _ W q1 q2 o_ o_).mono ?_;rintro e w' ⟨v,M,rfl,hM,ho,hb⟩;refine⟨v,rfl,?_,hb⟩;unfold Ja;rw[ZbY hM];exact ho
    obtain⟨hL,R,a5,aM,aT,t⟩:=Z.out;have F:=dj (vs:=(j.drop d).take b) (ws:=(l.drop d).take b) w_;have Y:((j.drop d).take b).length<=b:=t_;have T:=Rz (b:=(b:Int)) o_ o_ R F.1 o_ o_;obtain⟨f',a8⟩:∃f',fu=f'+1:=⟨fu-1,o_⟩;have L:Dl b f' (Bg b h (Ja ((j.drop d).take b) ((l.drop d).take b))) (j.drop (d+b)) (l.drop (d+b))=Dl b n [] j l:=by rw[<- t,a8];simp only[Dl];rw[if_neg w_,List.drop_drop,List.drop_drop]
    have aN:Hid (Fo (Bg b h (Ja ((j.drop d).take b) ((l.drop d).take b)))/\Bh (Bg b h (Ja ((j.drop d).take b) ((l.drop d).take b)))<=1000*(d+b:Nat)/\(Bg b h (Ja ((j.drop d).take b) ((l.drop d).take b))).length<=d+b/\n-(d+b)<=f'/\Dl b f' (Bg b h (Ja ((j.drop d).take b) ((l.drop d).take b))) (j.drop (d+b)) (l.drop (d+b))=Dl b n [] j l):=by refine⟨T.1,?_,?_,o_,L⟩;rw[T.2];omega;have:=ld (b:Int) h (Ja ((j.drop d).take b) ((l.drop d).take b));omega
    have a2:Hid (∀W u,E_ wr W->Aj W w.heap.size u (Ja ((j.drop d).take b) ((l.drop d).take b))->C_ 318 #[u7,u,.int .i64 b] W λe w'=>∃v',e=.returned v'/\Zch w' w.heap.size v' (Bg b h (Ja ((j.drop d).take b) ((l.drop d).take b)))/\Below w.heap.size W w'):=(by intro W u hW hu;obtain⟨vs,hX⟩:=hL;exact ZdP _ u7 u h _ _ W ⟨vs,hX.below hW⟩ hu R F.1 o_ o_ o_ o_ o_ (by have:=hW.size;omega));clear hL R a5 aM aT t F Y T L Z;generalize Ja ((j.drop d).take b) ((l.drop d).take b)=sE at *;go_wp2_with fail
    go_region_held3 (λ_=>True) (trivial) (first|(go_at_call 45;refine(aA.out _ y.drew).mono ?_;rintro e w1 ⟨vv,rfl,aJ,A⟩)|(go_at_call 318;refine(a2 _ _ (bz_.drew.trans A) (aJ.mono (by have:=A.size;simp at this ⊢;omega))).mono ?_;rintro e w2 ⟨v2,rfl,aC,P⟩))
    have HF:=x1_ aC;have a0:=(y.drew.trans (A.mono a9)).trans P;clear aC P A aJ aA a2 a8;refine rd_ ?_;exact⟨d+b,f',_,g_,o_,⟨HF,aN⟩,a0⟩
  have bH:¬d<(n:Int):=o_
  have B:Hid (Zch wr w.heap.size u7 h/\Fo h/\Bh h<=2000000/\h.length<=2000/\Dm b j l=Ff b [] h):=by
   obtain⟨h1,h2,h3,h4,h5,h6⟩:=Z;refine⟨h1,h2,o_,o_,?_⟩;unfold Dm;rw[H.1,<- h6]
   cases fu with
   |zero=>rfl
   | succ f=>
    simp only[Dl];rw[if_pos (by simp;have:=H.out;omega)]
  obtain⟨vs,hX⟩:=B.1
  have aV:∃a c,u7=.slice a h.length c:=by
   rcases hX.row.2 with⟨rfl,h1⟩|⟨g,aP,cur,rfl,_⟩
   ·grind
   grind
  obtain⟨la,lc,rfl⟩:=aV;have HX:=x1_ hX;have E:=x3_ B.2.1 B.2.2.1 B.2.2.2.2;have aX:=B.2.2.2.1;obtain⟨m,hm⟩:=ex_ h.length;have HM:=x1_ hm;rw[<- hm] at aX ⊢;clear hX hm B aH;obtain⟨wl,aS⟩:∃wl,wl=wr:=⟨wr,rfl⟩;subst aS;go_wp2_with fail
  go_loopw [40,10] (λti Q wr=>∃(k:Nat) (q:List Ct),ti=.int .i64 k/\k<=m/\Hid (Aj wr w.heap.size Q q/\Bo q/\q.length<=32/\Ae q+Bh (h.drop k)<=2000000/\Ff b q (h.drop k)=Ff b [] h)/\E_ wl wr) (λti _ _=>m-(intOf ti).toNat)
  case atStart=>exact⟨0,[],rfl,qg_,⟨Aj.nil _ _,Bo.nil,s_,by have:=E.2.1;simpa [Ae] using this,rfl⟩,bz_⟩
  case round=>
   obtain⟨k,q,rfl,hk,Z,I⟩:=hrel;have aO:=I.size
   by_cases hkm:k<m
   ·have C:k<h.length:=(by rw[<- HM];exact hkm);obtain⟨a1,V,bB,Q,t⟩:=Z.out;have S:=HX.below I;obtain⟨g,aP,hv,bE,bI,G,_⟩:=S.view o_;injection hv with hv1 hv2 hv3;subst hv1 hv3;clear hv2;have a7:=G k C;have hE:=S.each k C;have gO:=E.1.good _ (Ro C);have lO:=E.1.len _ (Ro C);have tO:=Zf C;have tP:=Eh (h:=h.drop (k+1)) (λx hx=>E.1.good x (List.mem_of_mem_drop hx));obtain⟨ao,co,aD,a4,aU,_⟩:=hE.seen o_;rw[aD] at a7;obtain⟨aa,ca,aY,aG,aR,_⟩:=a1.seen o_;subst aY;have hd:h.drop k=h.getD k []::h.drop (k+1):=by rw[List.drop_eq_getElem_cons C];grind
    rw[hd] at t;simp only[Ff] at t;have gj:=Gb V gO o_;have gc:=gj.sub (Hf gj b);have b3:=Ia (Bq q (h.getD k [])) (b:=(b:Int)) o_;have lj:=Kp q (h.getD k []);have tc:Ae (Dp (Bq q (h.getD k [])) b)=Ae q+Ae (h.getD k []):=(by rw[Fm,Er]);have HJ:=x1_ (Za5 _ _ _ _ ca co _ aG a4 V gO);have r:Hid (Bo (Bq q (h.getD k []))/\(Bq q (h.getD k [])).length<=64/\Bo (Dp (Bq q (h.getD k [])) b)/\(Dp (Bq q (h.getD k [])) b).length<=32/\Ae (Dp (Bq q (h.getD k [])) b)+Bh (h.drop (k+1))<=2000000/\_):=⟨gj,o_,gc,o_,o_,t⟩;have bA:0<=(k:Int):=o_;have bK:k<(m:Int):=o_
    clear a1 V Q t S G hE gO lO tO tP aD a4 aU aG aR hd gj gc b3 lj tc Z;generalize (h.getD k []).length=no at *;go_wp2_with fail
    refine HJ.mono ?_;rintro e w1 ⟨vj,rfl,aE,U⟩;have aW:=U.size;obtain⟨aj,cj,rfl,aB,aL,_⟩:=aE.seen (by have:=r.2.1;omega);have a3:=x1_ (Zem _ _ _ b _ aB r.1 aL);clear aE aB aL HJ;generalize (Bq q (h.getD k [])).length=nj at *;go_wp2_with fail
    refine a3.mono ?_;rintro e w2 ⟨vc,rfl,aF,X⟩;have b5:=X.size;have a0:=I.trans ((U.trans (X.mono aW)).mono aO);have HF:Hid (Aj _ w.heap.size _ _):=aF.mono o_;clear aF X U a3 a7;refine rd_ ?_;exact⟨k+1,_,g_,o_,⟨HF,r.2.2⟩,a0⟩
   have b9:¬k<(m:Int):=o_;have HF:Hid (Aj wr w.heap.size u10 (Dm b j l)/\E_ w wr):=by obtain⟨h1,_,_,_,h5⟩:=Z;rw[List.drop_eq_nil_of_le (by have:=HM.out;omega)] at h5;simp only[Ff] at h5;rw[E.2.2,<- h5];exact⟨h1,y.trans (I.mono a9)⟩
   skip
   go_wp2;go_ret;exact⟨_,rfl,HF.1,HF.2⟩
def sh a:∀n i,a.length-i<=n->Dk a [] n i 0=a.drop i
 |0,i,h=>by rw[List.drop_eq_nil_of_le o_];rfl
 | n+1,i,h=>by
  by_cases hi:i<a.length
  simp only[Dk];rw[if_pos ⟨hi,λh=>by simp at h⟩,sh a n (i+1) o_,List.drop_eq_getElem_cons hi];congr 1;simp[seen,Cn,Dn,Ae,List.getD,hi];simp only[Dk];rw[if_neg (λh=>hi h.1),if_neg (λh=>by simp at h),if_neg (λh=>hi h.1),List.drop_eq_nil_of_le o_]
def ZfE a:Bq a []=a:=by grind [Bq,sh]
def Zfm{L a}(h:L.length<=a):Dp L a=L:=by
 unfold Dp
 grind
def Sf:Nat->List (List Ct)->List (Nat×List Ct)
  |_,[]=>[]
  |N,l::r=>if l.length=0 then Sf (N+1) r else(N,l)::Sf (N+1) r
def skT(size:Int):Nat->List Ct->List (Nat×List Ct)->List (Nat×List Ct)
 |N,l,[]=>[(N,l)]
 |N,l,p::r=>if p.1=N then skT size (N+1) (Dp (Bq p.2 l) size) r else(N,l)::p::r
def yu:∀(Ls:List (List Ct)) (N:Nat),∀p∈Sf N Ls,N<=p.1
  |[],N=>by simp[Sf]
  | l::r,N=>λp hp=>by
    unfold Sf at hp;split at hp;have:=yu r (N+1) p hp;omega
    rcases List.mem_cons.1 hp with rfl|hp
    omega;have:=yu r (N+1) p hp;omega
def Vh{l}(h:0<Ae l):l.length≠0:=λe=>by unfold Ae at h;omega
def sv size:∀Ls l N,(∀x∈Ls,0<=Ae x)->0<Ae l->Sf N (Bg size Ls l)=skT size N l (Sf N Ls)
 |[],l,N,hp,hl=>by grind [Bg,Sf,Vh,skT]
 | o ::r,l,N,hp,hl=>by
  have hpr:∀x∈r,_:=λx hx=>hp x (by simp[hx])
  by_cases ho:o.length=0
  ·simp only[Bg,if_pos ho,Sf,if_neg (Vh hl)];have hg:=yu r (N+1)
   cases hv:Sf (N+1) r with
   |nil=>rfl
   | cons p q=>
    grind [skT]
  simp only[Bg,if_neg ho,Sf,List.length_nil,if_true,skT];refine sv _ r _ _ hpr ?_;rw[Fm,Er]
  grind
def skF(size:Int):List Ct->List (Nat×List Ct)->List Ct
 |all,[]=>all
 |all,p::r=>skF size (Dp (Bq all p.2) size) r
def kq{size}(hs:2<=size):∀Ls N all,all.length<=size->Ff size all Ls=skF size all (Sf N Ls)
 |[],N,all,h=>rfl
 | l::r,N,all,h=>by
  by_cases hl:l.length=0
  have e:=List.eq_nil_of_length_eq_zero hl;subst e;simp only[Ff,Sf,List.length_nil,if_true];rw[ZfE,Zfm h];exact kq hs r _ _ h;simp only[Ff,Sf,if_neg hl,skF];exact kq hs r _ _ (Ia _ hs)
def skB(size:Nat):Nat->List (Nat×List Ct)->List Int->List Int->List (Nat×List Ct)
 |0,st,_,_=>st
 |f+1,st,vs,ws=>if vs.length=0 then st else skB size f (skT size 0 (Ja (vs.take size) (ws.take size)) st) (vs.drop size) (ws.drop size)
def Wc:∀(r:List (Int×Int)),(∀q∈r,1<=q.2)->0<=By r
  |[],_=>by simp[By]
  | q::r,h=>by
    have:=Wc r (λx hx=>h x (by simp[hx]))
    grind [By]
def ZiQ{a b}(h:a.length≠0)(g:b.length≠0):0<Ae (Ja a b):=by
 have d:=(Rf.of_sum (Rc (Ar a b))).total;unfold Ja;rw[d];have c:∀p∈Ar a b,_:=λp c=>(Ig c).1.1;have i:=Jo a b
 cases hps:Ar a b with
 |nil=>grind
 | cons p r=>
  rw[hps] at c;have e:=c p s_;have f:=Wc r λq hq=>c q (by simp[hq]);simp only[By];omega
def lf size:∀Ls l,(∀x∈Ls,0<=Ae x)->0<=Ae l->∀x∈Bg size Ls l,0<=Ae x
 |[],l,h,hl=>by simp[Bg];exact hl
 | o::r,l,h,hl=>by
  have hr:∀x∈r,_:=λx hx=>h x (by simp[hx]);have ho:=h o s_;intro x hx;simp only[Bg] at hx;split at hx
  ·grind
  rcases List.mem_cons.1 hx with rfl|hx
  exact Int.le_refl _;exact lf _ r _ hr (by rw[Fm,Er];omega) x hx
def kp{size}(hs:0<size):∀f Ls vs ws,(∀x∈Ls,0<=Ae x)->vs.length=ws.length->skB size f (Sf 0 Ls) vs ws=Sf 0 (Dl size f Ls vs ws)
 |0,Ls,vs,ws,h,hl=>rfl
 | f+1,Ls,vs,ws,h,hl=>by
  unfold skB Dl
  by_cases h0:vs.length=0
  ·grind
  rw[if_neg h0,if_neg h0];have hp:0<Ae (Ja (vs.take size) (ws.take size)):=ZiQ w_ w_;rw[<- sv size Ls _ 0 h hp];exact kp hs f _ _ _ (lf _ _ _ h o_) w_
def Zgh{a:Nat}(g:2<=a) b c (f:b.length=c.length):skF a [] (skB a b.length [] b c)=Dm a b c:=by have d:=kp (a:=a) o_ b.length [] _ _ s_ f;have e:=kq (a:=(a:Int)) o_ (Dl a b.length [] b c) 0 [] s_;unfold Dm;rw[e,<- d];rfl
end Go.Proofs.YtfcgnpchbcmdeaaGreat
