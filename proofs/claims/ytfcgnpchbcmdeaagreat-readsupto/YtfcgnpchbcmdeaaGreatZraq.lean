import Derived.Test.YtfcgnpchbcmdeaaGreatZrao
import Derived.Deep.Light
namespace Go.Proofs.YtfcgnpchbcmdeaaGreat
set_option linter.all false
set_option maxRecDepth 100000
set_option maxHeartbeats 4000000
open Go.RowKit
def Ln{w C rest o a Q}(H:o.guard=none) s x (S:o.op=.call {callee:=.builtin .append,args:=#[s,x],argTypes:=#[29,29]}) i (J:Tryz.prog.info? 98=some i)(d:i.size=4) l g b n m A B y z (D:A.length=m)(O:n=(A++y::B).length)(L:a.eval s=L_ g m b)(U:Aj w l (L_ g n b) (A++y::B)) I c (N:a.eval x=.slice (some I) 1 c)(q:∀j u,[I_ z.v,I_ z.lo,I_ z.hi,I_ z.wt][j]? =some u->w.cell? (I.add j)=some u)(h:∀w',Aj w' l (L_ g n b) (A++z::B)->w.grownBy w' (some g)->wpList Tryz.prog C Q rest (a.put o.dst (L_ g (m+1) b)) w'):wpList Tryz.prog C Q (o::rest) a w:=by
 subst O
 rcases U.2 with⟨e,_⟩|⟨g',cap',cur,e,hb,hg,hnc,hcm,hcs,htake⟩
 simp at e;simp only[Value.slice.injEq,Option.some.injEq,Addr.mk.injEq,and_true,true_and] at e;obtain⟨rfl,rfl⟩:=e;have r:(A++y::B).length=m+1+B.length:=(by simp[D];omega);have t:(flat A).length=m*4:=(by rw[Ef,D]);refine wpList_plain H λK hK=>?_;have p:=run_append_room (P:=Tryz.prog) w 29 o.type 98 i Tryz.underlying29 J g m b _ hg _ 1 c _ (by rw[d];rfl) q (Ql _ _ _ _) o_ (by rw[d,hcs];simp;omega);rw[d] at p;have F:cur.toList=flat (A++y::B)++cur.toList.drop ((A++y::B).length*4):=by rw[<- htake,List.take_append_drop]
 have f:cur.toList.take (m*4)++[I_ z.v,I_ z.lo,I_ z.hi,I_ z.wt]++cur.toList.drop (m*4+4)=flat (A++z::B)++cur.toList.drop ((A++y::B).length*4):=by
  rw[F];generalize cur.toList.drop ((A++y::B).length*4)=T;rw[Cu,Cu];have R:(flat A++flat (y::B)++T).take (m*4)=flat A:=by rw[List.append_assoc,<- t,List.take_left]
  have V:(flat A++flat (y::B)++T).drop (m*4+4)=flat B++T:=(by rw[List.append_assoc,<- List.drop_drop,<- t,List.drop_left];simp[flat,Ee]);have M:List.drop ((A++y::B).length*4) (flat A++flat (y::B)++T)=T:=(by rw[<- Cu,<- Ef,List.drop_left]);rw[R,V,M];simp[flat,Ee]
 have E:(flat (A++z::B)++cur.toList.drop ((A++y::B).length*4)).length=b*4:=(by have G:cur.toList.length=b*4:=(by rw[Array.length_toList,hcs]);rw[Qe,Ef,List.length_drop,G];rw[r] at hnc ⊢;have:(A++z::B).length=m+1+B.length:=(by simp[D]<;>omega);omega);unfold Oper.wp;simp only[execOp,S,resolve,invoke,builtin,Sem.run_bind,Sem.run_pure,Result.andThen_ok,List.map_toArray,List.map_cons,List.map_nil,L,N,p];refine hK _ _ (h _ ?_ ?_)
 ·refine⟨by rw[Ef],.inr ⟨g,b,_,s_,hb,setRow_heap w g _ _ _ _ hg,?_,hcm,?_,?_⟩⟩
  ·simpa using hnc
  simp only[List.length_cons,List.length_nil] at f ⊢;rw[List.size_toArray];simp only[Nat.zero_add,Nat.reduceAdd];rw[f];exact E;simp only[List.length_cons,List.length_nil,Nat.zero_add,Nat.reduceAdd];rw[f,show(A++z::B).length*4=(flat (A++z::B)).length by rw[Ef],List.take_left]
 exact⟨rfl,rfl,rfl,by simp[World.setRow],λk _ hk=>setRow_other w g k _ (λe=>hk (by rw[e]))⟩
def Aj.pfx{w a g b n m A B}(h:Aj w a (L_ g n b) (A++B))(d:n=(A++B).length)(c:m=A.length):Aj w a (L_ g m b) A:=by
 subst d c
 rcases h.2 with⟨e,_⟩|⟨g',cap',cur,e,hb,hg,hnc,hcm,hcs,htake⟩
 simp at e;simp only[Value.slice.injEq,Option.some.injEq,Addr.mk.injEq,and_true,true_and] at e;obtain⟨rfl,rfl⟩:=e;refine⟨Ef A,.inr ⟨g,b,cur,rfl,hb,hg,by simp at hnc;omega,hcm,hcs,?_⟩⟩;have:(flat (A++B)).take (A.length*4)=flat A:=(by rw[Cu,<- Ef,List.take_left]);rw[<- this,<- htake,List.take_take];congr 1;simp<;>omega
def Zi0{a}(b:∀p∈a,1<=p.2) v:No a v<=By a:=by
 induction a with
 |nil=>simp[No,By]
 | cons p r ih=>
  have d:=ih (λq hq=>b q (by simp[hq]));have c:=b p s_;simp only[No,By];split<;>omega
def jg(W:World){n}(a:W.heap.size=n) c:∀j u,c.toList[j]? =some u->(W.alloc (.cells c 98)).cell? (((A_ n 0):Addr).add j)=some u:=by subst a;exact Am W c _
def Hp{w w' w'':World}{r}(h:w.grownBy w' r)(k:w'.grownBy w'' r):w.grownBy w'' r:=
 ⟨k.os.trans h.os,k.tape.trans h.tape,k.output.trans h.output,Nat.le_trans h.size k.size,λi hi hne=>(k.block i (Qh hi h.size) hne).trans (h.block i hi hne)⟩
def Ly{w w' r}(h:Below w.heap.size w w'):w.grownBy w' r:=⟨h.os,h.tape,h.output,h.size,λk hk _=>h.block k hk⟩
structure Pq(S:List (Int×Int))(i)(M)(G:List Ct):Prop where
 sum:Ed (S.take i) M
 len:M.length+G.length=i
def Ey(S:List (Int×Int))(i:Nat)(M:List (Int×Int))(G:List Ct):List Ct:=M.map Jc++(G++(S.drop i).map Jc)
def Zdi{S i M G}(h:Pq S i M G)(a:i<=S.length):(Ey S i M G).length=S.length:=by have:=h.len;simp[Ey];omega
def lr{S:List (Int×Int)}{i} hi:S.take (i+1)=S.take i++[S[i]]:=Qi hi
def Zdj{S i M G v w}(h:Pq S i (M++[(v,w)]) G) a (b:v=S[i].1):Pq S (i+1) (M++[(v,w+S[i].2)]) (G++[Jc S[i]]):=by refine⟨?_,by have:=h.len;simp at this ⊢;omega⟩;rw[lr a];have:=h.sum.same S[i].2;rw[show S[i]=(v,S[i].2) from Prod.ext b.symm rfl];exact this
def je{S i M G}(h:Pq S i M G) s (n:S.Pairwise λp q=>p.1<=q.1)(m:∀v w N,M=N++[(v,w)]->v≠S[i].1):Ed (S.take (i+1)) (M++[S[i]]):=by
 rw[lr s];refine h.sum.more _ λq hq=>?_;have g:q.1<=S[i].1:=by obtain⟨j,c,e⟩:=List.mem_iff_getElem.1 hq;rw[List.getElem_take] at e;rw[<- e];exact List.pairwise_iff_getElem.1 n j i (by simp at c;omega) _ (by simp at c;omega)
 rcases Int.lt_or_eq_of_le g with o|o
 exact o;exfalso;obtain⟨r,b,t⟩:=h.sum.all q hq;have d:=List.ne_nil_of_mem b;have f:=(List.dropLast_concat_getLast d).symm;refine m _ _ _ f ?_;have x:(M.getLast d).1<=S[i].1:=by obtain⟨y,k,l⟩:=h.sum.sub _ (List.getLast_mem d);obtain⟨j,c,e⟩:=List.mem_iff_getElem.1 k;rw[List.getElem_take] at e;rw[<- l,<- e];exact List.pairwise_iff_getElem.1 n j i (by simp at c;omega) _ (by simp at c;omega)
 have u:r.1<=(M.getLast d).1:=by
  have a:=h.sum.rise;rw[f] at b a
  rcases List.mem_append.1 b with b|b
  have:=(List.pairwise_append.1 a).2.2 r b (M.getLast d) s_;omega;simp at b;rw[b];exact Int.le_refl _
 omega
def Yv{S i M G}(h:Pq S i M G) c:∃y B G',Ey S i M G=M.map Jc++y::B/\Ey S (i+1) (M++[S[i]]) G'=M.map Jc++Jc S[i]::B/\(M++[S[i]]).length+G'.length=i+1:=by
 have b:=h.len;have a:=List.drop_eq_getElem_cons c
 cases G with
 |nil=>exact⟨Jc _,(S.drop (i+1)).map _,[],by unfold Ey;rw[a,List.map_cons,List.nil_append],by unfold Ey;simp,by simp at b ⊢;omega⟩
 |cons y G=>exact⟨y,G++Jc _::(S.drop (i+1)).map _,G++[Jc S[i]],by unfold Ey;rw[a,List.map_cons];rfl,by unfold Ey;simp,by simp at b ⊢;omega⟩
def jd g a (S:List (Int×Int)) f w (h:Aj w f (L_ g S.length a) (S.map Jc))(hs:S.Pairwise λp q=>p.1<=q.1)(hp:∀p∈S,1<=p.2/\p.2<=1000)(hl:S.length<=2097152):C_ 83 #[.slice (some ⟨g,0,none⟩) S.length a] w λe w'=>∃M,e=.returned (.slice (some ⟨g,0,none⟩) M.length a)/\Ed S M/\M.length<=S.length/\Aj w' f (.slice (some ⟨g,0,none⟩) M.length a) (M.map Jc)/\w.grownBy w' (some g):=by
 obtain⟨i0,D,aF,U,aA⟩:=info_parts Qq;have a6:=(rl_ h g rfl).2
 have a3:S.length<=a:=by
  rcases h.2 with⟨e,_⟩|⟨g',cap',cur,e,hb,hg,hnc,_⟩
  simp at e;simp only[Value.slice.injEq,Option.some.injEq,Addr.mk.injEq,and_true] at e;simp at hnc;omega
 have HO:=x1_ h;have HS:=x1_ hs;have Y:=x1_ hp;clear h hs hp;go_enter Tryz.func83,Tryz.ntmps83;go_wp2_with fail
 go_loopw [3,11] (λtm ti wr=>∃(i:Nat) (M:List (Int×Int)) (G:List Ct),i<=S.length/\ti=.int .i64 i/\tm=.slice (some ⟨g,0,none⟩) M.length a/\Hid (Pq S i M G/\Aj wr f (.slice (some ⟨g,0,none⟩) S.length a) (Ey S i M G)/\w.grownBy wr (some g))) (λ_ ti _=>S.length-(intOf ti).toNat)
 case atStart=>exact⟨0,[],[],qg_,rfl,rfl,⟨Ed.nil,rfl⟩,by simpa [Ey] using HO.out,Bo _ _⟩
 case round=>
  obtain⟨i,M,G,hi,rfl,rfl,HR⟩:=hrel;obtain⟨n,j,C⟩:=HR;have W:=x1_ C;have aC:=C.size;have a4:g<wr.heap.size:=o_
  by_cases hil:i<S.length
  ·have aE:=n.len;have R:=List.drop_eq_getElem_cons hil;have E:Ey S i M G=(M.map Jc++G)++Jc S[i]::(S.drop (i+1)).map Jc:=(by unfold Ey;rw[R,List.map_cons,List.append_assoc]);have A:=Zdi n o_;have l:=j;rw[E] at l;obtain⟨c0,c1,c2,c3,cf⟩:=l.at (by rw[<- E,A]) (show(M.map Jc++G).length=i by simp;omega);simp only[Jc] at c0 c1 c2 c3;have aB:=Y _ (Qf hil);have a8:0<=(i:Int):=o_;have a9:i<(S.length:Int):=o_;have J:=x1_ j;clear j l C
   rcases List.eq_nil_or_concat M with X|⟨N,p,X⟩
   ·subst X;obtain⟨y,B,T,m,u,z⟩:=Yv n hil;have k:Pq S _ _ _:=⟨je n _ HS (λv w N e=>by simp at e),z⟩;have t:=x1_ k;have F:=x1_ u;have H:=x1_ (m ▸ J)
    have L:Hid (_=(_++y::B).length):=show _=_ by rw[<- m,A]
    clear k m u z;generalize S[i]=q at *;go_wp2_with fail
    go_big_quiet (fail);go_wp2_with (at_builtin;refine Ln rfl _ _ rfl i0 D U _ g a _ 0 [] B y (Jc q) rfl L rfl (H.below h_) _ 1 rfl (jg _ s_ _) ?_)
    intro w5 c s;have O:Hid (Aj w5 f (L_ g S.length a) (Ey S (i+1) ([]++[q]) T)):=(by rw[F];exact c);have I:=x1_ (Hp W (Hp (Ly h_) s));clear c s;refine rd_ ?_;exact⟨i+1,[]++[q],T,o_,g_,s_,t,O,I⟩
   rw[List.concat_eq_append] at X;subst X;obtain⟨o,x⟩:=p;have d:Ey S i (N++[(o,x)]) G=N.map Jc++Jc (o,x)::(G++(S.drop i).map Jc):=(by unfold Ey;simp);have b:=J.out;rw[d] at b;obtain⟨d0,d1,d2,d3,_⟩:=b.at (by rw[<- d,A]) (show(N.map Jc).length=N.length by simp);simp only[Jc] at d0 d1 d2 d3;have V:x=No _ o:=n.sum.wt (o,x) s_;have P:∀r∈S.take i,_:=λr hr=>(Y r (List.mem_of_mem_take hr)).1;have a5:0<=x/\x<=1000*2097152:=by have h1:=We P o;have h2:=Zi0 P o;have h3:=Rw (ps:=S.take i) (λr hr=>(Y r (List.mem_of_mem_take hr)).2);have h4:(S.take i).length<=2097152:=t_;omega
   have aD:0<=(N.length:Int):=o_;have aG:N.length<i:=(by have:=n.len;simp at this;omega);have a7:N.length<(N.length:Int)+1:=o_;have dg:decide (_<=_)=_:=decide_eq_true o_
   by_cases hv:o=S[i].1
   ·have k:=Zdj n _ hv;have t:=x1_ k
    have Z:Hid (Ey S (i+1) (N++[(o,x+S[i].2)]) (G++[Jc S[i]])=N.map Jc++⟨o,0,0,x+S[i].2⟩::(G++(S.drop i).map Jc)):=show _=_ by unfold Ey;rw[R];simp only[List.map_append,List.map_cons,List.map_nil,List.append_assoc,List.cons_append,List.nil_append,Jc]
    have Q:=x1_ b
    have a0:Hid (_=(N.map _++_).length):=show _=_ by rw[<- d,A]
    have a1:=beq_iff_eq.2 hv;clear k V b d hv;generalize S[i]=q at *;go_wp2_with fail
    go_big_quiet (fail);go_wp2_with fail
    go_region
    all_goals go_wp2
    all_goals
     go_roundw
     case rel=>
      refine⟨i+1,N++[(o,x+q.2)],G++[Jc q],o_,g_,s_,t,?_,?_⟩;rw[Z];exact(Q.below h_).store a0 s_ (Wz s_ _);refine Bm (Hp W (Ly ?_)) _ _
      repeat(first|with_reducible exact bz_|with_reducible refine below_drewN ?_ _|with_reducible refine Below.drew ?_|with_reducible refine Below.alloc ?_ u_ _)
     case measure=>exact z_
   have a1:=beq_eq_false_iff_ne.2 hv;obtain⟨y,B,T,m,u,z⟩:=Yv n hil;have k:Pq S _ _ _:=⟨je n _ HS (λv w N2 e=>by have:=(List.append_inj_right' e rfl);simp at this;rw[<- this.1];exact hv),z⟩;have t:=x1_ k;have F:=x1_ u;have H:=x1_ (m ▸ J)
   have L:Hid (_=(_++y::B).length):=show _=_ by rw[<- m,A]
   clear k m u z;clear V b d hv;generalize S[i]=q at *;go_wp2_with fail
   go_big_quiet (fail);go_wp2_with (at_builtin;refine Ln rfl _ _ rfl i0 D U _ g a _ _ _ B y (Jc q) s_ L rfl (H.below h_) _ 1 rfl (jg _ s_ _) ?_)
   intro w5 c s;have O:Hid (Aj w5 f (L_ g S.length a) (Ey S (i+1) ((N++[(o,x)])++[q]) T)):=(by rw[F];simp only[List.map_append,List.map_cons,List.map_nil,List.append_assoc,List.cons_append,List.nil_append];exact c);have I:=x1_ (Hp W (Hp (Ly h_) s));clear c s;refine rd_ ?_;exact⟨i+1,(N++[(o,x)])++[q],T,o_,g_,s_,t,O,I⟩
  have a2:S.length=i:=o_;have HF:Hid (Ed S M/\Aj wr f (L_ g M.length a) (M.map Jc)):=by refine⟨by have:=n.sum;rwa [List.take_of_length_le o_] at this,?_⟩;have hd:Ey S i M G=M.map Jc++G:=(by unfold Ey;rw[List.drop_eq_nil_of_le o_];simp);rw[hd] at j;exact j.pfx (by have:=n.len;simp;omega) s_
  have HL:Hid (M.length<=S.length):=show _<=_ by have:=n.len;omega
  clear j C a2 n;go_wp2;go_ret;exact⟨M,rfl,HF.1,HL,HF.2,W⟩
def ZjV:(Tryz.prog.info? 29).map (λi=>(i.zero,i.size,i.bytes))=some (some (.slice none 0 0),1,24):=k_
theorem Aj.seen{w b v L}(h:Aj w b v L)(f:L.length<=4194304):∃a c,v=.slice a L.length c/\Di w a L/\(a=none->c=0)/\L.length<=c:=by
 have d:=h
 rcases h.2 with⟨rfl,h0⟩|⟨g,cap,cur,rfl,_,hh,hnc,_⟩
 exact⟨none,0,by rw[h0],⟨f,.inl h0⟩,λ_=>rfl,o_⟩;refine⟨_,cap,rfl,⟨f,.inr ⟨g,0,rfl,?_⟩⟩,(λe=>by cases e),hnc⟩
 have j:∀i,i<L.length->w.cell? (A_ g (i*4))=some (I_ (L.getD i e0).v)/\w.cell? (A_ g (i*4+1))=some (I_ (L.getD i e0).lo)/\w.cell? (A_ g (i*4+2))=some (I_ (L.getD i e0).hi)/\w.cell? (A_ g (i*4+3))=some (I_ (L.getD i e0).wt)/\∀o,w.frozen? (A_ g o)=false:=λi hi=>by have e:L=L.take i++L.getD i e0::L.drop (i+1):=(by grind [List.drop_eq_getElem_cons,List.take_append_drop]);rw[e] at d;exact Aj.at (n:=L.length) (by rw[<- e] at d ⊢;exact d) (by rw[<- e]) t_
 refine⟨λ_=>(Qb hh).1,λi hi=>?_,λi hi=>?_,λi hi=>?_,λi hi=>?_⟩
 ·grind
 ·grind
 ·grind
 grind
def Aj.mono{w b b' v L}(h:Aj w b' v L)(f:b<=b'):Aj w b v L:=by
 refine⟨h.1,?_⟩
 rcases h.2 with i|⟨g,a,c,e,d,r⟩
 exact .inl i;exact .inr ⟨g,a,c,e,Nat.le_trans f d,r⟩
structure dz(w:World)(base)(v)(vs)(Ls:List (List Ct)):Prop where
 row:w.ownsRow base 29 1 v Ls.length vs
 each:∀i,i<Ls.length->Aj w base (vs.getD i (.slice none 0 0)) (Ls.getD i [])
def Zch(w:World)(base:Nat)(v:Value)(Ls:List (List Ct)):Prop:=∃vs,dz w base v vs Ls
def Aj.grown{w w'}{base b2 e2 s2 n2:Nat}{v u L xs}(h:Aj w base v L)(g:w.ownsRow b2 e2 s2 u n2 xs)(hne:e2≠98)(hg:w.grownBy w' u.ownBlock):Aj w' base v L:=
 World.ownsRow.kept h hg (An g h hne)
def dz.below{w w' base v vs Ls}(h:dz w base v vs Ls)(hb:Below w.heap.size w w'):dz w' base v vs Ls:=
 ⟨(Aa.of_below (S:=λ_=>False) hb).row h.row (λ_ _=>id),λi hi=>(h.each i hi).below hb⟩
def dz.put{w a g d n i c b u l}(h:dz w a (L_ g n d) c b)(p:n=b.length)(o:Aj w a u l)(r:i<n):dz (w.setCell (A_ g i) u) a (L_ g n d) (c.set i u) (b.set i l)/\w.grownBy (w.setCell (A_ g i) u) (some g):=by
 subst p;obtain⟨q,m⟩:=World.ownsRow.stored h.row i u;have s:c.length=b.length:=(by have:=h.row.1;omega);refine⟨⟨by simpa using q,λj hj=>?_⟩,m⟩;simp only[List.length_set] at hj
 by_cases e:j=i
 subst e;have f:(c.set j u).getD j (.slice none 0 0)=u:=w_;have k:(b.set j l).getD j []=l:=w_;rw[f,k];exact o.grown h.row d_ m;have f:(c.set i u).getD j (.slice none 0 0)=c.getD j (.slice none 0 0):=w_;have k:(b.set i l).getD j []=b.getD j []:=w_;rw[f,k];exact(h.each j hj).grown h.row d_ m
def dz.view{w a v c b}(h:dz w a v c b)(d:0<b.length):∃g cap,v=L_ g b.length cap/\a<=g/\g<w.heap.size/\(∀i,i<b.length->w.cell? (A_ g i)=some (c.getD i (.slice none 0 0)))/\∀i,w.frozen? (A_ g i)=false:=by
 have e:c.length=b.length:=by have:=h.row.1;omega
 rcases h.row.2 with⟨_,h1⟩|⟨g,cap,cur,rfl,hb,hh,_⟩
 omega;refine⟨g,cap,rfl,hb,(Qb hh).1,λi hi=>?_,λi=>World.ownsRow.frozenAt h.row i⟩;rw[World.ownsRow.cellAt h.row i o_]
 grind
def Nz(Ls:List (List Ct))(k:Nat):List (List Ct):=List.replicate k []++Ls.drop k
def iy{a k}(h:k<=a.length):(Nz a k).length=a.length:=by simp[Nz];omega
def Zj7{a}{k}:(Nz a k).getD k []=a.getD k []:=by simp[Nz,List.getD,List.getElem?_append_right]
def Zbe{a k}(h:k<a.length) l:(Nz a k).set k l=List.replicate k []++l::a.drop (k+1):=by unfold Nz;rw[List.drop_eq_getElem_cons h,List.set_append_right _ _ s_,List.length_replicate,Nat.sub_self,List.set_cons_zero]
def ZfK{a k}(h:k<a.length):(Nz a k).set k []=Nz a (k+1):=by rw[Zbe h,Nz,List.replicate_succ',List.append_assoc];rfl
def ZdQ{size}{a:List (List Ct)}{l k}(h:k<a.length)(b:(a.getD k []).length=0):Bg size (a.drop k) l=l::a.drop (k+1):=by
 rw[List.drop_eq_getElem_cons h]
 grind [Bg]
def Zb1{size}{a:List (List Ct)}{l k}(h:k<a.length)(b:(a.getD k []).length≠0):Bg size (a.drop k) l=[]::Bg size (a.drop (k+1)) (Do (Bp (a.getD k []) l) size):=by
 rw[List.drop_eq_getElem_cons h]
 grind [Bg]
def Zg{a:List (List Ct)}{k}(h:k<a.length):Bh (a.drop k)=Ae (a.getD k [])+Bh (a.drop (k+1)):=by rw[List.drop_eq_getElem_cons h];have:a.getD k []=a[k]:=(by simp[List.getD,h]);rw[this];rfl
def Rm{a:List (List Ct)}{k}(h:k<a.length):a.getD k []∈a:=w_
def ZdP d v u f l b w (hL:Zch w d v f)(F:Aj w d u l)(a4:Fo f)(N:Bq l)(Q:l.length<=32)(hs:2<=b)(aN:b<=32)(ht:Bh f+Ae l<=1000000000000)(hn:f.length<=1000)(aE:d<=w.heap.size):C_ 318 #[v,u,.int .i64 b] w λe w'=>∃v',e=.returned v'/\Zch w' d v' (Bg b f l)/\Below d w w':=by
 obtain⟨aO,U⟩:=hL;obtain⟨j0,a8,aK,aI,aP⟩:=info_parts ZjV
 have aG:∃a c,v=.slice a f.length c:=by
  rcases U.row.2 with⟨rfl,h1⟩|⟨g,aH,cur,rfl,_⟩
  ·grind
  grind
 obtain⟨va,t,rfl⟩:=aG;have Z:=x1_ U;have HU:=x4_ F N Q ht;have T:=x1_ a4;obtain⟨n,O⟩:=ex_ f.length;have M:=x1_ O;rw[<- O] at hn ⊢;clear U F a4 N Q ht O;go_enter Tryz.func318,Tryz.ntmps318;go_wp2_with fail
 go_loopw [11,1] (λti tu wr=>∃(k:Nat) (j:List Ct) (D:List Value),ti=.int .i64 k/\k<=n/\Hid (dz wr d (.slice va n t) D (Nz f k)/\Aj wr d tu j/\Bq j/\j.length<=32/\Bh (f.drop k)+Ae j<=1000000000000/\Bg b f l=List.replicate k []++Bg b (f.drop k) j)/\Below d w wr) (λti _ _=>n-(intOf ti).toNat)
 case atStart=>exact⟨0,l,aO,rfl,qg_,⟨by have:=Z.out;rw[<- M] at this;exact this,HU.1,HU.2.1,HU.2.2.1,HU.2.2.2,rfl⟩,bz_⟩
 case round=>
  clear Z HU;obtain⟨k,j,D,rfl,hk,HR,y⟩:=hrel;obtain⟨J,F,N,Q,ht,A⟩:=HR
  skip
  have aW:=y.size
  by_cases hkn:k<n
  ·have m:k<f.length:=(by rw[<- M];exact hkn);have B:=iy (show k<=f.length by omega);obtain⟨g,aH,hv,a3,aJ,r,W⟩:=J.view o_;injection hv with hv1 hv2 hv3;subst hv1 hv3;clear hv2;have I:=r k o_;have hE:=J.each k o_;rw[Zj7] at hE;have gO:=T.good _ (Rm m);have lO:=T.len _ (Rm m);have tO:=Zg m;obtain⟨ao,co,V,R,aF,_⟩:=hE.seen o_;rw[V] at I;have aQ:=W k;have b3:0<=(k:Int):=o_;have aV:k<(n:Int):=o_;have HX:=x1_ J;obtain⟨G,E,H,C,s,_⟩:=F.seen o_;subst H
   by_cases h0:(f.getD k []).length=0
   ·have L:=ZdQ (size:=b) (l:=j) m h0;have HF:Hid (Zch (wr.setCell (A_ g k) (.slice G j.length E)) d (L_ g n t) (Bg b f l)/\Below d w (wr.setCell (A_ g k) (.slice G j.length E))):=(by obtain⟨p1,p2⟩:=J.put (i:=k) (by rw[B];exact M) F hkn;refine⟨⟨D.set k (.slice G j.length E),?_⟩,y.setCell a3 _⟩;rw[A,L,<- Zbe m];exact p1);rw[h0] at I;clear J F r hE R C V A W L B s;go_wp2;go_ret;exact⟨_,rfl,HF.1,HF.2⟩
   have L:=Zb1 (size:=b) (l:=j) m h0;have aY:(((f.getD k []).length:Int)==0)=_:=beq_eq_false_iff_ne.2 o_;have pj:=(Df gO).1;have pl:=(Df N).1;have pr:=Eh (Ls:=f.drop (k+1)) (λx hx=>T.good x (List.mem_of_mem_drop hx));have gj:=Gb gO N o_;have gc:=gj.sub (Hf gj b);have lc:=Ia (Bp (f.getD k []) j) hs;have lj:=Km (f.getD k []) j;have tc:Ae (Do (Bp (f.getD k []) j) b)=Ae (f.getD k [])+Ae j:=(by rw[Fm,Er]);have HJ:=x1_ (Za6 _ _ _ _ co E _ R C gO N)
   have o:Hid (Bq (Bp (f.getD k []) j)/\(Bp (f.getD k []) j).length<=64/\Bq (Do (Bp (f.getD k []) j) b)/\(Do (Bp (f.getD k []) j) b).length<=32/\Bh (f.drop (k+1))+Ae (Do (Bp (f.getD k []) j) b)<=1000000000000/\Bg b f l=List.replicate (k+1) []++Bg b (f.drop (k+1)) (Do (Bp (f.getD k []) j) b)):=(by refine⟨gj,o_,gc,o_,o_,?_⟩;rw[A,L,List.replicate_succ',List.append_assoc];rfl);have aD:=x1_ m;clear J F r hE R C V A W L B gj gc lc lj tc pj pl pr gO lO tO ht N aF s h0 m;generalize (f.getD k []).length=no at *;go_wp2_with fail
   refine HJ.mono ?_;rintro e w1 ⟨vj,rfl,a6,P⟩;have aM:=P.size;obtain⟨aj,cj,rfl,a2,a9,_⟩:=a6.seen (by have:=o.2.1;omega);have aA:=x1_ (Zem _ _ _ b _ a2 o.1 a9);clear a6 a2 a9 HJ;generalize (Bp (f.getD k []) j).length=nj at *;go_wp2_with fail
   refine aA.mono ?_;rintro e Y ⟨vc,rfl,a7,X⟩;have aN:=X.size;have z:=P.trans (X.mono aM)
   have a0:∃aB,Hid (dz (Y.setCell (A_ g k) (.slice none 0 0)) d (L_ g n t) aB (Nz f (k+1))/\Aj (Y.setCell (A_ g k) (.slice none 0 0)) d vc (Do (Bp (f.getD k []) j) b)/\Bq (Do (Bp (f.getD k []) j) b)/\(Do (Bp (f.getD k []) j) b).length<=32/\Bh (f.drop (k+1))+Ae (Do (Bp (f.getD k []) j) b)<=1000000000000/\Bg b f l=List.replicate (k+1) []++Bg b (f.drop (k+1)) (Do (Bp (f.getD k []) j) b))/\Below d w (Y.setCell (A_ g k) (.slice none 0 0))/\Y.cell? (A_ g k)=some (.slice ao no co)/\Y.frozen? (A_ g k)=false:=by
    have S:=HX.below z;have m:=aD.out;have s:n=(Nz f k).length:=(by rw[iy (Nat.le_of_lt m)];exact M);obtain⟨p1,p2⟩:=S.put (i:=k) s (Aj.nil Y d) hkn;rw[ZfK m] at p1;have a5:=(a7.mono (show d<=w1.heap.size by omega)).grown S.row d_ p2;refine⟨_,⟨p1,a5,o.2.2⟩,?_,?_,?_⟩;exact(y.trans (z.mono o_)).setCell a3 _;exact(z.cell (p:=(A_ g k)) aJ).trans I;have h2:=S.row;rw[<- s] at h2;exact World.ownsRow.frozenAt h2 k
   obtain⟨aB,aR,aZ,aT,aU⟩:=a0;clear a7 X z P HX aA o I aQ;go_wp2;go_roundw;case rel=>grind
   case measure=>exact z_
  have aS:k=n:=o_;have L:Bg b f l=List.replicate k []++[j]:=by rw[A,List.drop_eq_nil_of_le (by have:=M.out;omega)];rfl
  have s:(Nz f k).length=n:=(by rw[iy (by have:=M.out;omega)];exact M.symm);have aC:Nz f k=List.replicate k []:=(by unfold Nz;rw[List.drop_eq_nil_of_le (by have:=M.out;omega),List.append_nil]);have aX:¬k<(n:Int):=o_;obtain⟨G,E,H,C,a1,_⟩:=F.seen o_;subst H;have HX:=x1_ J;have q:Hid (wr.ownsRow d 29 1 (.slice va n t) n D):=(by have:=J.row;grind);have aL:=x1_ F;have HT:Hid (Bg b f l=Nz f k++[j]):=(by rw[aC];exact L);clear J F L aC A N ht C a1;go_wp2_with (at_builtin;refine Ab rfl (.tmp 33) _ 80 rfl _ 29 j0 _ 1 24 Tryz.underlying80 a8 aK aI aP rfl d_ _ n D rfl (q.alloc _) _ 1 1 [.slice G j.length E] rfl rfl ?_ ?_ ?_ ?_ ?_ ?_ ?_)
  rfl;unfold maxLen;omega;omega;omega;intro v3 w3 H3
  have HF:Hid (Zch w3 d v3 (Bg b f l)/\Below d w w3):=by
   obtain⟨q1,q2,q3,_⟩:=H3;have H:D.length=n:=(by have:=q.1;omega);refine⟨⟨D++[.slice G j.length E],?_⟩,?_⟩
   ·rw[HT];refine⟨w_,λi hi=>?_⟩;rw[Qe,s] at hi;simp at hi
    by_cases hin:i<n
    have e1:(D++[Value.slice G j.length E]).getD i (.slice none 0 0)=D.getD i (.slice none 0 0):=w_;have e2:(Nz f k++[j]).getD i []=(Nz f k).getD i []:=w_;rw[e1,e2];exact((HX.each i o_).alloc _).grown (q.alloc _) d_ q2;have e0:i=n:=o_;subst e0;have e1:(D++[Value.slice G j.length E]).getD i (.slice none 0 0)=.slice G j.length E:=w_;have e2:(Nz f k++[j]).getD i []=j:=w_;rw[e1,e2];exact(aL.alloc _).grown (q.alloc _) d_ q2
   exact y.trans ((bz_.alloc o_ _).grown q2 t_ (λk hk=>(q.lt k hk).1))
  skip
  go_wp2;go_ret;exact⟨_,rfl,HF.1,HF.2⟩
def ZgP:Prop:=∀va wa vl vc wl wc vz wz w,Cq w va vl vz->Cq w wa wl wz->vl<=2097152->wl<=2097152->
  C_ 45 #[.slice va vl vc,.slice wa wl wc] w λe w'=>∃v M,e=.returned v/\Ed (Ar vz wz) M/\Aj w' w.heap.size v (Bv 0 M)/\E_ w w'
def du{vs ws}(h:vs.length<=2097152):Bq (Iz vs ws)/\(Iz vs ws).length<=vs.length/\Ae (Iz vs ws)<=1000*vs.length:=by
 have b:=Rb (Ar vs ws);have c:Bq (Iz _ _):=b.good h;have j:=Jm vs ws;refine⟨c,?_,?_⟩
 ·have:=c.len (U:=(Ar vs ws).map λp=>p.1) (λe he=>by
   obtain⟨p,a,d,_⟩:=(Ru (Zb (Ar vs ws)) 0).1 e he;obtain⟨q,g,i⟩:=b.sub p a
   grind)
  grind
 have d:=(bh.of_sum b).total;have f:=Rw (ps:=Ar vs ws) (λp a=>(Ig a).1.2)
 grind [Iz]
def Cq.part{w b a n fr m c}(h:Cq w (some ⟨b,a,none⟩) n c)(e:fr+m<=n):Cq w (some ⟨b,a+fr,none⟩) m ((c.drop fr).take m):=by
 obtain⟨g,d,f⟩:=h;refine⟨t_,λz hz=>d z (List.mem_of_mem_drop (List.mem_of_mem_take hz)),?_⟩
 grind
def Ro{w j b a n B k}(h:Cq w (some ⟨b,a,none⟩) n k)(g:Below B w j)(d:b<B):Cq j (some ⟨b,a,none⟩) n k:=by
 obtain⟨o,l,f⟩:=h;refine⟨o,l,?_⟩
 rcases f with f|⟨q,r,e,c,m⟩
 exact .inl f;injection e with e;injection e with e1 e2;subst e1 e2;exact .inr ⟨b,a,rfl,Qh c g.size,λi hi=>(g.cell (p:=(A_ b (a+i))) d).trans (m i hi)⟩
def yn(a9:ZgP) va wa (n p o b:Nat) j l w (hv:Cq w va n j)(hw:Cq w wa n l)(hn:n<=1000)(bH:n<=p)(bE:n<=o)(hs:2<=b)(aV:b<=32):C_ 274 #[.slice va n p,.slice wa n o,.int .i64 b] w λe w'=>∃v,e=.returned v/\Aj w' w.heap.size v (Dl b j l)/\Below w.heap.size w w':=by
 have HV:=x1_ hv;have HW:=x1_ hw;have a2:=x1_ a9;have I:=x2_ hv.1 hw.1;clear hv hw a9;go_enter Tryz.func274,Tryz.ntmps274;go_wp2_with fail
 go_loopw [7,8] (λtl tf wr=>∃(d fu:Nat) (h:List (List Ct)),tf=.int .i64 d/\d<=n+b/\Hid (Zch wr w.heap.size tl h/\Fo h/\Bh h<=1000*(d:Int)/\h.length<=d/\n-d<=fu/\Dk b fu h (j.drop d) (l.drop d)=Dk b n [] j l)/\E_ w wr) (λ_ tf _=>n+b-(intOf tf).toNat)
 case atStart=>exact⟨0,n,[],rfl,qg_,⟨⟨[],rn_,λi hi=>by simp at hi⟩,Fo.nil,by simp[Bh],s_,o_,rfl⟩,bz_⟩
 case round=>
  obtain⟨d,fu,h,rfl,bD,T,A⟩:=hrel;have a5:=A.size
  by_cases hkn:d<n
  ·rcases HV.out with⟨_,_,h0|⟨b1,o1,rfl,hb1,_⟩⟩;omega;rcases HW.out with⟨_,_,h0|⟨b2,o2,rfl,hb2,_⟩⟩;omega;obtain⟨C,aC⟩:=ex_ (min (d+b) n);have b8:d<(n:Int):=o_;have L:d<=(C:Int):=o_;have P:C<=(p:Int):=o_;have J:C<=(o:Int):=o_;have b9:¬p=d:=o_;have b7:¬o=d:=o_;have s:=x1_ aC;clear aC;have bA:C-d<=b:=(by have:=s.out;omega);go_upto_region 5 with fail;go_cut [9] (λv wx=>v=.int .i64 C/\wx=wr)
   case first=>
    by_cases hc:(d:Int)+(b:Int)<=(n:Int)
    ·have e1:C=d+(b:Int):=(by have:=s.out;omega);have E1:=x1_ e1;clear e1 L P J;go_wp2;go_meet
     exact⟨by rw[E1.out],rfl⟩
    have e1:C=(n:Int):=(by have:=s.out;omega);have E1:=x1_ e1;clear e1 L P J;go_wp2;go_meet
    exact⟨by rw[E1.out],rfl⟩
   case rest=>
    obtain⟨rfl,aL⟩:=hcut;obtain rfl:=aL.symm;clear aL
    have aA:Hid (∀W:World,E_ w W->C_ 45 #[.slice (some ⟨b1,o1+d,none⟩) (C-d) (p-d),.slice (some ⟨b2,o2+d,none⟩) (C-d) (o-d)] W λe w'=>∃v,e=.returned v/\Aj w' W.heap.size v (Iz ((j.drop d).take b) ((l.drop d).take b))/\E_ W w'):=by
     intro W hW;have aN:=(Ro HV hW hb1);have b5:=(Ro HW hW hb2);have q1:=aN.part (fr:=d) (m:=C-d) (by have:=s.out;omega);have q2:=b5.part (fr:=d) (m:=C-d) (by have:=s.out;omega)
     have el:∀z:List Int,z.length=n->(z.drop d).take (C-d)=(z.drop d).take b:=λz hz=>by
      by_cases hc:d+b<=n
      rw[show C-d=b by have:=s.out;omega];rw[List.take_of_length_le (by simp;have:=s.out;omega),List.take_of_length_le t_]
     rw[el _ I.1] at q1;rw[el _ I.2] at q2;refine(a2 _ _ _ _ _ _ _ _ W q1 q2 o_ o_).mono ?_;rintro e w' ⟨v,M,rfl,hM,ho,hb⟩;refine⟨v,rfl,?_,hb⟩;unfold Iz;rw[ZbY hM];exact ho
    obtain⟨hL,Q,a1,aY,aX,r⟩:=T.out;have G:=du (vs:=(j.drop d).take b) (ws:=(l.drop d).take b) w_;have R:((j.drop d).take b).length<=b:=t_;have Z:=Rx (size:=(b:Int)) o_ o_ Q G.1 o_ o_;obtain⟨f',aG⟩:∃f',fu=f'+1:=⟨fu-1,o_⟩;have N:Dk b f' (Bg b h (Iz ((j.drop d).take b) ((l.drop d).take b))) (j.drop (d+b)) (l.drop (d+b))=Dk b n [] j l:=by rw[<- r,aG];simp only[Dk];rw[if_neg w_,List.drop_drop,List.drop_drop]
    have aQ:Hid (Fo (Bg b h (Iz ((j.drop d).take b) ((l.drop d).take b)))/\Bh (Bg b h (Iz ((j.drop d).take b) ((l.drop d).take b)))<=1000*(d+b:Nat)/\(Bg b h (Iz ((j.drop d).take b) ((l.drop d).take b))).length<=d+b/\n-(d+b)<=f'/\Dk b f' (Bg b h (Iz ((j.drop d).take b) ((l.drop d).take b))) (j.drop (d+b)) (l.drop (d+b))=Dk b n [] j l):=by refine⟨Z.1,?_,?_,o_,N⟩;rw[Z.2];omega;have:=lf (b:Int) h (Iz ((j.drop d).take b) ((l.drop d).take b));omega
    have aE:Hid (∀W u,E_ wr W->Aj W w.heap.size u (Iz ((j.drop d).take b) ((l.drop d).take b))->C_ 318 #[u7,u,.int .i64 b] W λe w'=>∃v',e=.returned v'/\Zch w' w.heap.size v' (Bg b h (Iz ((j.drop d).take b) ((l.drop d).take b)))/\Below w.heap.size W w'):=(by intro W u hW hu;obtain⟨vs,hX⟩:=hL;exact ZdP _ u7 u h _ _ W ⟨vs,hX.below hW⟩ hu Q G.1 o_ o_ o_ o_ o_ (by have:=hW.size;omega));clear hL Q a1 aY aX r G R Z N T;generalize Iz ((j.drop d).take b) ((l.drop d).take b)=sE at *;go_wp2_with fail
    go_region_held3 (λ_=>True) (trivial) (first|(go_at_call 45;refine(aA.out _ A.drew).mono ?_;rintro e w1 ⟨vv,rfl,aD,y⟩)|(go_at_call 318;refine(aE _ _ (bz_.drew.trans y) (aD.mono (by have:=y.size;simp at this ⊢;omega))).mono ?_;rintro e w2 ⟨v2,rfl,a3,O⟩))
    have HF:=x1_ a3;have V:=(A.drew.trans (y.mono a5)).trans O;clear a3 O y aD aA aE aG;refine rd_ ?_;exact⟨d+b,f',_,g_,o_,⟨HF,aQ⟩,V⟩
  have bB:¬d<(n:Int):=o_
  have B:Hid (Zch wr w.heap.size u7 h/\Fo h/\Bh h<=2000000/\h.length<=2000/\Dl b j l=Ff b [] h):=by
   obtain⟨h1,h2,h3,h4,h5,h6⟩:=T;refine⟨h1,h2,o_,o_,?_⟩;unfold Dl;rw[I.1,<- h6]
   cases fu with
   |zero=>rfl
   | succ f=>
    simp only[Dk];rw[if_pos (by simp;have:=I.out;omega)]
  obtain⟨vs,hX⟩:=B.1
  have aZ:∃a c,u7=.slice a h.length c:=by
   rcases hX.row.2 with⟨rfl,h1⟩|⟨g,aM,cur,rfl,_⟩
   ·grind
   grind
  obtain⟨la,lc,rfl⟩:=aZ;have HX:=x1_ hX;have F:=x3_ B.2.1 B.2.2.1 B.2.2.2.2;have b3:=B.2.2.2.1;obtain⟨m,hm⟩:=ex_ h.length;have HM:=x1_ hm;rw[<- hm] at b3 ⊢;clear hX hm B a2;obtain⟨wl,aW⟩:∃wl,wl=wr:=⟨wr,rfl⟩;subst aW;go_wp2_with fail
  go_loopw [40,10] (λti U wr=>∃(k:Nat) (q:List Ct),ti=.int .i64 k/\k<=m/\Hid (Aj wr w.heap.size U q/\Bq q/\q.length<=32/\Ae q+Bh (h.drop k)<=2000000/\Ff b q (h.drop k)=Ff b [] h)/\E_ wl wr) (λti _ _=>m-(intOf ti).toNat)
  case atStart=>exact⟨0,[],rfl,qg_,⟨Aj.nil _ _,Bq.nil,s_,by have:=F.2.1;simpa [Ae] using this,rfl⟩,bz_⟩
  case round=>
   obtain⟨k,q,rfl,hk,T,H⟩:=hrel;have aU:=H.size
   by_cases hkm:k<m
   ·have D:k<h.length:=(by rw[<- HM];exact hkm);obtain⟨aK,X,bC,U,r⟩:=T.out;have S:=HX.below H;obtain⟨g,aM,hv,bI,bF,E,_⟩:=S.view o_;injection hv with hv1 hv2 hv3;subst hv1 hv3;clear hv2;have aJ:=E k D;have hE:=S.each k D;have gO:=F.1.good _ (Rm D);have lO:=F.1.len _ (Rm D);have tO:=Zg D;have tP:=Eh (Ls:=h.drop (k+1)) (λx hx=>F.1.good x (List.mem_of_mem_drop hx));obtain⟨ao,co,aF,a7,aP,_⟩:=hE.seen o_;rw[aF] at aJ;obtain⟨aa,ca,aO,aH,aT,_⟩:=aK.seen o_;subst aO;have hd:h.drop k=h.getD k []::h.drop (k+1):=by rw[List.drop_eq_getElem_cons D];grind
    rw[hd] at r;simp only[Ff] at r;have gj:=Gb X gO o_;have gc:=gj.sub (Hf gj b);have aR:=Ia (Bp q (h.getD k [])) (size:=(b:Int)) o_;have lj:=Km q (h.getD k []);have tc:Ae (Do (Bp q (h.getD k [])) b)=Ae q+Ae (h.getD k []):=(by rw[Fm,Er]);have HJ:=x1_ (Za6 _ _ _ _ ca co _ aH a7 X gO);have t:Hid (Bq (Bp q (h.getD k []))/\(Bp q (h.getD k [])).length<=64/\Bq (Do (Bp q (h.getD k [])) b)/\(Do (Bp q (h.getD k [])) b).length<=32/\Ae (Do (Bp q (h.getD k [])) b)+Bh (h.drop (k+1))<=2000000/\_):=⟨gj,o_,gc,o_,o_,r⟩;have bK:0<=(k:Int):=o_;have bG:k<(m:Int):=o_
    clear aK X U r S E hE gO lO tO tP aF a7 aP aH aT hd gj gc aR lj tc T;generalize (h.getD k []).length=no at *;go_wp2_with fail
    refine HJ.mono ?_;rintro e w1 ⟨vj,rfl,aB,Y⟩;have aS:=Y.size;obtain⟨aj,cj,rfl,a4,aI,_⟩:=aB.seen (by have:=t.2.1;omega);have a8:=x1_ (Zem _ _ _ b _ a4 t.1 aI);clear aB a4 aI HJ;generalize (Bp q (h.getD k [])).length=nj at *;go_wp2_with fail
    refine a8.mono ?_;rintro e w2 ⟨vc,rfl,a6,a0⟩;have aV:=a0.size;have V:=H.trans ((Y.trans (a0.mono aS)).mono aU);have HF:Hid (Aj _ w.heap.size _ _):=a6.mono o_;clear a6 a0 Y a8 aJ;refine rd_ ?_;exact⟨k+1,_,g_,o_,⟨HF,t.2.2⟩,V⟩
   have b6:¬k<(m:Int):=o_;have HF:Hid (Aj wr w.heap.size u10 (Dl b j l)/\E_ w wr):=by obtain⟨h1,_,_,_,h5⟩:=T;rw[List.drop_eq_nil_of_le (by have:=HM.out;omega)] at h5;simp only[Ff] at h5;rw[F.2.2,<- h5];exact⟨h1,A.trans (H.mono a5)⟩
   skip
   go_wp2;go_ret;exact⟨_,rfl,HF.1,HF.2⟩
theorem si a:∀n i,a.length-i<=n->Dw a [] n i 0=a.drop i
 |0,i,h=>by rw[List.drop_eq_nil_of_le o_];rfl
 | n+1,i,h=>by
  by_cases hi:i<a.length
  simp only[Dw];rw[if_pos ⟨hi,λh=>by simp at h⟩,si a n (i+1) o_,List.drop_eq_getElem_cons hi];congr 1;simp[seen,Cn,Dm,Ae,List.getD,hi];simp only[Dw];rw[if_neg (λh=>hi h.1),if_neg (λh=>by simp at h),if_neg (λh=>hi h.1),List.drop_eq_nil_of_le o_]
def ZfE a:Bp a []=a:=by grind [Bp,si]
def Zfm{L a}(h:L.length<=a):Do L a=L:=by
 unfold Do
 grind
def Sd:Nat->List (List Ct)->List (Nat×List Ct)
  |_,[]=>[]
  |N,l::r=>if l.length=0 then Sd (N+1) r else(N,l)::Sd (N+1) r
def skT(size:Int):Nat->List Ct->List (Nat×List Ct)->List (Nat×List Ct)
 |N,l,[]=>[(N,l)]
 |N,l,p::r=>if p.1=N then skT size (N+1) (Do (Bp p.2 l) size) r else(N,l)::p::r
def yv:∀(Ls:List (List Ct)) (N:Nat),∀p∈Sd N Ls,N<=p.1
  |[],N=>by simp[Sd]
  | l::r,N=>λp hp=>by
    unfold Sd at hp;split at hp;have:=yv r (N+1) p hp;omega
    rcases List.mem_cons.1 hp with rfl|hp
    omega;have:=yv r (N+1) p hp;omega
theorem Vf{l}(h:0<Ae l):l.length≠0:=λe=>by unfold Ae at h;omega
def sy size:∀Ls l N,(∀x∈Ls,0<=Ae x)->0<Ae l->Sd N (Bg size Ls l)=skT size N l (Sd N Ls)
 |[],l,N,hp,hl=>by grind [Bg,Sd,Vf,skT]
 | o ::r,l,N,hp,hl=>by
  have hpr:∀x∈r,_:=λx hx=>hp x (by simp[hx])
  by_cases ho:o.length=0
  ·simp only[Bg,if_pos ho,Sd,if_neg (Vf hl)];have hg:=yv r (N+1)
   cases hv:Sd (N+1) r with
   |nil=>rfl
   | cons p q=>
    grind [skT]
  simp only[Bg,if_neg ho,Sd,List.length_nil,if_true,skT];refine sy _ r _ _ hpr ?_;rw[Fm,Er]
  grind
def skF(size:Int):List Ct->List (Nat×List Ct)->List Ct
 |all,[]=>all
 |all,p::r=>skF size (Do (Bp all p.2) size) r
def kt{size}(hs:2<=size):∀Ls N all,all.length<=size->Ff size all Ls=skF size all (Sd N Ls)
 |[],N,all,h=>rfl
 | l::r,N,all,h=>by
  by_cases hl:l.length=0
  have e:=List.eq_nil_of_length_eq_zero hl;subst e;simp only[Ff,Sd,List.length_nil,if_true];rw[ZfE,Zfm h];exact kt hs r _ _ h;simp only[Ff,Sd,if_neg hl,skF];exact kt hs r _ _ (Ia _ hs)
def skB(size:Nat):Nat->List (Nat×List Ct)->List Int->List Int->List (Nat×List Ct)
 |0,st,_,_=>st
 |f+1,st,vs,ws=>if vs.length=0 then st else skB size f (skT size 0 (Iz (vs.take size) (ws.take size)) st) (vs.drop size) (ws.drop size)
def Wc:∀(r:List (Int×Int)),(∀q∈r,1<=q.2)->0<=By r
  |[],_=>by simp[By]
  | q::r,h=>by
    have:=Wc r (λx hx=>h x (by simp[hx]))
    grind [By]
def ZiS{b a}(h:b.length≠0)(i:a.length≠0):0<Ae (Iz b a):=by
 have d:=(bh.of_sum (Rb (Ar b a))).total;unfold Iz;rw[d];have c:∀p∈Ar b a,_:=λp c=>(Ig c).1.1;have g:=Jm b a
 cases hps:Ar b a with
 |nil=>grind
 | cons p r=>
  rw[hps] at c;have e:=c p s_;have f:=Wc r λq hq=>c q (by simp[hq]);simp only[By];omega
def lg size:∀Ls l,(∀x∈Ls,0<=Ae x)->0<=Ae l->∀x∈Bg size Ls l,0<=Ae x
 |[],l,h,hl=>by simp[Bg];exact hl
 | o::r,l,h,hl=>by
  have hr:∀x∈r,_:=λx hx=>h x (by simp[hx]);have ho:=h o s_;intro x hx;simp only[Bg] at hx;split at hx
  ·grind
  rcases List.mem_cons.1 hx with rfl|hx
  exact Int.le_refl _;exact lg _ r _ hr (by rw[Fm,Er];omega) x hx
def kq{size}(hs:0<size):∀f Ls vs ws,(∀x∈Ls,0<=Ae x)->vs.length=ws.length->skB size f (Sd 0 Ls) vs ws=Sd 0 (Dk size f Ls vs ws)
 |0,Ls,vs,ws,h,hl=>rfl
 | f+1,Ls,vs,ws,h,hl=>by
  unfold skB Dk
  by_cases h0:vs.length=0
  ·grind
  rw[if_neg h0,if_neg h0];have hp:0<Ae (Iz (vs.take size) (ws.take size)):=ZiS w_ w_;rw[<- sy size Ls _ 0 h hp];exact kq hs f _ _ _ (lg _ _ _ h o_) w_
def Zgi{a:Nat}(g:2<=a) b c (f:b.length=c.length):skF a [] (skB a b.length [] b c)=Dl a b c:=by have d:=kq (size:=a) o_ b.length [] _ _ s_ f;have e:=kt (size:=(a:Int)) o_ (Dk a b.length [] b c) 0 [] s_;unfold Dl;rw[e,<- d];rfl
end Go.Proofs.YtfcgnpchbcmdeaaGreat
