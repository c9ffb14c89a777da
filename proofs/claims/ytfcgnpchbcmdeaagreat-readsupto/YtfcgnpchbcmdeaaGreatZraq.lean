import Derived.Test.YtfcgnpchbcmdeaaGreatZrao
import Derived.Deep.Light
namespace Go.Proofs.YtfcgnpchbcmdeaaGreat
set_option linter.all false
set_option maxRecDepth 100000
set_option maxHeartbeats 4000000
open Go.RowKit
def Ln{w t rest o a Q}(E:o.guard=none) s x (V:o.op=.call {callee:=.builtin .append,args:=#[s,x],argTypes:=#[29,29]}) i (N:Tryz.prog.info? 98=some i)(d:i.size=4) p g b n m A B y z (F:A.length=m)(L:n=(A++y::B).length)(U:a.eval s=L_ g m b)(M:Aj w p (L_ g n b) (A++y::B)) I c (S:a.eval x=.slice (some I) 1 c)(q:∀j u,[I_ z.v,I_ z.lo,I_ z.hi,I_ z.wt][j]? =some u->w.cell? (I.add j)=some u)(h:∀w',Aj w' p (L_ g n b) (A++z::B)->w.grownBy w' (some g)->wpList Tryz.prog t Q rest (a.put o.dst (L_ g (m+1) b)) w'):wpList Tryz.prog t Q (o::rest) a w:=by
 subst L
 rcases M.2 with⟨e,_⟩|⟨g',cap',cur,e,hb,hg,hnc,hcm,hcs,htake⟩
 simp at e;simp only[Value.slice.injEq,Option.some.injEq,Addr.mk.injEq,and_true,true_and] at e;obtain⟨rfl,rfl⟩:=e;have C:(A++y::B).length=m+1+B.length:=(by simp[F];omega);have r:(flat A).length=m*4:=(by rw[Ef,F]);refine wpList_plain E λK hK=>?_;have l:=run_append_room (P:=Tryz.prog) w 29 o.type 98 i Tryz.underlying29 N g m b _ hg _ 1 c _ (by rw[d];rfl) q (Ql _ _ _ _) o_ (by rw[d,hcs];simp;omega);rw[d] at l;have D:cur.toList=flat (A++y::B)++cur.toList.drop ((A++y::B).length*4):=by rw[<- htake,List.take_append_drop]
 have f:cur.toList.take (m*4)++[I_ z.v,I_ z.lo,I_ z.hi,I_ z.wt]++cur.toList.drop (m*4+4)=flat (A++z::B)++cur.toList.drop ((A++y::B).length*4):=by
  rw[D];generalize cur.toList.drop ((A++y::B).length*4)=T;rw[Cu,Cu];have R:(flat A++flat (y::B)++T).take (m*4)=flat A:=by rw[List.append_assoc,<- r,List.take_left]
  have J:(flat A++flat (y::B)++T).drop (m*4+4)=flat B++T:=(by rw[List.append_assoc,<- List.drop_drop,<- r,List.drop_left];simp[flat,Ee]);have O:List.drop ((A++y::B).length*4) (flat A++flat (y::B)++T)=T:=(by rw[<- Cu,<- Ef,List.drop_left]);rw[R,J,O];simp[flat,Ee]
 have H:(flat (A++z::B)++cur.toList.drop ((A++y::B).length*4)).length=b*4:=(by have G:cur.toList.length=b*4:=(by rw[Array.length_toList,hcs]);rw[Qe,Ef,List.length_drop,G];rw[C] at hnc ⊢;have:(A++z::B).length=m+1+B.length:=(by simp[F]<;>omega);omega);unfold Oper.wp;simp only[execOp,V,resolve,invoke,builtin,Sem.run_bind,Sem.run_pure,Result.andThen_ok,List.map_toArray,List.map_cons,List.map_nil,U,S,l];refine hK _ _ (h _ ?_ ?_)
 ·refine⟨by rw[Ef],.inr ⟨g,b,_,s_,hb,setRow_heap w g _ _ _ _ hg,?_,hcm,?_,?_⟩⟩
  ·simpa using hnc
  simp only[List.length_cons,List.length_nil] at f ⊢;rw[List.size_toArray];simp only[Nat.zero_add,Nat.reduceAdd];rw[f];exact H;simp only[List.length_cons,List.length_nil,Nat.zero_add,Nat.reduceAdd];rw[f,show(A++z::B).length*4=(flat (A++z::B)).length by rw[Ef],List.take_left]
 exact⟨rfl,rfl,rfl,by simp[World.setRow],λk _ hk=>setRow_other w g k _ (λe=>hk (by rw[e]))⟩
def Aj.prefix{w a g b n m A B}(h:Aj w a (L_ g n b) (A++B))(d:n=(A++B).length)(c:m=A.length):Aj w a (L_ g m b) A:=by
 subst d c
 rcases h.2 with⟨e,_⟩|⟨g',cap',cur,e,hb,hg,hnc,hcm,hcs,htake⟩
 simp at e;simp only[Value.slice.injEq,Option.some.injEq,Addr.mk.injEq,and_true,true_and] at e;obtain⟨rfl,rfl⟩:=e;refine⟨Ef A,.inr ⟨g,b,cur,rfl,hb,hg,by simp at hnc;omega,hcm,hcs,?_⟩⟩;have:(flat (A++B)).take (A.length*4)=flat A:=(by rw[Cu,<- Ef,List.take_left]);rw[<- this,<- htake,List.take_take];congr 1;simp<;>omega
def Zi1{a}(b:∀p∈a,1<=p.2) v:No a v<=By a:=by
 induction a with
 |nil=>simp[No,By]
 | cons p r ih=>
  have d:=ih (λq hq=>b q (by simp[hq]));have c:=b p s_;simp only[No,By];split<;>omega
def jg(W:World){n}(a:W.heap.size=n) c:∀j u,c.toList[j]? =some u->(W.alloc (.cells c 98)).cell? (((A_ n 0):Addr).add j)=some u:=by subst a;exact Am W c _
def Hp{w w' w'':World}{r}(h:w.grownBy w' r)(k:w'.grownBy w'' r):w.grownBy w'' r:=
 ⟨k.os.trans h.os,k.tape.trans h.tape,k.output.trans h.output,Nat.le_trans h.size k.size,λi hi hne=>(k.block i (Qh hi h.size) hne).trans (h.block i hi hne)⟩
def Ly{w w' r}(h:Below w.heap.size w w'):w.grownBy w' r:=⟨h.os,h.tape,h.output,h.size,λk hk _=>h.block k hk⟩
structure Pq(S:List (Int×Int))(i)(M)(G:List Ct):Prop where
 sum:Ed (S.take i) M
 len:M.length+G.length=i
def Ey(S:List (Int×Int))(i:Nat)(M:List (Int×Int))(G:List Ct):List Ct:=M.map Jc++(G++(S.drop i).map Jc)
def Zdi{S i M G}(h:Pq S i M G)(a:i<=S.length):(Ey S i M G).length=S.length:=by have:=h.len;simp[Ey];omega
def lr{S:List (Int×Int)}{i} hi:S.take (i+1)=S.take i++[S[i]]:=Qi hi
def Zdj{S i M G v w}(h:Pq S i (M++[(v,w)]) G) b (a:v=S[i].1):Pq S (i+1) (M++[(v,w+S[i].2)]) (G++[Jc S[i]]):=by refine⟨?_,by have:=h.len;simp at this ⊢;omega⟩;rw[lr b];have:=h.sum.same S[i].2;rw[show S[i]=(v,S[i].2) from Prod.ext a.symm rfl];exact this
def je{S i M G}(h:Pq S i M G) s (n:S.Pairwise λp q=>p.1<=q.1)(g:∀v w N,M=N++[(v,w)]->v≠S[i].1):Ed (S.take (i+1)) (M++[S[i]]):=by
 rw[lr s];refine h.sum.more _ λq hq=>?_;have m:q.1<=S[i].1:=by obtain⟨j,d,e⟩:=List.mem_iff_getElem.1 hq;rw[List.getElem_take] at e;rw[<- e];exact List.pairwise_iff_getElem.1 n j i (by simp at d;omega) _ (by simp at d;omega)
 rcases Int.lt_or_eq_of_le m with o|o
 exact o;exfalso;obtain⟨r,b,t⟩:=h.sum.all q hq;have c:=List.ne_nil_of_mem b;have f:=(List.dropLast_concat_getLast c).symm;refine g _ _ _ f ?_;have y:(M.getLast c).1<=S[i].1:=by obtain⟨x,l,k⟩:=h.sum.sub _ (List.getLast_mem c);obtain⟨j,d,e⟩:=List.mem_iff_getElem.1 l;rw[List.getElem_take] at e;rw[<- k,<- e];exact List.pairwise_iff_getElem.1 n j i (by simp at d;omega) _ (by simp at d;omega)
 have u:r.1<=(M.getLast c).1:=by
  have a:=h.sum.rise;rw[f] at b a
  rcases List.mem_append.1 b with b|b
  have:=(List.pairwise_append.1 a).2.2 r b (M.getLast c) s_;omega;simp at b;rw[b];exact Int.le_refl _
 omega
def Yv{S i M G}(h:Pq S i M G) c:∃y B G',Ey S i M G=M.map Jc++y::B/\Ey S (i+1) (M++[S[i]]) G'=M.map Jc++Jc S[i]::B/\(M++[S[i]]).length+G'.length=i+1:=by
 have b:=h.len;have a:=List.drop_eq_getElem_cons c
 cases G with
 |nil=>exact⟨Jc _,(S.drop (i+1)).map _,[],by unfold Ey;rw[a,List.map_cons,List.nil_append],by unfold Ey;simp,by simp at b ⊢;omega⟩
 |cons y G=>exact⟨y,G++Jc _::(S.drop (i+1)).map _,G++[Jc S[i]],by unfold Ey;rw[a,List.map_cons];rfl,by unfold Ey;simp,by simp at b ⊢;omega⟩
def jd g a (S:List (Int×Int)) j w (h:Aj w j (L_ g S.length a) (S.map Jc))(hs:S.Pairwise λp q=>p.1<=q.1)(hp:∀p∈S,1<=p.2/\p.2<=1000)(hl:S.length<=2097152):C_ 83 #[.slice (some ⟨g,0,none⟩) S.length a] w λe w'=>∃M,e=.returned (.slice (some ⟨g,0,none⟩) M.length a)/\Ed S M/\M.length<=S.length/\Aj w' j (.slice (some ⟨g,0,none⟩) M.length a) (M.map Jc)/\w.grownBy w' (some g):=by
 obtain⟨i0,E,a9,V,aG⟩:=info_parts Qq;have a7:=(rl_ h g rfl).2
 have a6:S.length<=a:=by
  rcases h.2 with⟨e,_⟩|⟨g',cap',cur,e,hb,hg,hnc,_⟩
  simp at e;simp only[Value.slice.injEq,Option.some.injEq,Addr.mk.injEq,and_true] at e;simp at hnc;omega
 have HO:=x1_ h;have HS:=x1_ hs;have Z:=x1_ hp;clear h hs hp;go_enter Tryz.func83,Tryz.ntmps83;go_wp2_with fail
 go_loopw [3,11] (λtm ti wr=>∃(i:Nat) (M:List (Int×Int)) (G:List Ct),i<=S.length/\ti=.int .i64 i/\tm=.slice (some ⟨g,0,none⟩) M.length a/\Hid (Pq S i M G/\Aj wr j (.slice (some ⟨g,0,none⟩) S.length a) (Ey S i M G)/\w.grownBy wr (some g))) (λ_ ti _=>S.length-(intOf ti).toNat)
 case atStart=>exact⟨0,[],[],qg_,rfl,rfl,⟨Ed.nil,rfl⟩,by simpa [Ey] using HO.out,Bo _ _⟩
 case round=>
  obtain⟨i,M,G,hi,rfl,rfl,HR⟩:=hrel;obtain⟨n,f,C⟩:=HR;have W:=x1_ C;have aH:=C.size;have a5:g<wr.heap.size:=o_
  by_cases hil:i<S.length
  ·have aB:=n.len;have Q:=List.drop_eq_getElem_cons hil;have D:Ey S i M G=(M.map Jc++G)++Jc S[i]::(S.drop (i+1)).map Jc:=(by unfold Ey;rw[Q,List.map_cons,List.append_assoc]);have A:=Zdi n o_;have l:=f;rw[D] at l;obtain⟨c0,c1,c2,c3,cf⟩:=l.at (by rw[<- D,A]) (show(M.map Jc++G).length=i by simp;omega);simp only[Jc] at c0 c1 c2 c3;have aA:=Z _ (Qf hil);have aE:0<=(i:Int):=o_;have aC:i<(S.length:Int):=o_;have L:=x1_ f;clear f l C
   rcases List.eq_nil_or_concat M with X|⟨N,p,X⟩
   ·subst X;obtain⟨y,B,P,m,u,x⟩:=Yv n hil;have k:Pq S _ _ _:=⟨je n _ HS (λv w N e=>by simp at e),x⟩;have z:=x1_ k;have O:=x1_ u;have J:=x1_ (m ▸ L)
    have F:Hid (_=(_++y::B).length):=show _=_ by rw[<- m,A]
    clear k m u x;generalize S[i]=q at *;go_wp2_with fail
    go_big_quiet (fail);go_wp2_with (at_builtin;refine Ln rfl _ _ rfl i0 E V _ g a _ 0 [] B y (Jc q) rfl F rfl (J.below h_) _ 1 rfl (jg _ s_ _) ?_)
    intro Y b t;have I:Hid (Aj Y j (L_ g S.length a) (Ey S (i+1) ([]++[q]) P)):=(by rw[O];exact b);have H:=x1_ (Hp W (Hp (Ly h_) t));clear b t;refine rd_ ?_;exact⟨i+1,[]++[q],P,o_,g_,s_,z,I,H⟩
   rw[List.concat_eq_append] at X;subst X;obtain⟨o,s⟩:=p;have d:Ey S i (N++[(o,s)]) G=N.map Jc++Jc (o,s)::(G++(S.drop i).map Jc):=(by unfold Ey;simp);have c:=L.out;rw[d] at c;obtain⟨d0,d1,d2,d3,_⟩:=c.at (by rw[<- d,A]) (show(N.map Jc).length=N.length by simp);simp only[Jc] at d0 d1 d2 d3;have R:s=No _ o:=n.sum.wt (o,s) s_;have T:∀r∈S.take i,_:=λr hr=>(Z r (List.mem_of_mem_take hr)).1;have a4:0<=s/\s<=1000*2097152:=by have h1:=We T o;have h2:=Zi1 T o;have h3:=Rw (ps:=S.take i) (λr hr=>(Z r (List.mem_of_mem_take hr)).2);have h4:(S.take i).length<=2097152:=t_;omega
   have a8:0<=(N.length:Int):=o_;have aD:N.length<i:=(by have:=n.len;simp at this;omega);have aF:N.length<(N.length:Int)+1:=o_;have dg:decide (_<=_)=_:=decide_eq_true o_
   by_cases hv:o=S[i].1
   ·have k:=Zdj n _ hv;have z:=x1_ k
    have a0:Hid (Ey S (i+1) (N++[(o,s+S[i].2)]) (G++[Jc S[i]])=N.map Jc++⟨o,0,0,s+S[i].2⟩::(G++(S.drop i).map Jc)):=show _=_ by unfold Ey;rw[Q];simp only[List.map_append,List.map_cons,List.map_nil,List.append_assoc,List.cons_append,List.nil_append,Jc]
    have U:=x1_ c
    have a2:Hid (_=(N.map _++_).length):=show _=_ by rw[<- d,A]
    have a1:=beq_iff_eq.2 hv;clear k R c d hv;generalize S[i]=q at *;go_wp2_with fail
    go_big_quiet (fail);go_wp2_with fail
    go_region
    all_goals go_wp2
    all_goals
     go_roundw
     case rel=>
      refine⟨i+1,N++[(o,s+q.2)],G++[Jc q],o_,g_,s_,z,?_,?_⟩;rw[a0];exact(U.below h_).store a2 s_ (Wz s_ _);refine Bm (Hp W (Ly ?_)) _ _
      repeat(first|with_reducible exact bz_|with_reducible refine below_drewN ?_ _|with_reducible refine Below.drew ?_|with_reducible refine Below.alloc ?_ u_ _)
     case measure=>exact z_
   have a1:=beq_eq_false_iff_ne.2 hv;obtain⟨y,B,P,m,u,x⟩:=Yv n hil;have k:Pq S _ _ _:=⟨je n _ HS (λv w N2 e=>by have:=(List.append_inj_right' e rfl);simp at this;rw[<- this.1];exact hv),x⟩;have z:=x1_ k;have O:=x1_ u;have J:=x1_ (m ▸ L)
   have F:Hid (_=(_++y::B).length):=show _=_ by rw[<- m,A]
   clear k m u x;clear R c d hv;generalize S[i]=q at *;go_wp2_with fail
   go_big_quiet (fail);go_wp2_with (at_builtin;refine Ln rfl _ _ rfl i0 E V _ g a _ _ _ B y (Jc q) s_ F rfl (J.below h_) _ 1 rfl (jg _ s_ _) ?_)
   intro Y b t;have I:Hid (Aj Y j (L_ g S.length a) (Ey S (i+1) ((N++[(o,s)])++[q]) P)):=(by rw[O];simp only[List.map_append,List.map_cons,List.map_nil,List.append_assoc,List.cons_append,List.nil_append];exact b);have H:=x1_ (Hp W (Hp (Ly h_) t));clear b t;refine rd_ ?_;exact⟨i+1,(N++[(o,s)])++[q],P,o_,g_,s_,z,I,H⟩
  have a3:S.length=i:=o_;have HF:Hid (Ed S M/\Aj wr j (L_ g M.length a) (M.map Jc)):=by refine⟨by have:=n.sum;rwa [List.take_of_length_le o_] at this,?_⟩;have hd:Ey S i M G=M.map Jc++G:=(by unfold Ey;rw[List.drop_eq_nil_of_le o_];simp);rw[hd] at f;exact f.prefix (by have:=n.len;simp;omega) s_
  have HL:Hid (M.length<=S.length):=show _<=_ by have:=n.len;omega
  clear f C a3 n;go_wp2;go_ret;exact⟨M,rfl,HF.1,HL,HF.2,W⟩
def ZjW:(Tryz.prog.info? 29).map (λi=>(i.zero,i.size,i.bytes))=some (some (.slice none 0 0),1,24):=k_
theorem Aj.seen{w b v L}(h:Aj w b v L)(f:L.length<=4194304):∃a c,v=.slice a L.length c/\Di w a L/\(a=none->c=0)/\L.length<=c:=by
 have d:=h
 rcases h.2 with⟨rfl,h0⟩|⟨g,cap,cur,rfl,_,hh,hnc,_⟩
 exact⟨none,0,by rw[h0],⟨f,.inl h0⟩,λ_=>rfl,o_⟩;refine⟨_,cap,rfl,⟨f,.inr ⟨g,0,rfl,?_⟩⟩,(λe=>by cases e),hnc⟩
 have j:∀i,i<L.length->w.cell? (A_ g (i*4))=some (I_ (L.getD i e0).v)/\w.cell? (A_ g (i*4+1))=some (I_ (L.getD i e0).lo)/\w.cell? (A_ g (i*4+2))=some (I_ (L.getD i e0).hi)/\w.cell? (A_ g (i*4+3))=some (I_ (L.getD i e0).wt)/\∀o,w.frozen? (A_ g o)=false:=λi hi=>by have e:L=L.take i++L.getD i e0::L.drop (i+1):=(by grind [List.drop_eq_getElem_cons,List.take_append_drop]);rw[e] at d;exact Aj.at (n:=L.length) (by rw[<- e] at d ⊢;exact d) (by rw[<- e]) t_
 refine⟨λ_=>(Qb hh).1,λi hi=>?_,λi hi=>?_,λi hi=>?_,λi hi=>?_⟩
 ·grind
 ·grind
 ·grind
 grind
def Aj.mono{w b b' v L}(h:Aj w b' v L)(i:b<=b'):Aj w b v L:=by
 refine⟨h.1,?_⟩
 rcases h.2 with d|⟨g,c,a,e,f,r⟩
 exact .inl d;exact .inr ⟨g,c,a,e,Nat.le_trans i f,r⟩
structure dz(w:World)(base)(v)(vs)(Ls:List (List Ct)):Prop where
 row:w.ownsRow base 29 1 v Ls.length vs
 each:∀i,i<Ls.length->Aj w base (vs.getD i (.slice none 0 0)) (Ls.getD i [])
def Zch(w:World)(base:Nat)(v:Value)(Ls:List (List Ct)):Prop:=∃vs,dz w base v vs Ls
def Aj.grown{w w'}{base b2 e2 s2 n2:Nat}{v u L xs}(h:Aj w base v L)(g:w.ownsRow b2 e2 s2 u n2 xs)(hne:e2≠98)(hg:w.grownBy w' u.ownBlock):Aj w' base v L:=
 World.ownsRow.kept h hg (An g h hne)
def dz.below{w w' base v vs Ls}(h:dz w base v vs Ls)(hb:Below w.heap.size w w'):dz w' base v vs Ls:=
 ⟨(Aa.of_below (S:=λ_=>False) hb).row h.row (λ_ _=>id),λi hi=>(h.each i hi).below hb⟩
def dz.put{w a g d n i c b u l}(h:dz w a (L_ g n d) c b)(p:n=b.length)(o:Aj w a u l)(r:i<n):dz (w.setCell (A_ g i) u) a (L_ g n d) (c.set i u) (b.set i l)/\w.grownBy (w.setCell (A_ g i) u) (some g):=by
 subst p;obtain⟨q,m⟩:=World.ownsRow.stored h.row i u;have s:c.length=b.length:=(by have:=h.row.1;omega);refine⟨⟨by simpa using q,λj hj=>?_⟩,m⟩;simp only[List.length_set] at hj
 by_cases e:j=i
 subst e;have k:(c.set j u).getD j (.slice none 0 0)=u:=w_;have f:(b.set j l).getD j []=l:=w_;rw[k,f];exact o.grown h.row d_ m;have k:(c.set i u).getD j (.slice none 0 0)=c.getD j (.slice none 0 0):=w_;have f:(b.set i l).getD j []=b.getD j []:=w_;rw[k,f];exact(h.each j hj).grown h.row d_ m
def dz.view{w a v c b}(h:dz w a v c b)(e:0<b.length):∃g cap,v=L_ g b.length cap/\a<=g/\g<w.heap.size/\(∀i,i<b.length->w.cell? (A_ g i)=some (c.getD i (.slice none 0 0)))/\∀i,w.frozen? (A_ g i)=false:=by
 have d:c.length=b.length:=by have:=h.row.1;omega
 rcases h.row.2 with⟨_,h1⟩|⟨g,cap,cur,rfl,hb,hh,_⟩
 omega;refine⟨g,cap,rfl,hb,(Qb hh).1,λi hi=>?_,λi=>World.ownsRow.frozenAt h.row i⟩;rw[World.ownsRow.cellAt h.row i o_]
 grind
def Nz(Ls:List (List Ct))(k:Nat):List (List Ct):=List.replicate k []++Ls.drop k
def iy{a k}(h:k<=a.length):(Nz a k).length=a.length:=by simp[Nz];omega
def Zj7{a}{k}:(Nz a k).getD k []=a.getD k []:=by simp[Nz,List.getD,List.getElem?_append_right]
def Zbe{a k}(h:k<a.length) l:(Nz a k).set k l=List.replicate k []++l::a.drop (k+1):=by unfold Nz;rw[List.drop_eq_getElem_cons h,List.set_append_right _ _ s_,List.length_replicate,Nat.sub_self,List.set_cons_zero]
def ZfK{a k}(h:k<a.length):(Nz a k).set k []=Nz a (k+1):=by rw[Zbe h,Nz,List.replicate_succ',List.append_assoc];rfl
def ZdQ{size}{a:List (List Ct)}{l k}(h:k<a.length)(b:(a.getD k []).length=0):Bg size (a.drop k) l=l::a.drop (k+1):=by
 rw[List.drop_eq_getElem_cons h]
 grind [Bg]
def Zb1{size}{a:List (List Ct)}{l k}(h:k<a.length)(b:(a.getD k []).length≠0):Bg size (a.drop k) l=[]::Bg size (a.drop (k+1)) (Do (Bp (a.getD k []) l) size):=by
 rw[List.drop_eq_getElem_cons h]
 grind [Bg]
def Zg{a:List (List Ct)}{k}(h:k<a.length):Bh (a.drop k)=Ae (a.getD k [])+Bh (a.drop (k+1)):=by rw[List.drop_eq_getElem_cons h];have:a.getD k []=a[k]:=(by simp[List.getD,h]);rw[this];rfl
def Rm{a:List (List Ct)}{k}(h:k<a.length):a.getD k []∈a:=w_
def ZdP d v u f l b w (hL:Zch w d v f)(D:Aj w d u l)(a5:Fo f)(N:Bq l)(S:l.length<=32)(hs:2<=b)(aM:b<=32)(ht:Bh f+Ae l<=1000000000000)(hn:f.length<=1000)(aF:d<=w.heap.size):C_ 318 #[v,u,.int .i64 b] w λe w'=>∃v',e=.returned v'/\Zch w' d v' (Bg b f l)/\Below d w w':=by
 obtain⟨aG,P⟩:=hL;obtain⟨j0,aB,aO,aN,aH⟩:=info_parts ZjW
 have aP:∃a c,v=.slice a f.length c:=by
  rcases P.row.2 with⟨rfl,h1⟩|⟨g,aQ,cur,rfl,_⟩
  ·grind
  grind
 obtain⟨va,y,rfl⟩:=aP;have a6:=x1_ P;have HU:=x4_ D N S ht;have U:=x1_ a5;obtain⟨n,X⟩:=ex_ f.length;have M:=x1_ X;rw[<- X] at hn ⊢;clear P D a5 N S ht X;go_enter Tryz.func318,Tryz.ntmps318;go_wp2_with fail
 go_loopw [11,1] (λti tu wr=>∃(k:Nat) (j:List Ct) (E:List Value),ti=.int .i64 k/\k<=n/\Hid (dz wr d (.slice va n y) E (Nz f k)/\Aj wr d tu j/\Bq j/\j.length<=32/\Bh (f.drop k)+Ae j<=1000000000000/\Bg b f l=List.replicate k []++Bg b (f.drop k) j)/\Below d w wr) (λti _ _=>n-(intOf ti).toNat)
 case atStart=>exact⟨0,l,aG,rfl,qg_,⟨by have:=a6.out;rw[<- M] at this;exact this,HU.1,HU.2.1,HU.2.2.1,HU.2.2.2,rfl⟩,bz_⟩
 case round=>
  clear a6 HU;obtain⟨k,j,E,rfl,hk,HR,z⟩:=hrel;obtain⟨G,D,N,S,ht,A⟩:=HR
  skip
  have b5:=z.size
  by_cases hkn:k<n
  ·have m:k<f.length:=(by rw[<- M];exact hkn);have C:=iy (show k<=f.length by omega);obtain⟨g,aQ,hv,a4,aI,s,Q⟩:=G.view o_;injection hv with hv1 hv2 hv3;subst hv1 hv3;clear hv2;have H:=s k o_;have hE:=G.each k o_;rw[Zj7] at hE;have gO:=U.good _ (Rm m);have lO:=U.len _ (Rm m);have tO:=Zg m;obtain⟨ao,co,O,T,aR,_⟩:=hE.seen o_;rw[O] at H;have aJ:=Q k;have b3:0<=(k:Int):=o_;have aX:k<(n:Int):=o_;have HX:=x1_ G;obtain⟨I,F,J,B,r,_⟩:=D.seen o_;subst J
   by_cases h0:(f.getD k []).length=0
   ·have L:=ZdQ (b:=b) (l:=j) m h0;have Z:Hid (Zch (wr.setCell (A_ g k) (.slice I j.length F)) d (L_ g n y) (Bg b f l)/\Below d w (wr.setCell (A_ g k) (.slice I j.length F))):=(by obtain⟨p1,p2⟩:=G.put (i:=k) (by rw[C];exact M) D hkn;refine⟨⟨E.set k (.slice I j.length F),?_⟩,z.setCell a4 _⟩;rw[A,L,<- Zbe m];exact p1);rw[h0] at H;clear G D s hE T B O A Q L C r;go_wp2;go_ret;exact⟨_,rfl,Z.1,Z.2⟩
   have L:=Zb1 (b:=b) (l:=j) m h0;have aZ:(((f.getD k []).length:Int)==0)=_:=beq_eq_false_iff_ne.2 o_;have pj:=(Df gO).1;have pl:=(Df N).1;have pr:=Eh (f:=f.drop (k+1)) (λx hx=>U.good x (List.mem_of_mem_drop hx));have gj:=Gb gO N o_;have gc:=gj.sub (Hf gj b);have lc:=Ia (Bp (f.getD k []) j) hs;have lj:=Km (f.getD k []) j;have tc:Ae (Do (Bp (f.getD k []) j) b)=Ae (f.getD k [])+Ae j:=(by rw[Fm,Er]);have HJ:=x1_ (Za6 _ _ _ _ co F _ T B gO N)
   have o:Hid (Bq (Bp (f.getD k []) j)/\(Bp (f.getD k []) j).length<=64/\Bq (Do (Bp (f.getD k []) j) b)/\(Do (Bp (f.getD k []) j) b).length<=32/\Bh (f.drop (k+1))+Ae (Do (Bp (f.getD k []) j) b)<=1000000000000/\Bg b f l=List.replicate (k+1) []++Bg b (f.drop (k+1)) (Do (Bp (f.getD k []) j) b)):=(by refine⟨gj,o_,gc,o_,o_,?_⟩;rw[A,L,List.replicate_succ',List.append_assoc];rfl);have aL:=x1_ m;clear G D s hE T B O A Q L C gj gc lc lj tc pj pl pr gO lO tO ht N aR r h0 m;generalize (f.getD k []).length=no at *;go_wp2_with fail
   refine HJ.mono ?_;rintro e w1 ⟨vj,rfl,a1,W⟩;have aK:=W.size;obtain⟨aj,cj,rfl,a0,a2,_⟩:=a1.seen (by have:=o.2.1;omega);have a8:=x1_ (Zem _ _ _ b _ a0 o.1 a2);clear a1 a0 a2 HJ;generalize (Bp (f.getD k []) j).length=nj at *;go_wp2_with fail
   refine a8.mono ?_;rintro e Y ⟨vc,rfl,aA,V⟩;have aM:=V.size;have t:=W.trans (V.mono aK)
   have a9:∃aD,Hid (dz (Y.setCell (A_ g k) (.slice none 0 0)) d (L_ g n y) aD (Nz f (k+1))/\Aj (Y.setCell (A_ g k) (.slice none 0 0)) d vc (Do (Bp (f.getD k []) j) b)/\Bq (Do (Bp (f.getD k []) j) b)/\(Do (Bp (f.getD k []) j) b).length<=32/\Bh (f.drop (k+1))+Ae (Do (Bp (f.getD k []) j) b)<=1000000000000/\Bg b f l=List.replicate (k+1) []++Bg b (f.drop (k+1)) (Do (Bp (f.getD k []) j) b))/\Below d w (Y.setCell (A_ g k) (.slice none 0 0))/\Y.cell? (A_ g k)=some (.slice ao no co)/\Y.frozen? (A_ g k)=false:=by
    have R:=HX.below t;have m:=aL.out;have r:n=(Nz f k).length:=(by rw[iy (Nat.le_of_lt m)];exact M);obtain⟨p1,p2⟩:=R.put (i:=k) r (Aj.nil Y d) hkn;rw[ZfK m] at p1;have aC:=(aA.mono (show d<=w1.heap.size by omega)).grown R.row d_ p2;refine⟨_,⟨p1,aC,o.2.2⟩,?_,?_,?_⟩;exact(z.trans (t.mono o_)).setCell a4 _;exact(t.cell (p:=(A_ g k)) aI).trans H;have h2:=R.row;rw[<- r] at h2;exact World.ownsRow.frozenAt h2 k
   obtain⟨aD,aT,aW,aV,aU⟩:=a9;clear aA V t W HX a8 o H aJ;go_wp2;go_roundw;case rel=>grind
   case measure=>exact z_
  have aS:k=n:=o_;have L:Bg b f l=List.replicate k []++[j]:=by rw[A,List.drop_eq_nil_of_le (by have:=M.out;omega)];rfl
  have r:(Nz f k).length=n:=(by rw[iy (by have:=M.out;omega)];exact M.symm);have a7:Nz f k=List.replicate k []:=(by unfold Nz;rw[List.drop_eq_nil_of_le (by have:=M.out;omega),List.append_nil]);have aY:¬k<(n:Int):=o_;obtain⟨I,F,J,B,a3,_⟩:=D.seen o_;subst J;have HX:=x1_ G;have q:Hid (wr.ownsRow d 29 1 (.slice va n y) n E):=(by have:=G.row;grind);have aE:=x1_ D;have HT:Hid (Bg b f l=Nz f k++[j]):=(by rw[a7];exact L);clear G D L a7 A N ht B a3;go_wp2_with (at_builtin;refine Ab rfl (.tmp 33) _ 80 rfl _ 29 j0 _ 1 24 Tryz.underlying80 aB aO aN aH rfl d_ _ n E rfl (q.alloc _) _ 1 1 [.slice I j.length F] rfl rfl ?_ ?_ ?_ ?_ ?_ ?_ ?_)
  rfl;unfold maxLen;omega;omega;omega;intro v3 w3 H3
  have Z:Hid (Zch w3 d v3 (Bg b f l)/\Below d w w3):=by
   obtain⟨q1,q2,q3,_⟩:=H3;have J:E.length=n:=(by have:=q.1;omega);refine⟨⟨E++[.slice I j.length F],?_⟩,?_⟩
   ·rw[HT];refine⟨w_,λi hi=>?_⟩;rw[Qe,r] at hi;simp at hi
    by_cases hin:i<n
    have e1:(E++[Value.slice I j.length F]).getD i (.slice none 0 0)=E.getD i (.slice none 0 0):=w_;have e2:(Nz f k++[j]).getD i []=(Nz f k).getD i []:=w_;rw[e1,e2];exact((HX.each i o_).alloc _).grown (q.alloc _) d_ q2;have e0:i=n:=o_;subst e0;have e1:(E++[Value.slice I j.length F]).getD i (.slice none 0 0)=.slice I j.length F:=w_;have e2:(Nz f k++[j]).getD i []=j:=w_;rw[e1,e2];exact(aE.alloc _).grown (q.alloc _) d_ q2
   exact z.trans ((bz_.alloc o_ _).grown q2 t_ (λk hk=>(q.lt k hk).1))
  skip
  go_wp2;go_ret;exact⟨_,rfl,Z.1,Z.2⟩
def ZgP:Prop:=∀va wa vl vc wl wc vz wz w,Cq w va vl vz->Cq w wa wl wz->vl<=2097152->wl<=2097152->
  C_ 45 #[.slice va vl vc,.slice wa wl wc] w λe w'=>∃v M,e=.returned v/\Ed (Ar vz wz) M/\Aj w' w.heap.size v (Bv 0 M)/\E_ w w'
def du{vs ws}(h:vs.length<=2097152):Bq (Iz vs ws)/\(Iz vs ws).length<=vs.length/\Ae (Iz vs ws)<=1000*vs.length:=by
 have b:=Rb (Ar vs ws);have c:Bq (Iz _ _):=b.good h;have g:=Jm vs ws;refine⟨c,?_,?_⟩
 ·have:=c.len (U:=(Ar vs ws).map λp=>p.1) (λe he=>by
   obtain⟨p,a,d,_⟩:=(Ru (Zb (Ar vs ws)) 0).1 e he;obtain⟨q,i,f⟩:=b.sub p a
   grind)
  grind
 have d:=(bh.of_sum b).total;have j:=Rw (ps:=Ar vs ws) (λp a=>(Ig a).1.2)
 grind [Iz]
def Cq.part{w b a n fr m c}(h:Cq w (some ⟨b,a,none⟩) n c)(e:fr+m<=n):Cq w (some ⟨b,a+fr,none⟩) m ((c.drop fr).take m):=by
 obtain⟨g,d,f⟩:=h;refine⟨t_,λz hz=>d z (List.mem_of_mem_drop (List.mem_of_mem_take hz)),?_⟩
 grind
def Ro{w j b a n B k}(h:Cq w (some ⟨b,a,none⟩) n k)(g:Below B w j)(f:b<B):Cq j (some ⟨b,a,none⟩) n k:=by
 obtain⟨l,o,d⟩:=h;refine⟨l,o,?_⟩
 rcases d with d|⟨r,q,e,c,m⟩
 exact .inl d;injection e with e;injection e with e1 e2;subst e1 e2;exact .inr ⟨b,a,rfl,Qh c g.size,λi hi=>(g.cell (p:=(A_ b (a+i))) f).trans (m i hi)⟩
def yn(aJ:ZgP) va wa (n p o b:Nat) j l w (hv:Cq w va n j)(hw:Cq w wa n l)(hn:n<=1000)(bA:n<=p)(bG:n<=o)(hs:2<=b)(aX:b<=32):C_ 274 #[.slice va n p,.slice wa n o,.int .i64 b] w λe w'=>∃v,e=.returned v/\Aj w' w.heap.size v (Dl b j l)/\Below w.heap.size w w':=by
 have HV:=x1_ hv;have HW:=x1_ hw;have aB:=x1_ aJ;have H:=x2_ hv.1 hw.1;clear hv hw aJ;go_enter Tryz.func274,Tryz.ntmps274;go_wp2_with fail
 go_loopw [7,8] (λtl tf wr=>∃(d fu:Nat) (h:List (List Ct)),tf=.int .i64 d/\d<=n+b/\Hid (Zch wr w.heap.size tl h/\Fo h/\Bh h<=1000*(d:Int)/\h.length<=d/\n-d<=fu/\Dk b fu h (j.drop d) (l.drop d)=Dk b n [] j l)/\E_ w wr) (λ_ tf _=>n+b-(intOf tf).toNat)
 case atStart=>exact⟨0,n,[],rfl,qg_,⟨⟨[],rn_,λi hi=>by simp at hi⟩,Fo.nil,by simp[Bh],s_,o_,rfl⟩,bz_⟩
 case round=>
  obtain⟨d,fu,h,rfl,bI,Q,A⟩:=hrel;have aC:=A.size
  by_cases hkn:d<n
  ·rcases HV.out with⟨_,_,h0|⟨b1,o1,rfl,hb1,_⟩⟩;omega;rcases HW.out with⟨_,_,h0|⟨b2,o2,rfl,hb2,_⟩⟩;omega;obtain⟨C,a3⟩:=ex_ (min (d+b) n);have b7:d<(n:Int):=o_;have J:d<=(C:Int):=o_;have L:C<=(p:Int):=o_;have N:C<=(o:Int):=o_;have b6:¬p=d:=o_;have b9:¬o=d:=o_;have s:=x1_ a3;clear a3;have bK:C-d<=b:=(by have:=s.out;omega);go_upto_region 5 with fail;go_cut [9] (λv wx=>v=.int .i64 C/\wx=wr)
   case first=>
    by_cases hc:(d:Int)+(b:Int)<=(n:Int)
    ·have e1:C=d+(b:Int):=(by have:=s.out;omega);have E1:=x1_ e1;clear e1 J L N;go_wp2;go_meet
     exact⟨by rw[E1.out],rfl⟩
    have e1:C=(n:Int):=(by have:=s.out;omega);have E1:=x1_ e1;clear e1 J L N;go_wp2;go_meet
    exact⟨by rw[E1.out],rfl⟩
   case rest=>
    obtain⟨rfl,aH⟩:=hcut;obtain rfl:=aH.symm;clear aH
    have aI:Hid (∀W:World,E_ w W->C_ 45 #[.slice (some ⟨b1,o1+d,none⟩) (C-d) (p-d),.slice (some ⟨b2,o2+d,none⟩) (C-d) (o-d)] W λe w'=>∃v,e=.returned v/\Aj w' W.heap.size v (Iz ((j.drop d).take b) ((l.drop d).take b))/\E_ W w'):=by
     intro W hW;have b5:=(Ro HV hW hb1);have aU:=(Ro HW hW hb2);have q1:=b5.part (d:=d) (m:=C-d) (by have:=s.out;omega);have q2:=aU.part (d:=d) (m:=C-d) (by have:=s.out;omega)
     have el:∀z:List Int,z.length=n->(z.drop d).take (C-d)=(z.drop d).take b:=λz hz=>by
      by_cases hc:d+b<=n
      rw[show C-d=b by have:=s.out;omega];rw[List.take_of_length_le (by simp;have:=s.out;omega),List.take_of_length_le t_]
     rw[el _ H.1] at q1;rw[el _ H.2] at q2;refine(aB _ _ _ _ _ _ _ _ W q1 q2 o_ o_).mono ?_;rintro e w' ⟨v,M,rfl,hM,ho,hb⟩;refine⟨v,rfl,?_,hb⟩;unfold Iz;rw[ZbY hM];exact ho
    obtain⟨hL,Y,a8,aZ,aW,t⟩:=Q.out;have E:=du (vs:=(j.drop d).take b) (ws:=(l.drop d).take b) w_;have V:((j.drop d).take b).length<=b:=t_;have T:=Rx (b:=(b:Int)) o_ o_ Y E.1 o_ o_;obtain⟨f',aL⟩:∃f',fu=f'+1:=⟨fu-1,o_⟩;have O:Dk b f' (Bg b h (Iz ((j.drop d).take b) ((l.drop d).take b))) (j.drop (d+b)) (l.drop (d+b))=Dk b n [] j l:=by rw[<- t,aL];simp only[Dk];rw[if_neg w_,List.drop_drop,List.drop_drop]
    have aQ:Hid (Fo (Bg b h (Iz ((j.drop d).take b) ((l.drop d).take b)))/\Bh (Bg b h (Iz ((j.drop d).take b) ((l.drop d).take b)))<=1000*(d+b:Nat)/\(Bg b h (Iz ((j.drop d).take b) ((l.drop d).take b))).length<=d+b/\n-(d+b)<=f'/\Dk b f' (Bg b h (Iz ((j.drop d).take b) ((l.drop d).take b))) (j.drop (d+b)) (l.drop (d+b))=Dk b n [] j l):=by refine⟨T.1,?_,?_,o_,O⟩;rw[T.2];omega;have:=lf (b:Int) h (Iz ((j.drop d).take b) ((l.drop d).take b));omega
    have aD:Hid (∀W u,E_ wr W->Aj W w.heap.size u (Iz ((j.drop d).take b) ((l.drop d).take b))->C_ 318 #[u7,u,.int .i64 b] W λe w'=>∃v',e=.returned v'/\Zch w' w.heap.size v' (Bg b h (Iz ((j.drop d).take b) ((l.drop d).take b)))/\Below w.heap.size W w'):=(by intro W u hW hu;obtain⟨vs,hX⟩:=hL;exact ZdP _ u7 u h _ _ W ⟨vs,hX.below hW⟩ hu Y E.1 o_ o_ o_ o_ o_ (by have:=hW.size;omega));clear hL Y a8 aZ aW t E V T O Q;generalize Iz ((j.drop d).take b) ((l.drop d).take b)=sE at *;go_wp2_with fail
    go_region_held3 (λ_=>True) (trivial) (first|(go_at_call 45;refine(aI.out _ A.drew).mono ?_;rintro e w1 ⟨vv,rfl,aK,y⟩)|(go_at_call 318;refine(aD _ _ (bz_.drew.trans y) (aK.mono (by have:=y.size;simp at this ⊢;omega))).mono ?_;rintro e w2 ⟨v2,rfl,a2,P⟩))
    have HF:=x1_ a2;have S:=(A.drew.trans (y.mono aC)).trans P;clear a2 P y aK aI aD aL;refine rd_ ?_;exact⟨d+b,f',_,g_,o_,⟨HF,aQ⟩,S⟩
  have bC:¬d<(n:Int):=o_
  have B:Hid (Zch wr w.heap.size u7 h/\Fo h/\Bh h<=2000000/\h.length<=2000/\Dl b j l=Ff b [] h):=by
   obtain⟨h1,h2,h3,h4,h5,h6⟩:=Q;refine⟨h1,h2,o_,o_,?_⟩;unfold Dl;rw[H.1,<- h6]
   cases fu with
   |zero=>rfl
   | succ f=>
    simp only[Dk];rw[if_pos (by simp;have:=H.out;omega)]
  obtain⟨vs,hX⟩:=B.1
  have aN:∃a c,u7=.slice a h.length c:=by
   rcases hX.row.2 with⟨rfl,h1⟩|⟨g,aT,cur,rfl,_⟩
   ·grind
   grind
  obtain⟨la,lc,rfl⟩:=aN;have HX:=x1_ hX;have F:=x3_ B.2.1 B.2.2.1 B.2.2.2.2;have aM:=B.2.2.2.1;obtain⟨m,hm⟩:=ex_ h.length;have HM:=x1_ hm;rw[<- hm] at aM ⊢;clear hX hm B aB;obtain⟨wl,aV⟩:∃wl,wl=wr:=⟨wr,rfl⟩;subst aV;go_wp2_with fail
  go_loopw [40,10] (λti X wr=>∃(k:Nat) (q:List Ct),ti=.int .i64 k/\k<=m/\Hid (Aj wr w.heap.size X q/\Bq q/\q.length<=32/\Ae q+Bh (h.drop k)<=2000000/\Ff b q (h.drop k)=Ff b [] h)/\E_ wl wr) (λti _ _=>m-(intOf ti).toNat)
  case atStart=>exact⟨0,[],rfl,qg_,⟨Aj.nil _ _,Bq.nil,s_,by have:=F.2.1;simpa [Ae] using this,rfl⟩,bz_⟩
  case round=>
   obtain⟨k,q,rfl,hk,Q,I⟩:=hrel;have aY:=I.size
   by_cases hkm:k<m
   ·have D:k<h.length:=(by rw[<- HM];exact hkm);obtain⟨aA,Z,bB,X,t⟩:=Q.out;have R:=HX.below I;obtain⟨g,aT,hv,bE,bF,G,_⟩:=R.view o_;injection hv with hv1 hv2 hv3;subst hv1 hv3;clear hv2;have a7:=G k D;have hE:=R.each k D;have gO:=F.1.good _ (Rm D);have lO:=F.1.len _ (Rm D);have tO:=Zg D;have tP:=Eh (h:=h.drop (k+1)) (λx hx=>F.1.good x (List.mem_of_mem_drop hx));obtain⟨ao,co,aE,a4,aO,_⟩:=hE.seen o_;rw[aE] at a7;obtain⟨aa,ca,aS,aF,b3,_⟩:=aA.seen o_;subst aS;have hd:h.drop k=h.getD k []::h.drop (k+1):=by rw[List.drop_eq_getElem_cons D];grind
    rw[hd] at t;simp only[Ff] at t;have gj:=Gb Z gO o_;have gc:=gj.sub (Hf gj b);have aP:=Ia (Bp q (h.getD k [])) (b:=(b:Int)) o_;have lj:=Km q (h.getD k []);have tc:Ae (Do (Bp q (h.getD k [])) b)=Ae q+Ae (h.getD k []):=(by rw[Fm,Er]);have HJ:=x1_ (Za6 _ _ _ _ ca co _ aF a4 Z gO);have r:Hid (Bq (Bp q (h.getD k []))/\(Bp q (h.getD k [])).length<=64/\Bq (Do (Bp q (h.getD k [])) b)/\(Do (Bp q (h.getD k [])) b).length<=32/\Ae (Do (Bp q (h.getD k [])) b)+Bh (h.drop (k+1))<=2000000/\_):=⟨gj,o_,gc,o_,o_,t⟩;have bD:0<=(k:Int):=o_;have bH:k<(m:Int):=o_
    clear aA Z X t R G hE gO lO tO tP aE a4 aO aF b3 hd gj gc aP lj tc Q;generalize (h.getD k []).length=no at *;go_wp2_with fail
    refine HJ.mono ?_;rintro e w1 ⟨vj,rfl,a1,U⟩;have aR:=U.size;obtain⟨aj,cj,rfl,a5,a6,_⟩:=a1.seen (by have:=r.2.1;omega);have aG:=x1_ (Zem _ _ _ b _ a5 r.1 a6);clear a1 a5 a6 HJ;generalize (Bp q (h.getD k [])).length=nj at *;go_wp2_with fail
    refine aG.mono ?_;rintro e w2 ⟨vc,rfl,a9,a0⟩;have aX:=a0.size;have S:=I.trans ((U.trans (a0.mono aR)).mono aY);have HF:Hid (Aj _ w.heap.size _ _):=a9.mono o_;clear a9 a0 U aG a7;refine rd_ ?_;exact⟨k+1,_,g_,o_,⟨HF,r.2.2⟩,S⟩
   have b8:¬k<(m:Int):=o_;have HF:Hid (Aj wr w.heap.size u10 (Dl b j l)/\E_ w wr):=by obtain⟨h1,_,_,_,h5⟩:=Q;rw[List.drop_eq_nil_of_le (by have:=HM.out;omega)] at h5;simp only[Ff] at h5;rw[F.2.2,<- h5];exact⟨h1,A.trans (I.mono aC)⟩
   skip
   go_wp2;go_ret;exact⟨_,rfl,HF.1,HF.2⟩
theorem si a:∀n i,a.length-i<=n->Dw a [] n i 0=a.drop i
 |0,i,h=>by rw[List.drop_eq_nil_of_le o_];rfl
 | n+1,i,h=>by
  by_cases hi:i<a.length
  simp only[Dw];rw[if_pos ⟨hi,λh=>by simp at h⟩,si a n (i+1) o_,List.drop_eq_getElem_cons hi];congr 1;simp[seen,Cn,Dm,Ae,List.getD,hi];simp only[Dw];rw[if_neg (λh=>hi h.1),if_neg (λh=>by simp at h),if_neg (λh=>hi h.1),List.drop_eq_nil_of_le o_]
def ZfE a:Bp a []=a:=by grind [Bp,si]
def Zfm{L a}(h:L.length<=a):Do L a=L:=by
 unfold Do
 grind
def Sd:Nat->List (List Ct)->List (Nat×List Ct)
  |_,[]=>[]
  |N,l::r=>if l.length=0 then Sd (N+1) r else(N,l)::Sd (N+1) r
def skT(size:Int):Nat->List Ct->List (Nat×List Ct)->List (Nat×List Ct)
 |N,l,[]=>[(N,l)]
 |N,l,p::r=>if p.1=N then skT size (N+1) (Do (Bp p.2 l) size) r else(N,l)::p::r
def yv:∀(Ls:List (List Ct)) (N:Nat),∀p∈Sd N Ls,N<=p.1
  |[],N=>by simp[Sd]
  | l::r,N=>λp hp=>by
    unfold Sd at hp;split at hp;have:=yv r (N+1) p hp;omega
    rcases List.mem_cons.1 hp with rfl|hp
    omega;have:=yv r (N+1) p hp;omega
theorem Vf{l}(h:0<Ae l):l.length≠0:=λe=>by unfold Ae at h;omega
def sy size:∀Ls l N,(∀x∈Ls,0<=Ae x)->0<Ae l->Sd N (Bg size Ls l)=skT size N l (Sd N Ls)
 |[],l,N,hp,hl=>by grind [Bg,Sd,Vf,skT]
 | o ::r,l,N,hp,hl=>by
  have hpr:∀x∈r,_:=λx hx=>hp x (by simp[hx])
  by_cases ho:o.length=0
  ·simp only[Bg,if_pos ho,Sd,if_neg (Vf hl)];have hg:=yv r (N+1)
   cases hv:Sd (N+1) r with
   |nil=>rfl
   | cons p q=>
    grind [skT]
  simp only[Bg,if_neg ho,Sd,List.length_nil,if_true,skT];refine sy _ r _ _ hpr ?_;rw[Fm,Er]
  grind
def skF(size:Int):List Ct->List (Nat×List Ct)->List Ct
 |all,[]=>all
 |all,p::r=>skF size (Do (Bp all p.2) size) r
def kt{size}(hs:2<=size):∀Ls N all,all.length<=size->Ff size all Ls=skF size all (Sd N Ls)
 |[],N,all,h=>rfl
 | l::r,N,all,h=>by
  by_cases hl:l.length=0
  have e:=List.eq_nil_of_length_eq_zero hl;subst e;simp only[Ff,Sd,List.length_nil,if_true];rw[ZfE,Zfm h];exact kt hs r _ _ h;simp only[Ff,Sd,if_neg hl,skF];exact kt hs r _ _ (Ia _ hs)
def skB(size:Nat):Nat->List (Nat×List Ct)->List Int->List Int->List (Nat×List Ct)
 |0,st,_,_=>st
 |f+1,st,vs,ws=>if vs.length=0 then st else skB size f (skT size 0 (Iz (vs.take size) (ws.take size)) st) (vs.drop size) (ws.drop size)
def Wc:∀(r:List (Int×Int)),(∀q∈r,1<=q.2)->0<=By r
  |[],_=>by simp[By]
  | q::r,h=>by
    have:=Wc r (λx hx=>h x (by simp[hx]))
    grind [By]
def ZiT{a b}(h:a.length≠0)(g:b.length≠0):0<Ae (Iz a b):=by
 have d:=(bh.of_sum (Rb (Ar a b))).total;unfold Iz;rw[d];have c:∀p∈Ar a b,_:=λp c=>(Ig c).1.1;have e:=Jm a b
 cases hps:Ar a b with
 |nil=>grind
 | cons p r=>
  rw[hps] at c;have f:=c p s_;have i:=Wc r λq hq=>c q (by simp[hq]);simp only[By];omega
def lg size:∀Ls l,(∀x∈Ls,0<=Ae x)->0<=Ae l->∀x∈Bg size Ls l,0<=Ae x
 |[],l,h,hl=>by simp[Bg];exact hl
 | o::r,l,h,hl=>by
  have hr:∀x∈r,_:=λx hx=>h x (by simp[hx]);have ho:=h o s_;intro x hx;simp only[Bg] at hx;split at hx
  ·grind
  rcases List.mem_cons.1 hx with rfl|hx
  exact Int.le_refl _;exact lg _ r _ hr (by rw[Fm,Er];omega) x hx
def kq{size}(hs:0<size):∀f Ls vs ws,(∀x∈Ls,0<=Ae x)->vs.length=ws.length->skB size f (Sd 0 Ls) vs ws=Sd 0 (Dk size f Ls vs ws)
 |0,Ls,vs,ws,h,hl=>rfl
 | f+1,Ls,vs,ws,h,hl=>by
  unfold skB Dk
  by_cases h0:vs.length=0
  ·grind
  rw[if_neg h0,if_neg h0];have hp:0<Ae (Iz (vs.take size) (ws.take size)):=ZiT w_ w_;rw[<- sy size Ls _ 0 h hp];exact kq hs f _ _ _ (lg _ _ _ h o_) w_
def Zgi{a:Nat}(g:2<=a) b c (e:b.length=c.length):skF a [] (skB a b.length [] b c)=Dl a b c:=by have f:=kq (a:=a) o_ b.length [] _ _ s_ e;have d:=kt (a:=(a:Int)) o_ (Dk a b.length [] b c) 0 [] s_;unfold Dl;rw[d,<- f];rfl
end Go.Proofs.YtfcgnpchbcmdeaaGreat
