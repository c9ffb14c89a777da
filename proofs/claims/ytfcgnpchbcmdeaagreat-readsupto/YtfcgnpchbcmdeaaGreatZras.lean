import Derived.Test.YtfcgnpchbcmdeaaGreatZrar
import Derived.Laws.CopyOwn
import Derived.Test.YtfcgnpchbcmdeaaGreatZrat
namespace Go.Proofs.YtfcgnpchbcmdeaaGreat
set_option linter.all false
set_option maxRecDepth 100000
set_option maxHeartbeats 4000000
open Go.RowKit
def Ma(zs:List Int)(k i:Nat):Value:=if i<zs.length then I_ (zs.getD i 0) else if i<k then I_ (-7-i) else I_ 0
def Zbd{f:World}{b n d c X}(a:c=List.replicate (n+8) (I_ 0))(g:X=d.map (Value.int .i64))(e:d.length=n)(h:f.heap[b]? =some (.cells (splice c 0 X).toArray 3 (0,0))):f.rowIs b 3 (n+8) (Ma d n):=by
 refine⟨_,h,?_,λi hi=>?_⟩;simp[splice,a,g,e];subst a g e;have e:(List.map (Value.int .i64) d).length=d.length:=s_;unfold Ma splice
 grind
def Zs p n c q w (h:Cq w (some p) n q)(hn:n<=2097152):C_ 112 #[.slice (some p) n c] w λe w'=>e=.returned (.slice (some ⟨w.heap.size,0,none⟩) n (n+8))/\w'.rowIs w.heap.size 3 (n+8) (Ma q (n+8))/\Below w.heap.size w w':=by
 obtain⟨j0,O,a5,a3,Z⟩:=info_parts Ss;have C:=x1_ h;clear h;have Q:∀W:_,(binOp _ _ _ _).run _ W=.ok (.bool false) W:=λW=>Lib.run_eql_slice_nil W 25 3 (some p) n c 0 0 Tryz.underlying25;obtain⟨a,d⟩:∃a:List Value,a=List.replicate (n+8) (I_ 0):=⟨_,rfl⟩;obtain⟨X,G⟩:∃X:List Value,X=q.map (Value.int .i64):=⟨_,rfl⟩;have a7:∀W:World,(Instr.makeSlice 25 (I_ (n+8)) (I_ (n+8))).run Tryz.prog W=.ok (L_ W.heap.size (n+8) (n+8)) (W.alloc (.cells a.toArray 3)):=by intro W;have:=run_make_row' (P:=Tryz.prog) 25 3 (I_ 0) 8 Tryz.underlying25 Ss rfl .i64 .i64 (n+8) o_ o_ W;rw[show((n+8:Nat):Int)=(n:Int)+8 by omega] at this;rw[this,d];congr 3;apply Array.ext;simp[madeCells];intro i h1 h2;simp[madeCells,Nat.mod_one]
 have s:=x1_ d;have I:=x1_ G;have a1:a.length=n+8:=(by rw[d];simp);have r:X.length=n:=(by rw[G];simp[C.out.1]);clear d G;have z:(Tryz.prog.info? 3).map (·.size)=some 1:=w_
 have l:Hid (∀W:World,E_ w W->0<X.length->∃H,some p=some H/\∀j v,X[j]? =some v->W.cell? (H.add j)=some v):=λW hb N=>by
  refine⟨p,rfl,λj v hj=>?_⟩;obtain⟨h1,_,h2|⟨b,o,e,A,hc⟩⟩:=C.out;omega;simp at e;subst e;have y:((A_ b o):Addr).add j=(A_ b (o+j)):=(by unfold Addr.add;split<;>simp_all);have E:j<n:=w_;rw[y,hb.cell (p:=(A_ b (o+j))) A,hc j E,<- hj,I]
  grind
 obtain⟨D,a6,L,J⟩:∃D:World,(Builtin.copy_ #[25,25] 3 #[L_ w.heap.size (n+8) (n+8),.slice (some p) n c]).run Tryz.prog (w.alloc (.cells a.toArray 3))=.ok (I_ n) D/\Hid (D.rowIs w.heap.size 3 (n+8) (Ma q n))/\E_ w D:=by
  have B:Below _ w (w.alloc (.cells a.toArray 3)):=bA_;have g:(w.alloc (.cells a.toArray 3)).heap[_]? =_:=ha_ w _
  have x:∀j v,X[j]? =some v->(w.alloc (.cells a.toArray 3)).cell? (p.add j)=some v:=λj v hj=>by
   have N:0<X.length:=w_;obtain⟨H,e,hh⟩:=l _ B N
   grind
  have hr:=run_copy_row (P:=Tryz.prog) _ 25 25 3 3 _ 0 (n+8) (n+8) p n c _ 3 X Tryz.underlying25 z g w_ x t_ (by rw[I];intro v S;simp at S;obtain⟨_,_,rfl⟩:=S;rfl);refine⟨_,by rw[hr,r];rfl,?_,below_setRow B qa_ _⟩;refine Zbd s I C.1 ?_;have:=setRow_heap (w.alloc (.cells a.toArray 3)) w.heap.size a.toArray (a.toArray.toList.take 0++X++a.toArray.toList.drop (0+X.length)).toArray 3 (0,0) g;rw[r] at this;rw[this];simp[splice,r]
 have a2:=J.size;have R:=L.lt;clear l;go_enter Tryz.func112,Tryz.ntmps112;go_wp2_with fail
 go_loopw [4] (λti wr=>∃k:Nat,n<=k/\k<=n+8/\ti=.int .i64 k/\Hid (wr.rowIs w.heap.size 3 (n+8) (Ma q k))/\E_ w wr) (λti _=>n+8-(intOf ti).toNat)
 case atStart=>grind
 case round=>
  obtain⟨k,U,V,rfl,t,f⟩:=hrel;have A:=t.lt
  by_cases hk:k<n+8
  ·have a4:0<=(k:Int):=o_;have Y:k<(n:Int)+8:=o_;have m:=t.cell hk;have M:=t.frozen k
   have HN:Hid ((wr.setCell (A_ w.heap.size k) (I_ (-7-k))).rowIs w.heap.size 3 (n+8) (Ma q (k+1))):=(t.set k _).congr (λj _=>by
    have T:=C.1
    grind [Ma])
   have a0:Below _ w (wr.setCell (A_ w.heap.size k) (I_ (-7-(k:_)))):=f.setCell qa_ _;generalize Ma q k k=u at m;go_wp2
   grind [intOf]
  have F:k=n+8:=o_;subst F;go_wp2;go_ret;exact⟨rfl,t,f⟩
def Ok(zs:List Int)(k i:Nat):Value:=if i<k then I_ (-9) else Ma zs (zs.length+8) i
def Xw p n c g d w (h:Cq w (some p) n d)(H:n<=2097152)(G:w.rowIs g 3 (n+8) (Ma d (n+8)))(E:0<n->p.block≠g):C_ 113 #[.slice (some ⟨g,0,none⟩) n (n+8),.slice (some p) n c] w λe w'=>e=.returned (.bool true)/\w.grownBy w' (some g):=by
 have l:=x1_ h;have q:Hid (w.rowIs g 3 (n+8) (Ok d 0)):=(by have e:=h.1.symm;subst e;exact G);have y:∀W:_,(binOp _ _ _ _).run _ W=.ok (.bool false) W:=λW=>Lib.run_eql_slice_nil W 25 3 (some p) n c 0 0 Tryz.underlying25;go_enter Tryz.func113,Tryz.ntmps113;go_wp2_with fail
 go_loopw [6,7] (λtok ti wr=>∃k:Nat,k<=n+8/\tok=.bool true/\ti=.int .i64 k/\Hid (wr.rowIs g 3 (n+8) (Ok d k))/\Hid (w.grownBy wr (some g))) (λ_ ti _=>n+8-(intOf ti).toNat)
 case atStart=>exact⟨0,qg_,rfl,rfl,q,World.grownBy.refl _ _⟩
 case round=>
  obtain⟨k,D,rfl,rfl,f,i⟩:=hrel;have u:=f.lt
  by_cases hk:k<n+8
  ·have C:0<=(k:Int):=o_;have F:k<(n:Int)+8:=o_;have a:=f.cell hk;have z:=f.frozen k;have v:Hid (∀W:World,W.rowIs g 3 (n+8) (Ok d k)->(W.setCell (A_ g k) (I_ (-9))).rowIs g 3 (n+8) (Ok d (k+1))):=λW hW=>(hW.set k _).congr (λj _=>by grind [Ok])
   by_cases hkn:k<n
   ·have r:Ok d k k=I_ (d.getD k 0):=(by unfold Ok Ma;rw[if_neg o_,if_pos (by rw[l.1];exact hkn)]);rw[r] at a;obtain⟨I,_,J|⟨b,o,e,A,B⟩⟩:=l.out;omega;simp at e;subst e;have t:=i.cell (B k hkn) w_;have m:k<(n:Int):=o_;generalize d.getD k 0=x at a t;go_wp2_with fail
    go_big_quiet (fail);refine rd_ ?_;exact⟨k+1,o_,rfl,g_,v _ (f.of_block ((below_drewN bz_ _).block g u)),Bm (Hp i (Ly (below_drewN bz_ _))) _ _⟩
   have r:Ok d k k=I_ (-7-k):=(by unfold Ok Ma;rw[if_neg o_,if_neg (by rw[l.1];omega),if_pos (by rw[l.1];omega)]);rw[r] at a;have m:¬k<(n:Int):=o_;go_wp2_with fail
   go_roundw;case rel=>exact⟨k+1,o_,rfl,g_,v _ f,Bm i _ _⟩
   case measure=>exact z_
  have s:k=n+8:=o_;subst s;go_wp2;go_ret;exact⟨rfl,i⟩
def qp{P} w p A y e i g b h a c k d t f (q:P.underlying p=some (.slice e))(x:P.info? e=some i)(s:w.heap[g]? =some (.cells d t (0,0)))(r:f.length=Nat.min c b*i.size)(l:∀j v,f[j]? =some v->w.cell? (a.add j)=some v)(m:f.length<=d.size)(z:∀v∈f,v.oneCell'=true):(Builtin.copy_ #[p,A] y #[L_ g b h,.slice (some a) c k]).run P w=.ok (goInt (Nat.min c b)) (w.setRow g (d.toList.take 0++f++d.toList.drop (0+f.length)).toArray):=by have u:=run_loadCells_list (P:=P) w a _ l;have n:=run_storeCells_at P g 0 t _ 0 _ w s (by simpa using m) z;have o:=r.symm;simp[Builtin.copy_,run_underlying q,Builtin.lenOf,Builtin.firstCells,sizeOf,typeInfo,x,o,u,n]
def Zh7(n m:Nat):List Ct:=(List.range m).map λj=>⟨-7-(n+j:Nat),0,0,0⟩
def ZhZ(L:List Ct)(m:Nat):List Ct:=(L++Zh7 L.length m)++List.replicate (8-m) e0
def ZlC L {m}(a:m<=8):(ZhZ L m).length=L.length+8:=by simp[ZhZ,Zh7];omega
def Zk9{w b a L}(h:Ip w b a L):∀j v,(flat L)[j]? =some v->w.cell? (((A_ b a):Addr).add j)=some v:=by
 intro j v i;have d:((A_ b a):Addr).add j=(A_ b (a+j)):=(by unfold Addr.add;split<;>simp_all);have g:j<L.length*4:=(by grind [Ef]);have f:j/4<L.length:=o_;have c:=ZaU L _ (j%4) f o_;rw[show j/4*4+j%4=j by omega,i] at c;rw[d]
 rcases(show j%4=0∨j%4=1∨j%4=2∨j%4=3 by omega) with e|e|e|e
 rw[show a+j=a+j/4*4 by omega,h.v _ f,c,e];rfl;rw[show a+j=a+j/4*4+1 by omega,h.lo _ f,c,e];rfl;rw[show a+j=a+j/4*4+2 by omega,h.hi _ f,c,e];rfl;rw[show a+j=a+j/4*4+3 by omega,h.wt _ f,c,e];rfl
def m9:Ct:=⟨-9,0,0,0⟩
def Zms(L:List Ct)(k:Nat):List Ct:=List.replicate k m9++(ZhZ L 8).drop k
def ZkR W:(binOp .eql 25 (.slice none 0 0) (.slice none 0 0)).run Tryz.prog W=.ok (.bool true) W:=Lib.run_eql_slice_nil W 25 3 none 0 0 0 0 Tryz.underlying25
def Zt w:C_ 112 #[.slice none 0 0] w λe w'=>e=.returned (.slice none 0 0)/\w'=w:=by have a:=ZkR;go_enter Tryz.func112,Tryz.ntmps112;go_wp2;go_ret;exact⟨rfl,rfl⟩
def Xx o w:C_ 113 #[o,.slice none 0 0] w λe w'=>e=.returned (.bool true)/\w'=w:=by have a:=ZkR;go_enter Tryz.func113,Tryz.ntmps113;go_wp2;go_ret;exact⟨rfl,rfl⟩
def Om(w:World)(base:Nat)(o:Value)(a:Option Addr)(n c:Nat)(zs:List Int):Prop:=
 (a=none/\n=0/\c=0/\zs=[]/\o=.slice none 0 0)∨∃p g,a=some p/\o=L_ g n (n+8)/\base<=g/\g<w.heap.size/\zs.length=n/\(∀z∈zs,(Lit.int .i64 z).wf=true)/\w.rowIs g 3 (n+8) (Ma zs (n+8))
def Om.below{w i base o a n c f}(h:Om w base o a n c f)(d:Below w.heap.size w i):Om i base o a n c f:=by
 rcases h with h|⟨p,g,s,t,r,e,q,j,b,k,l,m⟩
 exact .inl h;exact .inr ⟨p,g,s,t,r,Qh e d.size,q,j,b,(d.block g e).trans k,l,m⟩
def Om.view{w b o a n c d}(h:Om w b o a n c d):∃a' c',o=.slice a' n c'/\Cq w a' n d:=by
 rcases h with⟨rfl,rfl,rfl,rfl,rfl⟩|⟨p,g,rfl,rfl,h3,h4,h5,h6,cur,h7,h8,h9⟩
 exact⟨none,0,rfl,rfl,s_,.inl rfl⟩;refine⟨_,_,rfl,h5,h6,.inr ⟨g,0,rfl,h4,λi hi=>?_⟩⟩;rw[Nat.zero_add,cell_of_row w g i cur 3 (0,0) h7,h9 i o_];unfold Ma
 grind
def sv a n c d w (h:Cq w a n d)(f:a=none->n=0/\c=0)(i:n<=2097152):C_ 112 #[.slice a n c] w λe w'=>∃o,e=.returned o/\Om w' w.heap.size o a n c d/\Below w.heap.size w w':=by
 cases a with
 | none=>
  obtain⟨rfl,rfl⟩:=f rfl;refine(Zt w).mono ?_;rintro e w' ⟨rfl,rfl⟩;exact⟨_,rfl,.inl ⟨rfl,rfl,rfl,List.eq_nil_of_length_eq_zero h.1,rfl⟩,bz_⟩
 | some p=>
  refine(Zs p n c _ w h i).mono ?_;rintro e w' ⟨rfl,b,j⟩;refine⟨_,rfl,.inr ⟨p,w.heap.size,rfl,rfl,qa_,?_,h.1,h.2.1,b⟩,j⟩;obtain⟨g,k,_⟩:=b
  grind
def kx a n c d f o w (h:Om w d o a n c f)(i:Cq w a n f)(l:∀b off,a=some ⟨b,off,none⟩->0<n->b<d)(k:n<=2097152):C_ 113 #[o,.slice a n c] w λe w'=>e=.returned (.bool true)/\w.grownBy w' o.ownBlock:=by
 rcases h with⟨rfl,rfl,rfl,rfl,rfl⟩|⟨p,g,rfl,rfl,h3,h4,h5,h6,h7⟩
 ·refine(Xx _ w).mono ?_
  grind [Bo]
 refine(Xw p n c g _ w i k h7 (λh0 e=>?_)).mono ?_
 ·rcases i.2.2 with h|⟨b,off,m,_,_⟩
  omega
  grind
 rintro e w' ⟨rfl,j⟩;exact⟨rfl,j⟩
def Om.own{w b o a n c e}(h:Om w b o a n c e){k}(d:o.ownBlock=some k):b<=k/\k<w.heap.size/\∃cur,w.heap[k]? =some (.cells cur 3 (0,0)):=by
 rcases h with⟨rfl,rfl,rfl,rfl,rfl⟩|⟨p,g,rfl,rfl,h3,h4,h5,h6,cur,h7,h8⟩
 ·cases d
 simp[Value.ownBlock] at d
 grind
def Cq.touch{S w w' a n e}(h:Cq w a n e)(t:Aa S w w')(k:∀b off,a=some ⟨b,off,none⟩->0<n->¬S b):Cq w' a n e:=by
 obtain⟨g,f,c⟩:=h;refine⟨g,f,?_⟩
 rcases c with c|⟨b,off,rfl,d,j⟩
 exact .inl c
 by_cases h0:n=0
 exact .inl h0;refine .inr ⟨b,off,rfl,Qh d t.size,λi hi=>?_⟩;rw[cb_ (w:=w) (a:=(A_ b (off+i))) (t.block b d (k b off rfl o_))];exact j i hi
def Yg(U:List Int)(L:List Ct):Prop:=Bq L/\∀e∈L,e.v∈U
def Yg.len{U L}(h:Yg U L):L.length<=U.length:=h.1.len h.2
def Yi(U:List Int)(g:Nat)(c:Array Value)(nx:Int)(w:World)(e:Ending)(w':World):Prop:=
 e=.returned (.bool true)/\∃c' Ls' nx',Gv w' g c' Ls' nx'/\(∀L∈Ls',Yg U L)/\nx'<=nx+1/\(∀j,j≠0->j≠4->j≠5->j≠12->c'[j]? =c[j]?)/\Below g w w'/\Pp w w'
def Om.touch{S w w' b o a n c e}(h:Om w b o a n c e)(t:Aa S w w')(q:∀k,o.ownBlock=some k->¬S k):Om w' b o a n c e:=by
 rcases h with h|⟨p,g,v,f,u,l,s,i,d,j,m,r⟩
 exact .inl h;exact .inr ⟨p,g,v,f,u,Qh l t.size,s,i,d,t.at_ j (q g (by rw[f];rfl)),m,r⟩
def Qm{w w' row}(h:w.grownBy w' row):Aa (λk=>some k=row) w w':=⟨h.os,h.tape,h.output,h.size,λk hk hn=>h.block k hk hn⟩
def Eo{w w' a n zs}(h:Cq w a n zs){B}(hb:Below B w w')(hB:∀b off,a=some ⟨b,off,none⟩->0<n->b<B):Cq w' a n zs:=
 h.touch (S:=λk=>B<=k) ⟨hb.os,hb.tape,hb.output,hb.size,λk _ hn=>hb.block k o_⟩ (λb off e h0 hS=>w_)
def Rp{w a n zs}(h:Cq w a n zs):∀b off,a=some ⟨b,off,none⟩->0<n->b<w.heap.size:=λb off e h0=>by
 rcases h.2.2 with h|⟨b',off',e',hb,_⟩
 omega
 grind
def Zf6{c f M}(h:Ed (Ar c f) M){U:List Int}(j:∀z∈c,Ga z∈U):∀e∈Bv 0 M,e.v∈U:=by
 intro e d
 obtain⟨_,_,_,p,a,l,_⟩:=ju (λp a=>by
  rw[h.wt p a];obtain⟨q,b,e⟩:=h.sub p a;rw[<- e]
  exact Zi0 (λr hr=>(Ig hr).1.1) q b) e d
 obtain⟨q,b,i⟩:=h.sub p a;obtain⟨_,_,z,g,k⟩:=Ig b
 grind
def ZdL g c Ls S U O Q P R N d f a D A B E s wc J x y vz wz w (hS:Gv w g c Ls S)(hG:∀L∈Ls,Yg U L)(hn:S<=9000000)(hU:U.length<=2097152)(hV:Cq w D A vz)(hW:Cq w E s wz)(nV:D=none->A=0/\B=0)(nW:E=none->s=0/\wc=0)(lV:A<=2097152)(lW:s<=2097152)(hZ:∀z∈vz,Ga z∈U):C_ 70 #[.pointer (some ⟨g,0,none⟩),.agg #[.int .i64 2,.int .i64 O,.int .i64 Q,.slice P R N,.int .i64 d,.int .i64 f,.int .i64 a,.slice D A B,.slice E s wc,.string J,.int .i64 x,.int .i64 y]] w λe w'=>Yi U g c S w e w':=by
 have HS:=x2_ hS hG;have HV:=x1_ hV;have HW:=x1_ hW;have aH:=x1_ nV;have aQ:=x1_ nW;have HZ:=x1_ hZ;have aZ:=hS.lt;have C:=x1_ (Rp hV);have G:=x1_ (Rp hW);have W:Hid (Below _ w (w.alloc (.cells #[I_ 2,I_ O,I_ Q,.slice P R N,I_ d,I_ f,I_ a,.slice D A B,.slice E s wc,.string J,I_ x,I_ y] 93))):=bA_;have e7:(w.alloc (.cells #[I_ 2,I_ O,I_ Q,.slice P R N,I_ d,I_ f,I_ a,.slice D A B,.slice E s wc,.string J,I_ x,I_ y] 93)).cell? (A_ w.heap.size 7)=some (.slice D A B):=s_;have e8:(w.alloc (.cells #[I_ 2,I_ O,I_ Q,.slice P R N,I_ d,I_ f,I_ a,.slice D A B,.slice E s wc,.string J,I_ x,I_ y] 93)).cell? (A_ w.heap.size 8)=some (.slice E s wc):=s_
 have aW:(w.alloc (.cells #[I_ 2,I_ O,I_ Q,.slice P R N,I_ d,I_ f,I_ a,.slice D A B,.slice E s wc,.string J,I_ x,I_ y] 93)).heap.size=w.heap.size+1:=s_;go_enter Tryz.func70,Tryz.ntmps70;go_wp2_with fail
 generalize w.alloc (.cells #[I_ 2,I_ O,I_ Q,.slice P R N,I_ d,I_ f,I_ a,.slice D A B,.slice E s wc,.string J,I_ x,I_ y] 93)=wb at *;refine(sv _ _ _ _ _ (Eo HV W C) aH lV).mono ?_;rintro e w1 ⟨o1,rfl,aB,q⟩;obtain⟨a1,c1,rfl,_⟩:=aB.view;have F:=x1_ aB;have aT:=x1_ q;have Z:=x1_ (W.trans (q.mono o_));have f7:=(q.cell (p:=(A_ w.heap.size 7)) t_).trans e7;have f8:=(q.cell (p:=(A_ w.heap.size 8)) t_).trans e8;have b3:w.heap.size+1<=w1.heap.size:=(by have:=q.size;omega);go_wp2_with fail
 refine(sv _ _ _ _ _ (Eo HW Z G) aQ lW).mono ?_;rintro e w2 ⟨o2,rfl,X,m⟩;obtain⟨a2,c2,rfl,aG⟩:=X.view;obtain⟨_,_,e1,aP⟩:=(F.below m).view;simp only[Value.slice.injEq] at e1;obtain⟨rfl,_,rfl⟩:=e1;have aR:=x1_ aP;have aL:=x1_ aG;have V:=x1_ (F.below m);have H:=x1_ X;have aE:=x1_ (Z.trans (m.mono o_));have g7:=(m.cell (p:=(A_ w.heap.size 7)) t_).trans f7;have g8:=(m.cell (p:=(A_ w.heap.size 8)) t_).trans f8;have aX:=m.size;go_wp2_with fail
 refine(ZbZ _ _ _ _ _ _ _ _ _ aR aL lV lW).mono ?_;rintro e w3 ⟨v,M,rfl,hM,ho,n⟩;have HM:=x1_ hM;have a8:=x1_ ho;have a3:=x1_ (V.below n);have a0:=x1_ (H.below n);have a9:=x1_ (aE.trans (n.mono o_));have h7:=(n.cell (p:=(A_ w.heap.size 7)) t_).trans g7;have h8:=(n.cell (p:=(A_ w.heap.size 8)) t_).trans g8;have aU:=n.size;have r:Hid (∀k,_->_/\k<_):=λk i=>⟨(F.own i).1,(F.own i).2.1⟩;have t:Hid (∀k,_->_/\k<_):=λk i=>⟨(H.own i).1,(H.own i).2.1⟩;go_wp2_with fail
 refine(kx _ _ _ _ _ _ _ a3 (Eo HV a9 C) (λb off e h0=>by have:=C b off e h0;omega) lV).mono ?_;rintro e w4 ⟨rfl,l⟩;have aC:=x1_ (a9.grown l o_ (λk i=>by have:=r k i;omega));have k8:=l.cell h8 (λe=>by have:=r _ e.symm;grind);have k7:=l.cell h7 (λe=>by have:=r _ e.symm;grind);have T:=x1_ (a0.touch (Qm l) (λk i e=>by have h1:=r k e.symm;have h2:=t k i;omega));have a6:Hid (Aj w4 w2.heap.size v (Bv 0 M)):=(Qm l).row a8 (λk i e=>by have h1:=r k e.symm;have h2:=(rl_ a8 k i).1;omega);have aY:=l.size;go_wp2_with fail
 refine(kx _ _ _ _ _ _ _ T (Eo HW aC G) (λb off e h0=>by have:=G b off e h0;omega) lW).mono ?_;rintro e w5 ⟨rfl,o⟩;have I:=x1_ (aC.grown o o_ (λk i=>by have:=t k i;omega));have m8:=o.cell k8 (λe=>by have:=t _ e.symm;grind);have m7:=o.cell k7 (λe=>by have:=t _ e.symm;grind);have Y:Hid (Aj w5 w2.heap.size v (Bv 0 M)):=(Qm o).row a6 (λk i e=>by have h1:=t k e.symm;have h2:=(rl_ a6 k i).1;omega);have aV:=o.size;go_wp2_with fail
 refine(Qx _ _ _ B s wc vz wz _ (Eo HV I C) (Eo HW I G) lV lW).mono ?_;rintro e w6 ⟨u,M',rfl,aF,a7,aD⟩;obtain rfl:M'=M:=aF.unique HM;have aS:Hid (Aj _ w.heap.size v _):=Nl (Y.below aD) o_;have aI:Hid (Aj _ w.heap.size u _):=Nl a7 o_
 have aO:Hid (Ch v u):=by
  by_cases hv:v.ownBlock=none
  exact .inl hv;right;right;intro e;obtain⟨k,i⟩:=Option.ne_none_iff_exists'.1 hv;have h1:=(rl_ Y k i).2;have h2:=(rl_ a7 k (e.symm.trans i)).1;omega
 have a4:=x1_ (I.trans (aD.mono o_));have aA:Hid (Yg U (Bv 0 M')):=⟨HM.good (by rw[HV.1];exact lV),Zf6 HM HZ⟩;have a5:(Bv 0 M').length<=4194304:=(by have:=aA.len;omega);go_wp2_with fail
 refine(ZdM g c Ls S v u _ w w6 HS.1 a4 aS aI aO a5 o_).mono ?_;rintro e w7 ⟨rfl,c',aJ,aN,aK,b5,aM⟩
 have HF:Hid (∃c' Ls' nx',Gv w7 g c' Ls' nx'/\(∀L∈Ls',Yg U L)/\nx'<=S+1/\(∀j,j≠0->j≠4->j≠5->j≠12->c'[j]? =c[j]?)/\Below g w w7/\Pp w w7):=
  ⟨c',_,S+1,aJ,λL hL=>by rcases List.mem_append.1 hL with h|h;exact HS.2 L h;simp at h;rw[h];exact aA,Int.le_refl _,aN,(a4.mono o_).trans aK,aM⟩
 go_wp2;go_ret;exact⟨rfl,HF⟩
def Yi.of_below{U g c nx w w' Ls}(hS:Gv w g c Ls nx)(hG:∀L∈Ls,Yg U L)(hb:Below w.heap.size w w'):Yi U g c nx w (.returned (.bool true)) w':=
 ⟨rfl,c,Ls,nx,hS.below hb,hG,o_,λ_ _ _ _ _=>rfl,hb.mono (Nat.le_of_lt hS.lt),Pp.of_below hb⟩
def Yi.back{U g c d w f j e}(i:Below w.heap.size w f)(s:g<w.heap.size)(h:Yi U g c d f e j):Yi U g c d w e j:=by obtain⟨q,n,a,b,r,p,m,o,k,l⟩:=h;exact⟨q,n,a,b,r,p,m,o,(i.mono o_).trans k,(Pp.of_below i).trans l⟩
def ey(W:World) o n (h:W.heap.size=n):(W.alloc o).heap[n]? =some o:=by subst h;exact ha_ W o
def Gn(b:Nat):OpD:={kd:=2,pk:=0,bb:=0,fa:=none,fl:=0,fc:=0,bins:=0,size:=0,budget:=0,va:=some ⟨b,0,none⟩,vl:=3,vc:=3,wa:=some ⟨b+1,0,none⟩,wl:=3,wc:=3,st:=⟨#[]⟩,x:=0,y:=0,fw:=λ_=>false,fs:=λ_=>0,ft:=λ_=>0,vz:=[5,3,5],wz:=[1,2,4]}
def qh{w b}(G:ZkC w b):OpR b (Gn w.heap.size):=by
 have c:=G.size;refine⟨by simp[Gn],by simp[Gn,maxLen],by simp[Gn,maxLen],?_,?_,?_,λh=>by simp[Gn] at h,λh=>by simp[Gn] at h⟩;exact .inl rfl
 ·refine⟨rfl,(by intro z a;simp[Gn] at a;rcases a with rfl|rfl|rfl<;>decide),.inr ⟨w.heap.size,0,rfl,o_,λi hi=>?_⟩⟩;have h:i=0∨i=1∨i=2:=by simp[Gn] at hi;omega
  rcases h with rfl|rfl|rfl
  exact G.v0;exact G.v1;exact G.v2
 refine⟨rfl,(by intro z a;simp[Gn] at a;rcases a with rfl|rfl|rfl<;>decide),.inr ⟨w.heap.size+1,0,rfl,o_,λi hi=>?_⟩⟩;have h:i=0∨i=1∨i=2:=by simp[Gn] at hi;omega
 rcases h with rfl|rfl|rfl
 exact G.u0;exact G.u1;exact G.u2
def OpR.below{w w' d}(h:OpR w d)(hb:Below w.heap.size w w'):OpR w' d:=
 ⟨h.fl,h.vl,h.wl,h.feats.below hb,Eo h.vz hb (Rp h.vz),Eo h.wz hb (Rp h.wz),h.vnil,h.wnil⟩
def Zgm(w:World):Gv (w.alloc (.cells #[.slice none 0 0,.slice none 0 0,.slice none 0 0,.slice none 0 0,.slice none 0 0,.slice none 0 0,.slice none 0 0,.slice none 0 0,.slice none 0 0,.slice none 0 0,.slice none 0 0,.slice none 0 0,I_ 0] 90)) w.heap.size #[.slice none 0 0,.slice none 0 0,.slice none 0 0,.slice none 0 0,.slice none 0 0,.slice none 0 0,.slice none 0 0,.slice none 0 0,.slice none 0 0,.slice none 0 0,.slice none 0 0,.slice none 0 0,I_ 0] [] 0:=by refine⟨.slice _ 0 0,.slice _ 0 0,.slice _ 0 0,[],[],[],ha_ w _,rfl,rfl,rfl,rfl,rfl,rn_,rn_,Ag.nil _ _,.inl rfl,rfl,rfl,s_,s_,λi hi=>by simp at hi,λi hi=>by simp at hi⟩
def Yf(w:World)(g N:Nat)(f:Nat->Bool×Int×Int):Prop:=∃cur:Array Value,w.heap[g]? =some (.cells cur 51 (0,0))/\cur.size=N*3/\∀i,i<N->cur[i*3]? =some (.bool (f i).1)/\cur[i*3+1]? =some (I_ (f i).2.1)/\cur[i*3+2]? =some (I_ (f i).2.2)
section
variable {w w':World} {g N:Nat} {f:Nat->Bool×Int×Int}
def Yf.lt(h:Yf w g N f):g<w.heap.size:=by
 obtain⟨a,b,_⟩:=h
 grind
def Yf.cells(h:Yf w g N f){i}(e:i<N):w.cell? (A_ g (i*3))=some (.bool (f i).1)/\w.cell? (A_ g (i*3+1))=some (I_ (f i).2.1)/\w.cell? (A_ g (i*3+2))=some (I_ (f i).2.2)/\∀o,w.frozen? (A_ g o)=false:=by
 obtain⟨a,c,d,b⟩:=h
 grind [cell_of_row,frozen_of_row]
def Yf.put(h:Yf w g N f){k}(n:k<N) a b c:Yf (((w.setCell (A_ g (k*3)) (.bool a)).setCell (A_ g (k*3+1)) (I_ b)).setCell (A_ g (k*3+2)) (I_ c)) g N (λi=>if i=k then(a,b,c) else f i):=by
 obtain⟨d,l,m,j⟩:=h;refine⟨_,hs_ _ g _ _ _ _ (hs_ _ g _ _ _ _ (hs_ _ g _ _ _ _ l)),by simp[m],λi hi=>?_⟩
 by_cases e:i=k
 ·subst e;simp only[if_true];refine⟨?_,?_,?_⟩
  ·grind
  ·grind
  grind
 simp only[if_neg e];obtain⟨x,y,z⟩:=j i hi;refine⟨?_,?_,?_⟩;rw[Array.getElem?_setIfInBounds_ne o_,Array.getElem?_setIfInBounds_ne o_,Array.getElem?_setIfInBounds_ne o_];exact x;rw[Array.getElem?_setIfInBounds_ne o_,Array.getElem?_setIfInBounds_ne o_,Array.getElem?_setIfInBounds_ne o_];exact y;rw[Array.getElem?_setIfInBounds_ne o_,Array.getElem?_setIfInBounds_ne o_,Array.getElem?_setIfInBounds_ne o_];exact z
def Yf.touch{S}(h:Yf w g N f)(t:Aa S w w')(d:¬S g):Yf w' g N f:=by obtain⟨a,b,c⟩:=h;exact⟨a,t.at_ b d,c⟩
def Yf.below(h:Yf w g N f)(hb:Below w.heap.size w w'):Yf w' g N f:=h.touch (.of_below (S:=λ_=>False) hb) id
def Yf.congr{b}(h:Yf w g N f)(e:∀i,i<N->b i=f i):Yf w g N b:=by obtain⟨a,c,d,j⟩:=h;exact⟨a,c,d,λi hi=>w_⟩
def Yf.feats(h:Yf w g N f){n c a b}(j:n<=N)(d:n<=maxLen)(e:∀i,i<n->f i=(c i,a i,b i)):Dd w g 0 n c a b:=by
 refine⟨d,λ_=>h.lt,λi hi=>?_,λi hi=>?_,λi hi=>?_⟩
 ·have:=(h.cells (i:=i) o_).1
  grind
 ·have:=(h.cells (i:=i) o_).2.1
  grind
 have:=(h.cells (i:=i) o_).2.2.1
 grind
end
def Qt(n:Nat)(wd:Nat->Bool)(sc ct:Nat->Int)(m i:Nat):Bool×Int×Int:=if i<n then(wd i,sc i,ct i) else if i<n+m then(false,0,-7-i) else(false,0,0)
def ZfI n b c a m i:Qt n b c a (m+1) i=if i=n+m then(false,0,-7-((n+m:Nat):Int)) else Qt n b c a m i:=by grind [Qt]
def ZaR(wd:Nat->Bool)(sc ct:Nat->Int)(j:Nat):Value:=if j%3=0 then .bool (wd (j/3)) else if j%3=1 then I_ (sc (j/3)) else I_ (ct (j/3))
def Xe p n c u y t w (h:Dd w p.block p.off n u y t)(hp:0<n->p=(A_ p.block p.off))(hl:n<=2097152):C_ 122 #[.slice (some p) n c] w λe w'=>e=.returned (.slice (some ⟨w.heap.size,0,none⟩) n (n+8))/\Yf w' w.heap.size (n+8) (Qt n u y t 8)/\Below w.heap.size w w':=by
 obtain⟨i0,r,Y,G,T⟩:=info_parts ZhT;obtain⟨b,d,U⟩:=p
 have he:_:=λq=>by have:=hp q;injection this
 have h:Dd w b d n _ _ _:=h;clear hp;have a2:∀W:_,(binOp _ _ _ _).run _ W=.ok (.bool false) W:=λW=>Lib.run_eql_slice_nil W 35 _ (some ⟨b,d,U⟩) n c 0 0 Tryz.underlying35;have L:∀W:World,(Instr.makeSlice 35 (I_ (n+8)) (I_ (n+8))).run Tryz.prog W=.ok (L_ W.heap.size (n+8) (n+8)) (W.alloc (.cells (madeCells #[.bool false,I_ 0,I_ 0] ((n+8)*3)) 51)):=(by intro W;have:=run_make (P:=Tryz.prog) W 35 51 i0 _ Tryz.underlying35 r Y .i64 .i64 ((n:Int)+8) ((n:Int)+8) o_ o_ (by rw[T];omega) o_;rw[G] at this;rw[this,show((n:Int)+8).toNat=n+8 by omega];rfl);obtain⟨a,f⟩:=ex_ (madeCells #[.bool false,I_ 0,I_ 0] ((n+8)*3))
 have E:∀i,i<n+8->a[i*3]? =some (.bool false)/\a[i*3+1]? =some (I_ 0)/\a[i*3+2]? =some (I_ 0):=λi z=>by rw[f];refine⟨?_,?_,?_⟩;simp[madeCells,show i*3<(n+8)*3 by omega,show i*3%3=0 by omega];simp[madeCells,show i*3+1<(n+8)*3 by omega,show(i*3+1)%3=1 by omega];simp[madeCells,show i*3+2<(n+8)*3 by omega,show(i*3+2)%3=2 by omega]
 have V:a.size=(n+8)*3:=(by rw[f];exact size_madeCells _ _);rw[<- f] at L
 obtain⟨Q,Z,I,C⟩:∃Q:World,(Builtin.copy_ #[35,35] 3 #[L_ w.heap.size (n+8) (n+8),.slice (some ⟨b,d,U⟩) n c]).run Tryz.prog (w.alloc (.cells a 51))=.ok (I_ n) Q/\Hid (Yf Q w.heap.size (n+8) (Qt n u y t 0))/\E_ w Q:=by
  have N:Below _ w (w.alloc (.cells a 51)):=bA_;have s:(w.alloc (.cells a 51)).heap[_]? =_:=ha_ w _;have o:Nat.min n (n+8)=n:=Nat.min_eq_left o_;obtain⟨l,F⟩:=ex_ ((List.range (n*3)).map (ZaR u y t));have M:l.length=n*3:=by rw[F];simp
  have g:∀j,j<n*3->l[j]? =some (ZaR u y t j):=λj hj=>w_
  have J:∀j v,l[j]? =some v->(w.alloc (.cells a 51)).cell? ((⟨b,d,U⟩:Addr).add j)=some v:=λj v hj=>by
   have R:j<n*3:=w_;rw[he o_];rw[g j R] at hj;injection hj with hj;subst hj;have A:((A_ b d):Addr).add j=(A_ b (d+j)):=(by unfold Addr.add;split<;>simp_all);have z:j/3<n:=o_;have S:=h.lt o_;rw[A,N.cell (p:=(A_ b (d+j))) S];unfold ZaR
   rcases(show j%3=0∨j%3=1∨j%3=2 by omega) with e|e|e
   rw[if_pos e,show d+j=d+j/3*3 by omega];exact h.c0 _ z;rw[if_neg o_,if_pos e,show d+j=d+j/3*3+1 by omega];exact h.c1 _ z;rw[if_neg o_,if_neg o_,show d+j=d+j/3*3+2 by omega];exact h.c2 _ z
  have H:∀v∈l,v.oneCell'=true:=λv hv=>by rw[F] at hv;obtain⟨j,_,rfl⟩:=List.mem_map.1 hv;unfold ZaR;split;rfl;split<;>rfl
  have hr:=qp (P:=Tryz.prog) _ 35 35 3 _ _ _ _ (n+8) _ n c _ _ _ Tryz.underlying35 r s (by rw[o,G,M]) J o_ H;rw[o] at hr;refine⟨_,hr,?_,below_setRow N qa_ _⟩;have hh:=setRow_heap _ _ _ (a.toList.take 0++l++a.toList.drop (0+l.length)).toArray _ _ s;refine⟨_,hh,w_,λi z=>?_⟩
  have x:∀j,(a.toList.take 0++l++a.toList.drop (0+l.length)).toArray[j]? =if j<n*3 then l[j]? else a[j]?:=λj=>by
   simp only[List.take_zero,List.nil_append,Nat.zero_add,List.getElem?_toArray]
   by_cases hj:j<n*3
   ·grind
   grind
  rw[x,x,x];unfold Qt
  by_cases hin:i<n
  rw[if_pos (show i*3<n*3 by omega),if_pos (show i*3+1<n*3 by omega),if_pos (show i*3+2<n*3 by omega),if_pos hin,g _ o_,g _ o_,g _ o_];unfold ZaR;refine⟨?_,?_,?_⟩;rw[if_pos o_,show i*3/3=i by omega];rw[if_neg o_,if_pos o_,show(i*3+1)/3=i by omega];rw[if_neg o_,if_neg o_,show(i*3+2)/3=i by omega];rw[if_neg (show ¬i*3<n*3 by omega),if_neg (show ¬i*3+1<n*3 by omega),if_neg (show ¬i*3+2<n*3 by omega),if_neg hin,if_neg (show ¬i<n+0 by omega)];exact E i z
 clear E V h f he;go_enter Tryz.func122,Tryz.ntmps122;go_upto_region 6 with fail;go_loopw [4] (λti wr=>∃m:Nat,m<=8/\ti=.int .i64 ((n+m:Nat):Int)/\Hid (Yf wr w.heap.size (n+8) (Qt n u y t m))/\Hid (E_ w wr)) (λti _=>n+8-(intOf ti).toNat)
 case atStart=>exact⟨0,o_,s_,I,C⟩
 case round=>
  clear I C Z L;obtain⟨m,hm,rfl,B,X⟩:=hrel;have a7:=B.lt
  by_cases hm8:m<8
  ·obtain⟨k,O⟩:=ey_ (n+m);have HP:Hid (Yf (((wr.setCell (A_ w.heap.size (k*3)) (.bool false)).setCell (A_ w.heap.size (k*3+1)) (I_ 0)).setCell (A_ w.heap.size (k*3+2)) (I_ (-7-k))) w.heap.size (n+8) (Qt n u y t (m+1))):=by refine(B.put (k:=k) o_ _ 0 _).congr (λi _=>?_);rw[ZfI,O]
   have a0:Hid (Below _ w (((wr.setCell (A_ w.heap.size (k*3)) (.bool false)).setCell (A_ w.heap.size (k*3+1)) (I_ 0)).setCell (A_ w.heap.size (k*3+2)) (I_ (-7-(k:Int))))):=((X.setCell qa_ _).setCell qa_ _).setCell qa_ _;obtain⟨c0,c1,c2,cf⟩:=B.cells (i:=k) o_;have a5:0<=(k:Int):=o_;have a6:k<(n:Int)+8:=o_;have D:=x1_ O;rw[O];have a4:k<=3000000:=o_;clear O B X;go_wp2;go_roundw;case rel=>exact⟨m+1,o_,by rw[<- Nat.add_assoc,D];go_num,HP,a0⟩
   case measure=>have:=D.out;simp[intOf];omega
  have a1:m=8:=o_;subst a1;have a3:¬(n+8:Nat)<(n:Int)+8:=o_;go_wp2;go_ret;exact⟨rfl,B,X⟩
def stF(n:Nat)(wd:Nat->Bool)(sc ct:Nat->Int)(k i:Nat):Bool×Int×Int:=if i<k then(false,0,-9) else Qt n wd sc ct 8 i
def ZiO n b c a k i:stF n b c a (k+1) i=if i=k then(false,0,-9) else stF n b c a k i:=by grind [stF]
def Wa p n c g l m f w (h:Dd w p.block p.off n l m f)(M:0<n->p=(A_ p.block p.off))(R:n<=2097152)(Q:Yf w g (n+8) (Qt n l m f 8))(E:0<n->p.block≠g):C_ 124 #[.slice (some ⟨g,0,none⟩) n (n+8),.slice (some p) n c] w λe w'=>e=.returned (.bool true)/\Aa (λk=>k=g) w w':=by
 obtain⟨b,d,J⟩:=p
 have L:Hid _:=λq=>by have:=M q;injection this
 have x:Hid (Dd w b d n _ _ _):=h;have B:Hid (_->b≠g):=E;have C:Hid (Yf w g _ (stF n _ _ _ 0)):=Q.congr (λi _=>by unfold stF;rw[if_neg o_]);have H:∀W:_,(binOp _ _ _ _).run _ W=.ok (.bool false) W:=λW=>Lib.run_eql_slice_nil W 35 _ (some ⟨b,d,J⟩) n c 0 0 Tryz.underlying35;go_enter Tryz.func124,Tryz.ntmps124;go_upto_region 6 with fail;go_loopw [6,7] (λtok ti wr=>∃k:Nat,k<=n+8/\tok=.bool true/\ti=.int .i64 k/\Hid (Yf wr g (n+8) (stF n l m f k))/\Hid (Aa (λk=>k=g) w wr)) (λ_ ti _=>n+8-(intOf ti).toNat)
 case atStart=>exact⟨0,qg_,rfl,rfl,C,Aa.refl _ _⟩
 case round=>
  obtain⟨k,O,rfl,rfl,G,s⟩:=hrel
  by_cases hk:k<n+8
  ·have N:0<=(k:Int):=o_;have P:k<(n:Int)+8:=o_;obtain⟨u,v,t,U⟩:=G.cells (i:=k) hk;have z:stF n l m f k k=Qt n l m f 8 k:=(by unfold stF;grind);rw[z] at u v t
   have y:Hid (∀j,_/\Aa _ w ((((wr.drewN j).setCell _ (.bool false)).setCell _ (I_ 0)).setCell _ (I_ (-9)))):=λj=>
    ⟨((G.below (below_drewN bz_ j)).put hk _ 0 _).congr (λi _=>ZiO n l m f k i),(((s.below (below_drewN bz_ j)).setCell (p:=(A_ g (k*3))) (λ_=>rfl) _).setCell (p:=(A_ g (k*3+1))) (λ_=>rfl) _).setCell (p:=(A_ g (k*3+2))) (λ_=>rfl) _⟩
   by_cases hkn:k<n
   ·have A:k<(n:Int):=o_;have F:Qt n l m f 8 k=(l k,m k,f k):=(by unfold Qt;rw[if_pos hkn]);rw[F] at u v t;simp only at u v t;have o:=x.lt o_;have r:=B o_;have D:=L o_;subst D;have T:=(cb_ (w:=w) (a:=(A_ b (d+k*3))) (s.block b o r)).trans (x.c0 k hkn);have S:=(cb_ (w:=w) (a:=(A_ b (d+k*3+1))) (s.block b o r)).trans (x.c1 k hkn);have V:=(cb_ (w:=w) (a:=(A_ b (d+k*3+2))) (s.block b o r)).trans (x.c2 k hkn);generalize l k=xw,m k=xs,f k=xc at *;go_upto_region 9 with fail;go_quiet (fail);refine rd_ ?_;exact⟨k+1,o_,s_,g_,(y _).1,(y _).2⟩
   have A:¬k<(n:Int):=o_;have F:Qt n l m f 8 k=(false,0,-7-(k:Int)):=(by unfold Qt;grind);rw[F] at u v t;simp only at u v t;refine rd_ ?_;exact⟨k+1,o_,s_,g_,(y 0).1,(y 0).2⟩
  have I:¬k<(n:Int)+8:=o_;go_wp2;go_ret;exact⟨rfl,s⟩
section
variable {w w':World} {base n c:Nat} {a:Option Addr} {o:Value} {wd:Nat->Bool} {sc ct:Nat->Int}
def Kt(w:World)(base:Nat)(o:Value)(a:Option Addr)(n:Nat)(wd:Nat->Bool)(sc ct:Nat->Int):Prop:=
 (a=none/\n=0/\o=.slice none 0 0)∨∃p g,a=some p/\o=L_ g n (n+8)/\base<=g/\g<w.heap.size/\Yf w g (n+8) (Qt n wd sc ct 8)
def Kt.touch{S}(h:Kt w base o a n wd sc ct)(t:Aa S w w')(i:∀k,base<=k->¬S k):Kt w' base o a n wd sc ct:=by
 rcases h with h|⟨p,g,e,f,b,d,c⟩
 exact .inl h;exact .inr ⟨p,g,e,f,b,Qh d t.size,c.touch t (i g b)⟩
def Kt.own(h:Kt w base o a n wd sc ct){k}(b:o.ownBlock=some k):base<=k/\k<w.heap.size:=by
 rcases h with⟨_,_,rfl⟩|⟨p,g,_,rfl,h3,h4,_⟩
 ·cases b
 have:some g=some k:=b
 grind
def Kt.below(h:Kt w base o a n wd sc ct)(b:Below w.heap.size w w'):Kt w' base o a n wd sc ct:=by
 rcases h with h|⟨p,g,f,i,e,d,c⟩
 exact .inl h;exact .inr ⟨p,g,f,i,e,Qh d b.size,c.below b⟩
def Kt.shape(h:Kt w base o a n wd sc ct):∃a' c',o=.slice a' n c':=by
 rcases h with⟨_,rfl,rfl⟩|⟨p,g,_,rfl,_⟩
 ·grind
 grind
def Kt.view{b c}(h:Kt w base (.slice b n c) a n wd sc ct)(d:n<=2097152):Ej w b n wd sc ct:=by
 rcases h with⟨_,h0,_⟩|⟨p,g,_,h2,_,_,h5⟩
 exact .inl h0;injection h2 with h2;exact .inr ⟨g,0,h2,h5.feats o_ m_ (λi hi=>by unfold Qt;rw[if_pos hi])⟩
def Xf n c w:C_ 122 #[.slice none n c] w λe w'=>e=.returned (.slice none 0 0)/\w'=w:=by have a:∀W:_,(binOp _ _ _ _).run _ W=.ok (.bool true) W:=λW=>Lib.run_eql_slice_nil W 35 _ none n c 0 0 Tryz.underlying35;go_enter Tryz.func122,Tryz.ntmps122;go_wp2;go_ret;exact⟨rfl,rfl⟩
def Wb o n c w:C_ 124 #[o,.slice none n c] w λe w'=>e=.returned (.bool true)/\w'=w:=by have a:∀W:_,(binOp _ _ _ _).run _ W=.ok (.bool true) W:=λW=>Lib.run_eql_slice_nil W 35 _ none n c 0 0 Tryz.underlying35;go_enter Tryz.func124,Tryz.ntmps124;go_wp2;go_ret;exact⟨rfl,rfl⟩
def Ej.at{p}(h:Ej w (some p) n wd sc ct)(c:n<=2097152):Dd w p.block p.off n wd sc ct/\(0<n->p=(A_ p.block p.off)):=by
 rcases h with rfl|⟨b,a,e,d⟩
 exact⟨⟨o_,λh=>o_,λi hi=>o_,λi hi=>o_,λi hi=>o_⟩,λh=>o_⟩
 grind
def su a n c i d f w (h:Ej w a n i d f)(b:n<=2097152):C_ 122 #[.slice a n c] w λe w'=>∃o,e=.returned o/\Kt w' w.heap.size o a n i d f/\Below w.heap.size w w':=by
 cases a with
 | none=>
  refine(Xf n c w).mono ?_;rintro e w' ⟨rfl,rfl⟩;refine⟨_,rfl,.inl ⟨rfl,?_,rfl⟩,bz_⟩
  rcases h with h|⟨_,_,e,_⟩
  exact h
  cases e
 | some p=>
  obtain⟨l,j⟩:=h.at b;refine(Xe p n c _ _ _ w l j b).mono ?_;rintro e w' ⟨rfl,g,k⟩;exact⟨_,rfl,.inr ⟨p,w.heap.size,rfl,rfl,qa_,g.lt,g⟩,k⟩
def kw a n c b i j f o w (h:Kt w b o a n i j f)(s:Ej w a n i j f)(q:∀p,a=some p->0<n->p.block<b)(d:n<=2097152):C_ 124 #[o,.slice a n c] w λe w'=>e=.returned (.bool true)/\Aa (λk=>o.ownBlock=some k) w w':=by
 rcases h with⟨rfl,rfl,rfl⟩|⟨p,g,rfl,rfl,h3,h4,h5⟩
 ·refine(Wb _ _ c w).mono ?_
  grind [Aa.refl]
 obtain⟨m,r⟩:=s.at d;refine(Wa p n c g _ _ _ w m r d h5 (λh0=>w_)).mono ?_;rintro e w' ⟨rfl,l⟩;exact⟨rfl,l.mono (λk _ e=>by subst e;rfl)⟩
end
end Go.Proofs.YtfcgnpchbcmdeaaGreat
