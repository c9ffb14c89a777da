import Derived.Test.YtfcgnpchbcmdeaaGreatZrar
import Derived.Laws.CopyOwn
import Derived.Test.YtfcgnpchbcmdeaaGreatZrat
namespace Go.Proofs.YtfcgnpchbcmdeaaGreat
set_option linter.all false
set_option maxRecDepth 100000
set_option maxHeartbeats 4000000
open Go.RowKit
def Mb(zs:List Int)(k i:Nat):Value:=if i<zs.length then I_ (zs.getD i 0) else if i<k then I_ (-7-i) else I_ 0
def Zbc{g:World}{b n c d X}(a:d=List.replicate (n+8) (I_ 0))(f:X=c.map (Value.int .i64))(e:c.length=n)(h:g.heap[b]? =some (.cells (splice d 0 X).toArray 3 (0,0))):g.rowIs b 3 (n+8) (Mb c n):=by
 refine⟨_,h,?_,λi hi=>?_⟩;simp[splice,a,f,e];subst a f e;have e:(List.map (Value.int .i64) c).length=c.length:=s_;unfold Mb splice
 grind
def Zr p n c q w (h:Cq w (some p) n q)(hn:n<=2097152):C_ 112 #[.slice (some p) n c] w λe w'=>e=.returned (.slice (some ⟨w.heap.size,0,none⟩) n (n+8))/\w'.rowIs w.heap.size 3 (n+8) (Mb q (n+8))/\Below w.heap.size w w':=by
 obtain⟨j0,Q,a3,a8,a7⟩:=info_parts Su;have D:=x1_ h;clear h;have S:∀W:_,(binOp _ _ _ _).run _ W=.ok (.bool false) W:=λW=>Lib.run_eql_slice_nil W 25 3 (some p) n c 0 0 Tryz.underlying25;obtain⟨a,d⟩:∃a:List Value,a=List.replicate (n+8) (I_ 0):=⟨_,rfl⟩;obtain⟨X,I⟩:∃X:List Value,X=q.map (Value.int .i64):=⟨_,rfl⟩;have a0:∀W:World,(Instr.makeSlice 25 (I_ (n+8)) (I_ (n+8))).run Tryz.prog W=.ok (L_ W.heap.size (n+8) (n+8)) (W.alloc (.cells a.toArray 3)):=by intro W;have:=run_make_row' (P:=Tryz.prog) 25 3 (I_ 0) 8 Tryz.underlying25 Su rfl .i64 .i64 (n+8) o_ o_ W;rw[show((n+8:Nat):Int)=(n:Int)+8 by omega] at this;rw[this,d];congr 3;apply Array.ext;simp[madeCells];intro i h1 h2;simp[madeCells,Nat.mod_one]
 have A:=x1_ d;have E:=x1_ I;have a5:a.length=n+8:=(by rw[d];simp);have m:X.length=n:=(by rw[I];simp[D.out.1]);clear d I;have x:(Tryz.prog.info? 3).map (·.size)=some 1:=w_
 have g:Hid (∀W:World,E_ w W->0<X.length->∃F,some p=some F/\∀j v,X[j]? =some v->W.cell? (F.add j)=some v):=λW hb R=>by
  refine⟨p,rfl,λj v hj=>?_⟩;obtain⟨h1,_,h2|⟨b,o,e,s,T⟩⟩:=D.out;omega;simp at e;subst e;have t:((A_ b o):Addr).add j=(A_ b (o+j)):=(by unfold Addr.add;split<;>simp_all);have L:j<n:=w_;rw[t,hb.cell (p:=(A_ b (o+j))) s,T j L,<- hj,E]
  grind
 obtain⟨C,a4,J,G⟩:∃C:World,(Builtin.copy_ #[25,25] 3 #[L_ w.heap.size (n+8) (n+8),.slice (some p) n c]).run Tryz.prog (w.alloc (.cells a.toArray 3))=.ok (I_ n) C/\Hid (C.rowIs w.heap.size 3 (n+8) (Mb q n))/\E_ w C:=by
  have z:Below _ w (w.alloc (.cells a.toArray 3)):=bA_;have f:(w.alloc (.cells a.toArray 3)).heap[_]? =_:=ha_ w _
  have y:∀j v,X[j]? =some v->(w.alloc (.cells a.toArray 3)).cell? (p.add j)=some v:=λj v hj=>by
   have R:0<X.length:=w_;obtain⟨F,e,hh⟩:=g _ z R
   grind
  have hr:=run_copy_row (P:=Tryz.prog) _ 25 25 3 3 _ 0 (n+8) (n+8) p n c _ 3 X Tryz.underlying25 x f w_ y t_ (by rw[E];intro v M;simp at M;obtain⟨_,_,rfl⟩:=M;rfl);refine⟨_,by rw[hr,m];rfl,?_,below_setRow z qa_ _⟩;refine Zbc A E D.1 ?_;have:=setRow_heap (w.alloc (.cells a.toArray 3)) w.heap.size a.toArray (a.toArray.toList.take 0++X++a.toArray.toList.drop (0+X.length)).toArray 3 (0,0) f;rw[m] at this;rw[this];simp[splice,m]
 have a2:=G.size;have O:=J.lt;clear g;go_enter Tryz.func112,Tryz.ntmps112;go_wp2_with fail
 go_loopw [4] (λti wr=>∃k:Nat,n<=k/\k<=n+8/\ti=.int .i64 k/\Hid (wr.rowIs w.heap.size 3 (n+8) (Mb q k))/\E_ w wr) (λti _=>n+8-(intOf ti).toNat)
 case atStart=>grind
 case round=>
  obtain⟨k,U,a1,rfl,B,l⟩:=hrel;have s:=B.lt
  by_cases hk:k<n+8
  ·have Z:0<=(k:Int):=o_;have V:k<(n:Int)+8:=o_;have r:=B.cell hk;have N:=B.frozen k
   have HN:Hid ((wr.setCell (A_ w.heap.size k) (I_ (-7-k))).rowIs w.heap.size 3 (n+8) (Mb q (k+1))):=(B.set k _).congr (λj _=>by
    have a6:=D.1
    grind [Mb])
   have Y:Below _ w (wr.setCell (A_ w.heap.size k) (I_ (-7-(k:_)))):=l.setCell qa_ _;generalize Mb q k k=u at r;go_wp2
   grind [intOf]
  have H:k=n+8:=o_;subst H;go_wp2;go_ret;exact⟨rfl,B,l⟩
def Ok(zs:List Int)(k i:Nat):Value:=if i<k then I_ (-9) else Mb zs (zs.length+8) i
def Xv p n c g d w (h:Cq w (some p) n d)(H:n<=2097152)(G:w.rowIs g 3 (n+8) (Mb d (n+8)))(C:0<n->p.block≠g):C_ 113 #[.slice (some ⟨g,0,none⟩) n (n+8),.slice (some p) n c] w λe w'=>e=.returned (.bool true)/\w.grownBy w' (some g):=by
 have l:=x1_ h;have m:Hid (w.rowIs g 3 (n+8) (Ok d 0)):=(by have e:=h.1.symm;subst e;exact G);have z:∀W:_,(binOp _ _ _ _).run _ W=.ok (.bool false) W:=λW=>Lib.run_eql_slice_nil W 25 3 (some p) n c 0 0 Tryz.underlying25;go_enter Tryz.func113,Tryz.ntmps113;go_wp2_with fail
 go_loopw [6,7] (λtok ti wr=>∃k:Nat,k<=n+8/\tok=.bool true/\ti=.int .i64 k/\Hid (wr.rowIs g 3 (n+8) (Ok d k))/\Hid (w.grownBy wr (some g))) (λ_ ti _=>n+8-(intOf ti).toNat)
 case atStart=>exact⟨0,qg_,rfl,rfl,m,World.grownBy.refl _ _⟩
 case round=>
  obtain⟨k,A,rfl,rfl,f,i⟩:=hrel;have q:=f.lt
  by_cases hk:k<n+8
  ·have F:0<=(k:Int):=o_;have D:k<(n:Int)+8:=o_;have a:=f.cell hk;have v:=f.frozen k;have y:Hid (∀W:World,W.rowIs g 3 (n+8) (Ok d k)->(W.setCell (A_ g k) (I_ (-9))).rowIs g 3 (n+8) (Ok d (k+1))):=λW hW=>(hW.set k _).congr (λj _=>by grind [Ok])
   by_cases hkn:k<n
   ·have u:Ok d k k=I_ (d.getD k 0):=(by unfold Ok Mb;rw[if_neg o_,if_pos (by rw[l.1];exact hkn)]);rw[u] at a;obtain⟨J,_,I|⟨b,o,e,E,B⟩⟩:=l.out;omega;simp at e;subst e;have r:=i.cell (B k hkn) w_;have s:k<(n:Int):=o_;generalize d.getD k 0=x at a r;go_wp2_with fail
    go_big_quiet (fail);refine rd_ ?_;exact⟨k+1,o_,rfl,g_,y _ (f.of_block ((below_drewN bz_ _).block g q)),Bm (Hp i (Lz (below_drewN bz_ _))) _ _⟩
   have u:Ok d k k=I_ (-7-k):=(by unfold Ok Mb;rw[if_neg o_,if_neg (by rw[l.1];omega),if_pos (by rw[l.1];omega)]);rw[u] at a;have s:¬k<(n:Int):=o_;go_wp2_with fail
   go_roundw;case rel=>exact⟨k+1,o_,rfl,g_,y _ f,Bm i _ _⟩
   case measure=>exact z_
  have t:k=n+8:=o_;subst t;go_wp2;go_ret;exact⟨rfl,i⟩
def qm{P} w p q A e i g b k a c m d t f (u:P.underlying p=some (.slice e))(y:P.info? e=some i)(x:w.heap[g]? =some (.cells d t (0,0)))(z:f.length=Nat.min c b*i.size)(h:∀j v,f[j]? =some v->w.cell? (a.add j)=some v)(l:f.length<=d.size)(r:∀v∈f,v.oneCell'=true):(Builtin.copy_ #[p,q] A #[L_ g b k,.slice (some a) c m]).run P w=.ok (goInt (Nat.min c b)) (w.setRow g (d.toList.take 0++f++d.toList.drop (0+f.length)).toArray):=by have s:=run_loadCells_list (P:=P) w a _ h;have o:=run_storeCells_at P g 0 t _ 0 _ w x (by simpa using l) r;have n:=z.symm;simp[Builtin.copy_,run_underlying u,Builtin.lenOf,Builtin.firstCells,sizeOf,typeInfo,y,n,s,o]
def Zh4(n m:Nat):List Ct:=(List.range m).map λj=>⟨-7-(n+j:Nat),0,0,0⟩
def ZhW(L:List Ct)(m:Nat):List Ct:=(L++Zh4 L.length m)++List.replicate (8-m) e0
def Zly L {m}(a:m<=8):(ZhW L m).length=L.length+8:=by simp[ZhW,Zh4];omega
def Zk5{w b a L}(h:Ip w b a L):∀j v,(flat L)[j]? =some v->w.cell? (((A_ b a):Addr).add j)=some v:=by
 intro j v g;have f:((A_ b a):Addr).add j=(A_ b (a+j)):=(by unfold Addr.add;split<;>simp_all);have i:j<L.length*4:=(by grind [Ef]);have c:j/4<L.length:=o_;have d:=ZaT L _ (j%4) c o_;rw[show j/4*4+j%4=j by omega,g] at d;rw[f]
 rcases(show j%4=0∨j%4=1∨j%4=2∨j%4=3 by omega) with e|e|e|e
 rw[show a+j=a+j/4*4 by omega,h.v _ c,d,e];rfl;rw[show a+j=a+j/4*4+1 by omega,h.lo _ c,d,e];rfl;rw[show a+j=a+j/4*4+2 by omega,h.hi _ c,d,e];rfl;rw[show a+j=a+j/4*4+3 by omega,h.wt _ c,d,e];rfl
def Zmm(L:List Ct)(k:Nat):List Ct:=List.replicate k m9++(ZhW L 8).drop k
def ZkO W:(binOp .eql 25 (.slice none 0 0) (.slice none 0 0)).run Tryz.prog W=.ok (.bool true) W:=Lib.run_eql_slice_nil W 25 3 none 0 0 0 0 Tryz.underlying25
def Zs w:C_ 112 #[.slice none 0 0] w λe w'=>e=.returned (.slice none 0 0)/\w'=w:=by have a:=ZkO;go_enter Tryz.func112,Tryz.ntmps112;go_wp2;go_ret;exact⟨rfl,rfl⟩
def Xw o w:C_ 113 #[o,.slice none 0 0] w λe w'=>e=.returned (.bool true)/\w'=w:=by have a:=ZkO;go_enter Tryz.func113,Tryz.ntmps113;go_wp2;go_ret;exact⟨rfl,rfl⟩
def Om(w:World)(base:Nat)(o:Value)(a:Option Addr)(n c:Nat)(zs:List Int):Prop:=
 (a=none/\n=0/\c=0/\zs=[]/\o=.slice none 0 0)∨∃p g,a=some p/\o=L_ g n (n+8)/\base<=g/\g<w.heap.size/\zs.length=n/\(∀z∈zs,(Lit.int .i64 z).wf=true)/\w.rowIs g 3 (n+8) (Mb zs (n+8))
def Om.below{w d base o a n c f}(h:Om w base o a n c f)(e:Below w.heap.size w d):Om d base o a n c f:=by
 rcases h with h|⟨p,g,q,k,m,i,t,l,b,r,s,j⟩
 exact .inl h;exact .inr ⟨p,g,q,k,m,Qh i e.size,t,l,b,(e.block g i).trans r,s,j⟩
def Om.view{w b o a n c d}(h:Om w b o a n c d):∃a' c',o=.slice a' n c'/\Cq w a' n d:=by
 rcases h with⟨rfl,rfl,rfl,rfl,rfl⟩|⟨p,g,rfl,rfl,h3,h4,h5,h6,cur,h7,h8,h9⟩
 exact⟨none,0,rfl,rfl,s_,.inl rfl⟩;refine⟨_,_,rfl,h5,h6,.inr ⟨g,0,rfl,h4,λi hi=>?_⟩⟩;rw[Nat.zero_add,cell_of_row w g i cur 3 (0,0) h7,h9 i o_];unfold Mb
 grind
def su a n c d w (h:Cq w a n d)(g:a=none->n=0/\c=0)(j:n<=2097152):C_ 112 #[.slice a n c] w λe w'=>∃o,e=.returned o/\Om w' w.heap.size o a n c d/\Below w.heap.size w w':=by
 cases a with
 | none=>
  obtain⟨rfl,rfl⟩:=g rfl;refine(Zs w).mono ?_;rintro e w' ⟨rfl,rfl⟩;exact⟨_,rfl,.inl ⟨rfl,rfl,rfl,List.eq_nil_of_length_eq_zero h.1,rfl⟩,bz_⟩
 | some p=>
  refine(Zr p n c _ w h j).mono ?_;rintro e w' ⟨rfl,b,f⟩;refine⟨_,rfl,.inr ⟨p,w.heap.size,rfl,rfl,qa_,?_,h.1,h.2.1,b⟩,f⟩;obtain⟨i,k,_⟩:=b
  grind
def kw a n c d i o w (h:Om w d o a n c i)(f:Cq w a n i)(k:∀b off,a=some ⟨b,off,none⟩->0<n->b<d)(j:n<=2097152):C_ 113 #[o,.slice a n c] w λe w'=>e=.returned (.bool true)/\w.grownBy w' o.ownBlock:=by
 rcases h with⟨rfl,rfl,rfl,rfl,rfl⟩|⟨p,g,rfl,rfl,h3,h4,h5,h6,h7⟩
 ·refine(Xw _ w).mono ?_
  grind [Bp]
 refine(Xv p n c g _ w f j h7 (λh0 e=>?_)).mono ?_
 ·rcases f.2.2 with h|⟨b,off,m,_,_⟩
  omega
  grind
 rintro e w' ⟨rfl,l⟩;exact⟨rfl,l⟩
def Om.own{w b o a n c e}(h:Om w b o a n c e){k}(d:o.ownBlock=some k):b<=k/\k<w.heap.size/\∃cur,w.heap[k]? =some (.cells cur 3 (0,0)):=by
 rcases h with⟨rfl,rfl,rfl,rfl,rfl⟩|⟨p,g,rfl,rfl,h3,h4,h5,h6,cur,h7,h8⟩
 ·cases d
 simp[Value.ownBlock] at d
 grind
def Cq.touch{S w w' a n e}(h:Cq w a n e)(t:Aa S w w')(k:∀b off,a=some ⟨b,off,none⟩->0<n->¬S b):Cq w' a n e:=by
 obtain⟨g,f,c⟩:=h;refine⟨g,f,?_⟩
 rcases c with c|⟨b,off,rfl,d,j⟩
 exact .inl c
 by_cases h0:n=0
 exact .inl h0;refine .inr ⟨b,off,rfl,Qh d t.size,λi hi=>?_⟩;rw[cb_ (w:=w) (a:=(A_ b (off+i))) (t.block b d (k b off rfl o_))];exact j i hi
def Yf(U:List Int)(L:List Ct):Prop:=Bo L/\∀e∈L,e.v∈U
def Yf.len{U L}(h:Yf U L):L.length<=U.length:=h.1.len h.2
def Yh(U:List Int)(g:Nat)(c:Array Value)(nx:Int)(w:World)(e:Ending)(w':World):Prop:=
 e=.returned (.bool true)/\∃c' Ls' nx',Gv w' g c' Ls' nx'/\(∀L∈Ls',Yf U L)/\nx'<=nx+1/\(∀j,j≠0->j≠4->j≠5->j≠12->c'[j]? =c[j]?)/\Below g w w'/\Pp w w'
def Om.touch{S w w' b o a n c f}(h:Om w b o a n c f)(t:Aa S w w')(v:∀k,o.ownBlock=some k->¬S k):Om w' b o a n c f:=by
 rcases h with h|⟨p,g,m,e,l,s,u,j,d,q,r,i⟩
 exact .inl h;exact .inr ⟨p,g,m,e,l,Qh s t.size,u,j,d,t.at_ q (v g (by rw[e];rfl)),r,i⟩
def Qm{w w' row}(h:w.grownBy w' row):Aa (λk=>some k=row) w w':=⟨h.os,h.tape,h.output,h.size,λk hk hn=>h.block k hk hn⟩
def Eo{w w' a n zs}(h:Cq w a n zs){B}(hb:Below B w w')(hB:∀b off,a=some ⟨b,off,none⟩->0<n->b<B):Cq w' a n zs:=
 h.touch (S:=λk=>B<=k) ⟨hb.os,hb.tape,hb.output,hb.size,λk _ hn=>hb.block k o_⟩ (λb off e h0 hS=>w_)
def Rr{w a n zs}(h:Cq w a n zs):∀b off,a=some ⟨b,off,none⟩->0<n->b<w.heap.size:=λb off e h0=>by
 rcases h.2.2 with h|⟨b',off',e',hb,_⟩
 omega
 grind
def Zf5{c f M}(h:Ed (Ar c f) M){U:List Int}(j:∀z∈c,Ga z∈U):∀e∈Bv 0 M,e.v∈U:=by
 intro e d
 obtain⟨_,_,_,p,a,i,_⟩:=jt (λp a=>by
  rw[h.wt p a];obtain⟨q,b,e⟩:=h.sub p a;rw[<- e]
  exact ZiX (λr hr=>(Ig hr).1.1) q b) e d
 obtain⟨q,b,k⟩:=h.sub p a;obtain⟨_,_,z,l,g⟩:=Ig b
 grind
def ZdL g c Ls S U Q J N O P d f a D A G C r wc R x y vz wz w (hS:Gv w g c Ls S)(hG:∀L∈Ls,Yf U L)(hn:S<=9000000)(hU:U.length<=2097152)(hV:Cq w D A vz)(hW:Cq w C r wz)(nV:D=none->A=0/\G=0)(nW:C=none->r=0/\wc=0)(lV:A<=2097152)(lW:r<=2097152)(hZ:∀z∈vz,Ga z∈U):C_ 70 #[.pointer (some ⟨g,0,none⟩),.agg #[.int .i64 2,.int .i64 Q,.int .i64 J,.slice N O P,.int .i64 d,.int .i64 f,.int .i64 a,.slice D A G,.slice C r wc,.string R,.int .i64 x,.int .i64 y]] w λe w'=>Yh U g c S w e w':=by
 have HS:=x2_ hS hG;have HV:=x1_ hV;have HW:=x1_ hW;have aG:=x1_ nV;have aP:=x1_ nW;have HZ:=x1_ hZ;have aW:=hS.lt;have B:=x1_ (Rr hV);have F:=x1_ (Rr hW);have a7:Hid (Below _ w (w.alloc (.cells #[I_ 2,I_ Q,I_ J,.slice N O P,I_ d,I_ f,I_ a,.slice D A G,.slice C r wc,.string R,I_ x,I_ y] 93))):=bA_;have e7:(w.alloc (.cells #[I_ 2,I_ Q,I_ J,.slice N O P,I_ d,I_ f,I_ a,.slice D A G,.slice C r wc,.string R,I_ x,I_ y] 93)).cell? (A_ w.heap.size 7)=some (.slice D A G):=s_;have e8:(w.alloc (.cells #[I_ 2,I_ Q,I_ J,.slice N O P,I_ d,I_ f,I_ a,.slice D A G,.slice C r wc,.string R,I_ x,I_ y] 93)).cell? (A_ w.heap.size 8)=some (.slice C r wc):=s_
 have aV:(w.alloc (.cells #[I_ 2,I_ Q,I_ J,.slice N O P,I_ d,I_ f,I_ a,.slice D A G,.slice C r wc,.string R,I_ x,I_ y] 93)).heap.size=w.heap.size+1:=s_;go_enter Tryz.func70,Tryz.ntmps70;go_wp2_with fail
 generalize w.alloc (.cells #[I_ 2,I_ Q,I_ J,.slice N O P,I_ d,I_ f,I_ a,.slice D A G,.slice C r wc,.string R,I_ x,I_ y] 93)=wb at *;refine(su _ _ _ _ _ (Eo HV a7 B) aG lV).mono ?_;rintro e w1 ⟨o1,rfl,Y,t⟩;obtain⟨a1,c1,rfl,_⟩:=Y.view;have E:=x1_ Y;have aU:=x1_ t;have a5:=x1_ (a7.trans (t.mono o_));have f7:=(t.cell (p:=(A_ w.heap.size 7)) t_).trans e7;have f8:=(t.cell (p:=(A_ w.heap.size 8)) t_).trans e8;have b5:w.heap.size+1<=w1.heap.size:=(by have:=t.size;omega);go_wp2_with fail
 refine(su _ _ _ _ _ (Eo HW a5 F) aP lW).mono ?_;rintro e w2 ⟨o2,rfl,aB,m⟩;obtain⟨a2,c2,rfl,aL⟩:=aB.view;obtain⟨_,_,e1,aM⟩:=(E.below m).view;simp only[Value.slice.injEq] at e1;obtain⟨rfl,_,rfl⟩:=e1;have aN:=x1_ aM;have aI:=x1_ aL;have a3:=x1_ (E.below m);have I:=x1_ aB;have aK:=x1_ (a5.trans (m.mono o_));have g7:=(m.cell (p:=(A_ w.heap.size 7)) t_).trans f7;have g8:=(m.cell (p:=(A_ w.heap.size 8)) t_).trans f8;have aX:=m.size;go_wp2_with fail
 refine(ZbZ _ _ _ _ _ _ _ _ _ aN aI lV lW).mono ?_;rintro e w3 ⟨v,M,rfl,hM,ho,l⟩;have HM:=x1_ hM;have aA:=x1_ ho;have W:=x1_ (a3.below l);have a4:=x1_ (I.below l);have aC:=x1_ (aK.trans (l.mono o_));have h7:=(l.cell (p:=(A_ w.heap.size 7)) t_).trans g7;have h8:=(l.cell (p:=(A_ w.heap.size 8)) t_).trans g8;have aZ:=l.size;have q:Hid (∀k,_->_/\k<_):=λk i=>⟨(E.own i).1,(E.own i).2.1⟩;have s:Hid (∀k,_->_/\k<_):=λk i=>⟨(I.own i).1,(I.own i).2.1⟩;go_wp2_with fail
 refine(kw _ _ _ _ _ _ _ W (Eo HV aC B) (λb off e h0=>by have:=B b off e h0;omega) lV).mono ?_;rintro e w4 ⟨rfl,n⟩;have V:=x1_ (aC.grown n o_ (λk i=>by have:=q k i;omega));have k8:=n.cell h8 (λe=>by have:=q _ e.symm;grind);have k7:=n.cell h7 (λe=>by have:=q _ e.symm;grind);have a8:=x1_ (a4.touch (Qm n) (λk i e=>by have h1:=q k e.symm;have h2:=s k i;omega));have a6:Hid (Aj w4 w2.heap.size v (Bv 0 M)):=(Qm n).row aA (λk i e=>by have h1:=q k e.symm;have h2:=(rl_ aA k i).1;omega);have b3:=n.size;go_wp2_with fail
 refine(kw _ _ _ _ _ _ _ a8 (Eo HW V F) (λb off e h0=>by have:=F b off e h0;omega) lW).mono ?_;rintro e w5 ⟨rfl,o⟩;have H:=x1_ (V.grown o o_ (λk i=>by have:=s k i;omega));have m8:=o.cell k8 (λe=>by have:=s _ e.symm;grind);have m7:=o.cell k7 (λe=>by have:=s _ e.symm;grind);have aD:Hid (Aj w5 w2.heap.size v (Bv 0 M)):=(Qm o).row a6 (λk i e=>by have h1:=s k e.symm;have h2:=(rl_ a6 k i).1;omega);have aT:=o.size;go_wp2_with fail
 refine(Qx _ _ _ G r wc vz wz _ (Eo HV H B) (Eo HW H F) lV lW).mono ?_;rintro e w6 ⟨u,M',rfl,aJ,Z,X⟩;obtain rfl:M'=M:=aJ.unique HM;have aH:Hid (Aj _ w.heap.size v _):=Nm (aD.below X) o_;have aF:Hid (Aj _ w.heap.size u _):=Nm Z o_
 have aR:Hid (Ch v u):=by
  by_cases hv:v.ownBlock=none
  exact .inl hv;right;right;intro e;obtain⟨k,i⟩:=Option.ne_none_iff_exists'.1 hv;have h1:=(rl_ aD k i).2;have h2:=(rl_ Z k (e.symm.trans i)).1;omega
 have a9:=x1_ (H.trans (X.mono o_));have a0:Hid (Yf U (Bv 0 M')):=⟨HM.good (by rw[HV.1];exact lV),Zf5 HM HZ⟩;have T:(Bv 0 M').length<=4194304:=(by have:=a0.len;omega);go_wp2_with fail
 refine(ZdM g c Ls S v u _ w w6 HS.1 a9 aH aF aR T o_).mono ?_;rintro e w7 ⟨rfl,c',aS,aO,aE,aY,aQ⟩
 have HF:Hid (∃c' Ls' nx',Gv w7 g c' Ls' nx'/\(∀L∈Ls',Yf U L)/\nx'<=S+1/\(∀j,j≠0->j≠4->j≠5->j≠12->c'[j]? =c[j]?)/\Below g w w7/\Pp w w7):=
  ⟨c',_,S+1,aS,λL hL=>by rcases List.mem_append.1 hL with h|h;exact HS.2 L h;simp at h;rw[h];exact a0,Int.le_refl _,aO,(a9.mono o_).trans aE,aQ⟩
 go_wp2;go_ret;exact⟨rfl,HF⟩
def Yh.of_below{U g c nx w w' Ls}(hS:Gv w g c Ls nx)(hG:∀L∈Ls,Yf U L)(hb:Below w.heap.size w w'):Yh U g c nx w (.returned (.bool true)) w':=
 ⟨rfl,c,Ls,nx,hS.below hb,hG,o_,λ_ _ _ _ _=>rfl,hb.mono (Nat.le_of_lt hS.lt),Pp.of_below hb⟩
def Yh.back{U g c j w d f e}(i:Below w.heap.size w d)(s:g<w.heap.size)(h:Yh U g c j d e f):Yh U g c j w e f:=by obtain⟨o,k,a,b,l,n,q,r,m,p⟩:=h;exact⟨o,k,a,b,l,n,q,r,(i.mono o_).trans m,(Pp.of_below i).trans p⟩
def et(W:World) o n (h:W.heap.size=n):(W.alloc o).heap[n]? =some o:=by subst h;exact ha_ W o
def Gn(b:Nat):OpD:={kd:=2,pk:=0,bb:=0,fa:=none,fl:=0,fc:=0,bins:=0,size:=0,budget:=0,va:=some ⟨b,0,none⟩,vl:=3,vc:=3,wa:=some ⟨b+1,0,none⟩,wl:=3,wc:=3,st:=⟨#[]⟩,x:=0,y:=0,fw:=λ_=>false,fs:=λ_=>0,ft:=λ_=>0,vz:=[5,3,5],wz:=[1,2,4]}
def qe{w b}(G:Zkz w b):OpR b (Gn w.heap.size):=by
 have c:=G.size;refine⟨by simp[Gn],by simp[Gn,maxLen],by simp[Gn,maxLen],?_,?_,?_,λh=>by simp[Gn] at h,λh=>by simp[Gn] at h⟩;exact .inl rfl
 ·refine⟨rfl,(by intro z a;simp[Gn] at a;rcases a with rfl|rfl|rfl<;>decide),.inr ⟨w.heap.size,0,rfl,o_,λi hi=>?_⟩⟩;have h:i=0∨i=1∨i=2:=by simp[Gn] at hi;omega
  rcases h with rfl|rfl|rfl
  exact G.v0;exact G.v1;exact G.v2
 refine⟨rfl,(by intro z a;simp[Gn] at a;rcases a with rfl|rfl|rfl<;>decide),.inr ⟨w.heap.size+1,0,rfl,o_,λi hi=>?_⟩⟩;have h:i=0∨i=1∨i=2:=by simp[Gn] at hi;omega
 rcases h with rfl|rfl|rfl
 exact G.u0;exact G.u1;exact G.u2
def OpR.below{w w' d}(h:OpR w d)(hb:Below w.heap.size w w'):OpR w' d:=
 ⟨h.fl,h.vl,h.wl,h.feats.below hb,Eo h.vz hb (Rr h.vz),Eo h.wz hb (Rr h.wz),h.vnil,h.wnil⟩
def Zgl(w:World):Gv (w.alloc (.cells #[.slice none 0 0,.slice none 0 0,.slice none 0 0,.slice none 0 0,.slice none 0 0,.slice none 0 0,.slice none 0 0,.slice none 0 0,.slice none 0 0,.slice none 0 0,.slice none 0 0,.slice none 0 0,I_ 0] 90)) w.heap.size #[.slice none 0 0,.slice none 0 0,.slice none 0 0,.slice none 0 0,.slice none 0 0,.slice none 0 0,.slice none 0 0,.slice none 0 0,.slice none 0 0,.slice none 0 0,.slice none 0 0,.slice none 0 0,I_ 0] [] 0:=by refine⟨.slice _ 0 0,.slice _ 0 0,.slice _ 0 0,[],[],[],ha_ w _,rfl,rfl,rfl,rfl,rfl,rn_,rn_,Ag.nil _ _,.inl rfl,rfl,rfl,s_,s_,λi hi=>by simp at hi,λi hi=>by simp at hi⟩
def Ye(w:World)(g N:Nat)(f:Nat->Bool×Int×Int):Prop:=∃cur:Array Value,w.heap[g]? =some (.cells cur 51 (0,0))/\cur.size=N*3/\∀i,i<N->cur[i*3]? =some (.bool (f i).1)/\cur[i*3+1]? =some (I_ (f i).2.1)/\cur[i*3+2]? =some (I_ (f i).2.2)
section
variable {w w':World} {g N:Nat} {f:Nat->Bool×Int×Int}
def Ye.lt(h:Ye w g N f):g<w.heap.size:=by
 obtain⟨a,b,_⟩:=h
 grind
def Ye.cells(h:Ye w g N f){i}(e:i<N):w.cell? (A_ g (i*3))=some (.bool (f i).1)/\w.cell? (A_ g (i*3+1))=some (I_ (f i).2.1)/\w.cell? (A_ g (i*3+2))=some (I_ (f i).2.2)/\∀o,w.frozen? (A_ g o)=false:=by
 obtain⟨a,d,b,c⟩:=h
 grind [cell_of_row,fr_]
def Ye.put(h:Ye w g N f){k}(n:k<N) a b c:Ye (((w.setCell (A_ g (k*3)) (.bool a)).setCell (A_ g (k*3+1)) (I_ b)).setCell (A_ g (k*3+2)) (I_ c)) g N (λi=>if i=k then(a,b,c) else f i):=by
 obtain⟨l,j,m,d⟩:=h;refine⟨_,hs_ _ g _ _ _ _ (hs_ _ g _ _ _ _ (hs_ _ g _ _ _ _ j)),by simp[m],λi hi=>?_⟩
 by_cases e:i=k
 ·subst e;simp only[if_true];refine⟨?_,?_,?_⟩
  ·grind
  ·grind
  grind
 simp only[if_neg e];obtain⟨x,y,z⟩:=d i hi;refine⟨?_,?_,?_⟩;rw[Array.getElem?_setIfInBounds_ne o_,Array.getElem?_setIfInBounds_ne o_,Array.getElem?_setIfInBounds_ne o_];exact x;rw[Array.getElem?_setIfInBounds_ne o_,Array.getElem?_setIfInBounds_ne o_,Array.getElem?_setIfInBounds_ne o_];exact y;rw[Array.getElem?_setIfInBounds_ne o_,Array.getElem?_setIfInBounds_ne o_,Array.getElem?_setIfInBounds_ne o_];exact z
def Ye.touch{S}(h:Ye w g N f)(t:Aa S w w')(d:¬S g):Ye w' g N f:=by obtain⟨a,c,b⟩:=h;exact⟨a,t.at_ c d,b⟩
def Ye.below(h:Ye w g N f)(hb:Below w.heap.size w w'):Ye w' g N f:=h.touch (.of_below (S:=λ_=>False) hb) id
def Ye.congr{b}(h:Ye w g N f)(e:∀i,i<N->b i=f i):Ye w g N b:=by obtain⟨a,d,c,j⟩:=h;exact⟨a,d,c,λi hi=>w_⟩
def Ye.feats(h:Ye w g N f){n a c b}(j:n<=N)(d:n<=maxLen)(e:∀i,i<n->f i=(a i,c i,b i)):Dd w g 0 n a c b:=by
 refine⟨d,λ_=>h.lt,λi hi=>?_,λi hi=>?_,λi hi=>?_⟩
 ·have:=(h.cells (i:=i) o_).1
  grind
 ·have:=(h.cells (i:=i) o_).2.1
  grind
 have:=(h.cells (i:=i) o_).2.2.1
 grind
end
def Qt(n:Nat)(wd:Nat->Bool)(sc ct:Nat->Int)(m i:Nat):Bool×Int×Int:=if i<n then(wd i,sc i,ct i) else if i<n+m then(false,0,-7-i) else(false,0,0)
def ZfI n a c b m i:Qt n a c b (m+1) i=if i=n+m then(false,0,-7-((n+m:Nat):Int)) else Qt n a c b m i:=by grind [Qt]
def ZaQ(wd:Nat->Bool)(sc ct:Nat->Int)(j:Nat):Value:=if j%3=0 then .bool (wd (j/3)) else if j%3=1 then I_ (sc (j/3)) else I_ (ct (j/3))
def Xe p n c u t x w (h:Dd w p.block p.off n u t x)(hp:0<n->p=(A_ p.block p.off))(hl:n<=2097152):C_ 122 #[.slice (some p) n c] w λe w'=>e=.returned (.slice (some ⟨w.heap.size,0,none⟩) n (n+8))/\Ye w' w.heap.size (n+8) (Qt n u t x 8)/\Below w.heap.size w w':=by
 obtain⟨i0,r,a1,B,V⟩:=info_parts ZhQ;obtain⟨b,d,T⟩:=p
 have he:_:=λq=>by have:=hp q;injection this
 have h:Dd w b d n _ _ _:=h;clear hp;have a2:∀W:_,(binOp _ _ _ _).run _ W=.ok (.bool false) W:=λW=>Lib.run_eql_slice_nil W 35 _ (some ⟨b,d,T⟩) n c 0 0 Tryz.underlying35;have M:∀W:World,(Instr.makeSlice 35 (I_ (n+8)) (I_ (n+8))).run Tryz.prog W=.ok (L_ W.heap.size (n+8) (n+8)) (W.alloc (.cells (madeCells #[.bool false,I_ 0,I_ 0] ((n+8)*3)) 51)):=(by intro W;have:=run_make (P:=Tryz.prog) W 35 51 i0 _ Tryz.underlying35 r a1 .i64 .i64 ((n:Int)+8) ((n:Int)+8) o_ o_ (by rw[V];omega) o_;rw[B] at this;rw[this,show((n:Int)+8).toNat=n+8 by omega];rfl);obtain⟨a,f⟩:=ex_ (madeCells #[.bool false,I_ 0,I_ 0] ((n+8)*3))
 have N:∀i,i<n+8->a[i*3]? =some (.bool false)/\a[i*3+1]? =some (I_ 0)/\a[i*3+2]? =some (I_ 0):=λi z=>by rw[f];refine⟨?_,?_,?_⟩;simp[madeCells,show i*3<(n+8)*3 by omega,show i*3%3=0 by omega];simp[madeCells,show i*3+1<(n+8)*3 by omega,show(i*3+1)%3=1 by omega];simp[madeCells,show i*3+2<(n+8)*3 by omega,show(i*3+2)%3=2 by omega]
 have a0:a.size=(n+8)*3:=(by rw[f];exact size_madeCells _ _);rw[<- f] at M
 obtain⟨O,Y,D,I⟩:∃O:World,(Builtin.copy_ #[35,35] 3 #[L_ w.heap.size (n+8) (n+8),.slice (some ⟨b,d,T⟩) n c]).run Tryz.prog (w.alloc (.cells a 51))=.ok (I_ n) O/\Hid (Ye O w.heap.size (n+8) (Qt n u t x 0))/\E_ w O:=by
  have L:Below _ w (w.alloc (.cells a 51)):=bA_;have s:(w.alloc (.cells a 51)).heap[_]? =_:=ha_ w _;have o:Nat.min n (n+8)=n:=Nat.min_eq_left o_;obtain⟨l,H⟩:=ex_ ((List.range (n*3)).map (ZaQ u t x));have J:l.length=n*3:=by rw[H];simp
  have g:∀j,j<n*3->l[j]? =some (ZaQ u t x j):=λj hj=>w_
  have A:∀j v,l[j]? =some v->(w.alloc (.cells a 51)).cell? ((⟨b,d,T⟩:Addr).add j)=some v:=λj v hj=>by
   have Z:j<n*3:=w_;rw[he o_];rw[g j Z] at hj;injection hj with hj;subst hj;have F:((A_ b d):Addr).add j=(A_ b (d+j)):=(by unfold Addr.add;split<;>simp_all);have z:j/3<n:=o_;have X:=h.lt o_;rw[F,L.cell (p:=(A_ b (d+j))) X];unfold ZaQ
   rcases(show j%3=0∨j%3=1∨j%3=2 by omega) with e|e|e
   rw[if_pos e,show d+j=d+j/3*3 by omega];exact h.c0 _ z;rw[if_neg o_,if_pos e,show d+j=d+j/3*3+1 by omega];exact h.c1 _ z;rw[if_neg o_,if_neg o_,show d+j=d+j/3*3+2 by omega];exact h.c2 _ z
  have G:∀v∈l,v.oneCell'=true:=λv hv=>by rw[H] at hv;obtain⟨j,_,rfl⟩:=List.mem_map.1 hv;unfold ZaQ;split;rfl;split<;>rfl
  have hr:=qm (P:=Tryz.prog) _ 35 35 3 _ _ _ _ (n+8) _ n c _ _ _ Tryz.underlying35 r s (by rw[o,B,J]) A o_ G;rw[o] at hr;refine⟨_,hr,?_,below_setRow L qa_ _⟩;have hh:=setRow_heap _ _ _ (a.toList.take 0++l++a.toList.drop (0+l.length)).toArray _ _ s;refine⟨_,hh,w_,λi z=>?_⟩
  have y:∀j,(a.toList.take 0++l++a.toList.drop (0+l.length)).toArray[j]? =if j<n*3 then l[j]? else a[j]?:=λj=>by
   simp only[List.take_zero,List.nil_append,Nat.zero_add,List.getElem?_toArray]
   by_cases hj:j<n*3
   ·grind
   grind
  rw[y,y,y];unfold Qt
  by_cases hin:i<n
  rw[if_pos (show i*3<n*3 by omega),if_pos (show i*3+1<n*3 by omega),if_pos (show i*3+2<n*3 by omega),if_pos hin,g _ o_,g _ o_,g _ o_];unfold ZaQ;refine⟨?_,?_,?_⟩;rw[if_pos o_,show i*3/3=i by omega];rw[if_neg o_,if_pos o_,show(i*3+1)/3=i by omega];rw[if_neg o_,if_neg o_,show(i*3+2)/3=i by omega];rw[if_neg (show ¬i*3<n*3 by omega),if_neg (show ¬i*3+1<n*3 by omega),if_neg (show ¬i*3+2<n*3 by omega),if_neg hin,if_neg (show ¬i<n+0 by omega)];exact N i z
 clear N a0 h f he;go_enter Tryz.func122,Tryz.ntmps122;go_upto_region 6 with fail;go_loopw [4] (λti wr=>∃m:Nat,m<=8/\ti=.int .i64 ((n+m:Nat):Int)/\Hid (Ye wr w.heap.size (n+8) (Qt n u t x m))/\Hid (E_ w wr)) (λti _=>n+8-(intOf ti).toNat)
 case atStart=>exact⟨0,o_,s_,D,I⟩
 case round=>
  clear D I Y M;obtain⟨m,hm,rfl,E,S⟩:=hrel;have a4:=E.lt
  by_cases hm8:m<8
  ·obtain⟨k,Q⟩:=ey_ (n+m);have HP:Hid (Ye (((wr.setCell (A_ w.heap.size (k*3)) (.bool false)).setCell (A_ w.heap.size (k*3+1)) (I_ 0)).setCell (A_ w.heap.size (k*3+2)) (I_ (-7-k))) w.heap.size (n+8) (Qt n u t x (m+1))):=by refine(E.put (k:=k) o_ _ 0 _).congr (λi _=>?_);rw[ZfI,Q]
   have R:Hid (Below _ w (((wr.setCell (A_ w.heap.size (k*3)) (.bool false)).setCell (A_ w.heap.size (k*3+1)) (I_ 0)).setCell (A_ w.heap.size (k*3+2)) (I_ (-7-(k:Int))))):=((S.setCell qa_ _).setCell qa_ _).setCell qa_ _;obtain⟨c0,c1,c2,cf⟩:=E.cells (i:=k) o_;have a6:0<=(k:Int):=o_;have a5:k<(n:Int)+8:=o_;have C:=x1_ Q;rw[Q];have a3:k<=3000000:=o_;clear Q E S;go_wp2;go_roundw;case rel=>exact⟨m+1,o_,by rw[<- Nat.add_assoc,C];go_num,HP,R⟩
   case measure=>have:=C.out;simp[intOf];omega
  have U:m=8:=o_;subst U;have a7:¬(n+8:Nat)<(n:Int)+8:=o_;go_wp2;go_ret;exact⟨rfl,E,S⟩
def stF(n:Nat)(wd:Nat->Bool)(sc ct:Nat->Int)(k i:Nat):Bool×Int×Int:=if i<k then(false,0,-9) else Qt n wd sc ct 8 i
def ZiL n a c b k i:stF n a c b (k+1) i=if i=k then(false,0,-9) else stF n a c b k i:=by grind [stF]
def Wa p n c g l f m w (h:Dd w p.block p.off n l f m)(O:0<n->p=(A_ p.block p.off))(V:n<=2097152)(Q:Ye w g (n+8) (Qt n l f m 8))(B:0<n->p.block≠g):C_ 124 #[.slice (some ⟨g,0,none⟩) n (n+8),.slice (some p) n c] w λe w'=>e=.returned (.bool true)/\Aa (λk=>k=g) w w':=by
 obtain⟨b,d,I⟩:=p
 have M:Hid _:=λq=>by have:=O q;injection this
 have y:Hid (Dd w b d n _ _ _):=h;have D:Hid (_->b≠g):=B;have A:Hid (Ye w g _ (stF n _ _ _ 0)):=Q.congr (λi _=>by unfold stF;rw[if_neg o_]);have G:∀W:_,(binOp _ _ _ _).run _ W=.ok (.bool false) W:=λW=>Lib.run_eql_slice_nil W 35 _ (some ⟨b,d,I⟩) n c 0 0 Tryz.underlying35;go_enter Tryz.func124,Tryz.ntmps124;go_upto_region 6 with fail;go_loopw [6,7] (λtok ti wr=>∃k:Nat,k<=n+8/\tok=.bool true/\ti=.int .i64 k/\Hid (Ye wr g (n+8) (stF n l f m k))/\Hid (Aa (λk=>k=g) w wr)) (λ_ ti _=>n+8-(intOf ti).toNat)
 case atStart=>exact⟨0,qg_,rfl,rfl,A,Aa.refl _ _⟩
 case round=>
  obtain⟨k,J,rfl,rfl,H,u⟩:=hrel
  by_cases hk:k<n+8
  ·have N:0<=(k:Int):=o_;have L:k<(n:Int)+8:=o_;obtain⟨s,v,t,T⟩:=H.cells (i:=k) hk;have C:stF n l f m k k=Qt n l f m 8 k:=(by unfold stF;grind);rw[C] at s v t
   have x:Hid (∀j,_/\Aa _ w ((((wr.drewN j).setCell _ (.bool false)).setCell _ (I_ 0)).setCell _ (I_ (-9)))):=λj=>
    ⟨((H.below (below_drewN bz_ j)).put hk _ 0 _).congr (λi _=>ZiL n l f m k i),(((u.below (below_drewN bz_ j)).setCell (p:=(A_ g (k*3))) (λ_=>rfl) _).setCell (p:=(A_ g (k*3+1))) (λ_=>rfl) _).setCell (p:=(A_ g (k*3+2))) (λ_=>rfl) _⟩
   by_cases hkn:k<n
   ·have E:k<(n:Int):=o_;have z:Qt n l f m 8 k=(l k,f k,m k):=(by unfold Qt;rw[if_pos hkn]);rw[z] at s v t;simp only at s v t;have o:=y.lt o_;have r:=D o_;have F:=M o_;subst F;have U:=(cb_ (w:=w) (a:=(A_ b (d+k*3))) (u.block b o r)).trans (y.c0 k hkn);have R:=(cb_ (w:=w) (a:=(A_ b (d+k*3+1))) (u.block b o r)).trans (y.c1 k hkn);have S:=(cb_ (w:=w) (a:=(A_ b (d+k*3+2))) (u.block b o r)).trans (y.c2 k hkn);generalize l k=xw,f k=xs,m k=xc at *;go_upto_region 9 with fail;go_quiet (fail);refine rd_ ?_;exact⟨k+1,o_,s_,g_,(x _).1,(x _).2⟩
   have E:¬k<(n:Int):=o_;have z:Qt n l f m 8 k=(false,0,-7-(k:Int)):=(by unfold Qt;grind);rw[z] at s v t;simp only at s v t;refine rd_ ?_;exact⟨k+1,o_,s_,g_,(x 0).1,(x 0).2⟩
  have P:¬k<(n:Int)+8:=o_;go_wp2;go_ret;exact⟨rfl,u⟩
section
variable {w w':World} {base n c:Nat} {a:Option Addr} {o:Value} {wd:Nat->Bool} {sc ct:Nat->Int}
def Kw(w:World)(base:Nat)(o:Value)(a:Option Addr)(n:Nat)(wd:Nat->Bool)(sc ct:Nat->Int):Prop:=
 (a=none/\n=0/\o=.slice none 0 0)∨∃p g,a=some p/\o=L_ g n (n+8)/\base<=g/\g<w.heap.size/\Ye w g (n+8) (Qt n wd sc ct 8)
def Kw.touch{S}(h:Kw w base o a n wd sc ct)(t:Aa S w w')(i:∀k,base<=k->¬S k):Kw w' base o a n wd sc ct:=by
 rcases h with h|⟨p,g,d,c,b,e,f⟩
 exact .inl h;exact .inr ⟨p,g,d,c,b,Qh e t.size,f.touch t (i g b)⟩
def Kw.own(h:Kw w base o a n wd sc ct){k}(b:o.ownBlock=some k):base<=k/\k<w.heap.size:=by
 rcases h with⟨_,_,rfl⟩|⟨p,g,_,rfl,h3,h4,_⟩
 ·cases b
 have:some g=some k:=b
 grind
def Kw.below(h:Kw w base o a n wd sc ct)(b:Below w.heap.size w w'):Kw w' base o a n wd sc ct:=by
 rcases h with h|⟨p,g,e,c,d,f,i⟩
 exact .inl h;exact .inr ⟨p,g,e,c,d,Qh f b.size,i.below b⟩
def Kw.shape(h:Kw w base o a n wd sc ct):∃a' c',o=.slice a' n c':=by
 rcases h with⟨_,rfl,rfl⟩|⟨p,g,_,rfl,_⟩
 ·grind
 grind
def Kw.view{b c}(h:Kw w base (.slice b n c) a n wd sc ct)(d:n<=2097152):Ej w b n wd sc ct:=by
 rcases h with⟨_,h0,_⟩|⟨p,g,_,h2,_,_,h5⟩
 exact .inl h0;injection h2 with h2;exact .inr ⟨g,0,h2,h5.feats o_ m_ (λi hi=>by unfold Qt;rw[if_pos hi])⟩
def Xf n c w:C_ 122 #[.slice none n c] w λe w'=>e=.returned (.slice none 0 0)/\w'=w:=by have a:∀W:_,(binOp _ _ _ _).run _ W=.ok (.bool true) W:=λW=>Lib.run_eql_slice_nil W 35 _ none n c 0 0 Tryz.underlying35;go_enter Tryz.func122,Tryz.ntmps122;go_wp2;go_ret;exact⟨rfl,rfl⟩
def Wb o n c w:C_ 124 #[o,.slice none n c] w λe w'=>e=.returned (.bool true)/\w'=w:=by have a:∀W:_,(binOp _ _ _ _).run _ W=.ok (.bool true) W:=λW=>Lib.run_eql_slice_nil W 35 _ none n c 0 0 Tryz.underlying35;go_enter Tryz.func124,Tryz.ntmps124;go_wp2;go_ret;exact⟨rfl,rfl⟩
def Ej.at{p}(h:Ej w (some p) n wd sc ct)(c:n<=2097152):Dd w p.block p.off n wd sc ct/\(0<n->p=(A_ p.block p.off)):=by
 rcases h with rfl|⟨b,a,e,d⟩
 exact⟨⟨o_,λh=>o_,λi hi=>o_,λi hi=>o_,λi hi=>o_⟩,λh=>o_⟩
 grind
def sr a n c d i f w (h:Ej w a n d i f)(g:n<=2097152):C_ 122 #[.slice a n c] w λe w'=>∃o,e=.returned o/\Kw w' w.heap.size o a n d i f/\Below w.heap.size w w':=by
 cases a with
 | none=>
  refine(Xf n c w).mono ?_;rintro e w' ⟨rfl,rfl⟩;refine⟨_,rfl,.inl ⟨rfl,?_,rfl⟩,bz_⟩
  rcases h with h|⟨_,_,e,_⟩
  exact h
  cases e
 | some p=>
  obtain⟨k,j⟩:=h.at g;refine(Xe p n c _ _ _ w k j g).mono ?_;rintro e w' ⟨rfl,b,l⟩;exact⟨_,rfl,.inr ⟨p,w.heap.size,rfl,rfl,qa_,b.lt,b⟩,l⟩
def kv a n c b f d i o w (h:Kw w b o a n f d i)(l:Ej w a n f d i)(m:∀p,a=some p->0<n->p.block<b)(j:n<=2097152):C_ 124 #[o,.slice a n c] w λe w'=>e=.returned (.bool true)/\Aa (λk=>o.ownBlock=some k) w w':=by
 rcases h with⟨rfl,rfl,rfl⟩|⟨p,g,rfl,rfl,h3,h4,h5⟩
 ·refine(Wb _ _ c w).mono ?_
  grind [Aa.refl]
 obtain⟨r,q⟩:=l.at j;refine(Wa p n c g _ _ _ w r q j h5 (λh0=>w_)).mono ?_;rintro e w' ⟨rfl,s⟩;exact⟨rfl,s.mono (λk _ e=>by subst e;rfl)⟩
end
end Go.Proofs.YtfcgnpchbcmdeaaGreat
