import Derived.Test.YtfcgnpchbcmdeaaGreatZrar
import Derived.Laws.CopyOwn
import Derived.Test.YtfcgnpchbcmdeaaGreatZrat
namespace Go.Proofs.YtfcgnpchbcmdeaaGreat
set_option linter.all false
set_option maxRecDepth 100000
set_option maxHeartbeats 4000000
open Go.RowKit
def Ma(zs:List Int)(k i:Nat):Value:=if i<zs.length then I_ (zs.getD i 0) else if i<k then I_ (-7-i) else I_ 0
def Zbd{f:World}{b n d c X}(a:c=List.replicate (n+8) (I_ 0))(g:X=d.map (Value.int .i64))(e:d.length=n)(h:f.heap[b]? =some (.cells (splice c 0 X).toArray 3 (0,0))):f.rowIs b 3 (n+8) (Ma d n):=by
 refine⟨_,h,?_,λi hi=>?_⟩;simp[splice,a,g,e];subst a g e;have e:(List.map (Value.int .i64) d).length=d.length:=s_;unfold Ma splice
 grind
def Zs p n c q w (h:Cq w (some p) n q)(hn:n<=2097152):C_ 112 #[.slice (some p) n c] w λe w'=>e=.returned (.slice (some ⟨w.heap.size,0,none⟩) n (n+8))/\w'.rowIs w.heap.size 3 (n+8) (Ma q (n+8))/\Below w.heap.size w w':=by
 obtain⟨j0,M,a1,Z,a6⟩:=info_parts Ss;have C:=x1_ h;clear h;have N:∀W:_,(binOp _ _ _ _).run _ W=.ok (.bool false) W:=λW=>Lib.run_eql_slice_nil W 25 3 (some p) n c 0 0 Tryz.underlying25;obtain⟨a,d⟩:∃a:List Value,a=List.replicate (n+8) (I_ 0):=⟨_,rfl⟩;obtain⟨X,H⟩:∃X:List Value,X=q.map (Value.int .i64):=⟨_,rfl⟩;have Y:∀W:World,(Instr.makeSlice 25 (I_ (n+8)) (I_ (n+8))).run Tryz.prog W=.ok (L_ W.heap.size (n+8) (n+8)) (W.alloc (.cells a.toArray 3)):=by intro W;have:=run_make_row' (P:=Tryz.prog) 25 3 (I_ 0) 8 Tryz.underlying25 Ss rfl .i64 .i64 (n+8) o_ o_ W;rw[show((n+8:Nat):Int)=(n:Int)+8 by omega] at this;rw[this,d];congr 3;apply Array.ext;simp[madeCells];intro i h1 h2;simp[madeCells,Nat.mod_one]
 have s:=x1_ d;have E:=x1_ H;have a0:a.length=n+8:=(by rw[d];simp);have r:X.length=n:=(by rw[H];simp[C.out.1]);clear d H;have A:(Tryz.prog.info? 3).map (·.size)=some 1:=w_
 have f:Hid (∀W:World,E_ w W->0<X.length->∃L,some p=some L/\∀j v,X[j]? =some v->W.cell? (L.add j)=some v):=λW hb Q=>by
  refine⟨p,rfl,λj v hj=>?_⟩;obtain⟨h1,_,h2|⟨b,o,e,y,hc⟩⟩:=C.out;omega;simp at e;subst e;have t:((A_ b o):Addr).add j=(A_ b (o+j)):=(by unfold Addr.add;split<;>simp_all);have F:j<n:=w_;rw[t,hb.cell (p:=(A_ b (o+j))) y,hc j F,<- hj,E]
  grind
 obtain⟨D,a7,J,I⟩:∃D:World,(Builtin.copy_ #[25,25] 3 #[L_ w.heap.size (n+8) (n+8),.slice (some p) n c]).run Tryz.prog (w.alloc (.cells a.toArray 3))=.ok (I_ n) D/\Hid (D.rowIs w.heap.size 3 (n+8) (Ma q n))/\E_ w D:=by
  have x:Below _ w (w.alloc (.cells a.toArray 3)):=bA_;have g:(w.alloc (.cells a.toArray 3)).heap[_]? =_:=ha_ w _
  have B:∀j v,X[j]? =some v->(w.alloc (.cells a.toArray 3)).cell? (p.add j)=some v:=λj v hj=>by
   have Q:0<X.length:=w_;obtain⟨L,e,hh⟩:=f _ x Q
   grind
  have hr:=run_copy_row (P:=Tryz.prog) _ 25 25 3 3 _ 0 (n+8) (n+8) p n c _ 3 X Tryz.underlying25 A g w_ B t_ (by rw[E];intro v O;simp at O;obtain⟨_,_,rfl⟩:=O;rfl);refine⟨_,by rw[hr,r];rfl,?_,below_setRow x qa_ _⟩;refine Zbd s E C.1 ?_;have:=setRow_heap (w.alloc (.cells a.toArray 3)) w.heap.size a.toArray (a.toArray.toList.take 0++X++a.toArray.toList.drop (0+X.length)).toArray 3 (0,0) g;rw[r] at this;rw[this];simp[splice,r]
 have a3:=I.size;have R:=J.lt;clear f;go_enter Tryz.func112,Tryz.ntmps112;go_wp2_with fail
 go_loopw [4] (λti wr=>∃k:Nat,n<=k/\k<=n+8/\ti=.int .i64 k/\Hid (wr.rowIs w.heap.size 3 (n+8) (Ma q k))/\E_ w wr) (λti _=>n+8-(intOf ti).toNat)
 case atStart=>grind
 case round=>
  obtain⟨k,a5,T,rfl,z,l⟩:=hrel;have y:=z.lt
  by_cases hk:k<n+8
  ·have a4:0<=(k:Int):=o_;have U:k<(n:Int)+8:=o_;have m:=z.cell hk;have S:=z.frozen k
   have HN:Hid ((wr.setCell (A_ w.heap.size k) (I_ (-7-k))).rowIs w.heap.size 3 (n+8) (Ma q (k+1))):=(z.set k _).congr (λj _=>by
    have a2:=C.1
    grind [Ma])
   have V:Below _ w (wr.setCell (A_ w.heap.size k) (I_ (-7-(k:_)))):=l.setCell qa_ _;generalize Ma q k k=u at m;go_wp2
   grind [intOf]
  have G:k=n+8:=o_;subst G;go_wp2;go_ret;exact⟨rfl,z,l⟩
def Ok(zs:List Int)(k i:Nat):Value:=if i<k then I_ (-9) else Ma zs (zs.length+8) i
def Xw p n c g d w (h:Cq w (some p) n d)(I:n<=2097152)(D:w.rowIs g 3 (n+8) (Ma d (n+8)))(G:0<n->p.block≠g):C_ 113 #[.slice (some ⟨g,0,none⟩) n (n+8),.slice (some p) n c] w λe w'=>e=.returned (.bool true)/\w.grownBy w' (some g):=by
 have i:=x1_ h;have q:Hid (w.rowIs g 3 (n+8) (Ok d 0)):=(by have e:=h.1.symm;subst e;exact D);have v:∀W:_,(binOp _ _ _ _).run _ W=.ok (.bool false) W:=λW=>Lib.run_eql_slice_nil W 25 3 (some p) n c 0 0 Tryz.underlying25;go_enter Tryz.func113,Tryz.ntmps113;go_wp2_with fail
 go_loopw [6,7] (λtok ti wr=>∃k:Nat,k<=n+8/\tok=.bool true/\ti=.int .i64 k/\Hid (wr.rowIs g 3 (n+8) (Ok d k))/\Hid (w.grownBy wr (some g))) (λ_ ti _=>n+8-(intOf ti).toNat)
 case atStart=>exact⟨0,qg_,rfl,rfl,q,World.grownBy.refl _ _⟩
 case round=>
  obtain⟨k,A,rfl,rfl,f,l⟩:=hrel;have t:=f.lt
  by_cases hk:k<n+8
  ·have C:0<=(k:Int):=o_;have B:k<(n:Int)+8:=o_;have a:=f.cell hk;have z:=f.frozen k;have y:Hid (∀W:World,W.rowIs g 3 (n+8) (Ok d k)->(W.setCell (A_ g k) (I_ (-9))).rowIs g 3 (n+8) (Ok d (k+1))):=λW hW=>(hW.set k _).congr (λj _=>by grind [Ok])
   by_cases hkn:k<n
   ·have m:Ok d k k=I_ (d.getD k 0):=(by unfold Ok Ma;rw[if_neg o_,if_pos (by rw[i.1];exact hkn)]);rw[m] at a;obtain⟨J,_,H|⟨b,o,e,E,F⟩⟩:=i.out;omega;simp at e;subst e;have r:=l.cell (F k hkn) w_;have u:k<(n:Int):=o_;generalize d.getD k 0=x at a r;go_wp2_with fail
    go_big_quiet (fail);refine rd_ ?_;exact⟨k+1,o_,rfl,g_,y _ (f.of_block ((below_drewN bz_ _).block g t)),Bm (Hp l (Ly (below_drewN bz_ _))) _ _⟩
   have m:Ok d k k=I_ (-7-k):=(by unfold Ok Ma;rw[if_neg o_,if_neg (by rw[i.1];omega),if_pos (by rw[i.1];omega)]);rw[m] at a;have u:¬k<(n:Int):=o_;go_wp2_with fail
   go_roundw;case rel=>exact⟨k+1,o_,rfl,g_,y _ f,Bm l _ _⟩
   case measure=>exact z_
  have s:k=n+8:=o_;subst s;go_wp2;go_ret;exact⟨rfl,l⟩
def qp{P} w p u x e i g c k a b m d t f (s:P.underlying p=some (.slice e))(r:P.info? e=some i)(q:w.heap[g]? =some (.cells d t (0,0)))(y:f.length=Nat.min b c*i.size)(l:∀j v,f[j]? =some v->w.cell? (a.add j)=some v)(h:f.length<=d.size)(A:∀v∈f,v.oneCell'=true):(Builtin.copy_ #[p,u] x #[L_ g c k,.slice (some a) b m]).run P w=.ok (goInt (Nat.min b c)) (w.setRow g (d.toList.take 0++f++d.toList.drop (0+f.length)).toArray):=by have z:=run_loadCells_list (P:=P) w a _ l;have o:=run_storeCells_at P g 0 t _ 0 _ w q (by simpa using h) A;have n:=y.symm;simp[Builtin.copy_,run_underlying s,Builtin.lenOf,Builtin.firstCells,sizeOf,typeInfo,r,n,z,o]
def Zh6(n m:Nat):List Ct:=(List.range m).map λj=>⟨-7-(n+j:Nat),0,0,0⟩
def ZhY(L:List Ct)(m:Nat):List Ct:=(L++Zh6 L.length m)++List.replicate (8-m) e0
def ZlD L {m}(a:m<=8):(ZhY L m).length=L.length+8:=by simp[ZhY,Zh6];omega
def Zk8{w b a L}(h:Ip w b a L):∀j v,(flat L)[j]? =some v->w.cell? (((A_ b a):Addr).add j)=some v:=by
 intro j v g;have d:((A_ b a):Addr).add j=(A_ b (a+j)):=(by unfold Addr.add;split<;>simp_all);have i:j<L.length*4:=(by grind [Ef]);have c:j/4<L.length:=o_;have f:=ZaU L _ (j%4) c o_;rw[show j/4*4+j%4=j by omega,g] at f;rw[d]
 rcases(show j%4=0∨j%4=1∨j%4=2∨j%4=3 by omega) with e|e|e|e
 rw[show a+j=a+j/4*4 by omega,h.v _ c,f,e];rfl;rw[show a+j=a+j/4*4+1 by omega,h.lo _ c,f,e];rfl;rw[show a+j=a+j/4*4+2 by omega,h.hi _ c,f,e];rfl;rw[show a+j=a+j/4*4+3 by omega,h.wt _ c,f,e];rfl
def m9:Ct:=⟨-9,0,0,0⟩
def Zmu(L:List Ct)(k:Nat):List Ct:=List.replicate k m9++(ZhY L 8).drop k
def ZkQ W:(binOp .eql 25 (.slice none 0 0) (.slice none 0 0)).run Tryz.prog W=.ok (.bool true) W:=Lib.run_eql_slice_nil W 25 3 none 0 0 0 0 Tryz.underlying25
def Zt w:C_ 112 #[.slice none 0 0] w λe w'=>e=.returned (.slice none 0 0)/\w'=w:=by have a:=ZkQ;go_enter Tryz.func112,Tryz.ntmps112;go_wp2;go_ret;exact⟨rfl,rfl⟩
def Xx o w:C_ 113 #[o,.slice none 0 0] w λe w'=>e=.returned (.bool true)/\w'=w:=by have a:=ZkQ;go_enter Tryz.func113,Tryz.ntmps113;go_wp2;go_ret;exact⟨rfl,rfl⟩
def Om(w:World)(base:Nat)(o:Value)(a:Option Addr)(n c:Nat)(zs:List Int):Prop:=
 (a=none/\n=0/\c=0/\zs=[]/\o=.slice none 0 0)∨∃p g,a=some p/\o=L_ g n (n+8)/\base<=g/\g<w.heap.size/\zs.length=n/\(∀z∈zs,(Lit.int .i64 z).wf=true)/\w.rowIs g 3 (n+8) (Ma zs (n+8))
def Om.below{w d base o a n c f}(h:Om w base o a n c f)(e:Below w.heap.size w d):Om d base o a n c f:=by
 rcases h with h|⟨p,g,t,s,l,i,q,j,b,r,k,m⟩
 exact .inl h;exact .inr ⟨p,g,t,s,l,Qh i e.size,q,j,b,(e.block g i).trans r,k,m⟩
def Om.view{w b o a n c d}(h:Om w b o a n c d):∃a' c',o=.slice a' n c'/\Cq w a' n d:=by
 rcases h with⟨rfl,rfl,rfl,rfl,rfl⟩|⟨p,g,rfl,rfl,h3,h4,h5,h6,cur,h7,h8,h9⟩
 exact⟨none,0,rfl,rfl,s_,.inl rfl⟩;refine⟨_,_,rfl,h5,h6,.inr ⟨g,0,rfl,h4,λi hi=>?_⟩⟩;rw[Nat.zero_add,cell_of_row w g i cur 3 (0,0) h7,h9 i o_];unfold Ma
 grind
def sv a n c d w (h:Cq w a n d)(j:a=none->n=0/\c=0)(i:n<=2097152):C_ 112 #[.slice a n c] w λe w'=>∃o,e=.returned o/\Om w' w.heap.size o a n c d/\Below w.heap.size w w':=by
 cases a with
 | none=>
  obtain⟨rfl,rfl⟩:=j rfl;refine(Zt w).mono ?_;rintro e w' ⟨rfl,rfl⟩;exact⟨_,rfl,.inl ⟨rfl,rfl,rfl,List.eq_nil_of_length_eq_zero h.1,rfl⟩,bz_⟩
 | some p=>
  refine(Zs p n c _ w h i).mono ?_;rintro e w' ⟨rfl,b,f⟩;refine⟨_,rfl,.inr ⟨p,w.heap.size,rfl,rfl,qa_,?_,h.1,h.2.1,b⟩,f⟩;obtain⟨g,k,_⟩:=b
  grind
def kx a n c d i o w (h:Om w d o a n c i)(f:Cq w a n i)(k:∀b off,a=some ⟨b,off,none⟩->0<n->b<d)(l:n<=2097152):C_ 113 #[o,.slice a n c] w λe w'=>e=.returned (.bool true)/\w.grownBy w' o.ownBlock:=by
 rcases h with⟨rfl,rfl,rfl,rfl,rfl⟩|⟨p,g,rfl,rfl,h3,h4,h5,h6,h7⟩
 ·refine(Xx _ w).mono ?_
  grind [Bo]
 refine(Xw p n c g _ w f l h7 (λh0 e=>?_)).mono ?_
 ·rcases f.2.2 with h|⟨b,off,m,_,_⟩
  omega
  grind
 rintro e w' ⟨rfl,j⟩;exact⟨rfl,j⟩
def Om.own{w b o a n c e}(h:Om w b o a n c e){k}(d:o.ownBlock=some k):b<=k/\k<w.heap.size/\∃cur,w.heap[k]? =some (.cells cur 3 (0,0)):=by
 rcases h with⟨rfl,rfl,rfl,rfl,rfl⟩|⟨p,g,rfl,rfl,h3,h4,h5,h6,cur,h7,h8⟩
 ·cases d
 simp[Value.ownBlock] at d
 grind
def Cq.touch{S w w' a n e}(h:Cq w a n e)(t:Aa S w w')(j:∀b off,a=some ⟨b,off,none⟩->0<n->¬S b):Cq w' a n e:=by
 obtain⟨k,f,c⟩:=h;refine⟨k,f,?_⟩
 rcases c with c|⟨b,off,rfl,d,g⟩
 exact .inl c
 by_cases h0:n=0
 exact .inl h0;refine .inr ⟨b,off,rfl,Qh d t.size,λi hi=>?_⟩;rw[cb_ (w:=w) (a:=(A_ b (off+i))) (t.block b d (j b off rfl o_))];exact g i hi
def Yg(U:List Int)(L:List Ct):Prop:=Bq L/\∀e∈L,e.v∈U
def Yg.len{U L}(h:Yg U L):L.length<=U.length:=h.1.len h.2
def Yi(U:List Int)(g:Nat)(c:Array Value)(nx:Int)(w:World)(e:Ending)(w':World):Prop:=
 e=.returned (.bool true)/\∃c' Ls' nx',Gv w' g c' Ls' nx'/\(∀L∈Ls',Yg U L)/\nx'<=nx+1/\(∀j,j≠0->j≠4->j≠5->j≠12->c'[j]? =c[j]?)/\Below g w w'/\Pp w w'
def Om.touch{S w w' b o a n c e}(h:Om w b o a n c e)(t:Aa S w w')(m:∀k,o.ownBlock=some k->¬S k):Om w' b o a n c e:=by
 rcases h with h|⟨p,g,v,f,l,u,r,i,d,s,j,q⟩
 exact .inl h;exact .inr ⟨p,g,v,f,l,Qh u t.size,r,i,d,t.at_ s (m g (by rw[f];rfl)),j,q⟩
def Qm{w w' row}(h:w.grownBy w' row):Aa (λk=>some k=row) w w':=⟨h.os,h.tape,h.output,h.size,λk hk hn=>h.block k hk hn⟩
def Eo{w w' a n zs}(h:Cq w a n zs){B}(hb:Below B w w')(hB:∀b off,a=some ⟨b,off,none⟩->0<n->b<B):Cq w' a n zs:=
 h.touch (S:=λk=>B<=k) ⟨hb.os,hb.tape,hb.output,hb.size,λk _ hn=>hb.block k o_⟩ (λb off e h0 hS=>w_)
def Rp{w a n zs}(h:Cq w a n zs):∀b off,a=some ⟨b,off,none⟩->0<n->b<w.heap.size:=λb off e h0=>by
 rcases h.2.2 with h|⟨b',off',e',hb,_⟩
 omega
 grind
def Zf6{c f M}(h:Ed (Ar c f) M){U:List Int}(i:∀z∈c,Ga z∈U):∀e∈Bv 0 M,e.v∈U:=by
 intro e d
 obtain⟨_,_,_,p,a,l,_⟩:=ju (λp a=>by
  rw[h.wt p a];obtain⟨q,b,e⟩:=h.sub p a;rw[<- e]
  exact ZiZ (λr hr=>(Ig hr).1.1) q b) e d
 obtain⟨q,b,g⟩:=h.sub p a;obtain⟨_,_,z,k,j⟩:=Ig b
 grind
def ZdL g c Ls R U J Q P O N f d a D A F B r wc S x y vz wz w (hS:Gv w g c Ls R)(hG:∀L∈Ls,Yg U L)(hn:R<=9000000)(hU:U.length<=2097152)(hV:Cq w D A vz)(hW:Cq w B r wz)(nV:D=none->A=0/\F=0)(nW:B=none->r=0/\wc=0)(lV:A<=2097152)(lW:r<=2097152)(hZ:∀z∈vz,Ga z∈U):C_ 70 #[.pointer (some ⟨g,0,none⟩),.agg #[.int .i64 2,.int .i64 J,.int .i64 Q,.slice P O N,.int .i64 f,.int .i64 d,.int .i64 a,.slice D A F,.slice B r wc,.string S,.int .i64 x,.int .i64 y]] w λe w'=>Yi U g c R w e w':=by
 have HS:=x2_ hS hG;have HV:=x1_ hV;have HW:=x1_ hW;have aL:=x1_ nV;have aF:=x1_ nW;have HZ:=x1_ hZ;have b5:=hS.lt;have C:=x1_ (Rp hV);have E:=x1_ (Rp hW);have a3:Hid (Below _ w (w.alloc (.cells #[I_ 2,I_ J,I_ Q,.slice P O N,I_ f,I_ d,I_ a,.slice D A F,.slice B r wc,.string S,I_ x,I_ y] 93))):=bA_;have e7:(w.alloc (.cells #[I_ 2,I_ J,I_ Q,.slice P O N,I_ f,I_ d,I_ a,.slice D A F,.slice B r wc,.string S,I_ x,I_ y] 93)).cell? (A_ w.heap.size 7)=some (.slice D A F):=s_;have e8:(w.alloc (.cells #[I_ 2,I_ J,I_ Q,.slice P O N,I_ f,I_ d,I_ a,.slice D A F,.slice B r wc,.string S,I_ x,I_ y] 93)).cell? (A_ w.heap.size 8)=some (.slice B r wc):=s_
 have aV:(w.alloc (.cells #[I_ 2,I_ J,I_ Q,.slice P O N,I_ f,I_ d,I_ a,.slice D A F,.slice B r wc,.string S,I_ x,I_ y] 93)).heap.size=w.heap.size+1:=s_;go_enter Tryz.func70,Tryz.ntmps70;go_wp2_with fail
 generalize w.alloc (.cells #[I_ 2,I_ J,I_ Q,.slice P O N,I_ f,I_ d,I_ a,.slice D A F,.slice B r wc,.string S,I_ x,I_ y] 93)=wb at *;refine(sv _ _ _ _ _ (Eo HV a3 C) aL lV).mono ?_;rintro e w1 ⟨o1,rfl,a7,s⟩;obtain⟨a1,c1,rfl,_⟩:=a7.view;have G:=x1_ a7;have aT:=x1_ s;have T:=x1_ (a3.trans (s.mono o_));have f7:=(s.cell (p:=(A_ w.heap.size 7)) t_).trans e7;have f8:=(s.cell (p:=(A_ w.heap.size 8)) t_).trans e8;have aZ:w.heap.size+1<=w1.heap.size:=(by have:=s.size;omega);go_wp2_with fail
 refine(sv _ _ _ _ _ (Eo HW T E) aF lW).mono ?_;rintro e w2 ⟨o2,rfl,a9,n⟩;obtain⟨a2,c2,rfl,aM⟩:=a9.view;obtain⟨_,_,e1,aH⟩:=(G.below n).view;simp only[Value.slice.injEq] at e1;obtain⟨rfl,_,rfl⟩:=e1;have aQ:=x1_ aH;have aK:=x1_ aM;have aD:=x1_ (G.below n);have H:=x1_ a9;have aE:=x1_ (T.trans (n.mono o_));have g7:=(n.cell (p:=(A_ w.heap.size 7)) t_).trans f7;have g8:=(n.cell (p:=(A_ w.heap.size 8)) t_).trans f8;have aU:=n.size;go_wp2_with fail
 refine(ZbZ _ _ _ _ _ _ _ _ _ aQ aK lV lW).mono ?_;rintro e w3 ⟨v,M,rfl,hM,ho,l⟩;have HM:=x1_ hM;have a8:=x1_ ho;have W:=x1_ (aD.below l);have V:=x1_ (H.below l);have aA:=x1_ (aE.trans (l.mono o_));have h7:=(l.cell (p:=(A_ w.heap.size 7)) t_).trans g7;have h8:=(l.cell (p:=(A_ w.heap.size 8)) t_).trans g8;have aX:=l.size;have q:Hid (∀k,_->_/\k<_):=λk i=>⟨(G.own i).1,(G.own i).2.1⟩;have t:Hid (∀k,_->_/\k<_):=λk i=>⟨(H.own i).1,(H.own i).2.1⟩;go_wp2_with fail
 refine(kx _ _ _ _ _ _ _ W (Eo HV aA C) (λb off e h0=>by have:=C b off e h0;omega) lV).mono ?_;rintro e w4 ⟨rfl,m⟩;have a6:=x1_ (aA.grown m o_ (λk i=>by have:=q k i;omega));have k8:=m.cell h8 (λe=>by have:=q _ e.symm;grind);have k7:=m.cell h7 (λe=>by have:=q _ e.symm;grind);have Y:=x1_ (V.touch (Qm m) (λk i e=>by have h1:=q k e.symm;have h2:=t k i;omega));have aB:Hid (Aj w4 w2.heap.size v (Bv 0 M)):=(Qm m).row a8 (λk i e=>by have h1:=q k e.symm;have h2:=(rl_ a8 k i).1;omega);have b3:=m.size;go_wp2_with fail
 refine(kx _ _ _ _ _ _ _ Y (Eo HW a6 E) (λb off e h0=>by have:=E b off e h0;omega) lW).mono ?_;rintro e w5 ⟨rfl,o⟩;have I:=x1_ (a6.grown o o_ (λk i=>by have:=t k i;omega));have m8:=o.cell k8 (λe=>by have:=t _ e.symm;grind);have m7:=o.cell k7 (λe=>by have:=t _ e.symm;grind);have aC:Hid (Aj w5 w2.heap.size v (Bv 0 M)):=(Qm o).row aB (λk i e=>by have h1:=t k e.symm;have h2:=(rl_ aB k i).1;omega);have aW:=o.size;go_wp2_with fail
 refine(Qx _ _ _ F r wc vz wz _ (Eo HV I C) (Eo HW I E) lV lW).mono ?_;rintro e w6 ⟨u,M',rfl,aP,a0,Z⟩;obtain rfl:M'=M:=aP.unique HM;have aR:Hid (Aj _ w.heap.size v _):=Nl (aC.below Z) o_;have aO:Hid (Aj _ w.heap.size u _):=Nl a0 o_
 have aI:Hid (Ch v u):=by
  by_cases hv:v.ownBlock=none
  exact .inl hv;right;right;intro e;obtain⟨k,i⟩:=Option.ne_none_iff_exists'.1 hv;have h1:=(rl_ aC k i).2;have h2:=(rl_ a0 k (e.symm.trans i)).1;omega
 have a5:=x1_ (I.trans (Z.mono o_));have X:Hid (Yg U (Bv 0 M')):=⟨HM.good (by rw[HV.1];exact lV),Zf6 HM HZ⟩;have a4:(Bv 0 M').length<=4194304:=(by have:=X.len;omega);go_wp2_with fail
 refine(ZdM g c Ls R v u _ w w6 HS.1 a5 aR aO aI a4 o_).mono ?_;rintro e w7 ⟨rfl,c',aG,aN,aS,aY,aJ⟩
 have HF:Hid (∃c' Ls' nx',Gv w7 g c' Ls' nx'/\(∀L∈Ls',Yg U L)/\nx'<=R+1/\(∀j,j≠0->j≠4->j≠5->j≠12->c'[j]? =c[j]?)/\Below g w w7/\Pp w w7):=
  ⟨c',_,R+1,aG,λL hL=>by rcases List.mem_append.1 hL with h|h;exact HS.2 L h;simp at h;rw[h];exact X,Int.le_refl _,aN,(a5.mono o_).trans aS,aJ⟩
 go_wp2;go_ret;exact⟨rfl,HF⟩
def Yi.of_below{U g c nx w w' Ls}(hS:Gv w g c Ls nx)(hG:∀L∈Ls,Yg U L)(hb:Below w.heap.size w w'):Yi U g c nx w (.returned (.bool true)) w':=
 ⟨rfl,c,Ls,nx,hS.below hb,hG,o_,λ_ _ _ _ _=>rfl,hb.mono (Nat.le_of_lt hS.lt),Pp.of_below hb⟩
def Yi.back{U g c i w d f e}(j:Below w.heap.size w d)(s:g<w.heap.size)(h:Yi U g c i d e f):Yi U g c i w e f:=by obtain⟨r,l,b,a,p,m,q,n,k,o⟩:=h;exact⟨r,l,b,a,p,m,q,n,(j.mono o_).trans k,(Pp.of_below j).trans o⟩
def ey(W:World) o n (h:W.heap.size=n):(W.alloc o).heap[n]? =some o:=by subst h;exact ha_ W o
def Gn(b:Nat):OpD:={kd:=2,pk:=0,bb:=0,fa:=none,fl:=0,fc:=0,bins:=0,size:=0,budget:=0,va:=some ⟨b,0,none⟩,vl:=3,vc:=3,wa:=some ⟨b+1,0,none⟩,wl:=3,wc:=3,st:=⟨#[]⟩,x:=0,y:=0,fw:=λ_=>false,fs:=λ_=>0,ft:=λ_=>0,vz:=[5,3,5],wz:=[1,2,4]}
def qh{w b}(G:ZkC w b):OpR b (Gn w.heap.size):=by
 have c:=G.size;refine⟨by simp[Gn],by simp[Gn,maxLen],by simp[Gn,maxLen],?_,?_,?_,λh=>by simp[Gn] at h,λh=>by simp[Gn] at h⟩;exact .inl rfl
 ·refine⟨rfl,(by intro z a;simp[Gn] at a;rcases a with rfl|rfl|rfl<;>decide),.inr ⟨w.heap.size,0,rfl,o_,λi hi=>?_⟩⟩;have h:i=0∨i=1∨i=2:=by simp[Gn] at hi;omega
  rcases h with rfl|rfl|rfl
  exact G.v0;exact G.v1;exact G.v2
 refine⟨rfl,(by intro z a;simp[Gn] at a;rcases a with rfl|rfl|rfl<;>decide),.inr ⟨w.heap.size+1,0,rfl,o_,λi hi=>?_⟩⟩;have h:i=0∨i=1∨i=2:=by simp[Gn] at hi;omega
 rcases h with rfl|rfl|rfl
 exact G.u0;exact G.u1;exact G.u2
def OpR.below{w w' d}(h:OpR w d)(hb:Below w.heap.size w w'):OpR w' d:=
 ⟨h.fl,h.vl,h.wl,h.feats.below hb,Eo h.vz hb (Rp h.vz),Eo h.wz hb (Rp h.wz),h.vnil,h.wnil⟩
def Zgm(w:World):Gv (w.alloc (.cells #[.slice none 0 0,.slice none 0 0,.slice none 0 0,.slice none 0 0,.slice none 0 0,.slice none 0 0,.slice none 0 0,.slice none 0 0,.slice none 0 0,.slice none 0 0,.slice none 0 0,.slice none 0 0,I_ 0] 90)) w.heap.size #[.slice none 0 0,.slice none 0 0,.slice none 0 0,.slice none 0 0,.slice none 0 0,.slice none 0 0,.slice none 0 0,.slice none 0 0,.slice none 0 0,.slice none 0 0,.slice none 0 0,.slice none 0 0,I_ 0] [] 0:=by refine⟨.slice _ 0 0,.slice _ 0 0,.slice _ 0 0,[],[],[],ha_ w _,rfl,rfl,rfl,rfl,rfl,rn_,rn_,Ag.nil _ _,.inl rfl,rfl,rfl,s_,s_,λi hi=>by simp at hi,λi hi=>by simp at hi⟩
def Zj3:(Tryz.prog.info? 51).map (λi=>(i.zero,i.size,i.bytes))=some (some (.agg #[.bool false,I_ 0,I_ 0]),3,24):=k_
def Yf(w:World)(g N:Nat)(f:Nat->Bool×Int×Int):Prop:=∃cur:Array Value,w.heap[g]? =some (.cells cur 51 (0,0))/\cur.size=N*3/\∀i,i<N->cur[i*3]? =some (.bool (f i).1)/\cur[i*3+1]? =some (I_ (f i).2.1)/\cur[i*3+2]? =some (I_ (f i).2.2)
section
variable {w w':World} {g N:Nat} {f:Nat->Bool×Int×Int}
def Yf.lt(h:Yf w g N f):g<w.heap.size:=by
 obtain⟨a,b,_⟩:=h
 grind
def Yf.cells(h:Yf w g N f){i}(c:i<N):w.cell? (A_ g (i*3))=some (.bool (f i).1)/\w.cell? (A_ g (i*3+1))=some (I_ (f i).2.1)/\w.cell? (A_ g (i*3+2))=some (I_ (f i).2.2)/\∀o,w.frozen? (A_ g o)=false:=by
 obtain⟨a,e,b,d⟩:=h
 grind [cell_of_row,frozen_of_row]
def Yf.put(h:Yf w g N f){k}(n:k<N) a b c:Yf (((w.setCell (A_ g (k*3)) (.bool a)).setCell (A_ g (k*3+1)) (I_ b)).setCell (A_ g (k*3+2)) (I_ c)) g N (λi=>if i=k then(a,b,c) else f i):=by
 obtain⟨d,m,j,l⟩:=h;refine⟨_,hs_ _ g _ _ _ _ (hs_ _ g _ _ _ _ (hs_ _ g _ _ _ _ m)),by simp[j],λi hi=>?_⟩
 by_cases e:i=k
 ·subst e;simp only[if_true];refine⟨?_,?_,?_⟩
  ·grind
  ·grind
  grind
 simp only[if_neg e];obtain⟨x,y,z⟩:=l i hi;refine⟨?_,?_,?_⟩;rw[Array.getElem?_setIfInBounds_ne o_,Array.getElem?_setIfInBounds_ne o_,Array.getElem?_setIfInBounds_ne o_];exact x;rw[Array.getElem?_setIfInBounds_ne o_,Array.getElem?_setIfInBounds_ne o_,Array.getElem?_setIfInBounds_ne o_];exact y;rw[Array.getElem?_setIfInBounds_ne o_,Array.getElem?_setIfInBounds_ne o_,Array.getElem?_setIfInBounds_ne o_];exact z
def Yf.touch{S}(h:Yf w g N f)(t:Aa S w w')(c:¬S g):Yf w' g N f:=by obtain⟨a,d,b⟩:=h;exact⟨a,t.at_ d c,b⟩
def Yf.below(h:Yf w g N f)(hb:Below w.heap.size w w'):Yf w' g N f:=h.touch (.of_below (S:=λ_=>False) hb) id
def Yf.congr{b}(h:Yf w g N f)(e:∀i,i<N->b i=f i):Yf w g N b:=by obtain⟨a,d,c,j⟩:=h;exact⟨a,d,c,λi hi=>w_⟩
def Yf.feats(h:Yf w g N f){n b c a}(j:n<=N)(d:n<=maxLen)(e:∀i,i<n->f i=(b i,c i,a i)):Dd w g 0 n b c a:=by
 refine⟨d,λ_=>h.lt,λi hi=>?_,λi hi=>?_,λi hi=>?_⟩
 ·have:=(h.cells (i:=i) o_).1
  grind
 ·have:=(h.cells (i:=i) o_).2.1
  grind
 have:=(h.cells (i:=i) o_).2.2.1
 grind
end
def Qt(n:Nat)(wd:Nat->Bool)(sc ct:Nat->Int)(m i:Nat):Bool×Int×Int:=if i<n then(wd i,sc i,ct i) else if i<n+m then(false,0,-7-i) else(false,0,0)
def ZfI n a b c m i:Qt n a b c (m+1) i=if i=n+m then(false,0,-7-((n+m:Nat):Int)) else Qt n a b c m i:=by grind [Qt]
def ZaR(wd:Nat->Bool)(sc ct:Nat->Int)(j:Nat):Value:=if j%3=0 then .bool (wd (j/3)) else if j%3=1 then I_ (sc (j/3)) else I_ (ct (j/3))
def Xe p n c x t u w (h:Dd w p.block p.off n x t u)(hp:0<n->p=(A_ p.block p.off))(hl:n<=2097152):C_ 122 #[.slice (some p) n c] w λe w'=>e=.returned (.slice (some ⟨w.heap.size,0,none⟩) n (n+8))/\Yf w' w.heap.size (n+8) (Qt n x t u 8)/\Below w.heap.size w w':=by
 obtain⟨i0,s,Y,A,V⟩:=info_parts Zj3;obtain⟨b,d,U⟩:=p
 have he:_:=λq=>by have:=hp q;injection this
 have h:Dd w b d n _ _ _:=h;clear hp;have a2:∀W:_,(binOp _ _ _ _).run _ W=.ok (.bool false) W:=λW=>Lib.run_eql_slice_nil W 35 _ (some ⟨b,d,U⟩) n c 0 0 Tryz.underlying35;have G:∀W:World,(Instr.makeSlice 35 (I_ (n+8)) (I_ (n+8))).run Tryz.prog W=.ok (L_ W.heap.size (n+8) (n+8)) (W.alloc (.cells (madeCells #[.bool false,I_ 0,I_ 0] ((n+8)*3)) 51)):=(by intro W;have:=run_make (P:=Tryz.prog) W 35 51 i0 _ Tryz.underlying35 s Y .i64 .i64 ((n:Int)+8) ((n:Int)+8) o_ o_ (by rw[V];omega) o_;rw[A] at this;rw[this,show((n:Int)+8).toNat=n+8 by omega];rfl);obtain⟨a,f⟩:=ex_ (madeCells #[.bool false,I_ 0,I_ 0] ((n+8)*3))
 have J:∀i,i<n+8->a[i*3]? =some (.bool false)/\a[i*3+1]? =some (I_ 0)/\a[i*3+2]? =some (I_ 0):=λi z=>by rw[f];refine⟨?_,?_,?_⟩;simp[madeCells,show i*3<(n+8)*3 by omega,show i*3%3=0 by omega];simp[madeCells,show i*3+1<(n+8)*3 by omega,show(i*3+1)%3=1 by omega];simp[madeCells,show i*3+2<(n+8)*3 by omega,show(i*3+2)%3=2 by omega]
 have X:a.size=(n+8)*3:=(by rw[f];exact size_madeCells _ _);rw[<- f] at G
 obtain⟨Q,a0,I,H⟩:∃Q:World,(Builtin.copy_ #[35,35] 3 #[L_ w.heap.size (n+8) (n+8),.slice (some ⟨b,d,U⟩) n c]).run Tryz.prog (w.alloc (.cells a 51))=.ok (I_ n) Q/\Hid (Yf Q w.heap.size (n+8) (Qt n x t u 0))/\E_ w Q:=by
  have F:Below _ w (w.alloc (.cells a 51)):=bA_;have o:(w.alloc (.cells a 51)).heap[_]? =_:=ha_ w _;have r:Nat.min n (n+8)=n:=Nat.min_eq_left o_;obtain⟨g,N⟩:=ex_ ((List.range (n*3)).map (ZaR x t u));have C:g.length=n*3:=by rw[N];simp
  have l:∀j,j<n*3->g[j]? =some (ZaR x t u j):=λj hj=>w_
  have M:∀j v,g[j]? =some v->(w.alloc (.cells a 51)).cell? ((⟨b,d,U⟩:Addr).add j)=some v:=λj v hj=>by
   have a1:j<n*3:=w_;rw[he o_];rw[l j a1] at hj;injection hj with hj;subst hj;have E:((A_ b d):Addr).add j=(A_ b (d+j)):=(by unfold Addr.add;split<;>simp_all);have z:j/3<n:=o_;have Z:=h.lt o_;rw[E,F.cell (p:=(A_ b (d+j))) Z];unfold ZaR
   rcases(show j%3=0∨j%3=1∨j%3=2 by omega) with e|e|e
   rw[if_pos e,show d+j=d+j/3*3 by omega];exact h.c0 _ z;rw[if_neg o_,if_pos e,show d+j=d+j/3*3+1 by omega];exact h.c1 _ z;rw[if_neg o_,if_neg o_,show d+j=d+j/3*3+2 by omega];exact h.c2 _ z
  have L:∀v∈g,v.oneCell'=true:=λv hv=>by rw[N] at hv;obtain⟨j,_,rfl⟩:=List.mem_map.1 hv;unfold ZaR;split;rfl;split<;>rfl
  have hr:=qp (P:=Tryz.prog) _ 35 35 3 _ _ _ _ (n+8) _ n c _ _ _ Tryz.underlying35 s o (by rw[r,A,C]) M o_ L;rw[r] at hr;refine⟨_,hr,?_,below_setRow F qa_ _⟩;have hh:=setRow_heap _ _ _ (a.toList.take 0++g++a.toList.drop (0+g.length)).toArray _ _ o;refine⟨_,hh,w_,λi z=>?_⟩
  have y:∀j,(a.toList.take 0++g++a.toList.drop (0+g.length)).toArray[j]? =if j<n*3 then g[j]? else a[j]?:=λj=>by
   simp only[List.take_zero,List.nil_append,Nat.zero_add,List.getElem?_toArray]
   by_cases hj:j<n*3
   ·grind
   grind
  rw[y,y,y];unfold Qt
  by_cases hin:i<n
  rw[if_pos (show i*3<n*3 by omega),if_pos (show i*3+1<n*3 by omega),if_pos (show i*3+2<n*3 by omega),if_pos hin,l _ o_,l _ o_,l _ o_];unfold ZaR;refine⟨?_,?_,?_⟩;rw[if_pos o_,show i*3/3=i by omega];rw[if_neg o_,if_pos o_,show(i*3+1)/3=i by omega];rw[if_neg o_,if_neg o_,show(i*3+2)/3=i by omega];rw[if_neg (show ¬i*3<n*3 by omega),if_neg (show ¬i*3+1<n*3 by omega),if_neg (show ¬i*3+2<n*3 by omega),if_neg hin,if_neg (show ¬i<n+0 by omega)];exact J i z
 clear J X h f he;go_enter Tryz.func122,Tryz.ntmps122;go_upto_region 6 with fail;go_loopw [4] (λti wr=>∃m:Nat,m<=8/\ti=.int .i64 ((n+m:Nat):Int)/\Hid (Yf wr w.heap.size (n+8) (Qt n x t u m))/\Hid (E_ w wr)) (λti _=>n+8-(intOf ti).toNat)
 case atStart=>exact⟨0,o_,s_,I,H⟩
 case round=>
  clear I H a0 G;obtain⟨m,hm,rfl,D,S⟩:=hrel;have a7:=D.lt
  by_cases hm8:m<8
  ·obtain⟨k,O⟩:=ey_ (n+m);have HP:Hid (Yf (((wr.setCell (A_ w.heap.size (k*3)) (.bool false)).setCell (A_ w.heap.size (k*3+1)) (I_ 0)).setCell (A_ w.heap.size (k*3+2)) (I_ (-7-k))) w.heap.size (n+8) (Qt n x t u (m+1))):=by refine(D.put (k:=k) o_ _ 0 _).congr (λi _=>?_);rw[ZfI,O]
   have R:Hid (Below _ w (((wr.setCell (A_ w.heap.size (k*3)) (.bool false)).setCell (A_ w.heap.size (k*3+1)) (I_ 0)).setCell (A_ w.heap.size (k*3+2)) (I_ (-7-(k:Int))))):=((S.setCell qa_ _).setCell qa_ _).setCell qa_ _;obtain⟨c0,c1,c2,cf⟩:=D.cells (i:=k) o_;have a5:0<=(k:Int):=o_;have a4:k<(n:Int)+8:=o_;have B:=x1_ O;rw[O];have a3:k<=3000000:=o_;clear O D S;go_wp2;go_roundw;case rel=>exact⟨m+1,o_,by rw[<- Nat.add_assoc,B];go_num,HP,R⟩
   case measure=>have:=B.out;simp[intOf];omega
  have T:m=8:=o_;subst T;have a6:¬(n+8:Nat)<(n:Int)+8:=o_;go_wp2;go_ret;exact⟨rfl,D,S⟩
def stF(n:Nat)(wd:Nat->Bool)(sc ct:Nat->Int)(k i:Nat):Bool×Int×Int:=if i<k then(false,0,-9) else Qt n wd sc ct 8 i
def ZiN n a b c k i:stF n a b c (k+1) i=if i=k then(false,0,-9) else stF n a b c k i:=by grind [stF]
def Wa p n c g m f l w (h:Dd w p.block p.off n m f l)(I:0<n->p=(A_ p.block p.off))(T:n<=2097152)(P:Yf w g (n+8) (Qt n m f l 8))(F:0<n->p.block≠g):C_ 124 #[.slice (some ⟨g,0,none⟩) n (n+8),.slice (some p) n c] w λe w'=>e=.returned (.bool true)/\Aa (λk=>k=g) w w':=by
 obtain⟨b,d,L⟩:=p
 have N:Hid _:=λq=>by have:=I q;injection this
 have y:Hid (Dd w b d n _ _ _):=h;have z:Hid (_->b≠g):=F;have A:Hid (Yf w g _ (stF n _ _ _ 0)):=P.congr (λi _=>by unfold stF;rw[if_neg o_]);have G:∀W:_,(binOp _ _ _ _).run _ W=.ok (.bool false) W:=λW=>Lib.run_eql_slice_nil W 35 _ (some ⟨b,d,L⟩) n c 0 0 Tryz.underlying35;go_enter Tryz.func124,Tryz.ntmps124;go_upto_region 6 with fail;go_loopw [6,7] (λtok ti wr=>∃k:Nat,k<=n+8/\tok=.bool true/\ti=.int .i64 k/\Hid (Yf wr g (n+8) (stF n m f l k))/\Hid (Aa (λk=>k=g) w wr)) (λ_ ti _=>n+8-(intOf ti).toNat)
 case atStart=>exact⟨0,qg_,rfl,rfl,A,Aa.refl _ _⟩
 case round=>
  obtain⟨k,J,rfl,rfl,H,s⟩:=hrel
  by_cases hk:k<n+8
  ·have O:0<=(k:Int):=o_;have M:k<(n:Int)+8:=o_;obtain⟨t,v,u,R⟩:=H.cells (i:=k) hk;have B:stF n m f l k k=Qt n m f l 8 k:=(by unfold stF;grind);rw[B] at t v u
   have x:Hid (∀j,_/\Aa _ w ((((wr.drewN j).setCell _ (.bool false)).setCell _ (I_ 0)).setCell _ (I_ (-9)))):=λj=>
    ⟨((H.below (below_drewN bz_ j)).put hk _ 0 _).congr (λi _=>ZiN n m f l k i),(((s.below (below_drewN bz_ j)).setCell (p:=(A_ g (k*3))) (λ_=>rfl) _).setCell (p:=(A_ g (k*3+1))) (λ_=>rfl) _).setCell (p:=(A_ g (k*3+2))) (λ_=>rfl) _⟩
   by_cases hkn:k<n
   ·have D:k<(n:Int):=o_;have E:Qt n m f l 8 k=(m k,f k,l k):=(by unfold Qt;rw[if_pos hkn]);rw[E] at t v u;simp only at t v u;have r:=y.lt o_;have o:=z o_;have C:=N o_;subst C;have V:=(cb_ (w:=w) (a:=(A_ b (d+k*3))) (s.block b r o)).trans (y.c0 k hkn);have U:=(cb_ (w:=w) (a:=(A_ b (d+k*3+1))) (s.block b r o)).trans (y.c1 k hkn);have S:=(cb_ (w:=w) (a:=(A_ b (d+k*3+2))) (s.block b r o)).trans (y.c2 k hkn);generalize m k=xw,f k=xs,l k=xc at *;go_upto_region 9 with fail;go_quiet (fail);refine rd_ ?_;exact⟨k+1,o_,s_,g_,(x _).1,(x _).2⟩
   have D:¬k<(n:Int):=o_;have E:Qt n m f l 8 k=(false,0,-7-(k:Int)):=(by unfold Qt;grind);rw[E] at t v u;simp only at t v u;refine rd_ ?_;exact⟨k+1,o_,s_,g_,(x 0).1,(x 0).2⟩
  have Q:¬k<(n:Int)+8:=o_;go_wp2;go_ret;exact⟨rfl,s⟩
section
variable {w w':World} {base n c:Nat} {a:Option Addr} {o:Value} {wd:Nat->Bool} {sc ct:Nat->Int}
def Kt(w:World)(base:Nat)(o:Value)(a:Option Addr)(n:Nat)(wd:Nat->Bool)(sc ct:Nat->Int):Prop:=
 (a=none/\n=0/\o=.slice none 0 0)∨∃p g,a=some p/\o=L_ g n (n+8)/\base<=g/\g<w.heap.size/\Yf w g (n+8) (Qt n wd sc ct 8)
def Kt.touch{S}(h:Kt w base o a n wd sc ct)(t:Aa S w w')(f:∀k,base<=k->¬S k):Kt w' base o a n wd sc ct:=by
 rcases h with h|⟨p,g,i,c,b,d,e⟩
 exact .inl h;exact .inr ⟨p,g,i,c,b,Qh d t.size,e.touch t (f g b)⟩
def Kt.own(h:Kt w base o a n wd sc ct){k}(b:o.ownBlock=some k):base<=k/\k<w.heap.size:=by
 rcases h with⟨_,_,rfl⟩|⟨p,g,_,rfl,h3,h4,_⟩
 ·cases b
 have:some g=some k:=b
 grind
def Kt.below(h:Kt w base o a n wd sc ct)(b:Below w.heap.size w w'):Kt w' base o a n wd sc ct:=by
 rcases h with h|⟨p,g,i,c,f,d,e⟩
 exact .inl h;exact .inr ⟨p,g,i,c,f,Qh d b.size,e.below b⟩
def Kt.shape(h:Kt w base o a n wd sc ct):∃a' c',o=.slice a' n c':=by
 rcases h with⟨_,rfl,rfl⟩|⟨p,g,_,rfl,_⟩
 ·grind
 grind
def Kt.view{b c}(h:Kt w base (.slice b n c) a n wd sc ct)(d:n<=2097152):Ej w b n wd sc ct:=by
 rcases h with⟨_,h0,_⟩|⟨p,g,_,h2,_,_,h5⟩
 exact .inl h0;injection h2 with h2;exact .inr ⟨g,0,h2,h5.feats o_ m_ (λi hi=>by unfold Qt;rw[if_pos hi])⟩
def Xf n c w:C_ 122 #[.slice none n c] w λe w'=>e=.returned (.slice none 0 0)/\w'=w:=by have a:∀W:_,(binOp _ _ _ _).run _ W=.ok (.bool true) W:=λW=>Lib.run_eql_slice_nil W 35 _ none n c 0 0 Tryz.underlying35;go_enter Tryz.func122,Tryz.ntmps122;go_wp2;go_ret;exact⟨rfl,rfl⟩
def Wb o n c w:C_ 124 #[o,.slice none n c] w λe w'=>e=.returned (.bool true)/\w'=w:=by have a:∀W:_,(binOp _ _ _ _).run _ W=.ok (.bool true) W:=λW=>Lib.run_eql_slice_nil W 35 _ none n c 0 0 Tryz.underlying35;go_enter Tryz.func124,Tryz.ntmps124;go_wp2;go_ret;exact⟨rfl,rfl⟩
def Ej.at{p}(h:Ej w (some p) n wd sc ct)(d:n<=2097152):Dd w p.block p.off n wd sc ct/\(0<n->p=(A_ p.block p.off)):=by
 rcases h with rfl|⟨b,a,e,c⟩
 exact⟨⟨o_,λh=>o_,λi hi=>o_,λi hi=>o_,λi hi=>o_⟩,λh=>o_⟩
 grind
def su a n c f g b w (h:Ej w a n f g b)(i:n<=2097152):C_ 122 #[.slice a n c] w λe w'=>∃o,e=.returned o/\Kt w' w.heap.size o a n f g b/\Below w.heap.size w w':=by
 cases a with
 | none=>
  refine(Xf n c w).mono ?_;rintro e w' ⟨rfl,rfl⟩;refine⟨_,rfl,.inl ⟨rfl,?_,rfl⟩,bz_⟩
  rcases h with h|⟨_,_,e,_⟩
  exact h
  cases e
 | some p=>
  obtain⟨j,k⟩:=h.at i;refine(Xe p n c _ _ _ w j k i).mono ?_;rintro e w' ⟨rfl,d,l⟩;exact⟨_,rfl,.inr ⟨p,w.heap.size,rfl,rfl,qa_,d.lt,d⟩,l⟩
def kw a n c b j d i o w (h:Kt w b o a n j d i)(l:Ej w a n j d i)(r:∀p,a=some p->0<n->p.block<b)(f:n<=2097152):C_ 124 #[o,.slice a n c] w λe w'=>e=.returned (.bool true)/\Aa (λk=>o.ownBlock=some k) w w':=by
 rcases h with⟨rfl,rfl,rfl⟩|⟨p,g,rfl,rfl,h3,h4,h5⟩
 ·refine(Wb _ _ c w).mono ?_
  grind [Aa.refl]
 obtain⟨s,q⟩:=l.at f;refine(Wa p n c g _ _ _ w s q f h5 (λh0=>w_)).mono ?_;rintro e w' ⟨rfl,m⟩;exact⟨rfl,m.mono (λk _ e=>by subst e;rfl)⟩
end
end Go.Proofs.YtfcgnpchbcmdeaaGreat
