import Derived.Test.YtfcgnpchbcmdeaaGreatZrar
import Derived.Laws.CopyOwn
import Derived.Test.YtfcgnpchbcmdeaaGreatZrat
namespace Go.Proofs.YtfcgnpchbcmdeaaGreat
set_option linter.all false
set_option maxRecDepth 100000
set_option maxHeartbeats 4000000
open Go.RowKit
def Ma(zs:List Int)(k i:Nat):Value:=if i<zs.length then I_ (zs.getD i 0) else if i<k then I_ (-7-i) else I_ 0
def Zbd{f:World}{b n d c X}(a:c=List.replicate (n+8) (I_ 0))(g:X=d.map (Value.int .i64))(e:d.length=n)(h:f.heap[b]? =some (.cells (splice c 0 X).toArray 3 (0,0))):f.rowIs b 3 (n+8) (Ma d n):=by
 refine⟨_,h,?_,λi hi=>?_⟩;simp[splice,a,g,e];subst a g e;have e:(List.map (Value.int .i64) d).length=d.length:=s_;unfold Ma splice
 grind
def Zs p n c r w (h:Cq w (some p) n r)(hn:n<=2097152):C_ 112 #[.slice (some p) n c] w λe w'=>e=.returned (.slice (some ⟨w.heap.size,0,none⟩) n (n+8))/\w'.rowIs w.heap.size 3 (n+8) (Ma r (n+8))/\Below w.heap.size w w':=by
 obtain⟨j0,O,a8,a3,a7⟩:=info_parts Ss;have C:=x1_ h;clear h;have N:∀W:_,(binOp _ _ _ _).run _ W=.ok (.bool false) W:=λW=>Lib.run_eql_slice_nil W 25 3 (some p) n c 0 0 Tryz.underlying25;obtain⟨a,d⟩:∃a:List Value,a=List.replicate (n+8) (I_ 0):=⟨_,rfl⟩;obtain⟨X,F⟩:∃X:List Value,X=r.map (Value.int .i64):=⟨_,rfl⟩;have a0:∀W:World,(Instr.makeSlice 25 (I_ (n+8)) (I_ (n+8))).run Tryz.prog W=.ok (L_ W.heap.size (n+8) (n+8)) (W.alloc (.cells a.toArray 3)):=by intro W;have:=run_make_row' (P:=Tryz.prog) 25 3 (I_ 0) 8 Tryz.underlying25 Ss rfl .i64 .i64 (n+8) o_ o_ W;rw[show((n+8:Nat):Int)=(n:Int)+8 by omega] at this;rw[this,d];congr 3;apply Array.ext;simp[madeCells];intro i Z h2;simp[madeCells,Nat.mod_one]
 have A:=x1_ d;have J:=x1_ F;have T:a.length=n+8:=(by rw[d];simp);have m:X.length=n:=(by rw[F];simp[C.out.1]);clear d F;have t:(Tryz.prog.info? 3).map (·.size)=some 1:=w_
 have g:Hid (∀W:World,E_ w W->0<X.length->∃L,some p=some L/\∀j v,X[j]? =some v->W.cell? (L.add j)=some v):=λW hb Q=>by
  refine⟨p,rfl,λj v hj=>?_⟩;obtain⟨Z,_,h2|⟨b,o,e,y,hc⟩⟩:=C.out;omega;simp at e;subst e;have s:((A_ b o):Addr).add j=(A_ b (o+j)):=(by unfold Addr.add;split<;>simp_all);have E:j<n:=w_;rw[s,hb.cell (p:=(A_ b (o+j))) y,hc j E,<- hj,J]
  grind
 obtain⟨D,a1,G,H⟩:∃D:World,(Builtin.copy_ #[25,25] 3 #[L_ w.heap.size (n+8) (n+8),.slice (some p) n c]).run Tryz.prog (w.alloc (.cells a.toArray 3))=.ok (I_ n) D/\Hid (D.rowIs w.heap.size 3 (n+8) (Ma r n))/\E_ w D:=by
  have z:Below _ w (w.alloc (.cells a.toArray 3)):=bA_;have f:(w.alloc (.cells a.toArray 3)).heap[_]? =_:=ha_ w _
  have B:∀j v,X[j]? =some v->(w.alloc (.cells a.toArray 3)).cell? (p.add j)=some v:=λj v hj=>by
   have Q:0<X.length:=w_;obtain⟨L,e,hh⟩:=g _ z Q
   grind
  have hr:=run_copy_row (P:=Tryz.prog) _ 25 25 3 3 _ 0 (n+8) (n+8) p n c _ 3 X Tryz.underlying25 t f w_ B t_ (by rw[J];intro v M;simp at M;obtain⟨_,_,rfl⟩:=M;rfl);refine⟨_,by rw[hr,m];rfl,?_,below_setRow z qa_ _⟩;refine Zbd A J C.1 ?_;have:=setRow_heap (w.alloc (.cells a.toArray 3)) w.heap.size a.toArray (a.toArray.toList.take 0++X++a.toArray.toList.drop (0+X.length)).toArray 3 (0,0) f;rw[m] at this;rw[this];simp[splice,m]
 have V:=H.size;have S:=G.lt;clear g;go_enter Tryz.func112,Tryz.ntmps112;go_wp2_with fail
 go_loopw [4] (λti wr=>∃k:Nat,n<=k/\k<=n+8/\ti=.int .i64 k/\Hid (wr.rowIs w.heap.size 3 (n+8) (Ma r k))/\E_ w wr) (λti _=>n+8-(intOf ti).toNat)
 case atStart=>grind
 case round=>
  obtain⟨k,a4,a5,rfl,x,l⟩:=hrel;have y:=x.lt
  by_cases hk:k<n+8
  ·have U:0<=(k:Int):=o_;have a6:k<(n:Int)+8:=o_;have q:=x.cell hk;have R:=x.frozen k
   have HN:Hid ((wr.setCell (A_ w.heap.size k) (I_ (-7-k))).rowIs w.heap.size 3 (n+8) (Ma r (k+1))):=(x.set k _).congr (λj _=>by
    have a2:=C.1
    grind [Ma])
   have Y:Below _ w (wr.setCell (A_ w.heap.size k) (I_ (-7-(k:_)))):=l.setCell qa_ _;generalize Ma r k k=u at q;go_wp2
   grind [intOf]
  have I:k=n+8:=o_;subst I;go_wp2;go_ret;exact⟨rfl,x,l⟩
def Ok(zs:List Int)(k i:Nat):Value:=if i<k then I_ (-9) else Ma zs (zs.length+8) i
def Xw p n c g d w (h:Cq w (some p) n d)(H:n<=2097152)(F:w.rowIs g 3 (n+8) (Ma d (n+8)))(C:0<n->p.block≠g):C_ 113 #[.slice (some ⟨g,0,none⟩) n (n+8),.slice (some p) n c] w λe w'=>e=.returned (.bool true)/\w.grownBy w' (some g):=by
 have i:=x1_ h;have m:Hid (w.rowIs g 3 (n+8) (Ok d 0)):=(by have e:=h.1.symm;subst e;exact F);have y:∀W:_,(binOp _ _ _ _).run _ W=.ok (.bool false) W:=λW=>Lib.run_eql_slice_nil W 25 3 (some p) n c 0 0 Tryz.underlying25;go_enter Tryz.func113,Tryz.ntmps113;go_wp2_with fail
 go_loopw [6,7] (λtok ti wr=>∃k:Nat,k<=n+8/\tok=.bool true/\ti=.int .i64 k/\Hid (wr.rowIs g 3 (n+8) (Ok d k))/\Hid (w.grownBy wr (some g))) (λ_ ti _=>n+8-(intOf ti).toNat)
 case atStart=>exact⟨0,qg_,rfl,rfl,m,World.grownBy.refl _ _⟩
 case round=>
  obtain⟨k,B,rfl,rfl,f,l⟩:=hrel;have q:=f.lt
  by_cases hk:k<n+8
  ·have A:0<=(k:Int):=o_;have D:k<(n:Int)+8:=o_;have a:=f.cell hk;have v:=f.frozen k;have z:Hid (∀W:World,W.rowIs g 3 (n+8) (Ok d k)->(W.setCell (A_ g k) (I_ (-9))).rowIs g 3 (n+8) (Ok d (k+1))):=λW hW=>(hW.set k _).congr (λj _=>by grind [Ok])
   by_cases hkn:k<n
   ·have s:Ok d k k=I_ (d.getD k 0):=(by unfold Ok Ma;rw[if_neg o_,if_pos (by rw[i.1];exact hkn)]);rw[s] at a;obtain⟨I,_,J|⟨b,o,e,E,G⟩⟩:=i.out;omega;simp at e;subst e;have u:=l.cell (G k hkn) w_;have t:k<(n:Int):=o_;generalize d.getD k 0=x at a u;go_wp2_with fail
    go_big_quiet (fail);refine rd_ ?_;exact⟨k+1,o_,rfl,g_,z _ (f.of_block ((below_drewN bz_ _).block g q)),Bm (Hp l (Ly (below_drewN bz_ _))) _ _⟩
   have s:Ok d k k=I_ (-7-k):=(by unfold Ok Ma;rw[if_neg o_,if_neg (by rw[i.1];omega),if_pos (by rw[i.1];omega)]);rw[s] at a;have t:¬k<(n:Int):=o_;go_wp2_with fail
   go_roundw;case rel=>exact⟨k+1,o_,rfl,g_,z _ f,Bm l _ _⟩
   case measure=>exact z_
  have r:k=n+8:=o_;subst r;go_wp2;go_ret;exact⟨rfl,l⟩
def qp{P} w p q u e i g c m a b k d t f (r:P.underlying p=some (.slice e))(y:P.info? e=some i)(x:w.heap[g]? =some (.cells d t (0,0)))(z:f.length=Nat.min b c*i.size)(l:∀j v,f[j]? =some v->w.cell? (a.add j)=some v)(h:f.length<=d.size)(s:∀v∈f,v.oneCell'=true):(Builtin.copy_ #[p,q] u #[L_ g c m,.slice (some a) b k]).run P w=.ok (goInt (Nat.min b c)) (w.setRow g (d.toList.take 0++f++d.toList.drop (0+f.length)).toArray):=by have A:=run_loadCells_list (P:=P) w a _ l;have o:=run_storeCells_at P g 0 t _ 0 _ w x (by simpa using h) s;have n:=z.symm;simp[Builtin.copy_,run_underlying r,Builtin.lenOf,Builtin.firstCells,sizeOf,typeInfo,y,n,A,o]
def Zh7(n m:Nat):List Ct:=(List.range m).map λj=>⟨-7-(n+j:Nat),0,0,0⟩
def ZhZ(L:List Ct)(m:Nat):List Ct:=(L++Zh7 L.length m)++List.replicate (8-m) e0
def ZlC L {m}(a:m<=8):(ZhZ L m).length=L.length+8:=by simp[ZhZ,Zh7];omega
def Zk9{w b a L}(h:Ip w b a L):∀j v,(flat L)[j]? =some v->w.cell? (((A_ b a):Addr).add j)=some v:=by
 intro j v i;have f:((A_ b a):Addr).add j=(A_ b (a+j)):=(by unfold Addr.add;split<;>simp_all);have g:j<L.length*4:=(by grind [Ef]);have d:j/4<L.length:=o_;have c:=ZaU L _ (j%4) d o_;rw[show j/4*4+j%4=j by omega,i] at c;rw[f]
 rcases(show j%4=0∨j%4=1∨j%4=2∨j%4=3 by omega) with e|e|e|e
 rw[show a+j=a+j/4*4 by omega,h.v _ d,c,e];rfl;rw[show a+j=a+j/4*4+1 by omega,h.lo _ d,c,e];rfl;rw[show a+j=a+j/4*4+2 by omega,h.hi _ d,c,e];rfl;rw[show a+j=a+j/4*4+3 by omega,h.wt _ d,c,e];rfl
def m9:Ct:=⟨-9,0,0,0⟩
def Zms(L:List Ct)(k:Nat):List Ct:=List.replicate k m9++(ZhZ L 8).drop k
def ZkR W:(binOp .eql 25 (.slice none 0 0) (.slice none 0 0)).run Tryz.prog W=.ok (.bool true) W:=Lib.run_eql_slice_nil W 25 3 none 0 0 0 0 Tryz.underlying25
def Zt w:C_ 112 #[.slice none 0 0] w λe w'=>e=.returned (.slice none 0 0)/\w'=w:=by have a:=ZkR;go_enter Tryz.func112,Tryz.ntmps112;go_wp2;go_ret;exact⟨rfl,rfl⟩
def Xx o w:C_ 113 #[o,.slice none 0 0] w λe w'=>e=.returned (.bool true)/\w'=w:=by have a:=ZkR;go_enter Tryz.func113,Tryz.ntmps113;go_wp2;go_ret;exact⟨rfl,rfl⟩
def Om(w:World)(base:Nat)(o:Value)(a:Option Addr)(n c:Nat)(zs:List Int):Prop:=
 (a=none/\n=0/\c=0/\zs=[]/\o=.slice none 0 0)∨∃p g,a=some p/\o=L_ g n (n+8)/\base<=g/\g<w.heap.size/\zs.length=n/\(∀z∈zs,(Lit.int .i64 z).wf=true)/\w.rowIs g 3 (n+8) (Ma zs (n+8))
def Om.below{w f base o a n c i}(h:Om w base o a n c i)(d:Below w.heap.size w f):Om f base o a n c i:=by
 rcases h with h|⟨p,g,s,t,r,e,l,q,b,m,k,j⟩
 exact .inl h;exact .inr ⟨p,g,s,t,r,Qh e d.size,l,q,b,(d.block g e).trans m,k,j⟩
def Om.view{w b o a n c d}(h:Om w b o a n c d):∃a' c',o=.slice a' n c'/\Cq w a' n d:=by
 rcases h with⟨rfl,rfl,rfl,rfl,rfl⟩|⟨p,g,rfl,rfl,h3,h4,h5,h6,cur,h7,h8,h9⟩
 exact⟨none,0,rfl,rfl,s_,.inl rfl⟩;refine⟨_,_,rfl,h5,h6,.inr ⟨g,0,rfl,h4,λi hi=>?_⟩⟩;rw[Nat.zero_add,cell_of_row w g i cur 3 (0,0) h7,h9 i o_];unfold Ma
 grind
def sv a n c b w (h:Cq w a n b)(f:a=none->n=0/\c=0)(j:n<=2097152):C_ 112 #[.slice a n c] w λe w'=>∃o,e=.returned o/\Om w' w.heap.size o a n c b/\Below w.heap.size w w':=by
 cases a with
 | none=>
  obtain⟨rfl,rfl⟩:=f rfl;refine(Zt w).mono ?_;rintro e w' ⟨rfl,rfl⟩;exact⟨_,rfl,.inl ⟨rfl,rfl,rfl,List.eq_nil_of_length_eq_zero h.1,rfl⟩,bz_⟩
 | some p=>
  refine(Zs p n c _ w h j).mono ?_;rintro e w' ⟨rfl,d,g⟩;refine⟨_,rfl,.inr ⟨p,w.heap.size,rfl,rfl,qa_,?_,h.1,h.2.1,d⟩,g⟩;obtain⟨i,k,_⟩:=d
  grind
def kx a n c d i o w (h:Om w d o a n c i)(f:Cq w a n i)(j:∀b off,a=some ⟨b,off,none⟩->0<n->b<d)(k:n<=2097152):C_ 113 #[o,.slice a n c] w λe w'=>e=.returned (.bool true)/\w.grownBy w' o.ownBlock:=by
 rcases h with⟨rfl,rfl,rfl,rfl,rfl⟩|⟨p,g,rfl,rfl,h3,h4,h5,h6,h7⟩
 ·refine(Xx _ w).mono ?_
  grind [Bo]
 refine(Xw p n c g _ w f k h7 (λh0 e=>?_)).mono ?_
 ·rcases f.2.2 with h|⟨b,off,m,_,_⟩
  omega
  grind
 rintro e w' ⟨rfl,l⟩;exact⟨rfl,l⟩
def Om.own{w b o a n c e}(h:Om w b o a n c e){k}(d:o.ownBlock=some k):b<=k/\k<w.heap.size/\∃cur,w.heap[k]? =some (.cells cur 3 (0,0)):=by
 rcases h with⟨rfl,rfl,rfl,rfl,rfl⟩|⟨p,g,rfl,rfl,h3,h4,h5,h6,cur,h7,h8⟩
 ·cases d
 simp[Value.ownBlock] at d
 grind
def Cq.touch{S w w' a n e}(h:Cq w a n e)(t:Aa S w w')(g:∀b off,a=some ⟨b,off,none⟩->0<n->¬S b):Cq w' a n e:=by
 obtain⟨f,k,c⟩:=h;refine⟨f,k,?_⟩
 rcases c with c|⟨b,off,rfl,d,j⟩
 exact .inl c
 by_cases h0:n=0
 exact .inl h0;refine .inr ⟨b,off,rfl,Qh d t.size,λi hi=>?_⟩;rw[cb_ (w:=w) (a:=(A_ b (off+i))) (t.block b d (g b off rfl o_))];exact j i hi
def Yg(U:List Int)(L:List Ct):Prop:=Bq L/\∀e∈L,e.v∈U
def Yg.len{U L}(h:Yg U L):L.length<=U.length:=h.1.len h.2
def Yi(U:List Int)(g:Nat)(c:Array Value)(nx:Int)(w:World)(e:Ending)(w':World):Prop:=
 e=.returned (.bool true)/\∃c' Ls' nx',Gv w' g c' Ls' nx'/\(∀L∈Ls',Yg U L)/\nx'<=nx+1/\(∀j,j≠0->j≠4->j≠5->j≠12->c'[j]? =c[j]?)/\Below g w w'/\Pp w w'
def Om.touch{S w w' b o a n c e}(h:Om w b o a n c e)(t:Aa S w w')(r:∀k,o.ownBlock=some k->¬S k):Om w' b o a n c e:=by
 rcases h with h|⟨p,g,v,f,s,u,l,q,d,m,j,i⟩
 exact .inl h;exact .inr ⟨p,g,v,f,s,Qh u t.size,l,q,d,t.at_ m (r g (by rw[f];rfl)),j,i⟩
def Qm{w w' row}(h:w.grownBy w' row):Aa (λk=>some k=row) w w':=⟨h.os,h.tape,h.output,h.size,λk hk hn=>h.block k hk hn⟩
def Eo{w w' a n zs}(h:Cq w a n zs){B}(hb:Below B w w')(hB:∀b off,a=some ⟨b,off,none⟩->0<n->b<B):Cq w' a n zs:=
 h.touch (S:=λk=>B<=k) ⟨hb.os,hb.tape,hb.output,hb.size,λk _ hn=>hb.block k o_⟩ (λb off e h0 hS=>w_)
def Rp{w a n zs}(h:Cq w a n zs):∀b off,a=some ⟨b,off,none⟩->0<n->b<w.heap.size:=λb off e h0=>by
 rcases h.2.2 with h|⟨b',off',e',hb,_⟩
 omega
 grind
def Zf6{c f M}(h:Ed (Ar c f) M){U:List Int}(k:∀z∈c,Ga z∈U):∀e∈Bv 0 M,e.v∈U:=by
 intro e d
 obtain⟨_,_,_,p,a,j,_⟩:=ju (λp a=>by
  rw[h.wt p a];obtain⟨q,b,e⟩:=h.sub p a;rw[<- e]
  exact Zi0 (λr hr=>(Ig hr).1.1) q b) e d
 obtain⟨q,b,l⟩:=h.sub p a;obtain⟨_,_,z,g,i⟩:=Ig b
 grind
def ZdL g c Ls P U S O N Q R d f a B A D G o wc J x y vz wz w (hS:Gv w g c Ls P)(hG:∀L∈Ls,Yg U L)(hn:P<=9000000)(hU:U.length<=2097152)(hV:Cq w B A vz)(hW:Cq w G o wz)(nV:B=none->A=0/\D=0)(nW:G=none->o=0/\wc=0)(Z:A<=2097152)(lW:o<=2097152)(hZ:∀z∈vz,Ga z∈U):C_ 70 #[.pointer (some ⟨g,0,none⟩),.agg #[.int .i64 2,.int .i64 S,.int .i64 O,.slice N Q R,.int .i64 d,.int .i64 f,.int .i64 a,.slice B A D,.slice G o wc,.string J,.int .i64 x,.int .i64 y]] w λe w'=>Yi U g c P w e w':=by
 have HS:=x2_ hS hG;have HV:=x1_ hV;have HW:=x1_ hW;have aO:=x1_ nV;have aS:=x1_ nW;have HZ:=x1_ hZ;have aX:=hS.lt;have F:=x1_ (Rp hV);have E:=x1_ (Rp hW);have Y:Hid (Below _ w (w.alloc (.cells #[I_ 2,I_ S,I_ O,.slice N Q R,I_ d,I_ f,I_ a,.slice B A D,.slice G o wc,.string J,I_ x,I_ y] 93))):=bA_;have e7:(w.alloc (.cells #[I_ 2,I_ S,I_ O,.slice N Q R,I_ d,I_ f,I_ a,.slice B A D,.slice G o wc,.string J,I_ x,I_ y] 93)).cell? (A_ w.heap.size 7)=some (.slice B A D):=s_;have e8:(w.alloc (.cells #[I_ 2,I_ S,I_ O,.slice N Q R,I_ d,I_ f,I_ a,.slice B A D,.slice G o wc,.string J,I_ x,I_ y] 93)).cell? (A_ w.heap.size 8)=some (.slice G o wc):=s_
 have b5:(w.alloc (.cells #[I_ 2,I_ S,I_ O,.slice N Q R,I_ d,I_ f,I_ a,.slice B A D,.slice G o wc,.string J,I_ x,I_ y] 93)).heap.size=w.heap.size+1:=s_;go_enter Tryz.func70,Tryz.ntmps70;go_wp2_with fail
 generalize w.alloc (.cells #[I_ 2,I_ S,I_ O,.slice N Q R,I_ d,I_ f,I_ a,.slice B A D,.slice G o wc,.string J,I_ x,I_ y] 93)=wb at *;refine(sv _ _ _ _ _ (Eo HV Y F) aO Z).mono ?_;rintro e w1 ⟨o1,rfl,a3,t⟩;obtain⟨a1,c1,rfl,_⟩:=a3.view;have C:=x1_ a3;have aZ:=x1_ t;have T:=x1_ (Y.trans (t.mono o_));have f7:=(t.cell (p:=(A_ w.heap.size 7)) t_).trans e7;have f8:=(t.cell (p:=(A_ w.heap.size 8)) t_).trans e8;have aU:w.heap.size+1<=w1.heap.size:=(by have:=t.size;omega);go_wp2_with fail
 refine(sv _ _ _ _ _ (Eo HW T E) aS lW).mono ?_;rintro e w2 ⟨o2,rfl,aA,m⟩;obtain⟨a2,c2,rfl,aP⟩:=aA.view;obtain⟨_,_,e1,aT⟩:=(C.below m).view;simp only[Value.slice.injEq] at e1;obtain⟨rfl,_,rfl⟩:=e1;have aM:=x1_ aT;have aH:=x1_ aP;have a5:=x1_ (C.below m);have I:=x1_ aA;have aR:=x1_ (T.trans (m.mono o_));have g7:=(m.cell (p:=(A_ w.heap.size 7)) t_).trans f7;have g8:=(m.cell (p:=(A_ w.heap.size 8)) t_).trans f8;have b3:=m.size;go_wp2_with fail
 refine(ZbZ _ _ _ _ _ _ _ _ _ aM aH Z lW).mono ?_;rintro e w3 ⟨v,M,rfl,hM,ho,n⟩;have HM:=x1_ hM;have a8:=x1_ ho;have X:=x1_ (a5.below n);have V:=x1_ (I.below n);have aC:=x1_ (aR.trans (n.mono o_));have h7:=(n.cell (p:=(A_ w.heap.size 7)) t_).trans g7;have h8:=(n.cell (p:=(A_ w.heap.size 8)) t_).trans g8;have aV:=n.size;have s:Hid (∀k,_->_/\k<_):=λk i=>⟨(C.own i).1,(C.own i).2.1⟩;have r:Hid (∀k,_->_/\k<_):=λk i=>⟨(I.own i).1,(I.own i).2.1⟩;go_wp2_with fail
 refine(kx _ _ _ _ _ _ _ X (Eo HV aC F) (λb off e h0=>by have:=F b off e h0;omega) Z).mono ?_;rintro e w4 ⟨rfl,l⟩;have a4:=x1_ (aC.grown l o_ (λk i=>by have:=s k i;omega));have k8:=l.cell h8 (λe=>by have:=s _ e.symm;grind);have k7:=l.cell h7 (λe=>by have:=s _ e.symm;grind);have aD:=x1_ (V.touch (Qm l) (λk i e=>by have h1:=s k e.symm;have h2:=r k i;omega));have aB:Hid (Aj w4 w2.heap.size v (Bv 0 M)):=(Qm l).row a8 (λk i e=>by have h1:=s k e.symm;have h2:=(rl_ a8 k i).1;omega);have aY:=l.size;go_wp2_with fail
 refine(kx _ _ _ _ _ _ _ aD (Eo HW a4 E) (λb off e h0=>by have:=E b off e h0;omega) lW).mono ?_;rintro e w5 ⟨rfl,q⟩;have H:=x1_ (a4.grown q o_ (λk i=>by have:=r k i;omega));have m8:=q.cell k8 (λe=>by have:=r _ e.symm;grind);have m7:=q.cell k7 (λe=>by have:=r _ e.symm;grind);have a0:Hid (Aj w5 w2.heap.size v (Bv 0 M)):=(Qm q).row aB (λk i e=>by have h1:=r k e.symm;have h2:=(rl_ aB k i).1;omega);have aW:=q.size;go_wp2_with fail
 refine(Qx _ _ _ D o wc vz wz _ (Eo HV H F) (Eo HW H E) Z lW).mono ?_;rintro e w6 ⟨u,M',rfl,aN,a6,a7⟩;obtain rfl:M'=M:=aN.unique HM;have aQ:Hid (Aj _ w.heap.size v _):=Nl (a0.below a7) o_;have aJ:Hid (Aj _ w.heap.size u _):=Nl a6 o_
 have aF:Hid (Ch v u):=by
  by_cases hv:v.ownBlock=none
  exact .inl hv;right;right;intro e;obtain⟨k,i⟩:=Option.ne_none_iff_exists'.1 hv;have h1:=(rl_ a0 k i).2;have h2:=(rl_ a6 k (e.symm.trans i)).1;omega
 have a9:=x1_ (H.trans (a7.mono o_));have aE:Hid (Yg U (Bv 0 M')):=⟨HM.good (by rw[HV.1];exact Z),Zf6 HM HZ⟩;have W:(Bv 0 M').length<=4194304:=(by have:=aE.len;omega);go_wp2_with fail
 refine(ZdM g c Ls P v u _ w w6 HS.1 a9 aQ aJ aF W o_).mono ?_;rintro e w7 ⟨rfl,c',aL,aK,aG,b6,aI⟩
 have HF:Hid (∃c' Ls' nx',Gv w7 g c' Ls' nx'/\(∀L∈Ls',Yg U L)/\nx'<=P+1/\(∀j,j≠0->j≠4->j≠5->j≠12->c'[j]? =c[j]?)/\Below g w w7/\Pp w w7):=
  ⟨c',_,P+1,aL,λL hL=>by rcases List.mem_append.1 hL with h|h;exact HS.2 L h;simp at h;rw[h];exact aE,Int.le_refl _,aK,(a9.mono o_).trans aG,aI⟩
 go_wp2;go_ret;exact⟨rfl,HF⟩
def Yi.of_below{U g c nx w w' Ls}(hS:Gv w g c Ls nx)(hG:∀L∈Ls,Yg U L)(hb:Below w.heap.size w w'):Yi U g c nx w (.returned (.bool true)) w':=
 ⟨rfl,c,Ls,nx,hS.below hb,hG,o_,λ_ _ _ _ _=>rfl,hb.mono (Nat.le_of_lt hS.lt),Pp.of_below hb⟩
def Yi.back{U g c d w j i e}(f:Below w.heap.size w j)(s:g<w.heap.size)(h:Yi U g c d j e i):Yi U g c d w e i:=by obtain⟨q,m,b,a,r,o,p,k,n,l⟩:=h;exact⟨q,m,b,a,r,o,p,k,(f.mono o_).trans n,(Pp.of_below f).trans l⟩
def ey(W:World) o n (h:W.heap.size=n):(W.alloc o).heap[n]? =some o:=by subst h;exact ha_ W o
def Gn(b:Nat):OpD:={kd:=2,pk:=0,bb:=0,fa:=none,fl:=0,fc:=0,bins:=0,size:=0,budget:=0,va:=some ⟨b,0,none⟩,vl:=3,vc:=3,wa:=some ⟨b+1,0,none⟩,wl:=3,wc:=3,st:=⟨#[]⟩,x:=0,y:=0,fw:=λ_=>false,fs:=λ_=>0,ft:=λ_=>0,vz:=[5,3,5],wz:=[1,2,4]}
def qh{w b}(G:ZkC w b):OpR b (Gn w.heap.size):=by
 have c:=G.size;refine⟨by simp[Gn],by simp[Gn,maxLen],by simp[Gn,maxLen],?_,?_,?_,λh=>by simp[Gn] at h,λh=>by simp[Gn] at h⟩;exact .inl rfl
 ·refine⟨rfl,(by intro z a;simp[Gn] at a;rcases a with rfl|rfl|rfl<;>decide),.inr ⟨w.heap.size,0,rfl,o_,λi hi=>?_⟩⟩;have h:i=0∨i=1∨i=2:=by simp[Gn] at hi;omega
  rcases h with rfl|rfl|rfl
  exact G.v0;exact G.v1;exact G.v2
 refine⟨rfl,(by intro z a;simp[Gn] at a;rcases a with rfl|rfl|rfl<;>decide),.inr ⟨w.heap.size+1,0,rfl,o_,λi hi=>?_⟩⟩;have h:i=0∨i=1∨i=2:=by simp[Gn] at hi;omega
 rcases h with rfl|rfl|rfl
 exact G.u0;exact G.u1;exact G.u2
def OpR.below{w w' d}(h:OpR w d)(hb:Below w.heap.size w w'):OpR w' d:=
 ⟨h.fl,h.vl,h.wl,h.feats.below hb,Eo h.vz hb (Rp h.vz),Eo h.wz hb (Rp h.wz),h.vnil,h.wnil⟩
def Zgm(w:World):Gv (w.alloc (.cells #[.slice none 0 0,.slice none 0 0,.slice none 0 0,.slice none 0 0,.slice none 0 0,.slice none 0 0,.slice none 0 0,.slice none 0 0,.slice none 0 0,.slice none 0 0,.slice none 0 0,.slice none 0 0,I_ 0] 90)) w.heap.size #[.slice none 0 0,.slice none 0 0,.slice none 0 0,.slice none 0 0,.slice none 0 0,.slice none 0 0,.slice none 0 0,.slice none 0 0,.slice none 0 0,.slice none 0 0,.slice none 0 0,.slice none 0 0,I_ 0] [] 0:=by refine⟨.slice _ 0 0,.slice _ 0 0,.slice _ 0 0,[],[],[],ha_ w _,rfl,rfl,rfl,rfl,rfl,rn_,rn_,Ag.nil _ _,.inl rfl,rfl,rfl,s_,s_,λi hi=>by simp at hi,λi hi=>by simp at hi⟩
def Yf(w:World)(g N:Nat)(f:Nat->Bool×Int×Int):Prop:=∃cur:Array Value,w.heap[g]? =some (.cells cur 51 (0,0))/\cur.size=N*3/\∀i,i<N->cur[i*3]? =some (.bool (f i).1)/\cur[i*3+1]? =some (I_ (f i).2.1)/\cur[i*3+2]? =some (I_ (f i).2.2)
section
variable {w w':World} {g N:Nat} {f:Nat->Bool×Int×Int}
def Yf.lt(h:Yf w g N f):g<w.heap.size:=by
 obtain⟨a,b,_⟩:=h
 grind
def Yf.cells(h:Yf w g N f){i}(b:i<N):w.cell? (A_ g (i*3))=some (.bool (f i).1)/\w.cell? (A_ g (i*3+1))=some (I_ (f i).2.1)/\w.cell? (A_ g (i*3+2))=some (I_ (f i).2.2)/\∀o,w.frozen? (A_ g o)=false:=by
 obtain⟨a,d,e,c⟩:=h
 grind [cell_of_row,frozen_of_row]
def Yf.put(h:Yf w g N f){k}(n:k<N) a b c:Yf (((w.setCell (A_ g (k*3)) (.bool a)).setCell (A_ g (k*3+1)) (I_ b)).setCell (A_ g (k*3+2)) (I_ c)) g N (λi=>if i=k then(a,b,c) else f i):=by
 obtain⟨d,l,m,j⟩:=h;refine⟨_,hs_ _ g _ _ _ _ (hs_ _ g _ _ _ _ (hs_ _ g _ _ _ _ l)),by simp[m],λi hi=>?_⟩
 by_cases e:i=k
 ·subst e;simp only[if_true];refine⟨?_,?_,?_⟩
  ·grind
  ·grind
  grind
 simp only[if_neg e];obtain⟨x,y,z⟩:=j i hi;refine⟨?_,?_,?_⟩;rw[Array.getElem?_setIfInBounds_ne o_,Array.getElem?_setIfInBounds_ne o_,Array.getElem?_setIfInBounds_ne o_];exact x;rw[Array.getElem?_setIfInBounds_ne o_,Array.getElem?_setIfInBounds_ne o_,Array.getElem?_setIfInBounds_ne o_];exact y;rw[Array.getElem?_setIfInBounds_ne o_,Array.getElem?_setIfInBounds_ne o_,Array.getElem?_setIfInBounds_ne o_];exact z
def Yf.touch{S}(h:Yf w g N f)(t:Aa S w w')(c:¬S g):Yf w' g N f:=by obtain⟨a,b,d⟩:=h;exact⟨a,t.at_ b c,d⟩
def Yf.below(h:Yf w g N f)(hb:Below w.heap.size w w'):Yf w' g N f:=h.touch (.of_below (S:=λ_=>False) hb) id
def Yf.congr{b}(h:Yf w g N f)(e:∀i,i<N->b i=f i):Yf w g N b:=by obtain⟨a,c,d,j⟩:=h;exact⟨a,c,d,λi hi=>w_⟩
def Yf.feats(h:Yf w g N f){n c b a}(j:n<=N)(d:n<=maxLen)(e:∀i,i<n->f i=(c i,b i,a i)):Dd w g 0 n c b a:=by
 refine⟨d,λ_=>h.lt,λi hi=>?_,λi hi=>?_,λi hi=>?_⟩
 ·have:=(h.cells (i:=i) o_).1
  grind
 ·have:=(h.cells (i:=i) o_).2.1
  grind
 have:=(h.cells (i:=i) o_).2.2.1
 grind
end
def Qt(n:Nat)(wd:Nat->Bool)(sc ct:Nat->Int)(m i:Nat):Bool×Int×Int:=if i<n then(wd i,sc i,ct i) else if i<n+m then(false,0,-7-i) else(false,0,0)
def ZfI n c b a m i:Qt n c b a (m+1) i=if i=n+m then(false,0,-7-((n+m:Nat):Int)) else Qt n c b a m i:=by grind [Qt]
def ZaR(wd:Nat->Bool)(sc ct:Nat->Int)(j:Nat):Value:=if j%3=0 then .bool (wd (j/3)) else if j%3=1 then I_ (sc (j/3)) else I_ (ct (j/3))
def Xe p n c y x u w (h:Dd w p.block p.off n y x u)(hp:0<n->p=(A_ p.block p.off))(hl:n<=2097152):C_ 122 #[.slice (some p) n c] w λe w'=>e=.returned (.slice (some ⟨w.heap.size,0,none⟩) n (n+8))/\Yf w' w.heap.size (n+8) (Qt n y x u 8)/\Below w.heap.size w w':=by
 obtain⟨i0,r,a1,N,a0⟩:=info_parts ZhT;obtain⟨b,a,Y⟩:=p
 have he:_:=λq=>by have:=hp q;injection this
 have h:Dd w b a n _ _ _:=h;clear hp;have a2:∀W:_,(binOp _ _ _ _).run _ W=.ok (.bool false) W:=λW=>Lib.run_eql_slice_nil W 35 _ (some ⟨b,a,Y⟩) n c 0 0 Tryz.underlying35;have J:∀W:World,(Instr.makeSlice 35 (I_ (n+8)) (I_ (n+8))).run Tryz.prog W=.ok (L_ W.heap.size (n+8) (n+8)) (W.alloc (.cells (madeCells #[.bool false,I_ 0,I_ 0] ((n+8)*3)) 51)):=(by intro W;have:=run_make (P:=Tryz.prog) W 35 51 i0 _ Tryz.underlying35 r a1 .i64 .i64 ((n:Int)+8) ((n:Int)+8) o_ o_ (by rw[a0];omega) o_;rw[N] at this;rw[this,show((n:Int)+8).toNat=n+8 by omega];rfl);obtain⟨d,f⟩:=ex_ (madeCells #[.bool false,I_ 0,I_ 0] ((n+8)*3))
 have G:∀i,i<n+8->d[i*3]? =some (.bool false)/\d[i*3+1]? =some (I_ 0)/\d[i*3+2]? =some (I_ 0):=λi z=>by rw[f];refine⟨?_,?_,?_⟩;simp[madeCells,show i*3<(n+8)*3 by omega,show i*3%3=0 by omega];simp[madeCells,show i*3+1<(n+8)*3 by omega,show(i*3+1)%3=1 by omega];simp[madeCells,show i*3+2<(n+8)*3 by omega,show(i*3+2)%3=2 by omega]
 have R:d.size=(n+8)*3:=(by rw[f];exact size_madeCells _ _);rw[<- f] at J
 obtain⟨Q,S,F,I⟩:∃Q:World,(Builtin.copy_ #[35,35] 3 #[L_ w.heap.size (n+8) (n+8),.slice (some ⟨b,a,Y⟩) n c]).run Tryz.prog (w.alloc (.cells d 51))=.ok (I_ n) Q/\Hid (Yf Q w.heap.size (n+8) (Qt n y x u 0))/\E_ w Q:=by
  have E:Below _ w (w.alloc (.cells d 51)):=bA_;have s:(w.alloc (.cells d 51)).heap[_]? =_:=ha_ w _;have o:Nat.min n (n+8)=n:=Nat.min_eq_left o_;obtain⟨g,L⟩:=ex_ ((List.range (n*3)).map (ZaR y x u));have B:g.length=n*3:=by rw[L];simp
  have l:∀j,j<n*3->g[j]? =some (ZaR y x u j):=λj hj=>w_
  have A:∀j v,g[j]? =some v->(w.alloc (.cells d 51)).cell? ((⟨b,a,Y⟩:Addr).add j)=some v:=λj v hj=>by
   have U:j<n*3:=w_;rw[he o_];rw[l j U] at hj;injection hj with hj;subst hj;have D:((A_ b a):Addr).add j=(A_ b (a+j)):=(by unfold Addr.add;split<;>simp_all);have z:j/3<n:=o_;have X:=h.lt o_;rw[D,E.cell (p:=(A_ b (a+j))) X];unfold ZaR
   rcases(show j%3=0∨j%3=1∨j%3=2 by omega) with e|e|e
   rw[if_pos e,show a+j=a+j/3*3 by omega];exact h.c0 _ z;rw[if_neg o_,if_pos e,show a+j=a+j/3*3+1 by omega];exact h.c1 _ z;rw[if_neg o_,if_neg o_,show a+j=a+j/3*3+2 by omega];exact h.c2 _ z
  have H:∀v∈g,v.oneCell'=true:=λv hv=>by rw[L] at hv;obtain⟨j,_,rfl⟩:=List.mem_map.1 hv;unfold ZaR;split;rfl;split<;>rfl
  have hr:=qp (P:=Tryz.prog) _ 35 35 3 _ _ _ _ (n+8) _ n c _ _ _ Tryz.underlying35 r s (by rw[o,N,B]) A o_ H;rw[o] at hr;refine⟨_,hr,?_,below_setRow E qa_ _⟩;have hh:=setRow_heap _ _ _ (d.toList.take 0++g++d.toList.drop (0+g.length)).toArray _ _ s;refine⟨_,hh,w_,λi z=>?_⟩
  have t:∀j,(d.toList.take 0++g++d.toList.drop (0+g.length)).toArray[j]? =if j<n*3 then g[j]? else d[j]?:=λj=>by
   simp only[List.take_zero,List.nil_append,Nat.zero_add,List.getElem?_toArray]
   by_cases hj:j<n*3
   ·grind
   grind
  rw[t,t,t];unfold Qt
  by_cases hin:i<n
  rw[if_pos (show i*3<n*3 by omega),if_pos (show i*3+1<n*3 by omega),if_pos (show i*3+2<n*3 by omega),if_pos hin,l _ o_,l _ o_,l _ o_];unfold ZaR;refine⟨?_,?_,?_⟩;rw[if_pos o_,show i*3/3=i by omega];rw[if_neg o_,if_pos o_,show(i*3+1)/3=i by omega];rw[if_neg o_,if_neg o_,show(i*3+2)/3=i by omega];rw[if_neg (show ¬i*3<n*3 by omega),if_neg (show ¬i*3+1<n*3 by omega),if_neg (show ¬i*3+2<n*3 by omega),if_neg hin,if_neg (show ¬i<n+0 by omega)];exact G i z
 clear G R h f he;go_enter Tryz.func122,Tryz.ntmps122;go_upto_region 6 with fail;go_loopw [4] (λti wr=>∃m:Nat,m<=8/\ti=.int .i64 ((n+m:Nat):Int)/\Hid (Yf wr w.heap.size (n+8) (Qt n y x u m))/\Hid (E_ w wr)) (λti _=>n+8-(intOf ti).toNat)
 case atStart=>exact⟨0,o_,s_,F,I⟩
 case round=>
  clear F I S J;obtain⟨m,hm,rfl,C,V⟩:=hrel;have a3:=C.lt
  by_cases hm8:m<8
  ·obtain⟨k,O⟩:=ey_ (n+m);have HP:Hid (Yf (((wr.setCell (A_ w.heap.size (k*3)) (.bool false)).setCell (A_ w.heap.size (k*3+1)) (I_ 0)).setCell (A_ w.heap.size (k*3+2)) (I_ (-7-k))) w.heap.size (n+8) (Qt n y x u (m+1))):=by refine(C.put (k:=k) o_ _ 0 _).congr (λi _=>?_);rw[ZfI,O]
   have Z:Hid (Below _ w (((wr.setCell (A_ w.heap.size (k*3)) (.bool false)).setCell (A_ w.heap.size (k*3+1)) (I_ 0)).setCell (A_ w.heap.size (k*3+2)) (I_ (-7-(k:Int))))):=((V.setCell qa_ _).setCell qa_ _).setCell qa_ _;obtain⟨c0,c1,c2,cf⟩:=C.cells (i:=k) o_;have a4:0<=(k:Int):=o_;have a5:k<(n:Int)+8:=o_;have M:=x1_ O;rw[O];have a7:k<=3000000:=o_;clear O C V;go_wp2;go_roundw;case rel=>exact⟨m+1,o_,by rw[<- Nat.add_assoc,M];go_num,HP,Z⟩
   case measure=>have:=M.out;simp[intOf];omega
  have T:m=8:=o_;subst T;have a6:¬(n+8:Nat)<(n:Int)+8:=o_;go_wp2;go_ret;exact⟨rfl,C,V⟩
def stF(n:Nat)(wd:Nat->Bool)(sc ct:Nat->Int)(k i:Nat):Bool×Int×Int:=if i<k then(false,0,-9) else Qt n wd sc ct 8 i
def ZiO n c b a k i:stF n c b a (k+1) i=if i=k then(false,0,-9) else stF n c b a k i:=by grind [stF]
def Wa p n c g m l f w (h:Dd w p.block p.off n m l f)(Q:0<n->p=(A_ p.block p.off))(T:n<=2097152)(N:Yf w g (n+8) (Qt n m l f 8))(B:0<n->p.block≠g):C_ 124 #[.slice (some ⟨g,0,none⟩) n (n+8),.slice (some p) n c] w λe w'=>e=.returned (.bool true)/\Aa (λk=>k=g) w w':=by
 obtain⟨b,d,P⟩:=p
 have J:Hid _:=λq=>by have:=Q q;injection this
 have x:Hid (Dd w b d n _ _ _):=h;have F:Hid (_->b≠g):=B;have z:Hid (Yf w g _ (stF n _ _ _ 0)):=N.congr (λi _=>by unfold stF;rw[if_neg o_]);have G:∀W:_,(binOp _ _ _ _).run _ W=.ok (.bool false) W:=λW=>Lib.run_eql_slice_nil W 35 _ (some ⟨b,d,P⟩) n c 0 0 Tryz.underlying35;go_enter Tryz.func124,Tryz.ntmps124;go_upto_region 6 with fail;go_loopw [6,7] (λtok ti wr=>∃k:Nat,k<=n+8/\tok=.bool true/\ti=.int .i64 k/\Hid (Yf wr g (n+8) (stF n m l f k))/\Hid (Aa (λk=>k=g) w wr)) (λ_ ti _=>n+8-(intOf ti).toNat)
 case atStart=>exact⟨0,qg_,rfl,rfl,z,Aa.refl _ _⟩
 case round=>
  obtain⟨k,L,rfl,rfl,H,s⟩:=hrel
  by_cases hk:k<n+8
  ·have I:0<=(k:Int):=o_;have M:k<(n:Int)+8:=o_;obtain⟨t,v,u,R⟩:=H.cells (i:=k) hk;have E:stF n m l f k k=Qt n m l f 8 k:=(by unfold stF;grind);rw[E] at t v u
   have y:Hid (∀j,_/\Aa _ w ((((wr.drewN j).setCell _ (.bool false)).setCell _ (I_ 0)).setCell _ (I_ (-9)))):=λj=>
    ⟨((H.below (below_drewN bz_ j)).put hk _ 0 _).congr (λi _=>ZiO n m l f k i),(((s.below (below_drewN bz_ j)).setCell (p:=(A_ g (k*3))) (λ_=>rfl) _).setCell (p:=(A_ g (k*3+1))) (λ_=>rfl) _).setCell (p:=(A_ g (k*3+2))) (λ_=>rfl) _⟩
   by_cases hkn:k<n
   ·have D:k<(n:Int):=o_;have C:Qt n m l f 8 k=(m k,l k,f k):=(by unfold Qt;rw[if_pos hkn]);rw[C] at t v u;simp only at t v u;have o:=x.lt o_;have r:=F o_;have A:=J o_;subst A;have U:=(cb_ (w:=w) (a:=(A_ b (d+k*3))) (s.block b o r)).trans (x.c0 k hkn);have S:=(cb_ (w:=w) (a:=(A_ b (d+k*3+1))) (s.block b o r)).trans (x.c1 k hkn);have V:=(cb_ (w:=w) (a:=(A_ b (d+k*3+2))) (s.block b o r)).trans (x.c2 k hkn);generalize m k=xw,l k=xs,f k=xc at *;go_upto_region 9 with fail;go_quiet (fail);refine rd_ ?_;exact⟨k+1,o_,s_,g_,(y _).1,(y _).2⟩
   have D:¬k<(n:Int):=o_;have C:Qt n m l f 8 k=(false,0,-7-(k:Int)):=(by unfold Qt;grind);rw[C] at t v u;simp only at t v u;refine rd_ ?_;exact⟨k+1,o_,s_,g_,(y 0).1,(y 0).2⟩
  have O:¬k<(n:Int)+8:=o_;go_wp2;go_ret;exact⟨rfl,s⟩
section
variable {w w':World} {base n c:Nat} {a:Option Addr} {o:Value} {wd:Nat->Bool} {sc ct:Nat->Int}
def Kt(w:World)(base:Nat)(o:Value)(a:Option Addr)(n:Nat)(wd:Nat->Bool)(sc ct:Nat->Int):Prop:=
 (a=none/\n=0/\o=.slice none 0 0)∨∃p g,a=some p/\o=L_ g n (n+8)/\base<=g/\g<w.heap.size/\Yf w g (n+8) (Qt n wd sc ct 8)
def Kt.touch{S}(h:Kt w base o a n wd sc ct)(t:Aa S w w')(e:∀k,base<=k->¬S k):Kt w' base o a n wd sc ct:=by
 rcases h with h|⟨p,g,d,i,b,c,f⟩
 exact .inl h;exact .inr ⟨p,g,d,i,b,Qh c t.size,f.touch t (e g b)⟩
def Kt.own(h:Kt w base o a n wd sc ct){k}(b:o.ownBlock=some k):base<=k/\k<w.heap.size:=by
 rcases h with⟨_,_,rfl⟩|⟨p,g,_,rfl,h3,h4,_⟩
 ·cases b
 have:some g=some k:=b
 grind
def Kt.below(h:Kt w base o a n wd sc ct)(b:Below w.heap.size w w'):Kt w' base o a n wd sc ct:=by
 rcases h with h|⟨p,g,e,i,c,d,f⟩
 exact .inl h;exact .inr ⟨p,g,e,i,c,Qh d b.size,f.below b⟩
def Kt.shape(h:Kt w base o a n wd sc ct):∃a' c',o=.slice a' n c':=by
 rcases h with⟨_,rfl,rfl⟩|⟨p,g,_,rfl,_⟩
 ·grind
 grind
def Kt.view{b c}(h:Kt w base (.slice b n c) a n wd sc ct)(d:n<=2097152):Ej w b n wd sc ct:=by
 rcases h with⟨_,h0,_⟩|⟨p,g,_,h2,_,_,h5⟩
 exact .inl h0;injection h2 with h2;exact .inr ⟨g,0,h2,h5.feats o_ m_ (λi hi=>by unfold Qt;rw[if_pos hi])⟩
def Xf n c w:C_ 122 #[.slice none n c] w λe w'=>e=.returned (.slice none 0 0)/\w'=w:=by have a:∀W:_,(binOp _ _ _ _).run _ W=.ok (.bool true) W:=λW=>Lib.run_eql_slice_nil W 35 _ none n c 0 0 Tryz.underlying35;go_enter Tryz.func122,Tryz.ntmps122;go_wp2;go_ret;exact⟨rfl,rfl⟩
def Wb o n c w:C_ 124 #[o,.slice none n c] w λe w'=>e=.returned (.bool true)/\w'=w:=by have a:∀W:_,(binOp _ _ _ _).run _ W=.ok (.bool true) W:=λW=>Lib.run_eql_slice_nil W 35 _ none n c 0 0 Tryz.underlying35;go_enter Tryz.func124,Tryz.ntmps124;go_wp2;go_ret;exact⟨rfl,rfl⟩
def Ej.at{p}(h:Ej w (some p) n wd sc ct)(d:n<=2097152):Dd w p.block p.off n wd sc ct/\(0<n->p=(A_ p.block p.off)):=by
 rcases h with rfl|⟨b,a,e,c⟩
 exact⟨⟨o_,λh=>o_,λi hi=>o_,λi hi=>o_,λi hi=>o_⟩,λh=>o_⟩
 grind
def su a n c g d b w (h:Ej w a n g d b)(i:n<=2097152):C_ 122 #[.slice a n c] w λe w'=>∃o,e=.returned o/\Kt w' w.heap.size o a n g d b/\Below w.heap.size w w':=by
 cases a with
 | none=>
  refine(Xf n c w).mono ?_;rintro e w' ⟨rfl,rfl⟩;refine⟨_,rfl,.inl ⟨rfl,?_,rfl⟩,bz_⟩
  rcases h with h|⟨_,_,e,_⟩
  exact h
  cases e
 | some p=>
  obtain⟨k,l⟩:=h.at i;refine(Xe p n c _ _ _ w k l i).mono ?_;rintro e w' ⟨rfl,f,j⟩;exact⟨_,rfl,.inr ⟨p,w.heap.size,rfl,rfl,qa_,f.lt,f⟩,j⟩
def kw a n c b i f d o w (h:Kt w b o a n i f d)(m:Ej w a n i f d)(l:∀p,a=some p->0<n->p.block<b)(j:n<=2097152):C_ 124 #[o,.slice a n c] w λe w'=>e=.returned (.bool true)/\Aa (λk=>o.ownBlock=some k) w w':=by
 rcases h with⟨rfl,rfl,rfl⟩|⟨p,g,rfl,rfl,h3,h4,h5⟩
 ·refine(Wb _ _ c w).mono ?_
  grind [Aa.refl]
 obtain⟨r,s⟩:=m.at j;refine(Wa p n c g _ _ _ w r s j h5 (λh0=>w_)).mono ?_;rintro e w' ⟨rfl,q⟩;exact⟨rfl,q.mono (λk _ e=>by subst e;rfl)⟩
end
end Go.Proofs.YtfcgnpchbcmdeaaGreat
