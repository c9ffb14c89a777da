import Derived.Test.YtfcgnpchbcmdeaaGreatZraz
import Derived.Test.YtfcgnpchbcmdeaaGreatZrba
namespace Go.Proofs.YtfcgnpchbcmdeaaGreat
set_option linter.all false
set_option maxRecDepth 100000
set_option maxHeartbeats 8000000
open Go.RowKit
def Cc(w:World)(base:Nat)(v:Value)(ss:List ByteArray):Prop:=w.ownsRow base 9 1 v ss.length (ss.map Value.string)
def Cc.nil w base:Cc w base (.slice none 0 0) []:=World.ownsRow_nil w base 9 1
structure ES where
 wd:Bool
 bs:List Int
 ww:List ByteArray
def ES.cnt(e:ES):Nat:=La e.wd e.bs.length e.ww.length
def Tb(w:World)(base:Nat)(v:Value)(e:ES):Prop:=∃vb vw,v=.agg #[.bool e.wd,vb,vw]/\Ag w base vb e.bs/\Cc w base vw e.ww
def Dy(e:ES)(v:VS):Nat:=if v.miss=true then e.cnt+1 else if e.wd=true then e.ww.findIdx (λy=>decide (y=v.word)) else e.bs.countP (λb=>decide (b<v.num))
def Cc.below{w w' base v L}(h:Cc w base v L)(hb:Below w.heap.size w w'):Cc w' base v L:=(Aa.of_below (S:=λ_=>False) hb).row h (λ_ _=>id)
def Tb.below{w b base v e}(h:Tb w base v e)(a:Below w.heap.size w b):Tb b base v e:=by obtain⟨f,g,d,i,c⟩:=h;exact⟨f,g,d,i.below a,c.below a⟩
def Ag.shape{w b v L}(h:Ag w b v L):∃a c,v=.slice a L.length c:=by
 rcases h.2 with⟨rfl,h0⟩|⟨q,p,cur,rfl,_⟩
 ·grind
 grind
def Cc.form{w b v L}(h:Cc w b v L):∃a c,v=.slice a L.length c:=by
 rcases h.2 with⟨rfl,h0⟩|⟨q,p,cur,rfl,_⟩
 ·grind
 grind
def Tb.form{w a v e}(h:Tb w a v e):∃ab cb aw cw,v=.agg #[.bool e.wd,.slice ab e.bs.length cb,.slice aw e.ww.length cw]/\Ag w a (.slice ab e.bs.length cb) e.bs/\Cc w a (.slice aw e.ww.length cw) e.ww:=by
 obtain⟨f,g,d,c,b⟩:=h;obtain⟨ab,cb,rfl⟩:=c.shape;obtain⟨aw,cw,rfl⟩:=b.form
 grind
def ZdD a c i d x w (h:Ag w i (.slice a d.length c) d)(m:d.Pairwise (· <= ·))(l:d.length<=1000000):C_ 275 #[.slice a d.length c,.int .i64 x] w λe w'=>(∃f,e=.returned (.tuple #[.int .i64 (d.countP (λb=>decide (b<x)):Nat),.bool f]))/\Below w.heap.size w w':=by
 have k:=h
 rcases h.2 with⟨e,h0⟩|⟨g,cap,cur,e,_,hh,hnc,_⟩
 ·rw[h0];refine(Tryz.slices_BinarySearch_int_empty a c x w).mono ?_
  grind [br_]
 injection e with e1 e2 e3;subst e1 e3;refine(Tryz.slices_BinarySearch_int g 0 _ c _ x w qa_ o_ (λj hj=>?_) w_).mono ?_
 ·rw[Nat.zero_add,World.ownsRow.cellAt k j o_]
  grind
 grind [below_drewN,br_]
def Zi v x a e (s:VS) w (h:Tb w a v e)(l:e.bs.Pairwise (· <= ·))(j:e.bs.length<=1000000)(g:x=.agg #[.bool s.miss,I_ s.num,.string s.word]):C_ 218 #[v,x] w λr w'=>r=.returned (.int .i64 (e.bs.countP (λb=>decide (b<s.num)):Nat))/\Below w.heap.size w w':=by
 obtain⟨u,t,p,o,rfl,i,_⟩:=h.form;subst g;have k:=x1_ (λW hW=>ZdD _ _ _ _ s.num W (i.below hW) l j);generalize e.bs.countP (λb=>decide (b<s.num))=r,e.bs.length=n at *;go_enter Tryz.func218,Tryz.ntmps218;go_wp2_with fail
 refine(k _ (bA_.alloc s_ _)).mono ?_;rintro q m ⟨⟨f,rfl⟩,d⟩;have c:=(bA_.alloc s_ _).trans (d.mono t_);go_wp2;go_ret;exact⟨rfl,c⟩
def Za4:∀(ss:List ByteArray) (x:ByteArray) (i:Nat),(if 0<=Lib.idxFromS ss x i then Lib.idxFromS ss x i else((i+ss.length:Nat):Int))=((i+ss.findIdx (λy=>decide (y=x)):Nat):Int)
 |[],x,i=>by simp[Lib.idxFromS]
 | z::ss,x,i=>by
  have ih:=Za4 ss x (i+1)
  by_cases e:z=x
  subst e;simp[Lib.idxFromS,List.findIdx_cons];simp only[Lib.idxFromS,List.findIdx_cons,e,decide_false,cond_false,List.length_cons,if_false];omega
def ZfC a c d b x w (h:Cc w d (.slice a b.length c) b)(i:b.length<=1000000):C_ 267 #[.slice a b.length c,.string x] w λe w'=>e=.returned (.int .i64 (Lib.idxOfS b x))/\w'=w:=by
 have f:=h
 rcases h.2 with⟨e,h0⟩|⟨g,cap,cur,e,_,hh,hnc,_⟩
 rw[h0];have:b=[]:=List.length_eq_zero_iff.1 h0;subst this;exact Tryz.slices_Index_string_empty a c x w;injection e with e1 e2 e3;subst e1 e3
 have:=Tryz.slices_Index_string g 0 b.length c b x w qa_ o_ (λj hj=>by
  rw[Nat.zero_add,World.ownsRow.cellAt f j o_]
  grind)
 rw[List.take_length] at this;exact this
def oy v x b e (s:VS) w (h:Tb w b v e)(l:e.ww.length<=1000000)(j:x=.agg #[.bool s.miss,I_ s.num,.string s.word]):C_ 213 #[v,x] w λr w'=>r=.returned (.int .i64 (e.ww.findIdx (λy=>decide (y=s.word)):Nat))/\Below w.heap.size w w':=by
 obtain⟨u,t,p,m,rfl,_,k⟩:=h.form;subst j;have g:=x1_ (λW hW=>ZfC _ _ _ _ s.word W (k.below hW) l);have a:=Za4 e.ww s.word 0;simp only[Nat.zero_add] at a;have o:Hid ((if 0<=Lib.idxOfS _ _ then Lib.idxOfS _ _ else _)=_):=a;generalize e.ww.findIdx (λy=>decide (y=s.word))=r,Lib.idxOfS e.ww s.word=d,e.ww.length=n at *
 by_cases hd:0<=d
 ·have c:¬d<0:=o_;have f:Hid (d=r):=w_;go_enter Tryz.func213,Tryz.ntmps213;go_wp2_with fail
  refine(g _ (bA_.alloc s_ _)).mono ?_;rintro q i ⟨rfl,rfl⟩;go_wp2;go_ret;exact⟨by rw[f];rfl,(bA_.alloc s_ _)⟩
 have c:d<0:=o_;have f:Hid (n=(r:Int)):=w_;go_enter Tryz.func213,Tryz.ntmps213;go_wp2_with fail
 refine(g _ (bA_.alloc s_ _)).mono ?_;rintro q i ⟨rfl,rfl⟩;go_wp2;go_ret;exact⟨by rw[f];rfl,(bA_.alloc s_ _)⟩
structure Ol(e:ES):Prop where
 rise:e.bs.Pairwise (· <= ·)
 lb:e.bs.length<=1000
 lw:e.ww.length<=1000
def Zcz{p:Prop}(h:p:=by
 rintro q w1 ⟨rfl,hb1⟩;have hb2:=(bA_.alloc s_ _).trans (hb1.mono t_);go_wp2;go_ret
 exact⟨by rw[HB2];rfl,hb2⟩):p:=h
def Zjr v x c m e s w (h:Tb w c v e)(d:Ol e)(l:x=.agg #[.bool s.miss,I_ s.num,.string s.word])(i:w.cell? (A_ m 0)=some (.func (.func (if e.wd=true then 213 else 218)) #[] #[]))(z:m<w.heap.size):C_ 266 #[v,x,.pointer (some ⟨m,0,none⟩)] w λr w'=>r=.returned (.int .i64 (Dy e s:Nat))/\Below w.heap.size w w':=by
 obtain⟨G,F,E,D,n,_,_⟩:=h.form
 have f:Hid (∀W:World,C_ 191 #[v] W λr w'=>r=.returned (.int .i64 (e.cnt+1))/\E_ W w'):=λW=>by rw[n];exact Yv _ _ _ _ _ _ _ W (by have:=d.lb;have:=d.lw;unfold La;split<;>omega)
 have j:=x1_ (λW hW=>Zi v x _ e s W (h.below hW) d.rise (by have:=d.lb;omega) l);have k:=x1_ (λW hW=>oy v x _ e s W (h.below hW) (by have:=d.lw;omega) l);have g:Hid (Dy e s=if _=_ then _ else _):=rfl;subst n l;obtain⟨u,t,o⟩:=s;simp only at f j k g ⊢;generalize e.ww.findIdx (λy=>decide (y=o))=r1,e.bs.countP (λb=>decide (b<t))=r2,Dy e ⟨u,t,o⟩=r,e.cnt=cn at *;obtain⟨A,C,B⟩:=e;simp only at f j k g i ⊢;generalize C.length=nb,B.length=nw at *
 cases u with
 | true=>
  have HB2:Hid (r=cn+1):=w_;go_enter Tryz.func266,Tryz.ntmps266;go_wp2_with fail
  refine(f _).mono ?_;exact Zcz
 | false=>
  have a:=g.out;rw[if_neg d_] at a
  cases A with
  | true=>
   have HB2:Hid (r=r1):=(by rw[if_pos rfl] at a;exact a);rw[if_pos rfl] at i;go_enter Tryz.func266,Tryz.ntmps266;go_wp2_with fail
   refine(k _ (bA_.alloc s_ _)).mono ?_;exact Zcz
  | false=>
   have HB2:Hid (r=r2):=(by rw[if_neg d_] at a;exact a);rw[if_neg d_] at i;go_enter Tryz.func266,Tryz.ntmps266;go_wp2_with fail
   refine(j _ (bA_.alloc s_ _)).mono ?_;exact Zcz
def Qu u n:(madeCells #[u] n).toList=List.replicate n u:=by apply List.ext_getElem;simp[madeCells];intro i b a;simp[madeCells,Nat.mod_one]
def Kr(n:Nat)(f:n<=1000000) W:(Instr.makeSlice 25 (I_ n) (I_ n)).run Tryz.prog W=.ok (L_ W.heap.size n n) (W.alloc (.cells (madeCells #[I_ 0] n) 3)):=by obtain⟨e,a,d,c,b⟩:=info_parts Su;have:=run_make (P:=Tryz.prog) W 25 3 e _ Tryz.underlying25 a d .i64 .i64 (n:Int) (n:Int) o_ o_ (by rw[b];omega) o_;rw[c] at this;rw[this,Int.toNat_natCast,Nat.mul_one];rfl
def Kq n (W:World) a (c:n<=1000000)(b:a<=W.heap.size):Ag (W.alloc (.cells (madeCells #[I_ 0] n) 3)) a (L_ W.heap.size n n) (List.replicate n 0):=by
 have:=World.ownsRow_lit (a:=a) (size:=1) (e:=3) W (madeCells #[I_ 0] n) n b m_ (by simp[madeCells]);rw[Qu] at this;unfold Ag
 simpa using this
def Ag.put{w a g b n k c}(h:Ag w a (L_ g n b) c)(f:n=c.length) z:Ag (w.setCell (A_ g k) (I_ z)) a (L_ g n b) (c.set k z)/\w.grownBy (w.setCell (A_ g k) (I_ z)) (some g):=by subst f;obtain⟨e,d⟩:=World.ownsRow.stored h k (I_ z);refine⟨?_,d⟩;unfold Ag;rw[List.length_set,List.map_set];exact e
def Ag.cellK{w a g b n k c}(h:Ag w a (L_ g n b) c)(d:n=c.length)(e:k<n):w.cell? (A_ g k)=some (I_ (c.getD k 0))/\w.frozen? (A_ g k)=false:=by
 subst d;refine⟨?_,World.ownsRow.frozenAt h k⟩;rw[World.ownsRow.cellAt h k o_]
 grind
def Eu(f:Nat->Int)(n k:Nat):List Int:=(List.range k).map f++List.replicate (n-k) 0
def Nb f {n k}(h:k<=n):(Eu f n k).length=n:=by simp[Eu];omega
def Nu f n:Eu f n 0=List.replicate n 0:=by simp[Eu]
def Nt f n:Eu f n n=(List.range n).map f:=by simp[Eu]
def Rm f {n k}(h:k<n):(Eu f n k).set k (f k)=Eu f n (k+1):=by unfold Eu;rw[show n-k=n-(k+1)+1 by omega,List.replicate_succ,List.set_append_right _ _ s_,List.length_map,List.length_range,Nat.sub_self,List.set_cons_zero,List.range_succ,List.map_append,List.append_assoc];rfl
def jr{α β:Type}(g:α->β) d (L:List α):(List.range L.length).map (λi=>g (L.getD i d))=L.map g:=by
 apply List.ext_getElem;simp
 grind
def ZgX v0 v1 ve D l va n y e L w (hE:Tb w D ve e)(hk:Ol e)(hv:Ir w 0 (.slice va n y) L)(hL:L.length=n)(hn:n<=200)(X:∃f c,v0=.func f #[] c)(U:∃f c,v1=.func f #[] c)(hc:w.cell? (A_ l 0)=some (.func (.func (if e.wd=true then 213 else 218)) #[] #[]))(m:l<w.heap.size):C_ 156 #[.agg #[v0,v1,.func (.func 266) #[] #[.pointer (some ⟨l,0,none⟩)]],ve,.slice va n y] w λr w'=>∃v,r=.returned v/\Ag w' w.heap.size v (L.map (λx=>(Dy e x:Nat)))/\Below w.heap.size w w':=by
 obtain⟨ab,cb,aw,cw,N,_,_⟩:=hE.form;have A:=x1_ (λW s hW=>Zjr _ _ _ _ e s W (hE.below hW) hk rfl ((hW.cell (p:=(A_ l 0)) m).trans hc) (Qh m hW.size));have HV:=x1_ hv;have S:=x1_ hL;have a8:=Kr n o_;obtain⟨f0,g0,rfl⟩:=X;obtain⟨f1,g1,rfl⟩:=U;have o:Hid (L.map (λx=>((Dy e x:Nat):Int))=Eu (λi=>(Dy e (L.getD i Ax):Nat)) n n):=(by show _=_;rw[Nt,<- hL,jr (λx=>((Dy e x:Nat):Int)) Ax L]);subst N;generalize e.bs.length=nb,e.ww.length=nw,e.wd=ew at *;obtain⟨G,b⟩:=ex_ ((w.alloc (.cells #[.func f0 #[] g0,.func f1 #[] g1,.func (.func 266) #[] #[P_ l]] 263)).alloc (.cells #[.bool ew,.slice ab nb cb,.slice aw nw cw] 170));have B:Hid (E_ w G):=by show Below _ _ _;rw[b];exact bA_.alloc s_ _
 have C:G.heap.size=w.heap.size+1+1:=(by rw[b];simp);go_enter Tryz.func156,Tryz.ntmps156;go_wp2_with fail
 go_loopw [15] (λti wr=>∃k:Nat,ti=.int .i64 k/\k<=n/\Hid (Ag wr (w.heap.size+1+1) (.slice (some ⟨w.heap.size+1+1,0,none⟩) n n) (Eu (λi=>((Dy e (L.getD i Ax):Nat):Int)) n k))/\Hid (Below (w.heap.size+1+1) G wr)) (λti _=>n-(intOf ti).toNat)
 case atStart=>
  refine⟨0,rfl,qg_,?_,?_⟩;rw[Nu];have:=Kq n G (w.heap.size+1+1) o_ o_;rw[C,b] at this;exact this;show Below _ _ _;rw[b];exact bz_.alloc s_ _
 case round=>
  obtain⟨k,rfl,hk,Z,T⟩:=hrel;have a:=T.out;have Q:=a.size;rw[C] at Q;have d0:wr.cell? _=some (.func (.func 266) #[] #[P_ l]):=(a.cell (p:=(A_ w.heap.size 2)) w_).trans (by rw[b];simp[go_sem]);have d1:wr.cell? _=some (.bool ew):=(a.cell (p:=(A_ (w.heap.size+1) 0)) w_).trans (by rw[b];simp[go_sem]);have d2:wr.cell? _=some (.slice ab nb cb):=(a.cell (p:=(A_ (w.heap.size+1) 1)) w_).trans (by rw[b];simp[go_sem]);have d3:wr.cell? _=some (.slice aw nw cw):=(a.cell (p:=(A_ (w.heap.size+1) 2)) w_).trans (by rw[b];simp[go_sem])
  by_cases hkn:k<n
  ·have O:k<L.length:=(by rw[S];exact hkn);obtain⟨q,rfl,g,c0,c1,c2⟩:=HV.at O;have d:=B.trans (a.mono o_);have a0:=(d.cell (p:=(A_ q (k*3))) g).trans c0;have a1:=(d.cell (p:=(A_ q (k*3+1))) g).trans c1;have a2:=(d.cell (p:=(A_ q (k*3+2))) g).trans c2;have J:=Nb (λi=>((Dy e (L.getD i Ax):Nat):Int)) (show k<=n by omega);have E:=Rm (λi=>((Dy e (L.getD i Ax):Nat):Int)) hkn;have t:=x1_ E;have u:=x1_ J.symm;generalize L.getD k Ax=x at *;obtain⟨xm,xn,xw⟩:=x;simp only at a0 a1 a2;have a7:0<=(k:Int):=o_;have a6:k<(n:Int):=o_;have P:=x1_ d;have M:=x1_ a;have a4:w.heap.size<wr.heap.size:=o_;have a3:w.heap.size+1<wr.heap.size:=o_;go_wp2_with fail
   refine(A _ ⟨xm,xn,xw⟩ (P.alloc o_ _)).mono ?_;rintro r w3 ⟨rfl,j⟩;have R:=j.size;simp at R;have z:=x1_ ((Z.alloc _).below j);have V:=z.cellK u hkn;obtain⟨a5,aA⟩:=V;have I:=M.trans (((bz_.alloc o_ _)).trans (j.mono t_));have H:=x1_ I;generalize (Eu (λi=>((Dy e (L.getD i Ax):Nat):Int)) n k)=F,Dy e ⟨xm,xn,xw⟩=r at *;generalize F.getD k 0=z0 at *;go_wp2;go_roundw
   case rel=>
    refine⟨k+1,g_,o_,?_,?_⟩;rw[<- t];exact(z.put u _).1;exact H.setCell qa_ _
   case measure=>exact z_
  have a9:¬k<(n:Int):=o_;have Y:Hid (Ag wr w.heap.size (L_ (w.heap.size+1+1) n n) (L.map (λx=>(Dy e x:Nat)))/\E_ w wr):=(by rw[o];have:k=n:=o_;subst this;exact⟨Z.mono o_,B.trans (a.mono o_)⟩);go_wp2;go_ret;exact⟨_,rfl,Y.1,Y.2⟩
def Av(B:List Nat):List Int:=B.map (λn:Nat=>n)
def Zlj(x d:Nat):((x !=(d:Int)))=decide (x≠d):=w_
def Aw B:(Av B).length=B.length:=by simp[Av]
def Cv B k:(Av B).getD k 0=(B.getD k 0:Nat):=by
 simp only[Av,List.getD,List.getElem?_map]
 grind
def Ag.atK{w b a n c d}(h:Ag w b (.slice a n c) d)(i:d.length=n){k}(f:k<n):∃q,a=some ⟨q,0,none⟩/\q<w.heap.size/\b<=q/\w.cell? (A_ q k)=some (I_ (d.getD k 0))/\w.frozen? (A_ q k)=false:=by
 rcases h.2 with⟨e,h0⟩|⟨g,cap,cur,e,hb,hh,hnc,_⟩
 omega
 grind [Ag.cellK]
def Ev(w:World)(base:Nat)(v:Value)(bs:List Bool):Prop:=w.ownsRow base 4 1 v bs.length (bs.map Value.bool)
def Ev.below{w w' base v L}(h:Ev w base v L)(hb:Below w.heap.size w w'):Ev w' base v L:=(Aa.of_below (S:=λ_=>False) hb).row h (λ_ _=>id)
def Ev.alloc{w base v zs}(h:Ev w base v zs) o:Ev (w.alloc o) base v zs:=ra_ h o
def Ev.mono{w b b' v L}(h:Ev w b' v L)(d:b<=b'):Ev w b v L:=by
 refine⟨h.1,?_⟩
 rcases h.2 with i|⟨g,c,a,e,f,r⟩
 exact .inl i;exact .inr ⟨g,c,a,e,Nat.le_trans d f,r⟩
def Ev.shape{w b v L}(h:Ev w b v L):∃a c,v=.slice a L.length c:=by
 rcases h.2 with⟨rfl,h0⟩|⟨q,p,cur,rfl,_⟩
 ·grind
 grind
def Ev.put{w a g b n k c}(h:Ev w a (L_ g n b) c)(f:n=c.length) z:Ev (w.setCell (A_ g k) (.bool z)) a (L_ g n b) (c.set k z)/\w.grownBy (w.setCell (A_ g k) (.bool z)) (some g):=by subst f;obtain⟨e,d⟩:=World.ownsRow.stored h k (.bool z);refine⟨?_,d⟩;unfold Ev;rw[List.length_set,List.map_set];exact e
def Ev.atK{w b a n c d}(h:Ev w b (.slice a n c) d)(f:d.length=n){k}(i:k<n):∃q,a=some ⟨q,0,none⟩/\q<w.heap.size/\b<=q/\w.cell? (A_ q k)=some (.bool (d.getD k false))/\w.frozen? (A_ q k)=false:=by
 rcases h.2 with⟨e,h0⟩|⟨g,cap,cur,e,hb,hh,hnc,_⟩
 omega;injection e with e1 e2 e3;subst e1 e3 f;refine⟨g,rfl,(Qb hh).1,hb,?_,World.ownsRow.frozenAt h k⟩;rw[World.ownsRow.cellAt h k o_]
 grind
def Tx(n:Nat)(f:n<=1000000) W:(Instr.makeSlice 101 (I_ n) (I_ n)).run Tryz.prog W=.ok (L_ W.heap.size n n) (W.alloc (.cells (madeCells #[.bool false] n) 4)):=by obtain⟨e,a,d,c,b⟩:=info_parts ZkJ;have:=run_make (P:=Tryz.prog) W 101 4 e _ Tryz.underlying101 a d .i64 .i64 (n:Int) (n:Int) o_ o_ (by rw[b];omega) o_;rw[c] at this;rw[this,Int.toNat_natCast,Nat.mul_one];rfl
def Tv n (W:World) a (c:n<=1000000)(b:a<=W.heap.size):Ev (W.alloc (.cells (madeCells #[.bool false] n) 4)) a (L_ W.heap.size n n) (List.replicate n false):=by
 have:=World.ownsRow_lit (a:=a) (size:=1) (e:=4) W (madeCells #[.bool false] n) n b m_ (by simp[madeCells]);rw[Qu] at this;unfold Ev
 simpa using this
def Ow(f:Nat->Bool)(n k:Nat):List Bool:=(List.range k).map f++List.replicate (n-k) false
def Zfp f {n k}(h:k<=n):(Ow f n k).length=n:=by simp[Ow];omega
def ZcW f n:Ow f n 0=List.replicate n false:=by simp[Ow]
def ZcV f n:Ow f n n=(List.range n).map f:=by simp[Ow]
def Zfq f {n k}(h:k<n):(Ow f n k).set k (f k)=Ow f n (k+1):=by unfold Ow;rw[show n-k=n-(k+1)+1 by omega,List.replicate_succ,List.set_append_right _ _ s_,List.length_map,List.length_range,Nat.sub_self,List.set_cons_zero,List.range_succ,List.map_append,List.append_assoc];rfl
def Dc(B:List Nat)(d:Nat):List Bool:=B.map (λb=>decide (b≠d))
def Zw y (n c d:Nat) B w (z:Ag w 0 (.slice y n c) (Av B))(t:B.length=n)(P:n<=200):C_ 205 #[.slice y n c,.int .i64 d] w λe w'=>∃v,e=.returned v/\Ev w' w.heap.size v (Dc B d)/\Below w.heap.size w w':=by
 have N:=x1_ z;have A:=x1_ t;have O:=Tx n o_;have g:Hid (Dc B d=Ow (λi=>decide (B.getD i 0≠d)) n n):=(by show _=_;rw[ZcV,<- t,Dc,jr (λb=>decide (b≠d)) 0 B]);go_enter Tryz.func205,Tryz.ntmps205;go_wp2_with fail
 go_loopw [13] (λti wr=>∃k:Nat,ti=.int .i64 k/\k<=n/\Hid (Ev wr w.heap.size (.slice (some ⟨w.heap.size,0,none⟩) n n) (Ow (λi=>decide (B.getD i 0≠d)) n k))/\E_ w wr) (λti _=>n-(intOf ti).toNat)
 case atStart=>exact⟨0,rfl,qg_,by rw[ZcW];exact Tv n w _ o_ qa_,bA_⟩
 case round=>
  obtain⟨k,rfl,R,s,a⟩:=hrel;have I:=a.size
  by_cases hkn:k<n
  ·obtain⟨q,rfl,m,_,C,_⟩:=N.atK (by rw[Aw];exact A) hkn;have J:=(a.cell (p:=(A_ q k)) m).trans C;rw[Cv] at J;have l:=Zfp (λi=>decide (B.getD i 0≠d)) (show k<=n by omega);have o:=x1_ l;have j:=x1_ (Zfq (λi=>decide (B.getD i 0≠d)) hkn);obtain⟨Q,f,u,_,H,E⟩:=s.atK l hkn;injection f with f;injection f with f _;subst f;have r:_:=s;generalize Ow (λi=>decide (B.getD i 0≠d)) n k=F at *;generalize F.getD k false=z0,B.getD k 0=x at *;have L:0<=(k:Int):=o_;have G:k<(n:Int):=o_;go_wp2;go_roundw
   case rel=>
    refine⟨k+1,g_,o_,?_,?_⟩;rw[<- j];rw[Zlj];exact(r.put (k:=k) o.symm _).1;exact a.setCell qa_ _
   case measure=>exact z_
  have M:¬k<(n:Int):=o_
  have D:Hid (Ev wr w.heap.size (L_ w.heap.size n n) (Dc B d)):=by
   rw[g]
   grind
  go_wp2;go_ret;exact⟨_,rfl,D,a⟩
def Ci(B:List Nat)(h:Nat):List Int:=(List.range h).map (λb=>(B.count b:Nat))
def Cr B h:(Ci B h).length=h:=by simp[Ci]
def ZcK h:Ci [] h=List.replicate h 0:=by apply List.ext_getElem;simp[Ci];intro i b a;simp[Ci]
def ZaG B {b h}(a:b<h):(Ci B h).set b ((Ci B h).getD b 0+1)=Ci (B++[b]) h:=by
 apply List.ext_getElem;simp[Ci]
 grind [Ci]
def Zfj B h b:0<=(Ci B h).getD b 0/\(Ci B h).getD b 0<=B.length:=by grind [Ci]
def Vm(B:List Nat)(h:Nat):Int:=Lib.idxOf (Ci B h) (Lib.maxOf (Ci B h))
def Xj A n c h B w (C:Ag w 0 (.slice A n c) (Av B))(P:B.length=n)(X:n<=200)(T:∀b∈B,b<h)(V:0<h)(h1:h<=1000):C_ 204 #[.slice A n c,.int .i64 h] w λe w'=>e=.returned (.int .i64 (Vm B h))/\Below w.heap.size w w':=by
 have U:=x1_ C;have o:=x1_ P;have I:=x1_ T;have W:=Kr h o_;go_enter Tryz.func204,Tryz.ntmps204;go_wp2_with fail
 go_loopw [12] (λti wr=>∃k:Nat,ti=.int .i64 k/\k<=n/\Hid (Ag wr w.heap.size (.slice (some ⟨w.heap.size,0,none⟩) h h) (Ci (B.take k) h))/\E_ w wr) (λti _=>n-(intOf ti).toNat)
 case atStart=>exact⟨0,rfl,qg_,by rw[List.take_zero,ZcK];exact Kq h w _ o_ qa_,bA_⟩
 case round=>
  obtain⟨k,rfl,hk,t,a⟩:=hrel;have N:=a.size
  by_cases hkn:k<n
  ·obtain⟨q,rfl,s,_,E,_⟩:=U.atK (by rw[Aw];exact o) hkn;have O:=(a.cell (p:=(A_ q k)) s).trans E;rw[Cv] at O;have g:k<B.length:=by rw[o];exact hkn
   have m:B.getD k 0<h:=(by have:B.getD k 0=B[k]:=(by simp[List.getD,g]);rw[this];exact I _ (Qf _));have r:B.take (k+1)=B.take k++[B.getD k 0]:=(by rw[Qi g];grind);have f:Hid ((Ci (B.take k) h).set (B.getD k 0) ((Ci (B.take k) h).getD (B.getD k 0) 0+1)=Ci (B.take (k+1)) h):=by show _=_;rw[r,ZaG _ m]
   have u:=Zfj (B.take k) h (B.getD k 0);have Q:((B.take k).length:Int)<=200:=t_;obtain⟨Z,d,_,_,M,J⟩:=t.atK (Cr _ _) m;injection d with d;injection d with d _;subst d;obtain⟨i1,i2⟩:=u;have y:_:=t;have v:Hid (h=(Ci (B.take k) h).length):=(Cr _ _).symm;generalize Ci (B.take k) h=F,B.getD k 0=x at *;generalize F.getD x 0=z0 at *;have Y:z0<=200:=o_;have R:0<=(k:Int):=o_;have L:k<(n:Int):=o_;have H:0<=(x:Int):=o_;have G:x<(h:Int):=o_;go_wp2;go_roundw
   case rel=>
    refine⟨k+1,g_,o_,?_,?_⟩;rw[<- f];exact(y.put (k:=x) v _).1;exact a.setCell qa_ _
   case measure=>exact z_
  have S:¬k<(n:Int):=o_;have z:Ag wr w.heap.size (L_ w.heap.size h h) (Ci B h):=by have:=t.out;rw[List.take_of_length_le (by have:=o.out;omega)] at this;exact this
  have i:Hid (C_ 253 #[.slice (some ⟨w.heap.size,0,none⟩) h h] wr λe w'=>e=.returned (.int .i64 (Lib.maxOf (Ci B h)))/\w'=wr):=by have:=Tryz.slices_Max_int w.heap.size 0 h h (Ci B h) wr V (by rw[Cr];omega) o_ (λj hj=>by rw[Nat.zero_add];exact(z.cellK (Cr _ _).symm (by rw[Cr] at hj;exact hj)).1);rw[List.take_of_length_le (by rw[Cr];omega)] at this;exact this
  have l:Hid (C_ 252 #[.slice (some ⟨w.heap.size,0,none⟩) h h,.int .i64 (Lib.maxOf (Ci B h))] wr λe w'=>e=.returned (.int .i64 (Vm B h))/\w'=wr):=(by have:=Tryz.slices_Index_int w.heap.size 0 h h (Ci B h) (Lib.maxOf (Ci B h)) wr (by rw[Cr];omega) o_ (λj hj=>by rw[Nat.zero_add];exact(z.cellK (Cr _ _).symm (by rw[Cr] at hj;exact hj)).1);rw[List.take_of_length_le (by rw[Cr];omega)] at this;exact this);generalize Lib.maxOf (Ci B h)=mx at *;go_wp2_with fail
  refine i.mono ?_;rintro e D ⟨rfl,rfl⟩;go_wp2_with fail
  refine l.mono ?_;rintro e D ⟨rfl,rfl⟩;go_wp2;go_ret;exact⟨rfl,a⟩
def Dj(L:List Bool):Nat:=L.count true
def Na L b:Dj (L++[b])=Dj L+(if b=true then 1 else 0):=by simp[Dj,List.count_append];cases b<;>simp
def Oe(L:List Bool){r}(h:r<L.length):L.take (r+1)=L.take r++[L.getD r false]:=by rw[Qi h];grind
def Zek f n c L w (h:Ev w 0 (.slice f n c) L)(m:L.length=n)(u:n<=200):C_ 296 #[.slice f n c] w λe w'=>e=.returned (.int .i64 (Dj L:Nat))/\w'=w:=by
 have s:=x1_ h;have d:=x1_ m;go_enter Tryz.func296,Tryz.ntmps296;go_wp2_with fail
 go_loop [8,3] (λti tn=>∃k:Nat,ti=.int .i64 k/\k<=n/\tn=.int .i64 (Dj (L.take k):Nat)/\Dj (L.take k)<=k) (λti _=>n-(intOf ti).toNat)
 case atStart=>exact⟨0,rfl,qg_,rfl,qa_⟩
 case round=>
  obtain⟨k,rfl,x,rfl,p⟩:=hrel
  by_cases hkn:k<n
  ·obtain⟨q,rfl,i,_,v,_⟩:=s.atK d hkn;have g:=Na (L.take k) (L.getD k false);rw[<- Oe L (by rw[d];exact hkn)] at g;have y:=x1_ g;generalize Dj (L.take k)=t,L.getD k false=b at *;have o:0<=(k:Int):=o_;have l:k<(n:Int):=o_
   cases b with
   | true=>
    have a:Hid (Dj (L.take (k+1))=t+1):=w_;refine rd_ ?_;exact⟨k+1,g_,o_,by rw[a];go_num,by rw[a];omega⟩
   | false=>
    have a:Hid (Dj (L.take (k+1))=t):=w_;refine rd_ ?_;exact⟨k+1,g_,o_,by rw[a],by rw[a];omega⟩
  have r:¬k<(n:Int):=o_;have j:Hid (Dj (L.take k)=Dj L):=(by show _=_;rw[List.take_of_length_le (by have:=d.out;omega)]);generalize Dj (L.take k)=t at *;go_wp2;go_ret;exact⟨by rw[j];rfl,rfl⟩
structure GS where
 fs:List Nat
 out:List Bool
 conf:Nat
 bins:Nat
def Hc(a b:List Bool):List Bool:=List.zipWith (λx y=>x&&y) a b
def Et(a b:List Bool):Nat:=Dj (Hc a b)
def Ri{a b}(h:a.length=b.length):(Hc a b).length=b.length:=by simp[Hc,h]
def fg{a b}(h:a.length=b.length){k}(c:k<b.length):(Hc a b).getD k false=(a.getD k false&&b.getD k false):=by grind [Hc]
def Rl L:Dj L<=L.length:=List.count_le_length
def Lx l o m n c p L O w (J:w.cell? (A_ l 1)=some (.slice m n p))(x:Ev w 0 (.slice m n p) O)(s:Ev w 0 (.slice o n c) L)(u:O.length=n)(B:L.length=n)(G:n<=200):C_ 297 #[.pointer (some ⟨l,0,none⟩),.slice o n c] w λe w'=>e=.returned (.int .i64 (Et O L:Nat))/\w'=w:=by
 have F:=x1_ s;have y:=x1_ x;have g:=x2_ B u;have h:=Ri (a:=O) (b:=L) o_;have j:Hid ((Hc O L).length=n):=w_;go_enter Tryz.func297,Tryz.ntmps297;go_wp2_with fail
 go_loop [10,5] (λti tn=>∃k:Nat,ti=.int .i64 k/\k<=n/\tn=.int .i64 (Dj ((Hc O L).take k):Nat)/\Dj ((Hc O L).take k)<=k) (λti _=>n-(intOf ti).toNat)
 case atStart=>exact⟨0,rfl,qg_,rfl,qa_⟩
 case round=>
  obtain⟨k,rfl,M,rfl,D⟩:=hrel
  by_cases hkn:k<n
  ·obtain⟨q,rfl,v,_,I,_⟩:=F.atK g.1 hkn;obtain⟨H,rfl,i,_,N,_⟩:=y.atK g.2 hkn;have r:=Na ((Hc O L).take k) ((Hc O L).getD k false);rw[<- Oe _ (by rw[j];exact hkn),fg (by have:=g.out;omega) (by have:=g.out;omega)] at r;have P:=x1_ r;generalize Dj ((Hc O L).take k)=t,L.getD k false=b,O.getD k false=d at *;have C:0<=(k:Int):=o_;have A:k<(n:Int):=o_
   cases b with
   | true=>
    cases d with
    | true=>
     have f:Hid (Dj ((Hc O L).take (k+1))=t+1):=w_;refine rd_ ?_;exact⟨k+1,g_,o_,by rw[f];go_num,by rw[f];omega⟩
    | false=>
     have f:Hid (Dj ((Hc O L).take (k+1))=t):=w_;refine rd_ ?_;exact⟨k+1,g_,o_,by rw[f],by rw[f];omega⟩
   | false=>
    have f:Hid (Dj ((Hc O L).take (k+1))=t):=w_;refine rd_ ?_;exact⟨k+1,g_,o_,by rw[f],by rw[f];omega⟩
  have E:¬k<(n:Int):=o_;have z:Hid (Dj ((Hc O L).take k)=Et O L):=(by show _=_;rw[List.take_of_length_le (by have:=j.out;omega)];rfl);generalize Dj ((Hc O L).take k)=t at *;go_wp2;go_ret;exact⟨by rw[z];rfl,rfl⟩
structure Ze7(w:World)(K:Nat->Prop)(gb:Nat)(vf vo)(G:GS):Prop where
 blk:w.heap[gb]? =some (.cells #[vf,vo,I_ G.conf,I_ G.bins] 351 (0,0))
 fs:Ag w 0 vf (Av G.fs)
 out:Ev w 0 vo G.out
 kg:K gb
 kf:∀k,vf.ownBlock=some k->K k
 ko:∀k,vo.ownBlock=some k->K k
 kl:∀k,K k->k<w.heap.size
def vg(w:World)(K:Nat->Prop)(gb:Nat)(G:GS):Prop:=∃vf vo,Ze7 w K gb vf vo G
def Ze7.touch{S w w' K gb vf vo G}(h:Ze7 w K gb vf vo G)(t:Aa S w w')(hs:∀k,K k->¬S k):Ze7 w' K gb vf vo G:=
 ⟨t.at_ h.blk (hs _ h.kg),t.row h.fs (λk hk=>hs k (h.kf k hk)),t.row h.out (λk hk=>hs k (h.ko k hk)),h.kg,h.kf,h.ko,λk hk=>Qh (h.kl k hk) t.size⟩
def vg.touch{S w w' K a G}(h:vg w K a G)(t:Aa S w w')(d:∀k,K k->¬S k):vg w' K a G:=by obtain⟨b,c,h⟩:=h;exact⟨b,c,h.touch t d⟩
def orL(a b:List Bool):List Bool:=List.zipWith (λx y=>x||y) a b
def Tg(G:GS)(f:Nat)(L:List Bool)(bins:Nat):GS:=⟨G.fs++[f],orL G.out L,G.conf+Et G.out L,G.bins+bins⟩
def Zbl a b:Av (a++b)=Av a++Av b:=by simp[Av]
def orK(a b:List Bool)(k:Nat):List Bool:=(orL a b).take k++a.drop k
def Ke{a b}(h:a.length=b.length):(orL a b).length=a.length:=by simp[orL,h]
def ZeS{a b}(h:a.length=b.length){k}(c:k<=a.length):(orK a b k).length=a.length:=by have:=Ke h;simp[orK];omega
def Zln{a b}(h:a.length=b.length){k}(c:k<a.length):(orK a b k).getD k false=a.getD k false:=by grind [Ke,orK]
def Zkk{a b}(h:a.length=b.length){k}(c:k<a.length):(orK a b k).set k (a.getD k false||b.getD k false)=orK a b (k+1):=by have f:=Ke h;have e:k<b.length:=o_;have d:(orL a b)[k]' o_=(a.getD k false||b.getD k false):=(by simp[orL,List.getD,c,e]);unfold orK;rw[Qi o_,d,List.append_assoc,List.drop_eq_getElem_cons c,List.set_append_right _ _ t_];have:k-(List.take k (orL a b)).length=0:=t_;rw[this];rfl
def Zd9 K (A f t:Nat) vf vo va n c L G w (O:Ze7 w K A vf vo G)(hv:Ev w 0 (.slice va n c) L)(hO:G.out.length=n)(hL:L.length=n)(hn:n<=200)(hc:G.conf<=1000)(hb:G.bins<=1000)(aQ:t<=1000)(hf:G.fs.length<=1000)(V:∀k,(Value.slice va n c).ownBlock=some k->¬K k):Calls Tryz.prog 256 #[.pointer (some ⟨A,0,none⟩),.int .i64 f,.slice va n c,.int .i64 t] w λe w'=>e=.returned (.tuple #[])/\(∃K',vg w' K' A (Tg G f L t)/\∀k,K' k->K k∨w.heap.size<=k)/\Aa K w w':=by
 obtain⟨oa,T,a3⟩:=O.out.shape;rw[hO] at a3;subst a3;obtain⟨fa,fc,Y⟩:=O.fs.shape;rw[Aw] at Y;subst Y;have a5:=cR_ 1 O.blk;have R:=cR_ 2 O.blk;have aB:=Rl (Hc G.out L);rw[Ri o_,hL] at aB;have aL:Et G.out L<=200:=(by unfold Et;omega);have Z:=x1_ (Lx _ _ _ n c _ L _ w.drew a5 O.out hv hO hL hn);have C:=x1_ O;have B:=x4_ hv hL hO V;have a1:=λo=>fq_ o _ _ O.blk;have aG:w.drew.frozen? _=_:=a1 2;clear O hv hL hO V a5 a1;go_enter Tryz.func256,Tryz.ntmps256;go_upto_region 0 with fail;refine Al (λw'=>w'.cell? _=some _) 10 k_ R (λhHeld=>?_);refine Ah 0 ?_;refine Ah 1 ?_;refine Ah 2 ?_;refine Ah 3 ?_;refine Ah 4 ?_;refine Ah 5 ?_;refine Af (i:=6) k_ rfl (λKK hK=>?_);go_simp
 refine(Z).mono ?_;rintro e w' ⟨rfl,rfl⟩;go_simp;refine hK _ _ R (λhHeld=>?_);clear hK KK;try simp only[Act.put,sA,sB,sC]
 refine Ah 7 ?_;refine Ah 8 ?_;refine Ah 9 ?_;refine Ai (i:=10) k_ rfl k_ (λKK hK=>?_);go_simp;refine hK _ _ ?_;clear hK KK;try simp only[Act.put,sA,sB,sC]
 refine Ak k_ ?_ _;rw[Cb o_ o_];obtain⟨w1,J⟩:=ex_ ((w.setCell (A_ A 2) (I_ (G.conf+(Et G.out L:Int)))).drew);rw[<- J];have t1:Aa K w w1:=by rw[J];exact((Aa.refl K w).setCell (p:=(A_ A 2)) (λ_=>C.kg) _).drew
 have F:Ze7 w1 K A (.slice fa G.fs.length fc) (.slice oa n T) {G with conf:=G.conf+Et G.out L}:=(by rw[J];refine⟨?_,?_,?_,C.kg,C.kf,C.ko,λk l=>by simpa using C.out.kl k l⟩;exact hs_ w _ 2 _ _ _ C.blk;exact As C.out.fs C.out.blk d_;exact As C.out.out C.out.blk d_);have m:=x1_ F;have X:=x1_ t1;have a7:=x1_ C.kl;have c0:=cR_ 0 F.blk;have aJ:=F.kl _ F.kg;have aR:=t1.size;clear J t1 F C Z R aG hHeld;go_wp2_with (at_builtin;refine Bu rfl (.tmp 24) _ rfl 0 _ (Av G.fs) f rfl (m.fs.alloc _) _ 1 rfl ?_ ?_ ?_ ?_)
 ·simp[go_sem]
 rw[Aw];omega;simp;intro v3 w3 H3;obtain⟨q1,W,q3⟩:=H3;have x:w3.heap[A]? =some (.cells #[.slice fa G.fs.length fc,.slice oa n T,I_ (G.conf+Et G.out L:Nat),I_ G.bins] 351 (0,0)):=(by rw[W.block A t_ (λe=>Au m.fs e.symm m.blk d_ rfl)];exact(hc_ aJ).trans m.out.blk);have a4:Ev _ 0 _ G.out:=World.ownsRow.kept (m.out.out.alloc _) W (An (m.out.fs.alloc _) (m.out.out.alloc (.cells #[.int .i64 f] 3)) d_);have t3:Aa K w w3:=by have ta:Aa K _ (w1.alloc (.cells #[I_ f] 3)):=(Aa.refl K _).alloc _;exact X.trans (ta.grown W (λk l _=>m.kf k l))
 obtain⟨E,D,Q⟩:=q1.shape;rw[Qe,Aw] at Q;simp only[List.length_cons,List.length_nil,Nat.zero_add] at Q;subst Q;have aO:=(Qb x).1;have aE:=x4_ x a4 t3 q1
 have aC:Hid (∀k,(Value.slice E (G.fs.length+1) D).ownBlock=some k->K k∨w.heap.size<=k):=λk l=>by
  rcases q3 with e|e
  exact .inl (m.kf k (e ▸ l));rw[e.1] at l;injection l with l;exact .inr (by rw[<- l];omega)
 have H:=x2_ m.kg m.ko;have aF:=cR_ 0 x;have aI:=fq_ 0 _ _ x;have aH:=cR_ 3 x;have a8:=fq_ 3 _ _ x;clear q1 W q3 x a4 t3 m X c0;go_wp2_with fail
 go_loopw [40] (λti wr=>∃k:Nat,ti=.int .i64 k/\k<=n/\Hid (wr.heap[A]? =some (.cells #[.slice E (G.fs.length+1) D,.slice oa n T,.int .i64 ((G.conf+Et G.out L:Nat):Int),.int .i64 ((G.bins:Int)+(t:Int))] 351 (0,0))/\Ev wr 0 (.slice oa n T) (orK G.out L k)/\Aa K w wr/\Ag wr 0 (.slice E (G.fs.length+1) D) (Av G.fs++[(f:Int)]))) (λti _=>n-(intOf ti).toNat)
 case atStart=>
  obtain⟨p1,p2,p3,p4⟩:=aE;refine⟨0,rfl,qg_,?_,?_,?_,?_⟩;exact ht_ 3 _ _ _ (ht_ 0 _ _ _ p1);have e:orK G.out L 0=G.out:=(by simp[orK]);rw[e];exact As (As p2 p1 d_) (ht_ 0 _ _ _ p1) d_;exact(p3.setCell (p:=(A_ A 0)) (λ_=>H.1) _).setCell (p:=(A_ A 3)) (λ_=>H.1) _;exact As (As p4 p1 d_) (ht_ 0 _ _ _ p1) d_
 case round=>
  clear aF aI aH a8;obtain⟨k,rfl,l,HR⟩:=hrel
  by_cases hkn:k<n
  ·obtain⟨j,a,S,u⟩:=HR.out;have s:G.out.length=L.length:=(by have:=B.out;omega);obtain⟨q,aD,aM,_,d1,fq⟩:=a.atK (k:=k) (by rw[ZeS s (by have:=B.out;omega)];exact B.2.2.1) hkn;subst aD;have a0:Ev _ 0 _ L:=S.row B.1 B.2.2.2;obtain⟨W,a2,aK,_,d2,_⟩:=a0.atK B.2.1 hkn;subst a2;rw[Zln s (by have:=B.out;omega)] at d1;have c1:=cR_ 1 j;have N:Hid (_=orK _ L (k+1)):=Zkk s (by have:=B.out;omega);have a6:Hid (n=(orK G.out L k).length):=by rw[ZeS s (by have:=B.out;omega)];exact B.2.2.1.symm
   have a9:A≠q:=λe=>by
    rcases a.2 with⟨e2,_⟩|⟨g,cap,cur,e2,_,hh,_⟩
    ·cases e2
    injection e2 with e2;injection e2 with e2;injection e2 with e2;rw[e,e2,hh] at j;simp at j
   have aA:=x4_ j a S u;have I:wr.drew.cell? _=_:=d1;have U:wr.drew.frozen? _=_:=fq;have aP:0<=(k:Int):=o_;have aN:k<(n:Int):=o_
   have y:Hid (∀z,z=(G.out.getD k false||L.getD k false)->(wr.setCell (A_ q k) (.bool z)).drew.heap[A]? =some (.cells #[.slice E (G.fs.length+1) D,L_ q n T,I_ (G.conf+Et G.out L:Nat),I_ (G.bins+t)] 351 (0,0))/\Ev (wr.setCell (A_ q k) (.bool z)).drew 0 (L_ q n T) (orK G.out L (k+1))/\Aa K w (wr.setCell (A_ q k) (.bool z)).drew/\Ag (wr.setCell (A_ q k) (.bool z)).drew 0 (.slice E (G.fs.length+1) D) (Av G.fs++[(f:Int)])):=by rintro z rfl;obtain⟨p1,p2⟩:=a.put (k:=k) a6 (G.out.getD k false||L.getD k false);rw[N] at p1;refine⟨?_,p1,(S.setCell (p:=(A_ q k)) (λ_=>H.2 q rfl) _).drew,?_⟩;exact(p2.block _ (Qb j).1 (λe=>a9 (by injection e))).trans j;exact World.ownsRow.drew (Ag.kept u p2 (An a u d_))
   clear HR j a S u a0 d1 fq N a6 aA;generalize L.getD k false=b at *;generalize G.out.getD k false=d at *
   cases d with
   | true=>
    go_upto_region 6 with fail;refine Al (λw'=>w'.cell? _=some _/\w'.cell? _=some _) 16 k_ ⟨c1,I⟩ (λhHeld=>?_);refine Ah 0 ?_;refine Ah 1 ?_;refine Ah 2 ?_;refine Ua [15,16] 3 (v:=?_) ?_ ?_
    rotate_left
    ·intro w r;try obtain⟨_,_⟩:=r
     go_simp;try with_reducible rfl
    try simp only[Act.put,sA,sB,sC]
    refine Ah 4 ?_;refine Ah 5 ?_;refine Ah 6 ?_;refine Ah 7 ?_;refine Ua [10,11,12,13,14,15,16] 8 (v:=?_) ?_ ?_
    rotate_left
    ·intro w r;try obtain⟨_,_⟩:=r
     go_simp;try with_reducible rfl
    try simp only[Act.put,sA,sB,sC]
    refine Ah 9 ?_;refine Ah 10 ?_;refine Ua [12,13,14,15,16] 11 (v:=?_) ?_ ?_
    rotate_left
    ·intro w r;try obtain⟨_,_⟩:=r
     go_simp;try with_reducible rfl
    try simp only[Act.put,sA,sB,sC]
    refine Ah 12 ?_;refine Kl [14,15,16] (i:=13) (v:=undef) rfl k_ k_ k_ k_ k_ (λ_ _ _ h=>h) (Or.inr ⟨by rfl,rfl⟩) a_ ?_;try simp only[Act.put,sA,sB,sC]
    refine Ah 14 ?_;refine Ah 15 ?_;refine Ai (i:=16) k_ rfl k_ (λKK hK=>?_);go_simp;refine hK _ _ ?_;clear hK KK;try simp only[Act.put,sA,sB,sC]
    refine Ak k_ ?_ _;have M:=y true s_;have P:=x1_ M;clear M y hHeld c1 I U;go_wp2;go_roundw;case rel=>exact⟨k+1,g_,o_,P⟩
    case measure=>exact z_
   | false=>
    go_upto_region 6 with fail;refine Al (λw'=>w'.cell? _=some _/\w'.cell? _=some _) 16 k_ ⟨c1,I⟩ (λhHeld=>?_);refine Ah 0 ?_;refine Ah 1 ?_;refine Ah 2 ?_;refine Ua [15,16] 3 (v:=?_) ?_ ?_
    rotate_left
    ·intro w r;try obtain⟨_,_⟩:=r
     go_simp;try with_reducible rfl
    try simp only[Act.put,sA,sB,sC]
    refine Ah 4 ?_;refine Ah 5 ?_;refine Ah 6 ?_;refine Ah 7 ?_;refine Ua [10,11,12,13,14,15,16] 8 (v:=?_) ?_ ?_
    rotate_left
    ·intro w r;try obtain⟨_,_⟩:=r
     go_simp;try with_reducible rfl
    try simp only[Act.put,sA,sB,sC]
    refine Ah 9 ?_;refine Ah 10 ?_;refine Ua [12,13,14,15,16] 11 (v:=?_) ?_ ?_
    rotate_left
    ·intro w r;try obtain⟨_,_⟩:=r
     go_simp;try with_reducible rfl
    try simp only[Act.put,sA,sB,sC]
    refine Ah 12 ?_;refine Ah 13 ?_;refine Ah 14 ?_;refine Ah 15 ?_;refine Ai (i:=16) k_ rfl k_ (λKK hK=>?_);go_simp;refine hK _ _ ?_;clear hK KK;try simp only[Act.put,sA,sB,sC]
    refine Ak k_ ?_ _;have M:=y b s_;have P:=x1_ M;clear M y hHeld c1 I U;go_wp2;go_roundw;case rel=>exact⟨k+1,g_,o_,P⟩
    case measure=>exact z_
  have aS:¬k<(n:Int):=o_
  have M:Hid ((∃K',vg wr K' A (Tg G f L t)/\∀k,K' k->K k∨w.heap.size<=k)/\Aa K w wr):=by
   obtain⟨j,a,S,u⟩:=HR;have s:G.out.length=L.length:=by have:=B.out;omega
   have e:orK G.out L k=orL G.out L:=(by have:=Ke s;unfold orK;rw[List.take_of_length_le (by have:=B.out;omega),List.drop_eq_nil_of_le (by have:=B.out;omega),List.append_nil]);rw[e] at a;refine⟨⟨λk=>K k∨(Value.slice _ _ _).ownBlock=some k,⟨_,_,⟨j,?_,a,.inl H.1,λk l=>.inr l,λk l=>.inl (H.2 k l),λk l=>?_⟩⟩,λk l=>?_⟩,S⟩;show Ag wr 0 _ (Av (G.fs++[f]));rw[Zbl];exact u
   ·rcases l with l|l
    exact Qh (a7 k l) S.size;exact(rl_ u k l).2
   rcases l with l|l
   exact .inl l;exact aC k l
  skip
  go_wp2;go_end0;exact⟨rfl,M.1,M.2⟩
def Fq:GS:=⟨[],[],0,0⟩
def jo(b:Nat):Value:=P_ b
structure Uf(w:World)(vG)(gbs:List Nat)(Ks:Nat->Nat->Prop)(Gs:List GS):Prop where
 row:w.ownsRow 0 313 1 vG Gs.length (gbs.map jo)
 len:gbs.length=Gs.length
 each:∀i,i<Gs.length->vg w (Ks i) (gbs.getD i 0) (Gs.getD i Fq)
 apart:∀i j,i<Gs.length->j<Gs.length->i≠j->∀k,Ks i k->¬Ks j k
def Fd(L:List Bool)(bins budget:Nat)(G:GS):Bool:=decide (G.conf+Et G.out L<=budget)&&decide (G.bins+bins<=40)
structure GOk(n)(G:GS):Prop where
 out:G.out.length=n
 conf:G.conf<=1000
 bins:G.bins<=1000
 fs:G.fs.length<=1000
def Uf.at{w d a f b}(h:Uf w d a f b){i}(k:i<b.length):∃q c,d=L_ q b.length c/\q<w.heap.size/\w.cell? (A_ q i)=some (jo (a.getD i 0)):=by
 have j:=h.row
 rcases h.row.2 with⟨_,h0⟩|⟨g,cap,cur,e,hb,hh,hnc,_⟩
 omega;subst e;refine⟨g,cap,rfl,(Qb hh).1,?_⟩;rw[World.ownsRow.cellAt j i o_]
 grind
def Uf.form{w e b f d}(h:Uf w e b f d):∃a c,e=.slice a d.length c:=by
 rcases h.row.2 with⟨rfl,h0⟩|⟨q,p,cur,rfl,_⟩
 ·grind
 grind
def Zc2(gbs:List Nat)(m:Nat)(i:Nat):Value:=if i<m then jo (gbs.getD i 0) else .pointer none
def Uu T V (Q n c b a:Nat) r Ks f L w (P:Uf w (.slice T f.length Q) r Ks f)(D:∀G∈f,GOk n G)(N:Ev w 0 (.slice V n c) L)(O:L.length=n)(X:n<=200)(hb:b<=1000)(M:f.length<=1000):C_ 255 #[.slice T f.length Q,.slice V n c,.int .i64 b,.int .i64 a] w λe w'=>e=.returned (Zc2 r f.length (f.findIdx (Fd L b a)))/\Below w.heap.size w w':=by
 have R:=x1_ P;have F:=x1_ D;have E:=x2_ N O;obtain⟨m,J⟩:=ex_ f.length;have I:=x1_ J;rw[<- J] at M ⊢;clear P D N O J;go_enter Tryz.func255,Tryz.ntmps255;go_wp2_with fail
 go_loopw [13] (λti wr=>∃k:Nat,ti=.int .i64 k/\k<=m/\Hid (∀j,j<k->Fd L b a (f.getD j Fq)=false)/\∃d,wr=w.drewN d) (λti _=>m-(intOf ti).toNat)
 case atStart=>exact⟨0,rfl,qg_,λj hj=>o_,0,rfl⟩
 case round=>
  obtain⟨k,rfl,hk,A,d,rfl⟩:=hrel
  by_cases hkm:k<m
  ·have t:k<f.length:=(by rw[<- I];exact hkm);obtain⟨q,a1,v,W,l⟩:=R.at t;injection v with v _ hgc;subst v hgc;obtain⟨vf,vo,hK⟩:=R.each k t;have i:=F _ (show f.getD k Fq∈f by grind);have g:Hid (Fd L b a (f.getD k Fq)=(_&&_)):=rfl
   have s:Hid (Fd L b a (f.getD k Fq)=true->f.findIdx (Fd L b a)=k):=λht=>by
    have e:f.getD k Fq=f[k]:=w_;rw[e] at ht;rw[List.findIdx_eq t];refine⟨ht,λj hj=>?_⟩;have:=A j hj
    grind
   have o:Hid (Fd L b a (f.getD k Fq)=false->∀j,j<k+1->Fd L b a (f.getD j Fq)=false):=λhf j hj=>by
    by_cases e:j=k
    rw[e];exact hf;exact A j o_
   generalize f.getD k Fq=G at *;obtain⟨gb,z⟩:=ex_ (r.getD k 0);have H:Hid (jo gb=jo (r.getD k 0)):=(by show _=_;rw[z]);rw[<- z] at hK l;clear z;obtain⟨oa,oc,C⟩:=hK.out.shape;rw[i.out] at C;subst C;have S:=cR_ 1 hK.blk;have c2:=cR_ 2 hK.blk;have c3:=cR_ 3 hK.blk;have B:=Rl (Hc G.out L);rw[Ri (by have:=E.2;have:=i.out;omega),E.2] at B;have U:Et G.out L<=200:=(by unfold Et;omega);have a2:=i.conf;have Y:=i.bins;have u:=x1_ (λe=>Lx _ _ _ n c _ L _ (w.drewN e) S hK.out E.1 i.out E.2 X);clear hK i B S;generalize Et G.out L=cf at *;generalize G.conf=gcf at *;generalize G.bins=gbn at *;unfold jo at l;have a0:0<=(k:Int):=o_;have Z:k<(m:Int):=o_
   by_cases y:gcf+cf<=a
   ·have g1:decide (gcf+cf<=(a:Int))=true:=t_
    by_cases h2:gbn+b<=40
    ·have g2:decide (gbn+(b:Int)<=40)=true:=t_;have x:=x1_ (s (by rw[g];simp[y,h2]));clear s g y h2;go_upto_region 4 with fail;go_quiet (first|(go_at_call 297;exact(u _).mono (λ_ _ h=>⟨h.1,_,h.2⟩)));go_wp2;go_ret;refine⟨?_,below_drewN bz_ _⟩;rw[x];unfold Zc2;rw[if_pos hkm,<- H];rfl
    have g2:decide (gbn+(b:Int)<=40)=false:=t_;have x:=x1_ (o (by rw[g];simp[y,h2]));clear s g y h2 A o;go_upto_region 4 with fail;go_quiet (first|(go_at_call 297;exact(u _).mono (λ_ _ h=>⟨h.1,_,h.2⟩)));go_wp2;go_roundw;case rel=>exact⟨k+1,g_,o_,x,_,rfl⟩
    case measure=>exact z_
   have g1:decide (gcf+cf<=(a:Int))=false:=t_;have x:=x1_ (o (by rw[g];simp[y]));clear s g y A o;go_upto_region 4 with fail;go_quiet (first|(go_at_call 297;exact(u _).mono (λ_ _ h=>⟨h.1,_,h.2⟩)));go_wp2;go_roundw;case rel=>exact⟨k+1,g_,o_,x,_,rfl⟩
   case measure=>exact z_
  have a3:¬k<(m:Int):=o_
  have x:Hid (¬f.findIdx (Fd L b a)<m):=λh=>by
   rw[I] at h;have y:=List.findIdx_getElem (w:=h);have:=A (f.findIdx (Fd L b a)) (by have:=I.out;omega)
   grind
  clear A;go_wp2;go_ret;refine⟨?_,below_drewN bz_ _⟩;unfold Zc2;rw[if_neg x];rfl
end Go.Proofs.YtfcgnpchbcmdeaaGreat
namespace Go.Proofs.YtfcgnpchbcmdeaaGreat
set_option linter.all false
set_option maxRecDepth 100000
set_option maxHeartbeats 8000000
open Go.RowKit Go.Lib Go.Sort
structure Ho(w:World)(vO)(vs)(Os:List (List Bool)):Prop where
 row:w.ownsRow 0 101 1 vO Os.length vs
 each:∀i,i<Os.length->Ev w 0 (vs.getD i (.slice none 0 0)) (Os.getD i [])
def Ho.below{w w' vO vs Os}(h:Ho w vO vs Os)(hb:Below w.heap.size w w'):Ho w' vO vs Os:=
 ⟨(Aa.of_below (S:=λ_=>False) hb).row h.row (λ_ _=>id),λi hi=>(h.each i hi).below hb⟩
def Ho.at{w d b a}(h:Ho w d b a){i}(f:i<a.length):∃q c,d=L_ q a.length c/\q<w.heap.size/\w.cell? (A_ q i)=some (b.getD i (.slice none 0 0)):=by
 have j:=h.row
 rcases h.row.2 with⟨_,h0⟩|⟨g,cap,cur,e,hb,hh,hnc,_⟩
 omega
 grind [World.ownsRow.cellAt]
def Zfd v q s n f g k a w (d:Ho w (L_ q a.length s) k a)(x:∀O∈a,O.length=n)(l:n<=200)(T:w.cell? (A_ v 0)=some (L_ q a.length s))(p:f<a.length)(u:g<a.length):C_ 295 #[.int .i64 f,.int .i64 g,.pointer (some ⟨v,0,none⟩)] w λe w'=>e=.returned (.int .i64 (Lib.compareInt (Dj (a.getD g []):Nat) (Dj (a.getD f []):Nat)))/\∃m,w'=w.drewN m:=by
 obtain⟨M,S,c,_,z⟩:=d.at p;injection c with c _ _;injection c with c;injection c with c _;subst c;obtain⟨Q,N,b,_,D⟩:=d.at u;injection b with b _ _;injection b with b;injection b with b _;subst b;have j:=d.each f p;have i:=d.each g u;have t:=x _ (show a.getD f []∈a by grind);have o:=x _ (show a.getD g []∈a by grind);generalize a.getD f []=F,a.getD g []=G,k.getD f (.slice none 0 0)=v1,k.getD g (.slice none 0 0)=v2 at *;obtain⟨I,P,rfl⟩:=j.shape;obtain⟨B,R,rfl⟩:=i.shape;rw[t] at j z;rw[o] at i D;have C:=x1_ (λe=>Zek _ n _ F (w.drewN e) j t l);have E:=x1_ (λe=>Zek _ n _ G (w.drewN e) i o l);have A:Hid (∀e,Calls _ _ #[.int _ (Dj G:Nat),.int _ (Dj F:Nat)] _ λe' w'=>_):=λe=>Tryz.cmp_Compare_int _ _ (w.drewN e)
 generalize Lib.compareInt (Dj G:Nat) (Dj F:Nat)=r,Dj F=cF,Dj G=cG,a.length=m at *;have H:0<=(f:Int):=o_;have J:f<(m:Int):=o_;have L:0<=(g:Int):=o_;have y:g<(m:Int):=o_;go_enter Tryz.func295,Tryz.ntmps295;go_upto_region 1 with fail;go_quiet (first|(go_at_call_of 296 (B);exact(E _).mono (λ_ _ h=>⟨h.1,_,h.2⟩))|(go_at_call_of 296 (I);exact(C _).mono (λ_ _ h=>⟨h.1,_,h.2⟩))|(go_at_call 151;exact(A _).mono (λ_ _ h=>⟨h.1,_,h.2⟩)));go_wp2;go_ret;exact⟨rfl,_,rfl⟩
def Sd{m}(x:Fin m):Value:=I_ x.val
def Sc{m}(Os:List (List Bool))(x y:Fin m):Int:=Lib.compareInt (Dj (Os.getD y.val []):Nat) (Dj (Os.getD x.val []):Nat)
def Zmg{m}:OneCell (Sd (m:=m)):=λ_=>rfl
def ZdJ m a b f (d:Array (Fin (m+1))) w (r:m+1<=4)(i:d.size=m+1) c (g:CmpReads (α:=Fin (m+1)) Tryz.prog 295 #[P_ f] Sd (Sc c) a 0 (m+1) w)(k:Holds Sd w a 0 d):
  C_ 294 #[.slice (some ⟨a,0,none⟩) (m+1) b,.func (.func 295) #[] #[.pointer (some ⟨f,0,none⟩)]] w λe w'=>e=.returned (.tuple #[])/\∃n,w'=(putRow Sd w a 0 (Sort.insertionSort (ltOf (Sc c)) d 0 (m+1))).drewN n:=by
 have j:Hid (C_ 346 #[.slice (some ⟨a,0,none⟩) (m+1) b,.int .i64 0,.int .i64 (m+1:Nat),.func (.func 295) #[] #[.pointer (some ⟨f,0,none⟩)]] w λe w'=>e=.returned (.tuple #[])/\∃n,w'=(putRow Sd w a 0 (Sort.insertionSort (ltOf (Sc c)) d 0 (m+1))).drewN n):=(by have:=Tryz.insertionSortCmpFunc_one Sd Zmg (Sc c) 295 #[P_ f] a 0 b 0 (m+1) d w (enters_of Tryz.func295 k_ rfl) w_ k qg_ o_ o_;rw[i] at this;exact this);generalize putRow Sd w a 0 (Sort.insertionSort (ltOf (Sc c)) d 0 (m+1))=w2 at *
 have q:Hid (C_ 329 #[.slice (some ⟨a,0,none⟩) (m+1) b,.int .i64 (m+1:Nat),.func (.func 295) #[] #[.pointer (some ⟨f,0,none⟩)]] w λe w'=>e=.returned (.tuple #[])/\∃n,w'=w2.drewN n):=by
  have p:¬20<=(m:Int)+1:=o_;have o:¬20<(m:Int)+1:=o_;go_enter Tryz.func329,Tryz.ntmps329;go_wp2_with fail
  go_loopw [7,8] (λta tb wr=>ta=.int .i64 0/\tb=.int .i64 20/\wr=w) (λ_ _ _=>0)
  case atStart=>grind
  case round=>
   obtain⟨rfl,rfl,rfl⟩:=hrel;go_wp2_with fail
   refine(j).mono ?_;rintro e l ⟨rfl,h,rfl⟩;go_wp2_with fail
   go_loopw [6] (λtb wr=>tb=.int .i64 20/\wr=w2.drewN h) (λ_ _=>0)
   case atStart=>grind
   case round=>
    obtain⟨rfl,rfl⟩:=hrel;go_wp2;go_end0
    grind
 go_enter Tryz.func294,Tryz.ntmps294;go_wp2_with fail
 refine(q).mono ?_;rintro e l ⟨rfl,h,rfl⟩;go_wp2;go_end0
 grind
def ZdV{α}[Inhabited α] c w a b m (d:Array α) f:Aa (λk=>k=a) w (sortWorld c w a b m d f):=by refine⟨rfl,rfl,rfl,?_,λk hk hne=>?_⟩;unfold sortWorld;simp;unfold sortWorld;rw[Go.Sort.heap_grow_old _ _ (by simpa using hk)];have:a≠k:=λe=>hne e.symm;simp[Go.Sort.putRow,Go.Sort.mapBlock,Go.Sort.ahead,Array.getElem?_modify,this]
def Zgv{α}[Inhabited α] c w a b (d:Array α):Aa (λk=>k=a) w (putRow c w a b d):=by refine⟨rfl,rfl,rfl,?_,λk hk hne=>?_⟩;simp[Go.Sort.putRow,Go.Sort.mapBlock];have:a≠k:=λe=>hne e.symm;simp[Go.Sort.putRow,Go.Sort.mapBlock,Array.getElem?_modify,this]
def Ho.touch{S w w' vO vs Os}(h:Ho w vO vs Os)(t:Aa S w w')(hs:∀k cur ty,w.heap[k]? =some (.cells cur ty (0,0))->ty=101∨ty=4->¬S k):Ho w' vO vs Os:=
 ⟨t.row h.row (λk hk=>by obtain⟨cur,hc⟩:=Ad h.row hk;grind),λi hi=>t.row (h.each i hi) (λk hk=>by obtain⟨cur,hc⟩:=Ad (h.each i hi) hk;grind)⟩
def Zdq{w a g b n m d}{D:Array (Fin (m+1))}(h:Ag w a (L_ g n b) d)(o:d.length=n)(l:D.size=n):Ag (putRow Sd w g 0 D) a (L_ g n b) (D.toList.map (λx=>x.val)):=by
 rcases h.2 with⟨e,_⟩|⟨g',cap',cur,e,hb,hg,hnc,hcm,hcs,htake⟩
 simp at e;simp only[Value.slice.injEq,Option.some.injEq,Addr.mk.injEq,and_true] at e;obtain⟨rfl,_,rfl⟩:=e;have k:(putRow Sd w g 0 D).heap[g]? =some (.cells (Go.Sort.putCells Sd 0 D cur) 3 (0,0)):=(by simp[Go.Sort.putRow,Go.Sort.mapBlock,Array.getElem?_modify,hg,Go.Sort.onCells]);have c:(D.toList.map (λx=>(x.val:Int))).length=n:=(by simp[l]);refine⟨w_,.inr ⟨g,b,_,by rw[c],hb,k,by rw[c];omega,hcm,by simp[Go.Sort.putCells,hcs],?_⟩⟩;rw[c,Nat.mul_one];apply List.ext_getElem?;intro j
 by_cases hj:j<n
 rw[List.getElem?_take_of_lt hj,Array.getElem?_toList];have i:j<cur.size:=o_;have f:j<D.size:=o_;simp[Go.Sort.putCells,i,f,Sd]
 grind
def Ik m:Array (Fin (m+1)):=Array.ofFn (λi=>i)
def Da(m:Nat)(Os:List (List Bool)):List Nat:=(Sort.insertionSort (ltOf (Sc (m:=m+1) Os)) (Ik m) 0 (m+1)).toList.map (λx=>x.val)
def Zhj m a g q f n p b w (j:b.length=m+1)(h:Ho w (L_ q b.length f) p b)(s:∀O∈b,O.length=n)(i:n<=200)(l:w.heap[g]? =some (.cells #[L_ q b.length f] 309 (0,0)))(c:∃cur,w.heap[a]? =some (.cells cur 3 (0,0))):CmpReads (α:=Fin (m+1)) Tryz.prog 295 #[P_ g] Sd (Sc b) a 0 (m+1) w:=by
 intro o r k _ x y;have t:=ZdV (Sd (m:=m+1)) w a 0 o k r;obtain⟨cur,d⟩:=c;refine Zfd _ q _ n _ _ _ _ _ (h.touch t ?_) s i ?_ o_ o_
 ·grind
 have:=t.at_ l (λe=>w_);exact cq_ 0 _ _ _ this
def ZeB{α}[Inhabited α] a (h:SWO a)(d:Array α) n (c:d.size=n):(Sort.insertionSort a d 0 n).size=n:=by have:=(Sort.insertionSort_holds (a:=a) h d 0 n qg_ o_).1;obtain⟨b,_⟩:=this;omega
def ltF{m} a (x y:Fin m):ltOf (Sc a) x y=decide (Dj (a.getD y.val [])<Dj (a.getD x.val [])):=by
 unfold ltOf Sc Lib.compareInt
 grind
def Zlt{m} a:SWO (ltOf (Sc (m:=m) a)) where
 irrefl x:=by rw[ltF];simp
 trans x y z h1 h2:=by rw[ltF] at *;simp at *;omega
 ntrans x y z h1 h2:=by rw[ltF] at *;simp at *;omega
def Rp m:(Ik m).size=m+1:=by simp[Ik]
def Jn m a:(Da m a).length=m+1:=by grind [Da,ZeB,Zlt,Rp]
def de m a:∀f∈Da m a,f<m+1:=by grind [Da]
def Uq m q l n N b w (Y:m+1<=4)(B:b.length=m+1)(P:Ho w (L_ q (m+1) l) N b)(hl:∀O∈b,O.length=n)(S:n<=200):C_ 254 #[.slice (some ⟨q,0,none⟩) (m+1) l] w λe w'=>∃v,e=.returned v/\Ag w' w.heap.size v (Av (Da m b))/\Below w.heap.size w w':=by
 have f:=x3_ P B hl;have I:=Kr (m+1) o_;have J:∀W:_,(Instr.makeSlice 25 (.int _ ((m:Int)+1)) (I_ ((m:Int)+1))).run _ W=_:=I;go_enter Tryz.func254,Tryz.ntmps254;go_wp2_with fail
 go_loopw [10] (λti wr=>∃k:Nat,ti=.int .i64 k/\k<=m+1/\Hid (Ag wr (w.heap.size+1) (.slice (some ⟨w.heap.size+1,0,none⟩) (m+1) (m+1)) (Eu (λi=>(i:Int)) (m+1) k))/\Hid (Below (w.heap.size+1) (w.alloc (.cells #[.slice (some ⟨q,0,none⟩) (m+1) l] 309)) wr)) (λti _=>m+1-(intOf ti).toNat)
 case atStart=>
  refine⟨0,rfl,qg_,?_,?_⟩
  ·rw[Nu];have:=Kq (m+1) (w.alloc (.cells #[L_ q (m+1) l] 309)) (w.heap.size+1) o_ s_;show Ag _ _ _ _
   simpa using this
  exact bz_.alloc s_ _
 case round=>
  obtain⟨k,rfl,M,A,s⟩:=hrel;have C:=s.size;simp at C
  by_cases hkm:k<m+1
  ·have c:=Nb (λi=>(i:Int)) (show k<=m+1 by omega);have g:=x1_ (Rm (λi=>(i:Int)) hkm);have G:=x1_ c.symm;obtain⟨T,a1⟩:=A.cellK c.symm hkm;generalize Eu (λi=>(i:Int)) (m+1) k=F at *;generalize F.getD k 0=z0 at *;have Z:0<=(k:Int):=o_;have V:k<(m:Int)+1:=o_;go_wp2;go_roundw
   case rel=>
    refine⟨k+1,g_,o_,?_,?_⟩;rw[<- g];exact(A.put G _).1;exact s.setCell qa_ _
   case measure=>exact z_
  have a0:¬k<(m:Int)+1:=o_;have u:=(s.block _ o_).trans hn_;have a:=bA_.trans (s.mono o_);have E:Ag wr (w.heap.size+1) (L_ (w.heap.size+1) (m+1) (m+1)) (Eu (λi=>i) (m+1) (m+1)):=(by have:k=m+1:=o_;subst this;exact A);have c:=Nb (λi=>(i:Int)) (Qa (m+1));have U:Holds Sd wr (w.heap.size+1) 0 (Ik m):=(by intro j o;rw[Rp] at o;rw[Nat.zero_add];obtain⟨p1,X⟩:=E.cellK c.symm o;refine⟨?_,X⟩;rw[p1,Nt];have:(Ik m)[j]! =⟨j,o⟩:=(by simp[Ik,o]);rw[this];simp[Sd,List.getD,o]);have H:Ho wr (L_ q b.length l) N b:=by rw[f.2.1];exact f.1.below a
  have y:=Zhj m _ _ q _ n _ _ _ f.2.1 H f.2.2 S (by rw[f.2.1];exact u) (by
   obtain⟨z,Q⟩:=Ad E (k:=w.heap.size+1) rfl
   exact⟨z,Q⟩)
  have t:Hid (C_ 294 #[.slice (some ⟨w.heap.size+1,0,none⟩) (m+1) (m+1),.func (.func 295) #[] #[.pointer (some ⟨w.heap.size,0,none⟩)]] wr λe w'=>e=.returned (.tuple #[])/\Ag w' w.heap.size (.slice (some ⟨w.heap.size+1,0,none⟩) (m+1) (m+1)) (Av (Da m b))/\E_ w w'):=by
   refine(ZdJ m _ _ _ _ _ Y (Rp m) _ y U).mono ?_;rintro e w' ⟨rfl,d,rfl⟩;have hp:=Zdq (D:=Sort.insertionSort _ _ 0 _) E c (ZeB _ (Zlt b) _ _ (Rp m));have r:=Zgv (Sd (m:=m+1)) wr (w.heap.size+1) 0 (Sort.insertionSort (ltOf (Sc (m:=m+1) b)) (Ik m) 0 (m+1));refine⟨rfl,?_,?_⟩;have e:Av (Da m b)=(Sort.insertionSort (ltOf (Sc (m:=m+1) b)) (Ik m) 0 (m+1)).toList.map (λx=>(x.val:Int)):=(by simp[Av,Da]);rw[e];exact(Ag.below (Ag.mono hp o_) (below_drewN bz_ d));refine below_drewN ?_ d;exact⟨r.os.trans a.os,r.tape.trans a.tape,r.output.trans a.output,Nat.le_trans a.size r.size,λk M=>(r.block k o_ o_).trans (a.block k M)⟩
  go_wp2_with fail
  refine t.mono ?_;rintro e w2 ⟨rfl,R,hb⟩;have L:=x2_ R hb;go_wp2;go_ret;exact⟨_,rfl,L.1,L.2⟩
end Go.Proofs.YtfcgnpchbcmdeaaGreat
namespace Go.Proofs.YtfcgnpchbcmdeaaGreat
set_option linter.all false
set_option maxRecDepth 100000
set_option maxHeartbeats 8000000
open Go.RowKit
structure KS where
 e:ES
 d:Nat
def Ay:KS:=⟨⟨false,[],[]⟩,0⟩
def KS.many(k:KS):Nat:=k.e.cnt+2
def Cf(k:KS)(v:Value×Value):List Value:=[.bool k.e.wd,v.1,v.2,I_ k.d]
def Gz:List KS->List (Value×Value)->List Value
 |[],_=>[]
 |_::_,[]=>[]
 |k::Ks,v::vs=>Cf k v++Gz Ks vs
def Oi:Value×Value:=(.slice none 0 0,.slice none 0 0)
def ic:∀(Ks:List KS) (vs:List (Value×Value)),vs.length=Ks.length->∀i,i<Ks.length->∀c,c<4->(Gz Ks vs)[i*4+c]? =(Cf (Ks.getD i Ay) (vs.getD i Oi))[c]?
 |[],_,_,i,h=>by simp at h
 |k::Ks,[],h,_,_=>by simp at h
 |k::Ks,v::vs,_,0,_=>λc hc=>by grind [Gz,Cf]
 |k::Ks,v::vs,h,i+1,hi=>λc hc=>by simp only[Gz];rw[List.getElem?_append_right (by simp[Cf];omega),show(i+1)*4+c-(Cf k v).length=i*4+c by simp[Cf];omega];exact ic _ _ (by simpa using h) i (by simpa using hi) c hc
def Du{w:World}{b c e a n:Nat}{v i}(h:w.ownsRow c e a v n i)(j:b<=c):w.ownsRow b e a v n i:=by
 refine⟨h.1,?_⟩
 rcases h.2 with l|⟨g,d,f,e,k,r⟩
 exact .inl l;exact .inr ⟨g,d,f,e,Nat.le_trans j k,r⟩
structure Mx(base)(w:World)(vK)(vs)(Ks):Prop where
 row:w.ownsRow 0 172 4 vK Ks.length (Gz Ks vs)
 len:vs.length=Ks.length
 each:∀i,i<Ks.length->Ag w base (vs.getD i Oi).1 (Ks.getD i Ay).e.bs/\Cc w base (vs.getD i Oi).2 (Ks.getD i Ay).e.ww
abbrev ZgJ(w:World)(vK:Value)(vs:List (Value×Value))(Ks:List KS):Prop:=Mx 0 w vK vs Ks
def Mx.mono{w base b2 vK vs Ks}(h:Mx base w vK vs Ks)(hb:b2<=base):Mx b2 w vK vs Ks:=⟨h.row,h.len,λi hi=>⟨Du (h.each i hi).1 hb,Du (h.each i hi).2 hb⟩⟩
def Mx.touch{S w w' base vK vs Ks}(h:Mx base w vK vs Ks)(t:Aa S w w')(hs:∀k cur ty,w.heap[k]? =some (.cells cur ty (0,0))->ty=172∨ty=3∨ty=9->¬S k):Mx base w' vK vs Ks:=
 ⟨t.row h.row (λk hk=>by obtain⟨cur,hc⟩:=Ad h.row hk;grind),h.len,λi hi=>⟨t.row (h.each i hi).1 (λk hk=>by obtain⟨cur,hc⟩:=Ad (h.each i hi).1 hk;grind),t.row (h.each i hi).2 (λk hk=>by obtain⟨cur,hc⟩:=Ad (h.each i hi).2 hk;grind)⟩⟩
def Mx.below{w w' base vK vs Ks}(h:Mx base w vK vs Ks)(hb:Below w.heap.size w w'):Mx base w' vK vs Ks:=
 ⟨(Aa.of_below (S:=λ_=>False) hb).row h.row (λ_ _=>id),h.len,λi hi=>⟨(h.each i hi).1.below hb,(h.each i hi).2.below hb⟩⟩
def Mx.at{w b p n a}(h:Mx b w p n a){i}(o:i<a.length):∃q c ab cb aw cw,p=L_ q a.length c/\q<w.heap.size/\w.cell? (A_ q (i*4))=some (.bool (a.getD i Ay).e.wd)/\w.cell? (A_ q (i*4+1))=some (.slice ab (a.getD i Ay).e.bs.length cb)/\w.cell? (A_ q (i*4+2))=some (.slice aw (a.getD i Ay).e.ww.length cw)/\w.cell? (A_ q (i*4+3))=some (I_ (a.getD i Ay).d)/\Ag w b (.slice ab (a.getD i Ay).e.bs.length cb) (a.getD i Ay).e.bs/\Cc w b (.slice aw (a.getD i Ay).e.ww.length cw) (a.getD i Ay).e.ww:=by
 have r:=h.row
 rcases h.row.2 with⟨_,h0⟩|⟨g,cap,cur,e,hb,hh,hnc,_⟩
 omega;subst e;obtain⟨l,m⟩:=h.each i o;obtain⟨ab,cb,k⟩:=l.shape;obtain⟨aw,cw,j⟩:=m.form;rw[k] at l;rw[j] at m
 have f:∀c u,c<4->(Cf (a.getD i Ay) (n.getD i Oi))[c]? =some u->w.cell? (A_ g (i*4+c))=some u:=λc u hc hu=>by rw[World.ownsRow.cellAt r (i*4+c) o_];exact(ic _ _ h.len i o c hc).trans hu
 refine⟨g,cap,ab,cb,aw,cw,rfl,(Qb hh).1,f 0 _ o_ rfl,?_,?_,f 3 _ o_ rfl,l,m⟩;rw[<- k];exact f 1 _ o_ rfl;rw[<- j];exact f 2 _ o_ rfl
structure Jw(w)(base)(vG)(gbs)(Ks)(Gs):Prop where
 x:Uf w vG gbs Ks Gs
 rk:∀i,i<Gs.length->∀k,vG.ownBlock=some k->¬Ks i k
 rb:∀k,vG.ownBlock=some k->base<=k
 kb:∀i,i<Gs.length->∀k,Ks i k->base<=k
def Uf.touch{S w w' vG gbs Ks Gs}(h:Uf w vG gbs Ks Gs)(t:Aa S w w')(hr:∀k,vG.ownBlock=some k->¬S k)(hs:∀i,i<Gs.length->∀k,Ks i k->¬S k):Uf w' vG gbs Ks Gs:=
 ⟨t.row h.row hr,h.len,λi hi=>(h.each i hi).touch t (hs i hi),h.apart⟩
def Jw.touch{S w w' base vG gbs Ks Gs}(h:Jw w base vG gbs Ks Gs)(t:Aa S w w')(hs:∀k,base<=k->¬S k):Jw w' base vG gbs Ks Gs:=
 ⟨h.x.touch t (λk hk=>hs k (h.rb k hk)) (λi hi k hk=>hs k (h.kb i hi k hk)),h.rk,h.rb,h.kb⟩
def Jw.put{w q d i u l o m K' G'}(h:Jw w d u l o m)(n:i<m.length)(t:Aa (o i) w q)(B:vg q K' (l.getD i 0) G')(f:∀k,K' k->o i k∨w.heap.size<=k)(s:d<=w.heap.size):Jw q d u l (λj=>if j=i then K' else o j) (m.set i G'):=by
 have v:∀j,j<m.length->∀k,o j k->k<w.heap.size:=λj hj k f=>by obtain⟨z,A,y⟩:=h.x.each j hj;exact y.kl k f
 refine⟨⟨?_,?_,λj hj=>?_,λa b ha hb hab k=>?_⟩,λj hj k hrk=>?_,h.rb,λj hj k=>?_⟩;rw[List.length_set];exact t.row h.x.row (λk f=>h.rk i n k f);rw[List.length_set];exact h.x.len
 ·rw[List.length_set] at hj
  by_cases e:j=i
  ·grind
  simp only[if_neg e];have:(m.set i G').getD j Fq=m.getD j Fq:=(by simp[List.getD,Ne.symm e]);rw[this];exact(h.x.each j hj).touch t (λk f=>h.x.apart j i hj n e k f)
 ·rw[List.length_set] at ha hb
  by_cases ea:a=i
  ·have p:b≠i:=λe=>hab (ea.trans e.symm);simp only[if_pos ea,if_neg p];intro g r
   rcases f k g with c|c
   exact h.x.apart i b n hb (λe=>p e.symm) k c r
   grind
  by_cases p:b=i
  ·simp only[if_neg ea,if_pos p];intro g r
   rcases f k r with c|c
   exact h.x.apart a i ha n ea k g c
   grind
  simp only[if_neg ea,if_neg p];exact h.x.apart a b ha hb hab k
 ·rw[List.length_set] at hj
  by_cases e:j=i
  ·simp only[if_pos e];intro g
   rcases f k g with c|c
   exact h.rk i n k hrk c;have:=(rl_ h.x.row k hrk).2;omega
  simp only[if_neg e];exact h.rk j hj k hrk
 rw[List.length_set] at hj
 by_cases e:j=i
 ·simp only[if_pos e];intro g
  rcases f k g with c|c
  exact h.kb i n k c;omega
 simp only[if_neg e];exact h.kb j hj k
def Jw.snoc{w B d n v l f y c o q}(h:Jw w d v f y c)(z:B.ownsRow 0 313 1 l (c.length+1) (f.map jo++[jo n]))(H:w.grownBy B v.ownBlock)(E:l.ownBlock=v.ownBlock∨∃N,l.ownBlock=some N/\w.heap.size<=N)(p:vg w o n q)(g:∀i,i<c.length->∀k,y i k->¬o k)(A:∀k,v.ownBlock=some k->¬o k)(I:∀k,o k->d<=k)(C:d<=w.heap.size):Jw B d l (f++[n]) (λj=>if j=c.length then o else y j) (c++[q]):=by
 have J:∀j,j<c.length->∀k,y j k->k<w.heap.size:=λj hj k g=>by obtain⟨F,G,p⟩:=h.x.each j hj;exact p.kl k g
 have D:∀k,o k->k<w.heap.size:=λk g=>by obtain⟨F,G,p⟩:=p;exact p.kl k g
 have t:=(Aa.refl _ w).grown H (λk g _=>g);have r:=h.x.len;refine⟨⟨?_,?_,λj hj=>?_,λa b ha hb hab k=>?_⟩,λj hj k hrk=>?_,λk hrk=>?_,λj hj k=>?_⟩
 ·grind
 simp[r]
 ·rw[Qe] at hj;simp at hj
  by_cases e:j=c.length
  subst e;simp only[if_true];have m:(c++[q]).getD c.length Fq=q:=(by simp[List.getD]);have u:(f++[n]).getD c.length 0=n:=w_;rw[m,u];exact p.touch t (λk g z=>A k z g);have s:j<c.length:=o_;simp only[if_neg e];have m:(c++[q]).getD j Fq=c.getD j Fq:=w_;have u:(f++[n]).getD j 0=f.getD j 0:=w_;rw[m,u];exact(h.x.each j s).touch t (λk g z=>h.rk j s k z g)
 ·rw[Qe] at ha hb;simp at ha hb
  by_cases ea:a=c.length
  ·grind
  by_cases eb:b=c.length
  ·grind
  simp only[if_neg ea,if_neg eb];exact h.x.apart a b o_ o_ hab k
 ·rw[Qe] at hj;simp at hj
  rcases E with m|⟨N,m,u⟩
  ·rw[m] at hrk
   by_cases e:j=c.length
   ·grind
   simp only[if_neg e];exact h.rk j o_ k hrk
  grind
 ·rcases E with m|⟨N,m,u⟩
  rw[m] at hrk;exact h.rb k hrk
  grind
 rw[Qe] at hj;simp at hj
 by_cases e:j=c.length
 ·grind
 simp only[if_neg e];exact h.kb j o_ k
def Gi(w:World)(ty:Nat)(u v:Value):Prop:=∃a n c,v=.slice a n c/\n<=maxLen/\(n=0∨∃g cur,a=some ⟨g,0,none⟩/\w.heap[g]? =some (.cells cur ty (0,0))/\∀i,i<n->cur[i]? =some u)
section
variable {w w' w0:World} {ty:Nat} {u v:Value}
def Gi.nil w ty u a c:Gi w ty u (.slice a 0 c):=⟨a,0,c,rfl,by simp[maxLen],.inl rfl⟩
def Gi.of_row{b g n d m c a}(j:w.ownsRow b ty 1 (L_ g m d) m (List.replicate m u))(f:m<=maxLen)(l:n<=m)(h:a=some ⟨g,0,none⟩):Gi w ty u (.slice a n c):=by
 subst h
 rcases j.2 with⟨e,_⟩|⟨g',cap',cur,e,_,hh,_,_,_,ht⟩
 ·cases e
 injection e with e1 e2 e3;injection e1 with e1;injection e1 with e1;subst e1;refine⟨_,n,c,rfl,o_,.inr ⟨g,cur,rfl,hh,λi hi=>?_⟩⟩;have k:(List.replicate m u)[i]? =some u:=w_
 grind
def Gi.own{a m}(b:w.ownsRow a ty 1 v m (List.replicate m u))(d:m<=maxLen):Gi w ty u v:=by
 have c:=b
 rcases b.2 with⟨rfl,_⟩|⟨g',cap',cur,e,_,hh,_,_,_,ht⟩
 exact .nil _ _ _ _ _
 grind [of_row]
def Gi.touch{S}(h:Gi w ty u v)(t:Aa S w w')(i:∀k cur,v.ownBlock=some k->w.heap[k]? =some (.cells cur ty (0,0))->¬S k):Gi w' ty u v:=by obtain⟨a,n,c,rfl,b,f|⟨g,cur,rfl,d,e⟩⟩:=h;exact⟨a,n,c,rfl,b,.inl f⟩;exact⟨_,n,c,rfl,b,.inr ⟨g,cur,rfl,t.at_ d (i g _ rfl d),e⟩⟩
def Gi.below(h:Gi w ty u v)(hb:Below w.heap.size w w'):Gi w' ty u v:=h.touch (S:=λ_=>False) (.of_below hb) (λ_ _ _ _=>id)
def Gi.alloc(h:Gi w ty u v) o:Gi (w.alloc o) ty u v:=h.below bA_
def Gi.append{x i f m N}(h:Gi w ty u x)(s:w.grownBy w' v.ownBlock)(k:i.ownBlock=v.ownBlock∨i.ownBlock=some N/\Below N w w')(t:w.heap.size=N)(y:w'.ownsRow f ty 1 i m (List.replicate m u))(z:m<=maxLen)(p:∃g cap,i=L_ g m cap)(A:yq x<=m):Gi w' ty u x:=by
 subst t
 rcases k with k|⟨_,r⟩
 ·obtain⟨a,n,c,rfl,b,o|⟨g,j,rfl,d,l⟩⟩:=h;exact⟨a,n,c,rfl,b,.inl o⟩;obtain⟨q,cap,rfl⟩:=p
  by_cases e:g=q
  ·grind [of_row,yq]
  refine⟨_,n,c,rfl,b,.inr ⟨g,j,rfl,?_,l⟩⟩;rw[s.block g (Qb d).1 (by rw[<- k];simpa [Value.ownBlock] using e)];exact d
 exact h.below r
structure Ji(w0 w:World)(ty:Nat)(u v)(n j)(news:List Value)(S):Prop where
 row:w.ownsRow 0 ty 1 v n (List.replicate n u)
 all:∀x∈news,Gi w ty u x/\yq x<=n+j/\∀k,x.ownBlock=some k->v.ownBlock=some k∨w0.heap.size<=k
 lt:∀x∈news,∀k,x.ownBlock=some k->k<w.heap.size
 tch:Aa S w0 w
variable {n j:Nat} {news:List Value} {S:Nat->Prop}
def Ji.start(a:w.ownsRow 0 ty 1 v n (List.replicate n u))(b:n<=maxLen)(t:Aa S w0 w):Ji w0 w ty u v n 0 [v] S:=by
 refine⟨a,λx hx=>?_,λx hx k hk=>?_,t⟩
 ·simp only[List.mem_singleton] at hx;subst hx;refine⟨.own a b,?_,λk hk=>.inl hk⟩
  rcases a.2 with⟨rfl,h0⟩|⟨g,cap,cur,rfl,_⟩
  exact qg_;exact qa_
 simp only[List.mem_singleton] at hx;subst hx;exact(rl_ a k hk).2
def Ji.more{b m}(h:Ji w0 w ty u v n j news S) o (z:j<=m)(s:w'.ownsRow 0 ty 1 b (n+m) (List.replicate n u++List.replicate m u)/\(w.alloc o).grownBy w' v.ownBlock/\(b.ownBlock=v.ownBlock∨b.ownBlock=some (w.heap.size+1)/\Below (w.heap.size+1) (w.alloc o) w')/\w'.ownsRow 0 ty 1 v n (List.replicate n u)/\∃g cap,b=L_ g (n+m) cap)(q:∀k,v.ownBlock=some k->S k)(e:n+m<=maxLen):Ji w0 w' ty u v n m (news++[b]) S:=by
 obtain⟨c,d,p,t,f⟩:=s;rw[List.replicate_append_replicate] at c;have l:=h.tch.size;refine⟨t,λx a=>?_,λx a k hk=>?_,(h.tch.alloc o).grown d (λk hk _=>q k hk)⟩
 ·rcases List.mem_append.1 a with a|a
  obtain⟨r,y,i⟩:=h.all x a;exact⟨(r.alloc o).append d p s_ c e f o_,o_,i⟩;simp only[List.mem_singleton] at a;subst a;refine⟨.own c e,?_,λk hk=>?_⟩;obtain⟨g,cap,rfl⟩:=f;exact qa_
  grind
 rcases List.mem_append.1 a with a|a
 have:=h.lt x a k hk;have:=d.size;simp at this;omega;simp only[List.mem_singleton] at a;subst a;exact(rl_ c k hk).2
end
def Mn(L:List Value)(u:Value)(k:Nat):List Value:=List.replicate k u++L.drop k
def Wv L u:Mn L u 0=L:=by simp[Mn]
def gr L u {k}(h:k<=L.length):(Mn L u k).length=L.length:=by simp[Mn];omega
def Wu L u:Mn L u L.length=List.replicate L.length u:=by simp[Mn]
def gt L u {k}(h:k<L.length):(Mn L u k).set k u=Mn L u (k+1):=by unfold Mn;rw[List.drop_eq_getElem_cons h,List.set_append_right _ _ s_,List.length_replicate,Nat.sub_self,List.set_cons_zero,List.replicate_succ'];simp
structure oh(w w':World)(g i)(c:Array Value)(ty tl tm:Nat)(u mk v vn vm:Value)(vs ms)(nx)(vn' vm')(news):Prop where
 wb:WB w' g (((c.setIfInBounds 12 (I_ nx)).setIfInBounds i vn').setIfInBounds (i+1) vm')
 rn:w'.ownsRow 0 tl 1 vn' (vs.length+4) (vs++news)
 rm:w'.ownsRow 0 tm 1 vm' (ms.length+4) (ms++List.replicate 4 mk)
 len:news.length=4
 all:∀x∈news,Gi w' ty u x/\∀k,x.ownBlock=some k->v.ownBlock=some k∨w.heap.size<=k
 tch:Aa (λk=>k=g∨v.ownBlock=some k∨vn.ownBlock=some k∨vm.ownBlock=some k) w w'
 nn:∀k,vn'.ownBlock=some k->vn.ownBlock=some k∨w.heap.size<=k
 nm:∀k,vm'.ownBlock=some k->vm.ownBlock=some k∨w.heap.size<=k
 am:∀x∈news,∀k,x.ownBlock=some k->vm'.ownBlock≠some k
 an:∀x∈news,∀k,x.ownBlock=some k->vn'.ownBlock≠some k
 lt:∀x∈news,∀k,x.ownBlock=some k->k<w'.heap.size
def WB.row{w}{g j base ty size n:Nat}{c v u xs}(h:WB w g c)(hr:w.ownsRow base ty size v n xs)(hne:ty≠90):(w.setCell (A_ g j) u).ownsRow base ty size v n xs:=As hr h hne
def WB.apart{w}{g base ty size n:Nat}{c v xs}(h:WB w g c)(hr:w.ownsRow base ty size v n xs)(hne:ty≠90):some g≠v.ownBlock:=λe=>by
 obtain⟨cur,hc⟩:=Ad hr e.symm;rw[h] at hc
 grind
def WB.all{w g j ty c u m v}(h:WB w g c)(ha:Gi w ty m v)(hne:ty≠90):Gi (w.setCell (A_ g j) u) ty m v:=
 ha.touch (S:=λk=>k=g) ((Aa.refl (λk=>k=g) w).setCell (p:=(A_ g j)) (λ_=>rfl) u) (λk cur _ hh e=>by
  subst e;rw[h] at hh
  grind)
def Zey:(Tryz.prog.info? 25).map (λi=>(i.zero,i.size,i.bytes))=some (some (.slice none 0 0),1,24):=k_
def jh g c v Q A L q W f w (H:WB w g c)(h6:c[6]? =some Q)(h7:c[7]? =some A)(aC:c[12]? =some (I_ f))(hL:Ag w 0 v L)(D:w.ownsRow 0 25 1 Q q.length q)(U:w.ownsRow 0 3 1 A W.length W)(aH:A.ownBlock=none∨A.ownBlock≠v.ownBlock)(hl:L.length<=4194304)(bU:q.length<=100000000)(bR:W.length<=100000000)(d:0<=f/\f<=100000000):C_ 142 #[.pointer (some ⟨g,4,none⟩),v] w λe w'=>e=.returned (.tuple #[])/\∃vn' vm' news,oh w w' g 6 c 3 25 3 (.int .i64 (-(f+1))) (.int .i64 (-(f+1))) v Q A q W (f+1) vn' vm' news:=by
 obtain⟨i0,y,M,J,O⟩:=info_parts Su;obtain⟨j0,aO,bE,bL,bH⟩:=info_parts Zey;obtain⟨n,hn⟩:=ex_ L.length
 obtain⟨a,i,rfl⟩:∃a i,v=.slice a n i:=by
  obtain⟨a,i,e⟩:=hL.shape
  grind
 rw[<- hn] at hl;have R:Hid (n=(L.map (Value.int .i64)).length):=by show _=_;grind
 have a3:Hid (w.ownsRow 0 3 1 (.slice a n i) n (L.map (Value.int .i64))):=by
  unfold Ag at hL
  grind
 have a1:=x1_ (An a3 D d_);have X:=x1_ aH;have aS:=x1_ (An D U d_);have aF:=x1_ D;have aX:=x1_ U;have bD:w.cell? (A_ g 12)=some (I_ f):=(by rw[H.cell];exact aC);have df:=λo=>H.frozen o;have bX:=H.lt;obtain⟨c1,G⟩:=ex_ (c.setIfInBounds 12 (I_ (f+1)));have b9:=x1_ G;have P:Hid (c1[6]? =some _/\c1[7]? =some _):=⟨by rw[G,Array.getElem?_setIfInBounds_ne d_];exact h6,by rw[G,Array.getElem?_setIfInBounds_ne d_];exact h7⟩;have l:=x3_ (H.apart a3 d_) (H.apart D d_) (H.apart U d_);have T:Hid (WB (w.setCell (A_ g 12) (I_ (f+1))) g c1):=by rw[G];exact H.set _ _
 have aQ:Hid ((w.setCell (A_ g 12) (I_ (f+1))).ownsRow 0 3 1 (.slice a n i) n (Mn (L.map (Value.int .i64)) (I_ (-(f+1))) 0)):=(by rw[Wv];exact H.row a3 d_);have aZ:Hid (Aa (λk=>k=g∨(Value.slice a n i).ownBlock=some k) w (w.setCell _ (I_ (f+1)))):=(Aa.refl _ w).setCell (p:=(A_ g 12)) (λ_=>.inl rfl) _
 have b6:(w.setCell (A_ g 12) (I_ (f+1))).cell? (A_ g 12)=some (I_ (f+1)):=by
  rw[(H.set 12 (I_ (f+1))).cell]
  grind
 clear H hL D U hn h6 h7 aC G aH;obtain⟨bT,c3⟩:=d;obtain⟨z,hz⟩:=ex_ (-(f+1));have q1:IntKind.i64.wrap (-(f+1))=z:=(by rw[Cb o_ o_,hz]);have q2:=hz.symm;rw[<- hz] at aQ ⊢;have bZ: -1000000000000<=z:=o_;clear hz;go_enter Tryz.func142,Tryz.ntmps142;go_upto_region 3 with fail;generalize w.setCell (A_ g 12) (I_ (f+1))=w1 at *;clear bD df b6;go_loopw [5] (λti wr=>∃k:Nat,k<=n/\ti=.int .i64 k/\Hid (wr.ownsRow 0 3 1 (.slice a n i) n (Mn (L.map (Value.int .i64)) (.int .i64 z) k))/\Hid (Aa (λk=>k=g∨(Value.slice a n i).ownBlock=some k) w wr)/\Hid (WB wr g c1)) (λti _=>n-(intOf ti).toNat)
 case atStart=>grind
 case round=>
  clear aQ aZ T;obtain⟨k,bC,rfl,HR,HT,HW⟩:=hrel
  by_cases hk:k<n
  ·have bO:0<=(k:Int):=o_;have bY:k<(n:Int):=o_
   obtain⟨Y,rfl⟩:∃Y,a=some ⟨Y,0,none⟩:=by
    rcases HR.out.2 with⟨_,h0⟩|⟨Y,cap,cur,e,_⟩
    omega
    grind
   have aL:=gr _ (I_ z) (k:=k) (by rw[<- R];exact bC);have cc:∃u,wr.cell? (A_ Y k)=some u:=(by rw[World.ownsRow.cellAt HR k o_];exact⟨_,Qd (by rw[aL,<- R];exact hk)⟩);obtain⟨u0,c0⟩:=cc;have cf:=World.ownsRow.frozenAt HR k;have bS:Hid ((wr.setCell (A_ Y k) (I_ z)).ownsRow 0 3 1 (L_ Y n i) n (Mn (L.map (Value.int .i64)) (I_ z) (k+1))):=by rw[<- gt _ _ (by rw[<- R];exact hk)];exact(World.ownsRow.stored HR k _).1
   have bP:Hid (Aa _ w (wr.setCell _ (I_ z))):=HT.setCell (p:=(A_ Y k)) (λ_=>.inr rfl) _;have a5:Hid (WB (wr.setCell _ (I_ z)) g _):=HW.other (p:=(A_ Y k)) (λe=>l.1 (by rw[e];rfl)) _;clear HR HT HW aL;go_wp2;go_roundw;case rel=>grind
   case measure=>exact z_
  have bF:k=n:=o_;subst bF;have bW:¬k<(k:Int):=o_
  have aA:Hid (Ji w wr 3 (I_ z) (.slice a k i) k 0 [.slice a k i] (λk'=>k'=g∨(Value.slice a k i).ownBlock=some k')):=by
   have:=HR.out
   rw[show Mn (L.map (Value.int .i64)) (I_ z) k=List.replicate k (I_ z) by
    have:=Wu (L.map (Value.int .i64)) (I_ z);rw[<- R] at this
    exact this] at this
   exact .start this m_ HT
  have E:Hid (wr.ownsRow 0 3 1 _ k _):=aA.row;have aE:=HW;clear HR HT HW;go_wp2_with (at_builtin;refine Ab rfl _ _ 25 rfl 0 3 i0 _ 1 8 Tryz.underlying25 y M J O rfl d_ (.slice a k i) k _ rfl (ra_ E _) _ 1 1 [I_ z] rfl rfl (Am wr _ 3) (by intro u t;simp only[List.mem_cons,List.not_mem_nil,or_false] at t;rcases t with rfl<;>rfl) d_ m_ o_ qg_ ?_)
  intro y1 w1 j;have a2:Hid (Ji w _ 3 _ _ k 1 [_,_] _):=aA.more (m:=1) _ o_ j (λk' hk'=>.inr hk') m_;have T:=x1_ ((aE.alloc _).grown j.2.1 l.1);obtain⟨aT,p1,bG⟩:=j.2.2.2.2;subst bG;have F:Hid (w1.ownsRow 0 3 1 _ k _):=a2.row;clear j aA aE E;go_wp2_with (at_builtin;refine Ab rfl (.tmp 35) _ 25 rfl 0 3 i0 _ 1 8 Tryz.underlying25 y M J O rfl d_ (.slice a k i) k _ rfl (ra_ F _) _ 2 2 [I_ z,I_ z] rfl rfl (Am w1 _ 3) (by intro u t;simp only[List.mem_cons,List.not_mem_nil,or_false] at t;rcases t with rfl|rfl<;>rfl) d_ m_ o_ qg_ ?_)
  intro y2 w2 j;have a9:Hid (Ji w _ 3 _ _ k 2 [_,_,_] _):=a2.more (m:=2) _ o_ j (λk' hk'=>.inr hk') m_;have a5:=x1_ ((T.alloc _).grown j.2.1 l.1);obtain⟨aJ,p2,bI⟩:=j.2.2.2.2;subst bI;have B:Hid (w2.ownsRow 0 3 1 _ k _):=a9.row;clear j a2 T F;go_wp2_with (at_builtin;refine Ab rfl _ (.tmp 44) 25 rfl 0 3 i0 _ 1 8 Tryz.underlying25 y M J O rfl d_ (.slice a k i) k _ rfl (ra_ B _) _ 3 3 [I_ z,I_ z,I_ z] rfl rfl (Am w2 _ 3) (by intro u t;simp only[List.mem_cons,List.not_mem_nil,or_false] at t;rcases t with rfl|rfl|rfl<;>rfl) d_ m_ o_ qg_ ?_)
  intro y3 w3 j;have b:Hid (Ji w _ 3 _ _ k 3 [_,_,_,_] _):=a9.more (m:=3) _ o_ j (λk' hk'=>.inr hk') m_;have N:=x1_ ((a5.alloc _).grown j.2.1 l.1);obtain⟨aD,p3,b3⟩:=j.2.2.2.2;subst b3;clear j a9 a5 B
  have aB:=x1_ (b.tch.row aF (λk' hk' e=>by
   rcases e with e|e
   subst e;exact l.2.1 hk'.symm
   rcases a1.out with h|h
   ·grind
   grind))
  have aR:=x1_ (b.tch.row aX (λk' hk' e=>by
   rcases e with e|e
   subst e;exact l.2.2 hk'.symm
   rcases X.out with h|h
   ·grind
   grind))
  have d6:w3.cell? (A_ g 6)=some Q:=(by rw[N.cell];exact P.1);have df:=λo=>N.frozen o;generalize hnews:[(.slice a k i:Value),L_ aT (k+1) p1,L_ aJ (k+2) p2,L_ aD (k+3) p3]=news at b;have aU:=x1_ hnews.symm;clear hnews;go_wp2_with (at_builtin;refine Ab rfl (.tmp 50) (.tmp 55) 84 rfl 0 25 j0 (.slice none 0 0) 1 24 Tryz.underlying84 aO bE bL bH rfl d_ Q q.length q rfl (ra_ aB _) _ 4 4 [.slice a k i,L_ aT (k+1) p1,L_ aJ (k+2) p2,L_ aD (k+3) p3] rfl rfl (Am w3 _ 25) (by intro u t;simp only[List.mem_cons,List.not_mem_nil,or_false] at t;rcases t with rfl|rfl|rfl|rfl<;>rfl) d_ m_ o_ qg_ ?_)
  intro vn' w4 j;obtain⟨aK,S,a8,_,Z,p4,bA⟩:=j;have T4:=((Aa.refl _ _).alloc _).grown S (λk' e _=>e);have s:=x1_ ((N.alloc _).grown S l.2.1);have aN:=x1_ (World.ownsRow.kept (ra_ aR _) S aS)
  have aW:=x1_ (λx d=>(b.all x d).1.touch T4 (λk' cur _ hh e=>by
   obtain⟨bN,bQ⟩:=Ad aB e
   grind))
  have aM:=x1_ ((b.tch.mono (S':=λk'=>k'=g∨(Value.slice a k _).ownBlock=some _∨Q.ownBlock=some _∨A.ownBlock=some k') (λk' _ e=>by rcases e with e|e;exact .inl e;exact .inr (.inl e))).trans (T4.mono (λk' _ e=>.inr (.inr (.inl e)))));have aY:Hid (w4.ownsRow 0 25 1 vn' (q.length+4) (q++news)):=by rw[aU];exact aK
  have b7:Hid (∀k',vn'.ownBlock=some k'->Q.ownBlock=some k'∨w.heap.size<=k'):=λk' hk'=>by
   rcases a8 with h|⟨h,_⟩
   ·grind
   rw[h] at hk';injection hk' with hk';have:=b.tch.size;omega
  have a0:=x1_ (λx d k' hk'=>Qh (b.lt x d k' hk') T4.size);have bM:=T4.size
  have bK:Hid (∀x∈news,∀k',x.ownBlock=some k'->vn'.ownBlock≠some k'):=λx d k' hk' e=>by
   rcases a8 with h|⟨h,_⟩
   ·rw[h] at e
    rcases(b.all x d).2.2 k' hk' with h3|h3
    ·rcases a1.out with h2|h2
     ·grind
     grind
    have:=(rl_ aF k' e).2;omega
   rw[h] at e;injection e with e;have:=b.lt x d k' hk';omega
  have aI:Hid (∀x∈news,∀k',x.ownBlock=some k'->A.ownBlock≠some k'):=λx d k' hk' e=>by
   rcases(b.all x d).2.2 k' hk' with h|h
   ·rcases X.out with h2|h2
    ·grind
    grind
   have:=(rl_ aX k' e).2;omega
  have b8:=x1_ (λx d k' hk'=>(b.all x d).2.2 k' hk');subst bA;have e6:w4.cell? (A_ g 6)=some Q:=(by rw[s.cell];exact P.1);have ef:=λo=>s.frozen o;clear aK S a8 T4 N aR aB b d6 df;go_upto_region 10 with fail;have V:Hid (WB _ g (c1.setIfInBounds 6 (L_ Z (q.length+4) p4))):=s.set 6 _;have a6:Hid ((w4.setCell ⟨g,6,_⟩ (L_ Z (q.length+4) p4)).ownsRow 0 3 1 A _ W):=s.row aN d_;have a7:Hid ((w4.setCell ⟨g,6,_⟩ (L_ Z (q.length+4) p4)).ownsRow 0 25 1 _ _ _):=s.row aY d_;have aG:Hid (∀x∈_,Gi (w4.setCell ⟨g,6,_⟩ (L_ Z (q.length+4) p4)) 3 _ x):=λx d=>s.all (aW x d) d_;have a4:Hid (Aa _ w (w4.setCell _ (L_ Z (q.length+4) p4))):=aM.setCell (p:=(A_ g 6)) (λ_=>.inl rfl) _
  have C:Hid (∀x∈news,∀k',x.ownBlock=some k'->k'<(w4.setCell (A_ g 6) (L_ Z (q.length+4) p4)).heap.size):=λx d k' hk'=>by
   have:=a0 x d k' hk'
   simpa [World.setCell] using this
  clear s aN aY aW aM a0 e6 ef;generalize w4.setCell (A_ g 6) (L_ Z (q.length+4) p4)=w5 at *;have d7:w5.cell? (A_ g 7)=some A:=(by rw[V.cell,Array.getElem?_setIfInBounds_ne d_];exact P.2);have df:=λo=>V.frozen o;have bV:=a4.size;go_wp2_with (at_builtin;refine Ab rfl (.tmp 63) (.tmp 68) 25 rfl 0 3 i0 (I_ 0) 1 8 Tryz.underlying25 y M J O rfl d_ A W.length W rfl (ra_ a6 _) (A_ w5.heap.size 0) 4 4 [I_ z,I_ z,I_ z,I_ z] rfl rfl (Am w5 _ 3) (by intro u t;simp only[List.mem_cons,List.not_mem_nil,or_false] at t;rcases t with rfl|rfl|rfl|rfl<;>rfl) d_ m_ o_ qg_ ?_)
  intro vm' w6 j;obtain⟨aV,I,aP,_,q6,p6,bB⟩:=j;have T6:=((Aa.refl _ _).alloc _).grown I (λk' e _=>e);have r:=x1_ ((V.alloc _).grown I l.2.2)
  have b5:Hid (oh w (w6.setCell (A_ g 7) vm') g 6 c 3 25 3 (I_ z) (I_ z) (.slice a k i) Q A q W (f+1) (L_ Z (q.length+4) p4) vm' news):=by
   refine⟨?_,?_,?_,?_,λx d=>⟨?_,b8 x d⟩,?_,b7,λk' hk'=>?_,λx d k' hk' e=>?_,bK,λx d k' hk'=>?_⟩;rw[<- b9];exact r.set 7 _;exact r.row (World.ownsRow.kept (ra_ a7 _) I (An a6 a7 d_)) d_;exact r.row aV d_;rw[aU];rfl;exact r.all ((aG x d).touch T6 (λk' cur h1 _ e=>aI x d _ h1 e)) d_;exact(a4.trans (T6.mono (λk' _ e=>.inr (.inr (.inr e))))).setCell (p:=(A_ g 7)) (λ_=>.inl rfl) _
   ·grind
   ·rcases aP with h|⟨h,_⟩
    exact aI x d _ hk' (h ▸ e);rw[h] at e;injection e with e;have:=C x d k' hk';omega
   have:=C x d k' hk';have:=T6.size;simp[World.setCell];omega
  have e7:w6.cell? (A_ g 7)=some A:=(by rw[r.cell,Array.getElem?_setIfInBounds_ne d_];exact P.2);have ef:=λo=>r.frozen o;subst bB;clear aV I aP T6 V a6 a7 aG a4 C r d7 df;go_wp2;go_end0;exact⟨rfl,_,_,_,b5⟩
def Zlc:(Tryz.prog.info? 9).map (λi=>(i.zero,i.size,i.bytes))=some (some (.string ⟨#[]⟩),1,16):=k_
def Zj0:(Tryz.prog.info? 47).map (λi=>(i.zero,i.size,i.bytes))=some (some (.slice none 0 0),1,24):=k_
def Zkd(z:Int):ByteArray:=({data:=#[109,97,114,107]}:ByteArray)++strOfNums [z%256,z/256%256]
def zg g c v vn E L s ms d w (Q:WB w g c)(h6:c[8]? =some vn)(h7:c[9]? =some E)(aJ:c[12]? =some (I_ d))(hL:Cc w 0 v L)(J:w.ownsRow 0 47 1 vn s.length s)(a2:w.ownsRow 0 9 1 E ms.length ms)(aO:E.ownBlock=none∨E.ownBlock≠v.ownBlock)(hl:L.length<=4194304)(c5:s.length<=100000000)(c3:ms.length<=100000000)(j:0<=d/\d<=100000000):C_ 143 #[.pointer (some ⟨g,4,none⟩),v] w λe w'=>e=.returned (.tuple #[])/\∃vn' vm' news,oh w w' g 8 c 9 47 9 (.string (Zkd (d+1))) (.string (Zkd (d+1))) v vn E s ms (d+1) vn' vm' news:=by
 obtain⟨i0,C,V,U,X⟩:=info_parts Zlc;obtain⟨j0,aV,bN,bV,bS⟩:=info_parts Zj0;obtain⟨n,hn⟩:=ex_ L.length
 obtain⟨a,l,rfl⟩:∃a l,v=.slice a n l:=by
  obtain⟨a,l,e⟩:=hL.form
  grind
 rw[<- hn] at hl;have a0:Hid (n=(L.map Value.string).length):=by show _=_;grind
 have a8:Hid (w.ownsRow 0 9 1 (.slice a n l) n (L.map Value.string)):=by
  unfold Cc at hL
  grind
 have a6:=x1_ (An a8 J d_);have a4:=x1_ aO;have aZ:=x1_ (An J a2 d_);have aM:=x1_ J;have b9:=x1_ a2;have bM:w.cell? (A_ g 12)=some (I_ d):=(by rw[Q.cell];exact aJ);have df:=λo=>Q.frozen o;have bO:=Q.lt;obtain⟨c1,O⟩:=ex_ (c.setIfInBounds 12 (I_ (d+1)));have bH:=x1_ O;have Z:Hid (c1[8]? =some _/\c1[9]? =some _):=⟨by rw[O,Array.getElem?_setIfInBounds_ne d_];exact h6,by rw[O,Array.getElem?_setIfInBounds_ne d_];exact h7⟩;have r:=x3_ (Q.apart a8 d_) (Q.apart J d_) (Q.apart a2 d_);have z:Hid (WB (w.setCell (A_ g 12) (I_ (d+1))) g c1):=by rw[O];exact Q.set _ _
 have P:Hid ((w.setCell (A_ g 12) (I_ (d+1))).ownsRow 0 9 1 (.slice a n l) n (Mn (L.map Value.string) (.string (Zkd (d+1))) 0)):=(by rw[Wv];exact Q.row a8 d_);have H:Hid (Aa (λk=>k=g∨(Value.slice a n l).ownBlock=some k) w (w.setCell _ (I_ (d+1)))):=(Aa.refl _ w).setCell (p:=(A_ g 12)) (λ_=>.inl rfl) _
 have R:(w.setCell (A_ g 12) (I_ (d+1))).cell? (A_ g 12)=some (I_ (d+1)):=by
  rw[(Q.set 12 (I_ (d+1))).cell]
  grind
 clear Q hL J a2 hn h6 h7 aJ O aO;obtain⟨c4,c9⟩:=j;obtain⟨b,aB⟩:=ex_ (Zkd (d+1));rw[<- aB] at P ⊢;have q1:_/2^8=(d+1)/256:=rfl;go_enter Tryz.func143,Tryz.ntmps143;go_upto_region 1 with fail;generalize w.setCell (A_ g 12) (I_ (d+1))=F at *;clear bM df
 have u1:∀x:_,IntKind.u8.wrap x=x%256:=λx=>by simp only[IntKind.wrap,IntKind.bits,IntKind.signed];simp
 have b7:=Qh bO H.size;have bB:(convert 66 9 (L_ F.heap.size 2 2)).run Tryz.prog (F.alloc (.cells #[.int .u8 (IntKind.u8.wrap (d+1)),.int .u8 (IntKind.u8.wrap ((d+1)/256))] 5)).drew=.ok (.string (strOfNums [(d+1)%256,(d+1)/256%256])) (F.alloc (.cells #[.int .u8 (IntKind.u8.wrap (d+1)),.int .u8 (IntKind.u8.wrap ((d+1)/256))] 5)).drew:=(by refine Pz _ 0 _ _ ?_;rw[u1,u1];exact World.ownsRow.drew (World.ownsRow_lit (base:=0) (size:=1) (e:=5) _ _ 2 qg_ m_ rfl));clear u1;have aX:Hid (_=_++_):=aB;clear aB;have bR:¬9223372036854775807<4+(strOfNums [(d+1)%256,(d+1)/256%256]).size:=(by simp[strOfNums,ByteArray.size]);generalize strOfNums [(d+1)%256,(d+1)/256%256]=sm at *;go_cut [4] (λv wx=>v=.string b/\Hid (E_ F wx))
 case first=>
  refine Al (λw'=>w'.cell? _=some _) 14 k_ R (λhHeld=>?_);refine Ah 0 ?_;refine Ah 1 ?_;refine Ah 2 ?_;refine Ua [4,11,12,13,14] 3 (v:=?_) ?_ ?_
  rotate_left;· intro w bE;go_simp;try with_reducible rfl
  try simp only[Act.put,sA,sB,sC]
  refine Ah 4 ?_;refine Ah 5 ?_;refine Ah 6 ?_;refine Ah 7 ?_;refine Ua [9,10,11,12,13,14] 8 (v:=?_) ?_ ?_
  rotate_left;· intro w bE;go_simp;try with_reducible rfl
  try simp only[Act.put,sA,sB,sC]
  refine Ah 9 ?_;refine Ah 10 ?_;refine Af (i:=11) k_ rfl (λKK hK=>?_);go_simp;refine hK _ _ ((Below.cell (B:=F.heap.size) (w:=F) (p:=(A_ g 12)) (by repeat(first|with_reducible exact bz_|with_reducible apply Below.drew|(refine Below.alloc ?_ o_ _))) b7).trans R) (λhHeld=>?_);clear hK KK;try simp only[Act.put,sA,sB,sC]
  refine Af (i:=12) k_ rfl (λKK hK=>?_);go_simp;refine hK _ _ ((Below.cell (B:=F.heap.size) (w:=F) (p:=(A_ g 12)) (by repeat(first|with_reducible exact bz_|with_reducible apply Below.drew|(refine Below.alloc ?_ o_ _))) b7).trans R) (λhHeld=>?_);clear hK KK;try simp only[Act.put,sA,sB,sC]
  refine Ah 13 ?_;refine Ai (i:=14) k_ rfl k_ (λKK hK=>?_);go_simp;refine hK _ _ ?_;clear hK KK;try simp only[Act.put,sA,sB,sC]
  refine Ak k_ ?_ _;go_wp2;go_meet
  exact⟨by rw[aX],(by show Below _ _ _;grind [br_,Below.drew,Below.alloc])⟩
 case rest=>
 obtain⟨rfl,Y⟩:=hcut;have aC:=x1_ ((Aa.of_below (S:=λ_=>False) Y).row P (λ_ _=>id));have aA:=x1_ (H.below Y);have D:Hid (WB _ g _):=(Y.block g o_).trans z;clear bR bB R Y P H z aX q1;have P:=aC;have H:=aA;have z:=D;clear aC aA D;generalize wc=w1' at *;go_upto_region 3 with fail;go_loopw [5] (λti wr=>∃k:Nat,k<=n/\ti=.int .i64 k/\Hid (wr.ownsRow 0 9 1 (.slice a n l) n (Mn (L.map Value.string) (.string b) k))/\Hid (Aa (λk=>k=g∨(Value.slice a n l).ownBlock=some k) w wr)/\Hid (WB wr g c1)) (λti _=>n-(intOf ti).toNat)
 case atStart=>grind
 case round=>
  clear P H z;obtain⟨k,bL,rfl,HR,HT,HW⟩:=hrel
  by_cases hk:k<n
  ·have bY:0<=(k:Int):=o_;have c8:k<(n:Int):=o_
   obtain⟨gl,rfl⟩:∃gl,a=some ⟨gl,0,none⟩:=by
    rcases HR.out.2 with⟨_,h0⟩|⟨gl,cap,cur,e,_⟩
    omega
    grind
   have aS:=gr _ (.string b) (k:=k) (by rw[<- a0];exact bL);have cc:∃u,wr.cell? (A_ gl k)=some u:=(by rw[World.ownsRow.cellAt HR k o_];exact⟨_,Qd (by rw[aS,<- a0];exact hk)⟩);obtain⟨u0,c0⟩:=cc;have cf:=World.ownsRow.frozenAt HR k;have aC:Hid ((wr.setCell (A_ gl k) (.string b)).ownsRow 0 9 1 (L_ gl n l) n (Mn (L.map Value.string) (.string b) (k+1))):=by rw[<- gt _ _ (by rw[<- a0];exact hk)];exact(World.ownsRow.stored HR k _).1
   have aA:Hid (Aa _ w (wr.setCell _ (.string b))):=HT.setCell (p:=(A_ gl k)) (λ_=>.inr rfl) _;have D:Hid (WB (wr.setCell _ (.string b)) g _):=HW.other (p:=(A_ gl k)) (λe=>r.1 (by rw[e];rfl)) _;clear HR HT HW aS;go_wp2;go_roundw;case rel=>grind
   case measure=>exact z_
  have bP:k=n:=o_;subst bP;have c7:¬k<(k:Int):=o_
  have aH:Hid (Ji w wr 9 (.string b) (.slice a k l) k 0 [.slice a k l] (λk'=>k'=g∨(Value.slice a k l).ownBlock=some k')):=by
   have:=HR.out
   rw[show Mn (L.map Value.string) (.string b) k=List.replicate k (.string b) by
    have:=Wu (L.map Value.string) (.string b);rw[<- a0] at this
    exact this] at this
   exact .start this m_ HT
  have M:Hid (wr.ownsRow 0 9 1 _ k _):=aH.row;have aL:=HW;clear HR HT HW;go_wp2_with (at_builtin;refine Ab rfl (.tmp 40) (.tmp 42) 47 rfl 0 9 i0 _ 1 16 Tryz.underlying47 C V U X rfl d_ (.slice a k l) k _ rfl (ra_ M _) _ 1 1 [.string b] rfl rfl (Am wr #[.string b] 9) (by intro u A;simp only[List.mem_cons,List.not_mem_nil,or_false] at A;rcases A with rfl<;>rfl) d_ m_ o_ qg_ ?_)
  intro y1 F q;have a7:Hid (Ji w _ 9 _ _ k 1 [_,_] _):=aH.more (m:=1) _ o_ q (λk' hk'=>.inr hk') m_;have z:=x1_ ((aL.alloc _).grown q.2.1 r.1);obtain⟨b3,p1,bQ⟩:=q.2.2.2.2;subst bQ;have N:Hid (F.ownsRow 0 9 1 _ k _):=a7.row;clear q aH aL M;go_wp2_with (at_builtin;refine Ab rfl (.tmp 44) (.tmp 47) 47 rfl 0 9 i0 (.string ⟨#[]⟩) 1 16 Tryz.underlying47 C V U X rfl d_ (.slice a k l) k _ rfl (ra_ N _) _ 2 2 [.string b,.string b] rfl rfl (Am F _ 9) (by intro u A;simp only[List.mem_cons,List.not_mem_nil,or_false] at A;rcases A with rfl|rfl<;>rfl) d_ m_ o_ qg_ ?_)
  intro y2 w2 q;have aG:Hid (Ji w _ 9 _ _ k 2 [_,_,_] _):=a7.more (m:=2) _ o_ q (λk' hk'=>.inr hk') m_;have D:=x1_ ((z.alloc _).grown q.2.1 r.1);obtain⟨aQ,p2,bT⟩:=q.2.2.2.2;subst bT;have G:Hid (w2.ownsRow 0 9 1 _ k _):=aG.row;clear q a7 z N;go_wp2_with (at_builtin;refine Ab rfl (.tmp 49) (.tmp 53) 47 rfl 0 9 i0 (.string ⟨#[]⟩) 1 16 Tryz.underlying47 C V U X rfl d_ (.slice a k l) k (List.replicate k (.string b)) rfl (ra_ G _) (A_ w2.heap.size 0) 3 3 [.string b,.string b,.string b] rfl rfl (Am w2 _ 9) (by intro u A;simp only[List.mem_cons,List.not_mem_nil,or_false] at A;rcases A with rfl|rfl|rfl<;>rfl) d_ m_ o_ qg_ ?_)
  intro y3 w3 q;have f:Hid (Ji w _ 9 _ _ k 3 [_,_,_,_] _):=aG.more (m:=3) _ o_ q (λk' hk'=>.inr hk') m_;have W:=x1_ ((D.alloc _).grown q.2.1 r.1);obtain⟨aK,p3,bC⟩:=q.2.2.2.2;subst bC;clear q aG D G
  have aI:=x1_ (f.tch.row aM (λk' hk' e=>by
   rcases e with e|e
   subst e;exact r.2.1 hk'.symm
   rcases a6.out with h|h
   ·grind
   grind))
  have aY:=x1_ (f.tch.row b9 (λk' hk' e=>by
   rcases e with e|e
   subst e;exact r.2.2 hk'.symm
   rcases a4.out with h|h
   ·grind
   grind))
  have d6:w3.cell? (A_ g 8)=some vn:=(by rw[W.cell];exact Z.1);have df:=λo=>W.frozen o;generalize hnews:[(.slice a k l:Value),L_ b3 (k+1) p1,L_ aQ (k+2) p2,L_ aK (k+3) p3]=news at f;have b5:=x1_ hnews.symm;clear hnews;go_wp2_with (at_builtin;refine Ab rfl (.tmp 59) (.tmp 64) 85 rfl 0 47 j0 (.slice none 0 0) 1 24 Tryz.underlying85 aV bN bV bS rfl d_ vn s.length s rfl (ra_ aI _) (A_ w3.heap.size 0) 4 4 [.slice a k l,L_ b3 (k+1) p1,L_ aQ (k+2) p2,L_ aK (k+3) p3] rfl rfl (Am w3 _ 47) (by intro u A;simp only[List.mem_cons,List.not_mem_nil,or_false] at A;rcases A with rfl|rfl|rfl|rfl<;>rfl) d_ m_ o_ qg_ ?_)
  intro vn' w4 q;obtain⟨aR,a1,aF,_,q4,p4,bI⟩:=q;have T4:=((Aa.refl _ _).alloc _).grown a1 (λk' e _=>e);have y:=x1_ ((W.alloc _).grown a1 r.2.1);have aU:=x1_ (World.ownsRow.kept (ra_ aY _) a1 aZ)
  have b8:=x1_ (λx j=>(f.all x j).1.touch T4 (λk' cur _ hh e=>by
   obtain⟨bX,bZ⟩:=Ad aI e
   grind))
  have aT:=x1_ ((f.tch.mono (S':=λk'=>k'=g∨(Value.slice a k _).ownBlock=some _∨vn.ownBlock=some _∨E.ownBlock=some k') (λk' _ e=>by rcases e with e|e;exact .inl e;exact .inr (.inl e))).trans (T4.mono (λk' _ e=>.inr (.inr (.inl e)))));have bA:Hid (w4.ownsRow 0 47 1 vn' (s.length+4) (s++news)):=by rw[b5];exact aR
  have bF:Hid (∀k',vn'.ownBlock=some k'->vn.ownBlock=some k'∨w.heap.size<=k'):=λk' hk'=>by
   rcases aF with h|⟨h,_⟩
   ·grind
   rw[h] at hk';injection hk' with hk';have:=f.tch.size;omega
  have a5:=x1_ (λx j k' hk'=>Qh (f.lt x j k' hk') T4.size);have bW:=T4.size
  have bU:Hid (∀x∈news,∀k',x.ownBlock=some k'->vn'.ownBlock≠some k'):=λx j k' hk' e=>by
   rcases aF with h|⟨h,_⟩
   ·rw[h] at e
    rcases(f.all x j).2.2 k' hk' with h3|h3
    ·rcases a6.out with h2|h2
     ·grind
     grind
    have:=(rl_ aM k' e).2;omega
   rw[h] at e;injection e with e;have:=f.lt x j k' hk';omega
  have aP:Hid (∀x∈news,∀k',x.ownBlock=some k'->E.ownBlock≠some k'):=λx j k' hk' e=>by
   rcases(f.all x j).2.2 k' hk' with h|h
   ·rcases a4.out with h2|h2
    ·grind
    grind
   have:=(rl_ b9 k' e).2;omega
  have bG:=x1_ (λx j k' hk'=>(f.all x j).2.2 k' hk');subst bI;have e6:w4.cell? (A_ g 8)=some vn:=(by rw[y.cell];exact Z.1);have ef:=λo=>y.frozen o;clear aR a1 aF T4 W aY aI f d6 df;go_upto_region 10 with fail;have a3:Hid (WB _ g (c1.setIfInBounds 8 (L_ q4 (s.length+4) p4))):=y.set 8 _;have aD:Hid ((w4.setCell ⟨g,8,_⟩ (L_ q4 (s.length+4) p4)).ownsRow 0 9 1 E _ ms):=y.row aU d_;have aE:Hid ((w4.setCell ⟨g,8,_⟩ (L_ q4 (s.length+4) p4)).ownsRow 0 47 1 _ _ _):=y.row bA d_;have aN:Hid (∀x∈_,Gi (w4.setCell ⟨g,8,_⟩ (L_ q4 (s.length+4) p4)) 9 _ x):=λx j=>y.all (b8 x j) d_;have a9:Hid (Aa _ w (w4.setCell _ (L_ q4 (s.length+4) p4))):=aT.setCell (p:=(A_ g 8)) (λ_=>.inl rfl) _
  have I:Hid (∀x∈news,∀k',x.ownBlock=some k'->k'<(w4.setCell (A_ g 8) (L_ q4 (s.length+4) p4)).heap.size):=λx j k' hk'=>by
   have:=a5 x j k' hk'
   simpa [World.setCell] using this
  clear y aU bA b8 aT a5 e6 ef;generalize w4.setCell (A_ g 8) (L_ q4 (s.length+4) p4)=w5 at *;have d7:w5.cell? (A_ g 9)=some E:=(by rw[a3.cell,Array.getElem?_setIfInBounds_ne d_];exact Z.2);have df:=λo=>a3.frozen o;have c6:=a9.size;go_wp2_with (at_builtin;refine Ab rfl (.tmp 72) (.tmp 77) 47 rfl 0 9 i0 (.string ⟨#[]⟩) 1 16 Tryz.underlying47 C V U X rfl d_ E ms.length ms rfl (ra_ aD _) (A_ w5.heap.size 0) 4 4 [.string b,.string b,.string b,.string b] rfl rfl (Am w5 #[.string b,.string b,.string b,.string b] 9) (by intro u A;simp only[List.mem_cons,List.not_mem_nil,or_false] at A;rcases A with rfl|rfl|rfl|rfl<;>rfl) d_ m_ o_ qg_ ?_)
  intro vm' w6 q;obtain⟨b6,T,aW,_,q6,p6,bK⟩:=q;have T6:=((Aa.refl _ _).alloc _).grown T (λk' e _=>e);have t:=x1_ ((a3.alloc _).grown T r.2.2)
  have bD:Hid (oh w (w6.setCell (A_ g 9) vm') g 8 c 9 47 9 (.string b) (.string b) (.slice a k l) vn E s ms (d+1) (L_ q4 (s.length+4) p4) vm' news):=by
   refine⟨?_,?_,?_,?_,λx j=>⟨?_,bG x j⟩,?_,bF,λk' hk'=>?_,λx j k' hk' e=>?_,bU,λx j k' hk'=>?_⟩;rw[<- bH];exact t.set 9 _;exact t.row (World.ownsRow.kept (ra_ aE _) T (An aD aE d_)) d_;exact t.row b6 d_;rw[b5];rfl;exact t.all ((aN x j).touch T6 (λk' cur h1 _ e=>aP x j _ h1 e)) d_;exact(a9.trans (T6.mono (λk' _ e=>.inr (.inr (.inr e))))).setCell (p:=(A_ g 9)) (λ_=>.inl rfl) _
   ·grind
   ·rcases aW with h|⟨h,_⟩
    exact aP x j _ hk' (h ▸ e);rw[h] at e;injection e with e;have:=I x j k' hk';omega
   have:=I x j k' hk';have:=T6.size;simp[World.setCell];omega
  have e7:w6.cell? (A_ g 9)=some E:=(by rw[t.cell,Array.getElem?_setIfInBounds_ne d_];exact Z.2);have ef:=λo=>t.frozen o;subst bK;clear b6 T aW T6 a3 aD aE aN a9 I t d7 df;go_wp2;go_end0;exact⟨rfl,_,_,_,bD⟩
def Im(n:Nat):GS:=⟨[],List.replicate n false,0,0⟩
def Bc(Ks:List KS)(Os:List (List Bool))(n budget:Nat)(Gs:List GS)(f:Nat):List GS:=
 if Gs.findIdx (Fd (Os.getD f []) (Ks.getD f Ay).many budget)<Gs.length then Gs.set (Gs.findIdx (Fd (Os.getD f []) (Ks.getD f Ay).many budget)) (Tg (Gs.getD (Gs.findIdx (Fd (Os.getD f []) (Ks.getD f Ay).many budget)) Fq) f (Os.getD f []) (Ks.getD f Ay).many)
 else Gs++[Tg (Im n) f (Os.getD f []) (Ks.getD f Ay).many]
def Ha(m:Nat)(Ks:List KS)(Os:List (List Bool))(n budget:Nat):List GS:=(Da m Os).foldl (Bc Ks Os n budget) []
structure nh(n k)(Gs:List GS):Prop where
 len:Gs.length<=k
 each:∀G∈Gs,G.out.length=n/\G.conf<=400/\G.bins<=400/\G.fs.length<=k
def ZaI{a b}(h:a.length=b.length):Et a b<=b.length:=by have:=Rl (Hc a b);rw[Ri h] at this;exact this
def nh.step{n k budget Ks Os b f}(h:nh n k b)(e:(Os.getD f []).length=n)(r:n<=200)(t:budget<=20)(s:(Ks.getD f Ay).many<=100):nh n (k+1) (Bc Ks Os n budget b f):=by
 unfold Bc;split
 ·rename_i hi;have c:=List.findIdx_getElem (w:=hi);generalize b.findIdx (Fd (Os.getD f []) (Ks.getD f Ay).many budget)=i at *;have j:b.getD i Fq=b[i]:=w_;rw[j];obtain⟨m,q,v,u⟩:=h.each b[i] (Qf hi);simp only[Fd,Bool.and_eq_true,decide_eq_true_eq] at c;refine⟨by rw[List.length_set];have:=h.len;omega,λG a=>?_⟩
  rcases List.mem_or_eq_of_mem_set a with a|rfl
  obtain⟨p,o,g,l⟩:=h.each G a;omega;refine⟨?_,?_,?_,?_⟩;show(orL _ _).length=n;rw[Ke o_];exact m;show b[i].conf+Et b[i].out (Os.getD f [])<=400;omega;show b[i].bins+_<=400;omega;show(b[i].fs++[f]).length<=k+1;simp;omega
 refine⟨by rw[Qe];have:=h.len;simp;omega,λG a=>?_⟩
 rcases List.mem_append.1 a with a|a
 obtain⟨p,o,g,l⟩:=h.each G a;omega;simp only[List.mem_cons,List.not_mem_nil,or_false] at a;subst a;have d:(Im n).out.length=(Os.getD f []).length:=(by rw[e];exact List.length_replicate);refine⟨?_,?_,?_,?_⟩;show(orL _ _).length=n;rw[Ke d];simp[Im];show 0+Et (Im n).out (Os.getD f [])<=400;have:=ZaI d;omega;show 0+_<=400;omega;show([]++[f]).length<=k+1;simp
def nh.ok{n k Gs}(h:nh n k Gs)(hk:k<=100):∀G∈Gs,GOk n G:=λG hG=>by obtain⟨a1,a2,a3,a4⟩:=h.each G hG;exact⟨a1,o_,o_,o_⟩
def Mx.at2{w q n c b a}(h:ZgJ w (L_ q n c) b a){i}(f:i<a.length):∃ab cb aw cw,q<w.heap.size/\w.cell? (A_ q (i*4))=some (.bool (a.getD i Ay).e.wd)/\w.cell? (A_ q (i*4+1))=some (.slice ab (a.getD i Ay).e.bs.length cb)/\w.cell? (A_ q (i*4+2))=some (.slice aw (a.getD i Ay).e.ww.length cw)/\w.cell? (A_ q (i*4+3))=some (I_ (a.getD i Ay).d)/\Ag w 0 (.slice ab (a.getD i Ay).e.bs.length cb) (a.getD i Ay).e.bs/\Cc w 0 (.slice aw (a.getD i Ay).e.ww.length cw) (a.getD i Ay).e.ww:=by
 obtain⟨g,j,ab,cb,aw,cw,e,r⟩:=h.at f
 grind
def Ho.at2{w q n c a b}(h:Ho w (L_ q n c) a b){i}(d:i<b.length):q<w.heap.size/\w.cell? (A_ q i)=some (a.getD i (.slice none 0 0)):=by
 obtain⟨f,g,e,r⟩:=h.at d
 grind
def ZjU:(Tryz.prog.info? 313).map (λi=>(i.zero,i.size,i.bytes))=some (some (.pointer none),1,8):=k_
def KS.many_eq(k:KS):(La k.e.wd k.e.bs.length k.e.ww.length:Nat)+2=(k.many:Int):=by unfold KS.many ES.cnt;omega
def Zmb(w:World)(N:Nat)(v:Value)(Gs:List GS):Prop:=∃base gbs Kk,N<=base/\Jw w base v gbs Kk Gs
def Zcy{p:Prop}(h:p:=by
 rcases HOF3.out.1.2 with⟨e,_⟩|⟨g,cap,cur,e,_⟩
 rw[e] at hq;cases hq;injection e with e _ _;rw[e] at hq ⊢;simp[Value.ownBlock] at hq
 rw[hq]):p:=h
def Zp(m n b qk kc qo oc:Nat) vs os o r w (hm:m+1<=4)(b6:o.length=m+1)(a8:r.length=m+1)(hK:ZgJ w (L_ qk (m+1) kc) vs o)(hO:Ho w (L_ qo (m+1) oc) os r)(hl:∀O∈r,O.length=n)(hn:n<=200)(hb:b<=20)(aM:∀K∈o,K.many<=100):C_ 206 #[.slice (some ⟨qk,0,none⟩) (m+1) kc,.slice (some ⟨qo,0,none⟩) (m+1) oc,.int .i64 b] w λe w'=>∃v,e=.returned v/\Zmb w' w.heap.size v (Ha m o r n b)/\Below w.heap.size w w':=by
 have aN:=x1_ (Uq m _ _ n _ _ w hm a8 hO hl hn);have H:=x6_ hK hO b6 a8 hl aM;have J:=x2_ (Jn m r) (de m r);obtain⟨j0,aV,bF,bL,bK⟩:=info_parts ZjU;clear b6 a8 hK hO hl aM;go_enter Tryz.func206,Tryz.ntmps206;go_wp2_with fail
 refine aN.mono ?_;rintro e N ⟨bM,rfl,F,aD⟩;obtain⟨oa,bT,aW⟩:=F.shape;rw[Aw,J.1] at aW;subst aW;obtain⟨qr,b8,aZ,bO,_,_⟩:=F.atK (k:=0) (by rw[Aw];exact J.1) o_;subst b8;have aC:=aD.size;have aK:=x1_ F;have aP:=x1_ aD;have aT:Hid (Ha m o r n b=(Da m _).foldl _ _):=rfl;clear F aD aN;generalize Da m r=ord at *;go_wp2_with fail
 go_loopw [15,7] (λti tG wr=>∃(k:Nat) (c:List Nat) (Kk:Nat->Nat->Prop),ti=.int .i64 k/\k<=m+1/\Hid (Jw wr N.heap.size tG c Kk ((ord.take k).foldl (Bc o r n b) [])/\nh n k ((ord.take k).foldl (Bc o r n b) []))/\Hid (Below N.heap.size N wr)) (λti _ _=>m+1-(intOf ti).toNat)
 case atStart=>
  refine⟨0,[],λ_ _=>False,rfl,qg_,⟨⟨⟨rn_,rfl,(λi hi=>by simp at hi),(λi j hi=>by simp at hi)⟩,(λi hi=>by simp at hi),(λk hk=>by simp[Value.ownBlock] at hk),(λi hi=>by simp at hi)⟩,⟨s_,s_⟩⟩,bz_⟩
 case round=>
  obtain⟨k,c,Kk,rfl,hk,HG,HB⟩:=hrel;have bB:=HB.size
  by_cases hkm:k<m+1
  ·have b5:k<ord.length:=(by rw[J.out.1];exact hkm);have B:ord.getD k 0<m+1:=by have:ord.getD k 0=ord[k]:=(by simp[List.getD,b5]);rw[this];exact J.2 _ (Qf _)
   have V:(ord.take (k+1)).foldl (Bc o r n b) []=Bc o r n b ((ord.take k).foldl (Bc o r n b) []) (ord.getD k 0):=by
    rw[Qi b5,List.foldl_append]
    grind
   have a1:=x1_ V;have bC:wr.cell? (A_ qr k)=some (I_ (ord.getD k 0:Nat)):=by have:=(aK.cellK (by rw[Aw];exact J.1.symm) hkm).1;rw[Cv] at this;exact(HB.cell (p:=(A_ qr k)) aZ).trans this
   clear V;generalize ord.getD k 0=f,(ord.take k).foldl (Bc o r n b) []=Gs at *;have aH:=aP.trans (HB.mono aC);have b3:=H.1.below aH;have aE:=H.2.1.below aH;obtain⟨ab,cb,aw,cw,bN,k0,k1,k2,k3,_,_⟩:=b3.at2 (i:=f) (by rw[H.2.2.1];exact B);obtain⟨b7,o0⟩:=aE.at2 (i:=f) (by rw[H.2.2.2.1];exact B);have T:=aE.each f (by rw[H.2.2.2.1];exact B);have E:(r.getD f []).length=n:=H.2.2.2.2.1 _ (by simp[List.getD,show f<r.length by rw[H.2.2.2.1];exact B]);have aA:(o.getD f Ay).many<=_:=H.2.2.2.2.2 _ (by simp[List.getD,show f<o.length by rw[H.2.2.1];exact B]);obtain⟨fa,fc,y⟩:=T.shape;rw[y] at o0 T;rw[E] at o0 T;have aS:=KS.many_eq (o.getD f Ay)
   have bG:Hid (∀W:World,C_ 146 #[.agg #[.bool (o.getD f Ay).e.wd,.slice ab (o.getD f Ay).e.bs.length cb,.slice aw (o.getD f Ay).e.ww.length cw]] W λe w'=>e=.returned (.int .i64 (o.getD f Ay).many)/\E_ W w'):=λW=>by rw[<- aS];exact Jk _ _ _ _ _ _ _ W o_
   have aJ:=x2_ T E;have P:Hid (Bc o r n b Gs f=if _<_ then _ else _):=rfl;have a5:=x1_ (HG.2.step E hn hb aA)
   have Z:∀q,fa=some ⟨q,0,none⟩->q<w.heap.size:=λq hq=>by have h0:=H.2.1.each f (by rw[H.2.2.2.1];exact B);rw[y,hq] at h0;exact(rl_ h0 q rfl).2
   clear b3 aE y aS k3 T E aH;generalize o.getD f Ay=Kf,r.getD f []=Of at *;generalize Kf.e.wd=kwd,Kf.e.bs.length=knb,Kf.e.ww.length=knw,Kf.many=km,Bc o r n b Gs f=Gs' at *;obtain⟨ga,gc,bE⟩:=HG.1.x.form;subst bE;have bP:0<=(k:Int):=o_;have bS:k<(m:Int)+1:=o_;have bU:0<=(f:Int):=o_;have bQ:f<(m:Int)+1:=o_;go_wp2_with fail
   refine(bG _).mono ?_;rintro e w2 ⟨rfl,I⟩;have bV:=I.size;have o2:=(I.cell (p:=(A_ qo f)) b7).trans o0;have aI:Hid (Jw w2 N.heap.size (.slice ga Gs.length gc) c Kk Gs):=(by refine HG.1.touch (S:=λ_=>False) (Aa.of_below I) (λ_ _=>id));have z:=x2_ (aJ.1.below I) aJ.2;have aO:=x1_ (HB.trans (I.mono bB));have X:=x1_ HG.2;have aX:=x1_ (Uu ga fa gc n fc km b _ Kk Gs Of w2 aI.x (X.ok o_) z.1 z.2 hn o_ (by have:=X.len;omega));clear HG aJ HB I k0 k1 k2 o0 bC;generalize hgl:Gs.length=gl at *;have t:=x1_ hgl;clear hgl;go_wp2_with fail
   refine aX.mono ?_;rintro e l ⟨rfl,G⟩;have bW:=G.size;have o3:=(G.cell (p:=(A_ qo f)) (by show qo<_;omega)).trans o2;have d:=x1_ (aI.touch (S:=λ_=>False) (Aa.of_below G) (λ_ _=>id));have HOF3:=x2_ (z.1.below G) z.2;have a2:=x1_ (aO.trans (G.mono o_));clear aI z aO aX G o2;generalize Gs.findIdx (Fd Of km b)=ix at *
   by_cases hix:ix<gl
   ·have y:Zc2 c gl ix=.pointer (some ⟨c.getD ix 0,0,none⟩):=(by unfold Zc2;rw[if_pos hix];rfl);rw[y];obtain⟨vf,vo,C⟩:=d.x.each ix (by rw[t];exact hix);have R:=X.out.ok o_ (Gs.getD ix Fq) (by simp[List.getD,show ix<Gs.length by rw[t.out];exact hix])
    have M:=x1_ (Zd9 _ _ f km vf vo fa n fc Of _ l C HOF3.out.1 R.out HOF3.out.2 hn R.conf R.bins o_ R.fs (λq hq h1=>by
      have h2:=d.kb _ (by rw[t];exact hix) q h1;have s:fa=some ⟨q,0,none⟩:=(by exact Zcy);have:=Z q s
      omega))
    have Q:Hid (Gs'=Gs.set ix (Tg (Gs.getD ix Fq) f Of km)):=(by have:=P.out;rw[if_pos hix] at this;exact this);clear C R y;obtain⟨gb,a9⟩:=ex_ (c.getD ix 0);have bD:=x1_ a9;rw[<- a9] at M ⊢;clear a9;go_wp2_with fail
    refine M.mono ?_;rintro e w4 ⟨rfl,⟨K',a0,Y⟩,t4⟩;have HF:Hid (Jw w4 N.heap.size (.slice ga gl gc) c (λj=>if j=ix then K' else Kk j) ((ord.take (k+1)).foldl (Bc o r n b) [])):=(by rw[a1,Q];exact d.put (by rw[t];exact hix) t4 (by rw[<- bD];exact a0) Y o_);have aF:Hid (E_ N w4):=(by have s:=a2.out;exact⟨t4.os.trans s.os,t4.tape.trans s.tape,t4.output.trans s.output,Nat.le_trans s.size t4.size,λq hq=>(t4.block q o_ (λh=>by have:=d.kb ix (by rw[t];exact hix) q h;omega)).trans (s.block q hq)⟩);have aG:Hid (nh n (k+1) ((ord.take (k+1)).foldl (Bc o r n b) [])):=(by rw[a1];exact a5);clear a0 Y t4 M d a2 HOF3 o3;refine rd_ ?_;exact⟨k+1,c,_,g_,o_,⟨HF,aG⟩,aF⟩
   have y:Zc2 c gl ix=.pointer none:=(by unfold Zc2;rw[if_neg hix]);rw[y];have Q:Hid (Gs'=Gs++[Tg (Im n) f Of km]):=(by have:=P.out;rw[if_neg hix] at this;exact this);have bA:=Tx n o_;clear y;have D:Hid (l.ownsRow 0 313 1 (.slice ga gl gc) gl (c.map jo)):=(by have:=d.x.row;rw[t] at this;exact this);go_wp2_with (at_builtin;refine Ab rfl (.tmp 43) (.tmp 45) 311 rfl 0 313 j0 (.pointer none) 1 8 Tryz.underlying311 aV bF bL bK rfl d_ _ gl (c.map jo) rfl (((D.alloc _).alloc _).alloc _) _ 1 1 [P_ (l.heap.size+1)] rfl rfl ?_ ?_ ?_ ?_ ?_ ?_ ?_)
   ·intro j u hj
    cases j with
    |zero=>simp at hj;subst hj;simp[go_sem,Addr.add]
    |succ j=>simp at hj
   intro u hu;simp at hu;subst hu;rfl;decide;unfold maxLen;have:=X.len;have:=t.out;omega;have:=X.len;have:=t.out;omega;omega;intro v4 w4 H4;obtain⟨r4,g4,d4,_,_⟩:=H4;obtain⟨wx,L⟩:=ex_ (((l.alloc (.cells (madeCells #[.bool false] n) 4)).alloc (.cells #[.slice none 0 0,L_ l.heap.size n n,I_ 0,I_ 0] 351)).alloc (.cells #[P_ (l.heap.size+1)] 313));rw[<- L] at g4 d4;have aQ:wx.heap.size=l.heap.size+1+1+1:=(by rw[L];simp);have a4:E_ l wx:=(by rw[L];exact(bA_.alloc s_ _).alloc t_ _);have aR:=d.touch (S:=λ_=>False) (Aa.of_below a4) (λ_ _=>id);have U:=Tv n l 0 o_ qg_
   have a7:vg wx (λq=>q=l.heap.size∨q=l.heap.size+1) (l.heap.size+1) (Im n):=by refine⟨.slice _ 0 0,L_ l.heap.size n n,⟨?_,Ag.nil _ _,?_,.inr rfl,λq hq=>by simp[Value.ownBlock] at hq,λq hq=>by simp[Value.ownBlock] at hq;exact .inl hq.symm,λq hq=>o_⟩⟩;rw[L];have:=ha_ (l.alloc (.cells (madeCells #[.bool false] n) 4)) (.cells #[.slice none 0 0,L_ l.heap.size n n,I_ 0,I_ 0] 351);rw[show(l.alloc (.cells (madeCells #[.bool false] n) 4)).heap.size=l.heap.size+1 by simp] at this;exact(hc_ s_).trans this;rw[L];exact(U.alloc _).alloc _
   have a3:Jw w4 N.heap.size v4 (c++[l.heap.size+1]) (λj=>if j=Gs.length then(λq=>q=l.heap.size∨q=l.heap.size+1) else Kk j) (Gs++[Im n]):=by
    refine aR.snoc (by rw[t];exact r4) g4 ?_ a7 (λi hi q hq h1=>?_) (λq hq h1=>?_) (λq hq=>o_) o_
    ·rcases d4 with e|e
     exact .inl e;exact .inr ⟨_,e.1,o_⟩
    obtain⟨vf,vo,hG⟩:=d.x.each i hi;have:=hG.kl q hq;omega;have:=(rl_ D q hq).2;omega
   have bI:=a4;have A:=(Aa.of_below a4).trans ((Aa.refl _ _).grown g4 (λq hq _=>hq));have bX:l.heap.size+1+1+1<=w4.heap.size:=by rw[<- aQ];exact g4.size
   have o4:w4.cell? (A_ qo f)=some (.slice fa n fc):=by
    have:w4.heap[qo]? =l.heap[qo]?:=A.block qo o_ (λhq=>by
     obtain⟨cur,hc⟩:=Ad D hq;have h1:=d.rb _ hq;have:=H.2.1.at2 (i:=f) (by rw[H.2.2.2.1];exact B)
     omega)
    rw[cb_ (a:=(A_ qo f)) this];exact o3
   have a6:Ev w4 0 (.slice fa n fc) Of:=A.row HOF3.1 (λq hq h1=>by
    have h2:=d.rb q h1;have s:fa=some ⟨q,0,none⟩:=(by exact Zcy);have:=Z q s
    omega)
   obtain⟨vf,vo,C⟩:=a3.x.each Gs.length s_;have e1:(Gs++[Im n]).getD Gs.length Fq=Im n:=(by simp[List.getD]);have e2:(c++[l.heap.size+1]).getD Gs.length 0=l.heap.size+1:=(by have:=d.x.len;simp[List.getD,<- this]);rw[e1,e2] at C;simp only[if_true] at C
   have M:=x1_ (Zd9 _ _ f km vf vo fa n fc Of _ w4 C a6 (by simp[Im]) HOF3.2 hn (by simp[Im]) (by simp[Im]) o_ (by simp[Im]) (λq hq h1=>by
     have s:fa=some ⟨q,0,none⟩:=(by exact Zcy);have:=Z q s
     omega))
   have aU:=x1_ a3;have aL:Hid (E_ N w4):=(by have s:=a2.out;exact⟨A.os.trans s.os,A.tape.trans s.tape,A.output.trans s.output,Nat.le_trans s.size A.size,λq hq=>(A.block q o_ (λh=>by have:=d.rb q h;omega)).trans (s.block q hq)⟩);obtain⟨b9,bH,aB⟩:=a3.x.form;rw[Qe] at aB;simp only[List.length_cons,List.length_nil,Nat.zero_add,t.out] at aB;subst aB;have aY:=x1_ e2;clear r4 g4 d4 L aQ a4 aR U a7 a3 bI A a6 C e1 e2 bA o3 d a2 D HOF3;go_wp2_with fail
   refine M.mono ?_;rintro e w5 ⟨rfl,⟨K',a0,Y⟩,t5⟩;have HF:Hid (Jw w5 N.heap.size (.slice b9 (gl+1) bH) (c++[l.heap.size+1]) (λj=>if j=Gs.length then K' else(if j=Gs.length then(λq=>q=l.heap.size∨q=l.heap.size+1) else Kk j)) ((ord.take (k+1)).foldl (Bc o r n b) [])):=by rw[a1,Q];have:=aU.put (i:=Gs.length) (K':=K') (G':=Tg (Im n) f Of km) s_ (by simpa using t5) (by rw[aY];exact a0) (by simpa using Y) o_;have e:(Gs++[Im n]).set Gs.length (Tg (Im n) f Of km)=Gs++[Tg (Im n) f Of km]:=(by rw[List.set_append_right _ _ qa_,Nat.sub_self,List.set_cons_zero]);rw[e] at this;exact this
   have aF:Hid (E_ N w5):=(by have s:=aL.out;exact⟨t5.os.trans s.os,t5.tape.trans s.tape,t5.output.trans s.output,Nat.le_trans s.size t5.size,λq hq=>(t5.block q o_ (λh=>o_)).trans (s.block q hq)⟩);have aG:Hid (nh n (k+1) ((ord.take (k+1)).foldl (Bc o r n b) [])):=(by rw[a1];exact a5);clear a0 Y t5 M aU aL o4 aY;refine rd_ ?_;exact⟨k+1,_,_,g_,o_,⟨HF,aG⟩,aF⟩
  have bR:¬k<(m:Int)+1:=o_;have HF:Hid (Jw wr N.heap.size u7 c Kk (Ha m o r n b)/\E_ w wr):=(by have h1:=HG.1;rw[List.take_of_length_le (by have:=J.1;omega)] at h1;rw[aT];exact⟨h1,aP.trans (HB.mono aC)⟩);clear HG HB;go_wp2;go_ret;exact⟨_,rfl,⟨_,_,_,aC,HF.1⟩,HF.2⟩
def Zgq{L:List Ct}{m k}(h:k<m):(L.take m).getD k e0=L.getD k e0:=w_
def Xs{a b c k}(h:0<b):(k<=Ce a b c)↔k*b<=a*c:=by unfold Ce;exact Int.le_ediv_iff_mul_le h
def Zc0{L:List Ct}{m A bins tot k}(c:m<=L.length)(a:A<=m)(b:0<tot)(f:∀i,i<A->bins*(L.getD i e0).hi<k*tot)(g:A<m->k*tot<=bins*(L.getD A e0).hi):(L.take m).findIdx (λe=>decide (k<=Ce bins tot e.hi))=A:=by
 have d:(L.take m).length=m:=w_
 by_cases h:A<m
 ·rw[List.findIdx_eq o_]
  grind [Xs]
 grind [Xs]
def Bo.rise{L}(g:Bo L):L.Pairwise (λe f=>e.v<f.v):=g.step.imp (λh=>h.1)
def Zcr tot bins j:∀M s,1<=s->(bJ tot bins j s M).length<=(j+1-s).toNat
 |[],s,h=>by simp[bJ]
 | e ::r,s,h=>by
  rw[Uj];split
  ·rename_i hc;have:=Zcr tot bins j r (min (Ce bins tot e.hi) j+1) o_
   grind
  exact Zcr _ _ j r s h
def ZbD b f L u a w (h:Ip w b f L)(B:L.length≠0)(N:L.length<=4194304)(y:(L.length:Int)<=a):C_ 288 #[.slice (some ⟨b,f,none⟩) L.length u,.int .i64 a] w λe w'=>∃v,e=.returned v/\Ag w' w.heap.size v (Bx L a)/\Below w.heap.size w w':=by
 have n:=h.lt o_;have F:=x1_ h;obtain⟨m,r⟩:∃m,L.length=m+1:=⟨L.length-1,o_⟩
 have C:Hid (Bx L _=(L.take m).map _):=show _=_ by unfold Bx;rw[if_neg B,if_pos y,r];rfl
 have M:=x1_ r;rw[r] at N y ⊢;have D:m+1<=a:=o_;go_enter Tryz.func288,Tryz.ntmps288;go_wp2_with fail
 go_loopw [5,6] (λo ti wr=>∃(k:Nat),ti=.int .i64 k/\k<=m/\Hid (Ag wr w.heap.size o ((L.take k).map (λe=>e.v)))/\E_ w wr) (λ_ ti _=>m-(intOf ti).toNat)
 case atStart=>exact⟨0,rfl,qg_,Ag.nil _ _,bz_⟩
 case round=>
  obtain⟨k,rfl,A,j,c⟩:=hrel
  by_cases hkm:k<m
  ·have g:k<L.length:=(by rw[M];omega);have Q:=(c.cell (p:=(A_ b _)) n).trans (F.v k g)
   have G:Hid ((L.take (k+1)).map (λe=>e.v)=(L.take k).map (λe=>e.v)++[(L.getD k e0).v]):=by
    show _=_
    grind [Qi]
   have d:((L.take k).map (λe=>e.v)).length<=1000000000:=w_;generalize (L.take k).map (λe=>e.v)=out,(L.getD k e0).v=x at *;have H:0<=(k:Int):=o_;have J:k<(m:Int)+1:=o_;have t:k+1<(m:Int)+1:=o_;have q:=c.size;go_wp2_with (at_builtin;refine Bu rfl (.tmp 22) _ rfl _ _ _ x rfl (j.alloc _) _ 1 rfl ?_ d ?_ ?_)
   ·simp[go_sem]
   simp;omega;intro P I z;have l:E_ w I:=(by obtain⟨O,E,R⟩:=z.out;exact c.trans ((bz_.alloc q _).grown E t_ (λk A=>(j.lt k A).1)));have i:=x1_ z.1;refine rd_ ?_;exact⟨k+1,g_,o_,by rw[G];exact i,l⟩
  have s:k=m:=o_;have i:Hid (Ag wr w.heap.size u5 (Bx L a)):=(by rw[C,<- s];exact j);have t:¬k+1<(m:Int)+1:=o_;go_wp2;go_ret;exact⟨_,rfl,i,c⟩
def Zg8{p:Prop}(h:p:=by
 have hlo:out.length<=1000000000:=(by have:=HOL.out;omega);go_wp2_with (at_builtin;refine Bu rfl (.tmp 76) _ rfl _ _ out v rfl (HO.alloc _) _ 1 rfl ?_ hlo ?_ ?_)
 omega;intro v3 w3 H3;have hb4:E_ w w3:=(by obtain⟨z1,z2,z3⟩:=H3.out;exact hbel.trans ((bz_.alloc hsz _).grown z2 t_ (λk hk=>(HO.lt k hk).1)));have hw3:=H3.1;obtain⟨a3,c3,hv3⟩:=hw3.shape;subst hv3;have HF:=x1_ hw3;clear H3 hw3;refine rd_ ?_
 exact⟨j+1,a3,c3,g_,o_,by show _=Value.slice a3 (bJ tot bins ((j:Int)+1) 1 (L.take m)).length c3;rw[HNX],by show Ag _ _ (.slice a3 (bJ tot bins ((j:Int)+1) 1 (L.take m)).length c3) (bJ tot bins ((j:Int)+1) 1 (L.take m));rw[HNX];exact HF,hb4⟩):p:=h
def Zg9{p:Prop}(h:p:=by
 refine rd_ ?_
 exact⟨j+1,_,oc,g_,o_,by show _=Value.slice _ (bJ tot bins ((j:Int)+1) 1 (L.take m)).length oc;rw[HNX,HOL],by show Ag _ _ (.slice _ (bJ tot bins ((j:Int)+1) 1 (L.take m)).length oc) (bJ tot bins ((j:Int)+1) 1 (L.take m));rw[HNX,HOL];exact HO,hbel⟩):p:=h
def zj b r L z bins w (h:Ip w b r L)(g:Bo L)(hl:L.length<=4194304)(aB:2<=bins)(U:bins<=16)(d:bins<(L.length:Int)):C_ 288 #[.slice (some ⟨b,r,none⟩) L.length z,.int .i64 bins] w λe w'=>∃v,e=.returned v/\Ag w' w.heap.size v (Bx L bins)/\Below w.heap.size w w':=by
 have h0:L.length≠0:=o_;have F:=h.lt o_;have HE:=x1_ h;obtain⟨m,I⟩:∃m,L.length=m+1:=⟨L.length-1,o_⟩;have HT:Hid (C_ 176 #[.slice (some ⟨b,r,none⟩) (m+1) z] w λe w'=>e=.returned (.int .i64 (Ae L))/\w'=w):=(by rw[<- I];exact Zad _ L _ w ⟨hl,.inr ⟨b,r,rfl,h⟩⟩);have P:Ae L=(L.getD m e0).hi:=(by unfold Ae;grind);have t1:1<=Ae L:=(by have:=g.at (show m<L.length by omega);rw[P];omega);have t2:=(Df g).2;have G:Hid (∀k,k<_->0<=(L.getD k e0).hi/\_):=λk hk=>⟨by have:=g.at hk;omega,Lm g hk⟩
 have C:Hid (∀e∈L.take m,Ce bins (Ae L) e.hi<=bins-1):=λe he=>by
  obtain⟨i,S,rfl⟩:=List.getElem_of_mem he;rw[List.length_take] at S;have e1:(L.take m)[i]' o_=L.getD i e0:=w_
  have hs:=(g.lt (i:=i) (j:=m) o_ o_).2.2;have hw:=g.at (show m<L.length by omega);rw[e1];have W:(L.getD i e0).hi<Ae L:=by rw[P];omega
  have:¬bins<=Ce bins (Ae L) (L.getD i e0).hi:=λhc=>by rw[Xs o_] at hc;have:=Int.mul_lt_mul_of_pos_left W (show 0<bins by omega);omega
  omega
 have HB:Hid (Bx L bins=bJ (Ae L) bins (bins-1) 1 (L.take m)):=show _=_ by unfold Bx;rw[if_neg h0,if_neg o_,I,ZgV _ _ C];rfl
 have Y:=x1_ I;have V:Hid ((L.take m).Pairwise _):=g.rise.sublist (List.take_sublist _ _)
 have D:Hid (∀j:_,j<=bins->j*Ae L<=_):=λj hj=>by rw[P];exact Int.mul_le_mul_of_nonneg_right hj o_
 rw[I] at hl d ⊢;have N:¬m+1<=bins:=o_;clear h g h0 I d P C;generalize Ae L=tot at *;go_enter Tryz.func288,Tryz.ntmps288;go_wp2_with fail
 refine HT.mono ?_;rintro e w1 ⟨rfl,E⟩;obtain rfl:=E.symm;clear E HT;go_wp2_with fail
 go_loopw [5,8] (λo tk wr=>∃(j:Nat) (Q:Option Addr) (oc:Nat),tk=.int .i64 ((j:Int)+1)/\(j:Int)+1<=bins/\o=.slice Q (bJ tot bins j 1 (L.take m)).length oc/\Hid (Ag wr w.heap.size (.slice Q (bJ tot bins j 1 (L.take m)).length oc) (bJ tot bins j 1 (L.take m)))/\E_ w wr) (λ_ tk _=>(bins-intOf tk).toNat)
 case atStart=>exact⟨0,none,0,rfl,o_,by rw[show bJ tot bins ((0:Nat):Int) 1 (L.take m)=[] from bh _ _ _ _ _ d_];rfl,by rw[show bJ tot bins ((0:Nat):Int) 1 (L.take m)=[] from bh _ _ _ _ _ d_];exact Ag.nil _ _,bz_⟩
 case round=>
  obtain⟨j,Q,oc,rfl,hj,rfl,HO,hbel⟩:=hrel
  by_cases hjb:(j:Int)+1<bins
  ·have hsz:=hbel.size;have B:=we tot bins j _ 1 o_ V;have n:=Zcr tot bins j (L.take m) 1 o_;have Z:(bJ tot bins j 1 (L.take m)).length<=16:=o_;have t:=x1_ B;clear B n;generalize bJ tot bins j 1 (L.take m)=out at *;go_wp2_with fail
   rename_i wold;go_loopw [9] (λta wz=>∃A:Nat,ta=.int .i64 A/\A<=m/\Hid (∀i,i<A->bins*(L.getD i e0).hi<((j:Int)+1)*tot)/\wz=wr) (λta _=>m-(intOf ta).toNat)
   case atStart=>exact⟨0,rfl,qg_,λi S=>o_,rfl⟩
   case round=>
    obtain⟨A,rfl,hA,O,R⟩:=hrel;subst R;have u:A<L.length:=(by rw[Y];omega);have a0:=(hbel.cell (p:=(A_ b _)) F).trans (HE.v A u);have a2:=(hbel.cell (p:=(A_ b _)) F).trans (HE.hi A u);have H:=G A u;have p1:0<=bins*_:=Int.mul_nonneg o_ H.1;have p2:bins*_<=_*1000000000000:=Int.mul_le_mul U o_ H.1 o_;have p3:0<=(j+1)*tot:=Int.mul_nonneg o_ o_;have p4:((j:Int)+1)*_<=16*_:=Int.mul_le_mul o_ t2 o_ o_;have a5:0<=(A:Int):=o_;have a9:A<(m:Int)+1:=o_;have q1:_=bins*(L.getD A e0).hi:=Cb o_ o_;have q2:_=((j:_)+1)*tot:=Cb o_ o_
    by_cases hc:bins*(L.getD A e0).hi<((j:Int)+1)*tot
    ·have f:A<m:=by
      by_cases h:A=m
      rw[h] at hc;have:=D ((j:Int)+1) o_;omega;omega
     have X:Hid (∀i,i<A+1->bins*(L.getD i e0).hi<(j+1)*tot):=λi S=>by
      by_cases h:i=A
      rw[h];exact hc;exact O i o_
     generalize (L.getD A e0).hi=x,(L.getD A e0).v=v at *;refine rd_ ?_;exact⟨A+1,g_,o_,X,trivial⟩
    have HF:=Zc0 (L:=L) (m:=m) (A:=A) (bins:=bins) (tot:=tot) (k:=(j:Int)+1) (by rw[Y];omega) hA o_ O (λ_=>o_);have c:=t.out;rw[HF,List.length_take,show min m L.length=m by rw[Y];omega] at c
    by_cases f:A<m
    ·rw[Zgq f] at c;generalize (L.getD A e0).hi=x,(L.getD A e0).v=v at *;have g1:A<(m:Int)+1-1:=o_;have a:=x1_ c;clear c t HF O p1 p2 p3 p4;generalize n:out.length=ol at *;have HOL:=x1_ n;clear n
     cases ol with
     | zero=>
      have s:=List.eq_nil_of_length_eq_zero HOL;have HNX:Hid (bJ tot bins (j+1) 1 (L.take m)=out++[v]):=(by show _=_;rw[a,if_pos ⟨f,by rw[s];simp⟩]);have aC:(((0:Nat):Int)==0)=true:=rfl;clear s a;exact Zg8
     | succ l=>
      obtain⟨q,rfl,_,_,d0,_⟩:=HO.atK HOL (k:=l) o_;have J:out.getLast? =some (out.getD l 0):=by rw[List.getLast?_eq_getElem?,HOL,Nat.add_sub_cancel,Qc,Qd (by rw[HOL];omega)];rfl
      rw[J] at a;clear J;generalize out.getD l 0=y at *;have a6:(((l:Int)+1)==0)=_:=beq_eq_false_iff_ne.2 o_;have a1:(((l+1:_):Int)==0)=_:=beq_eq_false_iff_ne.2 o_;have aA:0<=((l+1:Nat):Int)-1:=o_;have a8:(l+1:Nat)-1<((l+1:Nat):Int):=o_;have aD:(((l+1:Nat):Int)-1).toNat=l:=o_;have a4:0<=(l:Int)+1-1:=o_;have a7:l+1-1<(l:Int)+1:=o_
      by_cases hy:y=v
      have HNX:Hid (bJ tot bins (j+1) 1 (L.take m)=out):=(by show _=_;rw[a,if_neg (λh=>h.2 (by rw[hy]))]);have T:(y !=v)=false:=(by rw[hy];simp);clear hy a;exact Zg9;have HNX:Hid (bJ tot bins (j+1) 1 (L.take m)=out++[v]):=(by show _=_;rw[a,if_pos ⟨f,λh=>hy (by injection h)⟩]);have T:=bne_iff_ne.2 hy;clear hy a;exact Zg8
    have HNX:Hid (bJ tot bins (j+1) 1 (L.take m)=out):=(by show _=_;rw[c,if_neg (λh=>f h.1)]);have HOL:Hid (out.length=_):=rfl;have g1:¬A<(m:Int)+1-1:=o_;clear c t HF O p1 p2 p3 p4;generalize (L.getD A e0).hi=x,(L.getD A e0).v=v at *;exact Zg9
  have M:j=bins-1:=o_;have HF:Hid (Ag wr w.heap.size (.slice Q (bJ tot bins j 1 (L.take m)).length oc) (Bx L bins)):=(by rw[HB,<- M];exact HO);clear HO M;generalize bJ tot bins j 1 (L.take m)=out at *;go_wp2;go_ret;exact⟨_,rfl,HF,hbel⟩
def ZbC a L d c w (h:Dh w a L)(g:Bo L)(i:2<=c)(j:c<=16):C_ 288 #[.slice a L.length d,.int .i64 c] w λe w'=>∃v,e=.returned v/\Ag w' w.heap.size v (Bx L c)/\Below w.heap.size w w':=by
 by_cases h0:L.length=0
 ·have o:Bx L c=[]:=(by unfold Bx;rw[if_pos h0]);rw[o,h0];go_enter Tryz.func288,Tryz.ntmps288;go_wp2_with fail
  go_loopw [5,6] (λto_ ti wr=>to_=.slice none 0 0/\ti=.int .i64 0/\wr=w) (λ_ _ _=>0)
  case atStart=>grind
  case round=>
   obtain⟨rfl,rfl,f⟩:=hrel;subst f;go_wp2;go_ret;exact⟨_,rfl,Ag.nil _ _,bz_⟩
 obtain⟨k,m|⟨b,n,rfl,l⟩⟩:=h;exact absurd m h0
 by_cases hf:(L.length:Int)<=c
 exact ZbD b _ L _ _ w l h0 k hf;exact zj b _ L _ _ w l g k i j o_
def Uc(B:List Nat):Nat->Nat×Int
 |0=>(0,-1)
 |k+1=>if(Uc B k).2<(B.count k:Int) then(k,(B.count k:Int)) else Uc B k
def ZcO{B:List Nat}{r}(h:r<B.length) k:(B.take (r+1)).count k=(B.take r).count k+(if B.getD r 0=k then 1 else 0):=by
 rw[Qi h,List.count_append,Qc,Qd h]
 grind
def ZeQ B:∀k,(Uc B k).1<=k/\ -1<=(Uc B k).2/\(Uc B k).2<=B.length
 |0=>by simp[Uc]
 | k+1=>by
  have:=ZeQ B k
  grind [Uc]
def ZbJ p (n c h:Nat) B w (s:Ag w 0 (.slice p n c) (Av B))(y:B.length=n)(J:n<=200)(M:h<=1000):C_ 240 #[.slice p n c,.int .i64 h] w λe w'=>e=.returned (.int .i64 (Uc B h).1)/\w'=w:=by
 have F:=x1_ s;have d:=x1_ y;go_enter Tryz.func240,Tryz.ntmps240;go_wp2_with fail
 go_loopw [5,6,7] (λt5 t6 t7 wr=>∃k:Nat,t7=.int .i64 k/\k<=h/\t5=.int .i64 ((Uc B k).1:Nat)/\t6=.int .i64 (Uc B k).2/\wr=w) (λ_ _ t7 _=>h-(intOf t7).toNat)
 case atStart=>exact⟨0,rfl,qg_,rfl,rfl,rfl⟩
 case round=>
  obtain⟨k,rfl,O,rfl,rfl,f⟩:=hrel;subst f
  by_cases hkh:k<h
  ·have u:k<(h:Int):=o_;have H:Hid (Uc B (k+1)=if _<_ then _ else _):=rfl;have G:=ZeQ B k;rw[d] at G;generalize Uc B k=N at *;obtain⟨t,m⟩:=N;simp only at *;go_wp2_with fail
   rename_i wout;go_loopw [8,9] (λt8 t9 wz=>∃r:Nat,t9=.int .i64 r/\r<=n/\t8=.int .i64 ((B.take r).count k:Nat)/\(B.take r).count k<=r/\wz=wr) (λ_ t9 _=>n-(intOf t9).toNat)
   case atStart=>grind
   case round=>
    obtain⟨r,rfl,C,rfl,j,g⟩:=hrel;subst g
    by_cases hin:r<n
    ·obtain⟨q,rfl,_,_,v,_⟩:=F.atK (by rw[Aw];exact d) hin;rw[Cv] at v;have D:=ZcO (B:=B) (r:=r) (by rw[d];exact hin) k;have i:=x1_ D;generalize B.getD r 0=x,(B.take r).count k=cr at *;have I:0<=(r:Int):=o_;have L:r<(n:Int):=o_
     by_cases hx:x=k
     ·subst hx;have a:Hid ((B.take (r+1)).count x=cr+1):=w_;refine rd_ ?_;exact⟨r+1,g_,o_,by rw[a];go_num,by rw[a];omega,trivial⟩
     have a:Hid ((B.take (r+1)).count k=cr):=(by show _=_;rw[i,if_neg hx];rfl);have A:((x:_)==(k:Int))=_:=beq_eq_false_iff_ne.2 o_;refine rd_ ?_;exact⟨r+1,g_,o_,by rw[a],by rw[a];omega,trivial⟩
    have o:r=B.length:=(by have:=d.out;omega);have b:Hid ((B.take r).count k=B.count k):=w_;have E:¬r<(n:Int):=o_;rw[b] at j;rw[b];have z:B.count k<=n:=o_;generalize B.count k=ck at *
    by_cases hm:m<(ck:Int)
    ·have a:Hid (Uc B (k+1)=(k,(ck:Int))):=w_;refine rd_ ?_;exact⟨k+1,g_,o_,by rw[a],by rw[a],trivial⟩
    have a:Hid (Uc B (k+1)=(t,m)):=w_;refine rd_ ?_;exact⟨k+1,g_,o_,by rw[a],by rw[a],trivial⟩
  have u:¬k<(h:Int):=o_;have l:k=h:=o_;subst l;go_wp2;go_ret;exact⟨rfl,rfl⟩
def Lv B {h k}(a:k<h):(Ci B h).getD k 0=(B.count k:Int):=by
 unfold Ci
 grind
def Zbp B h:∀k,k+1<=h->(Uc B (k+1)).2=Lib.maxOf ((Ci B h).take (k+1))/\(Uc B (k+1)).1<k+1/\(B.count (Uc B (k+1)).1:Int)=(Uc B (k+1)).2/\∀j,j<(Uc B (k+1)).1->(B.count j:Int)<(Uc B (k+1)).2
 | 0,hk=>by
  have e:Uc B 1=(0,(B.count 0:Int)):=by grind [Uc]
  grind [Lib.maxOf_one,Lv]
 | k +1,hk=>by
  obtain⟨a,c,d,f⟩:=Zbp B h k o_;rw[Lib.maxOf_step _ (k+1) o_ (by rw[Cr];omega),Lv B o_,<- a];have e:Uc B (k+1+1)=if _<_ then _ else _:=rfl;rw[e]
  by_cases hc:(Uc B (k+1)).2<(B.count (k+1):Int)
  ·rw[if_pos hc];refine⟨by simp only;omega,by simp only;omega,rfl,λj hj=>?_⟩;simp only at hj ⊢;have b:=nrS_le B (k+1)
   grind
  grind
where
 nrS_le (B:List Nat):∀k j,j<k->(B.count j:Int)<=(Uc B k).2
  |0,j,hj=>o_
  | k+1,j,hj=>by
   have e:Uc B (k+1)=if _<_ then _ else _:=rfl;rw[e]
   by_cases hjk:j=k
   ·grind
   have:=nrS_le B k j o_
   grind
def Zki B {h}(f:0<h):Vm B h=(Uc B h).1:=by
 obtain⟨k,rfl⟩:∃k,h=k+1:=⟨h-1,o_⟩;obtain⟨b,a,c,d⟩:=Zbp B (k+1) k qa_;have e:_=Ci B (k+1):=List.take_of_length_le (by rw[Cr];exact qa_);unfold Vm;rw[e] at b;rw[<- b];have:=Lib.idxOf_hit (Ci B (k+1)) (k+1) (Uc B (k+1)).1 (Uc B (k+1)).2 a (by rw[Cr];omega) (by rw[Lv B a];exact c) (λj hj=>by rw[Lv B o_];grind)
 grind
end Go.Proofs.YtfcgnpchbcmdeaaGreat
