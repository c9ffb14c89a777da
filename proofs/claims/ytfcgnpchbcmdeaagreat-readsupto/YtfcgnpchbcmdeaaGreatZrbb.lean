import Derived.Test.YtfcgnpchbcmdeaaGreatZraz
import Derived.Test.YtfcgnpchbcmdeaaGreatZrba
namespace Go.Proofs.YtfcgnpchbcmdeaaGreat
set_option linter.all false
set_option maxRecDepth 100000
set_option maxHeartbeats 8000000
open Go.RowKit
def Cc(w:World)(base:Nat)(v:Value)(ss:List ByteArray):Prop:=w.ownsRow base 9 1 v ss.length (ss.map Value.string)
def Cc.nil w base:Cc w base (.slice none 0 0) []:=World.ownsRow_nil w base 9 1
structure ES where
 wd:Bool
 bs:List Int
 ww:List ByteArray
def ES.cnt(e:ES):Nat:=Ky e.wd e.bs.length e.ww.length
def Sz(w:World)(base:Nat)(v:Value)(e:ES):Prop:=∃vb vw,v=.agg #[.bool e.wd,vb,vw]/\Ag w base vb e.bs/\Cc w base vw e.ww
def Dy(e:ES)(v:VS):Nat:=if v.miss=true then e.cnt+1 else if e.wd=true then e.ww.findIdx (λy=>decide (y=v.word)) else e.bs.countP (λb=>decide (b<v.num))
def Cc.below{w w' base v L}(h:Cc w base v L)(hb:Below w.heap.size w w'):Cc w' base v L:=(Aa.of_below (S:=λ_=>False) hb).row h (λ_ _=>id)
def Sz.below{w b base v e}(h:Sz w base v e)(a:Below w.heap.size w b):Sz b base v e:=by obtain⟨c,f,i,d,g⟩:=h;exact⟨c,f,i,d.below a,g.below a⟩
def Ag.shape{w b v L}(h:Ag w b v L):∃a c,v=.slice a L.length c:=by
 rcases h.2 with⟨rfl,h0⟩|⟨q,p,cur,rfl,_⟩
 ·grind
 grind
def Cc.form{w b v L}(h:Cc w b v L):∃a c,v=.slice a L.length c:=by
 rcases h.2 with⟨rfl,h0⟩|⟨q,p,cur,rfl,_⟩
 ·grind
 grind
def Sz.form{w a v e}(h:Sz w a v e):∃ab cb aw cw,v=.agg #[.bool e.wd,.slice ab e.bs.length cb,.slice aw e.ww.length cw]/\Ag w a (.slice ab e.bs.length cb) e.bs/\Cc w a (.slice aw e.ww.length cw) e.ww:=by
 obtain⟨d,f,g,b,c⟩:=h;obtain⟨ab,cb,rfl⟩:=b.shape;obtain⟨aw,cw,rfl⟩:=c.form
 grind
def ZdD a c i d x w (h:Ag w i (.slice a d.length c) d)(l:d.Pairwise (· <= ·))(m:d.length<=1000000):C_ 275 #[.slice a d.length c,.int .i64 x] w λe w'=>(∃f,e=.returned (.tuple #[.int .i64 (d.countP (λb=>decide (b<x)):Nat),.bool f]))/\Below w.heap.size w w':=by
 have k:=h
 rcases h.2 with⟨e,h0⟩|⟨g,cap,cur,e,_,hh,hnc,_⟩
 ·rw[h0];refine(Tryz.slices_BinarySearch_int_empty a c x w).mono ?_
  grind [Below.refl]
 injection e with e1 e2 e3;subst e1 e3;refine(Tryz.slices_BinarySearch_int g 0 _ c _ x w qa_ o_ (λj hj=>?_) w_).mono ?_
 ·rw[Nat.zero_add,World.ownsRow.cellAt k j o_]
  grind
 grind [below_drewN,Below.refl]
def Zj v x a e (s:VS) w (h:Sz w a v e)(i:e.bs.Pairwise (· <= ·))(j:e.bs.length<=1000000)(l:x=.agg #[.bool s.miss,I_ s.num,.string s.word]):C_ 218 #[v,x] w λr w'=>r=.returned (.int .i64 (e.bs.countP (λb=>decide (b<s.num)):Nat))/\Below w.heap.size w w':=by
 obtain⟨p,t,o,u,rfl,k,_⟩:=h.form;subst l;have g:=x1_ (λW hW=>ZdD _ _ _ _ s.num W (k.below hW) i j);generalize e.bs.countP (λb=>decide (b<s.num))=r,e.bs.length=n at *;go_enter Tryz.func218,Tryz.ntmps218;go_wp2_with fail
 refine(g _ (bA_.alloc s_ _)).mono ?_;rintro q m ⟨⟨f,rfl⟩,c⟩;have d:=(bA_.alloc s_ _).trans (c.mono t_);go_wp2;go_ret;exact⟨rfl,d⟩
def Za5:∀(ss:List ByteArray) (x:ByteArray) (i:Nat),(if 0<=Lib.idxFromS ss x i then Lib.idxFromS ss x i else((i+ss.length:Nat):Int))=((i+ss.findIdx (λy=>decide (y=x)):Nat):Int)
 |[],x,i=>by simp[Lib.idxFromS]
 | z::ss,x,i=>by
  have ih:=Za5 ss x (i+1)
  by_cases e:z=x
  subst e;simp[Lib.idxFromS,List.findIdx_cons];simp only[Lib.idxFromS,List.findIdx_cons,e,decide_false,cond_false,List.length_cons,if_false];omega
def ZfC a c d b x w (h:Cc w d (.slice a b.length c) b)(i:b.length<=1000000):C_ 267 #[.slice a b.length c,.string x] w λe w'=>e=.returned (.int .i64 (Lib.idxOfS b x))/\w'=w:=by
 have f:=h
 rcases h.2 with⟨e,h0⟩|⟨g,cap,cur,e,_,hh,hnc,_⟩
 rw[h0];have:b=[]:=List.length_eq_zero_iff.1 h0;subst this;exact Tryz.slices_Index_string_empty a c x w;injection e with e1 e2 e3;subst e1 e3
 have:=Tryz.slices_Index_string g 0 b.length c b x w qa_ o_ (λj hj=>by
  rw[Nat.zero_add,World.ownsRow.cellAt f j o_]
  grind)
 rw[List.take_length] at this;exact this
def oz v x a e (s:VS) w (h:Sz w a v e)(j:e.ww.length<=1000000)(l:x=.agg #[.bool s.miss,I_ s.num,.string s.word]):C_ 213 #[v,x] w λr w'=>r=.returned (.int .i64 (e.ww.findIdx (λy=>decide (y=s.word)):Nat))/\Below w.heap.size w w':=by
 obtain⟨o,t,m,u,rfl,_,k⟩:=h.form;subst l;have g:=x1_ (λW hW=>ZfC _ _ _ _ s.word W (k.below hW) j);have b:=Za5 e.ww s.word 0;simp only[Nat.zero_add] at b;have p:Hid ((if 0<=Lib.idxOfS _ _ then Lib.idxOfS _ _ else _)=_):=b;generalize e.ww.findIdx (λy=>decide (y=s.word))=r,Lib.idxOfS e.ww s.word=d,e.ww.length=n at *
 by_cases hd:0<=d
 ·have f:¬d<0:=o_;have c:Hid (d=r):=w_;go_enter Tryz.func213,Tryz.ntmps213;go_wp2_with fail
  refine(g _ (bA_.alloc s_ _)).mono ?_;rintro q i ⟨rfl,rfl⟩;go_wp2;go_ret;exact⟨by rw[c];rfl,(bA_.alloc s_ _)⟩
 have f:d<0:=o_;have c:Hid (n=(r:Int)):=w_;go_enter Tryz.func213,Tryz.ntmps213;go_wp2_with fail
 refine(g _ (bA_.alloc s_ _)).mono ?_;rintro q i ⟨rfl,rfl⟩;go_wp2;go_ret;exact⟨by rw[c];rfl,(bA_.alloc s_ _)⟩
structure Ol(e:ES):Prop where
 rise:e.bs.Pairwise (· <= ·)
 lb:e.bs.length<=1000
 lw:e.ww.length<=1000
def Zcz{p:Prop}(h:p:=by
 rintro q w1 ⟨rfl,hb1⟩;have hb2:=(bA_.alloc s_ _).trans (hb1.mono t_);go_wp2;go_ret
 exact⟨by rw[HB2];rfl,hb2⟩):p:=h
def Zjt v x a j e s w (h:Sz w a v e)(c:Ol e)(k:x=.agg #[.bool s.miss,I_ s.num,.string s.word])(l:w.cell? (A_ j 0)=some (.func (.func (if e.wd=true then 213 else 218)) #[] #[]))(z:j<w.heap.size):C_ 266 #[v,x,.pointer (some ⟨j,0,none⟩)] w λr w'=>r=.returned (.int .i64 (Dy e s:Nat))/\Below w.heap.size w w':=by
 obtain⟨E,F,D,G,n,_,_⟩:=h.form
 have m:Hid (∀W:World,C_ 191 #[v] W λr w'=>r=.returned (.int .i64 (e.cnt+1))/\E_ W w'):=λW=>by rw[n];exact Yw _ _ _ _ _ _ _ W (by have:=c.lb;have:=c.lw;unfold Ky;split<;>omega)
 have i:=x1_ (λW hW=>Zj v x _ e s W (h.below hW) c.rise (by have:=c.lb;omega) k);have g:=x1_ (λW hW=>oz v x _ e s W (h.below hW) (by have:=c.lw;omega) k);have f:Hid (Dy e s=if _=_ then _ else _):=rfl;subst n k;obtain⟨u,o,t⟩:=s;simp only at m i g f ⊢;generalize e.ww.findIdx (λy=>decide (y=t))=r1,e.bs.countP (λb=>decide (b<o))=r2,Dy e ⟨u,o,t⟩=r,e.cnt=cn at *;obtain⟨B,A,C⟩:=e;simp only at m i g f l ⊢;generalize A.length=nb,C.length=nw at *
 cases u with
 | true=>
  have HB2:Hid (r=cn+1):=w_;go_enter Tryz.func266,Tryz.ntmps266;go_wp2_with fail
  refine(m _).mono ?_;exact Zcz
 | false=>
  have d:=f.out;rw[if_neg d_] at d
  cases B with
  | true=>
   have HB2:Hid (r=r1):=(by rw[if_pos rfl] at d;exact d);rw[if_pos rfl] at l;go_enter Tryz.func266,Tryz.ntmps266;go_wp2_with fail
   refine(g _ (bA_.alloc s_ _)).mono ?_;exact Zcz
  | false=>
   have HB2:Hid (r=r2):=(by rw[if_neg d_] at d;exact d);rw[if_neg d_] at l;go_enter Tryz.func266,Tryz.ntmps266;go_wp2_with fail
   refine(i _ (bA_.alloc s_ _)).mono ?_;exact Zcz
def Qu u n:(madeCells #[u] n).toList=List.replicate n u:=by apply List.ext_getElem;simp[madeCells];intro i b a;simp[madeCells,Nat.mod_one]
def Ko(n:Nat)(f:n<=1000000) W:(Instr.makeSlice 25 (I_ n) (I_ n)).run Tryz.prog W=.ok (L_ W.heap.size n n) (W.alloc (.cells (madeCells #[I_ 0] n) 3)):=by obtain⟨e,a,d,b,c⟩:=info_parts Ss;have:=run_make (P:=Tryz.prog) W 25 3 e _ Tryz.underlying25 a d .i64 .i64 (n:Int) (n:Int) o_ o_ (by rw[c];omega) o_;rw[b] at this;rw[this,Int.toNat_natCast,Nat.mul_one];rfl
def Kn n (W:World) a (c:n<=1000000)(b:a<=W.heap.size):Ag (W.alloc (.cells (madeCells #[I_ 0] n) 3)) a (L_ W.heap.size n n) (List.replicate n 0):=by
 have:=World.ownsRow_lit (base:=a) (size:=1) (e:=3) W (madeCells #[I_ 0] n) n b m_ (by simp[madeCells]);rw[Qu] at this;unfold Ag
 simpa using this
def Ag.put{w a g b n k c}(h:Ag w a (L_ g n b) c)(e:n=c.length) z:Ag (w.setCell (A_ g k) (I_ z)) a (L_ g n b) (c.set k z)/\w.grownBy (w.setCell (A_ g k) (I_ z)) (some g):=by subst e;obtain⟨f,d⟩:=World.ownsRow.stored h k (I_ z);refine⟨?_,d⟩;unfold Ag;rw[List.length_set,List.map_set];exact f
theorem Ag.cellK{w a g b n k c}(h:Ag w a (L_ g n b) c)(d:n=c.length)(e:k<n):w.cell? (A_ g k)=some (I_ (c.getD k 0))/\w.frozen? (A_ g k)=false:=by
 subst d;refine⟨?_,World.ownsRow.frozenAt h k⟩;rw[World.ownsRow.cellAt h k o_]
 grind
def Eu(f:Nat->Int)(n k:Nat):List Int:=(List.range k).map f++List.replicate (n-k) 0
def Mz f {n k}(h:k<=n):(Eu f n k).length=n:=by simp[Eu];omega
def Nu f n:Eu f n 0=List.replicate n 0:=by simp[Eu]
def Nt f n:Eu f n n=(List.range n).map f:=by simp[Eu]
def Rk f {n k}(h:k<n):(Eu f n k).set k (f k)=Eu f n (k+1):=by unfold Eu;rw[show n-k=n-(k+1)+1 by omega,List.replicate_succ,List.set_append_right _ _ s_,List.length_map,List.length_range,Nat.sub_self,List.set_cons_zero,List.range_succ,List.map_append,List.append_assoc];rfl
def js{α β:Type}(g:α->β) d (L:List α):(List.range L.length).map (λi=>g (L.getD i d))=L.map g:=by
 apply List.ext_getElem;simp
 grind
def ZgY v0 v1 ve t l va n y e L w (hE:Sz w t ve e)(hk:Ol e)(hv:Iq w 0 (.slice va n y) L)(hL:L.length=n)(hn:n<=200)(S:∃f c,v0=.func f #[] c)(N:∃f c,v1=.func f #[] c)(hc:w.cell? (A_ l 0)=some (.func (.func (if e.wd=true then 213 else 218)) #[] #[]))(u:l<w.heap.size):C_ 156 #[.agg #[v0,v1,.func (.func 266) #[] #[.pointer (some ⟨l,0,none⟩)]],ve,.slice va n y] w λr w'=>∃v,r=.returned v/\Ag w' w.heap.size v (L.map (λx=>(Dy e x:Nat)))/\Below w.heap.size w w':=by
 obtain⟨Z,cb,Y,cw,T,_,_⟩:=hE.form;have z:=x1_ (λW s hW=>Zjt _ _ _ _ e s W (hE.below hW) hk rfl ((hW.cell (p:=(A_ l 0)) u).trans hc) (Qh u hW.size));have HV:=x1_ hv;have H:=x1_ hL;have a7:=Ko n o_;obtain⟨f0,g0,rfl⟩:=S;obtain⟨f1,g1,rfl⟩:=N;have B:Hid (L.map (λx=>((Dy e x:Nat):Int))=Eu (λi=>(Dy e (L.getD i Ax):Nat)) n n):=(by show _=_;rw[Nt,<- hL,js (λx=>((Dy e x:Nat):Int)) Ax L]);subst T;generalize e.bs.length=nb,e.ww.length=nw,e.wd=ew at *;obtain⟨G,b⟩:=ex_ ((w.alloc (.cells #[.func f0 #[] g0,.func f1 #[] g1,.func (.func 266) #[] #[P_ l]] 263)).alloc (.cells #[.bool ew,.slice Z nb cb,.slice Y nw cw] 170));have m:Hid (E_ w G):=by show Below _ _ _;rw[b];exact bA_.alloc s_ _
 have D:G.heap.size=w.heap.size+1+1:=(by rw[b];simp);go_enter Tryz.func156,Tryz.ntmps156;go_wp2_with fail
 go_loopw [15] (λti wr=>∃k:Nat,ti=.int .i64 k/\k<=n/\Hid (Ag wr (w.heap.size+1+1) (.slice (some ⟨w.heap.size+1+1,0,none⟩) n n) (Eu (λi=>((Dy e (L.getD i Ax):Nat):Int)) n k))/\Hid (Below (w.heap.size+1+1) G wr)) (λti _=>n-(intOf ti).toNat)
 case atStart=>
  refine⟨0,rfl,qg_,?_,?_⟩;rw[Nu];have:=Kn n G (w.heap.size+1+1) o_ o_;rw[D,b] at this;exact this;show Below _ _ _;rw[b];exact bz_.alloc s_ _
 case round=>
  obtain⟨k,rfl,hk,HO,M⟩:=hrel;have a:=M.out;have P:=a.size;rw[D] at P;have d0:wr.cell? _=some (.func (.func 266) #[] #[P_ l]):=(a.cell (p:=(A_ w.heap.size 2)) w_).trans (by rw[b];simp[go_sem]);have d1:wr.cell? _=some (.bool ew):=(a.cell (p:=(A_ (w.heap.size+1) 0)) w_).trans (by rw[b];simp[go_sem]);have d2:wr.cell? _=some (.slice Z nb cb):=(a.cell (p:=(A_ (w.heap.size+1) 1)) w_).trans (by rw[b];simp[go_sem]);have d3:wr.cell? _=some (.slice Y nw cw):=(a.cell (p:=(A_ (w.heap.size+1) 2)) w_).trans (by rw[b];simp[go_sem])
  by_cases hkn:k<n
  ·have Q:k<L.length:=(by rw[H];exact hkn);obtain⟨q,rfl,g,c0,c1,c2⟩:=HV.at Q;have d:=m.trans (a.mono o_);have a0:=(d.cell (p:=(A_ q (k*3))) g).trans c0;have a1:=(d.cell (p:=(A_ q (k*3+1))) g).trans c1;have a2:=(d.cell (p:=(A_ q (k*3+2))) g).trans c2;have U:=Mz (λi=>((Dy e (L.getD i Ax):Nat):Int)) (show k<=n by omega);have A:=Rk (λi=>((Dy e (L.getD i Ax):Nat):Int)) hkn;have E:=x1_ A;have o:=x1_ U.symm;generalize L.getD k Ax=x at *;obtain⟨xm,xn,xw⟩:=x;simp only at a0 a1 a2;have aA:0<=(k:Int):=o_;have a6:k<(n:Int):=o_;have V:=x1_ d;have J:=x1_ a;have a3:w.heap.size<wr.heap.size:=o_;have a4:w.heap.size+1<wr.heap.size:=o_;go_wp2_with fail
   refine(z _ ⟨xm,xn,xw⟩ (V.alloc o_ _)).mono ?_;rintro r w3 ⟨rfl,j⟩;have I:=j.size;simp at I;have C:=x1_ ((HO.alloc _).below j);have O:=C.cellK o hkn;obtain⟨a9,a5⟩:=O;have R:=J.trans (((bz_.alloc o_ _)).trans (j.mono t_));have X:=x1_ R;generalize (Eu (λi=>((Dy e (L.getD i Ax):Nat):Int)) n k)=F,Dy e ⟨xm,xn,xw⟩=r at *;generalize F.getD k 0=z0 at *;go_wp2;go_roundw
   case rel=>
    refine⟨k+1,g_,o_,?_,?_⟩;rw[<- E];exact(C.put o _).1;exact X.setCell qa_ _
   case measure=>exact z_
  have a8:¬k<(n:Int):=o_;have HF:Hid (Ag wr w.heap.size (L_ (w.heap.size+1+1) n n) (L.map (λx=>(Dy e x:Nat)))/\E_ w wr):=(by rw[B];have:k=n:=o_;subst this;exact⟨HO.mono o_,m.trans (a.mono o_)⟩);go_wp2;go_ret;exact⟨_,rfl,HF.1,HF.2⟩
def Av(B:List Nat):List Int:=B.map (λn:Nat=>n)
def Zlo(x d:Nat):((x !=(d:Int)))=decide (x≠d):=w_
def Aw B:(Av B).length=B.length:=by simp[Av]
def Cv B k:(Av B).getD k 0=(B.getD k 0:Nat):=by
 simp only[Av,List.getD,List.getElem?_map]
 grind
def Ag.atK{w b a n c d}(h:Ag w b (.slice a n c) d)(f:d.length=n){k}(i:k<n):∃q,a=some ⟨q,0,none⟩/\q<w.heap.size/\b<=q/\w.cell? (A_ q k)=some (I_ (d.getD k 0))/\w.frozen? (A_ q k)=false:=by
 rcases h.2 with⟨e,h0⟩|⟨g,cap,cur,e,hb,hh,hnc,_⟩
 omega
 grind [Ag.cellK]
def Ev(w:World)(base:Nat)(v:Value)(bs:List Bool):Prop:=w.ownsRow base 4 1 v bs.length (bs.map Value.bool)
def Zle:(Tryz.prog.info? 4).map (λi=>(i.zero,i.size,i.bytes))=some (some (.bool false),1,1):=k_
def Ev.below{w w' base v L}(h:Ev w base v L)(hb:Below w.heap.size w w'):Ev w' base v L:=(Aa.of_below (S:=λ_=>False) hb).row h (λ_ _=>id)
def Ev.alloc{w base v zs}(h:Ev w base v zs) o:Ev (w.alloc o) base v zs:=ra_ h o
def Ev.mono{w b b' v L}(h:Ev w b' v L)(f:b<=b'):Ev w b v L:=by
 refine⟨h.1,?_⟩
 rcases h.2 with i|⟨g,a,c,e,d,r⟩
 exact .inl i;exact .inr ⟨g,a,c,e,Nat.le_trans f d,r⟩
def Ev.shape{w b v L}(h:Ev w b v L):∃a c,v=.slice a L.length c:=by
 rcases h.2 with⟨rfl,h0⟩|⟨q,p,cur,rfl,_⟩
 ·grind
 grind
def Ev.put{w a g b n k c}(h:Ev w a (L_ g n b) c)(e:n=c.length) z:Ev (w.setCell (A_ g k) (.bool z)) a (L_ g n b) (c.set k z)/\w.grownBy (w.setCell (A_ g k) (.bool z)) (some g):=by subst e;obtain⟨f,d⟩:=World.ownsRow.stored h k (.bool z);refine⟨?_,d⟩;unfold Ev;rw[List.length_set,List.map_set];exact f
def Ev.atK{w b a n c d}(h:Ev w b (.slice a n c) d)(f:d.length=n){k}(i:k<n):∃q,a=some ⟨q,0,none⟩/\q<w.heap.size/\b<=q/\w.cell? (A_ q k)=some (.bool (d.getD k false))/\w.frozen? (A_ q k)=false:=by
 rcases h.2 with⟨e,h0⟩|⟨g,cap,cur,e,hb,hh,hnc,_⟩
 omega;injection e with e1 e2 e3;subst e1 e3 f;refine⟨g,rfl,(Qb hh).1,hb,?_,World.ownsRow.frozenAt h k⟩;rw[World.ownsRow.cellAt h k o_]
 grind
def Tu(n:Nat)(f:n<=1000000) W:(Instr.makeSlice 101 (I_ n) (I_ n)).run Tryz.prog W=.ok (L_ W.heap.size n n) (W.alloc (.cells (madeCells #[.bool false] n) 4)):=by obtain⟨e,a,d,b,c⟩:=info_parts Zle;have:=run_make (P:=Tryz.prog) W 101 4 e _ Tryz.underlying101 a d .i64 .i64 (n:Int) (n:Int) o_ o_ (by rw[c];omega) o_;rw[b] at this;rw[this,Int.toNat_natCast,Nat.mul_one];rfl
def Ts n (W:World) a (c:n<=1000000)(b:a<=W.heap.size):Ev (W.alloc (.cells (madeCells #[.bool false] n) 4)) a (L_ W.heap.size n n) (List.replicate n false):=by
 have:=World.ownsRow_lit (base:=a) (size:=1) (e:=4) W (madeCells #[.bool false] n) n b m_ (by simp[madeCells]);rw[Qu] at this;unfold Ev
 simpa using this
def Ow(f:Nat->Bool)(n k:Nat):List Bool:=(List.range k).map f++List.replicate (n-k) false
def Zfp f {n k}(h:k<=n):(Ow f n k).length=n:=by simp[Ow];omega
def ZcW f n:Ow f n 0=List.replicate n false:=by simp[Ow]
def ZcV f n:Ow f n n=(List.range n).map f:=by simp[Ow]
def Zfq f {n k}(h:k<n):(Ow f n k).set k (f k)=Ow f n (k+1):=by unfold Ow;rw[show n-k=n-(k+1)+1 by omega,List.replicate_succ,List.set_append_right _ _ s_,List.length_map,List.length_range,Nat.sub_self,List.set_cons_zero,List.range_succ,List.map_append,List.append_assoc];rfl
def Dc(B:List Nat)(d:Nat):List Bool:=B.map (λb=>decide (b≠d))
def Zx t (n c d:Nat) B w (D:Ag w 0 (.slice t n c) (Av B))(u:B.length=n)(R:n<=200):C_ 205 #[.slice t n c,.int .i64 d] w λe w'=>∃v,e=.returned v/\Ev w' w.heap.size v (Dc B d)/\Below w.heap.size w w':=by
 have A:=x1_ D;have z:=x1_ u;have I:=Tu n o_;have g:Hid (Dc B d=Ow (λi=>decide (B.getD i 0≠d)) n n):=(by show _=_;rw[ZcV,<- u,Dc,js (λb=>decide (b≠d)) 0 B]);go_enter Tryz.func205,Tryz.ntmps205;go_wp2_with fail
 go_loopw [13] (λti wr=>∃k:Nat,ti=.int .i64 k/\k<=n/\Hid (Ev wr w.heap.size (.slice (some ⟨w.heap.size,0,none⟩) n n) (Ow (λi=>decide (B.getD i 0≠d)) n k))/\E_ w wr) (λti _=>n-(intOf ti).toNat)
 case atStart=>exact⟨0,rfl,qg_,by rw[ZcW];exact Ts n w _ o_ qa_,bA_⟩
 case round=>
  obtain⟨k,rfl,Q,s,a⟩:=hrel;have L:=a.size
  by_cases hkn:k<n
  ·obtain⟨q,rfl,m,_,N,_⟩:=A.atK (by rw[Aw];exact z) hkn;have C:=(a.cell (p:=(A_ q k)) m).trans N;rw[Cv] at C;have l:=Zfp (λi=>decide (B.getD i 0≠d)) (show k<=n by omega);have o:=x1_ l;have j:=x1_ (Zfq (λi=>decide (B.getD i 0≠d)) hkn);obtain⟨P,f,y,_,J,G⟩:=s.atK l hkn;injection f with f;injection f with f _;subst f;have r:_:=s;generalize Ow (λi=>decide (B.getD i 0≠d)) n k=F at *;generalize F.getD k false=z0,B.getD k 0=x at *;have H:0<=(k:Int):=o_;have E:k<(n:Int):=o_;go_wp2;go_roundw
   case rel=>
    refine⟨k+1,g_,o_,?_,?_⟩;rw[<- j];rw[Zlo];exact(r.put (k:=k) o.symm _).1;exact a.setCell qa_ _
   case measure=>exact z_
  have M:¬k<(n:Int):=o_
  have O:Hid (Ev wr w.heap.size (L_ w.heap.size n n) (Dc B d)):=by
   rw[g]
   grind
  go_wp2;go_ret;exact⟨_,rfl,O,a⟩
def Ci(B:List Nat)(h:Nat):List Int:=(List.range h).map (λb=>(B.count b:Nat))
def Cr B h:(Ci B h).length=h:=by simp[Ci]
def ZcK h:Ci [] h=List.replicate h 0:=by apply List.ext_getElem;simp[Ci];intro i b a;simp[Ci]
def ZaH B {b h}(a:b<h):(Ci B h).set b ((Ci B h).getD b 0+1)=Ci (B++[b]) h:=by
 apply List.ext_getElem;simp[Ci]
 grind [Ci]
def Zfj B h b:0<=(Ci B h).getD b 0/\(Ci B h).getD b 0<=B.length:=by grind [Ci]
def Vk(B:List Nat)(h:Nat):Int:=Lib.idxOf (Ci B h) (Lib.maxOf (Ci B h))
def Xj z n c h B w (J:Ag w 0 (.slice z n c) (Av B))(V:B.length=n)(hn:n<=200)(P:∀b∈B,b<h)(R:0<h)(h1:h<=1000):C_ 204 #[.slice z n c,.int .i64 h] w λe w'=>e=.returned (.int .i64 (Vk B h))/\Below w.heap.size w w':=by
 have H:=x1_ J;have r:=x1_ V;have C:=x1_ P;have O:=Ko h o_;go_enter Tryz.func204,Tryz.ntmps204;go_wp2_with fail
 go_loopw [12] (λti wr=>∃k:Nat,ti=.int .i64 k/\k<=n/\Hid (Ag wr w.heap.size (.slice (some ⟨w.heap.size,0,none⟩) h h) (Ci (B.take k) h))/\E_ w wr) (λti _=>n-(intOf ti).toNat)
 case atStart=>exact⟨0,rfl,qg_,by rw[List.take_zero,ZcK];exact Kn h w _ o_ qa_,bA_⟩
 case round=>
  obtain⟨k,rfl,hk,u,a⟩:=hrel;have S:=a.size
  by_cases hkn:k<n
  ·obtain⟨q,rfl,o,_,W,_⟩:=H.atK (by rw[Aw];exact r) hkn;have I:=(a.cell (p:=(A_ q k)) o).trans W;rw[Cv] at I;have l:k<B.length:=by rw[r];exact hkn
   have i:B.getD k 0<h:=(by have:B.getD k 0=B[k]:=(by simp[List.getD,l]);rw[this];exact C _ (Qf _));have v:B.take (k+1)=B.take k++[B.getD k 0]:=(by rw[Qi l];grind);have f:Hid ((Ci (B.take k) h).set (B.getD k 0) ((Ci (B.take k) h).getD (B.getD k 0) 0+1)=Ci (B.take (k+1)) h):=by show _=_;rw[v,ZaH _ i]
   have s:=Zfj (B.take k) h (B.getD k 0);have D:((B.take k).length:Int)<=200:=t_;obtain⟨Z,d,_,_,Q,M⟩:=u.atK (Cr _ _) i;injection d with d;injection d with d _;subst d;obtain⟨Y,i2⟩:=s;have y:_:=u;have t:Hid (h=(Ci (B.take k) h).length):=(Cr _ _).symm;generalize Ci (B.take k) h=F,B.getD k 0=x at *;generalize F.getD x 0=z0 at *;have X:z0<=200:=o_;have N:0<=(k:Int):=o_;have L:k<(n:Int):=o_;have U:0<=(x:Int):=o_;have G:x<(h:Int):=o_;go_wp2;go_roundw
   case rel=>
    refine⟨k+1,g_,o_,?_,?_⟩;rw[<- f];exact(y.put (k:=x) t _).1;exact a.setCell qa_ _
   case measure=>exact z_
  have T:¬k<(n:Int):=o_;have A:Ag wr w.heap.size (L_ w.heap.size h h) (Ci B h):=by have:=u.out;rw[List.take_of_length_le (by have:=r.out;omega)] at this;exact this
  have g:Hid (C_ 253 #[.slice (some ⟨w.heap.size,0,none⟩) h h] wr λe w'=>e=.returned (.int .i64 (Lib.maxOf (Ci B h)))/\w'=wr):=by have:=Tryz.slices_Max_int w.heap.size 0 h h (Ci B h) wr R (by rw[Cr];omega) o_ (λj hj=>by rw[Nat.zero_add];exact(A.cellK (Cr _ _).symm (by rw[Cr] at hj;exact hj)).1);rw[List.take_of_length_le (by rw[Cr];omega)] at this;exact this
  have m:Hid (C_ 252 #[.slice (some ⟨w.heap.size,0,none⟩) h h,.int .i64 (Lib.maxOf (Ci B h))] wr λe w'=>e=.returned (.int .i64 (Vk B h))/\w'=wr):=(by have:=Tryz.slices_Index_int w.heap.size 0 h h (Ci B h) (Lib.maxOf (Ci B h)) wr (by rw[Cr];omega) o_ (λj hj=>by rw[Nat.zero_add];exact(A.cellK (Cr _ _).symm (by rw[Cr] at hj;exact hj)).1);rw[List.take_of_length_le (by rw[Cr];omega)] at this;exact this);generalize Lib.maxOf (Ci B h)=mx at *;go_wp2_with fail
  refine g.mono ?_;rintro e E ⟨rfl,rfl⟩;go_wp2_with fail
  refine m.mono ?_;rintro e E ⟨rfl,rfl⟩;go_wp2;go_ret;exact⟨rfl,a⟩
def Dj(L:List Bool):Nat:=L.count true
def My L b:Dj (L++[b])=Dj L+(if b=true then 1 else 0):=by simp[Dj,List.count_append];cases b<;>simp
def Oe(L:List Bool){r}(h:r<L.length):L.take (r+1)=L.take r++[L.getD r false]:=by rw[Qi h];grind
def Zek g n c L w (l:Ev w 0 (.slice g n c) L)(s:L.length=n)(y:n<=200):C_ 296 #[.slice g n c] w λe w'=>e=.returned (.int .i64 (Dj L:Nat))/\w'=w:=by
 have j:=x1_ l;have d:=x1_ s;go_enter Tryz.func296,Tryz.ntmps296;go_wp2_with fail
 go_loop [8,3] (λti tn=>∃k:Nat,ti=.int .i64 k/\k<=n/\tn=.int .i64 (Dj (L.take k):Nat)/\Dj (L.take k)<=k) (λti _=>n-(intOf ti).toNat)
 case atStart=>exact⟨0,rfl,qg_,rfl,qa_⟩
 case round=>
  obtain⟨k,rfl,x,rfl,i⟩:=hrel
  by_cases hkn:k<n
  ·obtain⟨q,rfl,h,_,v,_⟩:=j.atK d hkn;have f:=My (L.take k) (L.getD k false);rw[<- Oe L (by rw[d];exact hkn)] at f;have u:=x1_ f;generalize Dj (L.take k)=t,L.getD k false=b at *;have o:0<=(k:Int):=o_;have m:k<(n:Int):=o_
   cases b with
   | true=>
    have a:Hid (Dj (L.take (k+1))=t+1):=w_;refine rd_ ?_;exact⟨k+1,g_,o_,by rw[a];go_num,by rw[a];omega⟩
   | false=>
    have a:Hid (Dj (L.take (k+1))=t):=w_;refine rd_ ?_;exact⟨k+1,g_,o_,by rw[a],by rw[a];omega⟩
  have p:¬k<(n:Int):=o_;have r:Hid (Dj (L.take k)=Dj L):=(by show _=_;rw[List.take_of_length_le (by have:=d.out;omega)]);generalize Dj (L.take k)=t at *;go_wp2;go_ret;exact⟨by rw[r];rfl,rfl⟩
structure GS where
 fs:List Nat
 out:List Bool
 conf:Nat
 bins:Nat
def Hc(a b:List Bool):List Bool:=List.zipWith (λx y=>x&&y) a b
def Et(a b:List Bool):Nat:=Dj (Hc a b)
def Rg{a b}(h:a.length=b.length):(Hc a b).length=b.length:=by simp[Hc,h]
def fi{a b}(h:a.length=b.length){k}(c:k<b.length):(Hc a b).getD k false=(a.getD k false&&b.getD k false):=by grind [Hc]
theorem Rj L:Dj L<=L.length:=List.count_le_length
def Lw o m l n c h L O w (M:w.cell? (A_ o 1)=some (.slice l n h))(y:Ev w 0 (.slice l n h) O)(z:Ev w 0 (.slice m n c) L)(F:O.length=n)(E:L.length=n)(P:n<=200):C_ 297 #[.pointer (some ⟨o,0,none⟩),.slice m n c] w λe w'=>e=.returned (.int .i64 (Et O L:Nat))/\w'=w:=by
 have v:=x1_ z;have x:=x1_ y;have g:=x2_ E F;have i:=Rg (a:=O) (b:=L) o_;have r:Hid ((Hc O L).length=n):=w_;go_enter Tryz.func297,Tryz.ntmps297;go_wp2_with fail
 go_loop [10,5] (λti tn=>∃k:Nat,ti=.int .i64 k/\k<=n/\tn=.int .i64 (Dj ((Hc O L).take k):Nat)/\Dj ((Hc O L).take k)<=k) (λti _=>n-(intOf ti).toNat)
 case atStart=>exact⟨0,rfl,qg_,rfl,qa_⟩
 case round=>
  obtain⟨k,rfl,J,rfl,u⟩:=hrel
  by_cases hkn:k<n
  ·obtain⟨q,rfl,s,_,I,_⟩:=v.atK g.1 hkn;obtain⟨H,rfl,p,_,N,_⟩:=x.atK g.2 hkn;have j:=My ((Hc O L).take k) ((Hc O L).getD k false);rw[<- Oe _ (by rw[r];exact hkn),fi (by have:=g.out;omega) (by have:=g.out;omega)] at j;have G:=x1_ j;generalize Dj ((Hc O L).take k)=t,L.getD k false=b,O.getD k false=d at *;have B:0<=(k:Int):=o_;have A:k<(n:Int):=o_
   cases b with
   | true=>
    cases d with
    | true=>
     have f:Hid (Dj ((Hc O L).take (k+1))=t+1):=w_;refine rd_ ?_;exact⟨k+1,g_,o_,by rw[f];go_num,by rw[f];omega⟩
    | false=>
     have f:Hid (Dj ((Hc O L).take (k+1))=t):=w_;refine rd_ ?_;exact⟨k+1,g_,o_,by rw[f],by rw[f];omega⟩
   | false=>
    have f:Hid (Dj ((Hc O L).take (k+1))=t):=w_;refine rd_ ?_;exact⟨k+1,g_,o_,by rw[f],by rw[f];omega⟩
  have C:¬k<(n:Int):=o_;have D:Hid (Dj ((Hc O L).take k)=Et O L):=(by show _=_;rw[List.take_of_length_le (by have:=r.out;omega)];rfl);generalize Dj ((Hc O L).take k)=t at *;go_wp2;go_ret;exact⟨by rw[D];rfl,rfl⟩
structure Ze7(w:World)(K:Nat->Prop)(gb:Nat)(vf vo)(G:GS):Prop where
 blk:w.heap[gb]? =some (.cells #[vf,vo,I_ G.conf,I_ G.bins] 351 (0,0))
 fs:Ag w 0 vf (Av G.fs)
 out:Ev w 0 vo G.out
 kg:K gb
 kf:∀k,vf.ownBlock=some k->K k
 ko:∀k,vo.ownBlock=some k->K k
 kl:∀k,K k->k<w.heap.size
def vh(w:World)(K:Nat->Prop)(gb:Nat)(G:GS):Prop:=∃vf vo,Ze7 w K gb vf vo G
def Ze7.touch{S w w' K gb vf vo G}(h:Ze7 w K gb vf vo G)(t:Aa S w w')(hs:∀k,K k->¬S k):Ze7 w' K gb vf vo G:=
 ⟨t.at_ h.blk (hs _ h.kg),t.row h.fs (λk hk=>hs k (h.kf k hk)),t.row h.out (λk hk=>hs k (h.ko k hk)),h.kg,h.kf,h.ko,λk hk=>Qh (h.kl k hk) t.size⟩
def vh.touch{S w w' K a G}(h:vh w K a G)(t:Aa S w w')(d:∀k,K k->¬S k):vh w' K a G:=by obtain⟨c,b,h⟩:=h;exact⟨c,b,h.touch t d⟩
def orL(a b:List Bool):List Bool:=List.zipWith (λx y=>x||y) a b
def Te(G:GS)(f:Nat)(L:List Bool)(bins:Nat):GS:=⟨G.fs++[f],orL G.out L,G.conf+Et G.out L,G.bins+bins⟩
def Zbl a b:Av (a++b)=Av a++Av b:=by simp[Av]
def orK(a b:List Bool)(k:Nat):List Bool:=(orL a b).take k++a.drop k
theorem Kc{a b}(h:a.length=b.length):(orL a b).length=a.length:=by simp[orL,h]
def ZeS{a b}(h:a.length=b.length){k}(c:k<=a.length):(orK a b k).length=a.length:=by have:=Kc h;simp[orK];omega
def Zls{a b}(h:a.length=b.length){k}(c:k<a.length):(orK a b k).getD k false=a.getD k false:=by grind [Kc,orK]
def Zkn{a b}(h:a.length=b.length){k}(c:k<a.length):(orK a b k).set k (a.getD k false||b.getD k false)=orK a b (k+1):=by have f:=Kc h;have e:k<b.length:=o_;have d:(orL a b)[k]' o_=(a.getD k false||b.getD k false):=(by simp[orL,List.getD,c,e]);unfold orK;rw[Qi o_,d,List.append_assoc,List.drop_eq_getElem_cons c,List.set_append_right _ _ t_];have:k-(List.take k (orL a b)).length=0:=t_;rw[this];rfl
def Zd9 K (A f t:Nat) vf vo va n c L G w (M:Ze7 w K A vf vo G)(hv:Ev w 0 (.slice va n c) L)(hO:G.out.length=n)(hL:L.length=n)(hn:n<=200)(hc:G.conf<=1000)(hb:G.bins<=1000)(aR:t<=1000)(hf:G.fs.length<=1000)(a3:∀k,(Value.slice va n c).ownBlock=some k->¬K k):Calls Tryz.prog 256 #[.pointer (some ⟨A,0,none⟩),.int .i64 f,.slice va n c,.int .i64 t] w λe w'=>e=.returned (.tuple #[])/\(∃K',vh w' K' A (Te G f L t)/\∀k,K' k->K k∨w.heap.size<=k)/\Aa K w w':=by
 obtain⟨oa,T,a1⟩:=M.out.shape;rw[hO] at a1;subst a1;obtain⟨fa,fc,V⟩:=M.fs.shape;rw[Aw] at V;subst V;have X:=cR_ 1 M.blk;have Q:=cR_ 2 M.blk;have a7:=Rj (Hc G.out L);rw[Rg o_,hL] at a7;have aJ:Et G.out L<=200:=(by unfold Et;omega);have a0:=x1_ (Lw _ _ _ n c _ L _ w.drew X M.out hv hO hL hn);have C:=x1_ M;have B:=x4_ hv hL hO a3;have a4:=λo=>fq_ o _ _ M.blk;have a8:w.drew.frozen? _=_:=a4 2;clear M hv hL hO a3 X a4;go_enter Tryz.func256,Tryz.ntmps256;go_upto_region 0 with fail;refine Al (λw'=>w'.cell? _=some _) 10 k_ Q (λhHeld=>?_);refine Ah 0 ?_;refine Ah 1 ?_;refine Ah 2 ?_;refine Ah 3 ?_;refine Ah 4 ?_;refine Ah 5 ?_;refine Af (i:=6) k_ rfl (λKK hK=>?_);go_simp
 refine(a0).mono ?_;rintro e w' ⟨rfl,rfl⟩;go_simp;refine hK _ _ Q (λhHeld=>?_);clear hK KK;try simp only[Act.put,sA,sB,sC]
 refine Ah 7 ?_;refine Ah 8 ?_;refine Ah 9 ?_;refine Ai (i:=10) k_ rfl k_ (λKK hK=>?_);go_simp;refine hK _ _ ?_;clear hK KK;try simp only[Act.put,sA,sB,sC]
 refine Ak k_ ?_ _;rw[Cb o_ o_];obtain⟨w1,J⟩:=ex_ ((w.setCell (A_ A 2) (I_ (G.conf+(Et G.out L:Int)))).drew);rw[<- J];have t1:Aa K w w1:=by rw[J];exact((Aa.refl K w).setCell (p:=(A_ A 2)) (λ_=>C.kg) _).drew
 have D:Ze7 w1 K A (.slice fa G.fs.length fc) (.slice oa n T) {G with conf:=G.conf+Et G.out L}:=(by rw[J];refine⟨?_,?_,?_,C.kg,C.kf,C.ko,λk l=>by simpa using C.out.kl k l⟩;exact hs_ w _ 2 _ _ _ C.blk;exact As C.out.fs C.out.blk d_;exact As C.out.out C.out.blk d_);have m:=x1_ D;have Z:=x1_ t1;have a6:=x1_ C.kl;have c0:=cR_ 0 D.blk;have aH:=D.kl _ D.kg;have aP:=t1.size;clear J t1 D C a0 Q a8 hHeld;go_wp2_with (at_builtin;refine Bu rfl (.tmp 24) _ rfl 0 _ (Av G.fs) f rfl (m.fs.alloc _) _ 1 rfl ?_ ?_ ?_ ?_)
 ·simp[go_sem]
 rw[Aw];omega;simp;intro v3 w3 H3;obtain⟨q1,q2,q3⟩:=H3;have u:w3.heap[A]? =some (.cells #[.slice fa G.fs.length fc,.slice oa n T,I_ (G.conf+Et G.out L:Nat),I_ G.bins] 351 (0,0)):=(by rw[q2.block A t_ (λe=>Au m.fs e.symm m.blk d_ rfl)];exact(hc_ aH).trans m.out.blk);have W:Ev _ 0 _ G.out:=World.ownsRow.kept (m.out.out.alloc _) q2 (An (m.out.fs.alloc _) (m.out.out.alloc (.cells #[.int .i64 f] 3)) d_);have t3:Aa K w w3:=by have ta:Aa K _ (w1.alloc (.cells #[I_ f] 3)):=(Aa.refl K _).alloc _;exact Z.trans (ta.grown q2 (λk l _=>m.kf k l))
 obtain⟨E,H,R⟩:=q1.shape;rw[Qe,Aw] at R;simp only[List.length_cons,List.length_nil,Nat.zero_add] at R;subst R;have aM:=(Qb u).1;have aE:=x4_ u W t3 q1
 have aC:Hid (∀k,(Value.slice E (G.fs.length+1) H).ownBlock=some k->K k∨w.heap.size<=k):=λk l=>by
  rcases q3 with e|e
  exact .inl (m.kf k (e ▸ l));rw[e.1] at l;injection l with l;exact .inr (by rw[<- l];omega)
 have F:=x2_ m.kg m.ko;have aI:=cR_ 0 u;have aD:=fq_ 0 _ _ u;have aA:=cR_ 3 u;have aB:=fq_ 3 _ _ u;clear q1 q2 q3 u W t3 m Z c0;go_wp2_with fail
 go_loopw [40] (λti wr=>∃k:Nat,ti=.int .i64 k/\k<=n/\Hid (wr.heap[A]? =some (.cells #[.slice E (G.fs.length+1) H,.slice oa n T,.int .i64 ((G.conf+Et G.out L:Nat):Int),.int .i64 ((G.bins:Int)+(t:Int))] 351 (0,0))/\Ev wr 0 (.slice oa n T) (orK G.out L k)/\Aa K w wr/\Ag wr 0 (.slice E (G.fs.length+1) H) (Av G.fs++[(f:Int)]))) (λti _=>n-(intOf ti).toNat)
 case atStart=>
  obtain⟨p1,p2,p3,p4⟩:=aE;refine⟨0,rfl,qg_,?_,?_,?_,?_⟩;exact ht_ 3 _ _ _ (ht_ 0 _ _ _ p1);have e:orK G.out L 0=G.out:=(by simp[orK]);rw[e];exact As (As p2 p1 d_) (ht_ 0 _ _ _ p1) d_;exact(p3.setCell (p:=(A_ A 0)) (λ_=>F.1) _).setCell (p:=(A_ A 3)) (λ_=>F.1) _;exact As (As p4 p1 d_) (ht_ 0 _ _ _ p1) d_
 case round=>
  clear aI aD aA aB;obtain⟨k,rfl,l,HR⟩:=hrel
  by_cases hkn:k<n
  ·obtain⟨j,a,P,x⟩:=HR.out;have s:G.out.length=L.length:=(by have:=B.out;omega);obtain⟨q,aF,aL,_,d1,fq⟩:=a.atK (k:=k) (by rw[ZeS s (by have:=B.out;omega)];exact B.2.2.1) hkn;subst aF;have a2:Ev _ 0 _ L:=P.row B.1 B.2.2.2;obtain⟨q2,Y,aK,_,d2,_⟩:=a2.atK B.2.1 hkn;subst Y;rw[Zls s (by have:=B.out;omega)] at d1;have c1:=cR_ 1 j;have O:Hid (_=orK _ L (k+1)):=Zkn s (by have:=B.out;omega);have U:Hid (n=(orK G.out L k).length):=by rw[ZeS s (by have:=B.out;omega)];exact B.2.2.1.symm
   have a9:A≠q:=λe=>by
    rcases a.2 with⟨e2,_⟩|⟨g,cap,cur,e2,_,hh,_⟩
    ·cases e2
    injection e2 with e2;injection e2 with e2;injection e2 with e2;rw[e,e2,hh] at j;simp at j
   have aG:=x4_ j a P x;have I:wr.drew.cell? _=_:=d1;have a5:wr.drew.frozen? _=_:=fq;have aQ:0<=(k:Int):=o_;have aN:k<(n:Int):=o_
   have y:Hid (∀z,z=(G.out.getD k false||L.getD k false)->(wr.setCell (A_ q k) (.bool z)).drew.heap[A]? =some (.cells #[.slice E (G.fs.length+1) H,L_ q n T,I_ (G.conf+Et G.out L:Nat),I_ (G.bins+t)] 351 (0,0))/\Ev (wr.setCell (A_ q k) (.bool z)).drew 0 (L_ q n T) (orK G.out L (k+1))/\Aa K w (wr.setCell (A_ q k) (.bool z)).drew/\Ag (wr.setCell (A_ q k) (.bool z)).drew 0 (.slice E (G.fs.length+1) H) (Av G.fs++[(f:Int)])):=by rintro z rfl;obtain⟨p1,p2⟩:=a.put (k:=k) U (G.out.getD k false||L.getD k false);rw[O] at p1;refine⟨?_,p1,(P.setCell (p:=(A_ q k)) (λ_=>F.2 q rfl) _).drew,?_⟩;exact(p2.block _ (Qb j).1 (λe=>a9 (by injection e))).trans j;exact World.ownsRow.drew (Ag.kept x p2 (An a x d_))
   clear HR j a P x a2 d1 fq O U aG;generalize L.getD k false=b at *;generalize G.out.getD k false=d at *
   cases d with
   | true=>
    go_upto_region 6 with fail;refine Al (λw'=>w'.cell? _=some _/\w'.cell? _=some _) 16 k_ ⟨c1,I⟩ (λhHeld=>?_);refine Ah 0 ?_;refine Ah 1 ?_;refine Ah 2 ?_;refine Tx [15,16] 3 (v:=?_) ?_ ?_
    rotate_left
    ·intro w r;try obtain⟨_,_⟩:=r
     go_simp;try with_reducible rfl
    try simp only[Act.put,sA,sB,sC]
    refine Ah 4 ?_;refine Ah 5 ?_;refine Ah 6 ?_;refine Ah 7 ?_;refine Tx [10,11,12,13,14,15,16] 8 (v:=?_) ?_ ?_
    rotate_left
    ·intro w r;try obtain⟨_,_⟩:=r
     go_simp;try with_reducible rfl
    try simp only[Act.put,sA,sB,sC]
    refine Ah 9 ?_;refine Ah 10 ?_;refine Tx [12,13,14,15,16] 11 (v:=?_) ?_ ?_
    rotate_left
    ·intro w r;try obtain⟨_,_⟩:=r
     go_simp;try with_reducible rfl
    try simp only[Act.put,sA,sB,sC]
    refine Ah 12 ?_;refine Kh [14,15,16] (i:=13) (v:=undef) rfl k_ k_ k_ k_ k_ (λ_ _ _ h=>h) (Or.inr ⟨by rfl,rfl⟩) a_ ?_;try simp only[Act.put,sA,sB,sC]
    refine Ah 14 ?_;refine Ah 15 ?_;refine Ai (i:=16) k_ rfl k_ (λKK hK=>?_);go_simp;refine hK _ _ ?_;clear hK KK;try simp only[Act.put,sA,sB,sC]
    refine Ak k_ ?_ _;have N:=y true s_;have S:=x1_ N;clear N y hHeld c1 I a5;go_wp2;go_roundw;case rel=>exact⟨k+1,g_,o_,S⟩
    case measure=>exact z_
   | false=>
    go_upto_region 6 with fail;refine Al (λw'=>w'.cell? _=some _/\w'.cell? _=some _) 16 k_ ⟨c1,I⟩ (λhHeld=>?_);refine Ah 0 ?_;refine Ah 1 ?_;refine Ah 2 ?_;refine Tx [15,16] 3 (v:=?_) ?_ ?_
    rotate_left
    ·intro w r;try obtain⟨_,_⟩:=r
     go_simp;try with_reducible rfl
    try simp only[Act.put,sA,sB,sC]
    refine Ah 4 ?_;refine Ah 5 ?_;refine Ah 6 ?_;refine Ah 7 ?_;refine Tx [10,11,12,13,14,15,16] 8 (v:=?_) ?_ ?_
    rotate_left
    ·intro w r;try obtain⟨_,_⟩:=r
     go_simp;try with_reducible rfl
    try simp only[Act.put,sA,sB,sC]
    refine Ah 9 ?_;refine Ah 10 ?_;refine Tx [12,13,14,15,16] 11 (v:=?_) ?_ ?_
    rotate_left
    ·intro w r;try obtain⟨_,_⟩:=r
     go_simp;try with_reducible rfl
    try simp only[Act.put,sA,sB,sC]
    refine Ah 12 ?_;refine Ah 13 ?_;refine Ah 14 ?_;refine Ah 15 ?_;refine Ai (i:=16) k_ rfl k_ (λKK hK=>?_);go_simp;refine hK _ _ ?_;clear hK KK;try simp only[Act.put,sA,sB,sC]
    refine Ak k_ ?_ _;have N:=y b s_;have S:=x1_ N;clear N y hHeld c1 I a5;go_wp2;go_roundw;case rel=>exact⟨k+1,g_,o_,S⟩
    case measure=>exact z_
  have aO:¬k<(n:Int):=o_
  have N:Hid ((∃K',vh wr K' A (Te G f L t)/\∀k,K' k->K k∨w.heap.size<=k)/\Aa K w wr):=by
   obtain⟨j,a,P,x⟩:=HR;have s:G.out.length=L.length:=by have:=B.out;omega
   have e:orK G.out L k=orL G.out L:=(by have:=Kc s;unfold orK;rw[List.take_of_length_le (by have:=B.out;omega),List.drop_eq_nil_of_le (by have:=B.out;omega),List.append_nil]);rw[e] at a;refine⟨⟨λk=>K k∨(Value.slice _ _ _).ownBlock=some k,⟨_,_,⟨j,?_,a,.inl F.1,λk l=>.inr l,λk l=>.inl (F.2 k l),λk l=>?_⟩⟩,λk l=>?_⟩,P⟩;show Ag wr 0 _ (Av (G.fs++[f]));rw[Zbl];exact x
   ·rcases l with l|l
    exact Qh (a6 k l) P.size;exact(rl_ x k l).2
   rcases l with l|l
   exact .inl l;exact aC k l
  skip
  go_wp2;go_end0;exact⟨rfl,N.1,N.2⟩
def Fq:GS:=⟨[],[],0,0⟩
def jp(b:Nat):Value:=P_ b
structure Uc(w:World)(vG)(gbs:List Nat)(Ks:Nat->Nat->Prop)(Gs:List GS):Prop where
 row:w.ownsRow 0 313 1 vG Gs.length (gbs.map jp)
 len:gbs.length=Gs.length
 each:∀i,i<Gs.length->vh w (Ks i) (gbs.getD i 0) (Gs.getD i Fq)
 apart:∀i j,i<Gs.length->j<Gs.length->i≠j->∀k,Ks i k->¬Ks j k
def Fd(L:List Bool)(bins budget:Nat)(G:GS):Bool:=decide (G.conf+Et G.out L<=budget)&&decide (G.bins+bins<=40)
structure GOk(n)(G:GS):Prop where
 out:G.out.length=n
 conf:G.conf<=1000
 bins:G.bins<=1000
 fs:G.fs.length<=1000
def Uc.at{w d a j b}(h:Uc w d a j b){i}(k:i<b.length):∃q c,d=L_ q b.length c/\q<w.heap.size/\w.cell? (A_ q i)=some (jp (a.getD i 0)):=by
 have f:=h.row
 rcases h.row.2 with⟨_,h0⟩|⟨g,cap,cur,e,hb,hh,hnc,_⟩
 omega;subst e;refine⟨g,cap,rfl,(Qb hh).1,?_⟩;rw[World.ownsRow.cellAt f i o_]
 grind
def Uc.form{w e b f d}(h:Uc w e b f d):∃a c,e=.slice a d.length c:=by
 rcases h.row.2 with⟨rfl,h0⟩|⟨q,p,cur,rfl,_⟩
 ·grind
 grind
def Zc2(gbs:List Nat)(m:Nat)(i:Nat):Value:=if i<m then jp (gbs.getD i 0) else .pointer none
def Ur N P (R n c b a:Nat) r Ks f L w (O:Uc w (.slice N f.length R) r Ks f)(C:∀G∈f,GOk n G)(S:Ev w 0 (.slice P n c) L)(U:L.length=n)(hn:n<=200)(hb:b<=1000)(M:f.length<=1000):C_ 255 #[.slice N f.length R,.slice P n c,.int .i64 b,.int .i64 a] w λe w'=>e=.returned (Zc2 r f.length (f.findIdx (Fd L b a)))/\Below w.heap.size w w':=by
 have T:=x1_ O;have I:=x1_ C;have E:=x2_ S U;obtain⟨m,J⟩:=ex_ f.length;have H:=x1_ J;rw[<- J] at M ⊢;clear O C S U J;go_enter Tryz.func255,Tryz.ntmps255;go_wp2_with fail
 go_loopw [13] (λti wr=>∃k:Nat,ti=.int .i64 k/\k<=m/\Hid (∀j,j<k->Fd L b a (f.getD j Fq)=false)/\∃d,wr=w.drewN d) (λti _=>m-(intOf ti).toNat)
 case atStart=>exact⟨0,rfl,qg_,λj hj=>o_,0,rfl⟩
 case round=>
  obtain⟨k,rfl,hk,A,d,rfl⟩:=hrel
  by_cases hkm:k<m
  ·have t:k<f.length:=(by rw[<- H];exact hkm);obtain⟨q,a1,x,W,l⟩:=T.at t;injection x with x _ hgc;subst x hgc;obtain⟨vf,vo,hK⟩:=T.each k t;have i:=I _ (show f.getD k Fq∈f by grind);have g:Hid (Fd L b a (f.getD k Fq)=(_&&_)):=rfl
   have s:Hid (Fd L b a (f.getD k Fq)=true->f.findIdx (Fd L b a)=k):=λht=>by
    have e:f.getD k Fq=f[k]:=w_;rw[e] at ht;rw[List.findIdx_eq t];refine⟨ht,λj hj=>?_⟩;have:=A j hj
    grind
   have o:Hid (Fd L b a (f.getD k Fq)=false->∀j,j<k+1->Fd L b a (f.getD j Fq)=false):=λhf j hj=>by
    by_cases e:j=k
    rw[e];exact hf;exact A j o_
   generalize f.getD k Fq=G at *;obtain⟨gb,u⟩:=ex_ (r.getD k 0);have F:Hid (jp gb=jp (r.getD k 0)):=(by show _=_;rw[u]);rw[<- u] at hK l;clear u;obtain⟨oa,oc,D⟩:=hK.out.shape;rw[i.out] at D;subst D;have V:=cR_ 1 hK.blk;have c2:=cR_ 2 hK.blk;have c3:=cR_ 3 hK.blk;have B:=Rj (Hc G.out L);rw[Rg (by have:=E.2;have:=i.out;omega),E.2] at B;have Q:Et G.out L<=200:=(by unfold Et;omega);have a0:=i.conf;have a3:=i.bins;have z:=x1_ (λe=>Lw _ _ _ n c _ L _ (w.drewN e) V hK.out E.1 i.out E.2 hn);clear hK i B V;generalize Et G.out L=cf at *;generalize G.conf=gcf at *;generalize G.bins=gbn at *;unfold jp at l;have a2:0<=(k:Int):=o_;have X:k<(m:Int):=o_
   by_cases v:gcf+cf<=a
   ·have g1:decide (gcf+cf<=(a:Int))=true:=t_
    by_cases h2:gbn+b<=40
    ·have Y:decide (gbn+(b:Int)<=40)=true:=t_;have y:=x1_ (s (by rw[g];simp[v,h2]));clear s g v h2;go_upto_region 4 with fail;go_quiet (first|(go_at_call 297;exact(z _).mono (λ_ _ h=>⟨h.1,_,h.2⟩)));go_wp2;go_ret;refine⟨?_,below_drewN bz_ _⟩;rw[y];unfold Zc2;rw[if_pos hkm,<- F];rfl
    have Y:decide (gbn+(b:Int)<=40)=false:=t_;have y:=x1_ (o (by rw[g];simp[v,h2]));clear s g v h2 A o;go_upto_region 4 with fail;go_quiet (first|(go_at_call 297;exact(z _).mono (λ_ _ h=>⟨h.1,_,h.2⟩)));go_wp2;go_roundw;case rel=>exact⟨k+1,g_,o_,y,_,rfl⟩
    case measure=>exact z_
   have g1:decide (gcf+cf<=(a:Int))=false:=t_;have y:=x1_ (o (by rw[g];simp[v]));clear s g v A o;go_upto_region 4 with fail;go_quiet (first|(go_at_call 297;exact(z _).mono (λ_ _ h=>⟨h.1,_,h.2⟩)));go_wp2;go_roundw;case rel=>exact⟨k+1,g_,o_,y,_,rfl⟩
   case measure=>exact z_
  have Z:¬k<(m:Int):=o_
  have y:Hid (¬f.findIdx (Fd L b a)<m):=λh=>by
   rw[H] at h;have v:=List.findIdx_getElem (w:=h);have:=A (f.findIdx (Fd L b a)) (by have:=H.out;omega)
   grind
  clear A;go_wp2;go_ret;refine⟨?_,below_drewN bz_ _⟩;unfold Zc2;rw[if_neg y];rfl
end Go.Proofs.YtfcgnpchbcmdeaaGreat
namespace Go.Proofs.YtfcgnpchbcmdeaaGreat
set_option linter.all false
set_option maxRecDepth 100000
set_option maxHeartbeats 8000000
open Go.RowKit Go.Lib Go.Sort
structure Ho(w:World)(vO)(vs)(Os:List (List Bool)):Prop where
 row:w.ownsRow 0 101 1 vO Os.length vs
 each:∀i,i<Os.length->Ev w 0 (vs.getD i (.slice none 0 0)) (Os.getD i [])
def Ho.below{w w' vO vs Os}(h:Ho w vO vs Os)(hb:Below w.heap.size w w'):Ho w' vO vs Os:=
 ⟨(Aa.of_below (S:=λ_=>False) hb).row h.row (λ_ _=>id),λi hi=>(h.each i hi).below hb⟩
def Ho.at{w b d a}(h:Ho w b d a){i}(f:i<a.length):∃q c,b=L_ q a.length c/\q<w.heap.size/\w.cell? (A_ q i)=some (d.getD i (.slice none 0 0)):=by
 have j:=h.row
 rcases h.row.2 with⟨_,h0⟩|⟨g,cap,cur,e,hb,hh,hnc,_⟩
 omega
 grind [World.ownsRow.cellAt]
def Zfd o q l n f g j a w (d:Ho w (L_ q a.length l) j a)(s:∀O∈a,O.length=n)(v:n<=200)(R:w.cell? (A_ o 0)=some (L_ q a.length l))(x:f<a.length)(t:g<a.length):C_ 295 #[.int .i64 f,.int .i64 g,.pointer (some ⟨o,0,none⟩)] w λe w'=>e=.returned (.int .i64 (Lib.compareInt (Dj (a.getD g []):Nat) (Dj (a.getD f []):Nat)))/\∃m,w'=w.drewN m:=by
 obtain⟨S,T,b,_,I⟩:=d.at x;injection b with b _ _;injection b with b;injection b with b _;subst b;obtain⟨N,P,c,_,B⟩:=d.at t;injection c with c _ _;injection c with c;injection c with c _;subst c;have i:=d.each f x;have k:=d.each g t;have p:=s _ (show a.getD f []∈a by grind);have u:=s _ (show a.getD g []∈a by grind);generalize a.getD f []=F,a.getD g []=G,j.getD f (.slice none 0 0)=v1,j.getD g (.slice none 0 0)=v2 at *;obtain⟨E,Q,rfl⟩:=i.shape;obtain⟨z,M,rfl⟩:=k.shape;rw[p] at i I;rw[u] at k B;have J:=x1_ (λe=>Zek _ n _ F (w.drewN e) i p v);have L:=x1_ (λe=>Zek _ n _ G (w.drewN e) k u v);have C:Hid (∀e,Calls _ _ #[.int _ (Dj G:Nat),.int _ (Dj F:Nat)] _ λe' w'=>_):=λe=>Tryz.cmp_Compare_int _ _ (w.drewN e)
 generalize Lib.compareInt (Dj G:Nat) (Dj F:Nat)=r,Dj F=cF,Dj G=cG,a.length=m at *;have y:0<=(f:Int):=o_;have H:f<(m:Int):=o_;have A:0<=(g:Int):=o_;have D:g<(m:Int):=o_;go_enter Tryz.func295,Tryz.ntmps295;go_upto_region 1 with fail;go_quiet (first|(go_at_call_of 296 (z);exact(L _).mono (λ_ _ h=>⟨h.1,_,h.2⟩))|(go_at_call_of 296 (E);exact(J _).mono (λ_ _ h=>⟨h.1,_,h.2⟩))|(go_at_call 151;exact(C _).mono (λ_ _ h=>⟨h.1,_,h.2⟩)));go_wp2;go_ret;exact⟨rfl,_,rfl⟩
def Sb{m}(x:Fin m):Value:=I_ x.val
def Sa{m}(Os:List (List Bool))(x y:Fin m):Int:=Lib.compareInt (Dj (Os.getD y.val []):Nat) (Dj (Os.getD x.val []):Nat)
def Zmo{m}:OneCell (Sb (m:=m)):=λ_=>rfl
def ZdJ m a b c (d:Array (Fin (m+1))) w (r:m+1<=4)(j:d.size=m+1) f (g:CmpReads (α:=Fin (m+1)) Tryz.prog 295 #[P_ c] Sb (Sa f) a 0 (m+1) w)(q:Holds Sb w a 0 d):
  C_ 294 #[.slice (some ⟨a,0,none⟩) (m+1) b,.func (.func 295) #[] #[.pointer (some ⟨c,0,none⟩)]] w λe w'=>e=.returned (.tuple #[])/\∃n,w'=(putRow Sb w a 0 (Sort.insertionSort (ltOf (Sa f)) d 0 (m+1))).drewN n:=by
 have o:Hid (C_ 346 #[.slice (some ⟨a,0,none⟩) (m+1) b,.int .i64 0,.int .i64 (m+1:Nat),.func (.func 295) #[] #[.pointer (some ⟨c,0,none⟩)]] w λe w'=>e=.returned (.tuple #[])/\∃n,w'=(putRow Sb w a 0 (Sort.insertionSort (ltOf (Sa f)) d 0 (m+1))).drewN n):=(by have:=Tryz.insertionSortCmpFunc_one Sb Zmo (Sa f) 295 #[P_ c] a 0 b 0 (m+1) d w (enters_of Tryz.func295 k_ rfl) w_ q qg_ o_ o_;rw[j] at this;exact this);generalize putRow Sb w a 0 (Sort.insertionSort (ltOf (Sa f)) d 0 (m+1))=w2 at *
 have i:Hid (C_ 329 #[.slice (some ⟨a,0,none⟩) (m+1) b,.int .i64 (m+1:Nat),.func (.func 295) #[] #[.pointer (some ⟨c,0,none⟩)]] w λe w'=>e=.returned (.tuple #[])/\∃n,w'=w2.drewN n):=by
  have l:¬20<=(m:Int)+1:=o_;have p:¬20<(m:Int)+1:=o_;go_enter Tryz.func329,Tryz.ntmps329;go_wp2_with fail
  go_loopw [7,8] (λta tb wr=>ta=.int .i64 0/\tb=.int .i64 20/\wr=w) (λ_ _ _=>0)
  case atStart=>grind
  case round=>
   obtain⟨rfl,rfl,rfl⟩:=hrel;go_wp2_with fail
   refine(o).mono ?_;rintro e k ⟨rfl,h,rfl⟩;go_wp2_with fail
   go_loopw [6] (λtb wr=>tb=.int .i64 20/\wr=w2.drewN h) (λ_ _=>0)
   case atStart=>grind
   case round=>
    obtain⟨rfl,rfl⟩:=hrel;go_wp2;go_end0
    grind
 go_enter Tryz.func294,Tryz.ntmps294;go_wp2_with fail
 refine(i).mono ?_;rintro e k ⟨rfl,h,rfl⟩;go_wp2;go_end0
 grind
def ZdV{α}[Inhabited α] c w a b m (d:Array α) f:Aa (λk=>k=a) w (sortWorld c w a b m d f):=by refine⟨rfl,rfl,rfl,?_,λk hk hne=>?_⟩;unfold sortWorld;simp;unfold sortWorld;rw[Go.Sort.heap_grow_old _ _ (by simpa using hk)];have:a≠k:=λe=>hne e.symm;simp[Go.Sort.putRow,Go.Sort.mapBlock,Go.Sort.ahead,Array.getElem?_modify,this]
def Zgw{α}[Inhabited α] b w a c (d:Array α):Aa (λk=>k=a) w (putRow b w a c d):=by refine⟨rfl,rfl,rfl,?_,λk hk hne=>?_⟩;simp[Go.Sort.putRow,Go.Sort.mapBlock];have:a≠k:=λe=>hne e.symm;simp[Go.Sort.putRow,Go.Sort.mapBlock,Array.getElem?_modify,this]
def Ho.touch{S w w' vO vs Os}(h:Ho w vO vs Os)(t:Aa S w w')(hs:∀k cur ty,w.heap[k]? =some (.cells cur ty (0,0))->ty=101∨ty=4->¬S k):Ho w' vO vs Os:=
 ⟨t.row h.row (λk hk=>by obtain⟨cur,hc⟩:=Ad h.row hk;grind),λi hi=>t.row (h.each i hi) (λk hk=>by obtain⟨cur,hc⟩:=Ad (h.each i hi) hk;grind)⟩
def Zdq{w a g b n m d}{D:Array (Fin (m+1))}(h:Ag w a (L_ g n b) d)(o:d.length=n)(l:D.size=n):Ag (putRow Sb w g 0 D) a (L_ g n b) (D.toList.map (λx=>x.val)):=by
 rcases h.2 with⟨e,_⟩|⟨g',cap',cur,e,hb,hg,hnc,hcm,hcs,htake⟩
 simp at e;simp only[Value.slice.injEq,Option.some.injEq,Addr.mk.injEq,and_true] at e;obtain⟨rfl,_,rfl⟩:=e;have k:(putRow Sb w g 0 D).heap[g]? =some (.cells (Go.Sort.putCells Sb 0 D cur) 3 (0,0)):=(by simp[Go.Sort.putRow,Go.Sort.mapBlock,Array.getElem?_modify,hg,Go.Sort.onCells]);have c:(D.toList.map (λx=>(x.val:Int))).length=n:=(by simp[l]);refine⟨w_,.inr ⟨g,b,_,by rw[c],hb,k,by rw[c];omega,hcm,by simp[Go.Sort.putCells,hcs],?_⟩⟩;rw[c,Nat.mul_one];apply List.ext_getElem?;intro j
 by_cases hj:j<n
 rw[List.getElem?_take_of_lt hj,Array.getElem?_toList];have f:j<cur.size:=o_;have i:j<D.size:=o_;simp[Go.Sort.putCells,f,i,Sb]
 grind
def Ik m:Array (Fin (m+1)):=Array.ofFn (λi=>i)
def Da(m:Nat)(Os:List (List Bool)):List Nat:=(Sort.insertionSort (ltOf (Sa (m:=m+1) Os)) (Ik m) 0 (m+1)).toList.map (λx=>x.val)
def Zhl m a f q d n i b w (r:b.length=m+1)(s:Ho w (L_ q b.length d) i b)(j:∀O∈b,O.length=n)(p:n<=200)(k:w.heap[f]? =some (.cells #[L_ q b.length d] 309 (0,0)))(c:∃cur,w.heap[a]? =some (.cells cur 3 (0,0))):CmpReads (α:=Fin (m+1)) Tryz.prog 295 #[P_ f] Sb (Sa b) a 0 (m+1) w:=by
 intro l h o _ x y;have t:=ZdV (Sb (m:=m+1)) w a 0 l o h;obtain⟨cur,g⟩:=c;refine Zfd _ q _ n _ _ _ _ _ (s.touch t ?_) j p ?_ o_ o_
 ·grind
 have:=t.at_ k (λe=>w_);exact cq_ 0 _ _ _ this
theorem ZeB{α}[Inhabited α] a (h:SWO a)(d:Array α) n (c:d.size=n):(Sort.insertionSort a d 0 n).size=n:=by have:=(Sort.insertionSort_holds (lt:=a) h d 0 n qg_ o_).1;obtain⟨b,_⟩:=this;omega
theorem ltF{m} a (x y:Fin m):ltOf (Sa a) x y=decide (Dj (a.getD y.val [])<Dj (a.getD x.val [])):=by
 unfold ltOf Sa Lib.compareInt
 grind
theorem Zly{m} a:SWO (ltOf (Sa (m:=m) a)) where
 irrefl x:=by rw[ltF];simp
 trans x y z h1 h2:=by rw[ltF] at *;simp at *;omega
 ntrans x y z h1 h2:=by rw[ltF] at *;simp at *;omega
theorem Rn m:(Ik m).size=m+1:=by simp[Ik]
theorem Jl m a:(Da m a).length=m+1:=by grind [Da,ZeB,Zly,Rn]
def di m a:∀f∈Da m a,f<m+1:=by grind [Da]
def Un m q f n L b w (Z:m+1<=4)(H:b.length=m+1)(hO:Ho w (L_ q (m+1) f) L b)(U:∀O∈b,O.length=n)(hn:n<=200):C_ 254 #[.slice (some ⟨q,0,none⟩) (m+1) f] w λe w'=>∃v,e=.returned v/\Ag w' w.heap.size v (Av (Da m b))/\Below w.heap.size w w':=by
 have o:=x3_ hO H U;have z:=Ko (m+1) o_;have J:∀W:_,(Instr.makeSlice 25 (.int _ ((m:Int)+1)) (I_ ((m:Int)+1))).run _ W=_:=z;go_enter Tryz.func254,Tryz.ntmps254;go_wp2_with fail
 go_loopw [10] (λti wr=>∃k:Nat,ti=.int .i64 k/\k<=m+1/\Hid (Ag wr (w.heap.size+1) (.slice (some ⟨w.heap.size+1,0,none⟩) (m+1) (m+1)) (Eu (λi=>(i:Int)) (m+1) k))/\Hid (Below (w.heap.size+1) (w.alloc (.cells #[.slice (some ⟨q,0,none⟩) (m+1) f] 309)) wr)) (λti _=>m+1-(intOf ti).toNat)
 case atStart=>
  refine⟨0,rfl,qg_,?_,?_⟩
  ·rw[Nu];have:=Kn (m+1) (w.alloc (.cells #[L_ q (m+1) f] 309)) (w.heap.size+1) o_ s_;show Ag _ _ _ _
   simpa using this
  exact bz_.alloc s_ _
 case round=>
  obtain⟨k,rfl,M,B,s⟩:=hrel;have G:=s.size;simp at G
  by_cases hkm:k<m+1
  ·have c:=Mz (λi=>(i:Int)) (show k<=m+1 by omega);have g:=x1_ (Rk (λi=>(i:Int)) hkm);have t:=x1_ c.symm;obtain⟨S,Q⟩:=B.cellK c.symm hkm;generalize Eu (λi=>(i:Int)) (m+1) k=F at *;generalize F.getD k 0=z0 at *;have V:0<=(k:Int):=o_;have T:k<(m:Int)+1:=o_;go_wp2;go_roundw
   case rel=>
    refine⟨k+1,g_,o_,?_,?_⟩;rw[<- g];exact(B.put t _).1;exact s.setCell qa_ _
   case measure=>exact z_
  have a0:¬k<(m:Int)+1:=o_;have A:=(s.block _ o_).trans hn_;have a:=bA_.trans (s.mono o_);have u:Ag wr (w.heap.size+1) (L_ (w.heap.size+1) (m+1) (m+1)) (Eu (λi=>i) (m+1) (m+1)):=(by have:k=m+1:=o_;subst this;exact B);have c:=Mz (λi=>(i:Int)) (Qa (m+1));have hH:Holds Sb wr (w.heap.size+1) 0 (Ik m):=(by intro j l;rw[Rn] at l;rw[Nat.zero_add];obtain⟨p1,X⟩:=u.cellK c.symm l;refine⟨?_,X⟩;rw[p1,Nt];have:(Ik m)[j]! =⟨j,l⟩:=(by simp[Ik,l]);rw[this];simp[Sb,List.getD,l]);have E:Ho wr (L_ q b.length f) L b:=by rw[o.2.1];exact o.1.below a
  have y:=Zhl m _ _ q _ n _ _ _ o.2.1 E o.2.2 hn (by rw[o.2.1];exact A) (by
   obtain⟨C,hc⟩:=Ad u (k:=w.heap.size+1) rfl
   exact⟨C,hc⟩)
  have I:Hid (C_ 294 #[.slice (some ⟨w.heap.size+1,0,none⟩) (m+1) (m+1),.func (.func 295) #[] #[.pointer (some ⟨w.heap.size,0,none⟩)]] wr λe w'=>e=.returned (.tuple #[])/\Ag w' w.heap.size (.slice (some ⟨w.heap.size+1,0,none⟩) (m+1) (m+1)) (Av (Da m b))/\E_ w w'):=by
   refine(ZdJ m _ _ _ _ _ Z (Rn m) _ y hH).mono ?_;rintro e w' ⟨rfl,d,rfl⟩;have P:=Zdq (D:=Sort.insertionSort _ _ 0 _) u c (ZeB _ (Zly b) _ _ (Rn m));have r:=Zgw (Sb (m:=m+1)) wr (w.heap.size+1) 0 (Sort.insertionSort (ltOf (Sa (m:=m+1) b)) (Ik m) 0 (m+1));refine⟨rfl,?_,?_⟩;have e:Av (Da m b)=(Sort.insertionSort (ltOf (Sa (m:=m+1) b)) (Ik m) 0 (m+1)).toList.map (λx=>(x.val:Int)):=(by simp[Av,Da]);rw[e];exact(Ag.below (Ag.mono P o_) (below_drewN bz_ d));refine below_drewN ?_ d;exact⟨r.os.trans a.os,r.tape.trans a.tape,r.output.trans a.output,Nat.le_trans a.size r.size,λk M=>(r.block k o_ o_).trans (a.block k M)⟩
  go_wp2_with fail
  refine I.mono ?_;rintro e w2 ⟨rfl,R,Y⟩;have N:=x2_ R Y;go_wp2;go_ret;exact⟨_,rfl,N.1,N.2⟩
end Go.Proofs.YtfcgnpchbcmdeaaGreat
namespace Go.Proofs.YtfcgnpchbcmdeaaGreat
set_option linter.all false
set_option maxRecDepth 100000
set_option maxHeartbeats 8000000
open Go.RowKit
structure KS where
 e:ES
 d:Nat
def Ay:KS:=⟨⟨false,[],[]⟩,0⟩
def KS.many(k:KS):Nat:=k.e.cnt+2
def Cf(k:KS)(v:Value×Value):List Value:=[.bool k.e.wd,v.1,v.2,I_ k.d]
def Gz:List KS->List (Value×Value)->List Value
 |[],_=>[]
 |_::_,[]=>[]
 |k::Ks,v::vs=>Cf k v++Gz Ks vs
def Oi:Value×Value:=(.slice none 0 0,.slice none 0 0)
def ie:∀(Ks:List KS) (vs:List (Value×Value)),vs.length=Ks.length->∀i,i<Ks.length->∀c,c<4->(Gz Ks vs)[i*4+c]? =(Cf (Ks.getD i Ay) (vs.getD i Oi))[c]?
 |[],_,_,i,h=>by simp at h
 |k::Ks,[],h,_,_=>by simp at h
 |k::Ks,v::vs,_,0,_=>λc hc=>by grind [Gz,Cf]
 |k::Ks,v::vs,h,i+1,hi=>λc hc=>by simp only[Gz];rw[List.getElem?_append_right (by simp[Cf];omega),show(i+1)*4+c-(Cf k v).length=i*4+c by simp[Cf];omega];exact ie _ _ (by simpa using h) i (by simpa using hi) c hc
def Dt{w:World}{b a e c n:Nat}{v i}(h:w.ownsRow a e c v n i)(k:b<=a):w.ownsRow b e c v n i:=by
 refine⟨h.1,?_⟩
 rcases h.2 with l|⟨g,d,f,e,j,r⟩
 exact .inl l;exact .inr ⟨g,d,f,e,Nat.le_trans k j,r⟩
structure Mv(base)(w:World)(vK)(vs)(Ks):Prop where
 row:w.ownsRow 0 172 4 vK Ks.length (Gz Ks vs)
 len:vs.length=Ks.length
 each:∀i,i<Ks.length->Ag w base (vs.getD i Oi).1 (Ks.getD i Ay).e.bs/\Cc w base (vs.getD i Oi).2 (Ks.getD i Ay).e.ww
abbrev ZgK(w:World)(vK:Value)(vs:List (Value×Value))(Ks:List KS):Prop:=Mv 0 w vK vs Ks
def Mv.mono{w base b2 vK vs Ks}(h:Mv base w vK vs Ks)(hb:b2<=base):Mv b2 w vK vs Ks:=⟨h.row,h.len,λi hi=>⟨Dt (h.each i hi).1 hb,Dt (h.each i hi).2 hb⟩⟩
def Mv.touch{S w w' base vK vs Ks}(h:Mv base w vK vs Ks)(t:Aa S w w')(hs:∀k cur ty,w.heap[k]? =some (.cells cur ty (0,0))->ty=172∨ty=3∨ty=9->¬S k):Mv base w' vK vs Ks:=
 ⟨t.row h.row (λk hk=>by obtain⟨cur,hc⟩:=Ad h.row hk;grind),h.len,λi hi=>⟨t.row (h.each i hi).1 (λk hk=>by obtain⟨cur,hc⟩:=Ad (h.each i hi).1 hk;grind),t.row (h.each i hi).2 (λk hk=>by obtain⟨cur,hc⟩:=Ad (h.each i hi).2 hk;grind)⟩⟩
def Mv.below{w w' base vK vs Ks}(h:Mv base w vK vs Ks)(hb:Below w.heap.size w w'):Mv base w' vK vs Ks:=
 ⟨(Aa.of_below (S:=λ_=>False) hb).row h.row (λ_ _=>id),h.len,λi hi=>⟨(h.each i hi).1.below hb,(h.each i hi).2.below hb⟩⟩
def Mv.at{w b o p a}(h:Mv b w o p a){i}(n:i<a.length):∃q c ab cb aw cw,o=L_ q a.length c/\q<w.heap.size/\w.cell? (A_ q (i*4))=some (.bool (a.getD i Ay).e.wd)/\w.cell? (A_ q (i*4+1))=some (.slice ab (a.getD i Ay).e.bs.length cb)/\w.cell? (A_ q (i*4+2))=some (.slice aw (a.getD i Ay).e.ww.length cw)/\w.cell? (A_ q (i*4+3))=some (I_ (a.getD i Ay).d)/\Ag w b (.slice ab (a.getD i Ay).e.bs.length cb) (a.getD i Ay).e.bs/\Cc w b (.slice aw (a.getD i Ay).e.ww.length cw) (a.getD i Ay).e.ww:=by
 have r:=h.row
 rcases h.row.2 with⟨_,h0⟩|⟨g,cap,cur,e,hb,hh,hnc,_⟩
 omega;subst e;obtain⟨l,m⟩:=h.each i n;obtain⟨ab,cb,j⟩:=l.shape;obtain⟨aw,cw,k⟩:=m.form;rw[j] at l;rw[k] at m
 have f:∀c u,c<4->(Cf (a.getD i Ay) (p.getD i Oi))[c]? =some u->w.cell? (A_ g (i*4+c))=some u:=λc u hc hu=>by rw[World.ownsRow.cellAt r (i*4+c) o_];exact(ie _ _ h.len i n c hc).trans hu
 refine⟨g,cap,ab,cb,aw,cw,rfl,(Qb hh).1,f 0 _ o_ rfl,?_,?_,f 3 _ o_ rfl,l,m⟩;rw[<- j];exact f 1 _ o_ rfl;rw[<- k];exact f 2 _ o_ rfl
structure Ju(w)(base)(vG)(gbs)(Ks)(Gs):Prop where
 x:Uc w vG gbs Ks Gs
 rk:∀i,i<Gs.length->∀k,vG.ownBlock=some k->¬Ks i k
 rb:∀k,vG.ownBlock=some k->base<=k
 kb:∀i,i<Gs.length->∀k,Ks i k->base<=k
def Uc.touch{S w w' vG gbs Ks Gs}(h:Uc w vG gbs Ks Gs)(t:Aa S w w')(hr:∀k,vG.ownBlock=some k->¬S k)(hs:∀i,i<Gs.length->∀k,Ks i k->¬S k):Uc w' vG gbs Ks Gs:=
 ⟨t.row h.row hr,h.len,λi hi=>(h.each i hi).touch t (hs i hi),h.apart⟩
def Ju.touch{S w w' base vG gbs Ks Gs}(h:Ju w base vG gbs Ks Gs)(t:Aa S w w')(hs:∀k,base<=k->¬S k):Ju w' base vG gbs Ks Gs:=
 ⟨h.x.touch t (λk hk=>hs k (h.rb k hk)) (λi hi k hk=>hs k (h.kb i hi k hk)),h.rk,h.rb,h.kb⟩
def Ju.put{w s c i u g p m K' G'}(h:Ju w c u g p m)(n:i<m.length)(t:Aa (p i) w s)(z:vh s K' (g.getD i 0) G')(f:∀k,K' k->p i k∨w.heap.size<=k)(q:c<=w.heap.size):Ju s c u g (λj=>if j=i then K' else p j) (m.set i G'):=by
 have y:∀j,j<m.length->∀k,p j k->k<w.heap.size:=λj hj k f=>by obtain⟨A,B,v⟩:=h.x.each j hj;exact v.kl k f
 refine⟨⟨?_,?_,λj hj=>?_,λa b ha hb hab k=>?_⟩,λj hj k hrk=>?_,h.rb,λj hj k=>?_⟩;rw[List.length_set];exact t.row h.x.row (λk f=>h.rk i n k f);rw[List.length_set];exact h.x.len
 ·rw[List.length_set] at hj
  by_cases e:j=i
  ·grind
  simp only[if_neg e];have:(m.set i G').getD j Fq=m.getD j Fq:=(by simp[List.getD,Ne.symm e]);rw[this];exact(h.x.each j hj).touch t (λk f=>h.x.apart j i hj n e k f)
 ·rw[List.length_set] at ha hb
  by_cases ea:a=i
  ·have o:b≠i:=λe=>hab (ea.trans e.symm);simp only[if_pos ea,if_neg o];intro l r
   rcases f k l with d|d
   exact h.x.apart i b n hb (λe=>o e.symm) k d r
   grind
  by_cases o:b=i
  ·simp only[if_neg ea,if_pos o];intro l r
   rcases f k r with d|d
   exact h.x.apart a i ha n ea k l d
   grind
  simp only[if_neg ea,if_neg o];exact h.x.apart a b ha hb hab k
 ·rw[List.length_set] at hj
  by_cases e:j=i
  ·simp only[if_pos e];intro l
   rcases f k l with d|d
   exact h.rk i n k hrk d;have:=(rl_ h.x.row k hrk).2;omega
  simp only[if_neg e];exact h.rk j hj k hrk
 rw[List.length_set] at hj
 by_cases e:j=i
 ·simp only[if_pos e];intro l
  rcases f k l with d|d
  exact h.kb i n k d;omega
 simp only[if_neg e];exact h.kb j hj k
def Ju.snoc{w C d p y m f z c n s}(h:Ju w d y f z c)(v:C.ownsRow 0 313 1 m (c.length+1) (f.map jp++[jp p]))(F:w.grownBy C y.ownBlock)(D:m.ownBlock=y.ownBlock∨∃N,m.ownBlock=some N/\w.heap.size<=N)(o:vh w n p s)(g:∀i,i<c.length->∀k,z i k->¬n k)(A:∀k,y.ownBlock=some k->¬n k)(H:∀k,n k->d<=k)(B:d<=w.heap.size):Ju C d m (f++[p]) (λj=>if j=c.length then n else z j) (c++[s]):=by
 have J:∀j,j<c.length->∀k,z j k->k<w.heap.size:=λj hj k g=>by obtain⟨G,I,o⟩:=h.x.each j hj;exact o.kl k g
 have E:∀k,n k->k<w.heap.size:=λk g=>by obtain⟨G,I,o⟩:=o;exact o.kl k g
 have t:=(Aa.refl _ w).grown F (λk g _=>g);have r:=h.x.len;refine⟨⟨?_,?_,λj hj=>?_,λa b ha hb hab k=>?_⟩,λj hj k hrk=>?_,λk hrk=>?_,λj hj k=>?_⟩
 ·grind
 simp[r]
 ·rw[Qe] at hj;simp at hj
  by_cases e:j=c.length
  subst e;simp only[if_true];have l:(c++[s]).getD c.length Fq=s:=(by simp[List.getD]);have q:(f++[p]).getD c.length 0=p:=w_;rw[l,q];exact o.touch t (λk g v=>A k v g);have u:j<c.length:=o_;simp only[if_neg e];have l:(c++[s]).getD j Fq=c.getD j Fq:=w_;have q:(f++[p]).getD j 0=f.getD j 0:=w_;rw[l,q];exact(h.x.each j u).touch t (λk g v=>h.rk j u k v g)
 ·rw[Qe] at ha hb;simp at ha hb
  by_cases ea:a=c.length
  ·grind
  by_cases eb:b=c.length
  ·grind
  simp only[if_neg ea,if_neg eb];exact h.x.apart a b o_ o_ hab k
 ·rw[Qe] at hj;simp at hj
  rcases D with l|⟨N,l,q⟩
  ·rw[l] at hrk
   by_cases e:j=c.length
   ·grind
   simp only[if_neg e];exact h.rk j o_ k hrk
  grind
 ·rcases D with l|⟨N,l,q⟩
  rw[l] at hrk;exact h.rb k hrk
  grind
 rw[Qe] at hj;simp at hj
 by_cases e:j=c.length
 ·grind
 simp only[if_neg e];exact h.kb j o_ k
def Gi(w:World)(ty:Nat)(u v:Value):Prop:=∃a n c,v=.slice a n c/\n<=maxLen/\(n=0∨∃g cur,a=some ⟨g,0,none⟩/\w.heap[g]? =some (.cells cur ty (0,0))/\∀i,i<n->cur[i]? =some u)
section
variable {w w' w0:World} {ty:Nat} {u v:Value}
def Gi.nil w ty u a c:Gi w ty u (.slice a 0 c):=⟨a,0,c,rfl,by simp[maxLen],.inl rfl⟩
theorem Gi.of_row{b g n d m c a}(j:w.ownsRow b ty 1 (L_ g m d) m (List.replicate m u))(f:m<=maxLen)(k:n<=m)(h:a=some ⟨g,0,none⟩):Gi w ty u (.slice a n c):=by
 subst h
 rcases j.2 with⟨e,_⟩|⟨g',cap',cur,e,_,hh,_,_,_,ht⟩
 ·cases e
 injection e with e1 e2 e3;injection e1 with e1;injection e1 with e1;subst e1;refine⟨_,n,c,rfl,o_,.inr ⟨g,cur,rfl,hh,λi hi=>?_⟩⟩;have l:(List.replicate m u)[i]? =some u:=w_
 grind
def Gi.own{a m}(b:w.ownsRow a ty 1 v m (List.replicate m u))(d:m<=maxLen):Gi w ty u v:=by
 have c:=b
 rcases b.2 with⟨rfl,_⟩|⟨g',cap',cur,e,_,hh,_,_,_,ht⟩
 exact .nil _ _ _ _ _
 grind [of_row]
def Gi.touch{S}(h:Gi w ty u v)(t:Aa S w w')(i:∀k cur,v.ownBlock=some k->w.heap[k]? =some (.cells cur ty (0,0))->¬S k):Gi w' ty u v:=by obtain⟨a,n,c,rfl,d,e|⟨g,cur,rfl,b,f⟩⟩:=h;exact⟨a,n,c,rfl,d,.inl e⟩;exact⟨_,n,c,rfl,d,.inr ⟨g,cur,rfl,t.at_ b (i g _ rfl b),f⟩⟩
def Gi.below(h:Gi w ty u v)(hb:Below w.heap.size w w'):Gi w' ty u v:=h.touch (S:=λ_=>False) (.of_below hb) (λ_ _ _ _=>id)
def Gi.alloc(h:Gi w ty u v) o:Gi (w.alloc o) ty u v:=h.below bA_
def Gi.append{x i b m N}(h:Gi w ty u x)(p:w.grownBy w' v.ownBlock)(j:i.ownBlock=v.ownBlock∨i.ownBlock=some N/\Below N w w')(l:w.heap.size=N)(y:w'.ownsRow b ty 1 i m (List.replicate m u))(A:m<=maxLen)(t:∃g cap,i=L_ g m cap)(z:yr x<=m):Gi w' ty u x:=by
 subst l
 rcases j with j|⟨_,q⟩
 ·obtain⟨a,n,c,rfl,f,r|⟨g,k,rfl,d,s⟩⟩:=h;exact⟨a,n,c,rfl,f,.inl r⟩;obtain⟨o,cap,rfl⟩:=t
  by_cases e:g=o
  ·grind [of_row,yr]
  refine⟨_,n,c,rfl,f,.inr ⟨g,k,rfl,?_,s⟩⟩;rw[p.block g (Qb d).1 (by rw[<- j];simpa [Value.ownBlock] using e)];exact d
 exact h.below q
structure Jh(w0 w:World)(ty:Nat)(u v)(n j)(news:List Value)(S):Prop where
 row:w.ownsRow 0 ty 1 v n (List.replicate n u)
 all:∀x∈news,Gi w ty u x/\yr x<=n+j/\∀k,x.ownBlock=some k->v.ownBlock=some k∨w0.heap.size<=k
 lt:∀x∈news,∀k,x.ownBlock=some k->k<w.heap.size
 tch:Aa S w0 w
variable {n j:Nat} {news:List Value} {S:Nat->Prop}
def Jh.start(a:w.ownsRow 0 ty 1 v n (List.replicate n u))(b:n<=maxLen)(t:Aa S w0 w):Jh w0 w ty u v n 0 [v] S:=by
 refine⟨a,λx hx=>?_,λx hx k hk=>?_,t⟩
 ·simp only[List.mem_singleton] at hx;subst hx;refine⟨.own a b,?_,λk hk=>.inl hk⟩
  rcases a.2 with⟨rfl,h0⟩|⟨g,cap,cur,rfl,_⟩
  exact qg_;exact qa_
 simp only[List.mem_singleton] at hx;subst hx;exact(rl_ a k hk).2
def Jh.more{b m}(h:Jh w0 w ty u v n j news S) o (z:j<=m)(l:w'.ownsRow 0 ty 1 b (n+m) (List.replicate n u++List.replicate m u)/\(w.alloc o).grownBy w' v.ownBlock/\(b.ownBlock=v.ownBlock∨b.ownBlock=some (w.heap.size+1)/\Below (w.heap.size+1) (w.alloc o) w')/\w'.ownsRow 0 ty 1 v n (List.replicate n u)/\∃g cap,b=L_ g (n+m) cap)(s:∀k,v.ownBlock=some k->S k)(f:n+m<=maxLen):Jh w0 w' ty u v n m (news++[b]) S:=by
 obtain⟨c,d,i,t,e⟩:=l;rw[List.replicate_append_replicate] at c;have q:=h.tch.size;refine⟨t,λx a=>?_,λx a k hk=>?_,(h.tch.alloc o).grown d (λk hk _=>s k hk)⟩
 ·rcases List.mem_append.1 a with a|a
  obtain⟨r,y,p⟩:=h.all x a;exact⟨(r.alloc o).append d i s_ c f e o_,o_,p⟩;simp only[List.mem_singleton] at a;subst a;refine⟨.own c f,?_,λk hk=>?_⟩;obtain⟨g,cap,rfl⟩:=e;exact qa_
  grind
 rcases List.mem_append.1 a with a|a
 have:=h.lt x a k hk;have:=d.size;simp at this;omega;simp only[List.mem_singleton] at a;subst a;exact(rl_ c k hk).2
end
def Mm(L:List Value)(u:Value)(k:Nat):List Value:=List.replicate k u++L.drop k
def Wv L u:Mm L u 0=L:=by simp[Mm]
def gu L u {k}(h:k<=L.length):(Mm L u k).length=L.length:=by simp[Mm];omega
def Wu L u:Mm L u L.length=List.replicate L.length u:=by simp[Mm]
def gv L u {k}(h:k<L.length):(Mm L u k).set k u=Mm L u (k+1):=by unfold Mm;rw[List.drop_eq_getElem_cons h,List.set_append_right _ _ s_,List.length_replicate,Nat.sub_self,List.set_cons_zero,List.replicate_succ'];simp
structure oq(w w':World)(g i)(c:Array Value)(ty tl tm:Nat)(u mk v vn vm:Value)(vs ms)(nx)(vn' vm')(news):Prop where
 wb:WB w' g (((c.setIfInBounds 12 (I_ nx)).setIfInBounds i vn').setIfInBounds (i+1) vm')
 rn:w'.ownsRow 0 tl 1 vn' (vs.length+4) (vs++news)
 rm:w'.ownsRow 0 tm 1 vm' (ms.length+4) (ms++List.replicate 4 mk)
 len:news.length=4
 all:∀x∈news,Gi w' ty u x/\∀k,x.ownBlock=some k->v.ownBlock=some k∨w.heap.size<=k
 tch:Aa (λk=>k=g∨v.ownBlock=some k∨vn.ownBlock=some k∨vm.ownBlock=some k) w w'
 nn:∀k,vn'.ownBlock=some k->vn.ownBlock=some k∨w.heap.size<=k
 nm:∀k,vm'.ownBlock=some k->vm.ownBlock=some k∨w.heap.size<=k
 am:∀x∈news,∀k,x.ownBlock=some k->vm'.ownBlock≠some k
 an:∀x∈news,∀k,x.ownBlock=some k->vn'.ownBlock≠some k
 lt:∀x∈news,∀k,x.ownBlock=some k->k<w'.heap.size
def WB.row{w}{g j base ty size n:Nat}{c v u xs}(h:WB w g c)(hr:w.ownsRow base ty size v n xs)(hne:ty≠90):(w.setCell (A_ g j) u).ownsRow base ty size v n xs:=As hr h hne
def WB.apart{w}{g base ty size n:Nat}{c v xs}(h:WB w g c)(hr:w.ownsRow base ty size v n xs)(hne:ty≠90):some g≠v.ownBlock:=λe=>by
 obtain⟨cur,hc⟩:=Ad hr e.symm;rw[h] at hc
 grind
def WB.all{w g j ty c u m v}(h:WB w g c)(ha:Gi w ty m v)(hne:ty≠90):Gi (w.setCell (A_ g j) u) ty m v:=
 ha.touch (S:=λk=>k=g) ((Aa.refl (λk=>k=g) w).setCell (p:=(A_ g j)) (λ_=>rfl) u) (λk cur _ hh e=>by
  subst e;rw[h] at hh
  grind)
def Zey:(Tryz.prog.info? 25).map (λi=>(i.zero,i.size,i.bytes))=some (some (.slice none 0 0),1,24):=k_
def ji g c v U A L l ms f w (H:WB w g c)(h6:c[6]? =some U)(h7:c[7]? =some A)(aS:c[12]? =some (I_ f))(hL:Ag w 0 v L)(E:w.ownsRow 0 25 1 U l.length l)(I:w.ownsRow 0 3 1 A ms.length ms)(aJ:A.ownBlock=none∨A.ownBlock≠v.ownBlock)(hl:L.length<=4194304)(bY:l.length<=100000000)(bP:ms.length<=100000000)(b:0<=f/\f<=100000000):C_ 142 #[.pointer (some ⟨g,4,none⟩),v] w λe w'=>e=.returned (.tuple #[])/\∃vn' vm' news,oq w w' g 6 c 3 25 3 (.int .i64 (-(f+1))) (.int .i64 (-(f+1))) v U A l ms (f+1) vn' vm' news:=by
 obtain⟨i0,y,V,T,O⟩:=info_parts Ss;obtain⟨j0,aE,bG,bB,b6⟩:=info_parts Zey;obtain⟨n,hn⟩:=ex_ L.length
 obtain⟨a,i,rfl⟩:∃a i,v=.slice a n i:=by
  obtain⟨a,i,e⟩:=hL.shape
  grind
 rw[<- hn] at hl;have J:Hid (n=(L.map (Value.int .i64)).length):=by show _=_;grind
 have a8:Hid (w.ownsRow 0 3 1 (.slice a n i) n (L.map (Value.int .i64))):=by
  unfold Ag at hL
  grind
 have a0:=x1_ (An a8 E d_);have Y:=x1_ aJ;have aU:=x1_ (An E I d_);have aG:=x1_ E;have aP:=x1_ I;have b7:w.cell? (A_ g 12)=some (I_ f):=(by rw[H.cell];exact aS);have df:=λo=>H.frozen o;have bR:=H.lt;obtain⟨c1,D⟩:=ex_ (c.setIfInBounds 12 (I_ (f+1)));have bI:=x1_ D;have Q:Hid (c1[6]? =some _/\c1[7]? =some _):=⟨by rw[D,Array.getElem?_setIfInBounds_ne d_];exact h6,by rw[D,Array.getElem?_setIfInBounds_ne d_];exact h7⟩;have q:=x3_ (H.apart a8 d_) (H.apart E d_) (H.apart I d_);have M:Hid (WB (w.setCell (A_ g 12) (I_ (f+1))) g c1):=by rw[D];exact H.set _ _
 have aX:Hid ((w.setCell (A_ g 12) (I_ (f+1))).ownsRow 0 3 1 (.slice a n i) n (Mm (L.map (Value.int .i64)) (I_ (-(f+1))) 0)):=(by rw[Wv];exact H.row a8 d_);have bC:Hid (Aa (λk=>k=g∨(Value.slice a n i).ownBlock=some k) w (w.setCell _ (I_ (f+1)))):=(Aa.refl _ w).setCell (p:=(A_ g 12)) (λ_=>.inl rfl) _
 have b9:(w.setCell (A_ g 12) (I_ (f+1))).cell? (A_ g 12)=some (I_ (f+1)):=by
  rw[(H.set 12 (I_ (f+1))).cell]
  grind
 clear H hL E I hn h6 h7 aS D aJ;obtain⟨bS,bO⟩:=b;obtain⟨z,hz⟩:=ex_ (-(f+1));have q1:IntKind.i64.wrap (-(f+1))=z:=(by rw[Cb o_ o_,hz]);have q2:=hz.symm;rw[<- hz] at aX ⊢;have bX: -1000000000000<=z:=o_;clear hz;go_enter Tryz.func142,Tryz.ntmps142;go_upto_region 3 with fail;generalize w.setCell (A_ g 12) (I_ (f+1))=w1 at *;clear b7 df b9;go_loopw [5] (λti wr=>∃k:Nat,k<=n/\ti=.int .i64 k/\Hid (wr.ownsRow 0 3 1 (.slice a n i) n (Mm (L.map (Value.int .i64)) (.int .i64 z) k))/\Hid (Aa (λk=>k=g∨(Value.slice a n i).ownBlock=some k) w wr)/\Hid (WB wr g c1)) (λti _=>n-(intOf ti).toNat)
 case atStart=>grind
 case round=>
  clear aX bC M;obtain⟨k,aY,rfl,HR,HT,HW⟩:=hrel
  by_cases hk:k<n
  ·have bZ:0<=(k:Int):=o_;have bT:k<(n:Int):=o_
   obtain⟨gl,rfl⟩:∃gl,a=some ⟨gl,0,none⟩:=by
    rcases HR.out.2 with⟨_,h0⟩|⟨gl,cap,cur,e,_⟩
    omega
    grind
   have aH:=gu _ (I_ z) (k:=k) (by rw[<- J];exact aY);have cc:∃u,wr.cell? (A_ gl k)=some u:=(by rw[World.ownsRow.cellAt HR k o_];exact⟨_,Qd (by rw[aH,<- J];exact hk)⟩);obtain⟨u0,c0⟩:=cc;have cf:=World.ownsRow.frozenAt HR k;have bQ:Hid ((wr.setCell (A_ gl k) (I_ z)).ownsRow 0 3 1 (L_ gl n i) n (Mm (L.map (Value.int .i64)) (I_ z) (k+1))):=by rw[<- gv _ _ (by rw[<- J];exact hk)];exact(World.ownsRow.stored HR k _).1
   have bU:Hid (Aa _ w (wr.setCell _ (I_ z))):=HT.setCell (p:=(A_ gl k)) (λ_=>.inr rfl) _;have a4:Hid (WB (wr.setCell _ (I_ z)) g _):=HW.other (p:=(A_ gl k)) (λe=>q.1 (by rw[e];rfl)) _;clear HR HT HW aH;go_wp2;go_roundw;case rel=>grind
   case measure=>exact z_
  have bA:k=n:=o_;subst bA;have bN:¬k<(k:Int):=o_
  have a5:Hid (Jh w wr 3 (I_ z) (.slice a k i) k 0 [.slice a k i] (λk'=>k'=g∨(Value.slice a k i).ownBlock=some k')):=by
   have:=HR.out
   rw[show Mm (L.map (Value.int .i64)) (I_ z) k=List.replicate k (I_ z) by
    have:=Wu (L.map (Value.int .i64)) (I_ z);rw[<- J] at this
    exact this] at this
   exact .start this m_ HT
  have G:Hid (wr.ownsRow 0 3 1 _ k _):=a5.row;have aM:=HW;clear HR HT HW;go_wp2_with (at_builtin;refine Ab rfl _ _ 25 rfl 0 3 i0 _ 1 8 Tryz.underlying25 y V T O rfl d_ (.slice a k i) k _ rfl (ra_ G _) _ 1 1 [I_ z] rfl rfl (Am wr _ 3) (by intro u t;simp only[List.mem_cons,List.not_mem_nil,or_false] at t;rcases t with rfl<;>rfl) d_ m_ o_ qg_ ?_)
  intro y1 w1 j;have aA:Hid (Jh w _ 3 _ _ k 1 [_,_] _):=a5.more (m:=1) _ o_ j (λk' hk'=>.inr hk') m_;have M:=x1_ ((aM.alloc _).grown j.2.1 q.1);obtain⟨aI,p1,b8⟩:=j.2.2.2.2;subst b8;have C:Hid (w1.ownsRow 0 3 1 _ k _):=aA.row;clear j a5 aM G;go_wp2_with (at_builtin;refine Ab rfl (.tmp 35) _ 25 rfl 0 3 i0 _ 1 8 Tryz.underlying25 y V T O rfl d_ (.slice a k i) k _ rfl (ra_ C _) _ 2 2 [I_ z,I_ z] rfl rfl (Am w1 _ 3) (by intro u t;simp only[List.mem_cons,List.not_mem_nil,or_false] at t;rcases t with rfl|rfl<;>rfl) d_ m_ o_ qg_ ?_)
  intro y2 w2 j;have a2:Hid (Jh w _ 3 _ _ k 2 [_,_,_] _):=aA.more (m:=2) _ o_ j (λk' hk'=>.inr hk') m_;have a4:=x1_ ((M.alloc _).grown j.2.1 q.1);obtain⟨aW,p2,bH⟩:=j.2.2.2.2;subst bH;have B:Hid (w2.ownsRow 0 3 1 _ k _):=a2.row;clear j aA M C;go_wp2_with (at_builtin;refine Ab rfl _ (.tmp 44) 25 rfl 0 3 i0 _ 1 8 Tryz.underlying25 y V T O rfl d_ (.slice a k i) k _ rfl (ra_ B _) _ 3 3 [I_ z,I_ z,I_ z] rfl rfl (Am w2 _ 3) (by intro u t;simp only[List.mem_cons,List.not_mem_nil,or_false] at t;rcases t with rfl|rfl|rfl<;>rfl) d_ m_ o_ qg_ ?_)
  intro y3 w3 j;have d:Hid (Jh w _ 3 _ _ k 3 [_,_,_,_] _):=a2.more (m:=3) _ o_ j (λk' hk'=>.inr hk') m_;have P:=x1_ ((a4.alloc _).grown j.2.1 q.1);obtain⟨aT,p3,b5⟩:=j.2.2.2.2;subst b5;clear j a2 a4 B
  have a6:=x1_ (d.tch.row aG (λk' hk' e=>by
   rcases e with e|e
   subst e;exact q.2.1 hk'.symm
   rcases a0.out with h|h
   ·grind
   grind))
  have aF:=x1_ (d.tch.row aP (λk' hk' e=>by
   rcases e with e|e
   subst e;exact q.2.2 hk'.symm
   rcases Y.out with h|h
   ·grind
   grind))
  have d6:w3.cell? (A_ g 6)=some U:=(by rw[P.cell];exact Q.1);have df:=λo=>P.frozen o;generalize hnews:[(.slice a k i:Value),L_ aI (k+1) p1,L_ aW (k+2) p2,L_ aT (k+3) p3]=news at d;have aB:=x1_ hnews.symm;clear hnews;go_wp2_with (at_builtin;refine Ab rfl (.tmp 50) (.tmp 55) 84 rfl 0 25 j0 (.slice none 0 0) 1 24 Tryz.underlying84 aE bG bB b6 rfl d_ U l.length l rfl (ra_ a6 _) _ 4 4 [.slice a k i,L_ aI (k+1) p1,L_ aW (k+2) p2,L_ aT (k+3) p3] rfl rfl (Am w3 _ 25) (by intro u t;simp only[List.mem_cons,List.not_mem_nil,or_false] at t;rcases t with rfl|rfl|rfl|rfl<;>rfl) d_ m_ o_ qg_ ?_)
  intro vn' X j;obtain⟨aD,N,a7,_,q4,Z,bD⟩:=j;have T4:=((Aa.refl _ _).alloc _).grown N (λk' e _=>e);have r:=x1_ ((P.alloc _).grown N q.2.1);have aC:=x1_ (World.ownsRow.kept (ra_ aF _) N aU)
  have aV:=x1_ (λx b=>(d.all x b).1.touch T4 (λk' cur _ hh e=>by
   obtain⟨bL,bV⟩:=Ad a6 e
   grind))
  have aR:=x1_ ((d.tch.mono (S':=λk'=>k'=g∨(Value.slice a k _).ownBlock=some _∨U.ownBlock=some _∨A.ownBlock=some k') (λk' _ e=>by rcases e with e|e;exact .inl e;exact .inr (.inl e))).trans (T4.mono (λk' _ e=>.inr (.inr (.inl e)))));have aN:Hid (X.ownsRow 0 25 1 vn' (l.length+4) (l++news)):=by rw[aB];exact aD
  have bK:Hid (∀k',vn'.ownBlock=some k'->U.ownBlock=some k'∨w.heap.size<=k'):=λk' hk'=>by
   rcases a7 with h|⟨h,_⟩
   ·grind
   rw[h] at hk';injection hk' with hk';have:=d.tch.size;omega
  have W:=x1_ (λx b k' hk'=>Qh (d.lt x b k' hk') T4.size);have bM:=T4.size
  have b3:Hid (∀x∈news,∀k',x.ownBlock=some k'->vn'.ownBlock≠some k'):=λx b k' hk' e=>by
   rcases a7 with h|⟨h,_⟩
   ·rw[h] at e
    rcases(d.all x b).2.2 k' hk' with h3|h3
    ·rcases a0.out with h2|h2
     ·grind
     grind
    have:=(rl_ aG k' e).2;omega
   rw[h] at e;injection e with e;have:=d.lt x b k' hk';omega
  have aK:Hid (∀x∈news,∀k',x.ownBlock=some k'->A.ownBlock≠some k'):=λx b k' hk' e=>by
   rcases(d.all x b).2.2 k' hk' with h|h
   ·rcases Y.out with h2|h2
    ·grind
    grind
   have:=(rl_ aP k' e).2;omega
  have bF:=x1_ (λx b k' hk'=>(d.all x b).2.2 k' hk');subst bD;have e6:X.cell? (A_ g 6)=some U:=(by rw[r.cell];exact Q.1);have ef:=λo=>r.frozen o;clear aD N a7 T4 P aF a6 d d6 df;go_upto_region 10 with fail;have S:Hid (WB _ g (c1.setIfInBounds 6 (L_ q4 (l.length+4) Z))):=r.set 6 _;have a3:Hid ((X.setCell ⟨g,6,_⟩ (L_ q4 (l.length+4) Z)).ownsRow 0 3 1 A _ ms):=r.row aC d_;have a9:Hid ((X.setCell ⟨g,6,_⟩ (L_ q4 (l.length+4) Z)).ownsRow 0 25 1 _ _ _):=r.row aN d_;have aO:Hid (∀x∈_,Gi (X.setCell ⟨g,6,_⟩ (L_ q4 (l.length+4) Z)) 3 _ x):=λx b=>r.all (aV x b) d_;have a1:Hid (Aa _ w (X.setCell _ (L_ q4 (l.length+4) Z))):=aR.setCell (p:=(A_ g 6)) (λ_=>.inl rfl) _
  have F:Hid (∀x∈news,∀k',x.ownBlock=some k'->k'<(X.setCell (A_ g 6) (L_ q4 (l.length+4) Z)).heap.size):=λx b k' hk'=>by
   have:=W x b k' hk'
   simpa [World.setCell] using this
  clear r aC aN aV aR W e6 ef;generalize X.setCell (A_ g 6) (L_ q4 (l.length+4) Z)=w5 at *;have d7:w5.cell? (A_ g 7)=some A:=(by rw[S.cell,Array.getElem?_setIfInBounds_ne d_];exact Q.2);have df:=λo=>S.frozen o;have bW:=a1.size;go_wp2_with (at_builtin;refine Ab rfl (.tmp 63) (.tmp 68) 25 rfl 0 3 i0 (I_ 0) 1 8 Tryz.underlying25 y V T O rfl d_ A ms.length ms rfl (ra_ a3 _) (A_ w5.heap.size 0) 4 4 [I_ z,I_ z,I_ z,I_ z] rfl rfl (Am w5 _ 3) (by intro u t;simp only[List.mem_cons,List.not_mem_nil,or_false] at t;rcases t with rfl|rfl|rfl|rfl<;>rfl) d_ m_ o_ qg_ ?_)
  intro vm' w6 j;obtain⟨aQ,R,aL,_,q6,p6,aZ⟩:=j;have T6:=((Aa.refl _ _).alloc _).grown R (λk' e _=>e);have s:=x1_ ((S.alloc _).grown R q.2.2)
  have bE:Hid (oq w (w6.setCell (A_ g 7) vm') g 6 c 3 25 3 (I_ z) (I_ z) (.slice a k i) U A l ms (f+1) (L_ q4 (l.length+4) Z) vm' news):=by
   refine⟨?_,?_,?_,?_,λx b=>⟨?_,bF x b⟩,?_,bK,λk' hk'=>?_,λx b k' hk' e=>?_,b3,λx b k' hk'=>?_⟩;rw[<- bI];exact s.set 7 _;exact s.row (World.ownsRow.kept (ra_ a9 _) R (An a3 a9 d_)) d_;exact s.row aQ d_;rw[aB];rfl;exact s.all ((aO x b).touch T6 (λk' cur h1 _ e=>aK x b _ h1 e)) d_;exact(a1.trans (T6.mono (λk' _ e=>.inr (.inr (.inr e))))).setCell (p:=(A_ g 7)) (λ_=>.inl rfl) _
   ·grind
   ·rcases aL with h|⟨h,_⟩
    exact aK x b _ hk' (h ▸ e);rw[h] at e;injection e with e;have:=F x b k' hk';omega
   have:=F x b k' hk';have:=T6.size;simp[World.setCell];omega
  have e7:w6.cell? (A_ g 7)=some A:=(by rw[s.cell,Array.getElem?_setIfInBounds_ne d_];exact Q.2);have ef:=λo=>s.frozen o;subst aZ;clear aQ R aL T6 S a3 a9 aO a1 F s d7 df;go_wp2;go_end0;exact⟨rfl,_,_,_,bE⟩
def Zlh:(Tryz.prog.info? 9).map (λi=>(i.zero,i.size,i.bytes))=some (some (.string ⟨#[]⟩),1,16):=k_
def Zj2:(Tryz.prog.info? 47).map (λi=>(i.zero,i.size,i.bytes))=some (some (.slice none 0 0),1,24):=k_
def Zkg(z:Int):ByteArray:=({data:=#[109,97,114,107]}:ByteArray)++strOfNums [z%256,z/256%256]
def zh g c v vn E L r ms b w (Q:WB w g c)(h6:c[8]? =some vn)(h7:c[9]? =some E)(b6:c[12]? =some (I_ b))(hL:Cc w 0 v L)(J:w.ownsRow 0 47 1 vn r.length r)(R:w.ownsRow 0 9 1 E ms.length ms)(aS:E.ownBlock=none∨E.ownBlock≠v.ownBlock)(hl:L.length<=4194304)(c8:r.length<=100000000)(c3:ms.length<=100000000)(f:0<=b/\b<=100000000):C_ 143 #[.pointer (some ⟨g,4,none⟩),v] w λe w'=>e=.returned (.tuple #[])/\∃vn' vm' news,oq w w' g 8 c 9 47 9 (.string (Zkg (b+1))) (.string (Zkg (b+1))) v vn E r ms (b+1) vn' vm' news:=by
 obtain⟨i0,C,a3,a2,X⟩:=info_parts Zlh;obtain⟨j0,aN,bR,bL,bG⟩:=info_parts Zj2;obtain⟨n,hn⟩:=ex_ L.length
 obtain⟨a,l,rfl⟩:∃a l,v=.slice a n l:=by
  obtain⟨a,l,e⟩:=hL.form
  grind
 rw[<- hn] at hl;have T:Hid (n=(L.map Value.string).length):=by show _=_;grind
 have aG:Hid (w.ownsRow 0 9 1 (.slice a n l) n (L.map Value.string)):=by
  unfold Cc at hL
  grind
 have a6:=x1_ (An aG J d_);have a5:=x1_ aS;have b8:=x1_ (An J R d_);have aP:=x1_ J;have aY:=x1_ R;have bH:w.cell? (A_ g 12)=some (I_ b):=(by rw[Q.cell];exact b6);have df:=λo=>Q.frozen o;have bO:=Q.lt;obtain⟨c1,I⟩:=ex_ (c.setIfInBounds 12 (I_ (b+1)));have bU:=x1_ I;have Z:Hid (c1[8]? =some _/\c1[9]? =some _):=⟨by rw[I,Array.getElem?_setIfInBounds_ne d_];exact h6,by rw[I,Array.getElem?_setIfInBounds_ne d_];exact h7⟩;have s:=x3_ (Q.apart aG d_) (Q.apart J d_) (Q.apart R d_);have z:Hid (WB (w.setCell (A_ g 12) (I_ (b+1))) g c1):=by rw[I];exact Q.set _ _
 have O:Hid ((w.setCell (A_ g 12) (I_ (b+1))).ownsRow 0 9 1 (.slice a n l) n (Mm (L.map Value.string) (.string (Zkg (b+1))) 0)):=(by rw[Wv];exact Q.row aG d_);have H:Hid (Aa (λk=>k=g∨(Value.slice a n l).ownBlock=some k) w (w.setCell _ (I_ (b+1)))):=(Aa.refl _ w).setCell (p:=(A_ g 12)) (λ_=>.inl rfl) _
 have V:(w.setCell (A_ g 12) (I_ (b+1))).cell? (A_ g 12)=some (I_ (b+1)):=by
  rw[(Q.set 12 (I_ (b+1))).cell]
  grind
 clear Q hL J R hn h6 h7 b6 I aS;obtain⟨c4,bZ⟩:=f;obtain⟨d,aA⟩:=ex_ (Zkg (b+1));rw[<- aA] at O ⊢;have q1:_/2^8=(b+1)/256:=rfl;go_enter Tryz.func143,Tryz.ntmps143;go_upto_region 1 with fail;generalize w.setCell (A_ g 12) (I_ (b+1))=M at *;clear bH df
 have u1:∀x:_,IntKind.u8.wrap x=x%256:=λx=>by simp only[IntKind.wrap,IntKind.bits,IntKind.signed];simp
 have aL:=Qh bO H.size;have bN:(convert 66 9 (L_ M.heap.size 2 2)).run Tryz.prog (M.alloc (.cells #[.int .u8 (IntKind.u8.wrap (b+1)),.int .u8 (IntKind.u8.wrap ((b+1)/256))] 5)).drew=.ok (.string (strOfNums [(b+1)%256,(b+1)/256%256])) (M.alloc (.cells #[.int .u8 (IntKind.u8.wrap (b+1)),.int .u8 (IntKind.u8.wrap ((b+1)/256))] 5)).drew:=(by refine Pz _ 0 _ _ ?_;rw[u1,u1];exact World.ownsRow.drew (World.ownsRow_lit (base:=0) (size:=1) (e:=5) _ _ 2 qg_ m_ rfl));clear u1;have b3:Hid (_=_++_):=aA;clear aA;have bT:¬9223372036854775807<4+(strOfNums [(b+1)%256,(b+1)/256%256]).size:=(by simp[strOfNums,ByteArray.size]);generalize strOfNums [(b+1)%256,(b+1)/256%256]=sm at *;go_cut [4] (λv wx=>v=.string d/\Hid (E_ M wx))
 case first=>
  refine Al (λw'=>w'.cell? _=some _) 14 k_ V (λhHeld=>?_);refine Ah 0 ?_;refine Ah 1 ?_;refine Ah 2 ?_;refine Tx [4,11,12,13,14] 3 (v:=?_) ?_ ?_
  rotate_left;· intro w bD;go_simp;try with_reducible rfl
  try simp only[Act.put,sA,sB,sC]
  refine Ah 4 ?_;refine Ah 5 ?_;refine Ah 6 ?_;refine Ah 7 ?_;refine Tx [9,10,11,12,13,14] 8 (v:=?_) ?_ ?_
  rotate_left;· intro w bD;go_simp;try with_reducible rfl
  try simp only[Act.put,sA,sB,sC]
  refine Ah 9 ?_;refine Ah 10 ?_;refine Af (i:=11) k_ rfl (λKK hK=>?_);go_simp;refine hK _ _ ((Below.cell (B:=M.heap.size) (w:=M) (p:=(A_ g 12)) (by repeat(first|with_reducible exact bz_|with_reducible apply Below.drew|(refine Below.alloc ?_ o_ _))) aL).trans V) (λhHeld=>?_);clear hK KK;try simp only[Act.put,sA,sB,sC]
  refine Af (i:=12) k_ rfl (λKK hK=>?_);go_simp;refine hK _ _ ((Below.cell (B:=M.heap.size) (w:=M) (p:=(A_ g 12)) (by repeat(first|with_reducible exact bz_|with_reducible apply Below.drew|(refine Below.alloc ?_ o_ _))) aL).trans V) (λhHeld=>?_);clear hK KK;try simp only[Act.put,sA,sB,sC]
  refine Ah 13 ?_;refine Ai (i:=14) k_ rfl k_ (λKK hK=>?_);go_simp;refine hK _ _ ?_;clear hK KK;try simp only[Act.put,sA,sB,sC]
  refine Ak k_ ?_ _;go_wp2;go_meet
  exact⟨by rw[b3],(by show Below _ _ _;grind [Below.refl,Below.drew,Below.alloc])⟩
 case rest=>
 obtain⟨rfl,W⟩:=hcut;have aB:=x1_ ((Aa.of_below (S:=λ_=>False) W).row O (λ_ _=>id));have aE:=x1_ (H.below W);have D:Hid (WB _ g _):=(W.block g o_).trans z;clear bT bN V W O H z b3 q1;have O:=aB;have H:=aE;have z:=D;clear aB aE D;generalize wc=w1' at *;go_upto_region 3 with fail;go_loopw [5] (λti wr=>∃k:Nat,k<=n/\ti=.int .i64 k/\Hid (wr.ownsRow 0 9 1 (.slice a n l) n (Mm (L.map Value.string) (.string d) k))/\Hid (Aa (λk=>k=g∨(Value.slice a n l).ownBlock=some k) w wr)/\Hid (WB wr g c1)) (λti _=>n-(intOf ti).toNat)
 case atStart=>grind
 case round=>
  clear O H z;obtain⟨k,bB,rfl,HR,HT,HW⟩:=hrel
  by_cases hk:k<n
  ·have c9:0<=(k:Int):=o_;have c5:k<(n:Int):=o_
   obtain⟨gl,rfl⟩:∃gl,a=some ⟨gl,0,none⟩:=by
    rcases HR.out.2 with⟨_,h0⟩|⟨gl,cap,cur,e,_⟩
    omega
    grind
   have aQ:=gu _ (.string d) (k:=k) (by rw[<- T];exact bB);have cc:∃u,wr.cell? (A_ gl k)=some u:=(by rw[World.ownsRow.cellAt HR k o_];exact⟨_,Qd (by rw[aQ,<- T];exact hk)⟩);obtain⟨u0,c0⟩:=cc;have cf:=World.ownsRow.frozenAt HR k;have aB:Hid ((wr.setCell (A_ gl k) (.string d)).ownsRow 0 9 1 (L_ gl n l) n (Mm (L.map Value.string) (.string d) (k+1))):=by rw[<- gv _ _ (by rw[<- T];exact hk)];exact(World.ownsRow.stored HR k _).1
   have aE:Hid (Aa _ w (wr.setCell _ (.string d))):=HT.setCell (p:=(A_ gl k)) (λ_=>.inr rfl) _;have D:Hid (WB (wr.setCell _ (.string d)) g _):=HW.other (p:=(A_ gl k)) (λe=>s.1 (by rw[e];rfl)) _;clear HR HT HW aQ;go_wp2;go_roundw;case rel=>grind
   case measure=>exact z_
  have bK:k=n:=o_;subst bK;have bY:¬k<(k:Int):=o_
  have aC:Hid (Jh w wr 9 (.string d) (.slice a k l) k 0 [.slice a k l] (λk'=>k'=g∨(Value.slice a k l).ownBlock=some k')):=by
   have:=HR.out
   rw[show Mm (L.map Value.string) (.string d) k=List.replicate k (.string d) by
    have:=Wu (L.map Value.string) (.string d);rw[<- T] at this
    exact this] at this
   exact .start this m_ HT
  have P:Hid (wr.ownsRow 0 9 1 _ k _):=aC.row;have aV:=HW;clear HR HT HW;go_wp2_with (at_builtin;refine Ab rfl (.tmp 40) (.tmp 42) 47 rfl 0 9 i0 _ 1 16 Tryz.underlying47 C a3 a2 X rfl d_ (.slice a k l) k _ rfl (ra_ P _) _ 1 1 [.string d] rfl rfl (Am wr #[.string d] 9) (by intro u A;simp only[List.mem_cons,List.not_mem_nil,or_false] at A;rcases A with rfl<;>rfl) d_ m_ o_ qg_ ?_)
  intro y1 M q;have aI:Hid (Jh w _ 9 _ _ k 1 [_,_] _):=aC.more (m:=1) _ o_ q (λk' hk'=>.inr hk') m_;have z:=x1_ ((aV.alloc _).grown q.2.1 s.1);obtain⟨aR,p1,bI⟩:=q.2.2.2.2;subst bI;have G:Hid (M.ownsRow 0 9 1 _ k _):=aI.row;clear q aC aV P;go_wp2_with (at_builtin;refine Ab rfl (.tmp 44) (.tmp 47) 47 rfl 0 9 i0 (.string ⟨#[]⟩) 1 16 Tryz.underlying47 C a3 a2 X rfl d_ (.slice a k l) k _ rfl (ra_ G _) _ 2 2 [.string d,.string d] rfl rfl (Am M _ 9) (by intro u A;simp only[List.mem_cons,List.not_mem_nil,or_false] at A;rcases A with rfl|rfl<;>rfl) d_ m_ o_ qg_ ?_)
  intro y2 w2 q;have a8:Hid (Jh w _ 9 _ _ k 2 [_,_,_] _):=aI.more (m:=2) _ o_ q (λk' hk'=>.inr hk') m_;have D:=x1_ ((z.alloc _).grown q.2.1 s.1);obtain⟨bA,p2,bS⟩:=q.2.2.2.2;subst bS;have F:Hid (w2.ownsRow 0 9 1 _ k _):=a8.row;clear q aI z G;go_wp2_with (at_builtin;refine Ab rfl (.tmp 49) (.tmp 53) 47 rfl 0 9 i0 (.string ⟨#[]⟩) 1 16 Tryz.underlying47 C a3 a2 X rfl d_ (.slice a k l) k (List.replicate k (.string d)) rfl (ra_ F _) (A_ w2.heap.size 0) 3 3 [.string d,.string d,.string d] rfl rfl (Am w2 _ 9) (by intro u A;simp only[List.mem_cons,List.not_mem_nil,or_false] at A;rcases A with rfl|rfl|rfl<;>rfl) d_ m_ o_ qg_ ?_)
  intro y3 w3 q;have j:Hid (Jh w _ 9 _ _ k 3 [_,_,_,_] _):=a8.more (m:=3) _ o_ q (λk' hk'=>.inr hk') m_;have Y:=x1_ ((D.alloc _).grown q.2.1 s.1);obtain⟨b7,p3,bF⟩:=q.2.2.2.2;subst bF;clear q a8 D F
  have aD:=x1_ (j.tch.row aP (λk' hk' e=>by
   rcases e with e|e
   subst e;exact s.2.1 hk'.symm
   rcases a6.out with h|h
   ·grind
   grind))
  have aO:=x1_ (j.tch.row aY (λk' hk' e=>by
   rcases e with e|e
   subst e;exact s.2.2 hk'.symm
   rcases a5.out with h|h
   ·grind
   grind))
  have d6:w3.cell? (A_ g 8)=some vn:=(by rw[Y.cell];exact Z.1);have df:=λo=>Y.frozen o;generalize hnews:[(.slice a k l:Value),L_ aR (k+1) p1,L_ bA (k+2) p2,L_ b7 (k+3) p3]=news at j;have aJ:=x1_ hnews.symm;clear hnews;go_wp2_with (at_builtin;refine Ab rfl (.tmp 59) (.tmp 64) 85 rfl 0 47 j0 (.slice none 0 0) 1 24 Tryz.underlying85 aN bR bL bG rfl d_ vn r.length r rfl (ra_ aD _) (A_ w3.heap.size 0) 4 4 [.slice a k l,L_ aR (k+1) p1,L_ bA (k+2) p2,L_ b7 (k+3) p3] rfl rfl (Am w3 _ 47) (by intro u A;simp only[List.mem_cons,List.not_mem_nil,or_false] at A;rcases A with rfl|rfl|rfl|rfl<;>rfl) d_ m_ o_ qg_ ?_)
  intro vn' w4 q;obtain⟨aM,U,aF,_,q4,p4,bM⟩:=q;have T4:=((Aa.refl _ _).alloc _).grown U (λk' e _=>e);have t:=x1_ ((Y.alloc _).grown U s.2.1);have aK:=x1_ (World.ownsRow.kept (ra_ aO _) U b8)
  have b9:=x1_ (λx f=>(j.all x f).1.touch T4 (λk' cur _ hh e=>by
   obtain⟨bW,c6⟩:=Ad aD e
   grind))
  have b5:=x1_ ((j.tch.mono (S':=λk'=>k'=g∨(Value.slice a k _).ownBlock=some _∨vn.ownBlock=some _∨E.ownBlock=some k') (λk' _ e=>by rcases e with e|e;exact .inl e;exact .inr (.inl e))).trans (T4.mono (λk' _ e=>.inr (.inr (.inl e)))));have aW:Hid (w4.ownsRow 0 47 1 vn' (r.length+4) (r++news)):=by rw[aJ];exact aM
  have bV:Hid (∀k',vn'.ownBlock=some k'->vn.ownBlock=some k'∨w.heap.size<=k'):=λk' hk'=>by
   rcases aF with h|⟨h,_⟩
   ·grind
   rw[h] at hk';injection hk' with hk';have:=j.tch.size;omega
  have a4:=x1_ (λx f k' hk'=>Qh (j.lt x f k' hk') T4.size);have bX:=T4.size
  have bE:Hid (∀x∈news,∀k',x.ownBlock=some k'->vn'.ownBlock≠some k'):=λx f k' hk' e=>by
   rcases aF with h|⟨h,_⟩
   ·rw[h] at e
    rcases(j.all x f).2.2 k' hk' with h3|h3
    ·rcases a6.out with h2|h2
     ·grind
     grind
    have:=(rl_ aP k' e).2;omega
   rw[h] at e;injection e with e;have:=j.lt x f k' hk';omega
  have aT:Hid (∀x∈news,∀k',x.ownBlock=some k'->E.ownBlock≠some k'):=λx f k' hk' e=>by
   rcases(j.all x f).2.2 k' hk' with h|h
   ·rcases a5.out with h2|h2
    ·grind
    grind
   have:=(rl_ aY k' e).2;omega
  have bQ:=x1_ (λx f k' hk'=>(j.all x f).2.2 k' hk');subst bM;have e6:w4.cell? (A_ g 8)=some vn:=(by rw[t.cell];exact Z.1);have ef:=λo=>t.frozen o;clear aM U aF T4 Y aO aD j d6 df;go_upto_region 10 with fail;have a1:Hid (WB _ g (c1.setIfInBounds 8 (L_ q4 (r.length+4) p4))):=t.set 8 _;have a9:Hid ((w4.setCell ⟨g,8,_⟩ (L_ q4 (r.length+4) p4)).ownsRow 0 9 1 E _ ms):=t.row aK d_;have aH:Hid ((w4.setCell ⟨g,8,_⟩ (L_ q4 (r.length+4) p4)).ownsRow 0 47 1 _ _ _):=t.row aW d_;have aX:Hid (∀x∈_,Gi (w4.setCell ⟨g,8,_⟩ (L_ q4 (r.length+4) p4)) 9 _ x):=λx f=>t.all (b9 x f) d_;have a7:Hid (Aa _ w (w4.setCell _ (L_ q4 (r.length+4) p4))):=b5.setCell (p:=(A_ g 8)) (λ_=>.inl rfl) _
  have N:Hid (∀x∈news,∀k',x.ownBlock=some k'->k'<(w4.setCell (A_ g 8) (L_ q4 (r.length+4) p4)).heap.size):=λx f k' hk'=>by
   have:=a4 x f k' hk'
   simpa [World.setCell] using this
  clear t aK aW b9 b5 a4 e6 ef;generalize w4.setCell (A_ g 8) (L_ q4 (r.length+4) p4)=w5 at *;have d7:w5.cell? (A_ g 9)=some E:=(by rw[a1.cell,Array.getElem?_setIfInBounds_ne d_];exact Z.2);have df:=λo=>a1.frozen o;have c7:=a7.size;go_wp2_with (at_builtin;refine Ab rfl (.tmp 72) (.tmp 77) 47 rfl 0 9 i0 (.string ⟨#[]⟩) 1 16 Tryz.underlying47 C a3 a2 X rfl d_ E ms.length ms rfl (ra_ a9 _) (A_ w5.heap.size 0) 4 4 [.string d,.string d,.string d,.string d] rfl rfl (Am w5 #[.string d,.string d,.string d,.string d] 9) (by intro u A;simp only[List.mem_cons,List.not_mem_nil,or_false] at A;rcases A with rfl|rfl|rfl|rfl<;>rfl) d_ m_ o_ qg_ ?_)
  intro vm' w6 q;obtain⟨aZ,a0,aU,_,q6,p6,bC⟩:=q;have T6:=((Aa.refl _ _).alloc _).grown a0 (λk' e _=>e);have y:=x1_ ((a1.alloc _).grown a0 s.2.2)
  have bP:Hid (oq w (w6.setCell (A_ g 9) vm') g 8 c 9 47 9 (.string d) (.string d) (.slice a k l) vn E r ms (b+1) (L_ q4 (r.length+4) p4) vm' news):=by
   refine⟨?_,?_,?_,?_,λx f=>⟨?_,bQ x f⟩,?_,bV,λk' hk'=>?_,λx f k' hk' e=>?_,bE,λx f k' hk'=>?_⟩;rw[<- bU];exact y.set 9 _;exact y.row (World.ownsRow.kept (ra_ aH _) a0 (An a9 aH d_)) d_;exact y.row aZ d_;rw[aJ];rfl;exact y.all ((aX x f).touch T6 (λk' cur h1 _ e=>aT x f _ h1 e)) d_;exact(a7.trans (T6.mono (λk' _ e=>.inr (.inr (.inr e))))).setCell (p:=(A_ g 9)) (λ_=>.inl rfl) _
   ·grind
   ·rcases aU with h|⟨h,_⟩
    exact aT x f _ hk' (h ▸ e);rw[h] at e;injection e with e;have:=N x f k' hk';omega
   have:=N x f k' hk';have:=T6.size;simp[World.setCell];omega
  have e7:w6.cell? (A_ g 9)=some E:=(by rw[y.cell,Array.getElem?_setIfInBounds_ne d_];exact Z.2);have ef:=λo=>y.frozen o;subst bC;clear aZ a0 aU T6 a1 a9 aH aX a7 N y d7 df;go_wp2;go_end0;exact⟨rfl,_,_,_,bP⟩
def Im(n:Nat):GS:=⟨[],List.replicate n false,0,0⟩
def Bc(Ks:List KS)(Os:List (List Bool))(n budget:Nat)(Gs:List GS)(f:Nat):List GS:=
 if Gs.findIdx (Fd (Os.getD f []) (Ks.getD f Ay).many budget)<Gs.length then Gs.set (Gs.findIdx (Fd (Os.getD f []) (Ks.getD f Ay).many budget)) (Te (Gs.getD (Gs.findIdx (Fd (Os.getD f []) (Ks.getD f Ay).many budget)) Fq) f (Os.getD f []) (Ks.getD f Ay).many)
 else Gs++[Te (Im n) f (Os.getD f []) (Ks.getD f Ay).many]
def Ha(m:Nat)(Ks:List KS)(Os:List (List Bool))(n budget:Nat):List GS:=(Da m Os).foldl (Bc Ks Os n budget) []
structure np(n k)(Gs:List GS):Prop where
 len:Gs.length<=k
 each:∀G∈Gs,G.out.length=n/\G.conf<=400/\G.bins<=400/\G.fs.length<=k
def ZaJ{a b}(h:a.length=b.length):Et a b<=b.length:=by have:=Rj (Hc a b);rw[Rg h] at this;exact this
def np.step{n k budget Ks Os a f}(h:np n k a)(p:(Os.getD f []).length=n)(u:n<=200)(q:budget<=20)(t:(Ks.getD f Ay).many<=100):np n (k+1) (Bc Ks Os n budget a f):=by
 unfold Bc;split
 ·rename_i hi;have c:=List.findIdx_getElem (w:=hi);generalize a.findIdx (Fd (Os.getD f []) (Ks.getD f Ay).many budget)=i at *;have g:a.getD i Fq=a[i]:=w_;rw[g];obtain⟨o,r,v,s⟩:=h.each a[i] (Qf hi);simp only[Fd,Bool.and_eq_true,decide_eq_true_eq] at c;refine⟨by rw[List.length_set];have:=h.len;omega,λG b=>?_⟩
  rcases List.mem_or_eq_of_mem_set b with b|rfl
  obtain⟨l,e,j,m⟩:=h.each G b;omega;refine⟨?_,?_,?_,?_⟩;show(orL _ _).length=n;rw[Kc o_];exact o;show a[i].conf+Et a[i].out (Os.getD f [])<=400;omega;show a[i].bins+_<=400;omega;show(a[i].fs++[f]).length<=k+1;simp;omega
 refine⟨by rw[Qe];have:=h.len;simp;omega,λG b=>?_⟩
 rcases List.mem_append.1 b with b|b
 obtain⟨l,e,j,m⟩:=h.each G b;omega;simp only[List.mem_cons,List.not_mem_nil,or_false] at b;subst b;have d:(Im n).out.length=(Os.getD f []).length:=(by rw[p];exact List.length_replicate);refine⟨?_,?_,?_,?_⟩;show(orL _ _).length=n;rw[Kc d];simp[Im];show 0+Et (Im n).out (Os.getD f [])<=400;have:=ZaJ d;omega;show 0+_<=400;omega;show([]++[f]).length<=k+1;simp
def np.ok{n k Gs}(h:np n k Gs)(hk:k<=100):∀G∈Gs,GOk n G:=λG hG=>by obtain⟨a1,a2,a3,a4⟩:=h.each G hG;exact⟨a1,o_,o_,o_⟩
def Mv.at2{w q n c f a}(h:ZgK w (L_ q n c) f a){i}(b:i<a.length):∃ab cb aw cw,q<w.heap.size/\w.cell? (A_ q (i*4))=some (.bool (a.getD i Ay).e.wd)/\w.cell? (A_ q (i*4+1))=some (.slice ab (a.getD i Ay).e.bs.length cb)/\w.cell? (A_ q (i*4+2))=some (.slice aw (a.getD i Ay).e.ww.length cw)/\w.cell? (A_ q (i*4+3))=some (I_ (a.getD i Ay).d)/\Ag w 0 (.slice ab (a.getD i Ay).e.bs.length cb) (a.getD i Ay).e.bs/\Cc w 0 (.slice aw (a.getD i Ay).e.ww.length cw) (a.getD i Ay).e.ww:=by
 obtain⟨g,j,ab,cb,aw,cw,e,r⟩:=h.at b
 grind
def Ho.at2{w q n c b a}(h:Ho w (L_ q n c) b a){i}(d:i<a.length):q<w.heap.size/\w.cell? (A_ q i)=some (b.getD i (.slice none 0 0)):=by
 obtain⟨f,g,e,r⟩:=h.at d
 grind
def ZjW:(Tryz.prog.info? 313).map (λi=>(i.zero,i.size,i.bytes))=some (some (.pointer none),1,8):=k_
def KS.many_eq(k:KS):(Ky k.e.wd k.e.bs.length k.e.ww.length:Nat)+2=(k.many:Int):=by unfold KS.many ES.cnt;omega
def Zmh(w:World)(N:Nat)(v:Value)(Gs:List GS):Prop:=∃base gbs Kk,N<=base/\Ju w base v gbs Kk Gs
def Zcy{p:Prop}(h:p:=by
 rcases HOF3.out.1.2 with⟨e,_⟩|⟨g,cap,cur,e,_⟩
 rw[e] at hq;cases hq;injection e with e _ _;rw[e] at hq ⊢;simp[Value.ownBlock] at hq
 rw[hq]):p:=h
def Zq(m n b qk kc qo oc:Nat) vs os o r w (hm:m+1<=4)(b5:o.length=m+1)(aJ:r.length=m+1)(hK:ZgK w (L_ qk (m+1) kc) vs o)(hO:Ho w (L_ qo (m+1) oc) os r)(hl:∀O∈r,O.length=n)(hn:n<=200)(hb:b<=20)(aR:∀K∈o,K.many<=100):C_ 206 #[.slice (some ⟨qk,0,none⟩) (m+1) kc,.slice (some ⟨qo,0,none⟩) (m+1) oc,.int .i64 b] w λe w'=>∃v,e=.returned v/\Zmh w' w.heap.size v (Ha m o r n b)/\Below w.heap.size w w':=by
 have b6:=x1_ (Un m _ _ n _ _ w hm aJ hO hl hn);have M:=x6_ hK hO b5 aJ hl aR;have L:=x2_ (Jl m r) (di m r);obtain⟨j0,aN,bK,bC,bA⟩:=info_parts ZjW;clear b5 aJ hK hO hl aR;go_enter Tryz.func206,Tryz.ntmps206;go_wp2_with fail
 refine b6.mono ?_;rintro e X ⟨bO,rfl,E,aI⟩;obtain⟨oa,bP,aY⟩:=E.shape;rw[Aw,L.1] at aY;subst aY;obtain⟨qr,bE,aS,bN,_,_⟩:=E.atK (k:=0) (by rw[Aw];exact L.1) o_;subst bE;have aB:=aI.size;have aQ:=x1_ E;have aK:=x1_ aI;have aT:Hid (Ha m o r n b=(Da m _).foldl _ _):=rfl;clear E aI b6;generalize Da m r=ord at *;go_wp2_with fail
 go_loopw [15,7] (λti tG wr=>∃(k:Nat) (c:List Nat) (Kk:Nat->Nat->Prop),ti=.int .i64 k/\k<=m+1/\Hid (Ju wr X.heap.size tG c Kk ((ord.take k).foldl (Bc o r n b) [])/\np n k ((ord.take k).foldl (Bc o r n b) []))/\Hid (Below X.heap.size X wr)) (λti _ _=>m+1-(intOf ti).toNat)
 case atStart=>
  refine⟨0,[],λ_ _=>False,rfl,qg_,⟨⟨⟨rn_,rfl,(λi hi=>by simp at hi),(λi j hi=>by simp at hi)⟩,(λi hi=>by simp at hi),(λk hk=>by simp[Value.ownBlock] at hk),(λi hi=>by simp at hi)⟩,⟨s_,s_⟩⟩,bz_⟩
 case round=>
  obtain⟨k,c,Kk,rfl,hk,HG,HB⟩:=hrel;have bD:=HB.size
  by_cases hkm:k<m+1
  ·have aZ:k<ord.length:=(by rw[L.out.1];exact hkm);have C:ord.getD k 0<m+1:=by have:ord.getD k 0=ord[k]:=(by simp[List.getD,aZ]);rw[this];exact L.2 _ (Qf _)
   have a0:(ord.take (k+1)).foldl (Bc o r n b) []=Bc o r n b ((ord.take k).foldl (Bc o r n b) []) (ord.getD k 0):=by
    rw[Qi aZ,List.foldl_append]
    grind
   have a1:=x1_ a0;have bL:wr.cell? (A_ qr k)=some (I_ (ord.getD k 0:Nat)):=by have:=(aQ.cellK (by rw[Aw];exact L.1.symm) hkm).1;rw[Cv] at this;exact(HB.cell (p:=(A_ qr k)) aS).trans this
   clear a0;generalize ord.getD k 0=f,(ord.take k).foldl (Bc o r n b) []=Gs at *;have aE:=aK.trans (HB.mono aB);have b7:=M.1.below aE;have aF:=M.2.1.below aE;obtain⟨ab,cb,aw,cw,bM,k0,k1,k2,k3,_,_⟩:=b7.at2 (i:=f) (by rw[M.2.2.1];exact C);obtain⟨aP,o0⟩:=aF.at2 (i:=f) (by rw[M.2.2.2.1];exact C);have U:=aF.each f (by rw[M.2.2.2.1];exact C);have F:(r.getD f []).length=n:=M.2.2.2.2.1 _ (by simp[List.getD,show f<r.length by rw[M.2.2.2.1];exact C]);have aD:(o.getD f Ay).many<=_:=M.2.2.2.2.2 _ (by simp[List.getD,show f<o.length by rw[M.2.2.1];exact C]);obtain⟨fa,fc,y⟩:=U.shape;rw[y] at o0 U;rw[F] at o0 U;have aX:=KS.many_eq (o.getD f Ay)
   have bH:Hid (∀W:World,C_ 146 #[.agg #[.bool (o.getD f Ay).e.wd,.slice ab (o.getD f Ay).e.bs.length cb,.slice aw (o.getD f Ay).e.ww.length cw]] W λe w'=>e=.returned (.int .i64 (o.getD f Ay).many)/\E_ W w'):=λW=>by rw[<- aX];exact Ji _ _ _ _ _ _ _ W o_
   have a8:=x2_ U F;have Y:Hid (Bc o r n b Gs f=if _<_ then _ else _):=rfl;have a5:=x1_ (HG.2.step F hn hb aD)
   have T:∀q,fa=some ⟨q,0,none⟩->q<w.heap.size:=λq hq=>by have h0:=M.2.1.each f (by rw[M.2.2.2.1];exact C);rw[y,hq] at h0;exact(rl_ h0 q rfl).2
   clear b7 aF y aX k3 U F aE;generalize o.getD f Ay=Kf,r.getD f []=Of at *;generalize Kf.e.wd=kwd,Kf.e.bs.length=knb,Kf.e.ww.length=knw,Kf.many=km,Bc o r n b Gs f=Gs' at *;obtain⟨ga,gc,bF⟩:=HG.1.x.form;subst bF;have bX:0<=(k:Int):=o_;have bV:k<(m:Int)+1:=o_;have bS:0<=(f:Int):=o_;have bT:f<(m:Int)+1:=o_;go_wp2_with fail
   refine(bH _).mono ?_;rintro e w2 ⟨rfl,I⟩;have bW:=I.size;have o2:=(I.cell (p:=(A_ qo f)) aP).trans o0;have aG:Hid (Ju w2 X.heap.size (.slice ga Gs.length gc) c Kk Gs):=(by refine HG.1.touch (S:=λ_=>False) (Aa.of_below I) (λ_ _=>id));have A:=x2_ (a8.1.below I) a8.2;have aU:=x1_ (HB.trans (I.mono bD));have V:=x1_ HG.2;have aL:=x1_ (Ur ga fa gc n fc km b _ Kk Gs Of w2 aG.x (V.ok o_) A.1 A.2 hn o_ (by have:=V.len;omega));clear HG a8 HB I k0 k1 k2 o0 bL;generalize hgl:Gs.length=gl at *;have t:=x1_ hgl;clear hgl;go_wp2_with fail
   refine aL.mono ?_;rintro e l ⟨rfl,G⟩;have bR:=G.size;have o3:=(G.cell (p:=(A_ qo f)) (by show qo<_;omega)).trans o2;have d:=x1_ (aG.touch (S:=λ_=>False) (Aa.of_below G) (λ_ _=>id));have HOF3:=x2_ (A.1.below G) A.2;have a2:=x1_ (aU.trans (G.mono o_));clear aG A aU aL G o2;generalize Gs.findIdx (Fd Of km b)=ix at *
   by_cases hix:ix<gl
   ·have y:Zc2 c gl ix=.pointer (some ⟨c.getD ix 0,0,none⟩):=(by unfold Zc2;rw[if_pos hix];rfl);rw[y];obtain⟨vf,vo,B⟩:=d.x.each ix (by rw[t];exact hix);have N:=V.out.ok o_ (Gs.getD ix Fq) (by simp[List.getD,show ix<Gs.length by rw[t.out];exact hix])
    have J:=x1_ (Zd9 _ _ f km vf vo fa n fc Of _ l B HOF3.out.1 N.out HOF3.out.2 hn N.conf N.bins o_ N.fs (λq hq h1=>by
      have h2:=d.kb _ (by rw[t];exact hix) q h1;have s:fa=some ⟨q,0,none⟩:=(by exact Zcy);have:=T q s
      omega))
    have R:Hid (Gs'=Gs.set ix (Te (Gs.getD ix Fq) f Of km)):=(by have:=Y.out;rw[if_pos hix] at this;exact this);clear B N y;obtain⟨gb,aH⟩:=ex_ (c.getD ix 0);have b8:=x1_ aH;rw[<- aH] at J ⊢;clear aH;go_wp2_with fail
    refine J.mono ?_;rintro e w4 ⟨rfl,⟨K',P,Z⟩,t4⟩;have HF:Hid (Ju w4 X.heap.size (.slice ga gl gc) c (λj=>if j=ix then K' else Kk j) ((ord.take (k+1)).foldl (Bc o r n b) [])):=(by rw[a1,R];exact d.put (by rw[t];exact hix) t4 (by rw[<- b8];exact P) Z o_);have aA:Hid (E_ X w4):=(by have s:=a2.out;exact⟨t4.os.trans s.os,t4.tape.trans s.tape,t4.output.trans s.output,Nat.le_trans s.size t4.size,λq hq=>(t4.block q o_ (λh=>by have:=d.kb ix (by rw[t];exact hix) q h;omega)).trans (s.block q hq)⟩);have a9:Hid (np n (k+1) ((ord.take (k+1)).foldl (Bc o r n b) [])):=(by rw[a1];exact a5);clear P Z t4 J d a2 HOF3 o3;refine rd_ ?_;exact⟨k+1,c,_,g_,o_,⟨HF,a9⟩,aA⟩
   have y:Zc2 c gl ix=.pointer none:=(by unfold Zc2;rw[if_neg hix]);rw[y];have R:Hid (Gs'=Gs++[Te (Im n) f Of km]):=(by have:=Y.out;rw[if_neg hix] at this;exact this);have bB:=Tu n o_;clear y;have D:Hid (l.ownsRow 0 313 1 (.slice ga gl gc) gl (c.map jp)):=(by have:=d.x.row;rw[t] at this;exact this);go_wp2_with (at_builtin;refine Ab rfl (.tmp 43) (.tmp 45) 311 rfl 0 313 j0 (.pointer none) 1 8 Tryz.underlying311 aN bK bC bA rfl d_ _ gl (c.map jp) rfl (((D.alloc _).alloc _).alloc _) _ 1 1 [P_ (l.heap.size+1)] rfl rfl ?_ ?_ ?_ ?_ ?_ ?_ ?_)
   ·intro j u hj
    cases j with
    |zero=>simp at hj;subst hj;simp[go_sem,Addr.add]
    |succ j=>simp at hj
   intro u hu;simp at hu;subst hu;rfl;decide;unfold maxLen;have:=V.len;have:=t.out;omega;have:=V.len;have:=t.out;omega;omega;intro v4 w4 H4;obtain⟨r4,g4,d4,_,_⟩:=H4;obtain⟨wx,H⟩:=ex_ (((l.alloc (.cells (madeCells #[.bool false] n) 4)).alloc (.cells #[.slice none 0 0,L_ l.heap.size n n,I_ 0,I_ 0] 351)).alloc (.cells #[P_ (l.heap.size+1)] 313));rw[<- H] at g4 d4;have aO:wx.heap.size=l.heap.size+1+1+1:=(by rw[H];simp);have a4:E_ l wx:=(by rw[H];exact(bA_.alloc s_ _).alloc t_ _);have aW:=d.touch (S:=λ_=>False) (Aa.of_below a4) (λ_ _=>id);have Q:=Ts n l 0 o_ qg_
   have a6:vh wx (λq=>q=l.heap.size∨q=l.heap.size+1) (l.heap.size+1) (Im n):=by refine⟨.slice _ 0 0,L_ l.heap.size n n,⟨?_,Ag.nil _ _,?_,.inr rfl,λq hq=>by simp[Value.ownBlock] at hq,λq hq=>by simp[Value.ownBlock] at hq;exact .inl hq.symm,λq hq=>o_⟩⟩;rw[H];have:=ha_ (l.alloc (.cells (madeCells #[.bool false] n) 4)) (.cells #[.slice none 0 0,L_ l.heap.size n n,I_ 0,I_ 0] 351);rw[show(l.alloc (.cells (madeCells #[.bool false] n) 4)).heap.size=l.heap.size+1 by simp] at this;exact(hc_ s_).trans this;rw[H];exact(Q.alloc _).alloc _
   have a3:Ju w4 X.heap.size v4 (c++[l.heap.size+1]) (λj=>if j=Gs.length then(λq=>q=l.heap.size∨q=l.heap.size+1) else Kk j) (Gs++[Im n]):=by
    refine aW.snoc (by rw[t];exact r4) g4 ?_ a6 (λi hi q hq h1=>?_) (λq hq h1=>?_) (λq hq=>o_) o_
    ·rcases d4 with e|e
     exact .inl e;exact .inr ⟨_,e.1,o_⟩
    obtain⟨vf,vo,hG⟩:=d.x.each i hi;have:=hG.kl q hq;omega;have:=(rl_ D q hq).2;omega
   have bI:=a4;have z:=(Aa.of_below a4).trans ((Aa.refl _ _).grown g4 (λq hq _=>hq));have bU:l.heap.size+1+1+1<=w4.heap.size:=by rw[<- aO];exact g4.size
   have o4:w4.cell? (A_ qo f)=some (.slice fa n fc):=by
    have:w4.heap[qo]? =l.heap[qo]?:=z.block qo o_ (λhq=>by
     obtain⟨cur,hc⟩:=Ad D hq;have h1:=d.rb _ hq;have:=M.2.1.at2 (i:=f) (by rw[M.2.2.2.1];exact C)
     omega)
    rw[cb_ (a:=(A_ qo f)) this];exact o3
   have a7:Ev w4 0 (.slice fa n fc) Of:=z.row HOF3.1 (λq hq h1=>by
    have h2:=d.rb q h1;have s:fa=some ⟨q,0,none⟩:=(by exact Zcy);have:=T q s
    omega)
   obtain⟨vf,vo,B⟩:=a3.x.each Gs.length s_;have e1:(Gs++[Im n]).getD Gs.length Fq=Im n:=(by simp[List.getD]);have e2:(c++[l.heap.size+1]).getD Gs.length 0=l.heap.size+1:=(by have:=d.x.len;simp[List.getD,<- this]);rw[e1,e2] at B;simp only[if_true] at B
   have J:=x1_ (Zd9 _ _ f km vf vo fa n fc Of _ w4 B a7 (by simp[Im]) HOF3.2 hn (by simp[Im]) (by simp[Im]) o_ (by simp[Im]) (λq hq h1=>by
     have s:fa=some ⟨q,0,none⟩:=(by exact Zcy);have:=T q s
     omega))
   have aM:=x1_ a3;have b3:Hid (E_ X w4):=(by have s:=a2.out;exact⟨z.os.trans s.os,z.tape.trans s.tape,z.output.trans s.output,Nat.le_trans s.size z.size,λq hq=>(z.block q o_ (λh=>by have:=d.rb q h;omega)).trans (s.block q hq)⟩);obtain⟨b9,bG,aC⟩:=a3.x.form;rw[Qe] at aC;simp only[List.length_cons,List.length_nil,Nat.zero_add,t.out] at aC;subst aC;have aV:=x1_ e2;clear r4 g4 d4 H aO a4 aW Q a6 a3 bI z a7 B e1 e2 bB o3 d a2 D HOF3;go_wp2_with fail
   refine J.mono ?_;rintro e w5 ⟨rfl,⟨K',P,Z⟩,t5⟩;have HF:Hid (Ju w5 X.heap.size (.slice b9 (gl+1) bG) (c++[l.heap.size+1]) (λj=>if j=Gs.length then K' else(if j=Gs.length then(λq=>q=l.heap.size∨q=l.heap.size+1) else Kk j)) ((ord.take (k+1)).foldl (Bc o r n b) [])):=by rw[a1,R];have:=aM.put (i:=Gs.length) (K':=K') (G':=Te (Im n) f Of km) s_ (by simpa using t5) (by rw[aV];exact P) (by simpa using Z) o_;have e:(Gs++[Im n]).set Gs.length (Te (Im n) f Of km)=Gs++[Te (Im n) f Of km]:=(by rw[List.set_append_right _ _ qa_,Nat.sub_self,List.set_cons_zero]);rw[e] at this;exact this
   have aA:Hid (E_ X w5):=(by have s:=b3.out;exact⟨t5.os.trans s.os,t5.tape.trans s.tape,t5.output.trans s.output,Nat.le_trans s.size t5.size,λq hq=>(t5.block q o_ (λh=>o_)).trans (s.block q hq)⟩);have a9:Hid (np n (k+1) ((ord.take (k+1)).foldl (Bc o r n b) [])):=(by rw[a1];exact a5);clear P Z t5 J aM b3 o4 aV;refine rd_ ?_;exact⟨k+1,_,_,g_,o_,⟨HF,a9⟩,aA⟩
  have bQ:¬k<(m:Int)+1:=o_;have HF:Hid (Ju wr X.heap.size u7 c Kk (Ha m o r n b)/\E_ w wr):=(by have h1:=HG.1;rw[List.take_of_length_le (by have:=L.1;omega)] at h1;rw[aT];exact⟨h1,aK.trans (HB.mono aB)⟩);clear HG HB;go_wp2;go_ret;exact⟨_,rfl,⟨_,_,_,aB,HF.1⟩,HF.2⟩
def Zgr{L:List Ct}{m k}(h:k<m):(L.take m).getD k e0=L.getD k e0:=w_
theorem Xt{a b c k}(h:0<b):(k<=Ce a b c)↔k*b<=a*c:=by unfold Ce;exact Int.le_ediv_iff_mul_le h
def Zc0{L:List Ct}{m A bins tot k}(b:m<=L.length)(d:A<=m)(a:0<tot)(c:∀i,i<A->bins*(L.getD i e0).hi<k*tot)(f:A<m->k*tot<=bins*(L.getD A e0).hi):(L.take m).findIdx (λe=>decide (k<=Ce bins tot e.hi))=A:=by
 have g:(L.take m).length=m:=w_
 by_cases h:A<m
 ·rw[List.findIdx_eq o_]
  grind [Xt]
 grind [Xt]
def Bq.rise{L}(g:Bq L):L.Pairwise (λe f=>e.v<f.v):=g.step.imp (λh=>h.1)
def Zcr tot bins j:∀M s,1<=s->(bJ tot bins j s M).length<=(j+1-s).toNat
 |[],s,h=>by simp[bJ]
 | e ::r,s,h=>by
  rw[Ug];split
  ·rename_i hc;have:=Zcr tot bins j r (min (Ce bins tot e.hi) j+1) o_
   grind
  exact Zcr _ _ j r s h
def ZbD b f L l a w (h:Ip w b f L)(N:L.length≠0)(J:L.length<=4194304)(A:(L.length:Int)<=a):C_ 288 #[.slice (some ⟨b,f,none⟩) L.length l,.int .i64 a] w λe w'=>∃v,e=.returned v/\Ag w' w.heap.size v (Bx L a)/\Below w.heap.size w w':=by
 have t:=h.lt o_;have H:=x1_ h;obtain⟨m,n⟩:∃m,L.length=m+1:=⟨L.length-1,o_⟩
 have C:Hid (Bx L _=(L.take m).map _):=show _=_ by unfold Bx;rw[if_neg N,if_pos A,n];rfl
 have G:=x1_ n;rw[n] at J A ⊢;have I:m+1<=a:=o_;go_enter Tryz.func288,Tryz.ntmps288;go_wp2_with fail
 go_loopw [5,6] (λo ti wr=>∃(k:Nat),ti=.int .i64 k/\k<=m/\Hid (Ag wr w.heap.size o ((L.take k).map (λe=>e.v)))/\E_ w wr) (λ_ ti _=>m-(intOf ti).toNat)
 case atStart=>exact⟨0,rfl,qg_,Ag.nil _ _,bz_⟩
 case round=>
  obtain⟨k,rfl,y,g,c⟩:=hrel
  by_cases hkm:k<m
  ·have i:k<L.length:=(by rw[G];omega);have Q:=(c.cell (p:=(A_ b _)) t).trans (H.v k i)
   have B:Hid ((L.take (k+1)).map (λe=>e.v)=(L.take k).map (λe=>e.v)++[(L.getD k e0).v]):=by
    show _=_
    grind [Qi]
   have d:((L.take k).map (λe=>e.v)).length<=1000000000:=w_;generalize (L.take k).map (λe=>e.v)=out,(L.getD k e0).v=x at *;have M:0<=(k:Int):=o_;have D:k<(m:Int)+1:=o_;have s:k+1<(m:Int)+1:=o_;have r:=c.size;go_wp2_with (at_builtin;refine Bu rfl (.tmp 22) _ rfl _ _ _ x rfl (g.alloc _) _ 1 rfl ?_ d ?_ ?_)
   ·simp[go_sem]
   simp;omega;intro P F z;have j:E_ w F:=(by obtain⟨R,E,O⟩:=z.out;exact c.trans ((bz_.alloc r _).grown E t_ (λk y=>(g.lt k y).1)));have u:=x1_ z.1;refine rd_ ?_;exact⟨k+1,g_,o_,by rw[B];exact u,j⟩
  have q:k=m:=o_;have u:Hid (Ag wr w.heap.size u5 (Bx L a)):=(by rw[C,<- q];exact g);have s:¬k+1<(m:Int)+1:=o_;go_wp2;go_ret;exact⟨_,rfl,u,c⟩
def Zg9{p:Prop}(h:p:=by
 have hlo:out.length<=1000000000:=(by have:=HOL.out;omega);go_wp2_with (at_builtin;refine Bu rfl (.tmp 76) _ rfl _ _ out v rfl (HO.alloc _) _ 1 rfl ?_ hlo ?_ ?_)
 omega;intro v3 w3 H3;have hb4:E_ w w3:=(by obtain⟨z1,z2,z3⟩:=H3.out;exact hbel.trans ((bz_.alloc hsz _).grown z2 t_ (λk hk=>(HO.lt k hk).1)));have hw3:=H3.1;obtain⟨a3,c3,hv3⟩:=hw3.shape;subst hv3;have HF:=x1_ hw3;clear H3 hw3;refine rd_ ?_
 exact⟨j+1,a3,c3,g_,o_,by show _=Value.slice a3 (bJ tot bins ((j:Int)+1) 1 (L.take m)).length c3;rw[HNX],by show Ag _ _ (.slice a3 (bJ tot bins ((j:Int)+1) 1 (L.take m)).length c3) (bJ tot bins ((j:Int)+1) 1 (L.take m));rw[HNX];exact HF,hb4⟩):p:=h
def Zha{p:Prop}(h:p:=by
 refine rd_ ?_
 exact⟨j+1,_,oc,g_,o_,by show _=Value.slice _ (bJ tot bins ((j:Int)+1) 1 (L.take m)).length oc;rw[HNX,HOL],by show Ag _ _ (.slice _ (bJ tot bins ((j:Int)+1) 1 (L.take m)).length oc) (bJ tot bins ((j:Int)+1) 1 (L.take m));rw[HNX,HOL];exact HO,hbel⟩):p:=h
def zk b n L z bins w (h:Ip w b n L)(g:Bq L)(hl:L.length<=4194304)(a8:2<=bins)(Y:bins<=16)(f:bins<(L.length:Int)):C_ 288 #[.slice (some ⟨b,n,none⟩) L.length z,.int .i64 bins] w λe w'=>∃v,e=.returned v/\Ag w' w.heap.size v (Bx L bins)/\Below w.heap.size w w':=by
 have h0:L.length≠0:=o_;have J:=h.lt o_;have HE:=x1_ h;obtain⟨m,B⟩:∃m,L.length=m+1:=⟨L.length-1,o_⟩;have HT:Hid (C_ 176 #[.slice (some ⟨b,n,none⟩) (m+1) z] w λe w'=>e=.returned (.int .i64 (Ae L))/\w'=w):=(by rw[<- B];exact Zae _ L _ w ⟨hl,.inr ⟨b,n,rfl,h⟩⟩);have O:Ae L=(L.getD m e0).hi:=(by unfold Ae;grind);have t1:1<=Ae L:=(by have:=g.at (show m<L.length by omega);rw[O];omega);have t2:=(Df g).2;have I:Hid (∀k,k<_->0<=(L.getD k e0).hi/\_):=λk hk=>⟨by have:=g.at hk;omega,Ll g hk⟩
 have F:Hid (∀e∈L.take m,Ce bins (Ae L) e.hi<=bins-1):=λe he=>by
  obtain⟨i,R,rfl⟩:=List.getElem_of_mem he;rw[List.length_take] at R;have e1:(L.take m)[i]' o_=L.getD i e0:=w_
  have hs:=(g.lt (i:=i) (j:=m) o_ o_).2.2;have hw:=g.at (show m<L.length by omega);rw[e1];have V:(L.getD i e0).hi<Ae L:=by rw[O];omega
  have:¬bins<=Ce bins (Ae L) (L.getD i e0).hi:=λhc=>by rw[Xt o_] at hc;have:=Int.mul_lt_mul_of_pos_left V (show 0<bins by omega);omega
  omega
 have HB:Hid (Bx L bins=bJ (Ae L) bins (bins-1) 1 (L.take m)):=show _=_ by unfold Bx;rw[if_neg h0,if_neg o_,B,ZgW _ _ F];rfl
 have S:=x1_ B;have X:Hid ((L.take m).Pairwise _):=g.rise.sublist (List.take_sublist _ _)
 have H:Hid (∀j:_,j<=bins->j*Ae L<=_):=λj Z=>by rw[O];exact Int.mul_le_mul_of_nonneg_right Z o_
 rw[B] at hl f ⊢;have N:¬m+1<=bins:=o_;clear h g h0 B f O F;generalize Ae L=tot at *;go_enter Tryz.func288,Tryz.ntmps288;go_wp2_with fail
 refine HT.mono ?_;rintro e w1 ⟨rfl,C⟩;obtain rfl:=C.symm;clear C HT;go_wp2_with fail
 go_loopw [5,8] (λo tk wr=>∃(j:Nat) (Q:Option Addr) (oc:Nat),tk=.int .i64 ((j:Int)+1)/\(j:Int)+1<=bins/\o=.slice Q (bJ tot bins j 1 (L.take m)).length oc/\Hid (Ag wr w.heap.size (.slice Q (bJ tot bins j 1 (L.take m)).length oc) (bJ tot bins j 1 (L.take m)))/\E_ w wr) (λ_ tk _=>(bins-intOf tk).toNat)
 case atStart=>exact⟨0,none,0,rfl,o_,by rw[show bJ tot bins ((0:Nat):Int) 1 (L.take m)=[] from bp _ _ _ _ _ d_];rfl,by rw[show bJ tot bins ((0:Nat):Int) 1 (L.take m)=[] from bp _ _ _ _ _ d_];exact Ag.nil _ _,bz_⟩
 case round=>
  obtain⟨j,Q,oc,rfl,Z,rfl,HO,hbel⟩:=hrel
  by_cases hjb:(j:Int)+1<bins
  ·have hsz:=hbel.size;have D:=wg tot bins j _ 1 o_ X;have r:=Zcr tot bins j (L.take m) 1 o_;have a1:(bJ tot bins j 1 (L.take m)).length<=16:=o_;have t:=x1_ D;clear D r;generalize bJ tot bins j 1 (L.take m)=out at *;go_wp2_with fail
   rename_i wold;go_loopw [9] (λta wz=>∃A:Nat,ta=.int .i64 A/\A<=m/\Hid (∀i,i<A->bins*(L.getD i e0).hi<((j:Int)+1)*tot)/\wz=wr) (λta _=>m-(intOf ta).toNat)
   case atStart=>exact⟨0,rfl,qg_,λi R=>o_,rfl⟩
   case round=>
    obtain⟨A,rfl,hA,P,W⟩:=hrel;subst W;have u:A<L.length:=(by rw[S];omega);have a0:=(hbel.cell (p:=(A_ b _)) J).trans (HE.v A u);have a2:=(hbel.cell (p:=(A_ b _)) J).trans (HE.hi A u);have M:=I A u;have p1:0<=bins*_:=Int.mul_nonneg o_ M.1;have p2:bins*_<=_*1000000000000:=Int.mul_le_mul Y o_ M.1 o_;have p3:0<=(j+1)*tot:=Int.mul_nonneg o_ o_;have p4:((j:Int)+1)*_<=16*_:=Int.mul_le_mul o_ t2 o_ o_;have a5:0<=(A:Int):=o_;have a6:A<(m:Int)+1:=o_;have q1:_=bins*(L.getD A e0).hi:=Cb o_ o_;have q2:_=((j:_)+1)*tot:=Cb o_ o_
    by_cases hc:bins*(L.getD A e0).hi<((j:Int)+1)*tot
    ·have d:A<m:=by
      by_cases h:A=m
      rw[h] at hc;have:=H ((j:Int)+1) o_;omega;omega
     have T:Hid (∀i,i<A+1->bins*(L.getD i e0).hi<(j+1)*tot):=λi R=>by
      by_cases h:i=A
      rw[h];exact hc;exact P i o_
     generalize (L.getD A e0).hi=x,(L.getD A e0).v=v at *;refine rd_ ?_;exact⟨A+1,g_,o_,T,trivial⟩
    have HF:=Zc0 (L:=L) (m:=m) (A:=A) (bins:=bins) (tot:=tot) (k:=(j:Int)+1) (by rw[S];omega) hA o_ P (λ_=>o_);have c:=t.out;rw[HF,List.length_take,show min m L.length=m by rw[S];omega] at c
    by_cases d:A<m
    ·rw[Zgr d] at c;generalize (L.getD A e0).hi=x,(L.getD A e0).v=v at *;have g1:A<(m:Int)+1-1:=o_;have a:=x1_ c;clear c t HF P p1 p2 p3 p4;generalize r:out.length=ol at *;have HOL:=x1_ r;clear r
     cases ol with
     | zero=>
      have s:=List.eq_nil_of_length_eq_zero HOL;have HNX:Hid (bJ tot bins (j+1) 1 (L.take m)=out++[v]):=(by show _=_;rw[a,if_pos ⟨d,by rw[s];simp⟩]);have aE:(((0:Nat):Int)==0)=true:=rfl;clear s a;exact Zg9
     | succ l=>
      obtain⟨q,rfl,_,_,d0,_⟩:=HO.atK HOL (k:=l) o_;have E:out.getLast? =some (out.getD l 0):=by rw[List.getLast?_eq_getElem?,HOL,Nat.add_sub_cancel,Qc,Qd (by rw[HOL];omega)];rfl
      rw[E] at a;clear E;generalize out.getD l 0=y at *;have aA:(((l:Int)+1)==0)=_:=beq_eq_false_iff_ne.2 o_;have aB:(((l+1:_):Int)==0)=_:=beq_eq_false_iff_ne.2 o_;have a7:0<=((l+1:Nat):Int)-1:=o_;have a9:(l+1:Nat)-1<((l+1:Nat):Int):=o_;have a4:(((l+1:Nat):Int)-1).toNat=l:=o_;have aC:0<=(l:Int)+1-1:=o_;have aD:l+1-1<(l:Int)+1:=o_
      by_cases hy:y=v
      have HNX:Hid (bJ tot bins (j+1) 1 (L.take m)=out):=(by show _=_;rw[a,if_neg (λh=>h.2 (by rw[hy]))]);have U:(y !=v)=false:=(by rw[hy];simp);clear hy a;exact Zha;have HNX:Hid (bJ tot bins (j+1) 1 (L.take m)=out++[v]):=(by show _=_;rw[a,if_pos ⟨d,λh=>hy (by injection h)⟩]);have U:=bne_iff_ne.2 hy;clear hy a;exact Zg9
    have HNX:Hid (bJ tot bins (j+1) 1 (L.take m)=out):=(by show _=_;rw[c,if_neg (λh=>d h.1)]);have HOL:Hid (out.length=_):=rfl;have g1:¬A<(m:Int)+1-1:=o_;clear c t HF P p1 p2 p3 p4;generalize (L.getD A e0).hi=x,(L.getD A e0).v=v at *;exact Zha
  have G:j=bins-1:=o_;have HF:Hid (Ag wr w.heap.size (.slice Q (bJ tot bins j 1 (L.take m)).length oc) (Bx L bins)):=(by rw[HB,<- G];exact HO);clear HO G;generalize bJ tot bins j 1 (L.take m)=out at *;go_wp2;go_ret;exact⟨_,rfl,HF,hbel⟩
def ZbC a L d c w (h:Di w a L)(g:Bq L)(j:2<=c)(i:c<=16):C_ 288 #[.slice a L.length d,.int .i64 c] w λe w'=>∃v,e=.returned v/\Ag w' w.heap.size v (Bx L c)/\Below w.heap.size w w':=by
 by_cases h0:L.length=0
 ·have n:Bx L c=[]:=(by unfold Bx;rw[if_pos h0]);rw[n,h0];go_enter Tryz.func288,Tryz.ntmps288;go_wp2_with fail
  go_loopw [5,6] (λto_ ti wr=>to_=.slice none 0 0/\ti=.int .i64 0/\wr=w) (λ_ _ _=>0)
  case atStart=>grind
  case round=>
   obtain⟨rfl,rfl,f⟩:=hrel;subst f;go_wp2;go_ret;exact⟨_,rfl,Ag.nil _ _,bz_⟩
 obtain⟨l,m|⟨b,o,rfl,k⟩⟩:=h;exact absurd m h0
 by_cases hf:(L.length:Int)<=c
 exact ZbD b _ L _ _ w k h0 l hf;exact zk b _ L _ _ w k g l j i o_
def Tz(B:List Nat):Nat->Nat×Int
 |0=>(0,-1)
 |k+1=>if(Tz B k).2<(B.count k:Int) then(k,(B.count k:Int)) else Tz B k
def ZcO{B:List Nat}{r}(h:r<B.length) k:(B.take (r+1)).count k=(B.take r).count k+(if B.getD r 0=k then 1 else 0):=by
 rw[Qi h,List.count_append,Qc,Qd h]
 grind
def ZeQ B:∀k,(Tz B k).1<=k/\ -1<=(Tz B k).2/\(Tz B k).2<=B.length
 |0=>by simp[Tz]
 | k+1=>by
  have:=ZeQ B k
  grind [Tz]
def ZbJ o (n c h:Nat) B w (v:Ag w 0 (.slice o n c) (Av B))(D:B.length=n)(O:n<=200)(I:h<=1000):C_ 240 #[.slice o n c,.int .i64 h] w λe w'=>e=.returned (.int .i64 (Tz B h).1)/\w'=w:=by
 have t:=x1_ v;have d:=x1_ D;go_enter Tryz.func240,Tryz.ntmps240;go_wp2_with fail
 go_loopw [5,6,7] (λt5 t6 t7 wr=>∃k:Nat,t7=.int .i64 k/\k<=h/\t5=.int .i64 ((Tz B k).1:Nat)/\t6=.int .i64 (Tz B k).2/\wr=w) (λ_ _ t7 _=>h-(intOf t7).toNat)
 case atStart=>exact⟨0,rfl,qg_,rfl,rfl,rfl⟩
 case round=>
  obtain⟨k,rfl,L,rfl,rfl,j⟩:=hrel;subst j
  by_cases hkh:k<h
  ·have E:k<(h:Int):=o_;have J:Hid (Tz B (k+1)=if _<_ then _ else _):=rfl;have z:=ZeQ B k;rw[d] at z;generalize Tz B k=N at *;obtain⟨C,p⟩:=N;simp only at *;go_wp2_with fail
   rename_i wout;go_loopw [8,9] (λt8 t9 wz=>∃r:Nat,t9=.int .i64 r/\r<=n/\t8=.int .i64 ((B.take r).count k:Nat)/\(B.take r).count k<=r/\wz=wr) (λ_ t9 _=>n-(intOf t9).toNat)
   case atStart=>grind
   case round=>
    obtain⟨r,rfl,y,rfl,l,f⟩:=hrel;subst f
    by_cases hin:r<n
    ·obtain⟨q,rfl,_,_,u,_⟩:=t.atK (by rw[Aw];exact d) hin;rw[Cv] at u;have G:=ZcO (B:=B) (r:=r) (by rw[d];exact hin) k;have i:=x1_ G;generalize B.getD r 0=x,(B.take r).count k=cr at *;have M:0<=(r:Int):=o_;have H:r<(n:Int):=o_
     by_cases hx:x=k
     ·subst hx;have a:Hid ((B.take (r+1)).count x=cr+1):=w_;refine rd_ ?_;exact⟨r+1,g_,o_,by rw[a];go_num,by rw[a];omega,trivial⟩
     have a:Hid ((B.take (r+1)).count k=cr):=(by show _=_;rw[i,if_neg hx];rfl);have F:((x:_)==(k:Int))=_:=beq_eq_false_iff_ne.2 o_;refine rd_ ?_;exact⟨r+1,g_,o_,by rw[a],by rw[a];omega,trivial⟩
    have m:r=B.length:=(by have:=d.out;omega);have b:Hid ((B.take r).count k=B.count k):=w_;have s:¬r<(n:Int):=o_;rw[b] at l;rw[b];have A:B.count k<=n:=o_;generalize B.count k=ck at *
    by_cases hm:p<(ck:Int)
    ·have a:Hid (Tz B (k+1)=(k,(ck:Int))):=w_;refine rd_ ?_;exact⟨k+1,g_,o_,by rw[a],by rw[a],trivial⟩
    have a:Hid (Tz B (k+1)=(C,p)):=w_;refine rd_ ?_;exact⟨k+1,g_,o_,by rw[a],by rw[a],trivial⟩
  have E:¬k<(h:Int):=o_;have g:k=h:=o_;subst g;go_wp2;go_ret;exact⟨rfl,rfl⟩
theorem Lu B {h k}(a:k<h):(Ci B h).getD k 0=(B.count k:Int):=by
 unfold Ci
 grind
def Zbp B h:∀k,k+1<=h->(Tz B (k+1)).2=Lib.maxOf ((Ci B h).take (k+1))/\(Tz B (k+1)).1<k+1/\(B.count (Tz B (k+1)).1:Int)=(Tz B (k+1)).2/\∀j,j<(Tz B (k+1)).1->(B.count j:Int)<(Tz B (k+1)).2
 | 0,hk=>by
  have e:Tz B 1=(0,(B.count 0:Int)):=by grind [Tz]
  grind [Lib.maxOf_one,Lu]
 | k +1,hk=>by
  obtain⟨b,c,f,d⟩:=Zbp B h k o_;rw[Lib.maxOf_step _ (k+1) o_ (by rw[Cr];omega),Lu B o_,<- b];have e:Tz B (k+1+1)=if _<_ then _ else _:=rfl;rw[e]
  by_cases hc:(Tz B (k+1)).2<(B.count (k+1):Int)
  ·rw[if_pos hc];refine⟨by simp only;omega,by simp only;omega,rfl,λj hj=>?_⟩;simp only at hj ⊢;have a:=nrS_le B (k+1)
   grind
  grind
 where
 nrS_le (B:List Nat):∀k j,j<k->(B.count j:Int)<=(Tz B k).2
  |0,j,hj=>o_
  | k+1,j,hj=>by
   have e:Tz B (k+1)=if _<_ then _ else _:=rfl;rw[e]
   by_cases hjk:j=k
   ·grind
   have:=nrS_le B k j o_
   grind
def Zkl B {h}(f:0<h):Vk B h=(Tz B h).1:=by
 obtain⟨k,rfl⟩:∃k,h=k+1:=⟨h-1,o_⟩;obtain⟨b,a,c,d⟩:=Zbp B (k+1) k qa_;have e:_=Ci B (k+1):=List.take_of_length_le (by rw[Cr];exact qa_);unfold Vk;rw[e] at b;rw[<- b];have:=Lib.idxOf_hit (Ci B (k+1)) (k+1) (Tz B (k+1)).1 (Tz B (k+1)).2 a (by rw[Cr];omega) (by rw[Lu B a];exact c) (λj hj=>by rw[Lu B o_];grind)
 grind
end Go.Proofs.YtfcgnpchbcmdeaaGreat
