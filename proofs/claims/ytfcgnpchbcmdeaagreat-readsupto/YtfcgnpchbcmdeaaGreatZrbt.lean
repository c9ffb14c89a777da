import Derived.Test.YtfcgnpchbcmdeaaGreatZrbs
import Derived.Test.YtfcgnpchbcmdeaaGreatZras
namespace Go.Proofs.YtfcgnpchbcmdeaaGreat
set_option linter.all false
set_option maxRecDepth 100000
set_option maxHeartbeats 8000000
open Go.RowKit
structure Ua(w w2:World)(pk bb bins size budget x y)(fa va wa a1)(fl fc vl vc wl wc c1)(st)(wd)(sc ct):Prop where
 b93:w2.heap[w.heap.size]? =some (.cells #[I_ 5,I_ pk,I_ bb,.slice fa fl fc,I_ bins,I_ size,I_ budget,.slice va vl vc,.slice wa wl wc,.string st,I_ x,I_ y] 93 (0,0))
 b37:w2.heap[w.heap.size+1]? =some (.cells #[.slice a1 fl c1,I_ bins,I_ size,I_ budget] 37 (0,0))
 len:Kt w2 (w.heap.size+2) (.slice a1 fl c1) fa fl wd sc ct
 low:E_ w w2
section
variable {w w2 w3:World} {pk bb bins size budget x y:Int} {fa va wa a1:Option Addr} {fl fc vl vc wl wc c1:Nat} {st:ByteArray} {wd:Nat->Bool} {sc ct:Nat->Int}
def Ua.below(h:Ua w w2 pk bb bins size budget x y fa va wa a1 fl fc vl vc wl wc c1 st wd sc ct)(hb:Below w2.heap.size w2 w3):Ua w w3 pk bb bins size budget x y fa va wa a1 fl fc vl vc wl wc c1 st wd sc ct:=
 ⟨(hb.block _ (Qb h.b93).1).trans h.b93,(hb.block _ (Qb h.b37).1).trans h.b37,h.len.below hb,h.low.trans (hb.mono h.low.size)⟩
def Ua.c93(h:Ua w w2 pk bb bins size budget x y fa va wa a1 fl fc vl vc wl wc c1 st wd sc ct):w2.cell? (A_ w.heap.size 0)=some (I_ 5)/\w2.cell? (A_ w.heap.size 3)=some (.slice fa fl fc)/\w2.cell? (A_ w.heap.size 4)=some (I_ bins)/\w2.cell? (A_ w.heap.size 5)=some (I_ size)/\w2.cell? (A_ w.heap.size 6)=some (I_ budget):=
 ⟨cq_ 0 _ 93 (0,0) h.b93,cq_ 3 _ 93 (0,0) h.b93,cq_ 4 _ 93 (0,0) h.b93,cq_ 5 _ 93 (0,0) h.b93,cq_ 6 _ 93 (0,0) h.b93⟩
def Ua.c37(h:Ua w w2 pk bb bins size budget x y fa va wa a1 fl fc vl vc wl wc c1 st wd sc ct):w2.cell? (A_ (w.heap.size+1) 0)=some (.slice a1 fl c1)/\w2.cell? (A_ (w.heap.size+1) 1)=some (I_ bins)/\w2.cell? (A_ (w.heap.size+1) 2)=some (I_ size)/\w2.cell? (A_ (w.heap.size+1) 3)=some (I_ budget):=
 ⟨cq_ 0 _ 37 (0,0) h.b37,cq_ 1 _ 37 (0,0) h.b37,cq_ 2 _ 37 (0,0) h.b37,cq_ 3 _ 37 (0,0) h.b37⟩
end
def zo g A H c b a x y l C F f n I D E wc L W R V w (T:Ej w l f W R V)(G:f<=2097152)(Y:Hz f c b a W R V=false):C_ 71 #[.pointer (some ⟨g,0,none⟩),.agg #[.int .i64 5,.int .i64 A,.int .i64 H,.slice l f n,.int .i64 c,.int .i64 b,.int .i64 a,.slice C I D,.slice F E wc,.string L,.int .i64 x,.int .i64 y]] w λe w'=>e=.returned (.bool true)/\Below w.heap.size w w':=by
 have Q:=x1_ T;have Z:=x1_ Y
 have N:Hid (∀p,l=some p->0<f->p.block<w.heap.size):=λp e h0=>by subst e;exact(T.at G).1.lt h0
 clear T Y;go_enter Tryz.func71,Tryz.ntmps71;go_wp2_with fail
 generalize hw0:(w.alloc (.cells #[I_ 5,I_ A,I_ H,.slice l f n,I_ c,I_ b,I_ a,.slice C I D,.slice F E wc,.string L,I_ x,I_ y] 93)).alloc (.cells #[.slice l f n,I_ c,I_ b,I_ a] 37)=w0;have z:w0.heap.size=w.heap.size+2:=(by rw[<- hw0];simp);have m:E_ w w0:=(by rw[<- hw0];exact bA_.alloc s_ _);have t:w0.heap[w.heap.size]? =some (.cells #[I_ 5,I_ A,I_ H,.slice l f n,I_ c,I_ b,I_ a,.slice C I D,.slice F E wc,.string L,I_ x,I_ y] 93 (0,0)):=(by grind [Below.heap_alloc,heap_alloc_new]);have u:w0.heap[w.heap.size+1]? =some (.cells #[.slice l f n,I_ c,I_ b,I_ a] 37 (0,0)):=(by rw[<- hw0];exact Em _ _ _ s_);clear hw0;refine(su _ _ _ _ _ _ _ (Q.below m) G).mono ?_;rintro e U ⟨o1,rfl,X,h⟩
 obtain⟨J,B,rfl⟩:=X.shape;have j:=(h.block _ o_).trans u;have q:=(h.block _ o_).trans t;have c0:=cR_ 0 j;have f0:=λo=>fq_ o _ _ j;have M:Hid (Ua w (U.setCell (A_ (w.heap.size+1) 0) (.slice J f B)) A H c b a x y l C F J f n I D E wc B L W R V):=by have r:Aa _ _ (U.setCell _ (.slice J f B)):=Aa.setCell (S:=λk=>k=w.heap.size+1) (Aa.refl _ _) (p:=(A_ (w.heap.size+1) 0)) (λ_=>rfl) _;refine⟨r.at_ q o_,?_,(z ▸ X).touch r (λk hk e=>o_),?_⟩;exact ht_ 0 _ _ _ j;exact(m.trans (h.mono o_)).setCell w_ _
 clear X h j q t u m;go_upto_region 4 with fail;generalize U.setCell (A_ (w.heap.size+1) 0) (.slice J f B)=w2 at *;clear c0 f0 z;obtain⟨P,d1,d2,d3⟩:=M.c37;go_wp2_with fail
 refine(Zgb _ _ _ _ _ _ _ _ _ _ m_ (M.len.view G) Z).mono ?_;rintro e w3 ⟨rfl,v⟩;have i:=x1_ (M.below v);clear v M P d1 d2 d3;go_upto_region 5 with fail;obtain⟨_,O,e4,e5,e6⟩:=i.c93;go_wp2_with fail
 refine(Zdx _ _ _ _ _ _ _ _ _ _ m_ (Q.below i.low) Z).mono ?_;rintro e w4 ⟨rfl,s⟩;have d:=x1_ (i.below s);clear s i O e4 e5 e6;go_upto_region 6 with fail;obtain⟨_,O,_,_,_⟩:=d.c93;obtain⟨P,_,_,_⟩:=d.c37;go_wp2_with fail
 refine(kw _ _ _ _ _ _ _ _ _ d.len (Q.below d.low) (λp e h0=>by have:=N p e h0;omega) G).mono ?_;rintro e w5 ⟨rfl,r⟩;have HB:=x1_ (d.low.trans (r.to_below d.low.size (λk hk=>by have:=(d.len.own hk).1;omega)));clear r d O P;go_wp2_with (go_at_call 68;refine(Kb _ _).mono ?_;rintro e w' ⟨rfl,rfl⟩)
 go_ret;exact⟨s_,HB⟩
def Cx(Z:Nat->Prop)(w:World)(g N L R:Nat):Prop:=∃o c v1 v2 rs ds,Es Z w o g c N L v1 v2 rs ds/\rs.length<=R/\ds.length<=R
def Below.ownsRow{w w'}{ty n:Nat}{v xs}(h:w.ownsRow 0 ty 1 v n xs)(hb:Below w.heap.size w w'):w'.ownsRow 0 ty 1 v n xs:=(Aa.of_below (S:=λ_=>False) hb).row h (λ_ _=>id)
def qj Z (g m d a N L R:Nat) pk bb f x y fa va wa H vl vc wl wc st wd sc ct w (hP:Cx Z w g N L R)(hR:R<=10000000)(D:Ej w fa (m+1) wd sc ct)(hc:Hz (m+1) f d a wd sc ct=true):C_ 71 #[.pointer (some ⟨g,0,none⟩),.agg #[.int .i64 5,.int .i64 pk,.int .i64 bb,.slice fa (m+1:Nat) H,.int .i64 f,.int .i64 d,.int .i64 a,.slice va vl vc,.slice wa wl wc,.string st,.int .i64 x,.int .i64 y]] w λe w'=>e=.returned (.bool true)/\Cx Z w' g N L (R+1)/\Fa Z w w':=by
 have aH:=(La hc).2.1;have hl:m+1<=2097152:=o_;obtain⟨o,c,v1,v2,F,ds,hV,X,a5⟩:=hP;have s:=x3_ hV X a5;obtain⟨j0,a0,a9,a8,aD⟩:=info_parts ZjP;have aG:(F.map ptR).length<=10000000:=w_;have HF:=x1_ D;have HC:=x1_ hc
 have P:Hid (∀p,fa=some p->0<m+1->p.block<w.heap.size):=λp e h0=>by subst e;exact(D.at hl).1.lt h0
 obtain⟨r,v,rfl,_⟩:∃r v,fa=some ⟨r,v,none⟩/\True:=by
  rcases D with e|⟨b,Y,e,_⟩
  omega
  grind
 clear D hc hV X a5;go_enter Tryz.func71,Tryz.ntmps71;go_wp2_with fail
 generalize hw0:(w.alloc (.cells #[I_ 5,I_ pk,I_ bb,.slice (some ⟨r,v,none⟩) (m+1:Nat) H,I_ f,I_ (d:Nat),I_ (a:Nat),.slice va vl vc,.slice wa wl wc,.string st,I_ x,I_ y] 93)).alloc (.cells #[.slice (some ⟨r,v,none⟩) (m+1:Nat) H,I_ f,I_ (d:Nat),I_ (a:Nat)] 37)=w0;have a3:w0.heap.size=w.heap.size+2:=(by rw[<- hw0];simp);have A:E_ w w0:=(by rw[<- hw0];exact bA_.alloc s_ _);have T:w0.heap[w.heap.size]? =some (.cells #[I_ 5,I_ pk,I_ bb,.slice (some ⟨r,v,none⟩) (m+1:Nat) H,I_ f,I_ d,I_ a,.slice va vl vc,.slice wa wl wc,.string st,I_ x,I_ y] 93 (0,0)):=by grind [Below.heap_alloc,heap_alloc_new]
 have V:w0.heap[w.heap.size+1]? =some (.cells #[.slice (some ⟨r,v,none⟩) (m+1:Nat) H,I_ f,I_ d,I_ a] 37 (0,0)):=(by rw[<- hw0];exact Em _ _ _ s_);clear hw0;refine(su _ _ _ _ _ _ _ (HF.below A) hl).mono ?_;rintro e w1 ⟨o1,rfl,J,i⟩;obtain⟨a1,c1,rfl⟩:=J.shape;have n:=(i.block _ o_).trans V;have Q:=(i.block _ o_).trans T;have c0:=cR_ 0 n;have f0:=λo=>fq_ o _ _ n
 have I:Hid (Ua w (w1.setCell (A_ (w.heap.size+1) 0) (.slice a1 (m+1:Nat) c1)) pk bb f d a x y (some ⟨r,v,none⟩) va wa a1 (m+1) H vl vc wl wc c1 st wd sc ct):=(by have G:Aa _ _ (w1.setCell _ (.slice a1 (m+1:_) c1)):=Aa.setCell (S:=λk=>k=w.heap.size+1) (Aa.refl _ _) (p:=(A_ (w.heap.size+1) 0)) (λ_=>rfl) _;refine⟨G.at_ Q o_,?_,(a3 ▸ J).touch G (λk hk e=>o_),?_⟩;exact ht_ 0 _ _ _ n;exact(A.trans (i.mono o_)).setCell w_ _);clear J i n Q T V A;go_upto_region 4 with fail;generalize w1.setCell (A_ (w.heap.size+1) 0) (.slice a1 (m+1:Nat) c1)=w2 at *;clear c0 f0 a3
 obtain⟨q,rfl,W,a6⟩:∃q,a1=some ⟨q,0,none⟩/\w.heap.size+2<=q/\q<w2.heap.size:=by
  rcases I.out.len with⟨_,e,_⟩|⟨p,q,_,e,h3,h4,_⟩
  omega
  grind
 have HQ:=x2_ W a6
 have a4:Hid (Dd w2 q 0 (m+1) wd sc ct):=by
  rcases I.out.len.view hl with e|⟨b,Y,e,D⟩
  omega
  grind
 obtain⟨d0,d1,d2,d3⟩:=I.c37;clear W a6;go_wp2_with fail
 refine(Zkq (o:=o) (t:=100+2*F.length) q 0 _ a4 HC).mono ?_;rintro e w3 ⟨ib,rfl,aE,a2,E⟩;have B:=x3_ a2 E I.low;have l:=x1_ (I.below E);clear aE a2 E I d0 d1 d2 d3;go_upto_region 5 with fail;obtain⟨_,e3,e4,e5,e6⟩:=l.c93
 have M:Hid (Dd w3 r v (m+1) wd sc ct):=by
  rcases HF.out.below l.low with e|⟨b,Y,e,D⟩
  omega;injection e with e;injection e with e1 e2;subst e1;subst e2;exact D
 go_wp2_with fail
 refine(Zkr (o:=Db w2 w3 o (100+2*F.length)) (t:=100+2*F.length+1) _ _ _ M HC).mono ?_;rintro e w4 ⟨yb,fk,c4,rfl,aB,U,z⟩;have O:=x2_ U z;have h:=x1_ (l.below z);clear aB U z l e3 e4 e5 e6 M;go_upto_region 6 with fail;obtain⟨_,e3,_,_,_⟩:=h.c93;obtain⟨d0,_,_,_⟩:=h.c37;go_wp2_with fail
 refine(kw _ _ _ _ _ _ _ _ _ h.len (HF.below h.low) (λp e h0=>by have:=P p e h0;omega) hl).mono ?_;rintro e w5 ⟨rfl,G⟩
 have a7:Hid (Aa (λk=>k=q) w4 w5):=G.mono (λk _ e=>by
  have:some q=some k:=e
  grind)
 have HB:=x1_ (h.low.trans (G.to_below h.low.size (λk hk=>by have:=(h.len.own hk).1;omega)));clear G h e3 d0 a4 HF P;have HW:=x1_ (s.1.bk.wb.below HB s.1.bk.wb.lt);have HR:=x1_ (Below.ownsRow s.1.r1 HB);have aA:w5.cell? (A_ g 1)=some v1:=(by rw[HW.cell];exact s.1.c1);have df:=λo=>HW.frozen o;go_upto_region 10 with(go_at_call 68;refine(Kb _ _).mono ?_;rintro e w' ⟨rfl,aC⟩;obtain rfl:=aC.symm)
 go_wp2_with (at_builtin;refine Ab rfl (.tmp 68) (.tmp 73) 81 rfl 0 208 j0 (.pointer none) 1 8 Tryz.underlying81 a0 a9 a8 aD rfl d_ v1 (F.map ptR).length (F.map ptR) rfl (ra_ (ra_ HR _) _) _ 1 1 _ rfl rfl (Zbx w5 210 208 _ _) (by intro u hu;simp only[List.mem_cons,List.not_mem_nil,or_false] at hu;subst hu;rfl) d_ m_ o_ qg_ ?_)
 intro v' w6 hX;obtain⟨h1,h2,h3,_,q4,p4,rfl⟩:=hX;obtain⟨C,J⟩:=Yh.of (j:=1) HW HR d_ (by rw[List.length_map];exact h1) h2 (λk hk=>w_);have HL:=s.1.opened B.2.2 B.1 B.2.1 O.1 O.2 a7 ⟨by have:=HQ.1;omega,HQ.2⟩ J (Si.of HC);have c3:w6.cell? (A_ g 1)=some v1:=(by rw[C.cell];exact s.1.c1);have aF:=λo=>C.frozen o;have HE:Hid (Cx Z _ g N L (R+1)/\_):=⟨⟨_,_,_,_,_,_,HL.1,by have:=s.2.1;simp;omega,by have:=s.2.2;omega⟩,HL.2⟩;clear h1 h2 h3 C J HL aA df;go_wp2;go_ret;exact⟨rfl,HE⟩
def Cx.more{Z w g N L R b a d}(h:Cx Z w g N L R)(e:N<=b)(l:L<=a)(n:R<=d):Cx Z w g b a d:=by obtain⟨o,c,k,i,f,j,h,m,p⟩:=h;exact⟨o,c,k,i,f,j,⟨h.bk.more e,h.n9,h.c1,h.r1,h.o1,h.c2,h.r2,h.o2,h.rd,λr hr=>Nat.le_trans (h.sz r hr) l,h.dt,h.lo⟩,o_,o_⟩
structure Hw(Z)(w w1:World)(o)(g N L)(c)(v1 v2)(rs)(ds)(r)(i:Nat)(kd k)(st):Prop where
 pv:Es Z w1 o g c N L v1 v2 rs ds
 ri:rs[i]? =some r
 s0:w1.cell? (A_ w.heap.size 0)=some (I_ kd)
 s1:w1.cell? (A_ w.heap.size 1)=some (I_ k)
 s9:w1.cell? (A_ w.heap.size 9)=some (.string st)
 so:o w.heap.size=99
 gl:g<w.heap.size
 low:E_ w w1
section
variable {Z:Nat->Prop} {w w1 w2:World} {o:Nat->Nat} {g N L:Nat} {c:Array Value} {v1 v2:Value} {rs:List RP} {ds:List Nat} {r:RP} {i:Nat} {kd k:Int} {st:ByteArray}
def Hw.below(h:Hw Z w w1 o g N L c v1 v2 rs ds r i kd k st)(hb:Below w1.heap.size w1 w2):Hw Z w w2 o g N L c v1 v2 rs ds r i kd k st:=
 ⟨h.pv.below hb,h.ri,Ac hb h.s0,Ac hb h.s1,Ac hb h.s9,h.so,h.gl,h.low.trans (hb.mono h.low.size)⟩
def Hw.pair(h:Hw Z w w1 o g N L c v1 v2 rs ds r i kd k st):w1.cell? (A_ r.pb 0)=some (P_ r.ib)/\w1.cell? (A_ r.pb 1)=some (P_ r.yb):=
 ⟨cq_ 0 _ 210 (0,0) (h.pv.rd i r h.ri).pr,cq_ 1 _ 210 (0,0) (h.pv.rd i r h.ri).pr⟩
def Hw.after{S}(h:Hw Z w w1 o g N L c v1 v2 rs ds r i kd k st)(t:Aa S w1 w2)(f:∀k,S k->o k≠99/\o k≠16):w2.cell? (A_ r.pb 0)=some (P_ r.ib)/\w2.cell? (A_ r.pb 1)=some (P_ r.yb)/\w2.cell? (A_ w.heap.size 9)=some (.string st)/\w2.cell? (A_ w.heap.size 0)=some (I_ kd):=by have d:=h.pv.rd i r h.ri;have l:=t.at_ d.pr (λe=>(f _ e).2 d.po);have b:∀{j v},w1.cell? (A_ w.heap.size j)=some v->w2.cell? (A_ w.heap.size j)=some v:=λ{j v} hj=>(cb_ (w:=w1) (a:=(A_ w.heap.size j)) (t.block _ (World.block_lt_of_cell? w1 _ hj) (λe=>(f _ e).1 h.so))).trans hj;exact⟨cq_ 0 _ 210 (0,0) l,cq_ 1 _ 210 (0,0) l,b h.s9,b h.s0⟩
def Zd1(w wx:World)(o:Nat->Nat)(i:Nat)(r:RP)(T:ByteArray)(cl:Bool):Prop:=∃W,Below w.heap.size w W/\Oq wx (Db W wx o (100+2*i)) (100+2*i) r.ib r.m r.wd r.sc r.ct r.bins r.size r.budget T cl/\Aa (λk=>o k=100+2*i) W wx
def ZhA m a c T b d:(Ws m a c T b d).size<=T.size+b.size:=by grind [Ws]
def Hw.feedX(h:Hw Z w w1 o g N L c v1 v2 rs ds r i kd k st)(p:L+st.size<=200000000000000) W (b:Below w1.heap.size w1 W):C_ 32 #[.pointer (some ⟨r.ib,0,none⟩),.string st] W λe w'=>e=.returned (.tuple #[.int .i64 (fdZ r.m r.wd r.sc (Ws r.m r.wd r.sc r.T st r.cl) r.cl).1,.int .i64 (fdZ r.m r.wd r.sc (Ws r.m r.wd r.sc r.T st r.cl) r.cl).2])/\Zd1 w1 w' o i r (Ws r.m r.wd r.sc r.T st r.cl) r.cl/\w'.cell? (A_ r.pb 0)=some (.pointer (some ⟨r.ib,0,none⟩))/\w'.cell? (A_ w.heap.size 9)=some (.string st):=by have f:=h.below b;have j:=f.pv.rd i r h.ri;have n:=h.pv.sz r (List.mem_of_getElem? h.ri);refine(Go.Proofs.YtfcgnpchbcmdeaaGreat.feedX j.cf j.x o_ o_).mono ?_;rintro e w' ⟨rfl,l,a⟩;have d:=f.after a (λk e=>o_);exact⟨rfl,⟨W,b,l,a⟩,d.1,d.2.2.1⟩
def Hw.feedY{w3}(h:Hw Z w w1 o g N L c v1 v2 rs ds r i kd k st)(z:L+st.size<=200000000000000)(u:Zd1 w1 w3 o i r (Ws r.m r.wd r.sc r.T st r.cl) r.cl) V (l:Below w3.heap.size w3 V):C_ 125 #[.pointer (some ⟨r.yb,0,none⟩),.string st] V λe w'=>e=.returned (.tuple #[.int .i64 (fdZ r.m r.wd r.sc (Ws r.m r.wd r.sc r.T st r.cl) r.cl).1,.int .i64 (fdZ r.m r.wd r.sc (Ws r.m r.wd r.sc r.T st r.cl) r.cl).2])/\(∃o' rs',Es Z w' o' g c N (L+st.size) v1 v2 rs' ds/\rs'.length=rs.length)/\Fa Z w w'/\w'.cell? (A_ r.pb 1)=some (.pointer (some ⟨r.yb,0,none⟩))/\w'.cell? (A_ w.heap.size 9)=some (.string st):=by
 obtain⟨W,x,v,f⟩:=u;have a:=h.below x;have s:=a.pv.rd i r h.ri;have t:=h.pv.sz r (List.mem_of_getElem? h.ri);have j:=a.pv.other h.ri f (λk _ e=>e);have d:=j.keep (S:=λ_=>False) (.of_below l) (λ_ _ e=>e.elim) (Dq.refl _ _) o_;refine(Go.Proofs.YtfcgnpchbcmdeaaGreat.feedY s.cf d o_ o_).mono ?_;rintro e w' ⟨rfl,y,b⟩;have n:=a.pv.both h.ri v f l y b (L':=L+st.size) o_ (by have:=ZhA r.m r.wd r.sc r.T st r.cl;omega);have q:Aa (λk=>o k=100+2*i∨(k<W.heap.size/\o k=100+2*i+1)) W w':=((f.mono (λk _ e=>.inl e)).trans2 (Aa.of_below (S:=λ_=>False) l) (λk e=>e.elim)).trans2 b (λk e=>by grind [Dz])
 have p:=a.after q (λk e=>o_);exact⟨rfl,⟨_,_,n.1,s_⟩,(Fa.of_below a.low).trans n.2,p.2.1,p.2.2.1⟩
end
def hdc{p}(h:p):Hid p:=h
def Hw.half{Z w d a o g N L c p u s m r i l k b}(h:Hw Z w d o g N L c p u s m r i l k b){T f}(n:Zd1 d a o i r T f):a.cell? (A_ r.pb 1)=some (P_ r.yb)/\a.cell? (A_ w.heap.size 9)=some (.string b):=by
 obtain⟨W,t,_,j⟩:=n;have q:=(h.below t).after j (λk e=>o_)
 grind
def ZiA Z g N L R kd pk bb I H z x y fa va wa fl fc vl vc wl wc t w (hP:Cx Z w g N L R)(hR:R<=10000000)(hL:L+t.size<=200000000000000)(hk:kd=6∨kd=7):C_ 71 #[.pointer (some ⟨g,0,none⟩),.agg #[.int .i64 kd,.int .i64 pk,.int .i64 bb,.slice fa fl fc,.int .i64 I,.int .i64 H,.int .i64 z,.slice va vl vc,.slice wa wl wc,.string t,.int .i64 x,.int .i64 y]] w λe w'=>e=.returned (.bool true)/\Cx Z w' g N (L+t.size) (R+1)/\Fa Z w w':=by
 obtain⟨o,c,v1,v2,E,ds,l,P,Y⟩:=hP;obtain⟨a,p,rfl,hq⟩:=Fj l.r1;rw[List.length_map] at *;have aE:(kd==5)=_:=beq_eq_false_iff_ne.2 o_;have HK:=x1_ hk;clear hk;go_enter Tryz.func71,Tryz.ntmps71;go_upto_region 12 with fail;generalize hw1:w.alloc (.cells #[I_ kd,I_ pk,I_ bb,.slice fa fl fc,I_ I,I_ H,I_ z,.slice va vl vc,.slice wa wl wc,.string t,I_ x,I_ y] 93)=w1;have D:E_ w w1:=(by rw[<- hw1];exact bA_);have O:w1.cell? (A_ w.heap.size 0)=some (I_ kd):=(by rw[<- hw1];simp[go_sem]);have s1:w1.cell? (A_ w.heap.size 1)=some (I_ pk):=(by rw[<- hw1];simp[go_sem]);have F:w1.cell? (A_ w.heap.size 9)=some (.string t):=(by rw[<- hw1];simp[go_sem]);clear hw1 aE;have u:=l.below D;have c1:w1.cell? (A_ g 1)=some (.slice a E.length p):=by rw[u.bk.wb.cell];exact u.c1
 have M:Hid (Fa Z w _):=Fa.of_below D
 by_cases h0:E.length=0
 ·have U:Hid (Cx Z _ g N (L+t.size) (R+1)):=Cx.more ⟨o,c,_,v2,E,ds,u,P,Y⟩ qa_ o_ o_;rw[h0] at c1;clear u l hq O s1 F D;go_wp2;go_ret;exact⟨rfl,U,M⟩
 obtain⟨q,rfl,_⟩:=hq o_;obtain⟨i,hi,hp⟩:=Zby pk (n:=E.length) o_;obtain⟨r,h⟩:∃r,E[i]? =some r:=⟨E[i],Qd hi⟩;have dq:w1.cell? _=some (.pointer _):=Qy (x:=ptR r) (by have:=u.r1;rw[List.length_map] at this;exact this) (by rw[List.getElem?_map,h];rfl);have HA:Hid (Hw Z w _ o g N L c _ _ _ _ r i _ _ _):=⟨u,h,O,s1,F,l.n9 _ qa_,l.bk.wb.lt,D⟩
 have a7:Hid (∀W,C_ 74 #[.int .i64 pk,.int .i64 E.length] W λe w'=>e=.returned (.int .i64 i)/\w'=W):=λW=>by rw[<- hp];exact ug _ _ W
 have S:=x2_ P Y;have aG:0<=(i:Int):=o_;have aF:i<(E.length:Int):=o_;have aD:((E.length:Int)==0)=_:=beq_eq_false_iff_ne.2 o_;clear u l hp h O F D P Y;go_upto_region 14 with fail;go_cut [11] (λv wx=>v=.pointer (some ⟨r.pb,0,none⟩)/\Hid (E_ w1 wx))
 case first=>
  go_region_held3 (λw'=>w'.cell? (A_ g 1)=some (L_ q E.length p)/\w'.cell? (A_ w.heap.size 1)=some (I_ pk)/\w'.cell? (A_ q i)=some (P_ r.pb)) (go_keep) (first|(go_at_call 74;refine(a7 _).mono ?_;rintro e w' ⟨rfl,f⟩;obtain rfl:=f.symm))
  all_goals go_wp2
  all_goals go_meet
  all_goals exact⟨rfl,bz_.drew⟩
 case rest=>
 obtain⟨rfl,a3⟩:=hcut;have d:=x1_ (HA.below a3);clear HA a3 c1 s1 dq a7 aD M;generalize wc=w2 at *;have O:=d.s0;obtain⟨e0,_⟩:=d.pair
 rcases HK.out with rfl|rfl
 ·have F:=d.s9;have HX:=x1_ (λW hW=>d.feedX hL W hW);have a5:=x1_ (λw3 hM V l=>d.feedY (w3:=w3) hL hM V l);generalize (fdZ r.m r.wd r.sc (Ws r.m r.wd r.sc r.T t r.cl) r.cl).1=zz at *;generalize (fdZ r.m r.wd r.sc (Ws r.m r.wd r.sc r.T t r.cl) r.cl).2=pp at *;generalize Ws r.m r.wd r.sc r.T t r.cl=T' at *;go_upto_region 16 with fail;go_cut [12,13] (λa b wx=>a=.int .i64 zz/\b=.int .i64 pp/\Hid (Zd1 w2 wx o i r T' r.cl))
  case first=>
   go_region_held3 (λw'=>w'.cell? (A_ r.pb 0)=some (P_ r.ib)/\w'.cell? (A_ w.heap.size 9)=some (.string t)) (first|exact⟨e0,F⟩|exact⟨k0,k9⟩) (first|(go_at_call 32;refine(HX _ bz_.drew).mono ?_;rintro e w3 ⟨rfl,hH,k0,k9⟩))
   all_goals go_wp2
   all_goals go_meet
   grind
  case rest=>
  obtain⟨rfl,rfl,HM⟩:=hcut;clear e0 F O HX;obtain⟨e1,F⟩:=d.half HM;have HY:=x1_ (λV l=>a5 _ HM V l);clear a5 HM;generalize wc=w3 at *;go_upto_region 17 with fail;go_cut [14,15] (λa b wx=>a=.int .i64 zz/\b=.int .i64 pp/\Hid (Cx Z wx g N (L+t.size) (R+1)/\Fa Z w wx))
  case first=>
   go_region_held3 (λw'=>w'.cell? (A_ r.pb 1)=some (P_ r.yb)/\w'.cell? (A_ w.heap.size 9)=some (.string t)) (first|exact⟨e1,F⟩|exact⟨k0,k9⟩) (first|(go_at_call 125;refine(HY _ bz_.drew).mono ?_;rintro e J ⟨rfl,hE,hK,k0,k9⟩))
   all_goals go_wp2
   all_goals go_meet
   all_goals exact⟨rfl,rfl,Cx.more (R:=R) (by obtain⟨o',aB,hE,hl⟩:=hE;exact⟨o',_,_,_,aB,_,hE,by rw[hl];exact S.1,S.2⟩) qa_ qa_ o_,hK⟩
  case rest=>
  obtain⟨rfl,rfl,U⟩:=hcut;clear e1 F HY d;go_wp2_with (go_at_call 68;refine(Kb _ _).mono ?_;rintro e w' ⟨rfl,f⟩;obtain rfl:=f.symm)
  go_ret;exact⟨s_,U⟩
 have h:=d.ri;have j:=x1_ (d.pv.rd i r h);have G:=x1_ h;have Q:=x1_ (d.pv.sz r (List.mem_of_getElem? h));clear h;go_wp2_with fail
 refine(Zk5 j.cf j.x o_).mono ?_;rintro e w3 hX
 rcases hX with⟨hn,rfl,hx,ht⟩|⟨s,gb,db,hw,rfl,hO,hD,ht⟩
 ·obtain⟨_,e1,_,_⟩:=d.after ht (λk e=>o_)
  have HS:=show Hid _ from d.pv.other G ht (λ_ _ e=>e)
  have HT:=show Hid (_/\_/\_) from⟨hn,hx,ht⟩
  have a6:=show Hid _ from λJ hy ht2=>d.pv.both (w2:=J) G hx ht bz_ hy ht2 (L':=L+t.size) o_ (by have:=Q.out;omega)
  have C:=hdc<|Zhh j.cf HS o_ (by have:=Q.out;omega)
  clear hn hx ht HS e0 O;go_wp2_with fail
  refine C.mono ?_;rintro e J hY
  rcases hY with⟨_,rfl,hy,ht2⟩|⟨s,yd,hw,_⟩
  ·have U:Hid (Cx Z J g N (L+t.size) (R+1)/\Fa Z w J):=(by have hb:=a6 _ hy ht2;exact⟨⟨_,_,_,_,_,_,hb.1,by have:=S.1;simp;omega,by have:=S.2;omega⟩,(Fa.of_below d.low).trans hb.2⟩);clear hy ht2 HT a6 C j d e1;generalize (clZ r.m r.wd r.sc r.T r.cl).1=zz at *;generalize (clZ r.m r.wd r.sc r.T r.cl).2=pp at *;go_wp2_with fail
   refine(Zck g _).mono ?_;rintro e X ⟨rfl,f⟩;obtain rfl:=f.symm;go_wp2_with (go_at_call 68;refine(Kb _ _).mono ?_;rintro e w' ⟨rfl,f⟩;obtain rfl:=f.symm)
   go_ret;exact⟨s_,U⟩
  exact absurd hw (HT.1 s)
 have a4:=j.x.1;have aC:=j.y.1;obtain⟨_,e1,_,_⟩:=d.after ht (λk e=>by subst e;omega)
 have HS:=show Hid _ from d.pv.other G ht (λk _ e=>by rw[e];exact a4)
 have C:=hdc<|Zhh j.cf HS o_ (by have:=Q.out;omega)
 have HW:=show Hid _ from hw
 have a2:=show Hid _ from λJ X yd dp B hM hRi ht2 A=>d.pv.gave (w2:=J) (w3:=X) (yd:=yd) (dp:=dp) (v2':=B) G hw hO hD ht hM hRi ht2 A
 have a9:=show Hid _ from ht
 clear hw hO hD ht HS e0 O;go_wp2_with fail
 refine C.mono ?_;rintro e J hY
 rcases hY with⟨hn,_⟩|⟨s2,yd,hw2,rfl,hM,hRi,ht2⟩
 exact absurd HW (hn s)
 obtain rfl:s=s2:=by
  have q1:=HW.2.1;rw[hw2.2.1] at q1
  grind
 have tt:Aa (λk=>_∨_) _ _:=(a9.mono (λk _ e=>.inl e)).trans2 ht2 (λk e=>.inl (.inr e));have l:=d.pv;have a0:WB _ g c:=tt.at_ l.bk.wb (λe=>by have:=l.bk.og;grind);have a8:=tt.row l.r2 (λk hk e=>by have:=l.o2 k hk;grind)
 have aA:=hdc<|Zcl g gb yd c _ _ _ a0 l.c2 a8 (by have:=S.2;grind)
 have a1:=show Hid _ from λX dp B A=>a2 _ X _ dp B hM hRi ht2 A
 clear tt l a0 a8 hM hRi ht2 hw2 a2 a9 C j a4 aC e1;go_wp2_with fail
 refine aA.mono ?_;rintro e X ⟨rfl,dp,B,A⟩;have U:Hid (Cx Z X g N (L+t.size) (R+1)/\Fa Z w X):=(by have hb:=a1 _ _ _ A;exact⟨Cx.more ⟨_,_,_,_,_,_,hb.1,by have:=S.1;simp;omega,by have:=S.2;simp;omega⟩ qa_ o_ qa_,(Fa.of_below d.low).trans hb.2⟩);clear A a1 aA d HW;go_wp2_with (go_at_call 68;refine(Kb _ _).mono ?_;rintro e w' ⟨rfl,f⟩;obtain rfl:=f.symm)
 go_ret;exact⟨s_,U⟩
def Cx.below{Z w a g N L R}(h:Cx Z w g N L R)(f:Below w.heap.size w a):Cx Z a g N L R:=by obtain⟨o,c,e,j,i,l,d,k,b⟩:=h;exact⟨o,c,e,j,i,l,d.below f,k,b⟩
def Ej.lower{w w' fa fl wd sc ct}(h:Ej w fa fl wd sc ct)(hb:Below w.heap.size w w'):Ej w' fa fl wd sc ct:=h.below hb
def Ziy Z g N L R f u D c b a x y t G A d C E v z F i s l r w (j:Cx Z w g N L R)(p:R<=10000000)(H:L+i.size<=200000000000000)(n:Ej w t d s l r)(B:d<=2097152)(h:f=5∨f=6∨f=7):C_ 71 #[.pointer (some ⟨g,0,none⟩),.agg #[.int .i64 f,.int .i64 u,.int .i64 D,.slice t d C,.int .i64 c,.int .i64 b,.int .i64 a,.slice G E v,.slice A z F,.string i,.int .i64 x,.int .i64 y]] w λe w'=>e=.returned (.bool true)/\Cx Z w' g N (L+i.size) (R+1)/\Fa Z w w':=by
 rcases h with rfl|h
 ·by_cases hc:Hz d c b a s l r=true
  obtain⟨T,Q,M,S,O,I,P,J,_⟩:=La hc;obtain⟨m,rfl⟩:∃m,d=m+1:=⟨d-1,o_⟩;obtain⟨k,rfl⟩:∃k:Nat,b=k:=⟨b.toNat,o_⟩;obtain⟨o,rfl⟩:∃o:Nat,a=o:=⟨a.toNat,o_⟩;exact(qj Z g m _ _ N L R _ _ _ x y _ _ _ _ _ _ _ _ _ _ _ _ w j p n hc).mono (λ_ _ q=>⟨q.1,q.2.1.more qa_ o_ qa_,q.2.2⟩);exact(zo g _ _ _ _ _ x y _ _ _ _ _ _ _ _ _ _ _ _ _ w n B (by simpa using hc)).mono (λ_ _ q=>⟨q.1,(j.below q.2).more qa_ o_ o_,Fa.of_below q.2⟩)
 exact ZiA Z g N L R _ _ _ _ _ _ x y _ _ _ _ _ _ _ _ _ _ w j p H h
def Zgn Z g N L R d i j c b a x y k s n h o p l m r f H C G w (A:Cx Z w g N L R)(F:R<=10000000)(I:L+f.size<=200000000000000)(v:Ej w k h H C G)(E:h<=2097152)(z:d=5∨d=6∨d=7):C_ 41 #[.pointer (some ⟨g,0,none⟩),.agg #[.int .i64 d,.int .i64 i,.int .i64 j,.slice k h o,.int .i64 c,.int .i64 b,.int .i64 a,.slice s p l,.slice n m r,.string f,.int .i64 x,.int .i64 y]] w λe w'=>e=.returned (.bool true)/\Cx Z w' g N (L+f.size) (R+1)/\Fa Z w w':=by
 have B:Hid (C_ 71 #[.pointer (some ⟨g,0,none⟩),.agg #[.int .i64 d,.int .i64 i,.int .i64 j,.slice k h o,.int .i64 c,.int .i64 b,.int .i64 a,.slice s p l,.slice n m r,.string f,.int .i64 x,.int .i64 y]] (w.alloc (.cells #[.int .i64 d,.int .i64 i,.int .i64 j,.slice k h o,.int .i64 c,.int .i64 b,.int .i64 a,.slice s p l,.slice n m r,.string f,.int .i64 x,.int .i64 y] 93)) λe w'=>e=.returned (.bool true)/\Cx Z w' g N (L+f.size) (R+1)/\Fa Z w w'):=by
  have t:Below _ w (w.alloc (.cells #[I_ d,I_ i,I_ j,.slice k h o,I_ c,I_ b,I_ a,.slice s p l,.slice n m r,.string f,I_ x,I_ y] 93)):=bA_;exact(Ziy Z g N L R _ i j _ _ _ x y _ _ _ _ _ _ _ _ _ _ _ _ _ _ (A.below t) F I (v.lower t) E z).mono (λ_ _ q=>⟨q.1,q.2.1,(Fa.of_below t).trans q.2.2⟩)
 clear A v
 rcases z with rfl|rfl|rfl
 all_goals
  go_enter Tryz.func41,Tryz.ntmps41;go_wp2_with fail
  refine B.mono ?_;rintro e w' ⟨rfl,u⟩
  have D:=show Hid _ from u
  clear u B;go_wp2;go_ret;exact⟨rfl,D⟩
def ZiO Z g N L R j z O k h b x y U E J T M P G H Q S w (hP:Cx Z w g N L R)(hN:N<=10000000)(h8:8<=j)(aG:j<=12):C_ 41 #[.pointer (some ⟨g,0,none⟩),.agg #[.int .i64 j,.int .i64 z,.int .i64 O,.slice U T M,.int .i64 k,.int .i64 h,.int .i64 b,.slice E P G,.slice J H Q,.string S,.int .i64 x,.int .i64 y]] w λe w'=>e=.returned (.bool true)/\Cx Z w' g (N+5) L R/\Fa Z w w':=by
 obtain⟨o,c,v1,v2,rs,r,Y,A,C⟩:=hP;obtain⟨a,p,rfl,hq⟩:=Fj Y.r2;rw[List.length_map] at *;have g1:(j==1)=_:=beq_eq_false_iff_ne.2 o_;have g2:2<=j:=o_;have g4:¬j<=4:=o_;have g5:5<=j:=o_;have g7:¬j<=7:=o_;have a6:(j==13)=_:=beq_eq_false_iff_ne.2 o_;have aC:(j==14)=_:=beq_eq_false_iff_ne.2 o_;have a4:¬15<=j:=o_;have g8:¬j<8:=o_;have a9:¬14<j:=o_;go_enter Tryz.func41,Tryz.ntmps41;go_upto_region 12 with fail;generalize hw1:w.alloc (.cells #[I_ j,I_ z,I_ O,.slice U T M,I_ k,I_ h,I_ b,.slice E P G,.slice J H Q,.string S,I_ x,I_ y] 93)=w1;have t:E_ w w1:=by rw[<- hw1];exact bA_
 have f:w1.heap[w.heap.size]? =some (.cells #[I_ j,I_ z,I_ O,.slice U T M,I_ k,I_ h,I_ b,.slice E P G,.slice J H Q,.string S,I_ x,I_ y] 93 (0,0)):=(by rw[<- hw1];exact ha_ w _);have s0:=cR_ 0 f;have V:=cR_ 1 f;clear hw1 g1 g2 g4 g5 g7 a6 a4;have l:=Y.below t;have c2:w1.cell? (A_ g 2)=some (.slice a r.length p):=(by rw[l.bk.wb.cell];exact l.c2);have s:Hid (Fa Z w _):=Fa.of_below t
 by_cases h0:r.length=0
 ·have HE:Hid (Cx Z _ g (N+5) L R):=Cx.more ⟨o,c,_,_,rs,r,l,A,C⟩ o_ qa_ qa_;rw[h0] at c2;clear l Y hq V t;go_wp2;go_ret;exact⟨rfl,HE,s⟩
 obtain⟨q,rfl,_⟩:=hq o_;obtain⟨i,hi,F⟩:=Zby z (n:=r.length) o_;obtain⟨d,B⟩:∃d,r[i]? =some d:=⟨r[i],Qd hi⟩;have dq:w1.cell? _=some (.pointer _):=Qy (x:=ptD d) (by have:=l.r2;rw[List.length_map] at this;exact this) (by rw[List.getElem?_map,B];rfl)
 have I:Hid (∀W,C_ 74 #[.int .i64 z,.int .i64 r.length] W λe w'=>e=.returned (.int .i64 i)/\w'=W):=λW=>by rw[<- F];exact ug _ _ W
 have HA:Hid (∀W,E_ w1 W->W.heap[w.heap.size]? =some (.cells #[.int .i64 j,.int .i64 z,.int .i64 O,.slice U T M,.int .i64 k,.int .i64 h,.int .i64 b,.slice E P G,.slice J H Q,.string S,.int .i64 x,.int .i64 y] 93 (0,0))/\C_ 77 #[.pointer (some ⟨g,0,none⟩),.pointer (some ⟨d,0,none⟩),.agg #[.int .i64 j,.int .i64 z,.int .i64 O,.slice U T M,.int .i64 k,.int .i64 h,.int .i64 b,.slice E P G,.slice J H Q,.string S,.int .i64 x,.int .i64 y]] W λe w'=>e=.returned (.bool true)/\Cx Z w' g (N+5) L R/\Fa Z w w'):=λW hW=>by
  have u:=l.below hW;obtain⟨gb,db,yb,a7,m,n,a8,es,Bb,vF,vB,vC,vX,aB,aE,aD,X,hX,hs⟩:=u.dt d (List.mem_of_getElem? B);refine⟨(hW.block _ (Qb f).1).trans f,(rl _ _ _ _ _ _ x y _ _ _ _ _ _ _ _ _ _ u.bk u.n9 hN hX.here hs).mono (λ_ _ q=>?_)⟩;obtain⟨⟨o',c',a2⟩,hK⟩:=u.book q.2;exact⟨q.1,⟨o',c',_,_,rs,r,a2,A,C⟩,(s.trans (Fa.of_below hW)).trans hK⟩
 have aF:0<=(i:Int):=o_;have aA:i<(r.length:Int):=o_;have a3:((r.length:Int)==0)=_:=beq_eq_false_iff_ne.2 o_;clear l Y F B t A C f s;go_upto_region 14 with fail;go_cut [6] (λv wx=>v=.pointer (some ⟨d,0,none⟩)/\Hid (E_ w1 wx))
 case first=>
  go_region_held3 (λw'=>w'.cell? (A_ g 2)=some (L_ q r.length p)/\w'.cell? (A_ w.heap.size 1)=some (I_ z)/\w'.cell? (A_ q i)=some (P_ d)) (go_keep) (first|(go_at_call 74;refine(I _).mono ?_;rintro e w' ⟨rfl,a5⟩;obtain rfl:=a5.symm))
  all_goals go_wp2
  all_goals go_meet
  all_goals exact⟨rfl,bz_.drew⟩
 case rest=>
 obtain⟨rfl,D⟩:=hcut;obtain⟨f,hC⟩:=HA wc D;have HC:=hdc hC;clear HA D c2 s0 V dq I a3 hC;generalize wc=w2 at *;have s0:=cR_ 0 f;have V:=cR_ 1 f;have s2:=cR_ 2 f;have s3:=cR_ 3 f;have s4:=cR_ 4 f;have s5:=cR_ 5 f;have s6:=cR_ 6 f;have s7:=cR_ 7 f;have s8:=cR_ 8 f;have s9:=cR_ 9 f;have a1:=cR_ 10 f;have a0:=cR_ 11 f;clear f;go_wp2_with fail
 refine HC.mono ?_;rintro e w' ⟨rfl,F⟩
 have HP:=show Hid _ from F
 clear F HC s0 V s2 s3 s4 s5 s6 s7 s8 s9 a1 a0;go_wp2;go_ret;exact⟨rfl,HP⟩
def ZiP Z g N L R d w (b:Cx Z w g N L R)(c:R<=10000000)(f:N<=10000000)(h:L+d.st.size<=200000000000000)(j:OpR w d)(i:d.fl<=2097152)(k:5<=d.kd)(a:d.kd<=12):C_ 41 #[.pointer (some ⟨g,0,none⟩),.agg #[.int .i64 d.kd,.int .i64 d.pk,.int .i64 d.bb,.slice d.fa d.fl d.fc,.int .i64 d.bins,.int .i64 d.size,.int .i64 d.budget,.slice d.va d.vl d.vc,.slice d.wa d.wl d.wc,.string d.st,.int .i64 d.x,.int .i64 d.y]] w λe w'=>e=.returned (.bool true)/\Cx Z w' g (N+5) (L+d.st.size) (R+1)/\Fa Z w w':=by
 by_cases h7:d.kd<=7
 exact(Zgn Z g N L R _ _ _ _ _ _ _ _ _ _ _ _ _ _ _ _ _ _ _ _ _ w b c h j.feats i o_).mono (λ_ _ q=>⟨q.1,q.2.1.more o_ qa_ qa_,q.2.2⟩);exact(ZiO Z g N L R _ _ _ _ _ _ _ _ _ _ _ _ _ _ _ _ _ _ w b f o_ a).mono (λ_ _ q=>⟨q.1,q.2.1.more qa_ o_ o_,q.2.2⟩)
def Cx.sub{Z a w g N L R}(h:Cx Z w g N L R)(f:∀k,a k->Z k):Cx a w g N L R:=by obtain⟨o,c,d,i,e,l,h,j,b⟩:=h;exact⟨o,c,d,i,e,l,⟨h.bk,h.n9,h.c1,h.r1,h.o1,h.c2,h.r2,h.o2,h.rd,h.sz,h.dt,λk hk=>h.lo k (f k hk)⟩,j,b⟩
def Fa.low{Z w w' g}(h:Fa Z w w')(hz:∀k,k<g->Z k)(hg:g<=w.heap.size):Below g w w':=Aa.to_below h hg (λq hq=>w_)
def Grp.empty{w o c i tl tm N F}(h0:c[i]? =some (.slice none 0 0))(h1:c[i+1]? =some (.slice none 0 0)):Grp w o c i tl tm F N:=
 ⟨.slice none 0 0,.slice none 0 0,[],[],h0,h1,rn_,λk hk=>(by cases hk),rn_,λk hk=>(by cases hk),rfl,qg_,λj hj=>by cases hj⟩
def Tm(Z:Nat->Prop)[DecidablePred Z](w:World)(g:Nat)(ve vm:Value)(k:Nat):Nat:=if Z k then 98 else if k=g then 0 else if ve.ownBlock=some k then 4 else if vm.ownBlock=some k then 5 else if k<w.heap.size then 13 else 99
def Gv.play{Z w}{g N:Nat}{c T p}(h:Gv w g c T p)(S:p<=N)(e:∀j,j≠0->j≠4->j≠5->j<12->c[j]? =some (.slice none 0 0))(L:∀k,Z k->k<w.heap.size/\(k<g∨∃cur ty,w.heap[k]? =some (.cells cur ty (0,0))/\ty≠29/\ty≠3/\ty≠98/\ty≠90)):Cx Z w g N 0 0:=by
 haveI:DecidablePred Z:=λ_=>Classical.propDecidable _
 obtain⟨Y,l,o,V,J,y,x,Q,W,R,O,C,h7,b,f,I,G,u,E,P,D,q⟩:=h;have U:=x.lt
 have z:∀k ty cur,w.heap[k]? =some (.cells cur ty (0,0))->g<=k->(ty=29∨ty=3∨ty=98∨ty=90)->¬Z k:=λk ty cur hk hg ht hz=>w_
 have v:∀k,l.ownBlock=some k->k≠g/\¬Z k/\k<w.heap.size:=λk hk=>by
  obtain⟨cur,m⟩:=Ad b hk;have:=rl_ b k hk
  grind
 have H:∀k,o.ownBlock=some k->k≠g/\¬Z k/\k<w.heap.size/\l.ownBlock≠some k:=λk hk=>by
  obtain⟨cur,m⟩:=Ad f hk;have:=rl_ f k hk
  grind [Ad]
 have B:=z g _ c x qa_ s_
 refine⟨Tm Z w g l o,c,.slice _ 0 0,.slice _ 0 0,[],[],⟨⟨x,?_,Q,⟨p,C,o_,S⟩,⟨l,o,J,y.map (Value.int .i64),R,O,Nl b qg_,λk hk=>?_,?_,λk hk=>?_,by simp[u],o_,λj hj=>?_⟩,Grp.empty (e 6 d_ d_ d_ d_) (e 7 d_ d_ d_ d_),Grp.empty (e 8 d_ d_ d_ d_) (e 9 d_ d_ d_ d_),Grp.empty (e 10 d_ d_ d_ d_) (e 11 d_ d_ d_ d_)⟩,λk hk=>?_,e 1 d_ d_ d_ d_,rn_,λk hk=>(by cases hk),e 2 d_ d_ d_ d_,rn_,λk hk=>(by cases hk),λi r hr=>(by simp at hr),λr hr=>(by cases hr),λd hd=>(by cases hd),λk hk=>⟨(L k hk).1,by unfold Tm;rw[if_pos hk]⟩⟩,qg_,qg_⟩
 ·unfold Tm
  grind
 ·obtain⟨n1,n2,_⟩:=v k hk;unfold Tm
  grind
 rw[List.length_map];exact Nl f qg_
 ·grind [Tm]
 ·intro X t;obtain⟨M,F⟩:=q j hj;refine⟨y.getD j 0,?_,?_⟩
  ·grind
  refine Ft.touch M t (λk cur hk m n=>n ?_);have A:=F k hk;unfold Tm;rw[if_neg (z k 98 cur m o_ s_),if_neg o_,if_neg (λe2=>by obtain⟨a,s⟩:=Ad b e2;grind),if_neg (λe2=>by obtain⟨a,s⟩:=Ad f e2;grind),if_pos (Qb m).1]
 grind [Tm]
def ze(d:OpD):List Value:=[I_ d.kd,I_ d.pk,I_ d.bb,.slice d.fa d.fl d.fc,I_ d.bins,I_ d.size,I_ d.budget,.slice d.va d.vl d.vc,.slice d.wa d.wl d.wc,.string d.st,I_ d.x,I_ d.y]
def Zlq{W b c f d}(h:W.heap[b]? =some (.cells f 93 (0,0)))(e:(f.toList.drop c).take 12=ze d):OpC W b c d:=by
 have a:∀j v,(ze d)[j]? =some v->W.cell? (A_ b (c+j))=some v:=λj v hj=>by grind [cell_of_row]
 exact⟨a 0 _ rfl,a 1 _ rfl,a 2 _ rfl,a 3 _ rfl,a 4 _ rfl,a 5 _ rfl,a 6 _ rfl,a 7 _ rfl,a 8 _ rfl,a 9 _ rfl,a _ _ rfl,a _ _ rfl⟩
def ip(G:Nat):Nat->OpD
 |1=>{kd:=5,pk:=0,bb:=0,fa:=some ⟨G+2,0,none⟩,fl:=2,fc:=2,bins:=2,size:=2,budget:=1,va:=none,vl:=0,vc:=0,wa:=none,wl:=0,wc:=0,st:=⟨#[]⟩,x:=0,y:=0,fw:=λi=>i==1,fs:=λi=>if i=0 then 1 else 0,ft:=λi=>if i=1 then 1 else 0,vz:=[],wz:=[]}
 |2=>{kd:=6,pk:=0,bb:=0,fa:=none,fl:=0,fc:=0,bins:=0,size:=0,budget:=0,va:=none,vl:=0,vc:=0,wa:=none,wl:=0,wc:=0,st:=⟨#[49,44,50,46,53,44,97,10,50,44,45,49,44,10,57,44,44,98,10,49,44,48,44,97,10]⟩,x:=0,y:=0,fw:=λ_=>false,fs:=λ_=>0,ft:=λ_=>0,vz:=[],wz:=[]}
 |3=>{kd:=7,pk:=0,bb:=0,fa:=none,fl:=0,fc:=0,bins:=0,size:=0,budget:=0,va:=none,vl:=0,vc:=0,wa:=none,wl:=0,wc:=0,st:=⟨#[]⟩,x:=0,y:=0,fw:=λ_=>false,fs:=λ_=>0,ft:=λ_=>0,vz:=[],wz:=[]}
 |4=>{kd:=5,pk:=0,bb:=0,fa:=some ⟨G+3,0,none⟩,fl:=1,fc:=1,bins:=3,size:=4,budget:=0,va:=none,vl:=0,vc:=0,wa:=none,wl:=0,wc:=0,st:=⟨#[]⟩,x:=0,y:=0,fw:=λ_=>false,fs:=λ_=>0,ft:=λ_=>0,vz:=[],wz:=[]}
 |_=>{kd:=15,pk:=0,bb:=0,fa:=none,fl:=0,fc:=0,bins:=0,size:=0,budget:=0,va:=none,vl:=0,vc:=0,wa:=none,wl:=0,wc:=0,st:=⟨#[]⟩,x:=500,y:=0,fw:=λ_=>false,fs:=λ_=>0,ft:=λ_=>0,vz:=[],wz:=[]}
structure Zam(w:World)(G)(arr):Prop where
 f2:w.heap[G+2]? =some (.cells #[.bool false,I_ 1,I_ 0,.bool true,I_ 0,I_ 1] 51 (0,0))
 f1:w.heap[G+3]? =some (.cells #[.bool false,I_ 0,I_ 0] 51 (0,0))
 op:w.heap[G+4]? =some (.cells arr 93 (0,0))
 at_:∀k,1<=k->k<=5->(arr.toList.drop (k*12)).take 12=ze (ip G k)
def gZ(g G:Nat)(k:Nat):Prop:=k<g∨k=G+2∨k=G+3∨k=G+4
def Zam.kept{w c g G b}(h:Zam w G b)(d:Fa (gZ g G) w c):Zam c G b:=by have a:∀{k:_} {ob:_},_[k]? =some ob->_:=λh1 h2=>d.at_ h1 (λe=>e h2);exact⟨a h.f2 (.inr (.inl rfl)),a h.f1 (.inr (.inr (.inl rfl))),a h.op (.inr (.inr (.inr rfl))),h.at_⟩
def Zam.reads{w G e}(h:Zam w G e){k}(g:1<=k)(f:k<=4):OpR w (ip G k)/\(ip G k).fl<=2/\(ip G k).st.size<=25/\5<=(ip G k).kd/\(ip G k).kd<=12:=by
 have d:=(Qb h.f2).1;have c:=(Qb h.f1).1;have a:Cq w none 0 []:=⟨rfl,s_,.inl rfl⟩
 rcases(show k=1∨k=2∨k=3∨k=4 by omega) with rfl|rfl|rfl|rfl
 ·refine⟨⟨by simp[ip,maxLen],by simp[ip,maxLen],by simp[ip,maxLen],.inr ⟨G+2,0,rfl,by simp[ip,maxLen],λ_=>d,λi b=>?_,λi b=>?_,λi b=>?_⟩,a,a,λ_=>⟨rfl,rfl⟩,λ_=>⟨rfl,rfl⟩⟩,Qa 2,qg_,Int.le_refl 5,(by decide:(5:Int)<=12)⟩
  all_goals
   have b:i=0∨i=1:=by simp[ip] at b;omega
   rcases b with rfl|rfl
  exact cq_ 0 _ _ _ h.f2;exact cq_ 3 _ _ _ h.f2;exact cq_ 1 _ _ _ h.f2;exact cq_ 4 _ _ _ h.f2;exact cq_ 2 _ _ _ h.f2;exact cq_ 5 _ _ _ h.f2
 exact⟨⟨by simp[ip,maxLen],by simp[ip,maxLen],by simp[ip,maxLen],.inl rfl,a,a,λ_=>⟨rfl,rfl⟩,λ_=>⟨rfl,rfl⟩⟩,qg_,qa_,(by decide:(5:Int)<=6),(by decide:(6:Int)<=12)⟩;exact⟨⟨by simp[ip,maxLen],by simp[ip,maxLen],by simp[ip,maxLen],.inl rfl,a,a,λ_=>⟨rfl,rfl⟩,λ_=>⟨rfl,rfl⟩⟩,qg_,qg_,(by decide:(5:Int)<=7),(by decide:(7:Int)<=12)⟩;refine⟨⟨by simp[ip,maxLen],by simp[ip,maxLen],by simp[ip,maxLen],.inr ⟨G+3,0,rfl,by simp[ip,maxLen],λ_=>c,λi b=>?_,λi b=>?_,λi b=>?_⟩,a,a,λ_=>⟨rfl,rfl⟩,λ_=>⟨rfl,rfl⟩⟩,(by decide:1<=2),qg_,Int.le_refl 5,(by decide:(5:Int)<=12)⟩
 all_goals
  have b:i=0:=(by simp[ip] at b;omega);subst b
 exact cq_ 0 _ _ _ h.f1;exact cq_ 1 _ _ _ h.f1;exact cq_ 2 _ _ _ h.f1
def Za1{U w wc f g c h e}(n:Yi U g c 0 wc e f)(s:Below w.heap.size w wc)(a:Zam wc w.heap.size h)(u:∀j,j<12->c[j]? =some (.slice none 0 0)):Cx (gZ g w.heap.size) f g 1 0 0/\Fa (gZ g w.heap.size) wc f:=by
 obtain⟨_,v,p,m,i,x,z,r,b,d⟩:=n;have l:=d _ _ _ a.f2 d_ d_ d_;have q:=d _ _ _ a.f1 d_ d_ d_;have t:=d _ _ _ a.op d_ d_ d_;have y:=s.size;refine⟨i.play o_ (λj n0 n4 n5 n12=>(r j n0 n4 n5 o_).trans (u j n12)) (λk hk=>?_),⟨b.os,b.tape,b.output,b.size,λk hk hn=>?_⟩⟩
 ·rcases hk with e|e|e|e
  exact⟨by have:=i.lt;omega,.inl e⟩
  ·grind
  ·grind
  grind
 have o:=Classical.not_not.1 hn
 rcases o with e|e|e|e
 exact b.block k e;subst e;exact l.trans a.f2.symm;subst e;exact q.trans a.f1.symm;subst e;exact t.trans a.op.symm
def ZiQ g c j f U d w (h:Gv w g c j f)(n:∀L∈j,Yg U L)(s:f<=9000000)(r:U.length<=2097152)(a:OpR w d)(o:d.vl<=2097152)(q:d.wl<=2097152)(l:∀z∈d.vz,Ga z∈U)(k:d.kd=2):C_ 41 #[.pointer (some ⟨g,0,none⟩),.agg #[.int .i64 d.kd,.int .i64 d.pk,.int .i64 d.bb,.slice d.fa d.fl d.fc,.int .i64 d.bins,.int .i64 d.size,.int .i64 d.budget,.slice d.va d.vl d.vc,.slice d.wa d.wl d.wc,.string d.st,.int .i64 d.x,.int .i64 d.y]] w λe w'=>Yi U g c f w e w':=by
 have i:=h.lt;rw[k];have b:Hid (Below _ w (w.alloc (.cells #[I_ d.kd,I_ d.pk,I_ d.bb,.slice d.fa d.fl d.fc,I_ d.bins,I_ d.size,I_ d.budget,.slice d.va d.vl d.vc,.slice d.wa d.wl d.wc,.string d.st,I_ d.x,I_ d.y] 93))):=bA_;rw[k] at b;have t:=hdc (ZdL g c j f U d.pk d.bb d.fa d.fl d.fc d.bins d.size d.budget d.va d.vl d.vc _ _ d.wc d.st d.x d.y _ _ _ (h.below b) n s r (Eo a.vz b (Rp a.vz)) (Eo a.wz b (Rp a.wz)) a.vnil a.wnil o q l);clear h n a l k;go_enter Tryz.func41,Tryz.ntmps41;go_wp2_with fail
 refine t.mono ?_;rintro e w' m;have p:=x1_ (m.back b i);obtain⟨rfl,_⟩:=m;go_wp2;go_ret;exact p
def Zce(w wc:World)(g:Nat)(arr:Array Value)(k:Nat)(wr:World):Prop:=Cx (gZ g w.heap.size) wr g (5*k) (25*k) k/\Fa (gZ g w.heap.size) wc wr/\Zam wr w.heap.size arr
def Zce.next{w wc wr w2 g k arr}{d:OpD}(h:Zce w wc g arr k wr)(hE:Cx (gZ g w.heap.size) w2 g (5*k+5) (25*k+d.st.size) (k+1))(hK:Fa (gZ g w.heap.size) wr w2)(hd:d.st.size<=25):Zce w wc g arr (k+1) w2:=
 ⟨hE.more o_ o_ qa_,h.2.1.trans hK,h.2.2.kept hK⟩
def Za2 g c w (y:Gv w g c [] 0)(U:∀j,j<12->c[j]? =some (.slice none 0 0)):C_ 40 #[.pointer (some ⟨g,0,none⟩),.int .i64 12] w λe w'=>e=.returned (.bool true)/\Cx (λk=>k<g) w' g 30 150 6/\Below g w w':=by
 have W:=x1_ y;have HC:=x1_ U;have B:=y.lt;clear y U;go_enter Tryz.func40,Tryz.ntmps40;go_upto_region 1 with fail;go_cut [5] (λv wx=>v=.slice (some ⟨w.heap.size+4,0,none⟩) 6 6/\ZkC w wx/\∃b,Zam wx w.heap.size b)
 case first=>
  go_wp2;go_meet
  refine⟨rfl,?_,?_⟩
  ·refine⟨?_,?_,?_,?_,?_,?_,?_,?_,?_,?_,?_,?_,?_,?_,?_,?_,?_,?_,?_,?_,?_,?_,?_,?_,?_⟩;exact(((bA_.alloc u_ _).alloc u_ _).alloc u_ _).alloc u_ _;simp
   all_goals go_simp
  refine⟨_,?_,?_,ey _ _ _ s_,λk h1 h5=>?_⟩;exact(hc_ s_).trans ((hc_ s_).trans (ey _ _ _ s_));exact(hc_ s_).trans (ey _ _ _ s_)
  rcases(show k=1∨k=2∨k=3∨k=4∨k=5 by omega) with rfl|rfl|rfl|rfl|rfl<;>rfl
 case rest=>
  obtain⟨rfl,G,b,T⟩:=hcut;have HG:=x1_ G;have m:=x1_ T;have f:=x1_ G.bel;clear T;obtain⟨_,a0,k0,_,_,_,_,_,f1,f2,f3,f4,f5,f6,f7,X,f9,t,A,_,_,_,_,_,_⟩:=G;go_wp2_with fail
  go_loopw [6] (λi wr=>∃k:Nat,k<=6/\i=.int .i64 k/\Hid ((k=0/\wr=wc)∨(0<k/\Zce w wc g b k wr))) (λi _=>6-(intOf i).toNat)
  case atStart=>grind
  case round=>
   obtain⟨k,q,rfl,x⟩:=hrel
   by_cases h0:k=0
   ·subst h0
    obtain rfl:wr=wc:=by
     rcases x.out with h|h
     exact h.2;omega
    go_wp2_with fail
    refine(ZiQ g c _ 0 [5,3] _ _ (W.below f) s_ o_ s_ (qh HG) (by simp[Gn]) (by simp[Gn]) (λz hz=>by
     simp[Gn] at hz
     rcases hz with rfl|rfl|rfl
     exact List.mem_cons_self;exact List.mem_cons_of_mem _ List.mem_cons_self
     exact List.mem_cons_self) rfl).mono ?_
    rintro e F u;obtain rfl:e=.returned (.bool true):=u.1;have a:Hid (Zce w wr g b 1 F):=by obtain⟨q1,M⟩:=Za1 u f m HC;exact⟨q1.more o_ o_ o_,M,m.kept M⟩
    clear u;go_wp2;go_roundw;case rel=>grind
    case measure=>exact z_
   have a:Hid (Zce w wc g b k wr):=by
    rcases x.out with h|h
    omega;exact h.2
   clear k0 f1 f2 f3 f4 f5 f6 f7 X f9 t A x
   by_cases h6:k=6
   ·subst h6;have HF:Hid (Cx _ _ g 30 150 6/\_):=⟨a.1.sub (λk q=>.inl q),(f.mono (Nat.le_of_lt B)).trans (a.2.1.low (λk q=>.inl q) o_)⟩;clear a;go_wp2;go_ret;exact⟨rfl,HF⟩
   obtain⟨r,H,P,I,N,V,S,E,J,O,o,n⟩:=Zlq a.2.2.op (a.2.2.at_ k o_ o_);have a1:0<=(k:Int):=o_;have Z:(k:Int)<6:=o_
   by_cases h5:k=5
   ·subst h5;have d0:wr.cell? ⟨_,60,_⟩=some (.int _ 15):=r;have s:Hid (Zce w _ g _ 6 _):=⟨a.1.more o_ o_ o_,a.2⟩;clear r H P I N V S E J O o n a;go_wp2
    grind [intOf]
   obtain⟨L,C,R,D,Y⟩:=a.2.2.reads (k:=k) o_ o_;have l:=x4_ L C R D;clear L C R D;generalize ip w.heap.size k=d at *;go_wp2_with fail
   refine(ZiP _ g _ _ k d _ a.1 o_ o_ (by have:=l.2.2.1;omega) l.1 (by have:=l.2.1;omega) l.2.2.2 Y).mono ?_;rintro e F ⟨rfl,Q,hK⟩;have s:=x1_ (a.next Q hK l.2.2.1);clear Q hK r H P I N V S E J O o n a l;go_wp2;go_roundw;case rel=>grind
   case measure=>exact z_
structure vq(len)(D:Nat->OpD):Prop where
 many:len<=1048576
 fl:∀i,i<len->(D i).fl<=1048576
 st:∀i,i<len->(D i).st.size<=1048576
def Zd4(g k:Nat)(W w:World):Prop:=Cx (λk=>k<g) w g (30+5*k) (150+1048576*k) (6+k)/\Below g W w
def Zap(g N L k:Nat)(W w:World)(v1 v2:Value)(rs:List RP)(ds:List Nat):Prop:=(∃o c,Es (λk=>k<g) w o g c (N+6000*k) L v1 v2 rs ds)/\Below g W w
def Zap.next{g N L k d W w p j i b}(h:Zap g N L k W w p j i b)(v:N+6000*k<=9000000)(u:b[k]? =some d)(z:g<=w.heap.size):C_ 42 #[.pointer (some ⟨g,0,none⟩),.pointer (some ⟨d,0,none⟩)] w λe w'=>e=.returned (.bool true)/\Zap g N L (k+1) W w' p j i b:=by obtain⟨⟨o,c,a⟩,A⟩:=h;obtain⟨J,E,I,f,m,n,l,O,F,P,M,G,H,s,D,B,X,x,y⟩:=a.dt d (List.mem_of_getElem? u);refine(Zjo (Fx.of_below a.bk bz_ a.n9 qa_) v x d_ d_ y).mono (λ_ _ q=>⟨q.1,?_⟩);obtain⟨⟨r,t,C⟩,hK⟩:=a.book q.2;exact⟨⟨r,t,w_⟩,A.trans (hK.low (λ_ h=>h) z)⟩
def ZbA a f F D w (B:az w a f D)(E:vq f D):C_ 15 #[.slice a f F,.int .i64 5,.int .i64 12] w λe w'=>e=.returned (.bool true)/\Below w.heap.size w w':=by
 obtain⟨_,B⟩:=B;have N:=E.many;have HZ:=x1_ E;have t:=x1_ B;clear B E;have Y:=x1_ (Zgm w);have A:Hid (Below _ w (w.alloc (.cells #[.slice none 0 0,.slice none 0 0,.slice none 0 0,.slice none 0 0,.slice none 0 0,.slice none 0 0,.slice none 0 0,.slice none 0 0,.slice none 0 0,.slice none 0 0,.slice none 0 0,.slice none 0 0,I_ 0] 90))):=bA_;go_enter Tryz.func15,Tryz.ntmps15;go_wp2_with fail
 refine(Za2 _ _ _ Y (λj hj=>by rcases(show j=0∨j=1∨j=2∨j=3∨j=4∨j=5∨j=6∨j=7∨j=8∨j=9∨j=10∨j=11 by omega) with rfl|rfl|rfl|rfl|rfl|rfl|rfl|rfl|rfl|rfl|rfl|rfl<;>rfl)).mono ?_;rintro e w1 ⟨rfl,U,l⟩;have L:Hid (Zd4 _ 0 w _):=⟨U,A.trans l⟩;clear Y A U l;go_wp2_with fail
 go_loopw [9] (λi wr=>∃k:Nat,k<=f/\i=.int .i64 k/\Hid (Zd4 w.heap.size k w wr)) (λi _=>f-(intOf i).toNat)
 case atStart=>grind
 case round=>
  obtain⟨k,hk,rfl,n⟩:=hrel;clear L
  by_cases hlt:k<f
  ·rcases t.out with h0|⟨b,a1,rfl,l,hC⟩
   omega;obtain⟨u,s⟩:=hC k hlt;obtain⟨c0,R,Z,S,V,c5,c6,O,T,X,y,v⟩:=u.below n.2 l;have HR:=x1_ (s.below n.2);have a3:=HZ.fl k hlt;have a5:=HZ.st k hlt;clear u s hC
   by_cases hkd:5<=(D k).kd/\(D k).kd<=12
   ·obtain⟨M,H⟩:=hkd;go_wp2_with fail
    refine(ZiP _ _ _ _ _ _ _ n.1 o_ o_ o_ HR o_ M H).mono ?_;rintro e Q ⟨rfl,hE,hK⟩;have L:Hid (Zd4 _ (k+1) w _):=⟨hE.more o_ o_ o_,n.2.trans (hK.low (λ_ h=>h) n.2.size)⟩;clear c0 R Z S V c5 c6 O T X y v hE hK n;go_wp2;go_roundw;case rel=>grind
    case measure=>exact z_
   have L:Hid (Zd4 _ (k+1) w _):=⟨n.1.more o_ o_ o_,n.2⟩;clear R Z S V c5 c6 O T X y v;go_wp2
   all_goals
    grind [intOf]
  obtain⟨⟨o,c,v1,v2,rs,m,g,a0,a6⟩,l⟩:=n;obtain⟨J,p2,rfl,hq⟩:=Fj g.r2;rw[List.length_map] at *;have r:Hid (Zap _ (_+_) _ 0 w _ _ _ _ _):=⟨⟨o,c,g⟩,l⟩
  have I:Hid (0<m.length->∃q,J=some ⟨q,0,none⟩):=λh=>w_
  clear g l hq t;go_wp2_with fail
  go_loopw [10] (λi wr=>∃j:Nat,j<=12/\j<=m.length/\i=.int .i64 j/\Hid (Zap w.heap.size (30+5*k) (150+1048576*k) j w wr v1 (.slice J m.length p2) rs m)) (λi _=>12-(intOf i).toNat)
  case atStart=>grind
  case round=>
   clear r;obtain⟨j,W,a4,rfl,r⟩:=hrel;obtain⟨⟨o,c,g⟩,l⟩:=r.out;have e2:wr.cell? (A_ w.heap.size 2)=some (.slice J m.length p2):=by rw[g.bk.wb.cell];exact g.c2
   by_cases hj:j<m.length/\j<12
   ·obtain⟨q,rfl⟩:=I o_;obtain⟨d,C⟩:∃d,m[j]? =some d:=⟨m[j],Qd hj.1⟩;have dq:wr.cell? _=some (.pointer _):=Qy (x:=ptD d) (by have:=g.r2;rw[List.length_map] at this;exact this) (by rw[List.getElem?_map,C];rfl)
    have HC:=hdc<|r.next o_ C (Nat.le_of_lt g.bk.wb.lt)
    have g1:j<(m.length:Int):=o_;have g2:(j:Int)<12:=o_;have g3:0<=(j:Int):=o_;clear g l C r;go_wp2_with fail
    refine HC.mono ?_;rintro e Q ⟨rfl,P⟩
    have G:=show Hid _ from P
    clear P HC e2 dq;go_wp2;go_roundw;case rel=>exact⟨j+1,o_,o_,g_,G⟩
    case measure=>exact z_
   have HL:=hdc<|g.bk.looks o_
   have HB:=x1_ l;have a7:=g.bk.wb.lt;clear g l r;go_upto_region 18 with fail
   all_goals
    go_wp2_with fail
    refine HL.mono ?_;rintro e Q ⟨rfl,z⟩;have HF:=x1_ (HB.trans (z.mono o_));clear z;go_wp2;go_ret;exact⟨rfl,HF⟩
def ZdC a b c D w (g:az w a b D)(f:vq b D):C_ 5 #[.slice a b c] w λe w'=>e=.returned (.bool true)/\Below w.heap.size w w':=by
 go_enter Tryz.func5,Tryz.ntmps5;go_wp2_with fail
 refine(ZbA a _ _ D _ g f).mono ?_;rintro e h ⟨rfl,d⟩;go_wp2;go_ret;exact⟨rfl,d⟩
end Go.Proofs.YtfcgnpchbcmdeaaGreat
