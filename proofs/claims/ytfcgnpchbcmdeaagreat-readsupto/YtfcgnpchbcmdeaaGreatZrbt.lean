import Derived.Test.YtfcgnpchbcmdeaaGreatZrbs
import Derived.Test.YtfcgnpchbcmdeaaGreatZras
namespace Go.Proofs.YtfcgnpchbcmdeaaGreat
set_option linter.all false
set_option maxRecDepth 100000
set_option maxHeartbeats 8000000
open Go.RowKit
structure Ud(w w2:World)(pk bb bins size budget x y)(fa va wa a1)(fl fc vl vc wl wc c1)(st)(wd)(sc ct):Prop where
 b93:w2.heap[w.heap.size]? =some (.cells #[I_ 5,I_ pk,I_ bb,.slice fa fl fc,I_ bins,I_ size,I_ budget,.slice va vl vc,.slice wa wl wc,.string st,I_ x,I_ y] 93 (0,0))
 b37:w2.heap[w.heap.size+1]? =some (.cells #[.slice a1 fl c1,I_ bins,I_ size,I_ budget] 37 (0,0))
 len:Kw w2 (w.heap.size+2) (.slice a1 fl c1) fa fl wd sc ct
 low:E_ w w2
section
variable {w w2 w3:World} {pk bb bins size budget x y:Int} {fa va wa a1:Option Addr} {fl fc vl vc wl wc c1:Nat} {st:ByteArray} {wd:Nat->Bool} {sc ct:Nat->Int}
def Ud.below(h:Ud w w2 pk bb bins size budget x y fa va wa a1 fl fc vl vc wl wc c1 st wd sc ct)(hb:Below w2.heap.size w2 w3):Ud w w3 pk bb bins size budget x y fa va wa a1 fl fc vl vc wl wc c1 st wd sc ct:=
 ⟨(hb.block _ (Qb h.b93).1).trans h.b93,(hb.block _ (Qb h.b37).1).trans h.b37,h.len.below hb,h.low.trans (hb.mono h.low.size)⟩
def Ud.c93(h:Ud w w2 pk bb bins size budget x y fa va wa a1 fl fc vl vc wl wc c1 st wd sc ct):w2.cell? (A_ w.heap.size 0)=some (I_ 5)/\w2.cell? (A_ w.heap.size 3)=some (.slice fa fl fc)/\w2.cell? (A_ w.heap.size 4)=some (I_ bins)/\w2.cell? (A_ w.heap.size 5)=some (I_ size)/\w2.cell? (A_ w.heap.size 6)=some (I_ budget):=
 ⟨cq_ 0 _ 93 (0,0) h.b93,cq_ 3 _ 93 (0,0) h.b93,cq_ 4 _ 93 (0,0) h.b93,cq_ 5 _ 93 (0,0) h.b93,cq_ 6 _ 93 (0,0) h.b93⟩
def Ud.c37(h:Ud w w2 pk bb bins size budget x y fa va wa a1 fl fc vl vc wl wc c1 st wd sc ct):w2.cell? (A_ (w.heap.size+1) 0)=some (.slice a1 fl c1)/\w2.cell? (A_ (w.heap.size+1) 1)=some (I_ bins)/\w2.cell? (A_ (w.heap.size+1) 2)=some (I_ size)/\w2.cell? (A_ (w.heap.size+1) 3)=some (I_ budget):=
 ⟨cq_ 0 _ 37 (0,0) h.b37,cq_ 1 _ 37 (0,0) h.b37,cq_ 2 _ 37 (0,0) h.b37,cq_ 3 _ 37 (0,0) h.b37⟩
end
def zn g B D b c a x y l A E f n M L G wc H P W R w (T:Ej w l f P W R)(F:f<=2097152)(Y:Hz f b c a P W R=false):C_ 71 #[.pointer (some ⟨g,0,none⟩),.agg #[.int .i64 5,.int .i64 B,.int .i64 D,.slice l f n,.int .i64 b,.int .i64 c,.int .i64 a,.slice A M L,.slice E G wc,.string H,.int .i64 x,.int .i64 y]] w λe w'=>e=.returned (.bool true)/\Below w.heap.size w w':=by
 have O:=x1_ T;have Z:=x1_ Y
 have V:Hid (∀p,l=some p->0<f->p.block<w.heap.size):=λp e h0=>by subst e;exact(T.at F).1.lt h0
 clear T Y;go_enter Tryz.func71,Tryz.ntmps71;go_wp2_with fail
 generalize hw0:(w.alloc (.cells #[I_ 5,I_ B,I_ D,.slice l f n,I_ b,I_ c,I_ a,.slice A M L,.slice E G wc,.string H,I_ x,I_ y] 93)).alloc (.cells #[.slice l f n,I_ b,I_ c,I_ a] 37)=w0;have v:w0.heap.size=w.heap.size+2:=(by rw[<- hw0];simp);have m:E_ w w0:=(by rw[<- hw0];exact bA_.alloc s_ _);have z:w0.heap[w.heap.size]? =some (.cells #[I_ 5,I_ B,I_ D,.slice l f n,I_ b,I_ c,I_ a,.slice A M L,.slice E G wc,.string H,I_ x,I_ y] 93 (0,0)):=(by grind [hb_,ha_]);have r:w0.heap[w.heap.size+1]? =some (.cells #[.slice l f n,I_ b,I_ c,I_ a] 37 (0,0)):=(by rw[<- hw0];exact Em _ _ _ s_);clear hw0;refine(sr _ _ _ _ _ _ _ (O.below m) F).mono ?_;rintro e N ⟨o1,rfl,U,j⟩
 obtain⟨C,J,rfl⟩:=U.shape;have i:=(j.block _ o_).trans r;have s:=(j.block _ o_).trans z;have c0:=cR_ 0 i;have f0:=λo=>fq_ o _ _ i;have I:Hid (Ud w (N.setCell (A_ (w.heap.size+1) 0) (.slice C f J)) B D b c a x y l A E C f n M L G wc J H P W R):=by have u:Aa _ _ (N.setCell _ (.slice C f J)):=Aa.setCell (S:=λk=>k=w.heap.size+1) (Aa.refl _ _) (p:=(A_ (w.heap.size+1) 0)) (λ_=>rfl) _;refine⟨u.at_ s o_,?_,(v ▸ U).touch u (λk hk e=>o_),?_⟩;exact ht_ 0 _ _ _ i;exact(m.trans (j.mono o_)).setCell w_ _
 clear U j i s z r m;go_upto_region 4 with fail;generalize N.setCell (A_ (w.heap.size+1) 0) (.slice C f J)=w2 at *;clear c0 f0 v;obtain⟨X,d1,d2,d3⟩:=I.c37;go_wp2_with fail
 refine(Zga _ _ _ _ _ _ _ _ _ _ m_ (I.len.view F) Z).mono ?_;rintro e w3 ⟨rfl,q⟩;have h:=x1_ (I.below q);clear q I X d1 d2 d3;go_upto_region 5 with fail;obtain⟨_,Q,e4,e5,e6⟩:=h.c93;go_wp2_with fail
 refine(Zdx _ _ _ _ _ _ _ _ _ _ m_ (O.below h.low) Z).mono ?_;rintro e w4 ⟨rfl,t⟩;have d:=x1_ (h.below t);clear t h Q e4 e5 e6;go_upto_region 6 with fail;obtain⟨_,Q,_,_,_⟩:=d.c93;obtain⟨X,_,_,_⟩:=d.c37;go_wp2_with fail
 refine(kv _ _ _ _ _ _ _ _ _ d.len (O.below d.low) (λp e h0=>by have:=V p e h0;omega) F).mono ?_;rintro e w5 ⟨rfl,u⟩;have HB:=x1_ (d.low.trans (u.to_below d.low.size (λk hk=>by have:=(d.len.own hk).1;omega)));clear u d Q X;go_wp2_with (go_at_call 68;refine(Kd _ _).mono ?_;rintro e w' ⟨rfl,rfl⟩)
 go_ret;exact⟨s_,HB⟩
def Cx(Z:Nat->Prop)(w:World)(g N L R:Nat):Prop:=∃o c v1 v2 rs ds,Es Z w o g c N L v1 v2 rs ds/\rs.length<=R/\ds.length<=R
def Below.ownsRow{w w'}{ty n:Nat}{v xs}(h:w.ownsRow 0 ty 1 v n xs)(hb:Below w.heap.size w w'):w'.ownsRow 0 ty 1 v n xs:=(Aa.of_below (S:=λ_=>False) hb).row h (λ_ _=>id)
def qi Z (g m f a N L R:Nat) pk bb d x y fa va wa H vl vc wl wc st Q sc T w (hP:Cx Z w g N L R)(hR:R<=10000000)(A:Ej w fa (m+1) Q sc T)(hc:Hz (m+1) d f a Q sc T=true):C_ 71 #[.pointer (some ⟨g,0,none⟩),.agg #[.int .i64 5,.int .i64 pk,.int .i64 bb,.slice fa (m+1:Nat) H,.int .i64 d,.int .i64 f,.int .i64 a,.slice va vl vc,.slice wa wl wc,.string st,.int .i64 x,.int .i64 y]] w λe w'=>e=.returned (.bool true)/\Cx Z w' g N L (R+1)/\Fa Z w w':=by
 have aK:=(Lc hc).2.1;have hl:m+1<=2097152:=o_;obtain⟨o,c,v1,v2,J,ds,hV,a3,a6⟩:=hP;have v:=x3_ hV a3 a6;obtain⟨j0,V,aG,aB,aH⟩:=info_parts ZjN;have aJ:(J.map ptR).length<=10000000:=w_;have HF:=x1_ A;have HC:=x1_ hc
 have Y:Hid (∀p,fa=some p->0<m+1->p.block<w.heap.size):=λp e h0=>by subst e;exact(A.at hl).1.lt h0
 obtain⟨s,r,rfl,_⟩:∃s r,fa=some ⟨s,r,none⟩/\True:=by
  rcases A with e|⟨b,U,e,_⟩
  omega
  grind
 clear A hc hV a3 a6;go_enter Tryz.func71,Tryz.ntmps71;go_wp2_with fail
 generalize hw0:(w.alloc (.cells #[I_ 5,I_ pk,I_ bb,.slice (some ⟨s,r,none⟩) (m+1:Nat) H,I_ d,I_ (f:Nat),I_ (a:Nat),.slice va vl vc,.slice wa wl wc,.string st,I_ x,I_ y] 93)).alloc (.cells #[.slice (some ⟨s,r,none⟩) (m+1:Nat) H,I_ d,I_ (f:Nat),I_ (a:Nat)] 37)=w0;have a2:w0.heap.size=w.heap.size+2:=(by rw[<- hw0];simp);have D:E_ w w0:=(by rw[<- hw0];exact bA_.alloc s_ _);have a4:w0.heap[w.heap.size]? =some (.cells #[I_ 5,I_ pk,I_ bb,.slice (some ⟨s,r,none⟩) (m+1:Nat) H,I_ d,I_ f,I_ a,.slice va vl vc,.slice wa wl wc,.string st,I_ x,I_ y] 93 (0,0)):=by grind [hb_,ha_]
 have M:w0.heap[w.heap.size+1]? =some (.cells #[.slice (some ⟨s,r,none⟩) (m+1:Nat) H,I_ d,I_ f,I_ a] 37 (0,0)):=(by rw[<- hw0];exact Em _ _ _ s_);clear hw0;refine(sr _ _ _ _ _ _ _ (HF.below D) hl).mono ?_;rintro e w1 ⟨o1,rfl,F,n⟩;obtain⟨W,c1,rfl⟩:=F.shape;have l:=(n.block _ o_).trans M;have a0:=(n.block _ o_).trans a4;have c0:=cR_ 0 l;have f0:=λo=>fq_ o _ _ l
 have I:Hid (Ud w (w1.setCell (A_ (w.heap.size+1) 0) (.slice W (m+1:Nat) c1)) pk bb d f a x y (some ⟨s,r,none⟩) va wa W (m+1) H vl vc wl wc c1 st Q sc T):=(by have G:Aa _ _ (w1.setCell _ (.slice W (m+1:_) c1)):=Aa.setCell (S:=λk=>k=w.heap.size+1) (Aa.refl _ _) (p:=(A_ (w.heap.size+1) 0)) (λ_=>rfl) _;refine⟨G.at_ a0 o_,?_,(a2 ▸ F).touch G (λk hk e=>o_),?_⟩;exact ht_ 0 _ _ _ l;exact(D.trans (n.mono o_)).setCell w_ _);clear F n l a0 a4 M D;go_upto_region 4 with fail;generalize w1.setCell (A_ (w.heap.size+1) 0) (.slice W (m+1:Nat) c1)=w2 at *;clear c0 f0 a2
 obtain⟨q,rfl,a5,O⟩:∃q,W=some ⟨q,0,none⟩/\w.heap.size+2<=q/\q<w2.heap.size:=by
  rcases I.out.len with⟨_,e,_⟩|⟨p,q,_,e,h3,h4,_⟩
  omega
  grind
 have HQ:=x2_ a5 O
 have a9:Hid (Dd w2 q 0 (m+1) Q sc T):=by
  rcases I.out.len.view hl with e|⟨b,U,e,A⟩
  omega
  grind
 obtain⟨d0,d1,d2,d3⟩:=I.c37;clear a5 O;go_wp2_with fail
 refine(Zkn (o:=o) (t:=100+2*J.length) q 0 _ a9 HC).mono ?_;rintro e w3 ⟨ib,rfl,aC,a7,z⟩;have B:=x3_ a7 z I.low;have i:=x1_ (I.below z);clear aC a7 z I d0 d1 d2 d3;go_upto_region 5 with fail;obtain⟨_,e3,e4,e5,e6⟩:=i.c93
 have X:Hid (Dd w3 s r (m+1) Q sc T):=by
  rcases HF.out.below i.low with e|⟨b,U,e,A⟩
  omega;injection e with e;injection e with e1 e2;subst e1;subst e2;exact A
 go_wp2_with fail
 refine(Zko (o:=Db w2 w3 o (100+2*J.length)) (t:=100+2*J.length+1) _ _ _ X HC).mono ?_;rintro e w4 ⟨yb,fk,c4,rfl,aD,P,E⟩;have a8:=x2_ P E;have h:=x1_ (i.below E);clear aD P E i e3 e4 e5 e6 X;go_upto_region 6 with fail;obtain⟨_,e3,_,_,_⟩:=h.c93;obtain⟨d0,_,_,_⟩:=h.c37;go_wp2_with fail
 refine(kv _ _ _ _ _ _ _ _ _ h.len (HF.below h.low) (λp e h0=>by have:=Y p e h0;omega) hl).mono ?_;rintro e w5 ⟨rfl,G⟩
 have aA:Hid (Aa (λk=>k=q) w4 w5):=G.mono (λk _ e=>by
  have:some q=some k:=e
  grind)
 have HB:=x1_ (h.low.trans (G.to_below h.low.size (λk hk=>by have:=(h.len.own hk).1;omega)));clear G h e3 d0 a9 HF Y;have HW:=x1_ (v.1.bk.wb.below HB v.1.bk.wb.lt);have HR:=x1_ (Below.ownsRow v.1.r1 HB);have aE:w5.cell? (A_ g 1)=some v1:=(by rw[HW.cell];exact v.1.c1);have df:=λo=>HW.frozen o;go_upto_region 10 with(go_at_call 68;refine(Kd _ _).mono ?_;rintro e w' ⟨rfl,aF⟩;obtain rfl:=aF.symm)
 go_wp2_with (at_builtin;refine Ab rfl (.tmp 68) (.tmp 73) 81 rfl 0 208 j0 (.pointer none) 1 8 Tryz.underlying81 V aG aB aH rfl d_ v1 (J.map ptR).length (J.map ptR) rfl (ra_ (ra_ HR _) _) _ 1 1 _ rfl rfl (Zbx w5 210 208 _ _) (by intro u hu;simp only[List.mem_cons,List.not_mem_nil,or_false] at hu;subst hu;rfl) d_ m_ o_ qg_ ?_)
 intro v' w6 hX;obtain⟨h1,h2,h3,_,q4,p4,rfl⟩:=hX;obtain⟨C,F⟩:=Yg.of (j:=1) HW HR d_ (by rw[List.length_map];exact h1) h2 (λk hk=>w_);have HL:=v.1.opened B.2.2 B.1 B.2.1 a8.1 a8.2 aA ⟨by have:=HQ.1;omega,HQ.2⟩ F (Sk.of HC);have c3:w6.cell? (A_ g 1)=some v1:=(by rw[C.cell];exact v.1.c1);have aI:=λo=>C.frozen o;have HE:Hid (Cx Z _ g N L (R+1)/\_):=⟨⟨_,_,_,_,_,_,HL.1,by have:=v.2.1;simp;omega,by have:=v.2.2;omega⟩,HL.2⟩;clear h1 h2 h3 C F HL aE df;go_wp2;go_ret;exact⟨rfl,HE⟩
def Cx.more{Z w g N L R d a b}(h:Cx Z w g N L R)(l:N<=d)(i:L<=a)(m:R<=b):Cx Z w g d a b:=by obtain⟨o,c,j,f,k,e,h,p,n⟩:=h;exact⟨o,c,j,f,k,e,⟨h.bk.more l,h.n9,h.c1,h.r1,h.o1,h.c2,h.r2,h.o2,h.rd,λr hr=>Nat.le_trans (h.sz r hr) i,h.dt,h.lo⟩,o_,o_⟩
structure Hw(Z)(w w1:World)(o)(g N L)(c)(v1 v2)(rs)(ds)(r)(i:Nat)(kd k)(st):Prop where
 pv:Es Z w1 o g c N L v1 v2 rs ds
 ri:rs[i]? =some r
 s0:w1.cell? (A_ w.heap.size 0)=some (I_ kd)
 s1:w1.cell? (A_ w.heap.size 1)=some (I_ k)
 s9:w1.cell? (A_ w.heap.size 9)=some (.string st)
 so:o w.heap.size=99
 gl:g<w.heap.size
 low:E_ w w1
section
variable {Z:Nat->Prop} {w w1 w2:World} {o:Nat->Nat} {g N L:Nat} {c:Array Value} {v1 v2:Value} {rs:List RP} {ds:List Nat} {r:RP} {i:Nat} {kd k:Int} {st:ByteArray}
def Hw.below(h:Hw Z w w1 o g N L c v1 v2 rs ds r i kd k st)(hb:Below w1.heap.size w1 w2):Hw Z w w2 o g N L c v1 v2 rs ds r i kd k st:=
 ⟨h.pv.below hb,h.ri,Ac hb h.s0,Ac hb h.s1,Ac hb h.s9,h.so,h.gl,h.low.trans (hb.mono h.low.size)⟩
def Hw.pair(h:Hw Z w w1 o g N L c v1 v2 rs ds r i kd k st):w1.cell? (A_ r.pb 0)=some (P_ r.ib)/\w1.cell? (A_ r.pb 1)=some (P_ r.yb):=
 ⟨cq_ 0 _ 210 (0,0) (h.pv.rd i r h.ri).pr,cq_ 1 _ 210 (0,0) (h.pv.rd i r h.ri).pr⟩
def Hw.after{S}(h:Hw Z w w1 o g N L c v1 v2 rs ds r i kd k st)(t:Aa S w1 w2)(l:∀k,S k->o k≠99/\o k≠16):w2.cell? (A_ r.pb 0)=some (P_ r.ib)/\w2.cell? (A_ r.pb 1)=some (P_ r.yb)/\w2.cell? (A_ w.heap.size 9)=some (.string st)/\w2.cell? (A_ w.heap.size 0)=some (I_ kd):=by have f:=h.pv.rd i r h.ri;have d:=t.at_ f.pr (λe=>(l _ e).2 f.po);have b:∀{j v},w1.cell? (A_ w.heap.size j)=some v->w2.cell? (A_ w.heap.size j)=some v:=λ{j v} hj=>(cb_ (w:=w1) (a:=(A_ w.heap.size j)) (t.block _ (World.block_lt_of_cell? w1 _ hj) (λe=>(l _ e).1 h.so))).trans hj;exact⟨cq_ 0 _ 210 (0,0) d,cq_ 1 _ 210 (0,0) d,b h.s9,b h.s0⟩
def Zd1(w wx:World)(o:Nat->Nat)(i:Nat)(r:RP)(T:ByteArray)(cl:Bool):Prop:=∃W,Below w.heap.size w W/\Oq wx (Db W wx o (100+2*i)) (100+2*i) r.ib r.m r.wd r.sc r.ct r.bins r.size r.budget T cl/\Aa (λk=>o k=100+2*i) W wx
def Zhy m a d T b c:(Ws m a d T b c).size<=T.size+b.size:=by grind [Ws]
def Hw.feedX(h:Hw Z w w1 o g N L c v1 v2 rs ds r i kd k st)(p:L+st.size<=200000000000000) W (a:Below w1.heap.size w1 W):C_ 32 #[.pointer (some ⟨r.ib,0,none⟩),.string st] W λe w'=>e=.returned (.tuple #[.int .i64 (fdZ r.m r.wd r.sc (Ws r.m r.wd r.sc r.T st r.cl) r.cl).1,.int .i64 (fdZ r.m r.wd r.sc (Ws r.m r.wd r.sc r.T st r.cl) r.cl).2])/\Zd1 w1 w' o i r (Ws r.m r.wd r.sc r.T st r.cl) r.cl/\w'.cell? (A_ r.pb 0)=some (.pointer (some ⟨r.ib,0,none⟩))/\w'.cell? (A_ w.heap.size 9)=some (.string st):=by have b:=h.below a;have j:=b.pv.rd i r h.ri;have n:=h.pv.sz r (List.mem_of_getElem? h.ri);refine(Go.Proofs.YtfcgnpchbcmdeaaGreat.feedX j.cf j.x o_ o_).mono ?_;rintro e w' ⟨rfl,l,d⟩;have f:=b.after d (λk e=>o_);exact⟨rfl,⟨W,a,l,d⟩,f.1,f.2.2.1⟩
def Hw.feedY{w3}(h:Hw Z w w1 o g N L c v1 v2 rs ds r i kd k st)(z:L+st.size<=200000000000000)(q:Zd1 w1 w3 o i r (Ws r.m r.wd r.sc r.T st r.cl) r.cl) V (f:Below w3.heap.size w3 V):C_ 125 #[.pointer (some ⟨r.yb,0,none⟩),.string st] V λe w'=>e=.returned (.tuple #[.int .i64 (fdZ r.m r.wd r.sc (Ws r.m r.wd r.sc r.T st r.cl) r.cl).1,.int .i64 (fdZ r.m r.wd r.sc (Ws r.m r.wd r.sc r.T st r.cl) r.cl).2])/\(∃o' rs',Es Z w' o' g c N (L+st.size) v1 v2 rs' ds/\rs'.length=rs.length)/\Fa Z w w'/\w'.cell? (A_ r.pb 1)=some (.pointer (some ⟨r.yb,0,none⟩))/\w'.cell? (A_ w.heap.size 9)=some (.string st):=by
 obtain⟨W,u,v,j⟩:=q;have a:=h.below u;have y:=a.pv.rd i r h.ri;have x:=h.pv.sz r (List.mem_of_getElem? h.ri);have l:=a.pv.other h.ri j (λk _ e=>e);have d:=l.keep (S:=λ_=>False) (.of_below f) (λ_ _ e=>e.elim) (Dr.refl _ _) o_;refine(Go.Proofs.YtfcgnpchbcmdeaaGreat.feedY y.cf d o_ o_).mono ?_;rintro e w' ⟨rfl,t,b⟩;have n:=a.pv.both h.ri v j f t b (L':=L+st.size) o_ (by have:=Zhy r.m r.wd r.sc r.T st r.cl;omega);have s:Aa (λk=>o k=100+2*i∨(k<W.heap.size/\o k=100+2*i+1)) W w':=((j.mono (λk _ e=>.inl e)).trans2 (Aa.of_below (S:=λ_=>False) f) (λk e=>e.elim)).trans2 b (λk e=>by grind [Dz])
 have p:=a.after s (λk e=>o_);exact⟨rfl,⟨_,_,n.1,s_⟩,(Fa.of_below a.low).trans n.2,p.2.1,p.2.2.1⟩
end
def hdc{p}(h:p):Hid p:=h
def Hw.half{Z w b a o g N L c n l t m r i f k d}(h:Hw Z w b o g N L c n l t m r i f k d){T u}(j:Zd1 b a o i r T u):a.cell? (A_ r.pb 1)=some (P_ r.yb)/\a.cell? (A_ w.heap.size 9)=some (.string d):=by
 obtain⟨W,p,_,s⟩:=j;have q:=(h.below p).after s (λk e=>o_)
 grind
def Ziy Z g N L R kd pk bb I M z x y fa va wa fl fc vl vc wl wc u w (hP:Cx Z w g N L R)(hR:R<=10000000)(hL:L+u.size<=200000000000000)(hk:kd=6∨kd=7):C_ 71 #[.pointer (some ⟨g,0,none⟩),.agg #[.int .i64 kd,.int .i64 pk,.int .i64 bb,.slice fa fl fc,.int .i64 I,.int .i64 M,.int .i64 z,.slice va vl vc,.slice wa wl wc,.string u,.int .i64 x,.int .i64 y]] w λe w'=>e=.returned (.bool true)/\Cx Z w' g N (L+u.size) (R+1)/\Fa Z w w':=by
 obtain⟨o,c,v1,v2,E,ds,j,Y,X⟩:=hP;obtain⟨a,p,rfl,hq⟩:=Fj j.r1;rw[List.length_map] at *;have aC:(kd==5)=_:=beq_eq_false_iff_ne.2 o_;have HK:=x1_ hk;clear hk;go_enter Tryz.func71,Tryz.ntmps71;go_upto_region 12 with fail;generalize hw1:w.alloc (.cells #[I_ kd,I_ pk,I_ bb,.slice fa fl fc,I_ I,I_ M,I_ z,.slice va vl vc,.slice wa wl wc,.string u,I_ x,I_ y] 93)=w1;have D:E_ w w1:=(by rw[<- hw1];exact bA_);have U:w1.cell? (A_ w.heap.size 0)=some (I_ kd):=(by rw[<- hw1];simp[go_sem]);have s1:w1.cell? (A_ w.heap.size 1)=some (I_ pk):=(by rw[<- hw1];simp[go_sem]);have G:w1.cell? (A_ w.heap.size 9)=some (.string u):=(by rw[<- hw1];simp[go_sem]);clear hw1 aC;have t:=j.below D;have c1:w1.cell? (A_ g 1)=some (.slice a E.length p):=by rw[t.bk.wb.cell];exact t.c1
 have H:Hid (Fa Z w _):=Fa.of_below D
 by_cases h0:E.length=0
 ·have Q:Hid (Cx Z _ g N (L+u.size) (R+1)):=Cx.more ⟨o,c,_,v2,E,ds,t,Y,X⟩ qa_ o_ o_;rw[h0] at c1;clear t j hq U s1 G D;go_wp2;go_ret;exact⟨rfl,Q,H⟩
 obtain⟨q,rfl,_⟩:=hq o_;obtain⟨i,hi,hp⟩:=Zby pk (n:=E.length) o_;obtain⟨r,h⟩:∃r,E[i]? =some r:=⟨E[i],Qd hi⟩;have dq:w1.cell? _=some (.pointer _):=Qz (x:=ptR r) (by have:=t.r1;rw[List.length_map] at this;exact this) (by rw[List.getElem?_map,h];rfl);have HA:Hid (Hw Z w _ o g N L c _ _ _ _ r i _ _ _):=⟨t,h,U,s1,G,j.n9 _ qa_,j.bk.wb.lt,D⟩
 have a9:Hid (∀W,C_ 74 #[.int .i64 pk,.int .i64 E.length] W λe w'=>e=.returned (.int .i64 i)/\w'=W):=λW=>by rw[<- hp];exact ue _ _ W
 have P:=x2_ Y X;have aG:0<=(i:Int):=o_;have aF:i<(E.length:Int):=o_;have aE:((E.length:Int)==0)=_:=beq_eq_false_iff_ne.2 o_;clear t j hp h U G D Y X;go_upto_region 14 with fail;go_cut [11] (λv wx=>v=.pointer (some ⟨r.pb,0,none⟩)/\Hid (E_ w1 wx))
 case first=>
  go_region_held3 (λw'=>w'.cell? (A_ g 1)=some (L_ q E.length p)/\w'.cell? (A_ w.heap.size 1)=some (I_ pk)/\w'.cell? (A_ q i)=some (P_ r.pb)) (go_keep) (first|(go_at_call 74;refine(a9 _).mono ?_;rintro e w' ⟨rfl,f⟩;obtain rfl:=f.symm))
  all_goals go_wp2
  all_goals go_meet
  all_goals exact⟨rfl,bz_.drew⟩
 case rest=>
 obtain⟨rfl,a5⟩:=hcut;have d:=x1_ (HA.below a5);clear HA a5 c1 s1 dq a9 aE H;generalize wc=w2 at *;have U:=d.s0;obtain⟨e0,_⟩:=d.pair
 rcases HK.out with rfl|rfl
 ·have G:=d.s9;have HX:=x1_ (λW hW=>d.feedX hL W hW);have a1:=x1_ (λw3 hM V j=>d.feedY (w3:=w3) hL hM V j);generalize (fdZ r.m r.wd r.sc (Ws r.m r.wd r.sc r.T u r.cl) r.cl).1=zz at *;generalize (fdZ r.m r.wd r.sc (Ws r.m r.wd r.sc r.T u r.cl) r.cl).2=pp at *;generalize Ws r.m r.wd r.sc r.T u r.cl=T' at *;go_upto_region 16 with fail;go_cut [12,13] (λa b wx=>a=.int .i64 zz/\b=.int .i64 pp/\Hid (Zd1 w2 wx o i r T' r.cl))
  case first=>
   go_region_held3 (λw'=>w'.cell? (A_ r.pb 0)=some (P_ r.ib)/\w'.cell? (A_ w.heap.size 9)=some (.string u)) (first|exact⟨e0,G⟩|exact⟨k0,k9⟩) (first|(go_at_call 32;refine(HX _ bz_.drew).mono ?_;rintro e w3 ⟨rfl,hH,k0,k9⟩))
   all_goals go_wp2
   all_goals go_meet
   grind
  case rest=>
  obtain⟨rfl,rfl,HM⟩:=hcut;clear e0 G U HX;obtain⟨e1,G⟩:=d.half HM;have HY:=x1_ (λV j=>a1 _ HM V j);clear a1 HM;generalize wc=w3 at *;go_upto_region 17 with fail;go_cut [14,15] (λa b wx=>a=.int .i64 zz/\b=.int .i64 pp/\Hid (Cx Z wx g N (L+u.size) (R+1)/\Fa Z w wx))
  case first=>
   go_region_held3 (λw'=>w'.cell? (A_ r.pb 1)=some (P_ r.yb)/\w'.cell? (A_ w.heap.size 9)=some (.string u)) (first|exact⟨e1,G⟩|exact⟨k0,k9⟩) (first|(go_at_call 125;refine(HY _ bz_.drew).mono ?_;rintro e J ⟨rfl,hE,hK,k0,k9⟩))
   all_goals go_wp2
   all_goals go_meet
   all_goals exact⟨rfl,rfl,Cx.more (R:=R) (by obtain⟨o',aD,hE,hl⟩:=hE;exact⟨o',_,_,_,aD,_,hE,by rw[hl];exact P.1,P.2⟩) qa_ qa_ o_,hK⟩
  case rest=>
  obtain⟨rfl,rfl,Q⟩:=hcut;clear e1 G HY d;go_wp2_with (go_at_call 68;refine(Kd _ _).mono ?_;rintro e w' ⟨rfl,f⟩;obtain rfl:=f.symm)
  go_ret;exact⟨s_,Q⟩
 have h:=d.ri;have l:=x1_ (d.pv.rd i r h);have F:=x1_ h;have S:=x1_ (d.pv.sz r (List.mem_of_getElem? h));clear h;go_wp2_with fail
 refine(Zk2 l.cf l.x o_).mono ?_;rintro e w3 hX
 rcases hX with⟨hn,rfl,hx,ht⟩|⟨s,gb,db,hw,rfl,hO,hD,ht⟩
 ·obtain⟨_,e1,_,_⟩:=d.after ht (λk e=>o_)
  have HS:=show Hid _ from d.pv.other F ht (λ_ _ e=>e)
  have HT:=show Hid (_/\_/\_) from⟨hn,hx,ht⟩
  have a8:=show Hid _ from λJ hy ht2=>d.pv.both (w2:=J) F hx ht bz_ hy ht2 (L':=L+u.size) o_ (by have:=S.out;omega)
  have B:=hdc<|Zhf l.cf HS o_ (by have:=S.out;omega)
  clear hn hx ht HS e0 U;go_wp2_with fail
  refine B.mono ?_;rintro e J hY
  rcases hY with⟨_,rfl,hy,ht2⟩|⟨s,yd,hw,_⟩
  ·have Q:Hid (Cx Z J g N (L+u.size) (R+1)/\Fa Z w J):=(by have hb:=a8 _ hy ht2;exact⟨⟨_,_,_,_,_,_,hb.1,by have:=P.1;simp;omega,by have:=P.2;omega⟩,(Fa.of_below d.low).trans hb.2⟩);clear hy ht2 HT a8 B l d e1;generalize (clZ r.m r.wd r.sc r.T r.cl).1=zz at *;generalize (clZ r.m r.wd r.sc r.T r.cl).2=pp at *;go_wp2_with fail
   refine(Zck g _).mono ?_;rintro e O ⟨rfl,f⟩;obtain rfl:=f.symm;go_wp2_with (go_at_call 68;refine(Kd _ _).mono ?_;rintro e w' ⟨rfl,f⟩;obtain rfl:=f.symm)
   go_ret;exact⟨s_,Q⟩
  exact absurd hw (HT.1 s)
 have a2:=l.x.1;have aB:=l.y.1;obtain⟨_,e1,_,_⟩:=d.after ht (λk e=>by subst e;omega)
 have HS:=show Hid _ from d.pv.other F ht (λk _ e=>by rw[e];exact a2)
 have B:=hdc<|Zhf l.cf HS o_ (by have:=S.out;omega)
 have HW:=show Hid _ from hw
 have aA:=show Hid _ from λJ O yd dp C hM hRi ht2 A=>d.pv.gave (w2:=J) (w3:=O) (yd:=yd) (dp:=dp) (C:=C) F hw hO hD ht hM hRi ht2 A
 have a7:=show Hid _ from ht
 clear hw hO hD ht HS e0 U;go_wp2_with fail
 refine B.mono ?_;rintro e J hY
 rcases hY with⟨hn,_⟩|⟨s2,yd,hw2,rfl,hM,hRi,ht2⟩
 exact absurd HW (hn s)
 obtain rfl:s=s2:=by
  have q1:=HW.2.1;rw[hw2.2.1] at q1
  grind
 have tt:Aa (λk=>_∨_) _ _:=(a7.mono (λk _ e=>.inl e)).trans2 ht2 (λk e=>.inl (.inr e));have j:=d.pv;have a3:WB _ g c:=tt.at_ j.bk.wb (λe=>by have:=j.bk.og;grind);have a6:=tt.row j.r2 (λk hk e=>by have:=j.o2 k hk;grind)
 have a4:=hdc<|Zcl g gb yd c _ _ _ a3 j.c2 a6 (by have:=P.2;grind)
 have a0:=show Hid _ from λO dp C A=>aA _ O _ dp C hM hRi ht2 A
 clear tt j a3 a6 hM hRi ht2 hw2 aA a7 B l a2 aB e1;go_wp2_with fail
 refine a4.mono ?_;rintro e O ⟨rfl,dp,C,A⟩;have Q:Hid (Cx Z O g N (L+u.size) (R+1)/\Fa Z w O):=(by have hb:=a0 _ _ _ A;exact⟨Cx.more ⟨_,_,_,_,_,_,hb.1,by have:=P.1;simp;omega,by have:=P.2;simp;omega⟩ qa_ o_ qa_,(Fa.of_below d.low).trans hb.2⟩);clear A a0 a4 d HW;go_wp2_with (go_at_call 68;refine(Kd _ _).mono ?_;rintro e w' ⟨rfl,f⟩;obtain rfl:=f.symm)
 go_ret;exact⟨s_,Q⟩
def Cx.below{Z w a g N L R}(h:Cx Z w g N L R)(j:Below w.heap.size w a):Cx Z a g N L R:=by obtain⟨o,c,b,l,f,k,d,e,i⟩:=h;exact⟨o,c,b,l,f,k,d.below j,e,i⟩
def Ej.lower{w w' fa fl wd sc ct}(h:Ej w fa fl wd sc ct)(hb:Below w.heap.size w w'):Ej w' fa fl wd sc ct:=h.below hb
def Ziw Z g N L R f B E c b a x y k G F d A H D z v h r o s w (j:Cx Z w g N L R)(n:R<=10000000)(C:L+h.size<=200000000000000)(t:Ej w k d r o s)(u:d<=2097152)(i:f=5∨f=6∨f=7):C_ 71 #[.pointer (some ⟨g,0,none⟩),.agg #[.int .i64 f,.int .i64 B,.int .i64 E,.slice k d A,.int .i64 c,.int .i64 b,.int .i64 a,.slice G H D,.slice F z v,.string h,.int .i64 x,.int .i64 y]] w λe w'=>e=.returned (.bool true)/\Cx Z w' g N (L+h.size) (R+1)/\Fa Z w w':=by
 rcases i with rfl|i
 ·by_cases hc:Hz d c b a r o s=true
  obtain⟨O,I,M,S,T,J,P,Q,_⟩:=Lc hc;obtain⟨m,rfl⟩:∃m,d=m+1:=⟨d-1,o_⟩;obtain⟨p,rfl⟩:∃p:Nat,b=p:=⟨b.toNat,o_⟩;obtain⟨l,rfl⟩:∃l:Nat,a=l:=⟨a.toNat,o_⟩;exact(qi Z g m _ _ N L R _ _ _ x y _ _ _ _ _ _ _ _ _ _ _ _ w j n t hc).mono (λ_ _ q=>⟨q.1,q.2.1.more qa_ o_ qa_,q.2.2⟩);exact(zn g _ _ _ _ _ x y _ _ _ _ _ _ _ _ _ _ _ _ _ w t u (by simpa using hc)).mono (λ_ _ q=>⟨q.1,(j.below q.2).more qa_ o_ o_,Fa.of_below q.2⟩)
 exact Ziy Z g N L R _ _ _ _ _ _ x y _ _ _ _ _ _ _ _ _ _ w j n C i
def Zgm Z g N L R d j k b c a x y i r p h n s o m l f G F H w (A:Cx Z w g N L R)(E:R<=10000000)(I:L+f.size<=200000000000000)(u:Ej w i h G F H)(C:h<=2097152)(z:d=5∨d=6∨d=7):C_ 41 #[.pointer (some ⟨g,0,none⟩),.agg #[.int .i64 d,.int .i64 j,.int .i64 k,.slice i h n,.int .i64 b,.int .i64 c,.int .i64 a,.slice r s o,.slice p m l,.string f,.int .i64 x,.int .i64 y]] w λe w'=>e=.returned (.bool true)/\Cx Z w' g N (L+f.size) (R+1)/\Fa Z w w':=by
 have B:Hid (C_ 71 #[.pointer (some ⟨g,0,none⟩),.agg #[.int .i64 d,.int .i64 j,.int .i64 k,.slice i h n,.int .i64 b,.int .i64 c,.int .i64 a,.slice r s o,.slice p m l,.string f,.int .i64 x,.int .i64 y]] (w.alloc (.cells #[.int .i64 d,.int .i64 j,.int .i64 k,.slice i h n,.int .i64 b,.int .i64 c,.int .i64 a,.slice r s o,.slice p m l,.string f,.int .i64 x,.int .i64 y] 93)) λe w'=>e=.returned (.bool true)/\Cx Z w' g N (L+f.size) (R+1)/\Fa Z w w'):=by
  have t:Below _ w (w.alloc (.cells #[I_ d,I_ j,I_ k,.slice i h n,I_ b,I_ c,I_ a,.slice r s o,.slice p m l,.string f,I_ x,I_ y] 93)):=bA_;exact(Ziw Z g N L R _ j k _ _ _ x y _ _ _ _ _ _ _ _ _ _ _ _ _ _ (A.below t) E I (u.lower t) C z).mono (λ_ _ q=>⟨q.1,q.2.1,(Fa.of_below t).trans q.2.2⟩)
 clear A u
 rcases z with rfl|rfl|rfl
 all_goals
  go_enter Tryz.func41,Tryz.ntmps41;go_wp2_with fail
  refine B.mono ?_;rintro e w' ⟨rfl,v⟩
  have D:=show Hid _ from v
  clear v B;go_wp2;go_ret;exact⟨rfl,D⟩
def ZiM Z g N L R h z E j k b x y G T F J O U S I D M w (hP:Cx Z w g N L R)(hN:N<=10000000)(h8:8<=h)(a9:h<=12):C_ 41 #[.pointer (some ⟨g,0,none⟩),.agg #[.int .i64 h,.int .i64 z,.int .i64 E,.slice G J O,.int .i64 j,.int .i64 k,.int .i64 b,.slice T U S,.slice F I D,.string M,.int .i64 x,.int .i64 y]] w λe w'=>e=.returned (.bool true)/\Cx Z w' g (N+5) L R/\Fa Z w w':=by
 obtain⟨o,c,v1,v2,rs,s,V,C,B⟩:=hP;obtain⟨a,p,rfl,hq⟩:=Fj V.r2;rw[List.length_map] at *;have g1:(h==1)=_:=beq_eq_false_iff_ne.2 o_;have g2:2<=h:=o_;have g4:¬h<=4:=o_;have g5:5<=h:=o_;have g7:¬h<=7:=o_;have a3:(h==13)=_:=beq_eq_false_iff_ne.2 o_;have aD:(h==14)=_:=beq_eq_false_iff_ne.2 o_;have a0:¬15<=h:=o_;have g8:¬h<8:=o_;have aA:¬14<h:=o_;go_enter Tryz.func41,Tryz.ntmps41;go_upto_region 12 with fail;generalize hw1:w.alloc (.cells #[I_ h,I_ z,I_ E,.slice G J O,I_ j,I_ k,I_ b,.slice T U S,.slice F I D,.string M,I_ x,I_ y] 93)=w1;have u:E_ w w1:=by rw[<- hw1];exact bA_
 have f:w1.heap[w.heap.size]? =some (.cells #[I_ h,I_ z,I_ E,.slice G J O,I_ j,I_ k,I_ b,.slice T U S,.slice F I D,.string M,I_ x,I_ y] 93 (0,0)):=(by rw[<- hw1];exact ha_ w _);have s0:=cR_ 0 f;have Y:=cR_ 1 f;clear hw1 g1 g2 g4 g5 g7 a3 a0;have l:=V.below u;have c2:w1.cell? (A_ g 2)=some (.slice a s.length p):=(by rw[l.bk.wb.cell];exact l.c2);have r:Hid (Fa Z w _):=Fa.of_below u
 by_cases h0:s.length=0
 ·have HE:Hid (Cx Z _ g (N+5) L R):=Cx.more ⟨o,c,_,_,rs,s,l,C,B⟩ o_ qa_ qa_;rw[h0] at c2;clear l V hq Y u;go_wp2;go_ret;exact⟨rfl,HE,r⟩
 obtain⟨q,rfl,_⟩:=hq o_;obtain⟨i,hi,Q⟩:=Zby z (n:=s.length) o_;obtain⟨d,A⟩:∃d,s[i]? =some d:=⟨s[i],Qd hi⟩;have dq:w1.cell? _=some (.pointer _):=Qz (x:=ptD d) (by have:=l.r2;rw[List.length_map] at this;exact this) (by rw[List.getElem?_map,A];rfl)
 have P:Hid (∀W,C_ 74 #[.int .i64 z,.int .i64 s.length] W λe w'=>e=.returned (.int .i64 i)/\w'=W):=λW=>by rw[<- Q];exact ue _ _ W
 have HA:Hid (∀W,E_ w1 W->W.heap[w.heap.size]? =some (.cells #[.int .i64 h,.int .i64 z,.int .i64 E,.slice G J O,.int .i64 j,.int .i64 k,.int .i64 b,.slice T U S,.slice F I D,.string M,.int .i64 x,.int .i64 y] 93 (0,0))/\C_ 77 #[.pointer (some ⟨g,0,none⟩),.pointer (some ⟨d,0,none⟩),.agg #[.int .i64 h,.int .i64 z,.int .i64 E,.slice G J O,.int .i64 j,.int .i64 k,.int .i64 b,.slice T U S,.slice F I D,.string M,.int .i64 x,.int .i64 y]] W λe w'=>e=.returned (.bool true)/\Cx Z w' g (N+5) L R/\Fa Z w w'):=λW hW=>by
  have t:=l.below hW;obtain⟨gb,db,yb,a7,m,n,a8,es,Bb,vF,vB,vC,vX,aC,aB,aF,X,hX,hs⟩:=t.dt d (List.mem_of_getElem? A);refine⟨(hW.block _ (Qb f).1).trans f,(rj _ _ _ _ _ _ x y _ _ _ _ _ _ _ _ _ _ t.bk t.n9 hN hX.here hs).mono (λ_ _ q=>?_)⟩;obtain⟨⟨o',c',a2⟩,hK⟩:=t.book q.2;exact⟨q.1,⟨o',c',_,_,rs,s,a2,C,B⟩,(r.trans (Fa.of_below hW)).trans hK⟩
 have aG:0<=(i:Int):=o_;have aE:i<(s.length:Int):=o_;have a6:((s.length:Int)==0)=_:=beq_eq_false_iff_ne.2 o_;clear l V Q A u C B f r;go_upto_region 14 with fail;go_cut [6] (λv wx=>v=.pointer (some ⟨d,0,none⟩)/\Hid (E_ w1 wx))
 case first=>
  go_region_held3 (λw'=>w'.cell? (A_ g 2)=some (L_ q s.length p)/\w'.cell? (A_ w.heap.size 1)=some (I_ z)/\w'.cell? (A_ q i)=some (P_ d)) (go_keep) (first|(go_at_call 74;refine(P _).mono ?_;rintro e w' ⟨rfl,a4⟩;obtain rfl:=a4.symm))
  all_goals go_wp2
  all_goals go_meet
  all_goals exact⟨rfl,bz_.drew⟩
 case rest=>
 obtain⟨rfl,H⟩:=hcut;obtain⟨f,hC⟩:=HA wc H;have HC:=hdc hC;clear HA H c2 s0 Y dq P a6 hC;generalize wc=w2 at *;have s0:=cR_ 0 f;have Y:=cR_ 1 f;have s2:=cR_ 2 f;have s3:=cR_ 3 f;have s4:=cR_ 4 f;have s5:=cR_ 5 f;have s6:=cR_ 6 f;have s7:=cR_ 7 f;have s8:=cR_ 8 f;have s9:=cR_ 9 f;have a1:=cR_ 10 f;have a5:=cR_ 11 f;clear f;go_wp2_with fail
 refine HC.mono ?_;rintro e w' ⟨rfl,Q⟩
 have HP:=show Hid _ from Q
 clear Q HC s0 Y s2 s3 s4 s5 s6 s7 s8 s9 a1 a5;go_wp2;go_ret;exact⟨rfl,HP⟩
def ZiN Z g N L R d w (b:Cx Z w g N L R)(h:R<=10000000)(i:N<=10000000)(j:L+d.st.size<=200000000000000)(f:OpR w d)(c:d.fl<=2097152)(k:5<=d.kd)(a:d.kd<=12):C_ 41 #[.pointer (some ⟨g,0,none⟩),.agg #[.int .i64 d.kd,.int .i64 d.pk,.int .i64 d.bb,.slice d.fa d.fl d.fc,.int .i64 d.bins,.int .i64 d.size,.int .i64 d.budget,.slice d.va d.vl d.vc,.slice d.wa d.wl d.wc,.string d.st,.int .i64 d.x,.int .i64 d.y]] w λe w'=>e=.returned (.bool true)/\Cx Z w' g (N+5) (L+d.st.size) (R+1)/\Fa Z w w':=by
 by_cases h7:d.kd<=7
 exact(Zgm Z g N L R _ _ _ _ _ _ _ _ _ _ _ _ _ _ _ _ _ _ _ _ _ w b h j f.feats c o_).mono (λ_ _ q=>⟨q.1,q.2.1.more o_ qa_ qa_,q.2.2⟩);exact(ZiM Z g N L R _ _ _ _ _ _ _ _ _ _ _ _ _ _ _ _ _ _ w b i o_ a).mono (λ_ _ q=>⟨q.1,q.2.1.more qa_ o_ o_,q.2.2⟩)
def Cx.sub{Z a w g N L R}(h:Cx Z w g N L R)(i:∀k,a k->Z k):Cx a w g N L R:=by obtain⟨o,c,b,l,f,j,h,e,d⟩:=h;exact⟨o,c,b,l,f,j,⟨h.bk,h.n9,h.c1,h.r1,h.o1,h.c2,h.r2,h.o2,h.rd,h.sz,h.dt,λk hk=>h.lo k (i k hk)⟩,e,d⟩
def Fa.low{Z w w' g}(h:Fa Z w w')(hz:∀k,k<g->Z k)(hg:g<=w.heap.size):Below g w w':=Aa.to_below h hg (λq hq=>w_)
def Grp.empty{w o c i tl tm N F}(h0:c[i]? =some (.slice none 0 0))(h1:c[i+1]? =some (.slice none 0 0)):Grp w o c i tl tm F N:=
 ⟨.slice none 0 0,.slice none 0 0,[],[],h0,h1,rn_,λk hk=>(by cases hk),rn_,λk hk=>(by cases hk),rfl,qg_,λj hj=>by cases hj⟩
def To(Z:Nat->Prop)[DecidablePred Z](w:World)(g:Nat)(ve vm:Value)(k:Nat):Nat:=if Z k then 98 else if k=g then 0 else if ve.ownBlock=some k then 4 else if vm.ownBlock=some k then 5 else if k<w.heap.size then 13 else 99
def Gv.play{Z w}{g N:Nat}{c Q u}(h:Gv w g c Q u)(E:u<=N)(e:∀j,j≠0->j≠4->j≠5->j<12->c[j]? =some (.slice none 0 0))(C:∀k,Z k->k<w.heap.size/\(k<g∨∃cur ty,w.heap[k]? =some (.cells cur ty (0,0))/\ty≠29/\ty≠3/\ty≠98/\ty≠90)):Cx Z w g N 0 0:=by
 haveI:DecidablePred Z:=λ_=>Classical.propDecidable _
 obtain⟨vu,l,v,W,P,y,q,F,X,R,T,J,Y,m,b,D,S,o,L,A,G,s⟩:=h;have U:=q.lt
 have z:∀k ty cur,w.heap[k]? =some (.cells cur ty (0,0))->g<=k->(ty=29∨ty=3∨ty=98∨ty=90)->¬Z k:=λk ty cur hk hg ht hz=>w_
 have p:∀k,l.ownBlock=some k->k≠g/\¬Z k/\k<w.heap.size:=λk hk=>by
  obtain⟨cur,f⟩:=Ad m hk;have:=rl_ m k hk
  grind
 have H:∀k,v.ownBlock=some k->k≠g/\¬Z k/\k<w.heap.size/\l.ownBlock≠some k:=λk hk=>by
  obtain⟨cur,f⟩:=Ad b hk;have:=rl_ b k hk
  grind [Ad]
 have O:=z g _ c q qa_ s_
 refine⟨To Z w g l v,c,.slice _ 0 0,.slice _ 0 0,[],[],⟨⟨q,?_,F,⟨u,J,o_,E⟩,⟨l,v,P,y.map (Value.int .i64),R,T,Nm m qg_,λk hk=>?_,?_,λk hk=>?_,by simp[o],o_,λj hj=>?_⟩,Grp.empty (e 6 d_ d_ d_ d_) (e 7 d_ d_ d_ d_),Grp.empty (e 8 d_ d_ d_ d_) (e 9 d_ d_ d_ d_),Grp.empty (e 10 d_ d_ d_ d_) (e 11 d_ d_ d_ d_)⟩,λk hk=>?_,e 1 d_ d_ d_ d_,rn_,λk hk=>(by cases hk),e 2 d_ d_ d_ d_,rn_,λk hk=>(by cases hk),λi r hr=>(by simp at hr),λr hr=>(by cases hr),λd hd=>(by cases hd),λk hk=>⟨(C k hk).1,by unfold To;rw[if_pos hk]⟩⟩,qg_,qg_⟩
 ·unfold To
  grind
 ·obtain⟨n1,n2,_⟩:=p k hk;unfold To
  grind
 rw[List.length_map];exact Nm b qg_
 ·grind [To]
 ·intro V t;obtain⟨M,I⟩:=s j hj;refine⟨y.getD j 0,?_,?_⟩
  ·grind
  refine Ft.touch M t (λk cur hk f n=>n ?_);have B:=I k hk;unfold To;rw[if_neg (z k 98 cur f o_ s_),if_neg o_,if_neg (λe2=>by obtain⟨a,x⟩:=Ad m e2;grind),if_neg (λe2=>by obtain⟨a,x⟩:=Ad b e2;grind),if_pos (Qb f).1]
 grind [To]
def zc(d:OpD):List Value:=[I_ d.kd,I_ d.pk,I_ d.bb,.slice d.fa d.fl d.fc,I_ d.bins,I_ d.size,I_ d.budget,.slice d.va d.vl d.vc,.slice d.wa d.wl d.wc,.string d.st,I_ d.x,I_ d.y]
def Zll{W b c f d}(h:W.heap[b]? =some (.cells f 93 (0,0)))(e:(f.toList.drop c).take 12=zc d):OpC W b c d:=by
 have a:∀j v,(zc d)[j]? =some v->W.cell? (A_ b (c+j))=some v:=λj v hj=>by grind [cell_of_row]
 exact⟨a 0 _ rfl,a 1 _ rfl,a 2 _ rfl,a 3 _ rfl,a 4 _ rfl,a 5 _ rfl,a 6 _ rfl,a 7 _ rfl,a 8 _ rfl,a 9 _ rfl,a _ _ rfl,a _ _ rfl⟩
def io(G:Nat):Nat->OpD
 |1=>{kd:=5,pk:=0,bb:=0,fa:=some ⟨G+2,0,none⟩,fl:=2,fc:=2,bins:=2,size:=2,budget:=1,va:=none,vl:=0,vc:=0,wa:=none,wl:=0,wc:=0,st:=⟨#[]⟩,x:=0,y:=0,fw:=λi=>i==1,fs:=λi=>if i=0 then 1 else 0,ft:=λi=>if i=1 then 1 else 0,vz:=[],wz:=[]}
 |2=>{kd:=6,pk:=0,bb:=0,fa:=none,fl:=0,fc:=0,bins:=0,size:=0,budget:=0,va:=none,vl:=0,vc:=0,wa:=none,wl:=0,wc:=0,st:=⟨#[49,44,50,46,53,44,97,10,50,44,45,49,44,10,57,44,44,98,10,49,44,48,44,97,10]⟩,x:=0,y:=0,fw:=λ_=>false,fs:=λ_=>0,ft:=λ_=>0,vz:=[],wz:=[]}
 |3=>{kd:=7,pk:=0,bb:=0,fa:=none,fl:=0,fc:=0,bins:=0,size:=0,budget:=0,va:=none,vl:=0,vc:=0,wa:=none,wl:=0,wc:=0,st:=⟨#[]⟩,x:=0,y:=0,fw:=λ_=>false,fs:=λ_=>0,ft:=λ_=>0,vz:=[],wz:=[]}
 |4=>{kd:=5,pk:=0,bb:=0,fa:=some ⟨G+3,0,none⟩,fl:=1,fc:=1,bins:=3,size:=4,budget:=0,va:=none,vl:=0,vc:=0,wa:=none,wl:=0,wc:=0,st:=⟨#[]⟩,x:=0,y:=0,fw:=λ_=>false,fs:=λ_=>0,ft:=λ_=>0,vz:=[],wz:=[]}
 |_=>{kd:=15,pk:=0,bb:=0,fa:=none,fl:=0,fc:=0,bins:=0,size:=0,budget:=0,va:=none,vl:=0,vc:=0,wa:=none,wl:=0,wc:=0,st:=⟨#[]⟩,x:=500,y:=0,fw:=λ_=>false,fs:=λ_=>0,ft:=λ_=>0,vz:=[],wz:=[]}
structure Zal(w:World)(G)(arr):Prop where
 f2:w.heap[G+2]? =some (.cells #[.bool false,I_ 1,I_ 0,.bool true,I_ 0,I_ 1] 51 (0,0))
 f1:w.heap[G+3]? =some (.cells #[.bool false,I_ 0,I_ 0] 51 (0,0))
 op:w.heap[G+4]? =some (.cells arr 93 (0,0))
 at_:∀k,1<=k->k<=5->(arr.toList.drop (k*12)).take 12=zc (io G k)
def gZ(g G:Nat)(k:Nat):Prop:=k<g∨k=G+2∨k=G+3∨k=G+4
def Zal.kept{w c g G b}(h:Zal w G b)(d:Fa (gZ g G) w c):Zal c G b:=by have a:∀{k:_} {ob:_},_[k]? =some ob->_:=λh1 h2=>d.at_ h1 (λe=>e h2);exact⟨a h.f2 (.inr (.inl rfl)),a h.f1 (.inr (.inr (.inl rfl))),a h.op (.inr (.inr (.inr rfl))),h.at_⟩
def Zal.reads{w G e}(h:Zal w G e){k}(f:1<=k)(g:k<=4):OpR w (io G k)/\(io G k).fl<=2/\(io G k).st.size<=25/\5<=(io G k).kd/\(io G k).kd<=12:=by
 have c:=(Qb h.f2).1;have d:=(Qb h.f1).1;have a:Cq w none 0 []:=⟨rfl,s_,.inl rfl⟩
 rcases(show k=1∨k=2∨k=3∨k=4 by omega) with rfl|rfl|rfl|rfl
 ·refine⟨⟨by simp[io,maxLen],by simp[io,maxLen],by simp[io,maxLen],.inr ⟨G+2,0,rfl,by simp[io,maxLen],λ_=>c,λi b=>?_,λi b=>?_,λi b=>?_⟩,a,a,λ_=>⟨rfl,rfl⟩,λ_=>⟨rfl,rfl⟩⟩,Qa 2,qg_,Int.le_refl 5,(by decide:(5:Int)<=12)⟩
  all_goals
   have b:i=0∨i=1:=by simp[io] at b;omega
   rcases b with rfl|rfl
  exact cq_ 0 _ _ _ h.f2;exact cq_ 3 _ _ _ h.f2;exact cq_ 1 _ _ _ h.f2;exact cq_ 4 _ _ _ h.f2;exact cq_ 2 _ _ _ h.f2;exact cq_ 5 _ _ _ h.f2
 exact⟨⟨by simp[io,maxLen],by simp[io,maxLen],by simp[io,maxLen],.inl rfl,a,a,λ_=>⟨rfl,rfl⟩,λ_=>⟨rfl,rfl⟩⟩,qg_,qa_,(by decide:(5:Int)<=6),(by decide:(6:Int)<=12)⟩;exact⟨⟨by simp[io,maxLen],by simp[io,maxLen],by simp[io,maxLen],.inl rfl,a,a,λ_=>⟨rfl,rfl⟩,λ_=>⟨rfl,rfl⟩⟩,qg_,qg_,(by decide:(5:Int)<=7),(by decide:(7:Int)<=12)⟩;refine⟨⟨by simp[io,maxLen],by simp[io,maxLen],by simp[io,maxLen],.inr ⟨G+3,0,rfl,by simp[io,maxLen],λ_=>d,λi b=>?_,λi b=>?_,λi b=>?_⟩,a,a,λ_=>⟨rfl,rfl⟩,λ_=>⟨rfl,rfl⟩⟩,(by decide:1<=2),qg_,Int.le_refl 5,(by decide:(5:Int)<=12)⟩
 all_goals
  have b:i=0:=(by simp[io] at b;omega);subst b
 exact cq_ 0 _ _ _ h.f1;exact cq_ 1 _ _ _ h.f1;exact cq_ 2 _ _ _ h.f1
def Za0{U w wc d g c f e}(q:Yh U g c 0 wc e d)(p:Below w.heap.size w wc)(a:Zal wc w.heap.size f)(l:∀j,j<12->c[j]? =some (.slice none 0 0)):Cx (gZ g w.heap.size) d g 1 0 0/\Fa (gZ g w.heap.size) wc d:=by
 obtain⟨_,v,o,r,i,x,y,t,b,h⟩:=q;have n:=h _ _ _ a.f2 d_ d_ d_;have m:=h _ _ _ a.f1 d_ d_ d_;have u:=h _ _ _ a.op d_ d_ d_;have z:=p.size;refine⟨i.play o_ (λj n0 n4 n5 n12=>(t j n0 n4 n5 o_).trans (l j n12)) (λk hk=>?_),⟨b.os,b.tape,b.output,b.size,λk hk hn=>?_⟩⟩
 ·rcases hk with e|e|e|e
  exact⟨by have:=i.lt;omega,.inl e⟩
  ·grind
  ·grind
  grind
 have s:=Classical.not_not.1 hn
 rcases s with e|e|e|e
 exact b.block k e;subst e;exact n.trans a.f2.symm;subst e;exact m.trans a.f1.symm;subst e;exact u.trans a.op.symm
def ZiO g c j f U d w (h:Gv w g c j f)(n:∀L∈j,Yf U L)(s:f<=9000000)(q:U.length<=2097152)(a:OpR w d)(o:d.vl<=2097152)(p:d.wl<=2097152)(l:∀z∈d.vz,Ga z∈U)(i:d.kd=2):C_ 41 #[.pointer (some ⟨g,0,none⟩),.agg #[.int .i64 d.kd,.int .i64 d.pk,.int .i64 d.bb,.slice d.fa d.fl d.fc,.int .i64 d.bins,.int .i64 d.size,.int .i64 d.budget,.slice d.va d.vl d.vc,.slice d.wa d.wl d.wc,.string d.st,.int .i64 d.x,.int .i64 d.y]] w λe w'=>Yh U g c f w e w':=by
 have k:=h.lt;rw[i];have b:Hid (Below _ w (w.alloc (.cells #[I_ d.kd,I_ d.pk,I_ d.bb,.slice d.fa d.fl d.fc,I_ d.bins,I_ d.size,I_ d.budget,.slice d.va d.vl d.vc,.slice d.wa d.wl d.wc,.string d.st,I_ d.x,I_ d.y] 93))):=bA_;rw[i] at b;have t:=hdc (ZdL g c j f U d.pk d.bb d.fa d.fl d.fc d.bins d.size d.budget d.va d.vl d.vc _ _ d.wc d.st d.x d.y _ _ _ (h.below b) n s q (Eo a.vz b (Rr a.vz)) (Eo a.wz b (Rr a.wz)) a.vnil a.wnil o p l);clear h n a l i;go_enter Tryz.func41,Tryz.ntmps41;go_wp2_with fail
 refine t.mono ?_;rintro e w' m;have r:=x1_ (m.back b k);obtain⟨rfl,_⟩:=m;go_wp2;go_ret;exact r
def Zce(w wc:World)(g:Nat)(arr:Array Value)(k:Nat)(wr:World):Prop:=Cx (gZ g w.heap.size) wr g (5*k) (25*k) k/\Fa (gZ g w.heap.size) wc wr/\Zal wr w.heap.size arr
def Zce.next{w wc wr w2 g k arr}{d:OpD}(h:Zce w wc g arr k wr)(hE:Cx (gZ g w.heap.size) w2 g (5*k+5) (25*k+d.st.size) (k+1))(hK:Fa (gZ g w.heap.size) wr w2)(hd:d.st.size<=25):Zce w wc g arr (k+1) w2:=
 ⟨hE.more o_ o_ qa_,h.2.1.trans hK,h.2.2.kept hK⟩
def Za1 g c w (t:Gv w g c [] 0)(D:∀j,j<12->c[j]? =some (.slice none 0 0)):C_ 40 #[.pointer (some ⟨g,0,none⟩),.int .i64 12] w λe w'=>e=.returned (.bool true)/\Cx (λk=>k<g) w' g 30 150 6/\Below g w w':=by
 have HS:=x1_ t;have HC:=x1_ D;have u:=t.lt;clear t D;go_enter Tryz.func40,Tryz.ntmps40;go_upto_region 1 with fail;go_cut [5] (λv wx=>v=.slice (some ⟨w.heap.size+4,0,none⟩) 6 6/\Zkz w wx/\∃b,Zal wx w.heap.size b)
 case first=>
  go_wp2;go_meet
  refine⟨rfl,?_,?_⟩
  ·refine⟨?_,?_,?_,?_,?_,?_,?_,?_,?_,?_,?_,?_,?_,?_,?_,?_,?_,?_,?_,?_,?_,?_,?_,?_,?_⟩;exact(((bA_.alloc u_ _).alloc u_ _).alloc u_ _).alloc u_ _;simp
   all_goals go_simp
  refine⟨_,?_,?_,et _ _ _ s_,λk h1 h5=>?_⟩;exact(hc_ s_).trans ((hc_ s_).trans (et _ _ _ s_));exact(hc_ s_).trans (et _ _ _ s_)
  rcases(show k=1∨k=2∨k=3∨k=4∨k=5 by omega) with rfl|rfl|rfl|rfl|rfl<;>rfl
 case rest=>
  obtain⟨rfl,G,b,I⟩:=hcut;have HG:=x1_ G;have m:=x1_ I;have f:=x1_ G.bel;clear I;obtain⟨_,a2,W,_,_,_,_,_,f1,f2,f3,f4,f5,f6,f7,f8,f9,B,y,_,_,_,_,_,_⟩:=G;go_wp2_with fail
  go_loopw [6] (λi wr=>∃k:Nat,k<=6/\i=.int .i64 k/\Hid ((k=0/\wr=wc)∨(0<k/\Zce w wc g b k wr))) (λi _=>6-(intOf i).toNat)
  case atStart=>grind
  case round=>
   obtain⟨k,q,rfl,x⟩:=hrel
   by_cases h0:k=0
   ·subst h0
    obtain rfl:wr=wc:=by
     rcases x.out with h|h
     exact h.2;omega
    go_wp2_with fail
    refine(ZiO g c _ 0 [5,3] _ _ (HS.below f) s_ o_ s_ (qe HG) (by simp[Gn]) (by simp[Gn]) (λz hz=>by
     simp[Gn] at hz
     rcases hz with rfl|rfl|rfl
     exact List.mem_cons_self;exact List.mem_cons_of_mem _ List.mem_cons_self
     exact List.mem_cons_self) rfl).mono ?_
    rintro e H A;obtain rfl:e=.returned (.bool true):=A.1;have a:Hid (Zce w wr g b 1 H):=by obtain⟨X,F⟩:=Za0 A f m HC;exact⟨X.more o_ o_ o_,F,m.kept F⟩
    clear A;go_wp2;go_roundw;case rel=>grind
    case measure=>exact z_
   have a:Hid (Zce w wc g b k wr):=by
    rcases x.out with h|h
    omega;exact h.2
   clear W f1 f2 f3 f4 f5 f6 f7 f8 f9 B y x
   by_cases h6:k=6
   ·subst h6;have Z:Hid (Cx _ _ g 30 150 6/\_):=⟨a.1.sub (λk q=>.inl q),(f.mono (Nat.le_of_lt u)).trans (a.2.1.low (λk q=>.inl q) o_)⟩;clear a;go_wp2;go_ret;exact⟨rfl,Z⟩
   obtain⟨r,T,C,R,S,E,M,L,Q,P,o,n⟩:=Zll a.2.2.op (a.2.2.at_ k o_ o_);have a1:0<=(k:Int):=o_;have a0:(k:Int)<6:=o_
   by_cases h5:k=5
   ·subst h5;have d0:wr.cell? ⟨_,60,_⟩=some (.int _ 15):=r;have s:Hid (Zce w _ g _ 6 _):=⟨a.1.more o_ o_ o_,a.2⟩;clear r T C R S E M L Q P o n a;go_wp2
    grind [intOf]
   obtain⟨J,V,N,U,Y⟩:=a.2.2.reads (k:=k) o_ o_;have l:=x4_ J V N U;clear J V N U;generalize io w.heap.size k=d at *;go_wp2_with fail
   refine(ZiN _ g _ _ k d _ a.1 o_ o_ (by have:=l.2.2.1;omega) l.1 (by have:=l.2.1;omega) l.2.2.2 Y).mono ?_;rintro e H ⟨rfl,O,hK⟩;have s:=x1_ (a.next O hK l.2.2.1);clear O hK r T C R S E M L Q P o n a l;go_wp2;go_roundw;case rel=>grind
   case measure=>exact z_
structure vi(len)(D:Nat->OpD):Prop where
 many:len<=1048576
 fl:∀i,i<len->(D i).fl<=1048576
 st:∀i,i<len->(D i).st.size<=1048576
def Zd4(g k:Nat)(W w:World):Prop:=Cx (λk=>k<g) w g (30+5*k) (150+1048576*k) (6+k)/\Below g W w
def Zao(g N L k:Nat)(W w:World)(v1 v2:Value)(rs:List RP)(ds:List Nat):Prop:=(∃o c,Es (λk=>k<g) w o g c (N+6000*k) L v1 v2 rs ds)/\Below g W w
def Zao.next{g N L k d W w l f p b}(h:Zao g N L k W w l f p b)(B:N+6000*k<=9000000)(s:b[k]? =some d)(y:g<=w.heap.size):C_ 42 #[.pointer (some ⟨g,0,none⟩),.pointer (some ⟨d,0,none⟩)] w λe w'=>e=.returned (.bool true)/\Zao g N L (k+1) W w' l f p b:=by obtain⟨⟨o,c,a⟩,v⟩:=h;obtain⟨M,P,J,i,m,n,j,I,H,F,G,E,O,x,u,A,X,z,D⟩:=a.dt d (List.mem_of_getElem? s);refine(Zjm (Fx.of_below a.bk bz_ a.n9 qa_) B z d_ d_ D).mono (λ_ _ q=>⟨q.1,?_⟩);obtain⟨⟨r,t,C⟩,hK⟩:=a.book q.2;exact⟨⟨r,t,w_⟩,v.trans (hK.low (λ_ h=>h) y)⟩
def ZbA a f H D w (B:ay w a f D)(C:vi f D):C_ 15 #[.slice a f H,.int .i64 5,.int .i64 12] w λe w'=>e=.returned (.bool true)/\Below w.heap.size w w':=by
 obtain⟨_,B⟩:=B;have N:=C.many;have HZ:=x1_ C;have s:=x1_ B;clear B C;have Q:=x1_ (Zgl w);have A:Hid (Below _ w (w.alloc (.cells #[.slice none 0 0,.slice none 0 0,.slice none 0 0,.slice none 0 0,.slice none 0 0,.slice none 0 0,.slice none 0 0,.slice none 0 0,.slice none 0 0,.slice none 0 0,.slice none 0 0,.slice none 0 0,I_ 0] 90))):=bA_;go_enter Tryz.func15,Tryz.ntmps15;go_wp2_with fail
 refine(Za1 _ _ _ Q (λj hj=>by rcases(show j=0∨j=1∨j=2∨j=3∨j=4∨j=5∨j=6∨j=7∨j=8∨j=9∨j=10∨j=11 by omega) with rfl|rfl|rfl|rfl|rfl|rfl|rfl|rfl|rfl|rfl|rfl|rfl<;>rfl)).mono ?_;rintro e w1 ⟨rfl,hp,l⟩;have I:Hid (Zd4 _ 0 w _):=⟨hp,A.trans l⟩;clear Q A hp l;go_wp2_with fail
 go_loopw [9] (λi wr=>∃k:Nat,k<=f/\i=.int .i64 k/\Hid (Zd4 w.heap.size k w wr)) (λi _=>f-(intOf i).toNat)
 case atStart=>grind
 case round=>
  obtain⟨k,hk,rfl,n⟩:=hrel;clear I
  by_cases hlt:k<f
  ·rcases s.out with h0|⟨b,a0,rfl,l,T⟩
   omega;obtain⟨y,z⟩:=T k hlt;obtain⟨c0,c1,P,Z,c4,R,V,U,Y,X,v,u⟩:=y.below n.2 l;have HR:=x1_ (z.below n.2);have a1:=HZ.fl k hlt;have a3:=HZ.st k hlt;clear y z T
   by_cases hkd:5<=(D k).kd/\(D k).kd<=12
   ·obtain⟨E,M⟩:=hkd;go_wp2_with fail
    refine(ZiN _ _ _ _ _ _ _ n.1 o_ o_ o_ HR o_ E M).mono ?_;rintro e S ⟨rfl,W,hK⟩;have I:Hid (Zd4 _ (k+1) w _):=⟨W.more o_ o_ o_,n.2.trans (hK.low (λ_ h=>h) n.2.size)⟩;clear c0 c1 P Z c4 R V U Y X v u W hK n;go_wp2;go_roundw;case rel=>grind
    case measure=>exact z_
   have I:Hid (Zd4 _ (k+1) w _):=⟨n.1.more o_ o_ o_,n.2⟩;clear c1 P Z c4 R V U Y X v u;go_wp2
   all_goals
    grind [intOf]
  obtain⟨⟨o,c,v1,v2,rs,m,g,a6,a5⟩,l⟩:=n;obtain⟨F,p2,rfl,hq⟩:=Fj g.r2;rw[List.length_map] at *;have r:Hid (Zao _ (_+_) _ 0 w _ _ _ _ _):=⟨⟨o,c,g⟩,l⟩
  have J:Hid (0<m.length->∃q,F=some ⟨q,0,none⟩):=λh=>w_
  clear g l hq s;go_wp2_with fail
  go_loopw [10] (λi wr=>∃j:Nat,j<=12/\j<=m.length/\i=.int .i64 j/\Hid (Zao w.heap.size (30+5*k) (150+1048576*k) j w wr v1 (.slice F m.length p2) rs m)) (λi _=>12-(intOf i).toNat)
  case atStart=>grind
  case round=>
   clear r;obtain⟨j,O,a4,rfl,r⟩:=hrel;obtain⟨⟨o,c,g⟩,l⟩:=r.out;have e2:wr.cell? (A_ w.heap.size 2)=some (.slice F m.length p2):=by rw[g.bk.wb.cell];exact g.c2
   by_cases hj:j<m.length/\j<12
   ·obtain⟨q,rfl⟩:=J o_;obtain⟨d,L⟩:∃d,m[j]? =some d:=⟨m[j],Qd hj.1⟩;have dq:wr.cell? _=some (.pointer _):=Qz (x:=ptD d) (by have:=g.r2;rw[List.length_map] at this;exact this) (by rw[List.getElem?_map,L];rfl)
    have HC:=hdc<|r.next o_ L (Nat.le_of_lt g.bk.wb.lt)
    have g1:j<(m.length:Int):=o_;have g2:(j:Int)<12:=o_;have g3:0<=(j:Int):=o_;clear g l L r;go_wp2_with fail
    refine HC.mono ?_;rintro e S ⟨rfl,hT⟩
    have G:=show Hid _ from hT
    clear hT HC e2 dq;go_wp2;go_roundw;case rel=>exact⟨j+1,o_,o_,g_,G⟩
    case measure=>exact z_
   have HL:=hdc<|g.bk.looks o_
   have HB:=x1_ l;have a7:=g.bk.wb.lt;clear g l r;go_upto_region 18 with fail
   all_goals
    go_wp2_with fail
    refine HL.mono ?_;rintro e S ⟨rfl,t⟩;have HF:=x1_ (HB.trans (t.mono o_));clear t;go_wp2;go_ret;exact⟨rfl,HF⟩
def ZdC a b c D w (f:ay w a b D)(g:vi b D):C_ 5 #[.slice a b c] w λe w'=>e=.returned (.bool true)/\Below w.heap.size w w':=by
 go_enter Tryz.func5,Tryz.ntmps5;go_wp2_with fail
 refine(ZbA a _ _ D _ f g).mono ?_;rintro e h ⟨rfl,d⟩;go_wp2;go_ret;exact⟨rfl,d⟩
end Go.Proofs.YtfcgnpchbcmdeaaGreat
