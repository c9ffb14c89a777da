import Derived.Test.YtfcgnpchbcmdeaaGreatZrbg
import Derived.Test.YtfcgnpchbcmdeaaGreatZrbn
namespace Go.Proofs.YtfcgnpchbcmdeaaGreat
set_option linter.all false
set_option maxRecDepth 100000
set_option maxHeartbeats 8000000
open Go.RowKit
def bdI(e:ES):List Int:=if e.wd=true then[] else e.bs
def bdS(e:ES):List ByteArray:=if e.wd=true then e.ww else[]
structure ZlG(w w':World)(vb vw)(e):Prop where
 nb:Ag w' w.heap.size vb (bdI e)
 nw:Cc w' w.heap.size vw (bdS e)
 low:E_ w w'
def Zl9(w:World)(e:ES)(x:Ending)(w':World):Prop:=∃vb vw,x=.returned (.tuple #[vb,vw])/\ZlG w w' vb vw e
def Zg1{p:Prop}(h:p:=by
 go_wp2;go_ret2
 have eL:=List.length_eq_zero_iff.1 HN.2;have hnew:(w1.alloc (.cells #[] 9)).heap[_]? =_:=hn_;have hrw:(w1.alloc _).ownsRow w.heap.size 9 1 _ 0 []:=⟨rfl,.inr ⟨w1.heap.size,0,#[],rfl,o_,hnew,qa_,d_,rfl,rfl⟩⟩;refine⟨_,_,rfl,?_,?_,HB1.alloc o_ _⟩;rw[HB.1];exact World.ownsRow_nil _ _ 3 1
 rw[HB.2,eL];exact hrw):p:=h
def Zg2{p:Prop}(h:p:=by
 go_wp2;go_ret2
 have eL:=List.length_eq_zero_iff.1 HN.1;have hnew:(w1.alloc (.cells #[] 3)).heap[_]? =_:=hn_;have hrw:(w1.alloc _).ownsRow w.heap.size 3 1 _ 0 []:=⟨rfl,.inr ⟨w1.heap.size,0,#[],rfl,o_,hnew,qa_,d_,rfl,rfl⟩⟩;refine⟨_,_,rfl,?_,?_,HB1.alloc o_ _⟩;rw[HB.1,eL];exact hrw
 rw[HB.2];exact Cc.nil _ _):p:=h
def xx db f vK vB vX a0 U X D w (h:Sm w db vK vB vX a0 U X D)(hf:f<D.ks.length)(a5:(D.ks.getD f Ay).e.bs.length<=1000)(a6:(D.ks.getD f Ay).e.ww.length<=1000):C_ 53 #[.pointer (some ⟨db,0,none⟩),.int .i64 f] w λe w'=>Zl9 w (D.ks.getD f Ay).e e w':=by
 obtain⟨qk,cK,z,G,F,H,R,a1,M,k1,k2,k3,hI,hS⟩:=h.kn.at hf;subst R;have d0:=cR_ 0 h.ds.blk;have a4:=(Qb h.ds.blk).1;have HI:=x1_ hI;have HS:=x1_ hS;have a2:0<=(f:Int):=o_;have a3:f<(D.ks.length:Int):=o_;clear h hI hS;generalize D.ks.length=nk at *;generalize (D.ks.getD f Ay).d=dd at *;generalize (D.ks.getD f Ay).e=es at *;generalize hnb:es.bs.length=nb at *;generalize hnw:es.ww.length=nw at *;have HN:=x2_ hnb hnw;clear hnb hnw
 cases hwd:es.wd
 ·rw[hwd] at M;have HB:Hid (bdI es=es.bs/\bdS es=[]):=(by show _/\_;unfold bdI bdS;grind);clear hwd;go_enter Tryz.func53,Tryz.ntmps53;go_upto_region 4 with fail;generalize hW1:w.alloc (.cells #[.bool false,.slice z nb G,.slice F nw H,I_ (dd:Nat)] 172)=w1;have n:E_ w w1:=(by rw[<- hW1];exact bA_);have o:w1.heap[w.heap.size]? =some (.cells #[.bool false,.slice z nb G,.slice F nw H,I_ dd] 172 (0,0)):=(by rw[<- hW1];exact hn_);have O:=(Qb o).1;have x1:=cR_ 1 o;have HB1:=x1_ n;clear hW1 o M k1 k2 k3 d0;have m:w1.ownsRow 0 3 1 (.slice z nb G) nb (es.bs.map (Value.int .i64)):=(by have t:=(Aa.of_below (S:=λ_=>False) n).row HI (λ_ _=>id);rw[HN.1] at t;exact t);have a:=x1_ m;clear n m
  by_cases h0:nb=0
  ·subst h0
   rcases z with _|ad
   exact Zg2;exact Zg2
  have Q:∃q,z=some ⟨q,0,none⟩:=by
   rcases a.out.2 with⟨e,t⟩|⟨g,cap,cur,e,_⟩
   exact absurd t h0
   grind
  obtain⟨q,rfl⟩:=Q;obtain⟨Y,s,E,A,v⟩:=info_parts ZhS
  have B:q<w1.heap.size:=by
   rcases a.out.2 with⟨e,_⟩|⟨g,cap,cur,e,_,hh,_⟩
   ·cases e
   grind
  have k:Hid ((w1.alloc _).ownsRow w.heap.size 3 1 _ 0 []):=⟨rfl,.inr ⟨w1.heap.size,0,#[],rfl,o_,hn_,qa_,d_,rfl,rfl⟩⟩;have c:Hid ((es.bs.map (Value.int .i64)).length=nb*1):=by show _=_;rw[List.length_map,HN.1,Nat.mul_one]
  have i:Hid (∀j u,(es.bs.map (Value.int .i64))[j]? =some u->(w1.alloc (.cells #[] 3)).cell? (((A_ q 0):Addr).add j)=some u):=λj u hu=>by have W:j<nb*1:=(by rw[<- c];grind);have r:((A_ q 0):Addr).add j=(A_ q j):=(by unfold Addr.add;split<;>simp_all);rw[r];rw[((br_ w1.heap.size w1).alloc qa_ (.cells #[] 3)).cell (p:=(A_ q j)) B];rw[World.ownsRow.cellAt a j W];exact hu
  have C:Hid (∀u∈es.bs.map (Value.int .i64),u.oneCell'=true):=λu hu=>by obtain⟨y,_,rfl⟩:=List.mem_map.1 hu;rfl
  go_wp2_with (at_builtin;refine Ab rfl (.tmp 22) (.tmp 25) 25 rfl _ 3 Y _ 1 8 Tryz.underlying25 s E A v rfl d_ _ 0 [] rfl k _ nb G _ rfl c i C o_ m_ o_ t_ ?_)
  intro V I T;obtain⟨L,J,N,_,q4,p4,x⟩:=T;have l:Hid (I.ownsRow w.heap.size 3 1 V nb (es.bs.map (Value.int .i64))/\E_ w I):=(by refine⟨L,?_⟩;exact(HB1.alloc o_ _).grown J t_ (by intro b P;simp[Value.ownBlock] at P;omega));subst x;clear L J N a k i;go_wp2;go_ret2
  have Z:=l.1;refine⟨_,_,rfl,?_,?_,l.2⟩;rw[HB.1];unfold Ag;rw[HN.1];exact(by simpa using Z);rw[HB.2];exact Cc.nil _ _
 rw[hwd] at M;have HB:Hid (bdI es=[]/\bdS es=es.ww):=(by show _/\_;unfold bdI bdS;grind);clear hwd;go_enter Tryz.func53,Tryz.ntmps53;go_upto_region 3 with fail;generalize hW1:w.alloc (.cells #[.bool true,.slice z nb G,.slice F nw H,I_ (dd:Nat)] 172)=w1;have n:E_ w w1:=(by rw[<- hW1];exact bA_);have o:w1.heap[w.heap.size]? =some (.cells #[.bool true,.slice z nb G,.slice F nw H,I_ dd] 172 (0,0)):=(by rw[<- hW1];exact hn_);have O:=(Qb o).1;have x1:=cR_ 2 o;have HB1:=x1_ n;clear hW1 o M k1 k2 k3 d0;have m:w1.ownsRow 0 9 1 (.slice F nw H) nw (es.ww.map Value.string):=(by have t:=(Aa.of_below (S:=λ_=>False) n).row HS (λ_ _=>id);rw[HN.2] at t;exact t);have a:=x1_ m;clear n m
 by_cases h0:nw=0
 ·subst h0
  rcases F with _|ad
  exact Zg1;exact Zg1
 have Q:∃q,F=some ⟨q,0,none⟩:=by
  rcases a.out.2 with⟨e,t⟩|⟨g,cap,cur,e,_⟩
  exact absurd t h0
  grind
 obtain⟨q,rfl⟩:=Q;obtain⟨Y,s,E,A,v⟩:=info_parts Zc8
 have B:q<w1.heap.size:=by
  rcases a.out.2 with⟨e,_⟩|⟨g,cap,cur,e,_,hh,_⟩
  ·cases e
  grind
 have k:Hid ((w1.alloc _).ownsRow w.heap.size 9 1 _ 0 []):=⟨rfl,.inr ⟨w1.heap.size,0,#[],rfl,o_,hn_,qa_,d_,rfl,rfl⟩⟩;have c:Hid ((es.ww.map Value.string).length=nw*1):=by show _=_;rw[List.length_map,HN.2,Nat.mul_one]
 have i:Hid (∀j u,(es.ww.map Value.string)[j]? =some u->(w1.alloc (.cells #[] 9)).cell? (((A_ q 0):Addr).add j)=some u):=λj u hu=>by have W:j<nw*1:=(by rw[<- c];grind);have r:((A_ q 0):Addr).add j=(A_ q j):=(by unfold Addr.add;split<;>simp_all);rw[r];rw[((br_ w1.heap.size w1).alloc qa_ (.cells #[] 9)).cell (p:=(A_ q j)) B];rw[World.ownsRow.cellAt a j W];exact hu
 have C:Hid (∀u∈es.ww.map Value.string,u.oneCell'=true):=λu hu=>by obtain⟨y,_,rfl⟩:=List.mem_map.1 hu;rfl
 go_wp2_with (at_builtin;refine Ab rfl (.tmp 17) _ 47 rfl _ 9 Y _ 1 16 Tryz.underlying47 s E A v rfl d_ _ 0 [] rfl k _ nw H _ rfl c i C o_ m_ o_ t_ ?_)
 intro V I T;obtain⟨L,J,N,_,q4,p4,x⟩:=T;have l:Hid (I.ownsRow w.heap.size 9 1 V nw (es.ww.map Value.string)/\E_ w I):=(by refine⟨L,?_⟩;exact(HB1.alloc o_ _).grown J t_ (by intro b P;simp[Value.ownBlock] at P;omega));subst x;clear L J N a k i;go_wp2;go_ret2
 have Z:=l.1;refine⟨_,_,rfl,?_,?_,l.2⟩;rw[HB.1];exact World.ownsRow_nil _ _ 3 1;rw[HB.2];unfold Cc;rw[HN.2];exact(by simpa using Z)
def ZlF(w:World)(e:ES)(x:Ending)(w':World):Prop:=∃vb vw,x=.returned (.tuple #[vb,vw,I_ 0])/\ZlG w w' vb vw e
def ZaW c n f D w (h:Mw w c n D)(k:D.ks.length<=1000)(l:f<D.ks.length)(b:(D.ks.getD f Ay).e.bs.length<=1000)(a:(D.ks.getD f Ay).e.ww.length<=1000):C_ 27 #[.pointer (some ⟨c,0,none⟩),.int .i64 f] w λe w'=>ZlF w (D.ks.getD f Ay).e e w':=by
 have u:=cR_ 0 h.gp;have d:C_ 52 #[.pointer (some ⟨c,0,none⟩),.int .i64 f] w λe w'=>e=.returned (.bool true)/\w'=w:=(by have m:=Ie _ _ D (f:Int) w h k;have s:decide (0<=(f:Int)/\f<=(D.ks.length:Int)-1)=true:=t_;rw[s] at m;exact m);obtain⟨v,t,z,r,q,X,j⟩:=h.md;have o:=xx _ f _ _ _ _ _ X D w j l b a;clear h j k l b a;generalize (D.ks.getD f Ay).e=es at *;go_enter Tryz.func27,Tryz.ntmps27;go_wp2_with fail
 refine d.mono ?_;rintro e A ⟨rfl,g⟩;obtain rfl:=g.symm;go_wp2_with fail
 refine o.mono ?_;rintro e x ⟨B,y,rfl,i⟩;have p:=x1_ i;clear i;go_wp2;go_ret3
 exact⟨_,_,rfl,p⟩
def Zlk:ZgN Mb:=by
 intro T wa n E g I G l b L q w j y D B s i A x z t k f;have C:=x1_ (λW hW=>iw _ _ n _ g l _ L _ W ((Aa.of_below (S:=λ_=>False) hW).row j (λ_ _=>id)) (y.below hW) D B s i k f);have M:(w.alloc (.cells #[.bool false,.slice none 0 0,.slice none 0 0] 170)).cell? _=_:=(bA_.cell (p:=(A_ I 0)) z).trans A;have F:(w.alloc (.cells #[.bool false,.slice none 0 0,.slice none 0 0] 170)).cell? _=_:=(bA_.cell (p:=(A_ G 0)) t).trans x;have h:Hid ((Mb L q l b).wd=true/\(Mb L q l b).bs=[]):=⟨rfl,rfl⟩;clear j y D B s i k f;go_enter Tryz.func210,Tryz.ntmps210;go_wp2_with fail
 refine(C _ bA_).mono ?_;rintro e R ⟨v,rfl,⟨vb,V,j,c,o⟩,m⟩;rw[h.1] at j;rw[h.2] at c;obtain⟨N,J,rfl⟩:=c.shape;obtain⟨P,Q,r⟩:=o.shapeW;subst r;subst j;have a:R.heap[w.heap.size]? =some (.cells _ 170 _):=(m.block _ s_).trans hn_;have X:=cR_ 0 a;have U:=cR_ 1 a;have Y:=cR_ 2 a;have Z:=fq_ 0 _ _ a;have f1:=fq_ 1 _ _ a;have f2:=fq_ 2 _ _ a;have O:=x1_ (bA_.trans (m.mono s_));have u:Hid (Cc _ w.heap.size _ _/\Ag _ w.heap.size _ _):=⟨o.monoW s_,c.mono s_⟩;have d:=x1_ a;clear m o c a C A x z t M F;generalize hnw:(Mb L q l b).ww.length=nw at *;have H:=x1_ hnw;clear hnw;go_wp2
 refine bodyPost_ret (v:=.agg #[.bool true,.slice N 0 J,.slice P nw Q]) (by simp[results,Tryz.results210,go_sem, *]) rfl ?_;refine⟨_,rfl,⟨.slice _ 0 _,.slice _ _ _,rfl,?_,?_⟩,((O.setCell qa_ _).setCell qa_ _).setCell qa_ _⟩;exact As (As (As u.2 d d_) (by exact ht_ _ _ _ _ d) d_) (by exact ht_ _ _ _ _ (ht_ _ _ _ _ d)) d_;exact As (As (As u.1 d d_) (by exact ht_ _ _ _ _ d) d_) (by exact ht_ _ _ _ _ (ht_ _ _ _ _ d)) d_
def Zh4:ZgM Mb:=by
 refine⟨Zlk,λL ws ct bins hL hb1 hb2=>?_⟩
 have a:(Mb L ws ct bins).ww.length<=16:=by
  show((((Le (L.zip ws) ct).mergeSort λx y=>decide (leW x y)).take bins.toNat).map WS.wd).length<=16
  grind
 refine⟨⟨List.Pairwise.nil,by simp[Mb],o_⟩,rfl,?_⟩;show Ky true 0 (Mb L ws ct bins).ww.length<=16;simp only[Ky,if_true];exact a
def Pw{m wd sc ct bins size l s}(hsc:∀i,i<m+1->wd i=false->0<=sc i/\sc i<=3)(hb:2<=bins)(hb2:bins<=16)(hs:2<=size)(hs2:size<=32)(h:Ca (m+1) wd sc RS.start l 0=.ok s):uz Mb m wd ct bins size s:=ZaE (λ_=>Zh4) hsc hb hb2 hs hs2 h
end Go.Proofs.YtfcgnpchbcmdeaaGreat
