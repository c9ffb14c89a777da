import Derived.Test.YtfcgnpchbcmdeaaGreatZrbg
import Derived.Test.YtfcgnpchbcmdeaaGreatZrbn
namespace Go.Proofs.YtfcgnpchbcmdeaaGreat
set_option linter.all false
set_option maxRecDepth 100000
set_option maxHeartbeats 8000000
open Go.RowKit
def bdI(e:ES):List Int:=if e.wd=true then[] else e.bs
def bdS(e:ES):List ByteArray:=if e.wd=true then e.ww else[]
structure ZlH(w w':World)(vb vw)(e):Prop where
 nb:Ag w' w.heap.size vb (bdI e)
 nw:Cc w' w.heap.size vw (bdS e)
 low:E_ w w'
def Zmb(w:World)(e:ES)(x:Ending)(w':World):Prop:=∃vb vw,x=.returned (.tuple #[vb,vw])/\ZlH w w' vb vw e
def Zg1{p:Prop}(h:p:=by
 go_wp2;go_ret2
 have eL:=List.length_eq_zero_iff.1 HN.2;have hnew:(w1.alloc (.cells #[] 9)).heap[_]? =_:=hn_;have hrw:(w1.alloc _).ownsRow w.heap.size 9 1 _ 0 []:=⟨rfl,.inr ⟨w1.heap.size,0,#[],rfl,o_,hnew,qa_,d_,rfl,rfl⟩⟩;refine⟨_,_,rfl,?_,?_,HB1.alloc o_ _⟩;rw[HB.1];exact World.ownsRow_nil _ _ 3 1
 rw[HB.2,eL];exact hrw):p:=h
def Zg2{p:Prop}(h:p:=by
 go_wp2;go_ret2
 have eL:=List.length_eq_zero_iff.1 HN.1;have hnew:(w1.alloc (.cells #[] 3)).heap[_]? =_:=hn_;have hrw:(w1.alloc _).ownsRow w.heap.size 3 1 _ 0 []:=⟨rfl,.inr ⟨w1.heap.size,0,#[],rfl,o_,hnew,qa_,d_,rfl,rfl⟩⟩;refine⟨_,_,rfl,?_,?_,HB1.alloc o_ _⟩;rw[HB.1,eL];exact hrw
 rw[HB.2];exact Cc.nil _ _):p:=h
def xx db f vK vB vX P a0 X D w (h:Sm w db vK vB vX P a0 X D)(hf:f<D.ks.length)(a3:(D.ks.getD f Ay).e.bs.length<=1000)(a4:(D.ks.getD f Ay).e.ww.length<=1000):C_ 53 #[.pointer (some ⟨db,0,none⟩),.int .i64 f] w λe w'=>Zmb w (D.ks.getD f Ay).e e w':=by
 obtain⟨qk,cK,A,G,z,H,T,a1,M,k1,k2,k3,hI,hS⟩:=h.kn.at hf;subst T;have d0:=cR_ 0 h.ds.blk;have a5:=(Qb h.ds.blk).1;have HI:=x1_ hI;have HS:=x1_ hS;have a2:0<=(f:Int):=o_;have a6:f<(D.ks.length:Int):=o_;clear h hI hS;generalize D.ks.length=nk at *;generalize (D.ks.getD f Ay).d=dd at *;generalize (D.ks.getD f Ay).e=es at *;generalize hnb:es.bs.length=nb at *;generalize hnw:es.ww.length=nw at *;have HN:=x2_ hnb hnw;clear hnb hnw
 cases hwd:es.wd
 ·rw[hwd] at M;have HB:Hid (bdI es=es.bs/\bdS es=[]):=(by show _/\_;unfold bdI bdS;grind);clear hwd;go_enter Tryz.func53,Tryz.ntmps53;go_upto_region 4 with fail;generalize hW1:w.alloc (.cells #[.bool false,.slice A nb G,.slice z nw H,I_ (dd:Nat)] 172)=w1;have o:E_ w w1:=(by rw[<- hW1];exact bA_);have n:w1.heap[w.heap.size]? =some (.cells #[.bool false,.slice A nb G,.slice z nw H,I_ dd] 172 (0,0)):=(by rw[<- hW1];exact hn_);have Q:=(Qb n).1;have x1:=cR_ 1 n;have HB1:=x1_ o;clear hW1 n M k1 k2 k3 d0;have k:w1.ownsRow 0 3 1 (.slice A nb G) nb (es.bs.map (Value.int .i64)):=(by have t:=(Aa.of_below (S:=λ_=>False) o).row HI (λ_ _=>id);rw[HN.1] at t;exact t);have a:=x1_ k;clear o k
  by_cases h0:nb=0
  ·subst h0
   rcases A with _|ad
   exact Zg2;exact Zg2
  have O:∃q,A=some ⟨q,0,none⟩:=by
   rcases a.out.2 with⟨e,t⟩|⟨g,cap,cur,e,_⟩
   exact absurd t h0
   grind
  obtain⟨q,rfl⟩:=O;obtain⟨V,s,E,v,C⟩:=info_parts ZhS
  have x:q<w1.heap.size:=by
   rcases a.out.2 with⟨e,_⟩|⟨g,cap,cur,e,_,hh,_⟩
   ·cases e
   grind
  have m:Hid ((w1.alloc _).ownsRow w.heap.size 3 1 _ 0 []):=⟨rfl,.inr ⟨w1.heap.size,0,#[],rfl,o_,hn_,qa_,d_,rfl,rfl⟩⟩;have l:Hid ((es.bs.map (Value.int .i64)).length=nb*1):=by show _=_;rw[List.length_map,HN.1,Nat.mul_one]
  have i:Hid (∀j u,(es.bs.map (Value.int .i64))[j]? =some u->(w1.alloc (.cells #[] 3)).cell? (((A_ q 0):Addr).add j)=some u):=λj u hu=>by have R:j<nb*1:=(by rw[<- l];grind);have r:((A_ q 0):Addr).add j=(A_ q j):=(by unfold Addr.add;split<;>simp_all);rw[r];rw[((br_ w1.heap.size w1).alloc qa_ (.cells #[] 3)).cell (p:=(A_ q j)) x];rw[World.ownsRow.cellAt a j R];exact hu
  have F:Hid (∀u∈es.bs.map (Value.int .i64),u.oneCell'=true):=λu hu=>by obtain⟨y,_,rfl⟩:=List.mem_map.1 hu;rfl
  go_wp2_with (at_builtin;refine Ab rfl (.tmp 22) (.tmp 25) 25 rfl _ 3 V _ 1 8 Tryz.underlying25 s E v C rfl d_ _ 0 [] rfl m _ nb G _ rfl l i F o_ m_ o_ t_ ?_)
  intro N L Z;obtain⟨I,J,U,_,q4,p4,B⟩:=Z;have c:Hid (L.ownsRow w.heap.size 3 1 N nb (es.bs.map (Value.int .i64))/\E_ w L):=(by refine⟨I,?_⟩;exact(HB1.alloc o_ _).grown J t_ (by intro b W;simp[Value.ownBlock] at W;omega));subst B;clear I J U a m i;go_wp2;go_ret2
  have Y:=c.1;refine⟨_,_,rfl,?_,?_,c.2⟩;rw[HB.1];unfold Ag;rw[HN.1];exact(by simpa using Y);rw[HB.2];exact Cc.nil _ _
 rw[hwd] at M;have HB:Hid (bdI es=[]/\bdS es=es.ww):=(by show _/\_;unfold bdI bdS;grind);clear hwd;go_enter Tryz.func53,Tryz.ntmps53;go_upto_region 3 with fail;generalize hW1:w.alloc (.cells #[.bool true,.slice A nb G,.slice z nw H,I_ (dd:Nat)] 172)=w1;have o:E_ w w1:=(by rw[<- hW1];exact bA_);have n:w1.heap[w.heap.size]? =some (.cells #[.bool true,.slice A nb G,.slice z nw H,I_ dd] 172 (0,0)):=(by rw[<- hW1];exact hn_);have Q:=(Qb n).1;have x1:=cR_ 2 n;have HB1:=x1_ o;clear hW1 n M k1 k2 k3 d0;have k:w1.ownsRow 0 9 1 (.slice z nw H) nw (es.ww.map Value.string):=(by have t:=(Aa.of_below (S:=λ_=>False) o).row HS (λ_ _=>id);rw[HN.2] at t;exact t);have a:=x1_ k;clear o k
 by_cases h0:nw=0
 ·subst h0
  rcases z with _|ad
  exact Zg1;exact Zg1
 have O:∃q,z=some ⟨q,0,none⟩:=by
  rcases a.out.2 with⟨e,t⟩|⟨g,cap,cur,e,_⟩
  exact absurd t h0
  grind
 obtain⟨q,rfl⟩:=O;obtain⟨V,s,E,v,C⟩:=info_parts Zc8
 have x:q<w1.heap.size:=by
  rcases a.out.2 with⟨e,_⟩|⟨g,cap,cur,e,_,hh,_⟩
  ·cases e
  grind
 have m:Hid ((w1.alloc _).ownsRow w.heap.size 9 1 _ 0 []):=⟨rfl,.inr ⟨w1.heap.size,0,#[],rfl,o_,hn_,qa_,d_,rfl,rfl⟩⟩;have l:Hid ((es.ww.map Value.string).length=nw*1):=by show _=_;rw[List.length_map,HN.2,Nat.mul_one]
 have i:Hid (∀j u,(es.ww.map Value.string)[j]? =some u->(w1.alloc (.cells #[] 9)).cell? (((A_ q 0):Addr).add j)=some u):=λj u hu=>by have R:j<nw*1:=(by rw[<- l];grind);have r:((A_ q 0):Addr).add j=(A_ q j):=(by unfold Addr.add;split<;>simp_all);rw[r];rw[((br_ w1.heap.size w1).alloc qa_ (.cells #[] 9)).cell (p:=(A_ q j)) x];rw[World.ownsRow.cellAt a j R];exact hu
 have F:Hid (∀u∈es.ww.map Value.string,u.oneCell'=true):=λu hu=>by obtain⟨y,_,rfl⟩:=List.mem_map.1 hu;rfl
 go_wp2_with (at_builtin;refine Ab rfl (.tmp 17) _ 47 rfl _ 9 V _ 1 16 Tryz.underlying47 s E v C rfl d_ _ 0 [] rfl m _ nw H _ rfl l i F o_ m_ o_ t_ ?_)
 intro N L Z;obtain⟨I,J,U,_,q4,p4,B⟩:=Z;have c:Hid (L.ownsRow w.heap.size 9 1 N nw (es.ww.map Value.string)/\E_ w L):=(by refine⟨I,?_⟩;exact(HB1.alloc o_ _).grown J t_ (by intro b W;simp[Value.ownBlock] at W;omega));subst B;clear I J U a m i;go_wp2;go_ret2
 have Y:=c.1;refine⟨_,_,rfl,?_,?_,c.2⟩;rw[HB.1];exact World.ownsRow_nil _ _ 3 1;rw[HB.2];unfold Cc;rw[HN.2];exact(by simpa using Y)
def ZlG(w:World)(e:ES)(x:Ending)(w':World):Prop:=∃vb vw,x=.returned (.tuple #[vb,vw,I_ 0])/\ZlH w w' vb vw e
def ZaW d n f D w (h:Mw w d n D)(j:D.ks.length<=1000)(l:f<D.ks.length)(a:(D.ks.getD f Ay).e.bs.length<=1000)(b:(D.ks.getD f Ay).e.ww.length<=1000):C_ 27 #[.pointer (some ⟨d,0,none⟩),.int .i64 f] w λe w'=>ZlG w (D.ks.getD f Ay).e e w':=by
 have u:=cR_ 0 h.gp;have g:C_ 52 #[.pointer (some ⟨d,0,none⟩),.int .i64 f] w λe w'=>e=.returned (.bool true)/\w'=w:=(by have m:=Ie _ _ D (f:Int) w h j;have r:decide (0<=(f:Int)/\f<=(D.ks.length:Int)-1)=true:=t_;rw[r] at m;exact m);obtain⟨z,A,t,p,s,X,i⟩:=h.md;have o:=xx _ f _ _ _ _ _ X D w i l a b;clear h i j l a b;generalize (D.ks.getD f Ay).e=es at *;go_enter Tryz.func27,Tryz.ntmps27;go_wp2_with fail
 refine g.mono ?_;rintro e v ⟨rfl,c⟩;obtain rfl:=c.symm;go_wp2_with fail
 refine o.mono ?_;rintro e B ⟨y,x,rfl,k⟩;have q:=x1_ k;clear k;go_wp2;go_ret3
 exact⟨_,_,rfl,q⟩
def Zll:ZgN Mb:=by
 intro Z V n y f P R l b L m w h D C B t g z u x A j k;have E:=x1_ (λW hW=>iw _ _ n _ f l _ L _ W ((Aa.of_below (S:=λ_=>False) hW).row h (λ_ _=>id)) (D.below hW) C B t g j k);have H:(w.alloc (.cells #[.bool false,.slice none 0 0,.slice none 0 0] 170)).cell? _=_:=(bA_.cell (p:=(A_ P 0)) x).trans z;have O:(w.alloc (.cells #[.bool false,.slice none 0 0,.slice none 0 0] 170)).cell? _=_:=(bA_.cell (p:=(A_ R 0)) A).trans u;have i:Hid ((Mb L m l b).wd=true/\(Mb L m l b).bs=[]):=⟨rfl,rfl⟩;clear h D C B t g j k;go_enter Tryz.func210,Tryz.ntmps210;go_wp2_with fail
 refine(E _ bA_).mono ?_;rintro e M ⟨v,rfl,⟨Y,X,h,c,q⟩,r⟩;rw[i.1] at h;rw[i.2] at c;obtain⟨J,N,rfl⟩:=c.shape;obtain⟨I,Q,o⟩:=q.shapeW;subst o;subst h;have a:M.heap[w.heap.size]? =some (.cells _ 170 _):=(r.block _ s_).trans hn_;have d0:=cR_ 0 a;have d1:=cR_ 1 a;have U:=cR_ 2 a;have T:=fq_ 0 _ _ a;have f1:=fq_ 1 _ _ a;have f2:=fq_ 2 _ _ a;have F:=x1_ (bA_.trans (r.mono s_));have s:Hid (Cc _ w.heap.size _ _/\Ag _ w.heap.size _ _):=⟨q.monoW s_,c.mono s_⟩;have d:=x1_ a;clear r q c a E z u x A H O;generalize hnw:(Mb L m l b).ww.length=nw at *;have G:=x1_ hnw;clear hnw;go_wp2
 refine bodyPost_ret (v:=.agg #[.bool true,.slice J 0 N,.slice I nw Q]) (by simp[results,Tryz.results210,go_sem, *]) rfl ?_;refine⟨_,rfl,⟨.slice _ 0 _,.slice _ _ _,rfl,?_,?_⟩,((F.setCell qa_ _).setCell qa_ _).setCell qa_ _⟩;exact As (As (As s.2 d d_) (by exact ht_ _ _ _ _ d) d_) (by exact ht_ _ _ _ _ (ht_ _ _ _ _ d)) d_;exact As (As (As s.1 d d_) (by exact ht_ _ _ _ _ d) d_) (by exact ht_ _ _ _ _ (ht_ _ _ _ _ d)) d_
def Zh3:ZgM Mb:=by
 refine⟨Zll,λL ws ct bins hL hb1 hb2=>?_⟩
 have a:(Mb L ws ct bins).ww.length<=16:=by
  show((((Le (L.zip ws) ct).mergeSort λx y=>decide (leW x y)).take bins.toNat).map WS.wd).length<=16
  grind
 refine⟨⟨List.Pairwise.nil,by simp[Mb],o_⟩,rfl,?_⟩;show Ky true 0 (Mb L ws ct bins).ww.length<=16;simp only[Ky,if_true];exact a
def Pw{m wd sc ct bins size l s}(hsc:∀i,i<m+1->wd i=false->0<=sc i/\sc i<=3)(hb:2<=bins)(hb2:bins<=16)(hs:2<=size)(hs2:size<=32)(h:Ca (m+1) wd sc RS.start l 0=.ok s):uz Mb m wd ct bins size s:=ZaE (λ_=>Zh3) hsc hb hb2 hs hs2 h
end Go.Proofs.YtfcgnpchbcmdeaaGreat
