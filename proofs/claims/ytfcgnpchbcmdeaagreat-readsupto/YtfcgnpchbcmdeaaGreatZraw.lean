import Derived.Test.YtfcgnpchbcmdeaaGreatZran
namespace Go.Proofs.YtfcgnpchbcmdeaaGreat
set_option linter.all false
set_option maxRecDepth 100000
set_option maxHeartbeats 8000000
open Go.RowKit
def Eg(nr nf:Nat):Int:=if nr+1=nf then 10 else 44
def qq b j a o t g l q r c i p w (h:RB w b (.slice j a o) t g l q (.slice r c i) p)(m:a<=1000)(f:c<=1000):C_ 219 #[.pointer (some ⟨b,0,none⟩)] w λe w'=>e=.returned (.int .u8 (Eg c a))/\∃n,w'=w.drewN n:=by
 obtain⟨v,_,_,_,_,x⟩:=h.head
 by_cases s:c+1=a
 ·have d:Hid (Eg _ _=_):=if_pos s;have u:_=(a:Int)-1:=Cb o_ o_;have k:(c==(a:Int)-1)=true:=t_;go_enter Tryz.func219,Tryz.ntmps219;go_wp2_with fail
  go_big_quiet (fail);go_wp2;go_ret;rw[d];exact⟨rfl,_,rfl⟩
 have d:Hid (Eg _ _=_):=if_neg s;have u:_=(a:Int)-1:=Cb o_ o_;have k:((c:Int)==(a:_)-1)=_:=beq_eq_false_iff_ne.2 o_;go_enter Tryz.func219,Tryz.ntmps219;go_wp2_with fail
 go_big_quiet (fail);go_wp2;go_ret;rw[d];exact⟨rfl,_,rfl⟩
def Pz w a v b (h:Bj w a v b):(convert 66 9 v).run Tryz.prog w=.ok (.string (strOfNums b)) w:=by
 rcases h.2 with⟨rfl,h0⟩|⟨q,cp,cur,rfl,_,hh,_⟩
 have d:=List.eq_nil_of_length_eq_zero h0;subst d;rw[run_convert_bytes_nil w 66 5 Tryz.underlying66 Tryz.underlying5 0 0 9 Tryz.underlying9];rfl
 refine run_convert_bytes_arg w _ 5 Tryz.underlying66 Tryz.underlying5 q 0 _ _ _ rfl (λi hi=>?_) 9 Tryz.underlying9;have:=World.ownsRow.cells h (g:=q) rfl i (.int .u8 (b.getD i 0)) w_;have c:((A_ q 0):Addr).add i=(A_ q i):=by unfold Addr.add;split<;>simp_all
 grind
def Qv(p:Cm):Int:=if p.neg=true then -p.num else p.num
def Zgx b t X T O R Z Y p d w (h:RW w b t X T O R Z Y p d)(Q: -1000000000000<=p.num)(P:p.num<=1000000000000):C_ 221 #[.pointer (some ⟨b,6,none⟩)] w λe w'=>e=.returned (.agg #[.bool (decide (p.st=0)),.int .i64 (Qv p),.string (strOfNums d)])/\Below w.heap.size w w':=by
 obtain⟨M,L,_,_,z,s,_⟩:=h.1.part;have i:=h.1.lt;obtain⟨a,D,J⟩:=h.2.form;have j:=λW hb=>Pz W _ _ _ ((Aa.of_below (S:=λ_=>False) hb).row h.2 (λ_ _=>id));have f:Below _ w (w.alloc (.cells #[.bool false,I_ 0,.string ⟨#[]⟩] 308)):=bA_;have m:=j _ f.drew;have l:(convert 66 9 p.wv).run _ ((w.alloc _).alloc (.cells #[.bool false,I_ 0,.string ⟨#[]⟩] 308)).drew=_:=j _ (f.alloc s_ _).drew;have V:=(f.cell (p:=(A_ b 6)) i).trans M;have N:=(f.cell (p:=(A_ b 7)) i).trans L;have F:=(f.cell (p:=(A_ b 10)) i).trans z;have A:=(f.cell (p:=(A_ b 11)) i).trans s;have I:Hid (∀W,E_ w W->(convert 66 9 (.slice a d.length D)).run Tryz.prog W=.ok (.string (strOfNums d)) W):=(by rw[<- J];exact j);have k:=x1_ f
 have U:(w.alloc (.cells #[.bool false,I_ 0,.string ⟨#[]⟩] 308)).heap.size=w.heap.size+1:=s_;have t0:(w.alloc (.cells #[.bool false,I_ 0,.string ⟨#[]⟩] 308)).cell? (A_ w.heap.size 0)=some (.bool false):=s_;have t1:(w.alloc (.cells #[.bool false,I_ 0,.string ⟨#[]⟩] 308)).cell? (A_ w.heap.size 1)=some (I_ 0):=s_;have t2:(w.alloc (.cells #[.bool false,I_ 0,.string ⟨#[]⟩] 308)).cell? (A_ w.heap.size 2)=some (.string ⟨#[]⟩):=s_;have y:Hid ((w.alloc (.cells #[.bool false,I_ 0,.string ⟨#[]⟩] 308)).heap[_]? =_):=ha_ w _;have tf:∀o,(w.alloc (.cells #[.bool false,I_ 0,.string ⟨#[]⟩] 308)).frozen? _=_:=λo=>fq_ o _ _ (ha_ w _);clear h j f M L z s;rw[J] at A m l;go_enter Tryz.func221,Tryz.ntmps221;go_wp2_with fail
 generalize w.alloc (.cells #[.bool false,I_ 0,.string ⟨#[]⟩] 308)=wb at *;have n1:=World.new_ne _ _ V;have n2:=World.new_ne _ _ F;have n3:=World.new_ne _ _ A;clear m l;go_region_held3 (λw'=>(w'.cell? ⟨b,6,none⟩=some (.int .i64 p.st)/\w'.cell? ⟨b,10,none⟩=some (.int .i64 p.num)/\w'.cell? ⟨b,11,none⟩=some (.slice a d.length D))/\(convert 66 9 (.slice a d.length D)).run Tryz.prog w'=.ok (.string (strOfNums d)) w') (exact⟨by go_keep,I.out _ (by repeat(first|with_reducible exact k.out|with_reducible apply Below.drew|(refine Below.alloc ?_ o_ _)|(refine Below.setCell ?_ (by first|omega|(simp;omega)) _)))⟩) (fail)
 have a1:Hid (Below _ w (wb.alloc (.cells #[.bool (p.st==0),I_ p.num,.string (strOfNums d)] 308)).drew):=(k.alloc o_ _).drew;have q:(p.st==0)=decide (p.st=0):=w_;have B:=x1_ q;clear q;have a0:_= -p.num:=Cb o_ o_
 by_cases hneg:p.neg=true
 ·have E:Hid (Qv p=_):=if_pos hneg;rw[hneg] at N;clear hneg;have c:(((((wb.setCell (A_ w.heap.size 0) (.bool (p.st==0))).setCell (A_ w.heap.size 1) (I_ (-p.num))).setCell (A_ w.heap.size 2) (.string (strOfNums d))).alloc (.cells #[.bool (p.st==0),I_ (-p.num),.string (strOfNums d)] 308)).drew).heap[w.heap.size]? =some (.cells #[.bool (p.st==0),I_ (-p.num),.string (strOfNums d)] 308 (0,0)):=by have G:=ht_ 0 _ _ (.bool (p.st==0)) y;have H:=ht_ 1 _ _ (I_ (-p.num)) G;have x:=ht_ 2 _ _ (.string (strOfNums d)) H;exact(hc_ (Qb x).1).trans x
  have n:=cR_ 0 c;have C:=cR_ 1 c;have u:=cR_ 2 c;have g:Hid (E_ w ((((wb.setCell (A_ w.heap.size 0) (.bool (p.st==0))).setCell (A_ w.heap.size 1) (I_ (-p.num))).setCell (A_ w.heap.size 2) (.string (strOfNums d))).alloc (.cells #[.bool (p.st==0),I_ (-p.num),.string (strOfNums d)] 308)).drew):=((((k.setCell (p:=(A_ w.heap.size 0)) qa_ _).setCell (p:=(A_ w.heap.size 1)) qa_ _).setCell (p:=(A_ w.heap.size 2)) qa_ _).alloc (by simp[World.setCell];omega) _).drew;clear c;go_wp2;exact bodyPost_ret (v:=.agg #[.bool (p.st==0),I_ (-p.num),.string (strOfNums d)]) (by simp at n C u;simp[results,Tryz.results221,go_sem,n,C,u]) rfl ⟨by rw[E,B],g⟩
 have r:p.neg=false:=by simpa using hneg
 have E:Hid (Qv p=_):=if_neg hneg;rw[r] at N;clear hneg r;have c:(((((wb.setCell (A_ w.heap.size 0) (.bool (p.st==0))).setCell (A_ w.heap.size 1) (I_ (p.num))).setCell (A_ w.heap.size 2) (.string (strOfNums d))).alloc (.cells #[.bool (p.st==0),I_ (p.num),.string (strOfNums d)] 308)).drew).heap[w.heap.size]? =some (.cells #[.bool (p.st==0),I_ (p.num),.string (strOfNums d)] 308 (0,0)):=by have G:=ht_ 0 _ _ (.bool (p.st==0)) y;have H:=ht_ 1 _ _ (I_ (p.num)) G;have x:=ht_ 2 _ _ (.string (strOfNums d)) H;exact(hc_ (Qb x).1).trans x
 have n:=cR_ 0 c;have C:=cR_ 1 c;have u:=cR_ 2 c;have g:Hid (E_ w ((((wb.setCell (A_ w.heap.size 0) (.bool (p.st==0))).setCell (A_ w.heap.size 1) (I_ (p.num))).setCell (A_ w.heap.size 2) (.string (strOfNums d))).alloc (.cells #[.bool (p.st==0),I_ (p.num),.string (strOfNums d)] 308)).drew):=((((k.setCell (p:=(A_ w.heap.size 0)) qa_ _).setCell (p:=(A_ w.heap.size 1)) qa_ _).setCell (p:=(A_ w.heap.size 2)) qa_ _).alloc (by simp[World.setCell];omega) _).drew;clear c;go_wp2;exact bodyPost_ret (v:=.agg #[.bool (p.st==0),I_ (p.num),.string (strOfNums d)]) (by simp at n C u;simp[results,Tryz.results221,go_sem,n,C,u]) rfl ⟨by rw[E,B],g⟩
structure VS where
 miss:Bool
 num:Int
 word:ByteArray
def Hy(v:VS):List Value:=[.bool v.miss,I_ v.num,.string v.word]
def Ic:List VS->List Value
 |[]=>[]
 |e::L=>Hy e++Ic L
theorem Us a b:Ic (a++b)=Ic a++Ic b:=by
 induction a with
 |nil=>rfl
 |cons e L ih=>simp[Ic,ih]
def Zez:(Tryz.prog.info? 308).map (λi=>(i.zero,i.size,i.bytes))=some (some (.agg #[.bool false,I_ 0,.string ⟨#[]⟩]),3,32):=k_
def Iq(w:World)(base:Nat)(v:Value)(L:List VS):Prop:=w.ownsRow base 308 3 v L.length (Ic L)
def Iq.nil w base:Iq w base (.slice none 0 0) []:=World.ownsRow_nil w base 308 3
def bz(S:ByteArray)(k:Nat)(wd:Bool)(sc:Nat)(en:Int):VS×Nat×Int:=
 if Bw S k 0 en=true then(⟨true,0,⟨#[]⟩⟩,k+1,0)
 else if wd=true then(⟨false,0,strOfNums (ai S k).1⟩,Mq S (ai S k).2.1 (ai S k).2.2 en,Ng S (ai S k).2.1 (ai S k).2.2 en)
 else(⟨false,(br S k 0 sc).1,⟨#[]⟩⟩,Mq S (br S k 0 sc).2.1 (br S k 0 sc).2.2 en,Ng S (br S k 0 sc).2.1 (br S k 0 sc).2.2 en)
def Fb.touch{w w' K tb S k z vR}(h:Fb w tb S k z vR)(t:Aa K w w')(hk:¬K tb):Fb w' tb S k z vR:=t.at_ h hk
def Fb.lt{w tb S k z vR}(h:Fb w tb S k z vR):tb<w.heap.size:=(Qb h).1
structure vg(w W:World)(tb sc q:Nat)(S)(y)(wd)(ct)(vR)(v:VS):Prop where
 tx:Fb W tb S q y vR
 ft:W.heap[w.heap.size]? =some (.cells #[.bool wd,I_ sc,I_ ct] 51 (0,0))
 rs:W.heap[w.heap.size+1]? =some (.cells #[.bool false,I_ 0,.string ⟨#[]⟩] 335 (0,0))
 vl:W.heap[w.heap.size+1+1]? =some (.cells #[.bool v.miss,I_ v.num,.string v.word] 335 (0,0))
 t:Aa (λq=>q=tb) w W
 n:tb<w.heap.size
section
variable {w W W':World} {tb sc q q':Nat} {S:ByteArray} {y y':Int} {wd:Bool} {ct:Int} {vR:Value} {v:VS}
def vg.touch(h:vg w W tb sc q S y wd ct vR v)(hx:Fb W' tb S q' y' vR)(t:Aa (λq=>q=tb) W W'):vg w W' tb sc q' S y' wd ct vR v:=
 have hn:=h.n
 ⟨hx,t.at_ h.ft o_,t.at_ h.rs o_,t.at_ h.vl o_,h.t.trans t,hn⟩
def vg.word(h:vg w W tb sc q S y wd ct vR v) u:vg w (W.setCell (A_ (w.heap.size+1+1) 2) (.string u)) tb sc q S y wd ct vR ⟨v.miss,v.num,u⟩:=by have a:=h.n;have t:Aa _ W (W.setCell _ (.string u)):=(Aa.refl (λk=>k=w.heap.size+1+1) _).setCell (p:=(A_ (w.heap.size+1+1) 2)) (λ_=>rfl) _;exact⟨h.tx.touch t o_,t.at_ h.ft o_,t.at_ h.rs o_,ht_ 2 _ _ _ h.vl,h.t.setCell (p:=(A_ (w.heap.size+1+1) 2)) (λe=>absurd e w_) _,a⟩
def vg.num(h:vg w W tb sc q S y wd ct vR v) u:vg w (W.setCell (A_ (w.heap.size+1+1) 1) (I_ u)) tb sc q S y wd ct vR ⟨v.miss,u,v.word⟩:=by have a:=h.n;have t:Aa _ W (W.setCell _ (I_ u)):=(Aa.refl (λk=>k=w.heap.size+1+1) _).setCell (p:=(A_ (w.heap.size+1+1) 1)) (λ_=>rfl) _;exact⟨h.tx.touch t o_,t.at_ h.ft o_,t.at_ h.rs o_,ht_ 1 _ _ _ h.vl,h.t.setCell (p:=(A_ (w.heap.size+1+1) 1)) (λe=>absurd e w_) _,a⟩
def vg.cells(h:vg w W tb sc q S y wd ct vR v):(W.cell? (A_ w.heap.size 0)=some (.bool wd)/\W.cell? (A_ w.heap.size 1)=some (I_ sc))/\(W.cell? (A_ (w.heap.size+1+1) 0)=some (.bool v.miss)/\W.cell? (A_ (w.heap.size+1+1) 1)=some (I_ v.num)/\W.cell? (A_ (w.heap.size+1+1) 2)=some (.string v.word)/\W.frozen? (A_ (w.heap.size+1+1) 1)=false/\W.frozen? (A_ (w.heap.size+1+1) 2)=false)/\W.cell? (A_ (w.heap.size+1) 0)=some (.bool false)/\W.cell? (A_ (w.heap.size+1) 1)=some (I_ 0)/\W.cell? (A_ (w.heap.size+1) 2)=some (.string ⟨#[]⟩)/\W.frozen? (A_ (w.heap.size+1) 0)=false/\W.frozen? (A_ (w.heap.size+1) 1)=false/\W.frozen? (A_ (w.heap.size+1) 2)=false:=
 ⟨⟨cq_ 0 _ 51 (0,0) h.ft,cq_ 1 _ 51 (0,0) h.ft⟩,⟨cq_ 0 _ 335 (0,0) h.vl,cq_ 1 _ 335 (0,0) h.vl,cq_ 2 _ 335 (0,0) h.vl,fq_ 1 _ 335 h.vl,fq_ 2 _ 335 h.vl⟩,cq_ 0 _ 335 (0,0) h.rs,cq_ 1 _ 335 (0,0) h.rs,cq_ 2 _ 335 (0,0) h.rs,fq_ 0 _ 335 h.rs,fq_ 1 _ 335 h.rs,fq_ 2 _ 335 h.rs⟩
def vg.done(h:vg w W tb sc q S y wd ct vR v):∃W',W'=((W.setCell (A_ (w.heap.size+1) 0) (.bool v.miss)).setCell (A_ (w.heap.size+1) 1) (I_ v.num)).setCell (A_ (w.heap.size+1) 2) (.string v.word)/\(W'.cell? (A_ (w.heap.size+1) 0)=some (.bool v.miss)/\W'.cell? (A_ (w.heap.size+1) 1)=some (I_ v.num)/\W'.cell? (A_ (w.heap.size+1) 2)=some (.string v.word))/\Fb W' tb S q y vR/\Aa (λq=>q=tb) w W':=by
 have d:=h.n;have b:=ht_ 0 _ _ (.bool v.miss) h.rs;have c:=ht_ 1 _ _ (I_ v.num) b;have a:=ht_ 2 _ _ (.string v.word) c;have t:=(((Aa.refl (λk=>k=w.heap.size+1) W).setCell (p:=(A_ (w.heap.size+1) 0)) (λ_=>rfl) (.bool v.miss)).setCell (p:=(A_ (w.heap.size+1) 1)) (λ_=>rfl) (I_ v.num)).setCell (p:=(A_ (w.heap.size+1) 2)) (λ_=>rfl) (.string v.word);refine⟨_,rfl,⟨cq_ 0 _ _ _ a,cq_ 1 _ _ _ a,cq_ 2 _ 335 _ a⟩,h.tx.touch t o_,?_⟩;exact((h.t.setCell (p:=(A_ (w.heap.size+1) 0)) (λe=>absurd e w_) _).setCell (p:=(A_ (w.heap.size+1) 1)) (λe=>absurd e w_) _).setCell (p:=(A_ (w.heap.size+1) 2)) (λe=>absurd e w_) _
def vg.first(h:Fb w tb S q 0 vR) n z:vg w ((((w.alloc (.cells #[.bool wd,I_ sc,I_ ct] 51)).alloc (.cells #[.bool false,I_ 0,.string ⟨#[]⟩] 335)).drewN n).alloc (.cells #[.bool z,I_ 0,.string ⟨#[]⟩] 335)) tb sc q S 0 wd ct vR ⟨z,0,⟨#[]⟩⟩:=by
 have j:Aa (λ_=>False) w (w.alloc (.cells #[.bool wd,I_ sc,I_ ct] 51)):=(Aa.refl _ w).alloc _;have i:=ha_ w (.cells #[.bool wd,I_ sc,I_ ct] 51);have e:(w.alloc (.cells #[.bool wd,I_ sc,I_ ct] 51)).heap.size=w.heap.size+1:=s_;generalize w.alloc (.cells #[.bool wd,I_ sc,I_ ct] 51)=W1 at *;have c:Aa (λ_=>False) W1 (W1.alloc (.cells #[.bool false,I_ 0,.string ⟨#[]⟩] 335)):=(Aa.refl _ _).alloc _;have d:=ha_ W1 (.cells #[.bool false,I_ 0,.string ⟨#[]⟩] 335);have g:(W1.alloc (.cells #[.bool false,I_ 0,.string ⟨#[]⟩] 335)).heap.size=W1.heap.size+1:=s_;generalize W1.alloc (.cells #[.bool false,I_ 0,.string ⟨#[]⟩] 335)=W2 at *;have a:Aa (λ_=>False) W2 ((W2.drewN n).alloc (.cells #[.bool z,I_ 0,.string ⟨#[]⟩] 335)):=((Aa.refl _ _).drewN n).alloc _
 have f:=ha_ (W2.drewN n) (.cells #[.bool z,I_ 0,.string ⟨#[]⟩] 335);rw[World.heap_drewN,g,e] at f;rw[e] at d;have b:=j.trans (c.trans a);exact⟨h.touch b id,a.at_ (c.at_ i id) id,a.at_ d id,f,b.mono (λ_ _ h=>h.elim),h.lt⟩
end
def ZdO(i k a:Nat) S c j b o w (h:Fb w i S k 0 o)(u:k<=S.size)(t:c=false->a<=3)(s:0<=b)(A:S.size<=1000000000000000):C_ 287 #[.pointer (some ⟨i,0,none⟩),.agg #[.bool c,.int .i64 a,.int .i64 j],.int .u8 b] w λe w'=>e=.returned (.agg #[.bool (bz S k c a b).1.miss,.int .i64 (bz S k c a b).1.num,.string (bz S k c a b).1.word])/\Fb w' i S (bz S k c a b).2.1 (bz S k c a b).2.2 o/\Aa (λq=>q=i) w w':=by
 have HM:=x1_ (λW q y hW=>Xy i q S y _ o W hW s A);obtain⟨R,g⟩:=ez_ (bz S k c a b);rw[g];have HF:=λn z=>vg.first (wd:=c) (sc:=a) (ct:=j) h n z;have X:=Ez _ k S 0 _ _ ((w.alloc (.cells #[.bool c,I_ a,I_ j] 51)).alloc (.cells #[.bool false,I_ 0,.string ⟨#[]⟩] 335)) (h.below (bA_.alloc s_ _)) s;go_enter Tryz.func287,Tryz.ntmps287;go_wp2_with fail
 refine X.mono ?_;rintro e w2 ⟨rfl,n,rfl⟩;generalize hem:Bw S k 0 b=em at *;have m:=x1_ (HF n em);go_upto_region 3 with fail;generalize ((((w.alloc (.cells #[.bool c,I_ a,I_ j] 51)).alloc (.cells #[.bool false,I_ 0,.string ⟨#[]⟩] 335)).drewN n).alloc (.cells #[.bool em,I_ 0,.string ⟨#[]⟩] 335))=W4 at *;obtain⟨L,F⟩:=m.cells.1
 cases em
 rotate_left
 focus
  have B:Hid (∃q y v,vg w W4 i a q S y c j o v/\R=(v,Mq S q y b,Ng S q y b)):=by
   refine⟨k,0,_,m,?_⟩;rw[<- g];unfold bz Mq Ng
   grind
  go_upto_region 7 with fail
 rotate_left
 have I:¬Bw S k 0 b=true:=by rw[hem];decide
 cases c
 focus
  have C:=Zaa _ k _ S 0 _ _ m.tx (t rfl) A;go_wp2_with fail
  refine C.mono ?_;rintro e l ⟨rfl,r,p⟩;have f:=x1_ (m.touch r p);obtain⟨⟨L,F⟩,⟨H,N,G,T,O⟩,_⟩:=f.cells;have d:=f.num (br S k 0 a).1
  have B:Hid (∃q y v,vg w (l.setCell (A_ (w.heap.size+1+1) 1) (I_ (br S k 0 a).1)) i a q S y false j o v/\R=(v,Mq S q y b,Ng S q y b)):=by
   refine⟨_,_,_,d,?_⟩;rw[<- g];unfold bz
   grind
  have e0:=d.cells.1.1;go_upto_region 5 with fail;generalize l.setCell (A_ (w.heap.size+1+1) 1) (I_ (br S k 0 a).1)=W4 at *;go_upto_region 7 with fail
 rotate_left
 focus
  have C:=Zgp _ k S _ _ m.tx u A;go_wp2_with fail
  refine C.mono ?_;rintro e l ⟨rfl,r,p⟩;have f:=x1_ (m.touch r p);obtain⟨⟨L,F⟩,⟨H,N,G,T,O⟩,_⟩:=f.cells;have d:=f.word (strOfNums (ai S k).1)
  have B:Hid (∃q y v,vg w (l.setCell (A_ (w.heap.size+1+1) 2) (.string (strOfNums (ai S k).1))) i a q S y true j o v/\R=(v,Mq S q y b,Ng S q y b)):=by
   refine⟨_,_,_,d,?_⟩;rw[<- g];unfold bz
   grind
  have e0:=d.cells.1.1;go_upto_region 5 with fail;generalize l.setCell (A_ (w.heap.size+1+1) 2) (.string (strOfNums (ai S k).1))=W4 at *;go_upto_region 7 with fail
 all_goals
  obtain⟨q,y,v,M,V⟩:=B;have P:=HM _ q y M.tx;have H4:=x1_ M;have E:=x1_ V;go_wp2_with fail
  refine P.mono ?_;rintro e l ⟨rfl,r,p⟩;have J:=H4.touch r p;obtain⟨_,⟨H,N,G,_,_⟩,r0,r1,r2,f0,f1,f2⟩:=J.cells;obtain⟨W9,D,⟨Q,g1,Y⟩,hx,Z⟩:=J.done;have U:=x2_ hx Z;have x:=x1_ D;go_wp2;rw[<- x]
  (try simp only[Exit.inBlock,Exit.then])
  refine bodyPost_ret (v:=.agg #[.bool v.miss,I_ v.num,.string v.word]) (by simp[results,Tryz.results287,go_sem,Q,g1,Y]) rfl ?_;rw[E];exact⟨rfl,U⟩
def Sr(S:ByteArray)(n:Nat)(wd:Nat->Bool)(sc:Nat->Int):Nat->Nat->List VS->Nat->List VS×Nat×Int
 |0,_,L,k=>(L,k,0)
 | f+1,i,L,k=>
  let r:=bz S k (wd i) (sc i).toNat (Eg i n)
  if r.2.2=0 then Sr S n wd sc f (i+1) (L++[r.1]) r.2.1 else(L++[r.1],r.2.1,r.2.2)
def Zv(S:ByteArray)(n:Nat)(wd:Nat->Bool)(sc:Nat->Int)(k:Nat):Int×List VS×Nat×Int:=
 let a:=Mc S k 0 2 false
 let k1:=Mq S a.2.2.1 a.2.2.2 44
 let z1:=Ng S a.2.2.1 a.2.2.2 44
 if z1=0 then let r:=Sr S n wd sc n 0 [] k1;(a.1,r.1,r.2.1,r.2.2) else(a.1,[],k1,z1)
def Jd(S:ByteArray)(n:Nat)(wd:Nat->Bool)(sc:Nat->Int):Nat->List (Int×List VS)->Nat->List (Int×List VS)×Nat×Int
 |0,L,k=>(L,k,0)
 | f + 1,L,k=>
  if k<S.size then
   if L.length=200 then(L,k,3)
   else
    let r:=Zv S n wd sc k
    if r.2.2.2=0 then Jd S n wd sc f (L++[(r.1,r.2.1)]) r.2.2.1 else(L,r.2.2.1,r.2.2.2)
  else(L,k,0)
section
variable {S:ByteArray}
theorem ZeL{k z b}(a:0<=b)(h:k<=S.size):k<=Mq S k z b/\Mq S k z b<=S.size:=by unfold Mq;split;rename_i hs;have:=Gf a hs;omega;omega
def Zeo{k z}(h:Ib S k z=true):k<S.size:=(xu h).1
theorem ZkR z zero:∀f j n k,k<=S.size->k<=(Nn S z zero f j n k).2.2/\(Nn S z zero f j n k).2.2<=S.size
 |0,j,n,k,h=>by simp only[Nn];omega
 | f+1,j,n,k,h=>by
  unfold Nn;split;rename_i hc;have h1:=Zeo hc.1;have:=ZkR z zero f (j+1) (10*n+(Ds S k-48)) (k+1) h1;omega
  grind
def Zie{k} z m b (h:k<=S.size):k<=(Mc S k z m b).2.2.1/\(Mc S k z m b).2.2.1<=S.size:=by grind [Mc,ZkR]
theorem ZkK z:∀f n k,k<=S.size->k<=(Ux S z f n k).2.2/\(Ux S z f n k).2.2<=S.size
 |0,n,k,h=>by simp only[Ux];omega
 | f+1,n,k,h=>by
  unfold Ux;split;rename_i hc;have h1:=Zeo hc;have:=ZkK z f (10*n+(Ds S k-48)) (k+1) h1;omega
  grind
theorem ZlS{k} z a (h:k<=S.size):k<=(br S k z a).2.1/\(br S k z a).2.1<=S.size:=by
 unfold br;simp only;have c:k<=(if _=_ then _ else k)/\(if _=_ then _ else k)<=_:=ZeL (z:=z) (b:=45) d_ h;generalize (if Bw S k z 45=true then k+1 else k)=k1 at *;have d:=Zie z 5 true c.2;generalize Mc S k1 z 5 true=A at *;unfold ptF;split
 ·rename_i hc;have e:=Gf d_ hc.1
  grind [ZkK]
 grind
def Zis:∀(f:Nat)(bs:List Int)(k:Nat),k<=S.size->k<=(Zu S f bs k).2.1/\(Zu S f bs k).2.1<=S.size
 |0,bs,k,h=>by simp only[Zu];omega
 | f +1,bs,k,h=>by
  unfold Zu;split
  ·rename_i hq;have h1:=Gf d_ hq;split;rename_i hc;have h2:=Gf d_ hc.1;have:=Zis f (bs++[34]) (k+2) h2;omega
   grind
  split;rename_i hc;have h1:=cz hc.1;have:=Zis f (bs++[Ds S k]) (k+1) h1;omega
  grind
def Zh2:∀(f:Nat)(bs:List Int)(k:Nat),k<=S.size->k<=(Lf S f bs k).2/\(Lf S f bs k).2<=S.size
 |0,bs,k,h=>by simp only[Lf];omega
 |f+1,bs,k,h=>by unfold Lf;split;rename_i hc;have h1:=cz (by unfold kj;rw[hc];rfl);have:=Zh2 f (bs++[Ds S k]) (k+1) h1;omega;omega
theorem Zl0{k}(h:k<=S.size):k<=(ai S k).2.1/\(ai S k).2.1<=S.size:=by unfold ai;split;rename_i hq;have a:=Gf d_ hq;have:=Zis 9 [] (k+1) a;omega;exact Zh2 8 _ k h
def ZkJ{k} b c {a}(d:0<=a)(h:k<=S.size):k<=(bz S k b c a).2.1/\(bz S k b c a).2.1<=S.size:=by
 unfold bz;split;rename_i hs;have:=Gf d hs;simp only;omega
 grind [Zl0,ZeL,ZlS]
def Xs i n:0<=Eg i n:=by unfold Eg;split<;>decide
theorem ZkL n wd sc:∀f i L k,k<=S.size->k<=(Sr S n wd sc f i L k).2.1/\(Sr S n wd sc f i L k).2.1<=S.size
 |0,i,L,k,h=>by simp only[Sr];omega
 |f+1,i,L,k,h=>by have h1:=ZkJ (wd i) (sc i).toNat (Xs i n) h;unfold Sr;simp only;split;have:=ZkL n wd sc f (i+1) (L++[(bz S k (wd i) (sc i).toNat (Eg i n)).1]) _ h1.2;omega;exact h1
def ZkT n a b {k}(h:k<=S.size):(k<=(Zv S n a b k).2.2.1/\(Zv S n a b k).2.2.1<=S.size)/\((Zv S n a b k).2.2.2=0->k<(Zv S n a b k).2.2.1):=by
 have c:=Zie 0 2 false h
 grind [Zv,ZeL,ZkL,Mq,Ng,wrg]
end
end Go.Proofs.YtfcgnpchbcmdeaaGreat
