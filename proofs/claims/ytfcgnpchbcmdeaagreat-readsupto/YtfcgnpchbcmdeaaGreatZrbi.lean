import Derived.Test.YtfcgnpchbcmdeaaGreatZraq
import Derived.Test.YtfcgnpchbcmdeaaGreatZrax
import Derived.Test.YtfcgnpchbcmdeaaGreatZrat
namespace Go.Proofs.YtfcgnpchbcmdeaaGreat
set_option linter.all false
open Go.RowKit
def Zj0:(Tryz.prog.info? 399).map (λi=>(i.zero,i.size,i.bytes))=some (some (.agg #[I_ 0,.slice none 0 0]),2,32):=k_
def Aj.shape{w b v L}(h:Aj w b v L):∃a c,v=.slice a L.length c:=by
 rcases h.2 with⟨rfl,h0⟩|⟨g,cap,cur,rfl,_⟩
 ·grind
 grind
structure Gu where
 n:Nat
 L:List Ct
 v:Value
def Gu.pr(p:Gu):Nat×List Ct:=(p.n,p.L)
def Ri(p:Gu):List Value:=[I_ p.n,p.v]
structure au(w)(base)(v)(H:List Gu):Prop where
 row:Yk w base 399 2 v (H.map Ri)
 each:∀p∈H,Aj w base p.v p.L
def au.nil w base:au w base (.slice none 0 0) []:=⟨Yk.nil _ _ _ _,s_⟩
def au.below{w w' base v H}(h:au w base v H)(hb:Below w.heap.size w w'):au w' base v H:=⟨h.row.below hb,λp hp=>(h.each p hp).below hb⟩
def au.row2{w a v H}(h:au w a v H):w.ownsRow a 399 2 v H.length (H.map Ri).flatten:=by
 have:=h.row.row
 grind
def au.shape{w b v H}(h:au w b v H):∃a c,v=.slice a H.length c:=by
 obtain⟨a,c,e⟩:=h.row.shape
 grind
def au.upto{w base a n c i H}(h:au w base (.slice a n c) H)(hi:i<=H.length):au w base (.slice a i c) (H.take i):=
 ⟨by rw[List.map_take];exact h.row.upto w_,λp hp=>h.each p (List.mem_of_mem_take hp)⟩
def Sc:Gu:=⟨0,[],.slice none 0 0⟩
def au.at{w a v H}(h:au w a v H){i}(g:i<H.length):∃q c,v=L_ q H.length c/\H.length<=c/\w.cell? (A_ q (i*2))=some (I_ (H.getD i Sc).n)/\w.cell? (A_ q (i*2+1))=some (H.getD i Sc).v/\H.getD i Sc∈H:=by obtain⟨q,c,e,f,_,_,_,b⟩:=h.row.at (i:=i) w_;have d:(H.map Ri).getD i []=Ri (H.getD i Sc):=w_;rw[d] at b;exact⟨q,c,w_,w_,b 0 o_ _ rfl,b 1 o_ _ rfl,w_⟩
def au.more{w c a v d H p}(h:au w a v H)(f:Aj w a p.v p.L)(g:w.grownBy c v.ownBlock)(r:c.ownsRow a 399 2 d (H.length+1) ((H.map Ri).flatten++Ri p)):au c a d (H++[p]):=by
 refine⟨?_,λq hq=>?_⟩;rw[List.map_append];exact h.row.more w_ rfl
 have b:Aj w a q.v q.L:=by
  rcases List.mem_append.1 hq with e|e
  exact h.each q e
  grind
 exact Aj.grown b h.row.row d_ g
def LvB(w:World)(kb N:Nat)(v:Value):Prop:=w.heap[kb]? =some (.cells #[I_ N,v] 399 (0,0))
def LvB.cells{w kb N v}(h:LvB w kb N v):w.cell? (A_ kb 0)=some (I_ N)/\w.cell? (A_ kb 1)=some v/\w.frozen? (A_ kb 0)=false/\w.frozen? (A_ kb 1)=false/\kb<w.heap.size:=
 ⟨cq_ 0 _ 399 (0,0) h,cq_ 1 _ 399 (0,0) h,fq_ 0 _ 399 h,fq_ 1 _ 399 h,(Qb h).1⟩
def LvB.fill{w a N M v u}(h:LvB w a N v):LvB ((w.setCell (A_ a 0) (I_ (M:Nat))).setCell (A_ a 1) u) a M u:=by have b:=hs_ w _ 0 _ _ (I_ (M:Nat)) h;exact ht_ 1 _ _ u b
def LvB.touch2{w kb} a b:Aa (λk=>k=kb) w ((w.setCell (A_ kb 0) a).setCell (A_ kb 1) b):=((Aa.refl (λk=>k=kb) _).setCell (p:=(A_ kb 0)) (λ_=>rfl) _).setCell (p:=(A_ kb 1)) (λ_=>rfl) _
def LvB.own{w w' base kb N v u L}(hB:LvB w kb N u)(h:Aj w base v L)(t:Aa (λk=>k=kb) w w'):Aj w' base v L:=t.row h (λk hk e=>Au h hk hB d_ e)
def au.box{w w' base kb N v u H}(h:au w base v H)(hB:LvB w kb N u)(t:Aa (λk=>k=kb) w w')(hq:∀q,v.ownBlock=some q->q≠kb):au w' base v H:=⟨h.row.touch t hq,λp hp=>hB.own (h.each p hp) t⟩
def Jf:∀(A B:List (List Ct)),Bh (A++B)=Bh A+Bh B
 |[],B=>by simp[Bh]
 |l::A,B=>by simp only[List.cons_append,Bh,Jf A B];omega
structure Ud(fr)(H:List Gu):Prop where
 fall:H.Pairwise λp q=>q.n<p.n
 ok:Fo (H.map Gu.L)
 top:∀p∈H,p.n<=fr
def Ud.nil fr:Ud fr []:=⟨List.Pairwise.nil,Fo.nil,s_⟩
def Ud.take{fr H}(h:Ud fr H) i:Ud fr (H.take i):=
 ⟨h.fall.sublist (List.take_sublist _ _),⟨λl hl=>h.ok.good l w_,λl hl=>h.ok.len l w_⟩,λp hp=>h.top p (List.mem_of_mem_take hp)⟩
def Ud.more{d c H}{p:Gu}(h:Ud d H)(f:Bq p.L)(k:p.L.length<=32)(i:∀q∈H,p.n<q.n)(j:d<=c)(g:p.n<=c):Ud c (H++[p]):=by
 refine⟨List.pairwise_append.2 ⟨h.fall,List.pairwise_singleton _ _,λa ha b hb=>?_⟩,⟨λl hl2=>?_,λl hl2=>?_⟩,λq hq=>?_⟩
 ·grind
 ·rw[List.map_append] at hl2
  rcases List.mem_append.1 hl2 with e|e
  exact h.ok.good l e
  grind
 ·rw[List.map_append] at hl2
  rcases List.mem_append.1 hl2 with e|e
  exact h.ok.len l e
  grind
 rcases List.mem_append.1 hq with e|e
 have:=h.top q e;omega
 grind
def Ud.at{fr H}(h:Ud fr H){p}(hp:p∈H):Bq p.L/\p.L.length<=32:=⟨h.ok.good _ (List.mem_map.2 ⟨p,hp,rfl⟩),h.ok.len _ (List.mem_map.2 ⟨p,hp,rfl⟩)⟩
def Ya{H:List Gu}{i}(h:i<H.length):H.take (i+1)=H.take i++[H.getD i Sc]:=by rw[Qi h];grind
structure SkI(size:Nat)(fr)(R)(tot)(H)(i1 N)(l):Prop where
 ok:Ud fr H
 ge:∀p∈H,N<=p.n
 good:Bq l
 len:l.length<=32
 tt:Bh (H.map Gu.L)+Ae l=tot
 le:i1<=H.length
 res:(i1=H.length/\R=skT size N l (H.map Gu.pr).reverse)∨((∀p∈H,N<p.n)/\R=(N,l)::(H.map Gu.pr).reverse)
 top:N<=fr+1
def SkI.stop{a c R b H i N l}(h:SkI a c R b H (i+1) N l)(f:(H.getD i Sc).n≠N):SkI a c R b H i N l:=by
 refine⟨h.ok,h.ge,h.good,h.len,h.tt,by have:=h.le;omega,.inr ?_,h.top⟩
 rcases h.res with⟨e,hr⟩|hr
 ·have d:H.getD i Sc∈H:=w_;have g:=h.ge _ d;have k:H=H.take i++[H.getD i Sc]:=(by rw[<- Ya o_,e,List.take_length]);refine⟨λp hp=>?_,?_⟩
  ·have j:=h.ok.fall
   grind
  grind [skT,Gu.pr]
 exact hr
def SkI.join{a f R b H i N l}(h:SkI a f R b H (i+1) N l)(u:(H.getD i Sc).n=N)(t:2<=a)(k:a<=32)(w:b<=1000000000000):SkI a f R b (H.take i) i (N+1) (Do (Bp (H.getD i Sc).L l) a)/\Bq (Bp (H.getD i Sc).L l):=by
 have j:=h.le;have g:H.getD i Sc∈H:=w_;obtain⟨m,v⟩:=h.ok.at g
 rcases h.res with⟨e,hr⟩|hr
 ·have o:H=H.take i++[H.getD i Sc]:=(by rw[<- Ya o_,e,List.take_length]);have c:=h.tt;rw[o,List.map_append,Jf] at c;simp only[List.map_cons,List.map_nil,Bh] at c;have r:=Eh (Ls:=(H.take i).map _) (λx hx=>(h.ok.take i).ok.good x hx);have d:=Gb m h.good o_;have s:=Ia (Bp (H.getD i Sc).L l) (size:=(a:Int)) o_;refine⟨⟨h.ok.take i,λp hp=>?_,d.sub (Hf d _),o_,?_,w_,.inl ⟨w_,?_⟩,?_⟩,d⟩
  ·have q:=h.ok.fall
   grind
  rw[Fm,Er];omega
  ·grind [skT,Gu.pr]
  have:=h.ok.top _ g;omega
 grind
def SkI.end_{a c R b H N l}(h:SkI a c R b H 0 N l):(∀p∈H,N<p.n)/\R=(N,l)::(H.map Gu.pr).reverse:=by
 rcases h.res with⟨e,hr⟩|hr
 have:H=[]:=List.eq_nil_of_length_eq_zero e.symm;subst this;exact⟨s_,hr⟩;exact hr
end Go.Proofs.YtfcgnpchbcmdeaaGreat
