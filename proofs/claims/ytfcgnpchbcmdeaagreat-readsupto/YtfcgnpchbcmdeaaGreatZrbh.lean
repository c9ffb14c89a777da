import Derived.Test.YtfcgnpchbcmdeaaGreatZrbc
namespace Go.Proofs.YtfcgnpchbcmdeaaGreat
set_option linter.all false
set_option maxRecDepth 100000
set_option maxHeartbeats 16000000
open Go.RowKit
def oh(w:World)(base:Nat)(v:Value)(L:List VS):Prop:=w.ownsRow base 335 3 v L.length (Ic L)
def oh.more{w a v L x}(h:w.ownsRow a 335 3 v (L.length+1) (Ic L++Hy x)):oh w a v (L++[x]):=by grind [oh,Us,Ic]
def ZjY:(Tryz.prog.info? 335).map (λi=>(i.zero,i.size,i.bytes))=some (some (.agg #[.bool false,I_ 0,.string ⟨#[]⟩]),3,32):=k_
def ZjZ:(Tryz.prog.info? 338).map (λi=>(i.zero,i.size,i.bytes))=some (some (.agg #[I_ 0,.slice none 0 0]),2,32):=k_
structure Jy where
 wt:Int
 fs:List VS
 v:Value
def Jy.pr(p:Jy):Int×List VS:=(p.wt,p.fs)
def Pv(p:Jy):List Value:=[I_ p.wt,p.v]
def Ox:List Jy->List Value
 |[]=>[]
 |p::L=>Pv p++Ox L
theorem yi A B:Ox (A++B)=Ox A++Ox B:=by
 induction A with
 |nil=>rfl
 |cons x A ih=>simp[Ox,ih]
structure Fy(w:World)(base)(v)(L):Prop where
 row:w.ownsRow base 338 2 v L.length (Ox L)
 each:∀p∈L,oh w base p.v p.fs
def Fy.nil w base:Fy w base (.slice none 0 0) []:=⟨rn_,s_⟩
def Fy.touch{w w' base v L K}(h:Fy w base v L)(t:Aa K w w')(h1:∀q,v.ownBlock=some q->¬K q)(h2:∀p∈L,∀q,p.v.ownBlock=some q->¬K q):Fy w' base v L:=
 ⟨t.row h.row h1,λp hp=>t.row (h.each p hp) (h2 p hp)⟩
def Fy.shape{w b v L}(h:Fy w b v L):∃a c,v=.slice a L.length c:=by
 rcases h.row.2 with⟨rfl,h0⟩|⟨g,cap,cur,rfl,_⟩
 ·grind
 grind
def Fy.below{w w' base v L}(h:Fy w base v L)(hb:Below w.heap.size w w'):Fy w' base v L:=h.touch (.of_below (S:=λ_=>False) hb) (λ_ _=>id) (λ_ _ _ _=>id)
def Fy.more{w c a v d L p}(h:Fy w a v L)(j:oh w a p.v p.fs)(g:w.grownBy c v.ownBlock)(r:c.ownsRow a 338 2 d (L.length+1) (Ox L++Pv p)):Fy c a d (L++[p]):=by
 have t:=(Aa.refl _ w).grown g (λk hk _=>hk);refine⟨?_,λq hq=>?_⟩
 ·grind [yi,Ox]
 have b:oh w a q.v q.fs:=by
  rcases List.mem_append.1 hq with e|e
  exact h.each q e
  grind
 refine t.row b (λk hk e=>?_);obtain⟨f,i⟩:=Ad b hk;exact Au h.row e i d_ rfl
structure RwI(w W)(base tb cb rb:Nat)(S)(k)(z)(vR)(L)(vc)(wt)(fv)(F):Prop where
 tx:Fb W tb S k z vR
 rows:Fy W base vR L
 cf:W.heap[cb]? =some (.cells vc 37 (0,0))
 rw:W.heap[rb]? =some (.cells #[I_ wt,fv] 338 (0,0))
 fl:oh W rb fv F
 lo:Below base w W
 n1:base<=tb
 n2:base<=cb
 n3:base<=rb
 ap:∀p∈L,∀q,p.v.ownBlock=some q->q<rb
 ar:∀q,vR.ownBlock=some q->q<rb
section
variable {w W W':World} {base tb cb rb:Nat} {S:ByteArray} {k k':Nat} {z z':Int} {vR:Value} {L:List Jy} {vc:Array Value} {wt:Int} {fv:Value} {F:List VS}
def RwI.text(h:RwI w W base tb cb rb S k z vR L vc wt fv F)(hx:Fb W' tb S k' z' vR)(t:Aa (λq=>q=tb) W W'):RwI w W' base tb cb rb S k' z' vR L vc wt fv F:=
 ⟨hx,h.rows.touch t (λq hq e=>Au h.rows.row hq h.tx d_ e) (λp hp q hq e=>Au (h.rows.each p hp) hq h.tx d_ e),
  t.at_ h.cf (λe=>by have h1:=h.cf;have h2:=h.tx;unfold Fb at h2;grind),
  t.at_ h.rw (λe=>by have h1:=h.rw;have h2:=h.tx;unfold Fb at h2;grind),
  t.row h.fl (λq hq e=>Au h.fl hq h.tx d_ e),h.lo.trans (t.to_below (by have:=h.lo.size;have:=h.tx.lt;have:=h.n1;omega) (λq hq=>by have:=h.n1;omega)),h.n1,h.n2,h.n3,h.ap,h.ar⟩
def RwI.below(h:RwI w W base tb cb rb S k z vR L vc wt fv F)(a:Below W.heap.size W W'):RwI w W' base tb cb rb S k z vR L vc wt fv F:=by have t:=Aa.of_below (S:=λ_=>False) a;exact⟨h.tx.below a,h.rows.below a,t.at_ h.cf id,t.at_ h.rw id,t.row h.fl (λ_ _=>id),h.lo.trans (a.mono (by have:=h.tx.lt;have:=h.n1;omega)),h.n1,h.n2,h.n3,h.ap,h.ar⟩
def RwI.ne(h:RwI w W base tb cb rb S k z vR L vc wt fv F):tb≠rb/\cb≠rb:=
 ⟨λe=>by have h1:=h.rw;have h2:=h.tx;unfold Fb at h2;grind,λe=>by have h1:=h.rw;have h2:=h.cf;grind⟩
def RwI.more{b c x}(h:RwI w W base tb cb rb S k z vR L vc wt fv F)(g:W.grownBy b fv.ownBlock)(r:b.ownsRow rb 335 3 c (F.length+1) (Ic F++Hy x)):RwI w (b.setCell (A_ rb 1) c) base tb cb rb S k z vR L vc wt c (F++[x])/\b.heap[rb]? =some (.cells #[I_ wt,fv] 338 (0,0)):=by
 have t:=(Aa.refl _ W).grown g (λk hk _=>hk);have a:=t.at_ h.rw (λe=>Au h.fl e h.rw d_ rfl);have d:Aa (λq=>_∨q=rb) W (b.setCell _ c):=(t.mono (λ_ _=>.inl)).setCell (p:=(A_ rb 1)) (λ_=>.inr rfl) _;obtain⟨n1,f⟩:=h.ne;refine⟨⟨h.tx.touch d ?_,h.rows.touch d (λq hq e=>?_) (λp hp q hq e=>?_),d.at_ h.cf ?_,ht_ 1 _ _ _ a,As (oh.more r) a d_,h.lo.trans (d.to_below (by have:=h.tx.lt;have:=h.n1;omega) (λq hq=>?_)),h.n1,h.n2,h.n3,h.ap,h.ar⟩,a⟩;rintro(e|e);exact Au h.fl e h.tx d_ rfl;exact n1 e
 ·rcases e with e|e
  have:=h.ar q hq;have:=(rl_ h.fl q e).1;omega;have:=h.ar q hq;omega
 ·rcases e with e|e
  have:=h.ap p hp q hq;have:=(rl_ h.fl q e).1;omega;have:=h.ap p hp q hq;omega
 rintro(e|e);exact Au h.fl e h.cf d_ rfl;exact f e;have:=h.n3
 rcases hq with e|e
 have:=(rl_ h.fl q e).1;omega;omega
end
def RwP(w:World)(base tb:Nat)(S:ByteArray)(L:List Jy)(R:Int×List VS×Nat×Int)(w':World):Prop:=
 ∃vR' L',Fb w' tb S R.2.2.1 R.2.2.2 vR'/\Fy w' base vR' L'/\L'.map Jy.pr=(if R.2.2.2=0 then L.map Jy.pr++[(R.1,R.2.1)] else L.map Jy.pr)/\Below base w w'
def ZiW f M k n H fc S vR L x1 x2 x3 o m ct w (h:Fb w M S k 0 vR)(hL:Fy w f vR L)(hb:f<=M)(aZ:k<=S.size)(hF:Dd w H 0 n o m ct)(a7:H<f)(hn:n<=4)(aJ:∀i,i<n->0<=m i/\(o i=false->m i<=3))(bF:L.length<=1000)(hk:S.size<=1000000000000000):C_ 236 #[.pointer (some ⟨M,0,none⟩),.agg #[.slice (some ⟨H,0,none⟩) n fc,.int .i64 x1,.int .i64 x2,.int .i64 x3]] w λe w'=>e=.returned (.tuple #[])/\RwP w f M S L (Zv S n o m k) w':=by
 obtain⟨R,a3⟩:=ez_ (Zv S n o m k);rw[a3];obtain⟨w1,T⟩:=ex_ (w.alloc (.cells #[L_ H n fc,I_ x1,I_ x2,I_ x3] 37));have aM:f<=w.heap.size:=(by have:=h.lt;omega);have b1:E_ w w1:=(by rw[T];exact bA_);have aS:w1.heap[w.heap.size]? =some (.cells #[L_ H n fc,I_ x1,I_ x2,I_ x3] 37 (0,0)):=(by rw[T];exact hn_);obtain⟨cb,a8⟩:=ex_ w.heap.size;have HN:=Zd _ k 2 S 0 false _ _ (h.below b1) o_ hk;have a9:=Zif (S:=S) 0 2 false aZ;obtain⟨A,HA⟩:=ez_ (Mc S k 0 2 false);rw[HA] at HN a9;obtain⟨E,j,k2,z2⟩:=A;simp only at HN a9;have B:=x2_ (h.below b1) (hL.below b1)
 have b7:Hid (∀W,Below f w W->∀i,i<n->W.cell? (A_ H (i*3))=some (.bool (o i))/\W.cell? (A_ H (i*3+1))=some (I_ (m i).toNat)/\W.cell? (A_ H (i*3+2))=some (I_ (ct i))):=λW hW i hi=>by have e0:=hF.c0 i hi;have e1:=hF.c1 i hi;have e2:=hF.c2 i hi;rw[Nat.zero_add] at e0 e1 e2;refine⟨(hW.cell (p:=(A_ H (i*3))) a7).trans e0,?_,(hW.cell (p:=(A_ H (i*3+2))) a7).trans e2⟩;rw[Int.toNat_of_nonneg (aJ i hi).1];exact(hW.cell (p:=(A_ H (i*3+1))) a7).trans e1
 have aN:=x1_ T;have N:Hid (_/\_[cb]? =some _):=⟨b1,by rw[a8];exact aS⟩;have aE:=x1_ a8;clear T b1 aS h hL hF a8;go_enter Tryz.func236,Tryz.ntmps236;go_wp2_with fail
 rw[<- aN,<- aE];refine HN.mono ?_;rintro e w2 ⟨rfl,h2,t2⟩;have aF:=x2_ h2 t2;clear h2 t2 HN aN;have HM:=Xy _ _ S _ 44 _ _ aF.1 d_ hk;have aO:=ZeL (S:=S) (z:=z2) (b:=44) d_ a9.2;obtain⟨k3,a4⟩:=ey_ (Mq S k2 z2 44);obtain⟨z3,aI⟩:=ey_ (Ng S k2 z2 44);rw[a4,aI] at HM;rw[a4] at aO
 have a5:Hid (R=if z3=0 then(E,(Sr S n o m n 0 [] k3).1,(Sr S n o m n 0 [] k3).2.1,(Sr S n o m n 0 [] k3).2.2) else(E,[],k3,z3)):=by
  show _=_;rw[<- a3];unfold Zv;simp only;rw[HA]
  grind
 clear a4 aI a3 HA;go_wp2_with fail
 refine HM.mono ?_;rintro e w3 ⟨rfl,h3,t3⟩;obtain⟨w4,P⟩:=ex_ (w3.alloc (.cells #[I_ E,.slice none 0 0] 338));obtain⟨rb,J⟩:=ex_ w3.heap.size
 have HI:Hid (RwI w w4 f M cb rb S k3 z3 vR L #[L_ H n fc,I_ x1,I_ x2,I_ x3] E (.slice none 0 0) []):=by
  have t:=aF.2.trans t3;have b4:E_ w3 w4:=(by rw[P];exact bA_);have a6:=B.2.touch t (λq hq e=>Au B.2.row hq B.1 d_ e) (λp hp q hq e=>Au (B.2.each p hp) hq B.1 d_ e);have aX:f<=w1.heap.size:=(by have:=B.1.lt;omega);have V:=t.at_ N.2 (λe=>by have h1:=N.2;have h2:=B.1;unfold Fb at h2;grind);refine⟨h3.below b4,a6.below b4,(b4.block _ (Qb V).1).trans V,by rw[P,J];exact hn_,rn_,?_,hb,by rw[aE];exact aM,?_,λp hp q hq=>?_,λq hq=>?_⟩;exact((N.1.mono aM).trans (t.to_below aX (λq hq=>o_))).trans (b4.mono (by have:=t.size;omega));have:=t.size;omega;rw[J];exact(rl_ (a6.each p hp) q hq).2;rw[J];exact(rl_ a6.row q hq).2
 have aD:=x2_ P J;clear h3 t3 HM P J B aF N aE;go_upto_region 5 with fail;rw[<- aD.1,<- aD.2];clear aD;go_loopw [7] (λU wr=>∃(i G:Nat) (X:Int) (fv:Value) (F:List VS),U=.int .i64 i/\i<=n/\G<=S.size/\Hid ((X=0/\F.length=i/\R=(E,(Sr S n o m (n-i) i F G).1,(Sr S n o m (n-i) i F G).2.1,(Sr S n o m (n-i) i F G).2.2))∨(X≠0/\R.2.2.1=G/\R.2.2.2=X))/\Hid (RwI w wr f M cb rb S G X vR L #[.slice (some ⟨H,0,none⟩) n fc,.int .i64 x1,.int .i64 x2,.int .i64 x3] E fv F)) (λU _=>n-(intOf U).toNat)
 case atStart=>
  refine⟨0,k3,z3,_,[],rfl,qg_,aO.2,?_,HI⟩
  by_cases hz:z3=0
  ·grind
  exact .inr ⟨hz,by rw[a5,if_neg hz],by rw[a5,if_neg hz]⟩
 case round=>
  clear HI a5;obtain⟨i,G,X,fv,F,rfl,hi,aK,HE,s⟩:=hrel;obtain⟨_,_,e2,_⟩:=s.tx.cells;have c0:=cq_ 0 _ _ _ s.out.cf;simp only[List.getElem?_toArray,List.getElem?_cons_zero] at c0
  by_cases C:i<n/\X=0
  ·obtain⟨C,rfl⟩:=C;have l:Hid (F.length=i/\R=(E,(Sr S n o m (n-i) i F G).1,(Sr S n o m (n-i) i F G).2.1,(Sr S n o m (n-i) i F G).2.2)):=w_;clear HE;have g1:i<(n:Int):=o_;have g2:0<=(i:Int):=o_;go_upto_if 38 with fail
   go_cut [8] (λv wx=>v=.int .u8 (Eg i n)/\wx=wr)
   case first=>
    by_cases hl:i+1=n
    ·have HS:Hid (Eg i n=_):=if_pos hl;have g3:((i:_)==(n:Int)-1)=_:=beq_iff_eq.2 o_;go_wp2;go_meet
     exact⟨by rw[HS],rfl⟩
    have HS:Hid (Eg i n=_):=if_neg hl;have g3:((i:_)==(n:Int)-1)=_:=beq_eq_false_iff_ne.2 o_;go_wp2;go_meet
    exact⟨by rw[HS],rfl⟩
   case rest=>
    obtain⟨rfl,hw⟩:=hcut;obtain rfl:=hw.symm;clear hw;obtain⟨a0,a1,a2⟩:=b7 wr s.lo i C;have HF:=ZdO _ _ (m i).toNat S _ (ct i) _ _ _ s.tx aK (λe=>by have:=(aJ i C).2 e;omega) (Xs i n) hk;have aH:=ZkJ (S:=S) (o i) (m i).toNat (Xs i n) aK;obtain⟨r,Hr⟩:=ez_ (bz S G (o i) (m i).toNat (Eg i n));rw[Hr] at HF aH
    have HN:Hid ((r.2.2=0/\(F++[r.1]).length=i+1/\R=(E,(Sr S n o m (n-(i+1)) (i+1) (F++[r.1]) r.2.1).1,(Sr S n o m (n-(i+1)) (i+1) (F++[r.1]) r.2.1).2.1,(Sr S n o m (n-(i+1)) (i+1) (F++[r.1]) r.2.1).2.2))∨(r.2.2≠0/\R.2.2.1=r.2.1/\R.2.2.2=r.2.2)):=by
     have e:Sr S n o m (n-i) i F G=if r.2.2=0 then Sr S n o m (n-(i+1)) (i+1) (F++[r.1]) r.2.1 else(F++[r.1],r.2.1,r.2.2):=by rw[show n-i=(n-(i+1))+1 by omega,Sr];rw[Hr]
     by_cases hz:r.2.2=0
     exact .inl ⟨hz,by rw[Qe,l.1];rfl,by rw[l.2,e,if_pos hz]⟩;exact .inr ⟨hz,by rw[l.2,e,if_neg hz],by rw[l.2,e,if_neg hz]⟩
    have aV:=x1_ l.1;clear l Hr;generalize o i=wdi,(m i).toNat=sci at *;go_wp2_with fail
    refine HF.mono ?_;rintro e w5 ⟨rfl,h5,t5⟩;have aP:=x1_ (s.text h5 t5);clear h5 t5 s HF e2 c0 a0 a1 a2;have q5:=aP.out;have b9:=(Qb q5.rw).1;obtain⟨⟨ms,nm,wo⟩,kr,zr⟩:=r;obtain⟨Y,y⟩:=ex_ ((w5.alloc (.cells #[.bool ms,I_ nm,.string wo] 335)).alloc (.cells #[.bool ms,I_ nm,.string wo] 335));have b6:E_ w5 Y:=(by rw[y];exact bA_.alloc s_ _);have d:Hid (RwI w _ _ _ _ _ S kr zr _ L _ _ _ F):=q5.below b6;have aB:=x1_ y;have d0:_=some fv:=cq_ 1 _ _ _ q5.rw;have aR:=aV.out;obtain⟨i0,I,aA,aG,Q⟩:=info_parts ZjY;clear q5 y b6 aP
    go_wp2_with (at_builtin;rw[<- aB];refine Ab rfl (.tmp 48) (.tmp 50) 336 rfl rb 335 i0 _ 3 32 Tryz.underlying336 I aA aG Q rfl d_ fv F.length (Ic F) rfl d.fl _ 1 1 [.bool ms,I_ nm,.string wo] rfl rfl ?_ ?_ ?_ ?_ ?_ ?_ ?_)
    have e:=Am (w5.alloc (.cells #[.bool ms,I_ nm,.string wo] 335)) #[.bool ms,I_ nm,.string wo] 335;rw[show(w5.alloc (.cells #[.bool ms,I_ nm,.string wo] 335)).heap.size=w5.heap.size+1 by simp] at e;rw[aB];exact e
    ·intro u hu;simp at hu;rcases hu with rfl|rfl|rfl<;>rfl
    decide;unfold maxLen;omega;omega;have:=(Qb d.out.rw).1;omega;intro v7 w7 H7;obtain⟨r7,g7,d7,_,q7,p7,Z⟩:=H7.out;subst Z;obtain⟨m1,m2⟩:=d.out.more (x:=⟨ms,nm,wo⟩) g7 (by rw[aV.out];exact r7);have bD:=x1_ m1;have c7:=cq_ 1 _ _ _ m2;have f7:=fq_ 1 _ _ m2;simp at c7;clear m1 m2 r7 g7 d7 H7 d d0 aB;go_wp2;go_roundw;case rel=>grind
    case measure=>exact z_
  by_cases hz:X=0
  ·subst hz;have aU:i=n:=o_
   have l:Hid (R=(E,F,G,0)):=by
    rcases HE.out with h|h
    show _=_;rw[h.2.2,aU,Nat.sub_self,Sr];omega
   have g1:¬i<(n:Int):=o_;clear HE C aU;obtain⟨ra,rc,b8⟩:=s.rows.shape
   obtain⟨fa,O,aY⟩:∃a c,fv=.slice a F.length c:=by
    rcases s.out.fl.2 with⟨e,h0⟩|⟨g,cap,cur,e,_⟩
    ·grind
    grind
   subst b8 aY;have q1:=s.tx.cells.2.2.2;have q2:=cR_ 0 s.rw;have q3:=cR_ 1 s.rw;obtain⟨i0,I,aA,aG,Q⟩:=info_parts ZjZ;generalize aR:F.length=fl at s q3;generalize hll:L.length=ll at s q1;have bA:ll<=1000:=o_;have aT:=x1_ hll;clear aR hll;go_upto_region 13 with fail;refine Al (λw'=>w'.cell? _=some _/\w'.cell? _=some _/\w'.cell? _=some _) 10 k_ ⟨q1,q2,q3⟩ (λhHeld=>?_);refine Ah 0 ?_;refine Ah 1 ?_;refine Ah 2 ?_;refine Ah 3 ?_;refine Ah 4 ?_;refine Ah 5 ?_;refine Af (i:=6) k_ rfl (λKK hK=>?_);go_simp;obtain⟨Y,y⟩:=ex_ ((wr.alloc (.cells #[I_ E,.slice fa fl O] 338)).drew);have b6:E_ wr Y:=(by rw[y];exact bA_.drew);have d:=x1_ (s.below b6)
   have aL:∀j u,(#[I_ E,.slice fa fl O]).toList[j]? =some u->Y.cell? (((A_ wr.heap.size 0):Addr).add j)=some u:=(by rw[y];exact Am _ _ _);rw[<- y];have b3:_/\Y.cell? _=some (.int _ E)/\Y.cell? _=some (.slice fa fl _):=⟨d.tx.cells.2.2.2,cq_ 0 _ _ _ d.rw,cq_ 1 _ _ _ d.rw⟩;have aQ:f<=Y.heap.size:=(by have:=d.tx.lt;omega);clear y b6 q1 q2 q3 s;refine hK _ _ b3 (λhHeld=>?_);clear hK KK;try simp only[Act.put,List.setIfInBounds_toArray,List.set_cons_succ,List.set_cons_zero]
   refine Af (i:=7) k_ rfl (λKK hK=>?_);refine Az rfl (.tmp 62) (.tmp 64) 281 rfl f 338 i0 _ 2 32 Tryz.underlying281 I aA aG Q rfl d_ (.slice ra ll rc) ll (Ox L) j_ (by have:=d.rows.row;rw[aT] at this;exact this) (A_ wr.heap.size 0) 1 1 [I_ E,.slice fa fl O] j_ rfl ?_ ?_ d_ m_ o_ aQ ?_;exact aL
   ·intro u hu;simp at hu;rcases hu with rfl|rfl<;>rfl
   intro v7 w7 H7;obtain⟨r7,g7,d7,_,q7,p7,Z⟩:=H7;subst Z;have aW:oh Y f (.slice fa fl O) F:=(by have h1:=d.fl;have h2:=d.n3;exact⟨h1.1,h1.2.imp id (λ⟨g,cap,cur,e,hb,rest⟩=>⟨g,cap,cur,e,o_,rest⟩)⟩);have hM:Fy _ _ _ (L++[⟨_,F,_⟩]):=d.rows.more aW g7 (by rw[aT];exact r7);have U:=(Aa.refl _ _).grown g7 (λk hk _=>hk);have D:=d.tx.touch U (λe=>Au d.rows.row e d.tx d_ rfl);have aC:=U.at_ d.rw (λe=>by have:=d.ar rb e;omega);have b5:_/\w7.cell? _=some (.int _ E)/\w7.cell? _=some (.slice fa fl _):=⟨D.cells.2.2.2,cq_ 0 _ _ _ aC,cq_ 1 _ _ _ aC⟩;have bE:=D.cells.2.2.2;have bC:=fq_ 3 _ _ D
   have HP:Hid (RwP w f M S L (E,F,G,0) (w7.setCell (A_ M 3) (L_ q7 (ll+1) p7))):=(by have t8:Aa _ _ (w7.setCell _ (L_ q7 (ll+1) p7)):=(Aa.refl (λq=>q=M) _).setCell (p:=(A_ M 3)) (λ_=>rfl) _;have bB:=U.size;have h1:=d.n1;refine⟨_,_,ht_ 3 _ _ _ D,hM.touch t8 (λq hq e=>Au hM.row hq D d_ e) (λp hp q hq e=>Au (hM.each p hp) hq D d_ e),by rw[if_pos rfl,List.map_append];rfl,?_⟩;exact(d.lo.trans (U.to_below aQ (λq hq=>(rl_ d.rows.row q hq).1))).trans (t8.to_below o_ (λq hq=>o_)));clear aW hM U D aC r7 g7 d7 d;refine hK _ _ b5 (λhHeld=>?_);clear hK KK;try simp only[Act.put,List.setIfInBounds_toArray,List.set_cons_succ,List.set_cons_zero]
   refine Ah 8 ?_;refine Ah 9 ?_;refine Ai (i:=10) k_ rfl k_ (λKK hK=>?_);go_simp;refine hK _ _ ?_;clear hK KK;try simp only[Act.put,List.setIfInBounds_toArray,List.set_cons_succ,List.set_cons_zero]
   refine Ak k_ ?_ _;go_wp2;go_end0;rw[l];exact⟨rfl,HP⟩
  have l:Hid (R.2.2.1=G/\R.2.2.2=X):=w_;have Q:=beq_eq_false_iff_ne.2 hz;have HZ:=x1_ hz;clear HE C hz
  by_cases C:i<n
  ·have g1:i<(n:Int):=o_;go_wp2;go_end0;refine⟨rfl,?_⟩;unfold RwP;rw[l.1,l.2];exact⟨vR,L,s.tx,s.rows,by rw[if_neg HZ],s.lo⟩
  have g1:¬i<(n:Int):=o_;go_wp2;go_end0;refine⟨rfl,?_⟩;unfold RwP;rw[l.1,l.2];exact⟨vR,L,s.tx,s.rows,by rw[if_neg HZ],s.lo⟩
def RdP(w:World)(S:ByteArray)(R:List (Int×List VS)×Nat×Int)(e:Ending)(w':World):Prop:=
 ∃tb vR L,e=.returned (P_ tb)/\w.heap.size<=tb/\Fb w' tb S R.2.1 R.2.2 vR/\Fy w' w.heap.size vR L/\L.map Jy.pr=R.1/\L.length<=200/\E_ w w'
def uq n u B S F D y s l ct w (hF:Dd w u 0 n s l ct)(a5:u<w.heap.size)(hn:n<=4)(a0:∀i,i<n->0<=l i/\(s i=false->l i<=3))(hk:S.size<=1000000000000000):C_ 178 #[.agg #[.slice (some ⟨u,0,none⟩) n B,.int .i64 F,.int .i64 D,.int .i64 y],.string S] w λe w'=>RdP w S (Jd S n s l (S.size+1) [] 0) e w':=by
 obtain⟨R,C⟩:=ez_ (Jd S n s l (S.size+1) [] 0);rw[C];obtain⟨w1,j⟩:=ex_ ((w.alloc (.cells #[L_ u n B,I_ F,I_ D,I_ y] 37)).alloc (.cells #[.string S,I_ 0,I_ 0,.slice none 0 0] 283));obtain⟨m,x⟩:=ex_ (w.heap.size+1);have J:Fb w1 m S 0 0 (.slice none 0 0):=(by have e:=ha_ (w.alloc (.cells #[L_ u n B,I_ F,I_ D,I_ y] 37)) (.cells #[.string S,I_ 0,I_ 0,.slice none 0 0] 283);rw[show(w.alloc (.cells #[L_ u n B,I_ F,I_ D,I_ y] 37)).heap.size=w.heap.size+1 by simp,<- j,<- x] at e;exact e);have I:w1.heap[w.heap.size]? =some (.cells #[L_ u n B,I_ F,I_ D,I_ y] 37 (0,0)):=by grind [Below.heap_alloc,heap_alloc_new]
 have T:E_ w w1:=(by rw[j];exact bA_.alloc s_ _);have HI:Hid (_/\Fy w1 (w.heap.size+1) _ _/\_/\_):=⟨J,Fy.nil _ _,I,T⟩;have c:=x2_ j x;have a2:Hid (∀W,Below _ w W->_):=λW hW=>hF.below hW;clear j x J I T hF;go_enter Tryz.func178,Tryz.ntmps178;go_upto_region 2 with fail;rw[<- c.1,<- c.2]
 go_loopw [13] (λ_ wr=>∃(b f:Nat) (o:Int) (X:Value) (L:List Jy),b<=S.size/\L.length<=200/\(o=0->S.size+1<=f+b)/\Hid ((o=0/\R=Jd S n s l f (L.map Jy.pr) b)∨(o≠0/\R=(L.map Jy.pr,b,o)))/\Hid (Fb wr m S b o X/\Fy wr (w.heap.size+1) X L/\wr.heap[w.heap.size]? =some (.cells #[.slice (some ⟨u,0,none⟩) n B,.int .i64 F,.int .i64 D,.int .i64 y] 37 (0,0))/\E_ w wr)) (λ_ wr=>match wr.cell? ⟨m,1,none⟩,wr.cell? ⟨m,2,none⟩ with|some (.int _ k),some (.int _ z)=>if z=0 then S.size+1-k.toNat else 0|_,_=>0)
 case atStart=>exact⟨0,S.size+1,0,_,[],qg_,s_,λ_=>o_,.inl ⟨rfl,C.symm⟩,HI⟩
 case round=>
  clear HI C;obtain⟨b,f,o,X,L,P,O,hf,V,a⟩:=hrel;have HC:=a.1.cells;obtain⟨_,e1,e2,e3⟩:=HC;have M:=x2_ e1 e2;obtain⟨ra,rc,G⟩:=a.2.1.shape
  by_cases A:b<S.size/\o=0
  ·obtain⟨A,rfl⟩:=A;have hf:=hf rfl;obtain⟨f,rfl⟩:∃f',f=f'+1:=⟨f-1,o_⟩;have E:Hid (R=Jd S n s l (f+1) (L.map Jy.pr) b):=w_;have g1:b<(S.size:Int):=o_
   by_cases h200:L.length=200
   ·have v:Hid (R=(L.map Jy.pr,b,3)):=(by grind [Jd]);have f2:=fq_ 2 _ _ a.1;rw[h200] at G;subst G;have Z:Hid (RdP w S (L.map Jy.pr,b,3) (.returned (P_ m)) (wr.setCell (A_ m 2) (I_ 3))):=(by obtain⟨H,Y⟩:=a.1.put 3;have h1:=a.1.lt;have h2:=c.2;have t:=a.2.1.touch Y (λq hq e=>Au a.2.1.row hq a.1 d_ e) (λp hp q hq e=>Au (a.2.1.each p hp) hq a.1 d_ e);exact⟨m,_,L,rfl,o_,H,⟨⟨t.row.1,t.row.2.imp id (λ⟨g,cap,cur,e,hb,rest⟩=>⟨g,cap,cur,e,o_,rest⟩)⟩,λp hp=>⟨(t.each p hp).1,(t.each p hp).2.imp id (λ⟨g,cap,cur,e,hb,rest⟩=>⟨g,cap,cur,e,o_,rest⟩)⟩⟩,rfl,O,a.2.2.2.trans (Y.to_below o_ (λq hq=>o_))⟩);clear V E a;go_wp2;go_ret;rw[v];exact Z
   have U:L.length<200:=o_;have a6:((L.length:Int)==200)=_:=beq_eq_false_iff_ne.2 o_;have d:=a.2.2.1;have d0:=cR_ 0 d;have d1:=cR_ 1 d;have d2:=cR_ 2 d;have d3:=cq_ 3 _ _ _ d;simp at d0 d1 d2 d3;have HW:=ZiW _ m _ n u B S X L F D y _ _ ct wr a.1 a.2.1 (by have:=c.2;omega) P (a2 wr a.2.2.2) o_ hn a0 o_ hk;have Q:=ZkU n s l P;obtain⟨r,Hr⟩:=ez_ (Zv S n s l b);rw[Hr] at HW Q;have HN:Hid (R=if r.2.2.2=0 then Jd S n s l f (L.map Jy.pr++[(r.1,r.2.1)]) r.2.2.1 else(L.map Jy.pr,r.2.2.1,r.2.2.2)):=(by show _=_;rw[E,Jd,if_pos A,if_neg w_];simp only;rw[Hr]);subst G;have a1:=x1_ U;clear V E Hr d h200 U;go_wp2_with fail
   refine HW.mono ?_;rintro e w2 ⟨rfl,h2⟩;have H2:=x1_ h2;clear h2 HW;go_wp2;go_roundw
   case rel=>
    obtain⟨N,L',H,Y,y3,y4⟩:=H2.out;have j:=a.1.lt;have a4:=c.2;have h3:=a1.out;have a3:=congrArg List.length y3;refine⟨r.2.2.1,f,r.2.2.2,N,L',Q.1.2,?_,?_,?_,H,Y,?_,?_⟩
    ·grind
    omega
    ·grind
    exact(y4.block _ o_).trans a.2.2.1;exact a.2.2.2.trans (y4.mono o_)
   case measure=>
    obtain⟨N,L',H,_⟩:=H2;rw[H.cells.2.1,H.cells.2.2.1,M.1,M.2]
    grind
  have v:Hid (R=(L.map Jy.pr,b,o)):=by
   rcases V.out with h|h
   ·show _=_;have:=hf h.1;obtain⟨f,rfl⟩:∃f',f=f'+1:=⟨f-1,o_⟩
    grind [Jd]
   exact h.2
  have Z:Hid (RdP w S (L.map Jy.pr,b,o) (.returned (P_ m)) wr):=(by have h2:=c.2;have t:=a.2.1;exact⟨m,_,L,rfl,o_,a.1,⟨⟨t.row.1,t.row.2.imp id (λ⟨g,cap,cur,e,hb,rest⟩=>⟨g,cap,cur,e,o_,rest⟩)⟩,λp hp=>⟨(t.each p hp).1,(t.each p hp).2.imp id (λ⟨g,cap,cur,e,hb,rest⟩=>⟨g,cap,cur,e,o_,rest⟩)⟩⟩,rfl,O,a.2.2.2⟩);clear V a
  by_cases hz:o=0
  ·subst hz;have g1:¬b<(S.size:Int):=o_;go_wp2;go_ret;rw[v];exact Z
  have g1:=beq_eq_false_iff_ne.2 hz;go_wp2;go_ret;rw[v];exact Z
def mu(w:World)(ib fk n fc:Nat)(x1 x2 x3:Int)(S:ByteArray)(z p:Int)(cl:Bool):Prop:=w.heap[ib]? =some (.cells #[L_ fk n fc,I_ x1,I_ x2,I_ x3,.string S,I_ z,I_ p,.bool cl] 278 (0,0))
def mu.cells{w ib fk n fc x1 x2 x3 S z p cl}(h:mu w ib fk n fc x1 x2 x3 S z p cl):(w.cell? (A_ ib 0)=some (L_ fk n fc)/\w.cell? (A_ ib 1)=some (I_ x1)/\w.cell? (A_ ib 2)=some (I_ x2)/\w.cell? (A_ ib 3)=some (I_ x3)/\w.cell? (A_ ib 4)=some (.string S))/\w.cell? (A_ ib 5)=some (I_ z)/\w.cell? (A_ ib 6)=some (I_ p)/\w.cell? (A_ ib 7)=some (.bool cl):=
 ⟨⟨cq_ 0 _ 278 (0,0) h,cq_ 1 _ 278 (0,0) h,cq_ 2 _ 278 (0,0) h,cq_ 3 _ 278 (0,0) h,cq_ 4 _ 278 (0,0) h⟩,cq_ 5 _ 278 (0,0) h,cq_ 6 _ 278 (0,0) h,cq_ 7 _ 278 (0,0) h⟩
def zm a c n d i f g z p S b w (h:mu w a c n d i f g S z p true):C_ 125 #[.pointer (some ⟨a,0,none⟩),.string b] w λe w'=>e=.returned (.tuple #[.int .i64 1,.int .i64 0])/\w'=w:=by
 have j:=h.cells.2.2.2;go_enter Tryz.func125,Tryz.ntmps125;go_wp2;go_ret2
 exact⟨rfl,rfl⟩
def ZbG a f n k i d g z p S b w (h:mu w a f n k i d g S z p false)(c:z≠0):C_ 125 #[.pointer (some ⟨a,0,none⟩),.string b] w λe w'=>e=.returned (.tuple #[.int .i64 z,.int .i64 p])/\∃m,w'=w.drewN m:=by
 obtain⟨_,o,l,q⟩:=h.cells;have j:=bne_iff_ne.2 c;go_enter Tryz.func125,Tryz.ntmps125;go_upto_region 4 with fail;go_quiet (fail);go_wp2;go_ret2
 exact⟨rfl,_,rfl⟩
def fdA(S:ByteArray)(R:List (Int×List VS)×Nat×Int):Int×Int:=if R.2.2≠0/\R.2.1<S.size then(R.2.2,R.2.1) else(0,0)
def RfP(w:World)(ib fk n fc:Nat)(x1 x2 x3:Int)(S:ByteArray)(a:Int×Int)(w':World):Prop:=mu w' ib fk n fc x1 x2 x3 S a.1 a.2 false/\Aa (λq=>q=ib) w w'
def Zf2 c f n H M J E S b o k ct w (h:mu w c f n H M J E S 0 0 false)(x:Dd w f 0 n o k ct)(s:f≠c)(g:f<w.heap.size)(hn:n<=4)(X:∀i,i<n->0<=k i/\(o i=false->k i<=3))(hk:(S++b).size<=1000000000000000):C_ 125 #[.pointer (some ⟨c,0,none⟩),.string b] w λe w'=>e=.returned (.tuple #[.int .i64 (fdA (S++b) (Jd (S++b) n o k ((S++b).size+1) [] 0)).1,.int .i64 (fdA (S++b) (Jd (S++b) n o k ((S++b).size+1) [] 0)).2])/\RfP w c f n H M J E (S++b) (fdA (S++b) (Jd (S++b) n o k ((S++b).size+1) [] 0)) w':=by
 obtain⟨⟨_,_,_,_,c4⟩,y,m,c7⟩:=h.cells;have f4:=fq_ 4 _ _ h;have a6:S.size+(b.size:Int)<=1000000000000000:=w_;obtain⟨T,hT⟩:=ex_ (S++b);rw[<- hT] at hk ⊢;obtain⟨w1,j⟩:=ex_ (w.setCell (A_ c 4) (.string T));have r:Aa (λq=>q=c) w w1:=(by rw[j];exact(Aa.refl (λq=>q=c) w).setCell (p:=(A_ c 4)) (λ_=>rfl) _);have v:mu w1 c f n H M J E T 0 0 false:=(by rw[j];exact ht_ 4 _ _ _ h);have F:Dd _ _ 0 n o k _:=⟨x.le,λh0=>Qh (x.lt h0) r.size,λi hi=>by rw[<- x.c0 i hi];simp[World.cell?,r.block f g s],λi hi=>by rw[<- x.c1 i hi];simp[World.cell?,r.block f g s],λi hi=>by rw[<- x.c2 i hi];simp[World.cell?,r.block f g s]⟩;have O:=Qh g r.size
 have a0:=x1_ (λW hW=>uq n _ H T M J E _ _ _ W (F.below hW) (Qh O hW.size) hn X hk);generalize Jd T n o k (T.size+1) [] 0=R at *;have l:=x2_ j hT;have B:=x2_ v r;clear h x F j hT v r hk;go_enter Tryz.func125,Tryz.ntmps125;go_upto_region 6 with fail;rw[<- l.2,<- l.1];clear l c4 y m c7 f4;have hc:=B.1.cells.1;refine Al (λw'=>w'.cell? _=some _/\w'.cell? _=some _/\w'.cell? _=some _/\w'.cell? _=some _/\w'.cell? _=some _) 9 k_ hc (λhHeld=>?_);refine Ah 0 ?_;refine Ah 1 ?_;refine Ah 2 ?_;refine Ah 3 ?_;refine Ah 4 ?_;refine Ah 5 ?_;refine Ah 6 ?_;refine Ah 7 ?_;refine Af (i:=8) k_ rfl (λKK hK=>?_);go_simp;refine(a0 _ bz_.drew).mono ?_;rintro e w2 ⟨tb,vR,L,rfl,a4,hx,_,_,_,G⟩
 have t:Below w1.heap.size _ _:=bz_.drew.trans G;have A:mu _ _ _ n _ _ _ _ T 0 0 _:=(t.block _ (Qb B.1).1).trans B.1;have t2:=B.2.below t;have a:=x3_ hx A t2;have a3:=A.cells.1;clear hx A t2 G t B hc;go_simp;refine hK _ _ a3 (λhHeld=>?_);clear hK KK;try simp only[Act.put,List.setIfInBounds_toArray,List.set_cons_succ,List.set_cons_zero]
 refine Ai (i:=9) k_ rfl k_ (λKK hK=>?_);go_simp;refine hK _ _ ?_;clear hK KK;try simp only[Act.put,List.setIfInBounds_toArray,List.set_cons_succ,List.set_cons_zero]
 refine Ak k_ ?_ _;obtain⟨_,C,z,_⟩:=a.1.cells;obtain⟨⟨_,_,_,_,c4⟩,y,m,_⟩:=a.2.1.cells;have Y:=fq_ 5 _ _ a.2.1
 by_cases hz:R.2.2=0
 ·have N:Hid (fdA T R=_):=if_neg (λh=>h.1 hz);have V:(R.2.2 !=0)=false:=(by rw[hz];rfl);rw[hz] at z;go_upto_region 7 with fail;go_quiet (fail);go_upto_region 10 with fail;go_quiet (fail);go_wp2;go_ret2
  rw[N];exact⟨rfl,a.2.1,(a.2.2.drewN _).drewN _⟩
 have V:=bne_iff_ne.2 hz
 by_cases hlt:R.2.1<T.size
 ·have N:Hid (fdA T R=_):=if_pos ⟨hz,hlt⟩;have g1:decide (((R.2.1:_):_)<(T.size:Int))=_:=decide_eq_true o_
  have I:tb≠_:=λe=>by have v:=a.1;have A:=a.2.1;unfold Fb at v;unfold mu at A;rw[e,A] at v;simp at v
  have a5:_≠_:=λe=>I e.symm;go_upto_region 7 with fail;go_quiet (fail);obtain⟨D,d⟩:=ex_ (w2.drewN nq);have Q:mu D c f n H M J E T 0 0 false:=(by rw[d];exact a.2.1);have u:Fb D tb T R.2.1 R.2.2 vR:=(by rw[d];exact a.1.drew _);have t3:Aa (λq=>q=c) w D:=(by rw[d];exact a.2.2.drewN _);rw[<- d];clear C z c4 y m Y a d;obtain⟨_,C,z,_⟩:=u.cells;obtain⟨_,y,m,_⟩:=Q.cells;have Y:=fq_ 5 _ _ Q;have P:=ht_ 5 _ _ (I_ R.2.2) Q;have Z:Aa _ _ (D.setCell _ (I_ R.2.2)):=(Aa.refl (λq=>q=c) _).setCell (p:=(A_ c 5)) (λ_=>rfl) _;have x4:=u.touch Z I;go_upto_region 9 with fail;generalize D.setCell (A_ c 5) (I_ R.2.2)=w4 at *;clear C z y m Y;obtain⟨_,C,z,_⟩:=x4.cells;have m:=cR_ 6 P
  have f6:=fq_ 6 _ _ P;have a2:=ht_ 6 _ _ (I_ ((R.2.1:Nat):Int)) P;have t5:Aa _ _ (w4.setCell _ (I_ ((R.2.1:_):_))):=(Aa.refl (λq=>q=c) _).setCell (p:=(A_ c 6)) (λ_=>rfl) _;go_upto_region 10 with fail;generalize w4.setCell (A_ c 6) (I_ ((R.2.1:Nat):Int))=w5 at *;have U:mu _ _ _ n _ _ _ _ T _ _ _:=a2;obtain⟨_,y,a7,_⟩:=U.cells;have HZ:=x2_ U ((t3.trans Z).trans t5);clear C z m f6 P a2 t3 Z t5 u x4 Q U;go_quiet (fail);go_wp2;go_ret2
  rw[N];exact⟨rfl,HZ.1,HZ.2.drewN _⟩
 have N:Hid (fdA T R=_):=if_neg (λh=>hlt h.2);have g1:decide (((R.2.1:_):_)<(T.size:Int))=_:=decide_eq_false o_;go_upto_region 7 with fail;go_quiet (fail);go_upto_region 10 with fail;go_quiet (fail);go_wp2;go_ret2
 rw[N];exact⟨rfl,a.2.1,(a.2.2.drewN _).drewN _⟩
def ZcT S n b a (c:1<=n):fdA S (Jd S n b a (S.size+1) [] 0)=Nr (Ca n b a RS.start (Aq S) 0):=by
 rcases ZbR (S:=S) (b:=b) (a:=a) c with⟨s,h1,_,h3,_,_⟩|⟨s,h1,_,h3,h4⟩|⟨h1,h2,h3⟩
 rw[h1];exact if_neg (λh=>h.1 h3);rw[h1];exact if_neg (λh=>o_);rw[h1];exact if_pos ⟨h2,h3⟩
def loK(n:Int)(k j:Nat):List Int:=Ba n j++List.replicate (k-j) 0
def ZeH n {k j}(h:j<=k):(loK n k j).length=k:=by simp[loK,Gc];omega
def Zj9 n {k j}(h:j<k):(loK n k j).set j (Vx j n%256)=loK n k (j+1):=by unfold loK;rw[List.set_append_right _ _ (by rw[Gc];omega),Gc,Nat.sub_self,show k-j=(k-(j+1))+1 by omega,List.replicate_succ,List.set_cons_zero];simp[Ba]
def Zj8 n k:loK n k k=Ba n k:=by simp[loK]
def Qw(m:Int)(n k:Nat) w (D:k<=8)(p:n<=1000000000000)(r:(0<=m/\m=n)∨(m<0/\m=n-4294967296)):C_ 135 #[.int .i64 m,.int .i64 k] w λe w'=>e=.returned (.string (strOfNums (Ba n k)))/\Below w.heap.size w w':=by
 have z:=Tt k o_;go_enter Tryz.func135,Tryz.ntmps135;go_upto_if 8 with fail
 go_cut [0] (λv wx=>v=.int .i64 (n:Nat)/\wx=w)
 case first=>
  rcases r with⟨a,b⟩|⟨a,b⟩
  ·subst b;have B:¬(n:Int)<0:=o_;go_wp2;go_meet
   grind
  have l:m+4294967296=n:=o_;go_wp2;go_meet
  grind
 case rest=>
 obtain⟨rfl,y⟩:=hcut;obtain rfl:=y.symm;go_upto_region 4 with fail
 have A:Hid (Bj (w.alloc (.cells (madeCells #[.int .u8 0] k) 5)) w.heap.size (L_ w.heap.size k k) (loK n k 0)/\E_ w (w.alloc (.cells (madeCells #[.int .u8 0] k) 5))):=by
  refine⟨?_,bA_⟩
  grind [Tr,loK,Ba]
 generalize w.alloc (.cells (madeCells #[.int .u8 0] k) 5)=w1 at *;go_upto_region 5 with fail;go_loopw [0,6] (λtn ti wr=>∃(j x:Nat),tn=.int .i64 (x:Nat)/\ti=.int .i64 j/\j<=k/\x<=1000000000000/\Hid (Vx j n=(x:Int))/\Hid (Bj wr w.heap.size (.slice (some ⟨w.heap.size,0,none⟩) k k) (loK n k j)/\E_ w wr)) (λ_ ti _=>k-(intOf ti).toNat)
 case atStart=>exact⟨0,n,rfl,rfl,qg_,p,rfl,A⟩
 case round=>
  obtain⟨j,x,rfl,rfl,i,E,f,c⟩:=hrel
  by_cases hjk:j<k
  ·have C:0<=(j:Int):=o_;have l:j<(k:Int):=o_;obtain⟨t,q⟩:=c.1.cellK (k:=j) (ZeH _ i).symm hjk;have o:Hid (Bj (wr.setCell (A_ w.heap.size j) (.int .u8 (x%256))) w.heap.size (L_ w.heap.size k k) (loK n k (j+1))/\E_ w (wr.setCell (A_ w.heap.size j) (.int .u8 (x%256)))):=(by have:=c.1.put (k:=j) (ZeH _ i).symm ((x:Int)%256);rw[<- f,Zj9 _ hjk] at this;rw[<- f];exact⟨this.1,c.2.setCell qa_ _⟩);have d:Hid (Vx (j+1) n=(x/256:Nat)):=by show _=_;unfold Vx;rw[f];omega
   have u1:IntKind.u8.wrap (x%256)=x%256:=(by simp only[IntKind.wrap,IntKind.bits,IntKind.signed];simp);go_upto_region 8 with fail;generalize wr.setCell (A_ w.heap.size j) (.int .u8 ((x:Int)%256))=w2 at *;refine rd_ ?_;exact⟨j+1,x/256,g_,g_,o_,o_,d,o⟩
  have g:j=k:=o_;subst g;have u:¬j<(j:Int):=o_;have h:=Pz _ _ _ _ c.1;rw[Zj8] at h;have s:=x1_ c.2;go_wp2;go_ret;exact⟨rfl,s⟩
def Hm:Value:=.slice none 0 0
structure Ry(w:World)(o:Nat->Nat)(c:Array Value)(i tl tm:Nat)(F:World->Value->Value->Prop)(N)(vn vm)(vs ms):Prop where
 c0:c[i]? =some vn
 c1:c[i+1]? =some vm
 rn:w.ownsRow 0 tl 1 vn vs.length vs
 on:∀k,vn.ownBlock=some k->o k=i
 rm:w.ownsRow 0 tm 1 vm ms.length ms
 om:∀k,vm.ownBlock=some k->o k=i+1
 len:ms.length=vs.length
 few:vs.length<=4*N
 all:∀j,j<vs.length->Ii w o 13 (λW=>F W (vs.getD j Hm) (ms.getD j Hm))
def Grp(w:World)(o:Nat->Nat)(c:Array Value)(i tl tm:Nat)(F:World->Value->Value->Prop)(N:Nat):Prop:=∃vn vm vs ms,Ry w o c i tl tm F N vn vm vs ms
section
variable {w w':World} {o o':Nat->Nat} {c c':Array Value} {i tl tm N:Nat} {F:World->Value->Value->Prop} {vn vm:Value} {vs ms:List Value} {S:Nat->Prop}
def Ry.keep(h:Ry w o c i tl tm F N vn vm vs ms)(t:Aa S w w')(b:∀k,k<w.heap.size->S k->o k≠i/\o k≠i+1/\o k≠13)(d:Dq w o o')(m:i<20)(e0:c'[i]? =c[i]?)(g:c'[i+1]? =c[i+1]?){f}(p:N<=f):Ry w' o' c' i tl tm F f vn vm vs ms:=by
 have a:∀{ty n:Nat} {v:_} {xs:_},w.ownsRow 0 ty 1 v n xs->_:=λhr k hk=>(rl_ hr k hk).2;refine⟨e0.trans h.c0,g.trans h.c1,t.row h.rn (λk hk e=>(b k (a h.rn k hk) e).1 (h.on k hk)),λk hk=>?_,t.row h.rm (λk hk e=>(b k (a h.rm k hk) e).2.1 (h.om k hk)),λk hk=>?_,h.len,by have:=h.few;omega,λj hj=>(h.all j hj).step t (λk hk e=>(b k hk e).2.2) d⟩
 ·have l:=h.on k hk
  rcases d k (a h.rn k hk) with e|e
  omega;omega
 have l:=h.om k hk
 rcases d k (a h.rm k hk) with e|e
 omega;omega
def Grp.keep(h:Grp w o c i tl tm F N)(t:Aa S w w')(l:∀k,k<w.heap.size->S k->o k≠i/\o k≠i+1/\o k≠13)(n:Dq w o o')(b:i<20)(e0:c'[i]? =c[i]?)(e:c'[i+1]? =c[i+1]?){a}(d:N<=a):Grp w' o' c' i tl tm F a:=by obtain⟨f,j,m,g,h⟩:=h;exact⟨f,j,m,g,h.keep t l n b e0 e d⟩
end
def fE(W:World)(x m:Value):Prop:=∃z:Int,m=I_ z/\Ft W z x
def fN(W:World)(x m:Value):Prop:=(∃z:Int,m=I_ z)/\Gi W 3 m x
def fS(W:World)(x m:Value):Prop:=(∃s:ByteArray,m=.string s)/\Gi W 9 m x
def fL(W:World)(x m:Value):Prop:=∃z mb,m=I_ z/\Gi W 25 (L_ mb 1 1) x/\W.heap[mb]? =some (.cells #[m] 3 (0,0))
structure Hx(w)(o:Nat->Nat)(g)(c)(N:Nat):Prop where
 wb:WB w g c
 og:o g=0
 sz:c.size=13
 nx:∃z:Int,c[12]? =some (I_ z)/\0<=z/\z<=N
 es:Grp w o c 4 29 3 fE N
 ns:Grp w o c 6 25 3 fN N
 ss:Grp w o c 8 47 9 fS N
 ls:Grp w o c 10 84 3 fL N
def Hx.keep{w b o d g N c S}(h:Hx w o g c N)(t:Aa S w b)(i:∀k,k<w.heap.size->S k->13<o k)(a:Dq w o d):Hx b d g c N:=by
 have f:=h.wb.lt;refine⟨t.at_ h.wb (λe=>by have:=i g f e;have:=h.og;omega),?_,h.sz,h.nx,?_,?_,?_,?_⟩
 ·have:=h.og
  rcases a g f with e|e
  omega;omega
 exact h.es.keep t (λk hk e=>w_) a d_ rfl rfl qa_;exact h.ns.keep t (λk hk e=>w_) a d_ rfl rfl qa_;exact h.ss.keep t (λk hk e=>w_) a d_ rfl rfl qa_;exact h.ls.keep t (λk hk e=>w_) a d_ rfl rfl qa_
def Lo(w:World)(o:Nat->Nat)(E:Nat->Prop)[DecidablePred E](i:Nat)(vn vm:Value)(k:Nat):Nat:=
 if k<w.heap.size/\o k≠99 then o k else if E k then 13 else if vn.ownBlock=some k then i else if vm.ownBlock=some k then i+1 else 99
def Ni w o E [DecidablePred E] i vn vm:Dq w o (Lo w o E i vn vm):=λk hk=>by
 by_cases e:o k=99
 exact .inl e;right;unfold Lo
 grind
def Rt{w o E}[DecidablePred E]{i a b k}(c:E k)(d:k<w.heap.size->o k=99):Lo w o E i a b k=13:=by
 unfold Lo
 grind
def Ry.grow{w z o c g i H s r N F u q v B C d b l n a A E}[DecidablePred E](h:Ry w o c i s r F N B C l n)(m:oq w z g i c H s r u q v B C l n A d b a)(T:i=6∨i=8∨i=10)(S:o g=0)(M:∀k,v.ownBlock=some k->o k=99)(O:c.size=13)(J:s≠r)(L:∀k,E k->d.ownBlock≠some k)(t:∀k,E k->b.ownBlock≠some k)(I:∀x∈a,Ii z (Lo w o E i d b) 13 (λW=>F W x q)):Ry z (Lo w o E i d b) (((c.setIfInBounds 12 (I_ A)).setIfInBounds i d).setIfInBounds (i+1) b) i s r F (N+1) d b (l++a) (n++List.replicate 4 q):=by
 have f:=m.len;have G:=Ni w o E i d b;refine⟨?_,?_,?_,λk hk=>?_,?_,λk hk=>?_,?_,?_,λj hj=>?_⟩
 ·grind
 ·grind
 rw[Qe,f];exact m.rn
 ·unfold Lo
  rcases m.nn k hk with e|e
  rw[if_pos ⟨(rl_ h.rn k e).2,by have:=h.on k e;omega⟩];exact h.on k e
  grind
 rw[Qe,List.length_replicate];exact m.rm
 ·unfold Lo
  rcases m.nm k hk with e|e
  rw[if_pos ⟨(rl_ h.rm k e).2,by have:=h.om k e;omega⟩];exact h.om k e;rw[if_neg o_,if_neg (λp=>t k p hk),if_neg (λp=>?_),if_pos hk];obtain⟨R,Q⟩:=Ad m.rn p;obtain⟨P,U⟩:=Ad m.rm hk
  grind
 simp[h.len,f]
 ·have:=h.few
  grind
 rw[Qe,f] at hj
 by_cases hjl:j<l.length
 ·have y:(l++a).getD j Hm=l.getD j Hm:=w_;have p:(n++List.replicate 4 q).getD j Hm=n.getD j Hm:=(by simp[List.getD,List.getElem?_append_left (show j<n.length by rw[h.len];exact hjl)]);rw[y,p];refine(h.all j hjl).step m.tch (λk hk e=>?_) G
  rcases e with e|e|e|e
  subst e;omega
  ·grind
  have:=h.on k e;omega;have:=h.om k e;omega
 have D:j-l.length<a.length:=o_;have y:(l++a).getD j Hm=a[j-l.length]:=w_;have p:(n++List.replicate 4 q).getD j Hm=q:=(by rw[List.getD,List.getElem?_append_right (by rw[h.len];omega),List.getElem?_replicate,if_pos (by rw[h.len];omega)];rfl);rw[y,p];exact I _ (Qf _)
def Grp.other{w t o c g i j C s n f l N F q u A v r x b a y m d p E}[DecidablePred E](h:Grp w o c j f l q N)(z:Ry w o c i s n F N r x y m)(D:oq w t g i c C s n u A v r x y m p b a d)(J:o g=0)(G:∀k,v.ownBlock=some k->o k=99)(L:i<=10)(H:j<=10)(I:4<=j)(B:j+1<i∨i+1<j):Grp t (Lo w o E i b a) (((c.setIfInBounds 12 (I_ p)).setIfInBounds i b).setIfInBounds (i+1) a) j f l q (N+1):=by
 refine h.keep D.tch (λk hk e=>?_) (Ni w o E i _ _) o_ ?_ ?_ (Nat.le_succ _)
 ·rcases e with e|e|e|e
  subst e;omega
  ·grind
  have:=z.on k e;omega;have:=z.om k e;omega
 rw[Array.getElem?_setIfInBounds_ne o_,Array.getElem?_setIfInBounds_ne o_,Array.getElem?_setIfInBounds_ne o_];rw[Array.getElem?_setIfInBounds_ne o_,Array.getElem?_setIfInBounds_ne o_,Array.getElem?_setIfInBounds_ne o_]
def zu(c:Array Value) i (b:i<=10) x y z (a:c.size=13):(((c.setIfInBounds 12 x).setIfInBounds i y).setIfInBounds (i+1) z)[12]? =some x/\(((c.setIfInBounds 12 x).setIfInBounds i y).setIfInBounds (i+1) z).size=13:=by refine⟨?_,by simp[a]⟩;rw[Array.getElem?_setIfInBounds_ne o_,Array.getElem?_setIfInBounds_ne o_,Array.getElem?_setIfInBounds_self_of_lt o_]
abbrev Vl(news:List Value)(k:Nat):Prop:=∃x∈news,x.ownBlock=some k
def Zci(w w':World)(o:Nat->Nat)(g:Nat)(N:Nat)(v:Value)(c:Array Value):Prop:=∃o' c',Hx w' o' g c' (N+1)/\Dq w o o'/\Aa (λk=>o k<=13∨v.ownBlock=some k) w w'/\(∀j,j<4->c'[j]? =c[j]?)/\(∀k,w.heap.size<=k->o' k<=13∨o' k=99)/\(∀k,k<w.heap.size->o k=99->v.ownBlock≠some k->o' k=99)/\∀k,k<w.heap.size->o k=99->o' k<=13∨o' k=99
def jl{w w' o g i ty tl tm N c F u mk v vn vm vn' vm' vs ms news nx}(hg:Ry w o c i tl tm F N vn vm vs ms)(hp:oq w w' g i c ty tl tm u mk v vn vm vs ms nx vn' vm' news)(og:o g=0)(hi:i<=10):Aa (λk=>o k<=13∨v.ownBlock=some k) w w':=
 hp.tch.mono (λk _ e=>by
  rcases e with e|e|e|e
  ·grind
  exact .inr e;have:=hg.on k e;omega
  have:=hg.om k e;omega)
theorem jj w o E [DecidablePred E] i vn vm (hi:i<=10):∀k,w.heap.size<=k->Lo w o E i vn vm k<=13∨Lo w o E i vn vm k=99:=λk hk=>by grind [Lo]
def ud{w t o g i z s q N c F u B v r m d a n l b A}(p:Ry w o c i s q F N r m n l)(h:oq w t g i c z s q u B v r m n l A d a b)(D:i<=10){E}[DecidablePred E](y:∀k,E k->k<w.heap.size->v.ownBlock=some k:=by exact λk hk hl=>by obtain⟨x,C,j⟩:=hk;rcases(h.all x C).2 k j with e|e;exact e;omega):∀k,k<w.heap.size->o k=99->v.ownBlock≠some k->Lo w o E i d a k=99:=λk hk h9 hv=>by
 unfold Lo;rw[if_neg (λe=>e.2 h9),if_neg (λe=>hv (y k e hk)),if_neg (λe=>?_),if_neg (λe=>?_)]
 ·rcases h.nm k e with f|f
  have:=p.om k f;omega;omega
 rcases h.nn k e with f|f
 have:=p.on k f;omega;omega
theorem zg w o E [DecidablePred E] i vn vm (hi:i<=10):∀k,k<w.heap.size->o k=99->Lo w o E i vn vm k<=13∨Lo w o E i vn vm k=99:=λk _ h9=>by grind [Lo]
def ki(c:Array Value) i (hi:4<=i) x y z:∀j,j<4->(((c.setIfInBounds 12 x).setIfInBounds i y).setIfInBounds (i+1) z)[j]? =c[j]?:=λj hj=>w_
def Hx.ownN{w o g N c v L}(h:Hx w o g c N)(y:Ag w 0 v L)(m:∀k,v.ownBlock=some k->o k=99)(u:L.length<=4194304)(E:N<=20000000):C_ 142 #[.pointer (some ⟨g,4,none⟩),v] w λe w'=>e=.returned (.tuple #[])/\Zci w w' o g N v c:=by
 obtain⟨F,B,G,C,a⟩:=h.ns;obtain⟨p,d,q,z⟩:=h.nx;have D:=a.few;have A:=a.len;refine(ji g c v _ _ L _ _ p w h.wb a.c0 a.c1 d y a.rn a.rm ?_ u o_ o_ ⟨q,o_⟩).mono ?_
 ·cases e:B.ownBlock with
  |none=>exact .inl rfl
  |some k=>exact .inr (λe2=>by have:=a.om k e;grind)
 rintro e w' ⟨rfl,l,j,i,f⟩
 have n:∀k,Vl i k->k<w.heap.size->o k=99:=λk hk u=>by
  obtain⟨x,d,b⟩:=hk
  rcases(f.all x d).2 k b with e|e
  exact m k e;omega
 have O:=Ni w o (Vl i) 6 l j;have r:=h.wb.lt;obtain⟨t,s⟩:=zu c 6 d_ (I_ (p+1)) l j h.sz;refine⟨rfl,Lo w o _ 6 _ _,_,⟨f.wb,?_,s,⟨p+1,t,o_,o_⟩,h.es.other a f h.og m d_ d_ d_ d_,⟨l,j,_,_,a.grow f d_ h.og m h.sz d_ (λk hk=>by obtain⟨x,d,b⟩:=hk;exact f.an x d k b) (λk hk=>by obtain⟨x,d,b⟩:=hk;exact f.am x d k b) (λx d=>?_)⟩,h.ss.other a f h.og m d_ d_ d_ d_,h.ls.other a f h.og m d_ d_ d_ d_⟩,O,jl a f h.og d_,ki c 6 d_ _ _ _,jj _ _ _ _ _ _ d_,ud a f d_,zg _ _ _ _ _ _ d_⟩
 ·rcases O g r with e|e
  have:=h.og;omega;exact e.trans h.og
 refine(Ii.all (f.all x d).1 (λk hk=>Rt ⟨x,d,hk⟩ (n k ⟨x,d,hk⟩))).mono (λW hW=>⟨⟨_,rfl⟩,hW⟩)
def Hx.ownT{w o g N c v L}(h:Hx w o g c N)(y:Cc w 0 v L)(m:∀k,v.ownBlock=some k->o k=99)(u:L.length<=4194304)(E:N<=20000000):C_ 143 #[.pointer (some ⟨g,4,none⟩),v] w λe w'=>e=.returned (.tuple #[])/\Zci w w' o g N v c:=by
 obtain⟨F,B,G,C,a⟩:=h.ss;obtain⟨p,d,q,z⟩:=h.nx;have D:=a.few;have A:=a.len;refine(zh g c v _ _ L _ _ p w h.wb a.c0 a.c1 d y a.rn a.rm ?_ u o_ o_ ⟨q,o_⟩).mono ?_
 ·cases e:B.ownBlock with
  |none=>exact .inl rfl
  |some k=>exact .inr (λe2=>by have:=a.om k e;grind)
 rintro e w' ⟨rfl,l,j,i,f⟩
 have n:∀k,Vl i k->k<w.heap.size->o k=99:=λk hk u=>by
  obtain⟨x,d,b⟩:=hk
  rcases(f.all x d).2 k b with e|e
  exact m k e;omega
 have O:=Ni w o (Vl i) 8 l j;have r:=h.wb.lt;obtain⟨t,s⟩:=zu c 8 d_ (I_ (p+1)) l j h.sz;refine⟨rfl,Lo w o _ 8 _ _,_,⟨f.wb,?_,s,⟨p+1,t,o_,o_⟩,h.es.other a f h.og m d_ d_ d_ d_,h.ns.other a f h.og m d_ d_ d_ d_,⟨l,j,_,_,a.grow f d_ h.og m h.sz d_ (λk hk=>by obtain⟨x,d,b⟩:=hk;exact f.an x d k b) (λk hk=>by obtain⟨x,d,b⟩:=hk;exact f.am x d k b) (λx d=>?_)⟩,h.ls.other a f h.og m d_ d_ d_ d_⟩,O,jl a f h.og d_,ki c 8 d_ _ _ _,jj _ _ _ _ _ _ d_,ud a f d_,zg _ _ _ _ _ _ d_⟩
 ·rcases O g r with e|e
  have:=h.og;omega;exact e.trans h.og
 refine(Ii.all (f.all x d).1 (λk hk=>Rt ⟨x,d,hk⟩ (n k ⟨x,d,hk⟩))).mono (λW hW=>⟨⟨_,rfl⟩,hW⟩)
def Zj4:(Tryz.prog.info? 84).map (λi=>(i.zero,i.size,i.bytes))=some (some (.slice none 0 0),1,24):=k_
def Lr(w w':World)(o:Nat->Nat)(g N:Nat)(c:Array Value):Prop:=∃o' c',Hx w' o' g c' N/\Dq w o o'/\Aa (λk=>o k<=13∨o k=99) w w'/\(∀j,j<4->c'[j]? =c[j]?)/\(∀k,w.heap.size<=k->o' k<=13∨o' k=99)/\∀k,k<w.heap.size->o k=99->o' k<=13∨o' k=99
structure ZgL(w wr)(o oi)(g N i)(c ci:Array Value)(v)(vals)(Ls:Nat->List Int):Prop where
 bk:Hx wr oi g ci (N+i)
 sm:Dq w o oi
 tc:Aa (λk=>o k<=13∨o k=99) w wr
 cc:∀j,j<4->ci[j]? =c[j]?
 nw:∀k,w.heap.size<=k->oi k<=13∨oi k=99
 ro:wr.ownsRow 0 25 1 v vals.length vals
 ov:∀k,v.ownBlock=some k->oi k=99
 ls:∀j,i<=j->j<vals.length->Ag wr 0 (vals.getD j Hm) (Ls j)/\∀k,(vals.getD j Hm).ownBlock=some k->oi k=99
 lo:∀j,j<vals.length->∀k,(vals.getD j Hm).ownBlock=some k->k<w.heap.size
 n9:∀k,k<w.heap.size->o k=99->oi k<=13∨oi k=99
def ZgL.next{w wr t o s g N i c x v a r}(h:ZgL w wr o s g N i c x v a r)(z:i<a.length)(n:∀i j,i<j->j<a.length->∀k,(a.getD i Hm).ownBlock=some k->(a.getD j Hm).ownBlock≠some k)(q:Zci wr t s g (N+i) (a.getD i Hm) x):∃o2 c2,ZgL w t o o2 g N (i+1) c c2 v a r:=by
 obtain⟨o2,c2,y,f,p,A,F,u,H⟩:=q;have B:=h.tc.size;have d:=(h.ls i qa_ z)
 have l:∀k,v.ownBlock=some k->(a.getD i Hm).ownBlock≠some k:=λk hk e=>by
  obtain⟨G,E⟩:=Ad h.ro hk;obtain⟨C,D⟩:=Ad d.1 e
  grind
 refine⟨o2,c2,y,h.sm.trans B f,h.tc.trans2 p (λk hk=>?_),λj hj=>(A j hj).trans (h.cc j hj),λk hk=>?_,p.row h.ro (λk hk e=>?_),λk hk=>?_,λj hj hjl=>⟨p.row (h.ls j o_ hjl).1 (λk hk e=>?_),λk hk=>?_⟩,h.lo,λk hk h9=>?_⟩
 ·by_cases hl:k<w.heap.size
  ·left
   rcases hk with e|e
   ·rcases h.sm k hl with b|b
    exact .inr b;omega
   have:=d.2 k e
   rcases h.sm k hl with b|b
   exact .inr b;omega
  omega
 ·by_cases hl:k<wr.heap.size
  ·rcases f k hl with e|e
   ·grind
   rw[e];exact h.nw k hk
  grind
 ·rcases e with e|e
  have:=h.ov k hk;omega
  grind
 exact u k (rl_ h.ro k hk).2 (h.ov k hk) (l k hk)
 ·rcases e with e|e
  have:=(h.ls j o_ hjl).2 k hk;omega
  grind
 exact u k (rl_ (h.ls j o_ hjl).1 k hk).2 ((h.ls j o_ hjl).2 k hk) (λe=>n i j o_ hjl k e hk);have m:k<wr.heap.size:=o_
 rcases h.n9 k hk h9 with e|e
 ·rcases f k m with b|b
  omega;omega
 grind
def Hx.ownL{w o g N c v b}{Ls:Nat->List Int}(h:Hx w o g c N)(hr:w.ownsRow 0 25 1 v b.length b)(C:∀k,v.ownBlock=some k->o k=99)(aX:∀j,j<b.length->Ag w 0 (b.getD j Hm) (Ls j)/\∀k,(b.getD j Hm).ownBlock=some k->o k=99)(b5:∀j,(Ls j).length<=4194304)(bK:∀i j,i<j->j<b.length->∀k,(b.getD i Hm).ownBlock=some k->(b.getD j Hm).ownBlock≠some k)(hn:b.length<=1000)(hN:N<=10000000)(bO:∀k,w.heap.size<=k->o k=99):C_ 144 #[.pointer (some ⟨g,4,none⟩),v] w λe w'=>e=.returned (.tuple #[])/\Lr w w' o g (N+b.length+1) c:=by
 obtain⟨i0,bD,d8,dQ,d5⟩:=info_parts Ss;obtain⟨j0,Y,b3,aR,aY⟩:=info_parts Zey;obtain⟨l0,b8,dH,cG,dK⟩:=info_parts Zj4;have cR:Hid (ZgL w w o o g N 0 c c v _ _):=⟨h,Dq.refl _ _,Aa.refl _ _,λ_ _=>rfl,λk hk=>.inr (bO k hk),hr,C,λj _ hj=>aX j hj,λj hj k hk=>(rl_ (aX j hj).1 k hk).2,λk _ h9=>.inr h9⟩;have dA:=x1_ bK;have cV:=x1_ b5;obtain⟨n,aS⟩:=ex_ b.length;have M:=x1_ aS
 obtain⟨a,D,rfl⟩:∃a D,v=.slice a n D:=by
  rcases hr.2 with⟨rfl,h0⟩|⟨q,cap,cur,rfl,_⟩
  ·grind
  grind
 rw[<- aS] at hn ⊢;clear h hr C aX b5 bK bO aS;go_enter Tryz.func144,Tryz.ntmps144;go_upto_region 1 with fail;go_loopw [4] (λti wr=>∃(i:Nat) (oi:Nat->Nat) (ci:Array Value),i<=n/\ti=.int .i64 i/\Hid (ZgL w wr o oi g N i c ci (.slice a n D) b Ls)) (λti _=>n-(intOf ti).toNat)
 case atStart=>grind
 case round=>
  clear cR;obtain⟨i,oi,ci,hi,rfl,d⟩:=hrel
  by_cases hin:i<n
  ·have g0:0<=(i:Int):=o_;have g1:i<(n:Int):=o_;have a9:i<b.length:=by rw[<- M];exact hin
   obtain⟨q,rfl⟩:∃q,a=some ⟨q,0,none⟩:=by
    rcases d.out.ro.2 with⟨_,h0⟩|⟨gl,cap,cur,e,_⟩
    omega
    grind
   have cv:wr.cell? (A_ q i)=some (b.getD i Hm):=by
    have cI:=d.ro;rw[<- M] at cI
    grind [World.ownsRow.cellAt]
   have HC:=d.bk.ownN (d.ls i qa_ a9).1 (d.ls i qa_ a9).2 (cV i) o_;have aP:Hid (∀w2,Zci _ w2 _ g _ _ _->_):=λw2 hq=>d.next a9 dA hq
   obtain⟨ax,I,cx,c6⟩:∃ax I cx,b.getD i Hm=.slice ax I cx:=by
    obtain⟨ax,cx,e⟩:=(d.ls i qa_ a9).1.shape
    grind
   rw[c6] at cv HC aP;clear c6 d;go_wp2_with fail
   refine HC.mono ?_;rintro e w2 ⟨rfl,hq⟩;obtain⟨o2,c2,bH⟩:=aP w2 hq;have f9:=x1_ bH;clear hq bH HC aP cv;go_wp2;go_roundw;case rel=>grind
   case measure=>exact z_
  have bL:i=n:=o_;subst bL;have f8:¬i<(i:Int):=o_;generalize wr=wA at *;obtain⟨vn,vm,T,ms,J⟩:=d.bk.ls;obtain⟨I,f,dW,dV⟩:=d.bk.nx;have dT:=J.few;have fA:ms.length<=400000000:=(by rw[J.len];omega);have A:=d.bk.wb;have dL:=A.lt;obtain⟨z,hz⟩:=ex_ (-(I+1));have q1:IntKind.i64.wrap (-(I+1))=z:=(by rw[Cb o_ o_,hz]);have q2:=hz.symm;have f7: -1000000000000<=z:=o_;obtain⟨c1,a1⟩:=ex_ (ci.setIfInBounds 12 (I_ (I+1)));have cH:=x1_ a1;have aA:Hid (c1[10]? =some _/\c1[11]? =some _):=⟨by rw[a1,Array.getElem?_setIfInBounds_ne d_];exact J.c0,by rw[a1,Array.getElem?_setIfInBounds_ne d_];exact J.c1⟩;have cJ:wA.cell? (A_ g 12)=some (I_ I):=(by rw[A.cell];exact f);have dE:=λo=>A.frozen o
  have dB:(wA.setCell (A_ g 12) (I_ (I+1))).cell? (A_ g 12)=some (I_ (I+1)):=by
   rw[(A.set 12 (I_ (I+1))).cell]
   grind
  obtain⟨y,U⟩:=ex_ ((wA.setCell (A_ g 12) (I_ (I+1))).alloc (.cells #[I_ z] 3));have bC:(wA.setCell (A_ g 12) (I_ (I+1))).heap.size=wA.heap.size:=(by simp[World.setCell]);have F:Aa (λk=>k=g) wA y:=(by rw[U];exact((Aa.refl (λk=>k=g) _).setCell (p:=(A_ g 12)) (λ_=>rfl) _).alloc _);have c5:WB y g c1:=by rw[U,a1];exact(A.set _ _).alloc _
  have cO:y.heap[wA.heap.size]? =some (.cells #[I_ z] 3 (0,0)):=by rw[U,<- bC];exact hn_
  have cL:y.heap.size=wA.heap.size+1:=(by rw[U];simp[World.setCell]);have aC:∀{base ty n:Nat} {u:_} {xs:_},_->ty≠90->y.ownsRow base ty 1 u n xs:=λhr hne=>F.row hr (λk hk e=>by subst e;exact A.apart hr hne hk.symm);have bI:=aC d.ro d_;have bP:=aC J.rn d_;have b6:=aC J.rm d_;have H:=x3_ (A.apart d.ro d_) (A.apart J.rn d_) (A.apart J.rm d_);have aH:=x1_ (An d.ro J.rn d_);have aK:=x1_ (An d.ro J.rm d_);have bT:=x1_ (An J.rn J.rm d_);have bQ:Hid (y.ownsRow 0 84 1 _ _ _):=bP;have bV:Hid (y.ownsRow 0 3 1 _ _ _):=b6;obtain⟨l,aU⟩:=ex_ wA.heap.size;have cP:Hid (y.heap[l]? =some (.cells #[I_ z] 3 (0,0))):=w_
  have Z:Hid (¬(l=g∨(Value.slice a i D).ownBlock=some l∨vn.ownBlock=some l∨vm.ownBlock=some l)):=λe=>by
   rcases e with e|e|e|e
   omega;have:=(rl_ d.ro _ e).2;omega;have:=(rl_ J.rn _ e).2;omega;have:=(rl_ J.rm _ e).2;omega
  have b7:Hid (∀w' s t news,oq y w' g 10 ci 25 84 3 (L_ l 1 1) (I_ z) (.slice a i D) vn vm T ms (I+1) s t news->w'.heap[l]? =some (.cells #[I_ z] 3 (0,0))->Lr w w' o g (N+i+1) c):=λw' s t news hp hm=>by
   have V:Dq wA oi (λk=>if k<wA.heap.size then oi k else 99):=λk hk=>.inr (by simp[hk])
   have cB:∀k,k<wA.heap.size->(λk=>if k<wA.heap.size then oi k else 99) k=oi k:=λk hk=>by simp[hk]
   have cM:(λk=>if k<wA.heap.size then oi k else 99) l=99:=(by simp[aU]);obtain⟨oB,bF⟩:∃oB:Nat->Nat,oB=λk=>if k<wA.heap.size then oi k else 99:=⟨_,rfl⟩;rw[<- bF] at V cB cM
   have c9:∀k,wA.heap.size<=k->oB k=99:=λk hk=>w_
   clear bF;have dN:=d.bk.og
   have aD:∀j,j<=10->4<=j->∀k,k<wA.heap.size->k=g->oi k≠j/\oi k≠j+1/\oi k≠13:=λj h1 h2 k _ e=>by subst e;omega
   have X:=J.keep F (aD _ d_ d_) V d_ rfl rfl qa_;have cE:=d.bk.es.keep F (aD 4 d_ d_) V d_ rfl rfl qa_;have bU:=d.bk.ns.keep F (aD 6 d_ d_) V d_ rfl rfl qa_;have c8:=d.bk.ss.keep F (aD 8 d_ d_) V d_ rfl rfl qa_;have G:=(cB g dL).trans dN;have C:=λk hk=>(cB k (rl_ d.ro k hk).2).trans (d.ov k hk)
   have aI:∀k,(Vl news k∨k=l)->k<y.heap.size->oB k=99:=λk hk hl=>by
    rcases hk with⟨x,f,hxk⟩|e
    ·rcases(hp.all x f).2 k hxk with e|e
     exact C k e;omega
    grind
   have dP:∀k,(Vl news k∨k=l)->s.ownBlock≠some k:=λk hk e=>by
    rcases hk with⟨x,f,hxk⟩|S
    exact hp.an x f k hxk e;subst S
    rcases hp.nn _ e with e3|e3
    exact Z (.inr (.inr (.inl e3)));omega
   have d9:∀k,(Vl news k∨k=l)->t.ownBlock≠some k:=λk hk e=>by
    rcases hk with⟨x,f,hxk⟩|S
    exact hp.am x f k hxk e;subst S
    rcases hp.nm _ e with e3|e3
    exact Z (.inr (.inr (.inr e3)));omega
   obtain⟨dM,cY⟩:=zu ci 10 d_ (I_ (I+1)) s t d.bk.sz;have O:=Ni y oB (λk=>Vl news k∨k=l) 10 s t;have bN:g<y.heap.size:=o_
   have hF:∀x∈_,Ii w' (Lo y oB (λk=>Vl _ k∨k=l) 10 s t) _ (λW=>fL W x _):=λx f=>
    ((Ii.all (hp.all x f).1 (λk hk=>Rt (.inl ⟨x,f,hk⟩) (aI k (.inl ⟨x,f,hk⟩)))).and (Ii.block hm (Rt (.inr rfl) (aI _ (.inr rfl))))).mono (λW hW=>⟨z,l,rfl,hW.1,hW.2⟩)
   refine⟨Lo y oB _ 10 s t,_,⟨hp.wb,?_,cY,⟨I+1,dM,o_,o_⟩,cE.other X hp G C d_ d_ d_ d_,bU.other X hp G C d_ d_ d_ d_,c8.other X hp G C d_ d_ d_ d_,⟨s,t,_,_,X.grow hp d_ G C d.bk.sz d_ dP d9 hF⟩⟩,?_,?_,λj hj=>(ki ci 10 d_ _ _ _ j hj).trans (d.cc j hj),λk hk=>?_,λk hk h9=>?_⟩
   ·rcases O g bN with e|e
    omega;omega
   exact(d.sm.trans d.tc.size V).trans (Nat.le_trans d.tc.size F.size) O
   ·refine(d.tc.trans2 F (λk hk=>?_)).trans2 (jl X hp G d_) (λk hk=>?_)
    ·subst hk
     by_cases hl:k<w.heap.size
     ·left
      rcases d.out.sm k hl with S|S
      exact .inr S;omega
     omega
    by_cases hl:k<w.heap.size
    ·left;have a5:=Qh hl d.tc.size;have cS:=cB k a5
     rcases hk with e|e
     ·rcases d.out.sm k hl with S|S
      exact .inr S;omega
     have:=C k e
     rcases d.out.sm k hl with S|S
     exact .inr S;omega
    omega
   ·by_cases hl:k<y.heap.size
    ·by_cases h99:oB k=99
     unfold Lo;rw[if_neg (λe=>e.2 h99)];split;omega;split;omega;split;omega;exact .inr rfl
     rcases O k hl with e|e
     exact absurd e h99;rw[e]
     by_cases a5:k<wA.heap.size
     rw[cB k a5];exact d.nw k hk
     grind
    grind [jj]
   have a5:=Qh hk d.tc.size;have cS:=cB k a5
   rcases d.out.n9 k hk h9 with e|e
   ·rcases O k o_ with S|S
    omega;omega
   grind [zg]
  have cT:Hid (y.ownsRow 0 25 1 (.slice a i D) i (Mm b (L_ l 1 1:Value) 0)):=(by rw[Wv];have:=bI;rw[<- M] at this;exact this);have dG:Hid (Aa (λk=>k=g∨(Value.slice a i D).ownBlock=some k) y _):=Aa.refl _ _;have aE:=x1_ c5;clear J d bI bP b6 cO c5 aC F A a1 hz;go_upto_region 7 with fail;rw[<- U,<- aU];clear aU cL bC;clear dB cJ dE U;go_loopw [6] (λti wr=>∃k:Nat,k<=i/\ti=.int .i64 k/\Hid (wr.ownsRow 0 25 1 (.slice a i D) i (Mm b (.slice (some ⟨l,0,none⟩) 1 1:Value) k))/\Hid (Aa (λk=>k=g∨(Value.slice a i D).ownBlock=some k) y wr)/\Hid (WB wr g c1)) (λti _=>i-(intOf ti).toNat)
  case atStart=>grind
  case round=>
   clear cT dG aE;obtain⟨k,dC,rfl,HR,HT,HW⟩:=hrel
   by_cases hk:k<i
   ·have dZ:0<=(k:Int):=o_;have dX:k<(i:Int):=o_
    obtain⟨gl,rfl⟩:∃gl,a=some ⟨gl,0,none⟩:=by
     rcases HR.out.2 with⟨_,h0⟩|⟨gl,cap,cur,e,_⟩
     omega
     grind
    have bS:=gu _ (L_ l 1 1:Value) (k:=k) (by rw[<- M];exact dC);have cc:∃u,wr.cell? (A_ gl k)=some u:=(by rw[World.ownsRow.cellAt HR k o_];exact⟨_,Qd (by rw[bS,<- M];exact hk)⟩);obtain⟨u0,c0⟩:=cc;have cf:=World.ownsRow.frozenAt HR k;have f6:Hid ((wr.setCell (A_ gl k) (L_ l 1 1:Value)).ownsRow 0 25 1 (L_ gl i D) i (Mm b (L_ l 1 1:Value) (k+1))):=by rw[<- gv _ _ (by rw[<- M];exact hk)];exact(World.ownsRow.stored HR k _).1
    have dU:Hid (Aa _ _ (wr.setCell _ (L_ l 1 1:_))):=HT.setCell (p:=(A_ gl k)) (λ_=>.inr rfl) _;have aM:Hid (WB (wr.setCell _ (L_ l 1 1:_)) g _):=HW.other (p:=(A_ gl k)) (λe=>H.1 (by rw[e];rfl)) _;clear HR HT HW bS;go_wp2;go_roundw;case rel=>grind
    case measure=>exact z_
   have dJ:k=i:=o_;subst dJ;have dY:¬k<(k:Int):=o_
   have aN:Hid (Jh y wr 25 (L_ l 1 1:Value) (.slice a k D) k 0 [.slice a k D] (λk'=>k'=g∨(Value.slice a k D).ownBlock=some k')):=by
    have:=HR.out
    rw[show Mm b (L_ l 1 1:Value) k=List.replicate k (L_ l 1 1:Value) by
     have:=Wu b (L_ l 1 1:Value);rw[<- M] at this
     exact this] at this
    exact .start this m_ HT
   have a0:Hid (wr.ownsRow 0 25 1 _ k _):=aN.row;have c3:=HW;clear HR HT HW;go_wp2_with (at_builtin;refine Ab rfl (.tmp 45) (.tmp 47) 84 rfl 0 25 j0 (.slice none 0 0) 1 24 Tryz.underlying84 Y b3 aR aY rfl d_ (.slice a k D) k _ rfl (ra_ a0 _) (A_ wr.heap.size 0) 1 1 [L_ l 1 1] rfl rfl (Am wr _ 25) (by intro u Q;simp only[List.mem_cons,List.not_mem_nil,or_false] at Q;rcases Q with rfl;rfl) d_ m_ o_ qg_ ?_)
   intro y1 w1 E;have aZ:Hid (Jh _ _ _ _ _ k 1 [_,_] _):=aN.more (m:=1) _ o_ E (λk' hk'=>.inr hk') m_;have aE:=x1_ ((c3.alloc _).grown E.2.1 H.1);obtain⟨bA,p1,cF⟩:=E.2.2.2.2;subst cF;have a4:Hid (w1.ownsRow 0 25 1 _ k _):=aZ.row;clear E aN c3 a0;go_wp2_with (at_builtin;refine Ab rfl (.tmp 49) (.tmp 52) 84 rfl 0 25 j0 (.slice none 0 0) 1 24 Tryz.underlying84 Y b3 aR aY rfl d_ (.slice a k D) k _ rfl (ra_ a4 _) (A_ w1.heap.size 0) 2 2 [L_ l 1 1,L_ l 1 1] rfl rfl (Am w1 _ 25) (by intro u Q;simp only[List.mem_cons,List.not_mem_nil,or_false] at Q;rcases Q with rfl|rfl<;>rfl) d_ m_ o_ qg_ ?_)
   intro y2 w2 E;have aO:Hid (Jh y w2 _ _ _ k 2 [_,_,y2] _):=aZ.more (m:=2) _ o_ E (λk' hk'=>.inr hk') m_;have aM:=x1_ ((aE.alloc _).grown E.2.1 H.1);obtain⟨bW,p2,dO⟩:=E.2.2.2.2;subst dO;have a7:Hid (w2.ownsRow 0 25 1 _ k _):=aO.row;clear E aZ aE a4;go_wp2_with (at_builtin;refine Ab rfl (.tmp 54) (.tmp 58) 84 rfl 0 25 j0 (.slice none 0 0) 1 24 Tryz.underlying84 Y b3 aR aY rfl d_ (.slice a k D) k _ rfl (ra_ a7 _) (A_ w2.heap.size 0) 3 3 [L_ l 1 1,L_ l 1 1,L_ l 1 1] rfl rfl (Am w2 _ 25) (by intro u Q;simp only[List.mem_cons,List.not_mem_nil,or_false] at Q;rcases Q with rfl|rfl|rfl<;>rfl) d_ m_ o_ qg_ ?_)
   intro y3 w3 E;have r:Hid (Jh y w3 25 _ _ k 3 [_,_,_,y3] _):=aO.more (m:=3) _ o_ E (λk' hk'=>.inr hk') m_;have aG:=x1_ ((aM.alloc _).grown E.2.1 H.1);obtain⟨bR,p3,dI⟩:=E.2.2.2.2;subst dI;clear E aO aM a7
   have aQ:=x1_ (r.tch.row bQ (λk' hk' e=>by
    rcases e with e|e
    subst e;exact H.2.1 hk'.symm
    rcases aH.out with h|h
    ·grind
    grind))
   have c4:=x1_ (r.tch.row bV (λk' hk' e=>by
    rcases e with e|e
    subst e;exact H.2.2 hk'.symm
    rcases aK.out with h|h
    ·grind
    grind))
   have d6:w3.cell? (A_ g 10)=some vn:=(by rw[aG.cell];exact aA.1);have df:=λo=>aG.frozen o;generalize hnews:[(.slice a k D:Value),L_ bA (k+1) p1,L_ bW (k+2) p2,L_ bR (k+3) p3]=news at r;have cA:=x1_ hnews.symm;clear hnews;go_wp2_with (at_builtin;refine Ab rfl (.tmp 64) (.tmp 69) 86 rfl 0 84 l0 (.slice none 0 0) 1 24 Tryz.underlying86 b8 dH cG dK rfl d_ vn T.length T rfl (ra_ aQ _) (A_ w3.heap.size 0) 4 4 [.slice a k D,L_ bA (k+1) p1,L_ bW (k+2) p2,L_ bR (k+3) p3] rfl rfl (Am w3 _ 84) (by intro u Q;simp only[List.mem_cons,List.not_mem_nil,or_false] at Q;rcases Q with rfl|rfl|rfl|rfl<;>rfl) d_ m_ o_ qg_ ?_)
   intro s w4 E;obtain⟨cC,aF,aT,_,q4,p4,dD⟩:=E;have T4:=((Aa.refl _ _).alloc _).grown aF (λk' e _=>e);have P:=x1_ ((aG.alloc _).grown aF H.2.1);have bZ:=x1_ (World.ownsRow.kept (ra_ c4 _) aF bT)
   have c7:=x1_ (λx f=>(r.all x f).1.touch T4 (λk' cur _ hh e=>by
    obtain⟨dR,fB⟩:=Ad aQ e
    grind))
   have bX:=x1_ ((r.tch.mono (S':=λk'=>k'=g∨(Value.slice a k _).ownBlock=some _∨vn.ownBlock=some _∨vm.ownBlock=some k') (λk' _ e=>by rcases e with e|e;exact .inl e;exact .inr (.inl e))).trans (T4.mono (λk' _ e=>.inr (.inr (.inl e)))));have bY:Hid (w4.ownsRow 0 84 1 s (T.length+4) (T++news)):=by rw[cA];exact cC
   have dF:Hid (∀k',s.ownBlock=some k'->vn.ownBlock=some k'∨y.heap.size<=k'):=λk' hk'=>by
    rcases aT with h|⟨h,_⟩
    ·grind
    rw[h] at hk';injection hk' with hk';have:=r.tch.size;omega
   have aJ:=x1_ (λx f k' hk'=>Qh (r.lt x f k' hk') T4.size);have dS:=T4.size
   have cN:Hid (∀x∈news,∀k',x.ownBlock=some k'->s.ownBlock≠some k'):=λx f k' hk' e=>by
    rcases aT with h|⟨h,_⟩
    ·rw[h] at e
     rcases(r.all x f).2.2 k' hk' with h3|h3
     ·rcases aH.out with h2|h2
      ·grind
      grind
     have:=(rl_ bQ k' e).2;omega
    rw[h] at e;injection e with e;have:=r.lt x f k' hk';omega
   have bG:Hid (∀x∈news,∀k',x.ownBlock=some k'->vm.ownBlock≠some k'):=λx f k' hk' e=>by
    rcases(r.all x f).2.2 k' hk' with h|h
    ·rcases aK.out with h2|h2
     ·grind
     grind
    have:=(rl_ bV k' e).2;omega
   have cW:=x1_ (λx f k' hk'=>(r.all x f).2.2 k' hk');subst dD;have e6:w4.cell? (A_ g 10)=some vn:=(by rw[P.cell];exact aA.1);have ef:=λo=>P.frozen o;clear cC aF aT T4 aG c4 aQ r d6 df;go_upto_region 14 with fail;have a3:Hid (WB _ g (c1.setIfInBounds _ (L_ q4 (T.length+4) p4))):=P.set 10 _;have aW:Hid ((w4.setCell ⟨g,10,_⟩ (L_ q4 (T.length+4) p4)).ownsRow 0 3 1 vm _ ms):=P.row bZ d_;have aV:Hid ((w4.setCell ⟨g,10,_⟩ (L_ q4 (T.length+4) p4)).ownsRow 0 84 1 _ _ _):=P.row bY d_;have bB:Hid (∀x∈_,Gi (w4.setCell ⟨g,10,_⟩ (L_ q4 (T.length+4) p4)) 25 _ x):=λx f=>P.all (c7 x f) d_;have a8:Hid (Aa _ _ (w4.setCell _ (L_ q4 (T.length+4) p4))):=bX.setCell (p:=(A_ g 10)) (λ_=>.inl rfl) _
   have a6:Hid (∀x∈news,∀k',x.ownBlock=some k'->k'<(w4.setCell (A_ g 10) (L_ q4 (T.length+4) p4)).heap.size):=λx f k' hk'=>by
    have:=aJ x f k' hk'
    simpa [World.setCell] using this
   clear P bZ bY c7 bX aJ e6 ef;generalize w4.setCell (A_ g 10) (L_ q4 (T.length+4) p4)=w5 at *;have d7:w5.cell? (A_ g 11)=some vm:=(by rw[a3.cell,Array.getElem?_setIfInBounds_ne d_];exact aA.2);have R:=a8.at_ cP (λe=>Z e);have dm:=cR_ 0 R;have df:=λo=>a3.frozen o;have f3:=a8.size;have cU:=a3.lt;have cX:=(Qb R).1;have bE:w5.drew.cell? _=_:=d7;have bM:w5.drew.cell? _=_:=dm;refine Al (λw'=>w'.cell? _=some vm/\w'.cell? _=some (I_ z)) 21 k_ ⟨bE,bM⟩ (λhHeld=>?_);refine Ah 0 ?_;refine Ah 1 ?_;refine Ah 2 ?_;refine Ah 3 ?_;refine Ah 4 ?_;refine Ah 5 ?_;refine Ah 6 ?_;refine Ah 7 ?_;refine Ah 8 ?_;refine Ah 9 ?_;refine Ah 10 ?_;refine Ah 11 ?_;refine Ah 12 ?_;refine Ah 13 ?_;refine Ah 14 ?_;refine Ah 15 ?_
   refine Ah 16 ?_;refine Af (i:=17) k_ rfl (λKK hK=>?_);go_simp;refine hK _ _ ⟨(Below.cell (B:=w5.heap.size) (w:=w5) (p:=(A_ g 11)) (by grind [Below.refl,Below.drew,Below.alloc]) cU).trans d7,(Below.cell (B:=w5.heap.size) (w:=w5) (p:=(A_ l 0)) (by grind [Below.refl,Below.drew,Below.alloc]) cX).trans dm⟩ (λhHeld=>?_);clear hK KK;try simp only[Act.put,sA,sB,sC]
   refine Af (i:=18) k_ rfl (λKK hK=>?_);refine Az rfl (.tmp 77) (.tmp 90) 25 rfl 0 3 i0 (I_ 0) 1 8 Tryz.underlying25 bD d8 dQ d5 rfl d_ vm ms.length ms j_ (ra_ (World.ownsRow.drew aW) _) (A_ w5.heap.size 0) 4 4 [I_ z,I_ z,I_ z,I_ z] j_ rfl (Am w5.drew #[I_ z,I_ z,I_ z,I_ z] 3) (by intro u Q;simp only[List.mem_cons,List.not_mem_nil,or_false] at Q;rcases Q with rfl|rfl|rfl|rfl<;>rfl) d_ m_ o_ qg_ ?_;intro t w6 E;obtain⟨b9,aB,aL,_,q6,p6,cQ⟩:=E;have T6:=(((Aa.refl _ _).drew).alloc _).grown aB (λk' e _=>e);have L:=x1_ ((a3.drew.alloc _).grown aB H.2.2);have a2:=T6.at_ R (λe=>Z (.inr (.inr (.inr e))))
   have cD:Hid (oq y (w6.setCell (A_ g 11) t) g 10 ci 25 84 3 (L_ l 1 1:Value) (I_ z) (.slice a k D) vn vm T ms (I+1) (L_ q4 (T.length+4) p4) t news):=by
    refine⟨?_,?_,?_,?_,λx f=>⟨?_,cW x f⟩,?_,dF,λk' hk'=>?_,λx f k' hk' e=>?_,cN,λx f k' hk'=>?_⟩;rw[<- cH];exact L.set _ _;exact L.row (World.ownsRow.kept (ra_ (World.ownsRow.drew aV) _) aB (An aW aV d_)) d_;exact L.row b9 d_;rw[cA];rfl;exact L.all ((bB x f).touch T6 (λk' cur h1 _ e=>bG x f _ h1 e)) d_;exact(a8.trans (T6.mono (λk' _ e=>.inr (.inr (.inr e))))).setCell (p:=(A_ g 11)) (λ_=>.inl rfl) _
    ·rcases aL with h|⟨h,_⟩
     ·grind
     rw[h] at hk';injection hk' with hk';simp at hk';omega
    ·rcases aL with h|⟨h,_⟩
     exact bG x f _ hk' (h ▸ e);rw[h] at e;injection e with e;have:=a6 x f k' hk';simp at e;omega
    have:=a6 x f k' hk';have:=T6.size;simp[World.setCell];omega
   have cZ:=x1_ ((Below.heap_setCell _ (A_ g 11) t _ (λe=>Z (.inl e))).trans a2);have e7:w6.cell? (A_ g 11)=some vm:=(by rw[L.cell,Array.getElem?_setIfInBounds_ne d_];exact aA.2);have em:=cR_ 0 a2;have ef:=λo=>L.frozen o;subst cQ;clear b9 aB aL T6 a3 aW aV bB a8 a6 L d7 df dm bE bM R a2;refine hK _ _ ⟨e7,em⟩ (λhHeld=>?_);clear hK KK;try simp only[Act.put,sA,sB,sC]
   refine Ah 19 ?_;refine Ah 20 ?_;refine Ai (i:=21) k_ rfl k_ (λKK hK=>?_);go_simp;refine hK _ _ ?_;clear hK KK;try simp only[Act.put,sA,sB,sC]
   refine Ak k_ ?_ _;go_wp2;go_end0;exact⟨rfl,b7 _ _ _ _ cD cZ⟩
def Ry.at{w o c i y m N n u p t F a k e d}(h:Ry w o c i y m F N (.slice a n p) (.slice k u t) e d){j}(f:j<e.length):∃q r,a=some ⟨q,0,none⟩/\k=some ⟨r,0,none⟩/\w.cell? (A_ q j)=some (e.getD j Hm)/\w.cell? (A_ r j)=some (d.getD j Hm)/\F w (e.getD j Hm) (d.getD j Hm):=by
 have g:j<d.length:=by rw[h.len];exact f
 have b:∀{ty:Nat} {a n p xs},w.ownsRow 0 ty 1 (.slice a n p) xs.length xs->j<xs.length->∃q,a=some ⟨q,0,none⟩/\w.cell? (A_ q j)=some (xs.getD j Hm):=λ{ty a n p xs} hr hl=>by grind [Fj,Qy]
 obtain⟨q,s,l⟩:=b h.rn f;obtain⟨r,v,x⟩:=b h.rm g;exact⟨q,r,s,v,l,x,(h.all j f).here⟩
def Gi.cells{w j d i u a}(h:Gi w j u (.slice a d i)){k}(m:k<d):∃b,a=some ⟨b,0,none⟩/\w.cell? (A_ b k)=some u:=by
 obtain⟨l,n,c,e,_,p|⟨g,f,rfl,o,q⟩⟩:=h
 ·grind
 grind [cell_of_row]
def Ft.cells{w d i z a}(h:Ft w z (.slice a d i)){k}(l:k<d):∃b,a=some ⟨b,0,none⟩/\w.cell? (A_ b (k*4))=some (I_ z)/\w.cell? (A_ b (k*4+1))=some (I_ 0)/\w.cell? (A_ b (k*4+2))=some (I_ 0)/\w.cell? (A_ b (k*4+3))=some (I_ 0):=by
 obtain⟨j,n,c,e,_,o|⟨g,f,rfl,m,p⟩⟩:=h
 ·grind
 grind [cell_of_row]
def Gi.shape{w b u v}(h:Gi w b u v):∃a n c,v=.slice a n c/\n<=maxLen:=by
 obtain⟨a,n,c,e,d,_⟩:=h
 grind
def Ft.shape{w z v}(h:Ft w z v):∃a n c,v=.slice a n c/\n<=maxLen:=by
 obtain⟨a,n,c,e,b,_⟩:=h
 grind
structure LkS(w wr)(o)(g N)(c)(e1 e2 n1 n2 s1 s2 l1 l2)(es em ns nm ss sm ls lm):Prop where
 wb:WB wr g c
 es:Ry wr o c 4 29 3 fE N e1 e2 es em
 ns:Ry wr o c 6 25 3 fN N n1 n2 ns nm
 ss:Ry wr o c 8 47 9 fS N s1 s2 ss sm
 ls:Ry wr o c 10 84 3 fL N l1 l2 ls lm
 bl:E_ w wr
def LkS.drewN{w wr o g N c k u n1 n s p b i d q r j v f a l}(h:LkS w wr o g N c k u n1 n s p b i d q r j v f a l) m:LkS w (wr.drewN m) o g N c k u n1 n s p b i d q r j v f a l:=by have x:E_ wr _:=below_drewN bz_ m;have t:Aa (λ_=>False) _ _:=.of_below x;exact⟨t.at_ h.wb id,h.es.keep t (λ_ _ e=>e.elim) (Dq.refl _ _) d_ rfl rfl qa_,h.ns.keep t (λ_ _ e=>e.elim) (Dq.refl _ _) d_ rfl rfl qa_,h.ss.keep t (λ_ _ e=>e.elim) (Dq.refl _ _) d_ rfl rfl qa_,h.ls.keep t (λ_ _ e=>e.elim) (Dq.refl _ _) d_ rfl rfl qa_,below_drewN h.bl m⟩
def wk{p:Prop}(h:p:=by
 clear hF;have hnk:¬k<(len:Int):=o_;refine rd_ ?_
 exact⟨i+1,o_,g_,HR⟩):p:=h
def Hx.looks{w o g N c}(h:Hx w o g c N)(hN:N<=100000000):C_ 43 #[.pointer (some ⟨g,4,none⟩)] w λe w'=>e=.returned (.bool true)/\Below w.heap.size w w':=by
 obtain⟨B,C,f,em,hE⟩:=h.es;obtain⟨n1,n2,j,nm,V⟩:=h.ns;obtain⟨s1,s2,l,sm,hS⟩:=h.ss;obtain⟨l1,l2,d,lm,L⟩:=h.ls;have HL:Hid (LkS w w o g N c _ _ _ _ _ _ _ _ _ _ _ _ _ _ _ _):=⟨h.wb,hE,V,hS,L,bz_⟩;obtain⟨S,s,aC,_⟩:=Fj hE.rn;obtain⟨T,v,a9,_⟩:=Fj hE.rm;obtain⟨D,u,aE,_⟩:=Fj V.rn;obtain⟨M,m,aA,_⟩:=Fj V.rm;obtain⟨R,A,aD,_⟩:=Fj hS.rn;obtain⟨Q,t,a8,_⟩:=Fj hS.rm;obtain⟨G,y,aF,_⟩:=Fj L.rn;obtain⟨I,x,aB,_⟩:=Fj L.rm;have fe:=hE.few;have fn:=V.few;have fs:=hS.few;have fl:=L.few;rw[hE.len] at a9;rw[V.len] at aA;rw[hS.len] at a8;rw[L.len] at aB;subst aC a9 aE aA aD a8 aF aB
 have HC:Hid (∀W,WB W g c->_/\_/\_/\_/\_/\_/\_/\_):=λW hW=>
  ⟨(hW.cell 4).trans hE.c0,(hW.cell 5).trans hE.c1,(hW.cell 6).trans V.c0,(hW.cell 7).trans V.c1,(hW.cell 8).trans hS.c0,(hW.cell 9).trans hS.c1,(hW.cell _).trans L.c0,(hW.cell 11).trans L.c1⟩
 have aH:Hid (∀{n:Nat},n=n):=rfl;go_enter Tryz.func43,Tryz.ntmps43;go_upto_region 2 with fail;go_loopw [3] (λti wr=>∃i:Nat,i<=f.length/\ti=.int .i64 i/\Hid (LkS w wr o g N c (.slice S f.length s) (.slice T f.length v) (.slice D j.length u) (.slice M j.length m) (.slice R l.length A) (.slice Q l.length t) (.slice G d.length y) (.slice I d.length x) f em j nm l sm d lm)) (λti _=>f.length-(intOf ti).toNat)
 case atStart=>grind
 case round=>
  obtain⟨i,a4,rfl,HR⟩:=hrel;obtain⟨d4,d5,d6,d7,d8,d9,J,E⟩:=HC wr HR.wb
  by_cases hi:i<f.length
  ·have a2:0<=(i:Int):=o_;have a3:i<(f.length:Int):=o_;obtain⟨q,r,rfl,rfl,B,C,hF⟩:=HR.es.at hi;obtain⟨z,Y,H⟩:=hF;obtain⟨a,len,cp,Z,O⟩:=H.shape;rw[Z] at B;rw[Y] at C;have HV:=x1_ Z;have HM:=x1_ Y;unfold maxLen at O;go_upto_region 5 with fail;go_loopw [4] (λtk wr=>∃k:Nat,k<=len/\tk=.int .i64 k/\Hid (LkS w wr o g N c (.slice (some ⟨q,0,none⟩) f.length s) (.slice (some ⟨r,0,none⟩) f.length v) (.slice D j.length u) (.slice M j.length m) (.slice R l.length A) (.slice Q l.length t) (.slice G d.length y) (.slice I d.length x) f em j nm l sm d lm)) (λtk _=>len-(intOf tk).toNat)
   case atStart=>exact⟨0,qg_,rfl,HR⟩
   case round=>
    obtain⟨k,a5,rfl,HR⟩:=hrel;obtain⟨d4,d5,d6,d7,d8,d9,J,E⟩:=HC wr HR.wb;obtain⟨q2,r2,P,U,B,C,hF⟩:=HR.es.at hi;have X:q=q2:=(by injection P with e;injection e);have F:r=r2:=(by injection U with e;injection e);subst X F;rw[HV] at B hF;rw[HM] at C hF
    by_cases hk:k<len
    ·obtain⟨z2,a7,H⟩:=hF;injection a7 with _ a7;subst a7;obtain⟨b,rfl,x0,x1,x2,x3⟩:=H.cells hk;have a1:0<=(k:Int):=o_;have a6:k<(len:Int):=o_;go_upto_region 7 with fail;go_quiet (fail);refine rd_ ?_;exact⟨k+1,o_,g_,HR.drewN _⟩
    exact wk
  have a0:¬i<(f.length:Int):=o_;go_upto_region 10 with fail;go_loopw [5] (λti wr=>∃i:Nat,i<=j.length/\ti=.int .i64 i/\Hid (LkS w wr o g N c (.slice S f.length s) (.slice T f.length v) (.slice D j.length u) (.slice M j.length m) (.slice R l.length A) (.slice Q l.length t) (.slice G d.length y) (.slice I d.length x) f em j nm l sm d lm)) (λti _=>j.length-(intOf ti).toNat)
  case atStart=>exact⟨0,qg_,rfl,HR⟩
  case round=>
   obtain⟨i,a4,rfl,HR⟩:=hrel;obtain⟨d4,d5,d6,d7,d8,d9,J,E⟩:=HC wr HR.wb
   by_cases hi:i<j.length
   ·have a2:0<=(i:Int):=o_;have a3:i<(j.length:Int):=o_;obtain⟨q,r,rfl,rfl,B,C,hF⟩:=HR.ns.at hi;obtain⟨⟨z,Y⟩,H⟩:=hF;obtain⟨a,len,cp,Z,O⟩:=H.shape;rw[Z] at B;rw[Y] at C;have HV:=x1_ Z;have HM:=x1_ Y;unfold maxLen at O;go_upto_region 13 with fail;go_loopw [6] (λtk wr=>∃k:Nat,k<=len/\tk=.int .i64 k/\Hid (LkS w wr o g N c (.slice S f.length s) (.slice T f.length v) (.slice (some ⟨q,0,none⟩) j.length u) (.slice (some ⟨r,0,none⟩) j.length m) (.slice R l.length A) (.slice Q l.length t) (.slice G d.length y) (.slice I d.length x) f em j nm l sm d lm)) (λtk _=>len-(intOf tk).toNat)
    case atStart=>exact⟨0,qg_,rfl,HR⟩
    case round=>
     obtain⟨k,a5,rfl,HR⟩:=hrel;obtain⟨d4,d5,d6,d7,d8,d9,J,E⟩:=HC wr HR.wb;obtain⟨q2,r2,P,U,B,C,hF⟩:=HR.ns.at hi;have X:q=q2:=(by injection P with e;injection e);have F:r=r2:=(by injection U with e;injection e);subst X F;rw[HV] at B hF;rw[HM] at C hF
     by_cases hk:k<len
     ·obtain⟨_,H⟩:=hF;obtain⟨b,rfl,x0⟩:=H.cells hk;have a1:0<=(k:Int):=o_;have a6:k<(len:Int):=o_;go_upto_region 15 with fail;go_quiet (fail);refine rd_ ?_;exact⟨k+1,o_,g_,HR.drewN _⟩
     exact wk
   have a0:¬i<(j.length:Int):=o_;go_upto_region 18 with fail;go_loopw [7] (λti wr=>∃i:Nat,i<=l.length/\ti=.int .i64 i/\Hid (LkS w wr o g N c (.slice S f.length s) (.slice T f.length v) (.slice D j.length u) (.slice M j.length m) (.slice R l.length A) (.slice Q l.length t) (.slice G d.length y) (.slice I d.length x) f em j nm l sm d lm)) (λti _=>l.length-(intOf ti).toNat)
   case atStart=>exact⟨0,qg_,rfl,HR⟩
   case round=>
    obtain⟨i,a4,rfl,HR⟩:=hrel;obtain⟨d4,d5,d6,d7,d8,d9,J,E⟩:=HC wr HR.wb
    by_cases hi:i<l.length
    ·have a2:0<=(i:Int):=o_;have a3:i<(l.length:Int):=o_;obtain⟨q,r,rfl,rfl,B,C,hF⟩:=HR.ss.at hi;obtain⟨⟨z,Y⟩,H⟩:=hF;obtain⟨a,len,cp,Z,O⟩:=H.shape;rw[Z] at B;rw[Y] at C;have HV:=x1_ Z;have HM:=x1_ Y;unfold maxLen at O;go_upto_region 21 with fail;go_loopw [8] (λtk wr=>∃k:Nat,k<=len/\tk=.int .i64 k/\Hid (LkS w wr o g N c (.slice S f.length s) (.slice T f.length v) (.slice D j.length u) (.slice M j.length m) (.slice (some ⟨q,0,none⟩) l.length A) (.slice (some ⟨r,0,none⟩) l.length t) (.slice G d.length y) (.slice I d.length x) f em j nm l sm d lm)) (λtk _=>len-(intOf tk).toNat)
     case atStart=>exact⟨0,qg_,rfl,HR⟩
     case round=>
      obtain⟨k,a5,rfl,HR⟩:=hrel;obtain⟨d4,d5,d6,d7,d8,d9,J,E⟩:=HC wr HR.wb;obtain⟨q2,r2,P,U,B,C,hF⟩:=HR.ss.at hi;have X:q=q2:=(by injection P with e;injection e);have F:r=r2:=(by injection U with e;injection e);subst X F;rw[HV] at B hF;rw[HM] at C hF
      by_cases hk:k<len
      ·obtain⟨_,H⟩:=hF;obtain⟨b,rfl,x0⟩:=H.cells hk;have a1:0<=(k:Int):=o_;have a6:k<(len:Int):=o_;go_upto_region 23 with fail;go_quiet (fail);refine rd_ ?_;exact⟨k+1,o_,g_,HR.drewN _⟩
      exact wk
    have a0:¬i<(l.length:Int):=o_;go_upto_region 26 with fail;go_loopw [9] (λti wr=>∃i:Nat,i<=d.length/\ti=.int .i64 i/\Hid (LkS w wr o g N c (.slice S f.length s) (.slice T f.length v) (.slice D j.length u) (.slice M j.length m) (.slice R l.length A) (.slice Q l.length t) (.slice G d.length y) (.slice I d.length x) f em j nm l sm d lm)) (λti _=>d.length-(intOf ti).toNat)
    case atStart=>exact⟨0,qg_,rfl,HR⟩
    case round=>
     obtain⟨i,a4,rfl,HR⟩:=hrel;obtain⟨d4,d5,d6,d7,d8,d9,J,E⟩:=HC wr HR.wb
     by_cases hi:i<d.length
     ·have a2:0<=(i:Int):=o_;have a3:i<(d.length:Int):=o_;obtain⟨q,r,rfl,rfl,B,C,hF⟩:=HR.ls.at hi;obtain⟨z,mb,Y,H,_⟩:=hF;obtain⟨a,len,cp,Z,O⟩:=H.shape;rw[Z] at B;rw[Y] at C;have HV:=x1_ Z;have HM:=x1_ Y;unfold maxLen at O;go_upto_region 29 with fail;go_loopw [10] (λtk wr=>∃k:Nat,k<=len/\tk=.int .i64 k/\Hid (LkS w wr o g N c (.slice S f.length s) (.slice T f.length v) (.slice D j.length u) (.slice M j.length m) (.slice R l.length A) (.slice Q l.length t) (.slice (some ⟨q,0,none⟩) d.length y) (.slice (some ⟨r,0,none⟩) d.length x) f em j nm l sm d lm)) (λtk _=>len-(intOf tk).toNat)
      case atStart=>exact⟨0,qg_,rfl,HR⟩
      case round=>
       obtain⟨k,a5,rfl,HR⟩:=hrel;obtain⟨d4,d5,d6,d7,d8,d9,J,E⟩:=HC wr HR.wb;obtain⟨q2,r2,P,U,B,C,hF⟩:=HR.ls.at hi;have X:q=q2:=(by injection P with e;injection e);have F:r=r2:=(by injection U with e;injection e);subst X F;rw[HV] at B hF;rw[HM] at C hF
       by_cases hk:k<len
       ·obtain⟨z2,aI,_,H,aG⟩:=hF;obtain⟨b,rfl,x0⟩:=H.cells hk;have x1:=cR_ 0 aG;have a1:0<=(k:Int):=o_;have a6:k<(len:Int):=o_;go_upto_region 31 with fail;go_quiet (fail);refine rd_ ?_;exact⟨k+1,o_,g_,HR.drewN _⟩
       exact wk
     have a0:¬i<(d.length:Int):=o_;have HB:=x1_ HR.bl;go_wp2;go_ret;exact⟨rfl,HB⟩
end Go.Proofs.YtfcgnpchbcmdeaaGreat
