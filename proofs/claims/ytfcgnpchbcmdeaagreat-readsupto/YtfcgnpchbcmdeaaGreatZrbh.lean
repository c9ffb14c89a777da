import Derived.Test.YtfcgnpchbcmdeaaGreatZrbc
namespace Go.Proofs.YtfcgnpchbcmdeaaGreat
set_option linter.all false
set_option maxRecDepth 100000
set_option maxHeartbeats 16000000
open Go.RowKit
def oh(w:World)(base:Nat)(v:Value)(L:List VS):Prop:=w.ownsRow base 335 3 v L.length (Ic L)
def oh.more{w a v L x}(h:w.ownsRow a 335 3 v (L.length+1) (Ic L++Hy x)):oh w a v (L++[x]):=by grind [oh,Us,Ic]
def ZjY:(Tryz.prog.info? 335).map (λi=>(i.zero,i.size,i.bytes))=some (some (.agg #[.bool false,I_ 0,.string ⟨#[]⟩]),3,32):=k_
def ZjZ:(Tryz.prog.info? 338).map (λi=>(i.zero,i.size,i.bytes))=some (some (.agg #[I_ 0,.slice none 0 0]),2,32):=k_
structure Jy where
 wt:Int
 fs:List VS
 v:Value
def Jy.pr(p:Jy):Int×List VS:=(p.wt,p.fs)
def Pv(p:Jy):List Value:=[I_ p.wt,p.v]
def Ox:List Jy->List Value
 |[]=>[]
 |p::L=>Pv p++Ox L
theorem yi A B:Ox (A++B)=Ox A++Ox B:=by
 induction A with
 |nil=>rfl
 |cons x A ih=>simp[Ox,ih]
structure Fy(w:World)(base)(v)(L):Prop where
 row:w.ownsRow base 338 2 v L.length (Ox L)
 each:∀p∈L,oh w base p.v p.fs
def Fy.nil w base:Fy w base (.slice none 0 0) []:=⟨rn_,s_⟩
def Fy.touch{w w' base v L K}(h:Fy w base v L)(t:Aa K w w')(h1:∀q,v.ownBlock=some q->¬K q)(h2:∀p∈L,∀q,p.v.ownBlock=some q->¬K q):Fy w' base v L:=
 ⟨t.row h.row h1,λp hp=>t.row (h.each p hp) (h2 p hp)⟩
def Fy.shape{w b v L}(h:Fy w b v L):∃a c,v=.slice a L.length c:=by
 rcases h.row.2 with⟨rfl,h0⟩|⟨g,cap,cur,rfl,_⟩
 ·grind
 grind
def Fy.below{w w' base v L}(h:Fy w base v L)(hb:Below w.heap.size w w'):Fy w' base v L:=h.touch (.of_below (S:=λ_=>False) hb) (λ_ _=>id) (λ_ _ _ _=>id)
def Fy.more{w c a v d L p}(h:Fy w a v L)(j:oh w a p.v p.fs)(g:w.grownBy c v.ownBlock)(r:c.ownsRow a 338 2 d (L.length+1) (Ox L++Pv p)):Fy c a d (L++[p]):=by
 have t:=(Aa.refl _ w).grown g (λk hk _=>hk);refine⟨?_,λq hq=>?_⟩
 ·grind [yi,Ox]
 have b:oh w a q.v q.fs:=by
  rcases List.mem_append.1 hq with e|e
  exact h.each q e
  grind
 refine t.row b (λk hk e=>?_);obtain⟨f,i⟩:=Ad b hk;exact Au h.row e i d_ rfl
structure RwI(w W)(base tb cb rb:Nat)(S)(k)(z)(vR)(L)(vc)(wt)(fv)(F):Prop where
 tx:Fb W tb S k z vR
 rows:Fy W base vR L
 cf:W.heap[cb]? =some (.cells vc 37 (0,0))
 rw:W.heap[rb]? =some (.cells #[I_ wt,fv] 338 (0,0))
 fl:oh W rb fv F
 lo:Below base w W
 n1:base<=tb
 n2:base<=cb
 n3:base<=rb
 ap:∀p∈L,∀q,p.v.ownBlock=some q->q<rb
 ar:∀q,vR.ownBlock=some q->q<rb
section
variable {w W W':World} {base tb cb rb:Nat} {S:ByteArray} {k k':Nat} {z z':Int} {vR:Value} {L:List Jy} {vc:Array Value} {wt:Int} {fv:Value} {F:List VS}
def RwI.text(h:RwI w W base tb cb rb S k z vR L vc wt fv F)(hx:Fb W' tb S k' z' vR)(t:Aa (λq=>q=tb) W W'):RwI w W' base tb cb rb S k' z' vR L vc wt fv F:=
 ⟨hx,h.rows.touch t (λq hq e=>Au h.rows.row hq h.tx d_ e) (λp hp q hq e=>Au (h.rows.each p hp) hq h.tx d_ e),
  t.at_ h.cf (λe=>by have h1:=h.cf;have h2:=h.tx;unfold Fb at h2;grind),
  t.at_ h.rw (λe=>by have h1:=h.rw;have h2:=h.tx;unfold Fb at h2;grind),
  t.row h.fl (λq hq e=>Au h.fl hq h.tx d_ e),h.lo.trans (t.to_below (by have:=h.lo.size;have:=h.tx.lt;have:=h.n1;omega) (λq hq=>by have:=h.n1;omega)),h.n1,h.n2,h.n3,h.ap,h.ar⟩
def RwI.below(h:RwI w W base tb cb rb S k z vR L vc wt fv F)(a:Below W.heap.size W W'):RwI w W' base tb cb rb S k z vR L vc wt fv F:=by have t:=Aa.of_below (S:=λ_=>False) a;exact⟨h.tx.below a,h.rows.below a,t.at_ h.cf id,t.at_ h.rw id,t.row h.fl (λ_ _=>id),h.lo.trans (a.mono (by have:=h.tx.lt;have:=h.n1;omega)),h.n1,h.n2,h.n3,h.ap,h.ar⟩
def RwI.ne(h:RwI w W base tb cb rb S k z vR L vc wt fv F):tb≠rb/\cb≠rb:=
 ⟨λe=>by have h1:=h.rw;have h2:=h.tx;unfold Fb at h2;grind,λe=>by have h1:=h.rw;have h2:=h.cf;grind⟩
def RwI.more{b c x}(h:RwI w W base tb cb rb S k z vR L vc wt fv F)(g:W.grownBy b fv.ownBlock)(r:b.ownsRow rb 335 3 c (F.length+1) (Ic F++Hy x)):RwI w (b.setCell (A_ rb 1) c) base tb cb rb S k z vR L vc wt c (F++[x])/\b.heap[rb]? =some (.cells #[I_ wt,fv] 338 (0,0)):=by
 have t:=(Aa.refl _ W).grown g (λk hk _=>hk);have a:=t.at_ h.rw (λe=>Au h.fl e h.rw d_ rfl);have d:Aa (λq=>_∨q=rb) W (b.setCell _ c):=(t.mono (λ_ _=>.inl)).setCell (p:=(A_ rb 1)) (λ_=>.inr rfl) _;obtain⟨n1,f⟩:=h.ne;refine⟨⟨h.tx.touch d ?_,h.rows.touch d (λq hq e=>?_) (λp hp q hq e=>?_),d.at_ h.cf ?_,ht_ 1 _ _ _ a,As (oh.more r) a d_,h.lo.trans (d.to_below (by have:=h.tx.lt;have:=h.n1;omega) (λq hq=>?_)),h.n1,h.n2,h.n3,h.ap,h.ar⟩,a⟩;rintro(e|e);exact Au h.fl e h.tx d_ rfl;exact n1 e
 ·rcases e with e|e
  have:=h.ar q hq;have:=(rl_ h.fl q e).1;omega;have:=h.ar q hq;omega
 ·rcases e with e|e
  have:=h.ap p hp q hq;have:=(rl_ h.fl q e).1;omega;have:=h.ap p hp q hq;omega
 rintro(e|e);exact Au h.fl e h.cf d_ rfl;exact f e;have:=h.n3
 rcases hq with e|e
 have:=(rl_ h.fl q e).1;omega;omega
end
def RwP(w:World)(base tb:Nat)(S:ByteArray)(L:List Jy)(R:Int×List VS×Nat×Int)(w':World):Prop:=
 ∃vR' L',Fb w' tb S R.2.2.1 R.2.2.2 vR'/\Fy w' base vR' L'/\L'.map Jy.pr=(if R.2.2.2=0 then L.map Jy.pr++[(R.1,R.2.1)] else L.map Jy.pr)/\Below base w w'
def ZiW f M k n H fc S vR L x1 x2 x3 o m ct w (h:Fb w M S k 0 vR)(hL:Fy w f vR L)(hb:f<=M)(b7:k<=S.size)(hF:Dd w H 0 n o m ct)(aD:H<f)(hn:n<=4)(aT:∀i,i<n->0<=m i/\(o i=false->m i<=3))(bE:L.length<=1000)(hk:S.size<=1000000000000000):C_ 236 #[.pointer (some ⟨M,0,none⟩),.agg #[.slice (some ⟨H,0,none⟩) n fc,.int .i64 x1,.int .i64 x2,.int .i64 x3]] w λe w'=>e=.returned (.tuple #[])/\RwP w f M S L (Zv S n o m k) w':=by
 obtain⟨R,a4⟩:=ez_ (Zv S n o m k);rw[a4];obtain⟨w1,P⟩:=ex_ (w.alloc (.cells #[L_ H n fc,I_ x1,I_ x2,I_ x3] 37));have aQ:f<=w.heap.size:=(by have:=h.lt;omega);have b1:E_ w w1:=(by rw[P];exact bA_);have aN:w1.heap[w.heap.size]? =some (.cells #[L_ H n fc,I_ x1,I_ x2,I_ x3] 37 (0,0)):=(by rw[P];exact hn_);obtain⟨cb,aA⟩:=ex_ w.heap.size;have HN:=Zd _ k 2 S 0 false _ _ (h.below b1) o_ hk;have a3:=Zif (S:=S) 0 2 false b7;obtain⟨A,HA⟩:=ez_ (Mc S k 0 2 false);rw[HA] at HN a3;obtain⟨E,j,k2,z2⟩:=A;simp only at HN a3;have y:=x2_ (h.below b1) (hL.below b1)
 have aZ:Hid (∀W,Below f w W->∀i,i<n->W.cell? (A_ H (i*3))=some (.bool (o i))/\W.cell? (A_ H (i*3+1))=some (I_ (m i).toNat)/\W.cell? (A_ H (i*3+2))=some (I_ (ct i))):=λW hW i hi=>by have e0:=hF.c0 i hi;have e1:=hF.c1 i hi;have e2:=hF.c2 i hi;rw[Nat.zero_add] at e0 e1 e2;refine⟨(hW.cell (p:=(A_ H (i*3))) aD).trans e0,?_,(hW.cell (p:=(A_ H (i*3+2))) aD).trans e2⟩;rw[Int.toNat_of_nonneg (aT i hi).1];exact(hW.cell (p:=(A_ H (i*3+1))) aD).trans e1
 have aL:=x1_ P;have N:Hid (_/\_[cb]? =some _):=⟨b1,by rw[aA];exact aN⟩;have Z:=x1_ aA;clear P b1 aN h hL hF aA;go_enter Tryz.func236,Tryz.ntmps236;go_wp2_with fail
 rw[<- aL,<- Z];refine HN.mono ?_;rintro e w2 ⟨rfl,h2,t2⟩;have a6:=x2_ h2 t2;clear h2 t2 HN aL;have HM:=Xy _ _ S _ 44 _ _ a6.1 d_ hk;have aO:=ZeL (S:=S) (z:=z2) (b:=44) d_ a3.2;obtain⟨k3,aG⟩:=ey_ (Mq S k2 z2 44);obtain⟨z3,aR⟩:=ey_ (Ng S k2 z2 44);rw[aG,aR] at HM;rw[aG] at aO
 have aB:Hid (R=if z3=0 then(E,(Sr S n o m n 0 [] k3).1,(Sr S n o m n 0 [] k3).2.1,(Sr S n o m n 0 [] k3).2.2) else(E,[],k3,z3)):=by
  show _=_;rw[<- a4];unfold Zv;simp only;rw[HA]
  grind
 clear aG aR a4 HA;go_wp2_with fail
 refine HM.mono ?_;rintro e w3 ⟨rfl,h3,t3⟩;obtain⟨w4,U⟩:=ex_ (w3.alloc (.cells #[I_ E,.slice none 0 0] 338));obtain⟨rb,I⟩:=ex_ w3.heap.size
 have HI:Hid (RwI w w4 f M cb rb S k3 z3 vR L #[L_ H n fc,I_ x1,I_ x2,I_ x3] E (.slice none 0 0) []):=by
  have t:=a6.2.trans t3;have b4:E_ w3 w4:=(by rw[U];exact bA_);have aC:=y.2.touch t (λq hq e=>Au y.2.row hq y.1 d_ e) (λp hp q hq e=>Au (y.2.each p hp) hq y.1 d_ e);have aY:f<=w1.heap.size:=(by have:=y.1.lt;omega);have X:=t.at_ N.2 (λe=>by have h1:=N.2;have h2:=y.1;unfold Fb at h2;grind);refine⟨h3.below b4,aC.below b4,(b4.block _ (Qb X).1).trans X,by rw[U,I];exact hn_,rn_,?_,hb,by rw[Z];exact aQ,?_,λp hp q hq=>?_,λq hq=>?_⟩;exact((N.1.mono aQ).trans (t.to_below aY (λq hq=>o_))).trans (b4.mono (by have:=t.size;omega));have:=t.size;omega;rw[I];exact(rl_ (aC.each p hp) q hq).2;rw[I];exact(rl_ aC.row q hq).2
 have a9:=x2_ U I;clear h3 t3 HM U I y a6 N Z;go_upto_region 5 with fail;rw[<- a9.1,<- a9.2];clear a9;go_loopw [7] (λO wr=>∃(i G:Nat) (V:Int) (fv:Value) (F:List VS),O=.int .i64 i/\i<=n/\G<=S.size/\Hid ((V=0/\F.length=i/\R=(E,(Sr S n o m (n-i) i F G).1,(Sr S n o m (n-i) i F G).2.1,(Sr S n o m (n-i) i F G).2.2))∨(V≠0/\R.2.2.1=G/\R.2.2.2=V))/\Hid (RwI w wr f M cb rb S G V vR L #[.slice (some ⟨H,0,none⟩) n fc,.int .i64 x1,.int .i64 x2,.int .i64 x3] E fv F)) (λO _=>n-(intOf O).toNat)
 case atStart=>
  refine⟨0,k3,z3,_,[],rfl,qg_,aO.2,?_,HI⟩
  by_cases hz:z3=0
  ·grind
  exact .inr ⟨hz,by rw[aB,if_neg hz],by rw[aB,if_neg hz]⟩
 case round=>
  clear HI aB;obtain⟨i,G,V,fv,F,rfl,hi,aM,HE,s⟩:=hrel;obtain⟨_,_,e2,_⟩:=s.tx.cells;have c0:=cq_ 0 _ _ _ s.out.cf;simp only[List.getElem?_toArray,List.getElem?_cons_zero] at c0
  by_cases C:i<n/\V=0
  ·obtain⟨C,rfl⟩:=C;have l:Hid (F.length=i/\R=(E,(Sr S n o m (n-i) i F G).1,(Sr S n o m (n-i) i F G).2.1,(Sr S n o m (n-i) i F G).2.2)):=w_;clear HE;have g1:i<(n:Int):=o_;have g2:0<=(i:Int):=o_;go_upto_if 38 with fail
   go_cut [8] (λv wx=>v=.int .u8 (Eg i n)/\wx=wr)
   case first=>
    by_cases hl:i+1=n
    ·have HS:Hid (Eg i n=_):=if_pos hl;have g3:((i:_)==(n:Int)-1)=_:=beq_iff_eq.2 o_;go_wp2;go_meet
     exact⟨by rw[HS],rfl⟩
    have HS:Hid (Eg i n=_):=if_neg hl;have g3:((i:_)==(n:Int)-1)=_:=beq_eq_false_iff_ne.2 o_;go_wp2;go_meet
    exact⟨by rw[HS],rfl⟩
   case rest=>
    obtain⟨rfl,hw⟩:=hcut;obtain rfl:=hw.symm;clear hw;obtain⟨a0,a1,a2⟩:=aZ wr s.lo i C;have HF:=ZdO _ _ (m i).toNat S _ (ct i) _ _ _ s.tx aM (λe=>by have:=(aT i C).2 e;omega) (Xs i n) hk;have aJ:=ZkJ (S:=S) (o i) (m i).toNat (Xs i n) aM;obtain⟨r,Hr⟩:=ez_ (bz S G (o i) (m i).toNat (Eg i n));rw[Hr] at HF aJ
    have HN:Hid ((r.2.2=0/\(F++[r.1]).length=i+1/\R=(E,(Sr S n o m (n-(i+1)) (i+1) (F++[r.1]) r.2.1).1,(Sr S n o m (n-(i+1)) (i+1) (F++[r.1]) r.2.1).2.1,(Sr S n o m (n-(i+1)) (i+1) (F++[r.1]) r.2.1).2.2))∨(r.2.2≠0/\R.2.2.1=r.2.1/\R.2.2.2=r.2.2)):=by
     have e:Sr S n o m (n-i) i F G=if r.2.2=0 then Sr S n o m (n-(i+1)) (i+1) (F++[r.1]) r.2.1 else(F++[r.1],r.2.1,r.2.2):=by rw[show n-i=(n-(i+1))+1 by omega,Sr];rw[Hr]
     by_cases hz:r.2.2=0
     exact .inl ⟨hz,by rw[Qe,l.1];rfl,by rw[l.2,e,if_pos hz]⟩;exact .inr ⟨hz,by rw[l.2,e,if_neg hz],by rw[l.2,e,if_neg hz]⟩
    have aH:=x1_ l.1;clear l Hr;generalize o i=wdi,(m i).toNat=sci at *;go_wp2_with fail
    refine HF.mono ?_;rintro e w5 ⟨rfl,h5,t5⟩;have aP:=x1_ (s.text h5 t5);clear h5 t5 s HF e2 c0 a0 a1 a2;have q5:=aP.out;have b9:=(Qb q5.rw).1;obtain⟨⟨ms,nm,wo⟩,kr,zr⟩:=r;obtain⟨Y,B⟩:=ex_ ((w5.alloc (.cells #[.bool ms,I_ nm,.string wo] 335)).alloc (.cells #[.bool ms,I_ nm,.string wo] 335));have b6:E_ w5 Y:=(by rw[B];exact bA_.alloc s_ _);have d:Hid (RwI w _ _ _ _ _ S kr zr _ L _ _ _ F):=q5.below b6;have a5:=x1_ B;have d0:_=some fv:=cq_ 1 _ _ _ q5.rw;have aS:=aH.out;obtain⟨i0,J,aE,a8,Q⟩:=info_parts ZjY;clear q5 B b6 aP
    go_wp2_with (at_builtin;rw[<- a5];refine Ab rfl (.tmp 48) (.tmp 50) 336 rfl rb 335 i0 _ 3 32 Tryz.underlying336 J aE a8 Q rfl d_ fv F.length (Ic F) rfl d.fl _ 1 1 [.bool ms,I_ nm,.string wo] rfl rfl ?_ ?_ ?_ ?_ ?_ ?_ ?_)
    have e:=Am (w5.alloc (.cells #[.bool ms,I_ nm,.string wo] 335)) #[.bool ms,I_ nm,.string wo] 335;rw[show(w5.alloc (.cells #[.bool ms,I_ nm,.string wo] 335)).heap.size=w5.heap.size+1 by simp] at e;rw[a5];exact e
    ·intro u hu;simp at hu;rcases hu with rfl|rfl|rfl<;>rfl
    decide;unfold maxLen;omega;omega;have:=(Qb d.out.rw).1;omega;intro v7 w7 H7;obtain⟨r7,g7,d7,_,q7,p7,a7⟩:=H7.out;subst a7;obtain⟨m1,m2⟩:=d.out.more (x:=⟨ms,nm,wo⟩) g7 (by rw[aH.out];exact r7);have bB:=x1_ m1;have c7:=cq_ 1 _ _ _ m2;have f7:=fq_ 1 _ _ m2;simp at c7;clear m1 m2 r7 g7 d7 H7 d d0 a5;go_wp2;go_roundw;case rel=>grind
    case measure=>exact z_
  by_cases hz:V=0
  ·subst hz;have aW:i=n:=o_
   have l:Hid (R=(E,F,G,0)):=by
    rcases HE.out with h|h
    show _=_;rw[h.2.2,aW,Nat.sub_self,Sr];omega
   have g1:¬i<(n:Int):=o_;clear HE C aW;obtain⟨ra,rc,aX⟩:=s.rows.shape
   obtain⟨fa,T,b5⟩:∃a c,fv=.slice a F.length c:=by
    rcases s.out.fl.2 with⟨e,h0⟩|⟨g,cap,cur,e,_⟩
    ·grind
    grind
   subst aX b5;have q1:=s.tx.cells.2.2.2;have q2:=cR_ 0 s.rw;have q3:=cR_ 1 s.rw;obtain⟨i0,J,aE,a8,Q⟩:=info_parts ZjZ;generalize aS:F.length=fl at s q3;generalize hll:L.length=ll at s q1;have bA:ll<=1000:=o_;have aV:=x1_ hll;clear aS hll;go_upto_region 13 with fail;refine Al (λw'=>w'.cell? _=some _/\w'.cell? _=some _/\w'.cell? _=some _) 10 k_ ⟨q1,q2,q3⟩ (λhHeld=>?_);refine Ah 0 ?_;refine Ah 1 ?_;refine Ah 2 ?_;refine Ah 3 ?_;refine Ah 4 ?_;refine Ah 5 ?_;refine Af (i:=6) k_ rfl (λKK hK=>?_);go_simp;obtain⟨Y,B⟩:=ex_ ((wr.alloc (.cells #[I_ E,.slice fa fl T] 338)).drew);have b6:E_ wr Y:=(by rw[B];exact bA_.drew);have d:=x1_ (s.below b6)
   have aI:∀j u,(#[I_ E,.slice fa fl T]).toList[j]? =some u->Y.cell? (((A_ wr.heap.size 0):Addr).add j)=some u:=(by rw[B];exact Am _ _ _);rw[<- B];have b3:_/\Y.cell? _=some (.int _ E)/\Y.cell? _=some (.slice fa fl _):=⟨d.tx.cells.2.2.2,cq_ 0 _ _ _ d.rw,cq_ 1 _ _ _ d.rw⟩;have aK:f<=Y.heap.size:=(by have:=d.tx.lt;omega);clear B b6 q1 q2 q3 s;refine hK _ _ b3 (λhHeld=>?_);clear hK KK;try simp only[Act.put,List.setIfInBounds_toArray,List.set_cons_succ,List.set_cons_zero]
   refine Af (i:=7) k_ rfl (λKK hK=>?_);refine Az rfl (.tmp 62) (.tmp 64) 281 rfl f 338 i0 _ 2 32 Tryz.underlying281 J aE a8 Q rfl d_ (.slice ra ll rc) ll (Ox L) j_ (by have:=d.rows.row;rw[aV] at this;exact this) (A_ wr.heap.size 0) 1 1 [I_ E,.slice fa fl T] j_ rfl ?_ ?_ d_ m_ o_ aK ?_;exact aI
   ·intro u hu;simp at hu;rcases hu with rfl|rfl<;>rfl
   intro v7 w7 H7;obtain⟨r7,g7,d7,_,q7,p7,a7⟩:=H7;subst a7;have aU:oh Y f (.slice fa fl T) F:=(by have h1:=d.fl;have h2:=d.n3;exact⟨h1.1,h1.2.imp id (λ⟨g,cap,cur,e,hb,rest⟩=>⟨g,cap,cur,e,o_,rest⟩)⟩);have hM:Fy _ _ _ (L++[⟨_,F,_⟩]):=d.rows.more aU g7 (by rw[aV];exact r7);have O:=(Aa.refl _ _).grown g7 (λk hk _=>hk);have D:=d.tx.touch O (λe=>Au d.rows.row e d.tx d_ rfl);have aF:=O.at_ d.rw (λe=>by have:=d.ar rb e;omega);have b8:_/\w7.cell? _=some (.int _ E)/\w7.cell? _=some (.slice fa fl _):=⟨D.cells.2.2.2,cq_ 0 _ _ _ aF,cq_ 1 _ _ _ aF⟩;have bF:=D.cells.2.2.2;have bC:=fq_ 3 _ _ D
   have HP:Hid (RwP w f M S L (E,F,G,0) (w7.setCell (A_ M 3) (L_ q7 (ll+1) p7))):=(by have t8:Aa _ _ (w7.setCell _ (L_ q7 (ll+1) p7)):=(Aa.refl (λq=>q=M) _).setCell (p:=(A_ M 3)) (λ_=>rfl) _;have bD:=O.size;have h1:=d.n1;refine⟨_,_,ht_ 3 _ _ _ D,hM.touch t8 (λq hq e=>Au hM.row hq D d_ e) (λp hp q hq e=>Au (hM.each p hp) hq D d_ e),by rw[if_pos rfl,List.map_append];rfl,?_⟩;exact(d.lo.trans (O.to_below aK (λq hq=>(rl_ d.rows.row q hq).1))).trans (t8.to_below o_ (λq hq=>o_)));clear aU hM O D aF r7 g7 d7 d;refine hK _ _ b8 (λhHeld=>?_);clear hK KK;try simp only[Act.put,List.setIfInBounds_toArray,List.set_cons_succ,List.set_cons_zero]
   refine Ah 8 ?_;refine Ah 9 ?_;refine Ai (i:=10) k_ rfl k_ (λKK hK=>?_);go_simp;refine hK _ _ ?_;clear hK KK;try simp only[Act.put,List.setIfInBounds_toArray,List.set_cons_succ,List.set_cons_zero]
   refine Ak k_ ?_ _;go_wp2;go_end0;rw[l];exact⟨rfl,HP⟩
  have l:Hid (R.2.2.1=G/\R.2.2.2=V):=w_;have Q:=beq_eq_false_iff_ne.2 hz;have HZ:=x1_ hz;clear HE C hz
  by_cases C:i<n
  ·have g1:i<(n:Int):=o_;go_wp2;go_end0;refine⟨rfl,?_⟩;unfold RwP;rw[l.1,l.2];exact⟨vR,L,s.tx,s.rows,by rw[if_neg HZ],s.lo⟩
  have g1:¬i<(n:Int):=o_;go_wp2;go_end0;refine⟨rfl,?_⟩;unfold RwP;rw[l.1,l.2];exact⟨vR,L,s.tx,s.rows,by rw[if_neg HZ],s.lo⟩
def RdP(w:World)(S:ByteArray)(R:List (Int×List VS)×Nat×Int)(e:Ending)(w':World):Prop:=
 ∃tb vR L,e=.returned (P_ tb)/\w.heap.size<=tb/\Fb w' tb S R.2.1 R.2.2 vR/\Fy w' w.heap.size vR L/\L.map Jy.pr=R.1/\L.length<=200/\E_ w w'
def uq n u C S E G x t o ct w (hF:Dd w u 0 n t o ct)(a5:u<w.heap.size)(hn:n<=4)(a2:∀i,i<n->0<=o i/\(t i=false->o i<=3))(hk:S.size<=1000000000000000):C_ 178 #[.agg #[.slice (some ⟨u,0,none⟩) n C,.int .i64 E,.int .i64 G,.int .i64 x],.string S] w λe w'=>RdP w S (Jd S n t o (S.size+1) [] 0) e w':=by
 obtain⟨R,F⟩:=ez_ (Jd S n t o (S.size+1) [] 0);rw[F];obtain⟨V,j⟩:=ex_ ((w.alloc (.cells #[L_ u n C,I_ E,I_ G,I_ x] 37)).alloc (.cells #[.string S,I_ 0,I_ 0,.slice none 0 0] 283));obtain⟨m,A⟩:=ex_ (w.heap.size+1);have I:Fb V m S 0 0 (.slice none 0 0):=(by have e:=ha_ (w.alloc (.cells #[L_ u n C,I_ E,I_ G,I_ x] 37)) (.cells #[.string S,I_ 0,I_ 0,.slice none 0 0] 283);rw[show(w.alloc (.cells #[L_ u n C,I_ E,I_ G,I_ x] 37)).heap.size=w.heap.size+1 by simp,<- j,<- A] at e;exact e);have P:V.heap[w.heap.size]? =some (.cells #[L_ u n C,I_ E,I_ G,I_ x] 37 (0,0)):=by grind [Below.heap_alloc,heap_alloc_new]
 have N:E_ w V:=(by rw[j];exact bA_.alloc s_ _);have HI:Hid (_/\Fy V (w.heap.size+1) _ _/\_/\_):=⟨I,Fy.nil _ _,P,N⟩;have c:=x2_ j A;have a0:Hid (∀W,Below _ w W->_):=λW hW=>hF.below hW;clear j A I P N hF;go_enter Tryz.func178,Tryz.ntmps178;go_upto_region 2 with fail;rw[<- c.1,<- c.2]
 go_loopw [13] (λ_ wr=>∃(b f:Nat) (l:Int) (Z:Value) (L:List Jy),b<=S.size/\L.length<=200/\(l=0->S.size+1<=f+b)/\Hid ((l=0/\R=Jd S n t o f (L.map Jy.pr) b)∨(l≠0/\R=(L.map Jy.pr,b,l)))/\Hid (Fb wr m S b l Z/\Fy wr (w.heap.size+1) Z L/\wr.heap[w.heap.size]? =some (.cells #[.slice (some ⟨u,0,none⟩) n C,.int .i64 E,.int .i64 G,.int .i64 x] 37 (0,0))/\E_ w wr)) (λ_ wr=>match wr.cell? ⟨m,1,none⟩,wr.cell? ⟨m,2,none⟩ with|some (.int _ k),some (.int _ z)=>if z=0 then S.size+1-k.toNat else 0|_,_=>0)
 case atStart=>exact⟨0,S.size+1,0,_,[],qg_,s_,λ_=>o_,.inl ⟨rfl,F.symm⟩,HI⟩
 case round=>
  clear HI F;obtain⟨b,f,l,Z,L,Q,U,hf,X,a⟩:=hrel;have HC:=a.1.cells;obtain⟨_,e1,e2,e3⟩:=HC;have M:=x2_ e1 e2;obtain⟨ra,rc,B⟩:=a.2.1.shape
  by_cases y:b<S.size/\l=0
  ·obtain⟨y,rfl⟩:=y;have hf:=hf rfl;obtain⟨f,rfl⟩:∃f',f=f'+1:=⟨f-1,o_⟩;have D:Hid (R=Jd S n t o (f+1) (L.map Jy.pr) b):=w_;have g1:b<(S.size:Int):=o_
   by_cases h200:L.length=200
   ·have s:Hid (R=(L.map Jy.pr,b,3)):=(by grind [Jd]);have f2:=fq_ 2 _ _ a.1;rw[h200] at B;subst B;have Y:Hid (RdP w S (L.map Jy.pr,b,3) (.returned (P_ m)) (wr.setCell (A_ m 2) (I_ 3))):=(by obtain⟨H,y2⟩:=a.1.put 3;have h1:=a.1.lt;have h2:=c.2;have v:=a.2.1.touch y2 (λq hq e=>Au a.2.1.row hq a.1 d_ e) (λp hp q hq e=>Au (a.2.1.each p hp) hq a.1 d_ e);exact⟨m,_,L,rfl,o_,H,⟨⟨v.row.1,v.row.2.imp id (λ⟨g,cap,cur,e,hb,rest⟩=>⟨g,cap,cur,e,o_,rest⟩)⟩,λp hp=>⟨(v.each p hp).1,(v.each p hp).2.imp id (λ⟨g,cap,cur,e,hb,rest⟩=>⟨g,cap,cur,e,o_,rest⟩)⟩⟩,rfl,U,a.2.2.2.trans (y2.to_below o_ (λq hq=>o_))⟩);clear X D a;go_wp2;go_ret;rw[s];exact Y
   have J:L.length<200:=o_;have a4:((L.length:Int)==200)=_:=beq_eq_false_iff_ne.2 o_;have d:=a.2.2.1;have d0:=cR_ 0 d;have d1:=cR_ 1 d;have d2:=cR_ 2 d;have d3:=cq_ 3 _ _ _ d;simp at d0 d1 d2 d3;have HW:=ZiW _ m _ n u C S Z L E G x _ _ ct wr a.1 a.2.1 (by have:=c.2;omega) Q (a0 wr a.2.2.2) o_ hn a2 o_ hk;have O:=ZkU n t o Q;obtain⟨r,Hr⟩:=ez_ (Zv S n t o b);rw[Hr] at HW O;have HN:Hid (R=if r.2.2.2=0 then Jd S n t o f (L.map Jy.pr++[(r.1,r.2.1)]) r.2.2.1 else(L.map Jy.pr,r.2.2.1,r.2.2.2)):=(by show _=_;rw[D,Jd,if_pos y,if_neg w_];simp only;rw[Hr]);subst B;have a1:=x1_ J;clear X D Hr d h200 J;go_wp2_with fail
   refine HW.mono ?_;rintro e w2 ⟨rfl,h2⟩;have H2:=x1_ h2;clear h2 HW;go_wp2;go_roundw
   case rel=>
    obtain⟨T,L',H,y2,y3,y4⟩:=H2.out;have j:=a.1.lt;have a6:=c.2;have h3:=a1.out;have a3:=congrArg List.length y3;refine⟨r.2.2.1,f,r.2.2.2,T,L',O.1.2,?_,?_,?_,H,y2,?_,?_⟩
    ·grind
    omega
    ·grind
    exact(y4.block _ o_).trans a.2.2.1;exact a.2.2.2.trans (y4.mono o_)
   case measure=>
    obtain⟨T,L',H,_⟩:=H2;rw[H.cells.2.1,H.cells.2.2.1,M.1,M.2]
    grind
  have s:Hid (R=(L.map Jy.pr,b,l)):=by
   rcases X.out with h|h
   ·show _=_;have:=hf h.1;obtain⟨f,rfl⟩:∃f',f=f'+1:=⟨f-1,o_⟩
    grind [Jd]
   exact h.2
  have Y:Hid (RdP w S (L.map Jy.pr,b,l) (.returned (P_ m)) wr):=(by have h2:=c.2;have v:=a.2.1;exact⟨m,_,L,rfl,o_,a.1,⟨⟨v.row.1,v.row.2.imp id (λ⟨g,cap,cur,e,hb,rest⟩=>⟨g,cap,cur,e,o_,rest⟩)⟩,λp hp=>⟨(v.each p hp).1,(v.each p hp).2.imp id (λ⟨g,cap,cur,e,hb,rest⟩=>⟨g,cap,cur,e,o_,rest⟩)⟩⟩,rfl,U,a.2.2.2⟩);clear X a
  by_cases hz:l=0
  ·subst hz;have g1:¬b<(S.size:Int):=o_;go_wp2;go_ret;rw[s];exact Y
  have g1:=beq_eq_false_iff_ne.2 hz;go_wp2;go_ret;rw[s];exact Y
def mu(w:World)(ib fk n fc:Nat)(x1 x2 x3:Int)(S:ByteArray)(z p:Int)(cl:Bool):Prop:=w.heap[ib]? =some (.cells #[L_ fk n fc,I_ x1,I_ x2,I_ x3,.string S,I_ z,I_ p,.bool cl] 278 (0,0))
def mu.cells{w ib fk n fc x1 x2 x3 S z p cl}(h:mu w ib fk n fc x1 x2 x3 S z p cl):(w.cell? (A_ ib 0)=some (L_ fk n fc)/\w.cell? (A_ ib 1)=some (I_ x1)/\w.cell? (A_ ib 2)=some (I_ x2)/\w.cell? (A_ ib 3)=some (I_ x3)/\w.cell? (A_ ib 4)=some (.string S))/\w.cell? (A_ ib 5)=some (I_ z)/\w.cell? (A_ ib 6)=some (I_ p)/\w.cell? (A_ ib 7)=some (.bool cl):=
 ⟨⟨cq_ 0 _ 278 (0,0) h,cq_ 1 _ 278 (0,0) h,cq_ 2 _ 278 (0,0) h,cq_ 3 _ 278 (0,0) h,cq_ 4 _ 278 (0,0) h⟩,cq_ 5 _ 278 (0,0) h,cq_ 6 _ 278 (0,0) h,cq_ 7 _ 278 (0,0) h⟩
def zm a d n g f c i z p S b w (h:mu w a d n g f c i S z p true):C_ 125 #[.pointer (some ⟨a,0,none⟩),.string b] w λe w'=>e=.returned (.tuple #[.int .i64 1,.int .i64 0])/\w'=w:=by
 have j:=h.cells.2.2.2;go_enter Tryz.func125,Tryz.ntmps125;go_wp2;go_ret2
 exact⟨rfl,rfl⟩
def ZbG a i n g k j f z p S b w (h:mu w a i n g k j f S z p false)(c:z≠0):C_ 125 #[.pointer (some ⟨a,0,none⟩),.string b] w λe w'=>e=.returned (.tuple #[.int .i64 z,.int .i64 p])/\∃m,w'=w.drewN m:=by
 obtain⟨_,o,q,l⟩:=h.cells;have d:=bne_iff_ne.2 c;go_enter Tryz.func125,Tryz.ntmps125;go_upto_region 4 with fail;go_quiet (fail);go_wp2;go_ret2
 exact⟨rfl,_,rfl⟩
def fdA(S:ByteArray)(R:List (Int×List VS)×Nat×Int):Int×Int:=if R.2.2≠0/\R.2.1<S.size then(R.2.2,R.2.1) else(0,0)
def RfP(w:World)(ib fk n fc:Nat)(x1 x2 x3:Int)(S:ByteArray)(a:Int×Int)(w':World):Prop:=mu w' ib fk n fc x1 x2 x3 S a.1 a.2 false/\Aa (λq=>q=ib) w w'
def Zf2 c f n F G N D S b m k ct w (h:mu w c f n F G N D S 0 0 false)(A:Dd w f 0 n m k ct)(r:f≠c)(g:f<w.heap.size)(hn:n<=4)(a3:∀i,i<n->0<=k i/\(m i=false->k i<=3))(hk:(S++b).size<=1000000000000000):C_ 125 #[.pointer (some ⟨c,0,none⟩),.string b] w λe w'=>e=.returned (.tuple #[.int .i64 (fdA (S++b) (Jd (S++b) n m k ((S++b).size+1) [] 0)).1,.int .i64 (fdA (S++b) (Jd (S++b) n m k ((S++b).size+1) [] 0)).2])/\RfP w c f n F G N D (S++b) (fdA (S++b) (Jd (S++b) n m k ((S++b).size+1) [] 0)) w':=by
 obtain⟨⟨_,_,_,_,c4⟩,z,t,c7⟩:=h.cells;have f4:=fq_ 4 _ _ h;have a7:S.size+(b.size:Int)<=1000000000000000:=w_;obtain⟨T,U⟩:=ex_ (S++b);rw[<- U] at hk ⊢;obtain⟨X,j⟩:=ex_ (w.setCell (A_ c 4) (.string T));have o:Aa (λq=>q=c) w X:=(by rw[j];exact(Aa.refl (λq=>q=c) w).setCell (p:=(A_ c 4)) (λ_=>rfl) _);have x:mu X c f n F G N D T 0 0 false:=(by rw[j];exact ht_ 4 _ _ _ h);have C:Dd _ _ 0 n m k _:=⟨A.le,λh0=>Qh (A.lt h0) o.size,λi hi=>by rw[<- A.c0 i hi];simp[World.cell?,o.block f g r],λi hi=>by rw[<- A.c1 i hi];simp[World.cell?,o.block f g r],λi hi=>by rw[<- A.c2 i hi];simp[World.cell?,o.block f g r]⟩;have H:=Qh g o.size
 have V:=x1_ (λW hW=>uq n _ F T G N D _ _ _ W (C.below hW) (Qh H hW.size) hn a3 hk);generalize Jd T n m k (T.size+1) [] 0=R at *;have l:=x2_ j U;have E:=x2_ x o;clear h A C j U x o hk;go_enter Tryz.func125,Tryz.ntmps125;go_upto_region 6 with fail;rw[<- l.2,<- l.1];clear l c4 z t c7 f4;have hc:=E.1.cells.1;refine Al (λw'=>w'.cell? _=some _/\w'.cell? _=some _/\w'.cell? _=some _/\w'.cell? _=some _/\w'.cell? _=some _) 9 k_ hc (λhHeld=>?_);refine Ah 0 ?_;refine Ah 1 ?_;refine Ah 2 ?_;refine Ah 3 ?_;refine Ah 4 ?_;refine Ah 5 ?_;refine Ah 6 ?_;refine Ah 7 ?_;refine Af (i:=8) k_ rfl (λKK hK=>?_);go_simp;refine(V _ bz_.drew).mono ?_;rintro e w2 ⟨tb,vR,L,rfl,a5,hx,_,_,_,M⟩
 have u:Below X.heap.size _ _:=bz_.drew.trans M;have y:mu _ _ _ n _ _ _ _ T 0 0 _:=(u.block _ (Qb E.1).1).trans E.1;have t2:=E.2.below u;have a:=x3_ hx y t2;have Z:=y.cells.1;clear hx y t2 M u E hc;go_simp;refine hK _ _ Z (λhHeld=>?_);clear hK KK;try simp only[Act.put,List.setIfInBounds_toArray,List.set_cons_succ,List.set_cons_zero]
 refine Ai (i:=9) k_ rfl k_ (λKK hK=>?_);go_simp;refine hK _ _ ?_;clear hK KK;try simp only[Act.put,List.setIfInBounds_toArray,List.set_cons_succ,List.set_cons_zero]
 refine Ak k_ ?_ _;obtain⟨_,J,v,_⟩:=a.1.cells;obtain⟨⟨_,_,_,_,c4⟩,z,t,_⟩:=a.2.1.cells;have f5:=fq_ 5 _ _ a.2.1
 by_cases hz:R.2.2=0
 ·have I:Hid (fdA T R=_):=if_neg (λh=>h.1 hz);have a0:(R.2.2 !=0)=false:=(by rw[hz];rfl);rw[hz] at v;go_upto_region 7 with fail;go_quiet (fail);go_upto_region 10 with fail;go_quiet (fail);go_wp2;go_ret2
  rw[I];exact⟨rfl,a.2.1,(a.2.2.drewN _).drewN _⟩
 have a0:=bne_iff_ne.2 hz
 by_cases hlt:R.2.1<T.size
 ·have I:Hid (fdA T R=_):=if_pos ⟨hz,hlt⟩;have g1:decide (((R.2.1:_):_)<(T.size:Int))=_:=decide_eq_true o_
  have B:tb≠_:=λe=>by have x:=a.1;have y:=a.2.1;unfold Fb at x;unfold mu at y;rw[e,y] at x;simp at x
  have a4:_≠_:=λe=>B e.symm;go_upto_region 7 with fail;go_quiet (fail);obtain⟨O,d⟩:=ex_ (w2.drewN nq);have P:mu O c f n F G N D T 0 0 false:=(by rw[d];exact a.2.1);have s:Fb O tb T R.2.1 R.2.2 vR:=(by rw[d];exact a.1.drew _);have t3:Aa (λq=>q=c) w O:=(by rw[d];exact a.2.2.drewN _);rw[<- d];clear J v c4 z t f5 a d;obtain⟨_,J,v,_⟩:=s.cells;obtain⟨_,z,t,_⟩:=P.cells;have f5:=fq_ 5 _ _ P;have Q:=ht_ 5 _ _ (I_ R.2.2) P;have t4:Aa _ _ (O.setCell _ (I_ R.2.2)):=(Aa.refl (λq=>q=c) _).setCell (p:=(A_ c 5)) (λ_=>rfl) _;have x4:=s.touch t4 B;go_upto_region 9 with fail;generalize O.setCell (A_ c 5) (I_ R.2.2)=w4 at *;clear J v z t f5;obtain⟨_,J,v,_⟩:=x4.cells;have t:=cR_ 6 Q
  have f6:=fq_ 6 _ _ Q;have a2:=ht_ 6 _ _ (I_ ((R.2.1:Nat):Int)) Q;have t5:Aa _ _ (w4.setCell _ (I_ ((R.2.1:_):_))):=(Aa.refl (λq=>q=c) _).setCell (p:=(A_ c 6)) (λ_=>rfl) _;go_upto_region 10 with fail;generalize w4.setCell (A_ c 6) (I_ ((R.2.1:Nat):Int))=w5 at *;have Y:mu _ _ _ n _ _ _ _ T _ _ _:=a2;obtain⟨_,z,a6,_⟩:=Y.cells;have HZ:=x2_ Y ((t3.trans t4).trans t5);clear J v t f6 Q a2 t3 t4 t5 s x4 P Y;go_quiet (fail);go_wp2;go_ret2
  rw[I];exact⟨rfl,HZ.1,HZ.2.drewN _⟩
 have I:Hid (fdA T R=_):=if_neg (λh=>hlt h.2);have g1:decide (((R.2.1:_):_)<(T.size:Int))=_:=decide_eq_false o_;go_upto_region 7 with fail;go_quiet (fail);go_upto_region 10 with fail;go_quiet (fail);go_wp2;go_ret2
 rw[I];exact⟨rfl,a.2.1,(a.2.2.drewN _).drewN _⟩
def ZcT S n a b (c:1<=n):fdA S (Jd S n a b (S.size+1) [] 0)=Nr (Ca n a b RS.start (Aq S) 0):=by
 rcases ZbR (S:=S) (a:=a) (b:=b) c with⟨s,h1,_,h3,_,_⟩|⟨s,h1,_,h3,h4⟩|⟨h1,h2,h3⟩
 rw[h1];exact if_neg (λh=>h.1 h3);rw[h1];exact if_neg (λh=>o_);rw[h1];exact if_pos ⟨h2,h3⟩
def loK(n:Int)(k j:Nat):List Int:=Ba n j++List.replicate (k-j) 0
def ZeH n {k j}(h:j<=k):(loK n k j).length=k:=by simp[loK,Gc];omega
def Zj9 n {k j}(h:j<k):(loK n k j).set j (Vx j n%256)=loK n k (j+1):=by unfold loK;rw[List.set_append_right _ _ (by rw[Gc];omega),Gc,Nat.sub_self,show k-j=(k-(j+1))+1 by omega,List.replicate_succ,List.set_cons_zero];simp[Ba]
def Zj8 n k:loK n k k=Ba n k:=by simp[loK]
def Qw(m:Int)(n k:Nat) w (B:k<=8)(y:n<=1000000000000)(s:(0<=m/\m=n)∨(m<0/\m=n-4294967296)):C_ 135 #[.int .i64 m,.int .i64 k] w λe w'=>e=.returned (.string (strOfNums (Ba n k)))/\Below w.heap.size w w':=by
 have z:=Tt k o_;go_enter Tryz.func135,Tryz.ntmps135;go_upto_if 8 with fail
 go_cut [0] (λv wx=>v=.int .i64 (n:Nat)/\wx=w)
 case first=>
  rcases s with⟨a,b⟩|⟨a,b⟩
  ·subst b;have C:¬(n:Int)<0:=o_;go_wp2;go_meet
   grind
  have o:m+4294967296=n:=o_;go_wp2;go_meet
  grind
 case rest=>
 obtain⟨rfl,r⟩:=hcut;obtain rfl:=r.symm;go_upto_region 4 with fail
 have l:Hid (Bj (w.alloc (.cells (madeCells #[.int .u8 0] k) 5)) w.heap.size (L_ w.heap.size k k) (loK n k 0)/\E_ w (w.alloc (.cells (madeCells #[.int .u8 0] k) 5))):=by
  refine⟨?_,bA_⟩
  grind [Tr,loK,Ba]
 generalize w.alloc (.cells (madeCells #[.int .u8 0] k) 5)=w1 at *;go_upto_region 5 with fail;go_loopw [0,6] (λtn ti wr=>∃(j x:Nat),tn=.int .i64 (x:Nat)/\ti=.int .i64 j/\j<=k/\x<=1000000000000/\Hid (Vx j n=(x:Int))/\Hid (Bj wr w.heap.size (.slice (some ⟨w.heap.size,0,none⟩) k k) (loK n k j)/\E_ w wr)) (λ_ ti _=>k-(intOf ti).toNat)
 case atStart=>exact⟨0,n,rfl,rfl,qg_,y,rfl,l⟩
 case round=>
  obtain⟨j,x,rfl,rfl,i,E,g,c⟩:=hrel
  by_cases hjk:j<k
  ·have D:0<=(j:Int):=o_;have o:j<(k:Int):=o_;obtain⟨t,p⟩:=c.1.cellK (k:=j) (ZeH _ i).symm hjk;have A:Hid (Bj (wr.setCell (A_ w.heap.size j) (.int .u8 (x%256))) w.heap.size (L_ w.heap.size k k) (loK n k (j+1))/\E_ w (wr.setCell (A_ w.heap.size j) (.int .u8 (x%256)))):=(by have:=c.1.put (k:=j) (ZeH _ i).symm ((x:Int)%256);rw[<- g,Zj9 _ hjk] at this;rw[<- g];exact⟨this.1,c.2.setCell qa_ _⟩);have f:Hid (Vx (j+1) n=(x/256:Nat)):=by show _=_;unfold Vx;rw[g];omega
   have u1:IntKind.u8.wrap (x%256)=x%256:=(by simp only[IntKind.wrap,IntKind.bits,IntKind.signed];simp);go_upto_region 8 with fail;generalize wr.setCell (A_ w.heap.size j) (.int .u8 ((x:Int)%256))=w2 at *;refine rd_ ?_;exact⟨j+1,x/256,g_,g_,o_,o_,f,A⟩
  have h:j=k:=o_;subst h;have q:¬j<(j:Int):=o_;have d:=Pz _ _ _ _ c.1;rw[Zj8] at d;have u:=x1_ c.2;go_wp2;go_ret;exact⟨rfl,u⟩
def Hm:Value:=.slice none 0 0
structure Ry(w:World)(o:Nat->Nat)(c:Array Value)(i tl tm:Nat)(F:World->Value->Value->Prop)(N)(vn vm)(vs ms):Prop where
 c0:c[i]? =some vn
 c1:c[i+1]? =some vm
 rn:w.ownsRow 0 tl 1 vn vs.length vs
 on:∀k,vn.ownBlock=some k->o k=i
 rm:w.ownsRow 0 tm 1 vm ms.length ms
 om:∀k,vm.ownBlock=some k->o k=i+1
 len:ms.length=vs.length
 few:vs.length<=4*N
 all:∀j,j<vs.length->Ii w o 13 (λW=>F W (vs.getD j Hm) (ms.getD j Hm))
def Grp(w:World)(o:Nat->Nat)(c:Array Value)(i tl tm:Nat)(F:World->Value->Value->Prop)(N:Nat):Prop:=∃vn vm vs ms,Ry w o c i tl tm F N vn vm vs ms
section
variable {w w':World} {o o':Nat->Nat} {c c':Array Value} {i tl tm N:Nat} {F:World->Value->Value->Prop} {vn vm:Value} {vs ms:List Value} {S:Nat->Prop}
def Ry.keep(h:Ry w o c i tl tm F N vn vm vs ms)(t:Aa S w w')(b:∀k,k<w.heap.size->S k->o k≠i/\o k≠i+1/\o k≠13)(d:Dq w o o')(p:i<20)(e0:c'[i]? =c[i]?)(g:c'[i+1]? =c[i+1]?){f}(m:N<=f):Ry w' o' c' i tl tm F f vn vm vs ms:=by
 have a:∀{ty n:Nat} {v:_} {xs:_},w.ownsRow 0 ty 1 v n xs->_:=λhr k hk=>(rl_ hr k hk).2;refine⟨e0.trans h.c0,g.trans h.c1,t.row h.rn (λk hk e=>(b k (a h.rn k hk) e).1 (h.on k hk)),λk hk=>?_,t.row h.rm (λk hk e=>(b k (a h.rm k hk) e).2.1 (h.om k hk)),λk hk=>?_,h.len,by have:=h.few;omega,λj hj=>(h.all j hj).step t (λk hk e=>(b k hk e).2.2) d⟩
 ·have l:=h.on k hk
  rcases d k (a h.rn k hk) with e|e
  omega;omega
 have l:=h.om k hk
 rcases d k (a h.rm k hk) with e|e
 omega;omega
def Grp.keep(h:Grp w o c i tl tm F N)(t:Aa S w w')(g:∀k,k<w.heap.size->S k->o k≠i/\o k≠i+1/\o k≠13)(n:Dq w o o')(m:i<20)(e0:c'[i]? =c[i]?)(b:c'[i+1]? =c[i+1]?){a}(l:N<=a):Grp w' o' c' i tl tm F a:=by obtain⟨d,e,f,j,h⟩:=h;exact⟨d,e,f,j,h.keep t g n m e0 b l⟩
end
def fE(W:World)(x m:Value):Prop:=∃z:Int,m=I_ z/\Ft W z x
def fN(W:World)(x m:Value):Prop:=(∃z:Int,m=I_ z)/\Gi W 3 m x
def fS(W:World)(x m:Value):Prop:=(∃s:ByteArray,m=.string s)/\Gi W 9 m x
def fL(W:World)(x m:Value):Prop:=∃z mb,m=I_ z/\Gi W 25 (L_ mb 1 1) x/\W.heap[mb]? =some (.cells #[m] 3 (0,0))
structure Hx(w)(o:Nat->Nat)(g)(c)(N:Nat):Prop where
 wb:WB w g c
 og:o g=0
 sz:c.size=13
 nx:∃z:Int,c[12]? =some (I_ z)/\0<=z/\z<=N
 es:Grp w o c 4 29 3 fE N
 ns:Grp w o c 6 25 3 fN N
 ss:Grp w o c 8 47 9 fS N
 ls:Grp w o c 10 84 3 fL N
def Hx.keep{w d o f g N c S}(h:Hx w o g c N)(t:Aa S w d)(i:∀k,k<w.heap.size->S k->13<o k)(a:Dq w o f):Hx d f g c N:=by
 have b:=h.wb.lt;refine⟨t.at_ h.wb (λe=>by have:=i g b e;have:=h.og;omega),?_,h.sz,h.nx,?_,?_,?_,?_⟩
 ·have:=h.og
  rcases a g b with e|e
  omega;omega
 exact h.es.keep t (λk hk e=>w_) a d_ rfl rfl qa_;exact h.ns.keep t (λk hk e=>w_) a d_ rfl rfl qa_;exact h.ss.keep t (λk hk e=>w_) a d_ rfl rfl qa_;exact h.ls.keep t (λk hk e=>w_) a d_ rfl rfl qa_
def Lo(w:World)(o:Nat->Nat)(E:Nat->Prop)[DecidablePred E](i:Nat)(vn vm:Value)(k:Nat):Nat:=
 if k<w.heap.size/\o k≠99 then o k else if E k then 13 else if vn.ownBlock=some k then i else if vm.ownBlock=some k then i+1 else 99
def Ni w o E [DecidablePred E] i vn vm:Dq w o (Lo w o E i vn vm):=λk hk=>by
 by_cases e:o k=99
 exact .inl e;right;unfold Lo
 grind
def Rt{w o E}[DecidablePred E]{i a b k}(d:E k)(c:k<w.heap.size->o k=99):Lo w o E i a b k=13:=by
 unfold Lo
 grind
def Ry.grow{w z o c g i H s r N F u q v C B b d l p a A E}[DecidablePred E](h:Ry w o c i s r F N C B l p)(m:oq w z g i c H s r u q v C B l p A b d a)(O:i=6∨i=8∨i=10)(P:o g=0)(S:∀k,v.ownBlock=some k->o k=99)(M:c.size=13)(G:s≠r)(L:∀k,E k->b.ownBlock≠some k)(y:∀k,E k->d.ownBlock≠some k)(I:∀x∈a,Ii z (Lo w o E i b d) 13 (λW=>F W x q)):Ry z (Lo w o E i b d) (((c.setIfInBounds 12 (I_ A)).setIfInBounds i b).setIfInBounds (i+1) d) i s r F (N+1) b d (l++a) (p++List.replicate 4 q):=by
 have f:=m.len;have J:=Ni w o E i b d;refine⟨?_,?_,?_,λk hk=>?_,?_,λk hk=>?_,?_,?_,λj hj=>?_⟩
 ·grind
 ·grind
 rw[Qe,f];exact m.rn
 ·unfold Lo
  rcases m.nn k hk with e|e
  rw[if_pos ⟨(rl_ h.rn k e).2,by have:=h.on k e;omega⟩];exact h.on k e
  grind
 rw[Qe,List.length_replicate];exact m.rm
 ·unfold Lo
  rcases m.nm k hk with e|e
  rw[if_pos ⟨(rl_ h.rm k e).2,by have:=h.om k e;omega⟩];exact h.om k e;rw[if_neg o_,if_neg (λn=>y k n hk),if_neg (λn=>?_),if_pos hk];obtain⟨R,T⟩:=Ad m.rn n;obtain⟨Q,U⟩:=Ad m.rm hk
  grind
 simp[h.len,f]
 ·have:=h.few
  grind
 rw[Qe,f] at hj
 by_cases hjl:j<l.length
 ·have t:(l++a).getD j Hm=l.getD j Hm:=w_;have n:(p++List.replicate 4 q).getD j Hm=p.getD j Hm:=(by simp[List.getD,List.getElem?_append_left (show j<p.length by rw[h.len];exact hjl)]);rw[t,n];refine(h.all j hjl).step m.tch (λk hk e=>?_) J
  rcases e with e|e|e|e
  subst e;omega
  ·grind
  have:=h.on k e;omega;have:=h.om k e;omega
 have D:j-l.length<a.length:=o_;have t:(l++a).getD j Hm=a[j-l.length]:=w_;have n:(p++List.replicate 4 q).getD j Hm=q:=(by rw[List.getD,List.getElem?_append_right (by rw[h.len];omega),List.getElem?_replicate,if_pos (by rw[h.len];omega)];rfl);rw[t,n];exact I _ (Qf _)
def Grp.other{w z o c g i j D q p l d N F t u C v x r a b y s f n E}[DecidablePred E](h:Grp w o c j l d t N)(m:Ry w o c i q p F N x r y s)(B:oq w z g i c D q p u C v x r y s n a b f)(H:o g=0)(L:∀k,v.ownBlock=some k->o k=99)(G:i<=10)(J:j<=10)(I:4<=j)(A:j+1<i∨i+1<j):Grp z (Lo w o E i a b) (((c.setIfInBounds 12 (I_ n)).setIfInBounds i a).setIfInBounds (i+1) b) j l d t (N+1):=by
 refine h.keep B.tch (λk hk e=>?_) (Ni w o E i _ _) o_ ?_ ?_ (Nat.le_succ _)
 ·rcases e with e|e|e|e
  subst e;omega
  ·grind
  have:=m.on k e;omega;have:=m.om k e;omega
 rw[Array.getElem?_setIfInBounds_ne o_,Array.getElem?_setIfInBounds_ne o_,Array.getElem?_setIfInBounds_ne o_];rw[Array.getElem?_setIfInBounds_ne o_,Array.getElem?_setIfInBounds_ne o_,Array.getElem?_setIfInBounds_ne o_]
def zu(c:Array Value) i (b:i<=10) x y z (a:c.size=13):(((c.setIfInBounds 12 x).setIfInBounds i y).setIfInBounds (i+1) z)[12]? =some x/\(((c.setIfInBounds 12 x).setIfInBounds i y).setIfInBounds (i+1) z).size=13:=by refine⟨?_,by simp[a]⟩;rw[Array.getElem?_setIfInBounds_ne o_,Array.getElem?_setIfInBounds_ne o_,Array.getElem?_setIfInBounds_self_of_lt o_]
abbrev Vl(news:List Value)(k:Nat):Prop:=∃x∈news,x.ownBlock=some k
def Zci(w w':World)(o:Nat->Nat)(g:Nat)(N:Nat)(v:Value)(c:Array Value):Prop:=∃o' c',Hx w' o' g c' (N+1)/\Dq w o o'/\Aa (λk=>o k<=13∨v.ownBlock=some k) w w'/\(∀j,j<4->c'[j]? =c[j]?)/\(∀k,w.heap.size<=k->o' k<=13∨o' k=99)/\(∀k,k<w.heap.size->o k=99->v.ownBlock≠some k->o' k=99)/\∀k,k<w.heap.size->o k=99->o' k<=13∨o' k=99
def jl{w w' o g i ty tl tm N c F u mk v vn vm vn' vm' vs ms news nx}(hg:Ry w o c i tl tm F N vn vm vs ms)(hp:oq w w' g i c ty tl tm u mk v vn vm vs ms nx vn' vm' news)(og:o g=0)(hi:i<=10):Aa (λk=>o k<=13∨v.ownBlock=some k) w w':=
 hp.tch.mono (λk _ e=>by
  rcases e with e|e|e|e
  ·grind
  exact .inr e;have:=hg.on k e;omega
  have:=hg.om k e;omega)
theorem jj w o E [DecidablePred E] i vn vm (hi:i<=10):∀k,w.heap.size<=k->Lo w o E i vn vm k<=13∨Lo w o E i vn vm k=99:=λk hk=>by grind [Lo]
def ud{w B o g i A s r N c F u t v p l b d q m f y}(n:Ry w o c i s r F N p l q m)(j:oq w B g i c A s r u t v p l q m y b d f)(D:i<=10){E}[DecidablePred E](C:∀k,E k->k<w.heap.size->v.ownBlock=some k:=by exact λk hk hl=>by obtain⟨x,z,h⟩:=hk;rcases(j.all x z).2 k h with e|e;exact e;omega):∀k,k<w.heap.size->o k=99->v.ownBlock≠some k->Lo w o E i b d k=99:=λk hk h9 hv=>by
 unfold Lo;rw[if_neg (λe=>e.2 h9),if_neg (λe=>hv (C k e hk)),if_neg (λe=>?_),if_neg (λe=>?_)]
 ·rcases j.nm k e with a|a
  have:=n.om k a;omega;omega
 rcases j.nn k e with a|a
 have:=n.on k a;omega;omega
theorem zg w o E [DecidablePred E] i vn vm (hi:i<=10):∀k,k<w.heap.size->o k=99->Lo w o E i vn vm k<=13∨Lo w o E i vn vm k=99:=λk _ h9=>by grind [Lo]
def ki(c:Array Value) i (hi:4<=i) x y z:∀j,j<4->(((c.setIfInBounds 12 x).setIfInBounds i y).setIfInBounds (i+1) z)[j]? =c[j]?:=λj hj=>w_
def Hx.ownN{w o g N c v L}(h:Hx w o g c N)(B:Ag w 0 v L)(m:∀k,v.ownBlock=some k->o k=99)(u:L.length<=4194304)(G:N<=20000000):C_ 142 #[.pointer (some ⟨g,4,none⟩),v] w λe w'=>e=.returned (.tuple #[])/\Zci w w' o g N v c:=by
 obtain⟨E,A,F,C,a⟩:=h.ns;obtain⟨p,b,n,y⟩:=h.nx;have D:=a.few;have z:=a.len;refine(ji g c v _ _ L _ _ p w h.wb a.c0 a.c1 b B a.rn a.rm ?_ u o_ o_ ⟨n,o_⟩).mono ?_
 ·cases e:A.ownBlock with
  |none=>exact .inl rfl
  |some k=>exact .inr (λe2=>by have:=a.om k e;grind)
 rintro e w' ⟨rfl,j,l,i,d⟩
 have t:∀k,Vl i k->k<w.heap.size->o k=99:=λk hk u=>by
  obtain⟨x,b,f⟩:=hk
  rcases(d.all x b).2 k f with e|e
  exact m k e;omega
 have O:=Ni w o (Vl i) 6 j l;have r:=h.wb.lt;obtain⟨q,s⟩:=zu c 6 d_ (I_ (p+1)) j l h.sz;refine⟨rfl,Lo w o _ 6 _ _,_,⟨d.wb,?_,s,⟨p+1,q,o_,o_⟩,h.es.other a d h.og m d_ d_ d_ d_,⟨j,l,_,_,a.grow d d_ h.og m h.sz d_ (λk hk=>by obtain⟨x,b,f⟩:=hk;exact d.an x b k f) (λk hk=>by obtain⟨x,b,f⟩:=hk;exact d.am x b k f) (λx b=>?_)⟩,h.ss.other a d h.og m d_ d_ d_ d_,h.ls.other a d h.og m d_ d_ d_ d_⟩,O,jl a d h.og d_,ki c 6 d_ _ _ _,jj _ _ _ _ _ _ d_,ud a d d_,zg _ _ _ _ _ _ d_⟩
 ·rcases O g r with e|e
  have:=h.og;omega;exact e.trans h.og
 refine(Ii.all (d.all x b).1 (λk hk=>Rt ⟨x,b,hk⟩ (t k ⟨x,b,hk⟩))).mono (λW hW=>⟨⟨_,rfl⟩,hW⟩)
def Hx.ownT{w o g N c v L}(h:Hx w o g c N)(B:Cc w 0 v L)(m:∀k,v.ownBlock=some k->o k=99)(u:L.length<=4194304)(G:N<=20000000):C_ 143 #[.pointer (some ⟨g,4,none⟩),v] w λe w'=>e=.returned (.tuple #[])/\Zci w w' o g N v c:=by
 obtain⟨E,A,F,C,a⟩:=h.ss;obtain⟨p,b,n,y⟩:=h.nx;have D:=a.few;have z:=a.len;refine(zh g c v _ _ L _ _ p w h.wb a.c0 a.c1 b B a.rn a.rm ?_ u o_ o_ ⟨n,o_⟩).mono ?_
 ·cases e:A.ownBlock with
  |none=>exact .inl rfl
  |some k=>exact .inr (λe2=>by have:=a.om k e;grind)
 rintro e w' ⟨rfl,j,l,i,d⟩
 have t:∀k,Vl i k->k<w.heap.size->o k=99:=λk hk u=>by
  obtain⟨x,b,f⟩:=hk
  rcases(d.all x b).2 k f with e|e
  exact m k e;omega
 have O:=Ni w o (Vl i) 8 j l;have r:=h.wb.lt;obtain⟨q,s⟩:=zu c 8 d_ (I_ (p+1)) j l h.sz;refine⟨rfl,Lo w o _ 8 _ _,_,⟨d.wb,?_,s,⟨p+1,q,o_,o_⟩,h.es.other a d h.og m d_ d_ d_ d_,h.ns.other a d h.og m d_ d_ d_ d_,⟨j,l,_,_,a.grow d d_ h.og m h.sz d_ (λk hk=>by obtain⟨x,b,f⟩:=hk;exact d.an x b k f) (λk hk=>by obtain⟨x,b,f⟩:=hk;exact d.am x b k f) (λx b=>?_)⟩,h.ls.other a d h.og m d_ d_ d_ d_⟩,O,jl a d h.og d_,ki c 8 d_ _ _ _,jj _ _ _ _ _ _ d_,ud a d d_,zg _ _ _ _ _ _ d_⟩
 ·rcases O g r with e|e
  have:=h.og;omega;exact e.trans h.og
 refine(Ii.all (d.all x b).1 (λk hk=>Rt ⟨x,b,hk⟩ (t k ⟨x,b,hk⟩))).mono (λW hW=>⟨⟨_,rfl⟩,hW⟩)
def Zj4:(Tryz.prog.info? 84).map (λi=>(i.zero,i.size,i.bytes))=some (some (.slice none 0 0),1,24):=k_
def Lr(w w':World)(o:Nat->Nat)(g N:Nat)(c:Array Value):Prop:=∃o' c',Hx w' o' g c' N/\Dq w o o'/\Aa (λk=>o k<=13∨o k=99) w w'/\(∀j,j<4->c'[j]? =c[j]?)/\(∀k,w.heap.size<=k->o' k<=13∨o' k=99)/\∀k,k<w.heap.size->o k=99->o' k<=13∨o' k=99
structure ZgL(w wr)(o oi)(g N i)(c ci:Array Value)(v)(vals)(Ls:Nat->List Int):Prop where
 bk:Hx wr oi g ci (N+i)
 sm:Dq w o oi
 tc:Aa (λk=>o k<=13∨o k=99) w wr
 cc:∀j,j<4->ci[j]? =c[j]?
 nw:∀k,w.heap.size<=k->oi k<=13∨oi k=99
 ro:wr.ownsRow 0 25 1 v vals.length vals
 ov:∀k,v.ownBlock=some k->oi k=99
 ls:∀j,i<=j->j<vals.length->Ag wr 0 (vals.getD j Hm) (Ls j)/\∀k,(vals.getD j Hm).ownBlock=some k->oi k=99
 lo:∀j,j<vals.length->∀k,(vals.getD j Hm).ownBlock=some k->k<w.heap.size
 n9:∀k,k<w.heap.size->o k=99->oi k<=13∨oi k=99
def ZgL.next{w wr r o s g N i c x v a t}(h:ZgL w wr o s g N i c x v a t)(z:i<a.length)(p:∀i j,i<j->j<a.length->∀k,(a.getD i Hm).ownBlock=some k->(a.getD j Hm).ownBlock≠some k)(q:Zci wr r s g (N+i) (a.getD i Hm) x):∃o2 c2,ZgL w r o o2 g N (i+1) c c2 v a t:=by
 obtain⟨o2,c2,y,m,n,B,C,u,F⟩:=q;have A:=h.tc.size;have d:=(h.ls i qa_ z)
 have l:∀k,v.ownBlock=some k->(a.getD i Hm).ownBlock≠some k:=λk hk e=>by
  obtain⟨E,G⟩:=Ad h.ro hk;obtain⟨D,H⟩:=Ad d.1 e
  grind
 refine⟨o2,c2,y,h.sm.trans A m,h.tc.trans2 n (λk hk=>?_),λj hj=>(B j hj).trans (h.cc j hj),λk hk=>?_,n.row h.ro (λk hk e=>?_),λk hk=>?_,λj hj hjl=>⟨n.row (h.ls j o_ hjl).1 (λk hk e=>?_),λk hk=>?_⟩,h.lo,λk hk h9=>?_⟩
 ·by_cases hl:k<w.heap.size
  ·left
   rcases hk with e|e
   ·rcases h.sm k hl with b|b
    exact .inr b;omega
   have:=d.2 k e
   rcases h.sm k hl with b|b
   exact .inr b;omega
  omega
 ·by_cases hl:k<wr.heap.size
  ·rcases m k hl with e|e
   ·grind
   rw[e];exact h.nw k hk
  grind
 ·rcases e with e|e
  have:=h.ov k hk;omega
  grind
 exact u k (rl_ h.ro k hk).2 (h.ov k hk) (l k hk)
 ·rcases e with e|e
  have:=(h.ls j o_ hjl).2 k hk;omega
  grind
 exact u k (rl_ (h.ls j o_ hjl).1 k hk).2 ((h.ls j o_ hjl).2 k hk) (λe=>p i j o_ hjl k e hk);have f:k<wr.heap.size:=o_
 rcases h.n9 k hk h9 with e|e
 ·rcases m k f with b|b
  omega;omega
 grind
def Hx.ownL{w o g N c v b}{Ls:Nat->List Int}(h:Hx w o g c N)(hr:w.ownsRow 0 25 1 v b.length b)(C:∀k,v.ownBlock=some k->o k=99)(aX:∀j,j<b.length->Ag w 0 (b.getD j Hm) (Ls j)/\∀k,(b.getD j Hm).ownBlock=some k->o k=99)(bU:∀j,(Ls j).length<=4194304)(bY:∀i j,i<j->j<b.length->∀k,(b.getD i Hm).ownBlock=some k->(b.getD j Hm).ownBlock≠some k)(hn:b.length<=1000)(hN:N<=10000000)(bF:∀k,w.heap.size<=k->o k=99):C_ 144 #[.pointer (some ⟨g,4,none⟩),v] w λe w'=>e=.returned (.tuple #[])/\Lr w w' o g (N+b.length+1) c:=by
 obtain⟨i0,c8,dG,d8,dQ⟩:=info_parts Ss;obtain⟨j0,a2,b3,aP,aM⟩:=info_parts Zey;obtain⟨l0,bL,cI,dF,d9⟩:=info_parts Zj4;have dM:Hid (ZgL w w o o g N 0 c c v _ _):=⟨h,Dq.refl _ _,Aa.refl _ _,λ_ _=>rfl,λk hk=>.inr (bF k hk),hr,C,λj _ hj=>aX j hj,λj hj k hk=>(rl_ (aX j hj).1 k hk).2,λk _ h9=>.inr h9⟩;have cV:=x1_ bY;have cZ:=x1_ bU;obtain⟨n,aO⟩:=ex_ b.length;have M:=x1_ aO
 obtain⟨a,D,rfl⟩:∃a D,v=.slice a n D:=by
  rcases hr.2 with⟨rfl,h0⟩|⟨q,cap,cur,rfl,_⟩
  ·grind
  grind
 rw[<- aO] at hn ⊢;clear h hr C aX bU bY bF aO;go_enter Tryz.func144,Tryz.ntmps144;go_upto_region 1 with fail;go_loopw [4] (λti wr=>∃(i:Nat) (oi:Nat->Nat) (ci:Array Value),i<=n/\ti=.int .i64 i/\Hid (ZgL w wr o oi g N i c ci (.slice a n D) b Ls)) (λti _=>n-(intOf ti).toNat)
 case atStart=>grind
 case round=>
  clear dM;obtain⟨i,oi,ci,hi,rfl,d⟩:=hrel
  by_cases hin:i<n
  ·have g0:0<=(i:Int):=o_;have g1:i<(n:Int):=o_;have aG:i<b.length:=by rw[<- M];exact hin
   obtain⟨q,rfl⟩:∃q,a=some ⟨q,0,none⟩:=by
    rcases d.out.ro.2 with⟨_,h0⟩|⟨gl,cap,cur,e,_⟩
    omega
    grind
   have cv:wr.cell? (A_ q i)=some (b.getD i Hm):=by
    have cJ:=d.ro;rw[<- M] at cJ
    grind [World.ownsRow.cellAt]
   have HC:=d.bk.ownN (d.ls i qa_ aG).1 (d.ls i qa_ aG).2 (cZ i) o_;have aS:Hid (∀w2,Zci _ w2 _ g _ _ _->_):=λw2 hq=>d.next aG cV hq
   obtain⟨ax,I,cx,bM⟩:∃ax I cx,b.getD i Hm=.slice ax I cx:=by
    obtain⟨ax,cx,e⟩:=(d.ls i qa_ aG).1.shape
    grind
   rw[bM] at cv HC aS;clear bM d;go_wp2_with fail
   refine HC.mono ?_;rintro e w2 ⟨rfl,hq⟩;obtain⟨o2,c2,b6⟩:=aS w2 hq;have f7:=x1_ b6;clear hq b6 HC aS cv;go_wp2;go_roundw;case rel=>grind
   case measure=>exact z_
  have b7:i=n:=o_;subst b7;have fB:¬i<(i:Int):=o_;generalize wr=wA at *;obtain⟨vn,vm,S,ms,J⟩:=d.bk.ls;obtain⟨I,f,f9,dZ⟩:=d.bk.nx;have dS:=J.few;have f8:ms.length<=400000000:=(by rw[J.len];omega);have A:=d.bk.wb;have d5:=A.lt;obtain⟨z,hz⟩:=ex_ (-(I+1));have q1:IntKind.i64.wrap (-(I+1))=z:=(by rw[Cb o_ o_,hz]);have q2:=hz.symm;have f6: -1000000000000<=z:=o_;obtain⟨c1,Y⟩:=ex_ (ci.setIfInBounds 12 (I_ (I+1)));have cG:=x1_ Y;have a8:Hid (c1[10]? =some _/\c1[11]? =some _):=⟨by rw[Y,Array.getElem?_setIfInBounds_ne d_];exact J.c0,by rw[Y,Array.getElem?_setIfInBounds_ne d_];exact J.c1⟩;have cD:wA.cell? (A_ g 12)=some (I_ I):=(by rw[A.cell];exact f);have cR:=λo=>A.frozen o
  have cO:(wA.setCell (A_ g 12) (I_ (I+1))).cell? (A_ g 12)=some (I_ (I+1)):=by
   rw[(A.set 12 (I_ (I+1))).cell]
   grind
  obtain⟨y,U⟩:=ex_ ((wA.setCell (A_ g 12) (I_ (I+1))).alloc (.cells #[I_ z] 3));have bA:(wA.setCell (A_ g 12) (I_ (I+1))).heap.size=wA.heap.size:=(by simp[World.setCell]);have H:Aa (λk=>k=g) wA y:=(by rw[U];exact((Aa.refl (λk=>k=g) _).setCell (p:=(A_ g 12)) (λ_=>rfl) _).alloc _);have bC:WB y g c1:=by rw[U,Y];exact(A.set _ _).alloc _
  have dK:y.heap[wA.heap.size]? =some (.cells #[I_ z] 3 (0,0)):=by rw[U,<- bA];exact hn_
  have cN:y.heap.size=wA.heap.size+1:=(by rw[U];simp[World.setCell]);have aE:∀{base ty n:Nat} {u:_} {xs:_},_->ty≠90->y.ownsRow base ty 1 u n xs:=λhr hne=>H.row hr (λk hk e=>by subst e;exact A.apart hr hne hk.symm);have bB:=aE d.ro d_;have bX:=aE J.rn d_;have b8:=aE J.rm d_;have F:=x3_ (A.apart d.ro d_) (A.apart J.rn d_) (A.apart J.rm d_);have aK:=x1_ (An d.ro J.rn d_);have aI:=x1_ (An d.ro J.rm d_);have bK:=x1_ (An J.rn J.rm d_);have bE:Hid (y.ownsRow 0 84 1 _ _ _):=bX;have bV:Hid (y.ownsRow 0 3 1 _ _ _):=b8;obtain⟨l,aU⟩:=ex_ wA.heap.size;have dJ:Hid (y.heap[l]? =some (.cells #[I_ z] 3 (0,0))):=w_
  have a6:Hid (¬(l=g∨(Value.slice a i D).ownBlock=some l∨vn.ownBlock=some l∨vm.ownBlock=some l)):=λe=>by
   rcases e with e|e|e|e
   omega;have:=(rl_ d.ro _ e).2;omega;have:=(rl_ J.rn _ e).2;omega;have:=(rl_ J.rm _ e).2;omega
  have bQ:Hid (∀w' r t news,oq y w' g 10 ci 25 84 3 (L_ l 1 1) (I_ z) (.slice a i D) vn vm S ms (I+1) r t news->w'.heap[l]? =some (.cells #[I_ z] 3 (0,0))->Lr w w' o g (N+i+1) c):=λw' r t news hp hm=>by
   have V:Dq wA oi (λk=>if k<wA.heap.size then oi k else 99):=λk hk=>.inr (by simp[hk])
   have cB:∀k,k<wA.heap.size->(λk=>if k<wA.heap.size then oi k else 99) k=oi k:=λk hk=>by simp[hk]
   have cM:(λk=>if k<wA.heap.size then oi k else 99) l=99:=(by simp[aU]);obtain⟨oB,c6⟩:∃oB:Nat->Nat,oB=λk=>if k<wA.heap.size then oi k else 99:=⟨_,rfl⟩;rw[<- c6] at V cB cM
   have c9:∀k,wA.heap.size<=k->oB k=99:=λk hk=>w_
   clear c6;have dP:=d.bk.og
   have aF:∀j,j<=10->4<=j->∀k,k<wA.heap.size->k=g->oi k≠j/\oi k≠j+1/\oi k≠13:=λj h1 h2 k _ e=>by subst e;omega
   have Z:=J.keep H (aF _ d_ d_) V d_ rfl rfl qa_;have cH:=d.bk.es.keep H (aF 4 d_ d_) V d_ rfl rfl qa_;have cC:=d.bk.ns.keep H (aF 6 d_ d_) V d_ rfl rfl qa_;have bT:=d.bk.ss.keep H (aF 8 d_ d_) V d_ rfl rfl qa_;have G:=(cB g d5).trans dP;have C:=λk hk=>(cB k (rl_ d.ro k hk).2).trans (d.ov k hk)
   have aH:∀k,(Vl news k∨k=l)->k<y.heap.size->oB k=99:=λk hk hl=>by
    rcases hk with⟨x,f,hxk⟩|e
    ·rcases(hp.all x f).2 k hxk with e|e
     exact C k e;omega
    grind
   have dI:∀k,(Vl news k∨k=l)->r.ownBlock≠some k:=λk hk e=>by
    rcases hk with⟨x,f,hxk⟩|T
    exact hp.an x f k hxk e;subst T
    rcases hp.nn _ e with e3|e3
    exact a6 (.inr (.inr (.inl e3)));omega
   have dB:∀k,(Vl news k∨k=l)->t.ownBlock≠some k:=λk hk e=>by
    rcases hk with⟨x,f,hxk⟩|T
    exact hp.am x f k hxk e;subst T
    rcases hp.nm _ e with e3|e3
    exact a6 (.inr (.inr (.inr e3)));omega
   obtain⟨cX,cS⟩:=zu ci 10 d_ (I_ (I+1)) r t d.bk.sz;have O:=Ni y oB (λk=>Vl news k∨k=l) 10 r t;have bG:g<y.heap.size:=o_
   have hF:∀x∈_,Ii w' (Lo y oB (λk=>Vl _ k∨k=l) 10 r t) _ (λW=>fL W x _):=λx f=>
    ((Ii.all (hp.all x f).1 (λk hk=>Rt (.inl ⟨x,f,hk⟩) (aH k (.inl ⟨x,f,hk⟩)))).and (Ii.block hm (Rt (.inr rfl) (aH _ (.inr rfl))))).mono (λW hW=>⟨z,l,rfl,hW.1,hW.2⟩)
   refine⟨Lo y oB _ 10 r t,_,⟨hp.wb,?_,cS,⟨I+1,cX,o_,o_⟩,cH.other Z hp G C d_ d_ d_ d_,cC.other Z hp G C d_ d_ d_ d_,bT.other Z hp G C d_ d_ d_ d_,⟨r,t,_,_,Z.grow hp d_ G C d.bk.sz d_ dI dB hF⟩⟩,?_,?_,λj hj=>(ki ci 10 d_ _ _ _ j hj).trans (d.cc j hj),λk hk=>?_,λk hk h9=>?_⟩
   ·rcases O g bG with e|e
    omega;omega
   exact(d.sm.trans d.tc.size V).trans (Nat.le_trans d.tc.size H.size) O
   ·refine(d.tc.trans2 H (λk hk=>?_)).trans2 (jl Z hp G d_) (λk hk=>?_)
    ·subst hk
     by_cases hl:k<w.heap.size
     ·left
      rcases d.out.sm k hl with T|T
      exact .inr T;omega
     omega
    by_cases hl:k<w.heap.size
    ·left;have X:=Qh hl d.tc.size;have cE:=cB k X
     rcases hk with e|e
     ·rcases d.out.sm k hl with T|T
      exact .inr T;omega
     have:=C k e
     rcases d.out.sm k hl with T|T
     exact .inr T;omega
    omega
   ·by_cases hl:k<y.heap.size
    ·by_cases h99:oB k=99
     unfold Lo;rw[if_neg (λe=>e.2 h99)];split;omega;split;omega;split;omega;exact .inr rfl
     rcases O k hl with e|e
     exact absurd e h99;rw[e]
     by_cases X:k<wA.heap.size
     rw[cB k X];exact d.nw k hk
     grind
    grind [jj]
   have X:=Qh hk d.tc.size;have cE:=cB k X
   rcases d.out.n9 k hk h9 with e|e
   ·rcases O k o_ with T|T
    omega;omega
   grind [zg]
  have cT:Hid (y.ownsRow 0 25 1 (.slice a i D) i (Mm b (L_ l 1 1:Value) 0)):=(by rw[Wv];have:=bB;rw[<- M] at this;exact this);have cY:Hid (Aa (λk=>k=g∨(Value.slice a i D).ownBlock=some k) y _):=Aa.refl _ _;have aA:=x1_ bC;clear J d bB bX b8 dK bC aE H A Y hz;go_upto_region 7 with fail;rw[<- U,<- aU];clear aU cN bA;clear cO cD cR U;go_loopw [6] (λti wr=>∃k:Nat,k<=i/\ti=.int .i64 k/\Hid (wr.ownsRow 0 25 1 (.slice a i D) i (Mm b (.slice (some ⟨l,0,none⟩) 1 1:Value) k))/\Hid (Aa (λk=>k=g∨(Value.slice a i D).ownBlock=some k) y wr)/\Hid (WB wr g c1)) (λti _=>i-(intOf ti).toNat)
  case atStart=>grind
  case round=>
   clear cT cY aA;obtain⟨k,dD,rfl,HR,HT,HW⟩:=hrel
   by_cases hk:k<i
   ·have dX:0<=(k:Int):=o_;have fA:k<(i:Int):=o_
    obtain⟨gl,rfl⟩:∃gl,a=some ⟨gl,0,none⟩:=by
     rcases HR.out.2 with⟨_,h0⟩|⟨gl,cap,cur,e,_⟩
     omega
     grind
    have bS:=gu _ (L_ l 1 1:Value) (k:=k) (by rw[<- M];exact dD);have cc:∃u,wr.cell? (A_ gl k)=some u:=(by rw[World.ownsRow.cellAt HR k o_];exact⟨_,Qd (by rw[bS,<- M];exact hk)⟩);obtain⟨u0,c0⟩:=cc;have cf:=World.ownsRow.frozenAt HR k;have dY:Hid ((wr.setCell (A_ gl k) (L_ l 1 1:Value)).ownsRow 0 25 1 (L_ gl i D) i (Mm b (L_ l 1 1:Value) (k+1))):=by rw[<- gv _ _ (by rw[<- M];exact hk)];exact(World.ownsRow.stored HR k _).1
    have dV:Hid (Aa _ _ (wr.setCell _ (L_ l 1 1:_))):=HT.setCell (p:=(A_ gl k)) (λ_=>.inr rfl) _;have aV:Hid (WB (wr.setCell _ (L_ l 1 1:_)) g _):=HW.other (p:=(A_ gl k)) (λe=>F.1 (by rw[e];rfl)) _;clear HR HT HW bS;go_wp2;go_roundw;case rel=>grind
    case measure=>exact z_
   have cU:k=i:=o_;subst cU;have dU:¬k<(k:Int):=o_
   have aY:Hid (Jh y wr 25 (L_ l 1 1:Value) (.slice a k D) k 0 [.slice a k D] (λk'=>k'=g∨(Value.slice a k D).ownBlock=some k')):=by
    have:=HR.out
    rw[show Mm b (L_ l 1 1:Value) k=List.replicate k (L_ l 1 1:Value) by
     have:=Wu b (L_ l 1 1:Value);rw[<- M] at this
     exact this] at this
    exact .start this m_ HT
   have a4:Hid (wr.ownsRow 0 25 1 _ k _):=aY.row;have bI:=HW;clear HR HT HW;go_wp2_with (at_builtin;refine Ab rfl (.tmp 45) (.tmp 47) 84 rfl 0 25 j0 (.slice none 0 0) 1 24 Tryz.underlying84 a2 b3 aP aM rfl d_ (.slice a k D) k _ rfl (ra_ a4 _) (A_ wr.heap.size 0) 1 1 [L_ l 1 1] rfl rfl (Am wr _ 25) (by intro u Q;simp only[List.mem_cons,List.not_mem_nil,or_false] at Q;rcases Q with rfl;rfl) d_ m_ o_ qg_ ?_)
   intro y1 w1 E;have aZ:Hid (Jh _ _ _ _ _ k 1 [_,_] _):=aY.more (m:=1) _ o_ E (λk' hk'=>.inr hk') m_;have aA:=x1_ ((bI.alloc _).grown E.2.1 F.1);obtain⟨bO,p1,cW⟩:=E.2.2.2.2;subst cW;have a7:Hid (w1.ownsRow 0 25 1 _ k _):=aZ.row;clear E aY bI a4;go_wp2_with (at_builtin;refine Ab rfl (.tmp 49) (.tmp 52) 84 rfl 0 25 j0 (.slice none 0 0) 1 24 Tryz.underlying84 a2 b3 aP aM rfl d_ (.slice a k D) k _ rfl (ra_ a7 _) (A_ w1.heap.size 0) 2 2 [L_ l 1 1,L_ l 1 1] rfl rfl (Am w1 _ 25) (by intro u Q;simp only[List.mem_cons,List.not_mem_nil,or_false] at Q;rcases Q with rfl|rfl<;>rfl) d_ m_ o_ qg_ ?_)
   intro y2 w2 E;have aT:Hid (Jh y w2 _ _ _ k 2 [_,_,y2] _):=aZ.more (m:=2) _ o_ E (λk' hk'=>.inr hk') m_;have aV:=x1_ ((aA.alloc _).grown E.2.1 F.1);obtain⟨c4,p2,dH⟩:=E.2.2.2.2;subst dH;have a0:Hid (w2.ownsRow 0 25 1 _ k _):=aT.row;clear E aZ aA a7;go_wp2_with (at_builtin;refine Ab rfl (.tmp 54) (.tmp 58) 84 rfl 0 25 j0 (.slice none 0 0) 1 24 Tryz.underlying84 a2 b3 aP aM rfl d_ (.slice a k D) k _ rfl (ra_ a0 _) (A_ w2.heap.size 0) 3 3 [L_ l 1 1,L_ l 1 1,L_ l 1 1] rfl rfl (Am w2 _ 25) (by intro u Q;simp only[List.mem_cons,List.not_mem_nil,or_false] at Q;rcases Q with rfl|rfl|rfl<;>rfl) d_ m_ o_ qg_ ?_)
   intro y3 w3 E;have s:Hid (Jh y w3 25 _ _ k 3 [_,_,_,y3] _):=aT.more (m:=3) _ o_ E (λk' hk'=>.inr hk') m_;have aC:=x1_ ((aV.alloc _).grown E.2.1 F.1);obtain⟨bN,p3,dE⟩:=E.2.2.2.2;subst dE;clear E aT aV a0
   have aR:=x1_ (s.tch.row bE (λk' hk' e=>by
    rcases e with e|e
    subst e;exact F.2.1 hk'.symm
    rcases aK.out with h|h
    ·grind
    grind))
   have cA:=x1_ (s.tch.row bV (λk' hk' e=>by
    rcases e with e|e
    subst e;exact F.2.2 hk'.symm
    rcases aI.out with h|h
    ·grind
    grind))
   have d6:w3.cell? (A_ g 10)=some vn:=(by rw[aC.cell];exact a8.1);have df:=λo=>aC.frozen o;generalize hnews:[(.slice a k D:Value),L_ bO (k+1) p1,L_ c4 (k+2) p2,L_ bN (k+3) p3]=news at s;have c5:=x1_ hnews.symm;clear hnews;go_wp2_with (at_builtin;refine Ab rfl (.tmp 64) (.tmp 69) 86 rfl 0 84 l0 (.slice none 0 0) 1 24 Tryz.underlying86 bL cI dF d9 rfl d_ vn S.length S rfl (ra_ aR _) (A_ w3.heap.size 0) 4 4 [.slice a k D,L_ bO (k+1) p1,L_ c4 (k+2) p2,L_ bN (k+3) p3] rfl rfl (Am w3 _ 84) (by intro u Q;simp only[List.mem_cons,List.not_mem_nil,or_false] at Q;rcases Q with rfl|rfl|rfl|rfl<;>rfl) d_ m_ o_ qg_ ?_)
   intro r w4 E;obtain⟨bH,aB,aL,_,q4,p4,dC⟩:=E;have T4:=((Aa.refl _ _).alloc _).grown aB (λk' e _=>e);have P:=x1_ ((aC.alloc _).grown aB F.2.1);have bW:=x1_ (World.ownsRow.kept (ra_ cA _) aB bK)
   have bZ:=x1_ (λx f=>(s.all x f).1.touch T4 (λk' cur _ hh e=>by
    obtain⟨dR,f3⟩:=Ad aR e
    grind))
   have c7:=x1_ ((s.tch.mono (S':=λk'=>k'=g∨(Value.slice a k _).ownBlock=some _∨vn.ownBlock=some _∨vm.ownBlock=some k') (λk' _ e=>by rcases e with e|e;exact .inl e;exact .inr (.inl e))).trans (T4.mono (λk' _ e=>.inr (.inr (.inl e)))));have bR:Hid (w4.ownsRow 0 84 1 r (S.length+4) (S++news)):=by rw[c5];exact bH
   have cL:Hid (∀k',r.ownBlock=some k'->vn.ownBlock=some k'∨y.heap.size<=k'):=λk' hk'=>by
    rcases aL with h|⟨h,_⟩
    ·grind
    rw[h] at hk';injection hk' with hk';have:=s.tch.size;omega
   have aJ:=x1_ (λx f k' hk'=>Qh (s.lt x f k' hk') T4.size);have dT:=T4.size
   have cQ:Hid (∀x∈news,∀k',x.ownBlock=some k'->r.ownBlock≠some k'):=λx f k' hk' e=>by
    rcases aL with h|⟨h,_⟩
    ·rw[h] at e
     rcases(s.all x f).2.2 k' hk' with h3|h3
     ·rcases aK.out with h2|h2
      ·grind
      grind
     have:=(rl_ bE k' e).2;omega
    rw[h] at e;injection e with e;have:=s.lt x f k' hk';omega
   have bD:Hid (∀x∈news,∀k',x.ownBlock=some k'->vm.ownBlock≠some k'):=λx f k' hk' e=>by
    rcases(s.all x f).2.2 k' hk' with h|h
    ·rcases aI.out with h2|h2
     ·grind
     grind
    have:=(rl_ bV k' e).2;omega
   have cP:=x1_ (λx f k' hk'=>(s.all x f).2.2 k' hk');subst dC;have e6:w4.cell? (A_ g 10)=some vn:=(by rw[P.cell];exact a8.1);have ef:=λo=>P.frozen o;clear bH aB aL T4 aC cA aR s d6 df;go_upto_region 14 with fail;have a5:Hid (WB _ g (c1.setIfInBounds _ (L_ q4 (S.length+4) p4))):=P.set 10 _;have aW:Hid ((w4.setCell ⟨g,10,_⟩ (L_ q4 (S.length+4) p4)).ownsRow 0 3 1 vm _ ms):=P.row bW d_;have aQ:Hid ((w4.setCell ⟨g,10,_⟩ (L_ q4 (S.length+4) p4)).ownsRow 0 84 1 _ _ _):=P.row bR d_;have bP:Hid (∀x∈_,Gi (w4.setCell ⟨g,10,_⟩ (L_ q4 (S.length+4) p4)) 25 _ x):=λx f=>P.all (bZ x f) d_;have a9:Hid (Aa _ _ (w4.setCell _ (L_ q4 (S.length+4) p4))):=c7.setCell (p:=(A_ g 10)) (λ_=>.inl rfl) _
   have a1:Hid (∀x∈news,∀k',x.ownBlock=some k'->k'<(w4.setCell (A_ g 10) (L_ q4 (S.length+4) p4)).heap.size):=λx f k' hk'=>by
    have:=aJ x f k' hk'
    simpa [World.setCell] using this
   clear P bW bR bZ c7 aJ e6 ef;generalize w4.setCell (A_ g 10) (L_ q4 (S.length+4) p4)=w5 at *;have d7:w5.cell? (A_ g 11)=some vm:=(by rw[a5.cell,Array.getElem?_setIfInBounds_ne d_];exact a8.2);have R:=a9.at_ dJ (λe=>a6 e);have dm:=cR_ 0 R;have df:=λo=>a5.frozen o;have dW:=a9.size;have cF:=a5.lt;have dO:=(Qb R).1;have c3:w5.drew.cell? _=_:=d7;have b9:w5.drew.cell? _=_:=dm;refine Al (λw'=>w'.cell? _=some vm/\w'.cell? _=some (I_ z)) 21 k_ ⟨c3,b9⟩ (λhHeld=>?_);refine Ah 0 ?_;refine Ah 1 ?_;refine Ah 2 ?_;refine Ah 3 ?_;refine Ah 4 ?_;refine Ah 5 ?_;refine Ah 6 ?_;refine Ah 7 ?_;refine Ah 8 ?_;refine Ah 9 ?_;refine Ah 10 ?_;refine Ah 11 ?_;refine Ah 12 ?_;refine Ah 13 ?_;refine Ah 14 ?_;refine Ah 15 ?_
   refine Ah 16 ?_;refine Af (i:=17) k_ rfl (λKK hK=>?_);go_simp;refine hK _ _ ⟨(Below.cell (B:=w5.heap.size) (w:=w5) (p:=(A_ g 11)) (by grind [Below.refl,Below.drew,Below.alloc]) cF).trans d7,(Below.cell (B:=w5.heap.size) (w:=w5) (p:=(A_ l 0)) (by grind [Below.refl,Below.drew,Below.alloc]) dO).trans dm⟩ (λhHeld=>?_);clear hK KK;try simp only[Act.put,sA,sB,sC]
   refine Af (i:=18) k_ rfl (λKK hK=>?_);refine Az rfl (.tmp 77) (.tmp 90) 25 rfl 0 3 i0 (I_ 0) 1 8 Tryz.underlying25 c8 dG d8 dQ rfl d_ vm ms.length ms j_ (ra_ (World.ownsRow.drew aW) _) (A_ w5.heap.size 0) 4 4 [I_ z,I_ z,I_ z,I_ z] j_ rfl (Am w5.drew #[I_ z,I_ z,I_ z,I_ z] 3) (by intro u Q;simp only[List.mem_cons,List.not_mem_nil,or_false] at Q;rcases Q with rfl|rfl|rfl|rfl<;>rfl) d_ m_ o_ qg_ ?_;intro t w6 E;obtain⟨b5,aD,aN,_,q6,p6,dA⟩:=E;have T6:=(((Aa.refl _ _).drew).alloc _).grown aD (λk' e _=>e);have L:=x1_ ((a5.drew.alloc _).grown aD F.2.2);have a3:=T6.at_ R (λe=>a6 (.inr (.inr (.inr e))))
   have dL:Hid (oq y (w6.setCell (A_ g 11) t) g 10 ci 25 84 3 (L_ l 1 1:Value) (I_ z) (.slice a k D) vn vm S ms (I+1) (L_ q4 (S.length+4) p4) t news):=by
    refine⟨?_,?_,?_,?_,λx f=>⟨?_,cP x f⟩,?_,cL,λk' hk'=>?_,λx f k' hk' e=>?_,cQ,λx f k' hk'=>?_⟩;rw[<- cG];exact L.set _ _;exact L.row (World.ownsRow.kept (ra_ (World.ownsRow.drew aQ) _) aD (An aW aQ d_)) d_;exact L.row b5 d_;rw[c5];rfl;exact L.all ((bP x f).touch T6 (λk' cur h1 _ e=>bD x f _ h1 e)) d_;exact(a9.trans (T6.mono (λk' _ e=>.inr (.inr (.inr e))))).setCell (p:=(A_ g 11)) (λ_=>.inl rfl) _
    ·rcases aN with h|⟨h,_⟩
     ·grind
     rw[h] at hk';injection hk' with hk';simp at hk';omega
    ·rcases aN with h|⟨h,_⟩
     exact bD x f _ hk' (h ▸ e);rw[h] at e;injection e with e;have:=a1 x f k' hk';simp at e;omega
    have:=a1 x f k' hk';have:=T6.size;simp[World.setCell];omega
   have dN:=x1_ ((Below.heap_setCell _ (A_ g 11) t _ (λe=>a6 (.inl e))).trans a3);have e7:w6.cell? (A_ g 11)=some vm:=(by rw[L.cell,Array.getElem?_setIfInBounds_ne d_];exact a8.2);have em:=cR_ 0 a3;have ef:=λo=>L.frozen o;subst dA;clear b5 aD aN T6 a5 aW aQ bP a9 a1 L d7 df dm c3 b9 R a3;refine hK _ _ ⟨e7,em⟩ (λhHeld=>?_);clear hK KK;try simp only[Act.put,sA,sB,sC]
   refine Ah 19 ?_;refine Ah 20 ?_;refine Ai (i:=21) k_ rfl k_ (λKK hK=>?_);go_simp;refine hK _ _ ?_;clear hK KK;try simp only[Act.put,sA,sB,sC]
   refine Ak k_ ?_ _;go_wp2;go_end0;exact⟨rfl,bQ _ _ _ _ dL dN⟩
def Ry.at{w o c i y v N n s p x F a k e d}(h:Ry w o c i y v F N (.slice a n p) (.slice k s x) e d){j}(g:j<e.length):∃q r,a=some ⟨q,0,none⟩/\k=some ⟨r,0,none⟩/\w.cell? (A_ q j)=some (e.getD j Hm)/\w.cell? (A_ r j)=some (d.getD j Hm)/\F w (e.getD j Hm) (d.getD j Hm):=by
 have f:j<d.length:=by rw[h.len];exact g
 have b:∀{ty:Nat} {a n p xs},w.ownsRow 0 ty 1 (.slice a n p) xs.length xs->j<xs.length->∃q,a=some ⟨q,0,none⟩/\w.cell? (A_ q j)=some (xs.getD j Hm):=λ{ty a n p xs} hr hl=>by grind [Fj,Qy]
 obtain⟨q,t,m⟩:=b h.rn g;obtain⟨r,l,u⟩:=b h.rm f;exact⟨q,r,t,l,m,u,(h.all j g).here⟩
def Gi.cells{w j d i u a}(h:Gi w j u (.slice a d i)){k}(p:k<d):∃b,a=some ⟨b,0,none⟩/\w.cell? (A_ b k)=some u:=by
 obtain⟨l,n,c,e,_,q|⟨g,f,rfl,o,m⟩⟩:=h
 ·grind
 grind [cell_of_row]
def Ft.cells{w d i z a}(h:Ft w z (.slice a d i)){k}(o:k<d):∃b,a=some ⟨b,0,none⟩/\w.cell? (A_ b (k*4))=some (I_ z)/\w.cell? (A_ b (k*4+1))=some (I_ 0)/\w.cell? (A_ b (k*4+2))=some (I_ 0)/\w.cell? (A_ b (k*4+3))=some (I_ 0):=by
 obtain⟨j,n,c,e,_,p|⟨g,f,rfl,m,l⟩⟩:=h
 ·grind
 grind [cell_of_row]
def Gi.shape{w b u v}(h:Gi w b u v):∃a n c,v=.slice a n c/\n<=maxLen:=by
 obtain⟨a,n,c,e,d,_⟩:=h
 grind
def Ft.shape{w z v}(h:Ft w z v):∃a n c,v=.slice a n c/\n<=maxLen:=by
 obtain⟨a,n,c,e,b,_⟩:=h
 grind
structure LkS(w wr)(o)(g N)(c)(e1 e2 n1 n2 s1 s2 l1 l2)(es em ns nm ss sm ls lm):Prop where
 wb:WB wr g c
 es:Ry wr o c 4 29 3 fE N e1 e2 es em
 ns:Ry wr o c 6 25 3 fN N n1 n2 ns nm
 ss:Ry wr o c 8 47 9 fS N s1 s2 ss sm
 ls:Ry wr o c 10 84 3 fL N l1 l2 ls lm
 bl:E_ w wr
def LkS.drewN{w wr o g N c l a n1 i j b n d r s k p u f q v}(h:LkS w wr o g N c l a n1 i j b n d r s k p u f q v) m:LkS w (wr.drewN m) o g N c l a n1 i j b n d r s k p u f q v:=by have x:E_ wr _:=below_drewN bz_ m;have t:Aa (λ_=>False) _ _:=.of_below x;exact⟨t.at_ h.wb id,h.es.keep t (λ_ _ e=>e.elim) (Dq.refl _ _) d_ rfl rfl qa_,h.ns.keep t (λ_ _ e=>e.elim) (Dq.refl _ _) d_ rfl rfl qa_,h.ss.keep t (λ_ _ e=>e.elim) (Dq.refl _ _) d_ rfl rfl qa_,h.ls.keep t (λ_ _ e=>e.elim) (Dq.refl _ _) d_ rfl rfl qa_,below_drewN h.bl m⟩
def wk{p:Prop}(h:p:=by
 clear hF;have hnk:¬k<(len:Int):=o_;refine rd_ ?_
 exact⟨i+1,o_,g_,HR⟩):p:=h
def Hx.looks{w o g N c}(h:Hx w o g c N)(hN:N<=100000000):C_ 43 #[.pointer (some ⟨g,4,none⟩)] w λe w'=>e=.returned (.bool true)/\Below w.heap.size w w':=by
 obtain⟨C,B,f,em,hE⟩:=h.es;obtain⟨n1,n2,d,nm,R⟩:=h.ns;obtain⟨s1,s2,j,sm,hS⟩:=h.ss;obtain⟨l1,l2,l,lm,X⟩:=h.ls;have HL:Hid (LkS w w o g N c _ _ _ _ _ _ _ _ _ _ _ _ _ _ _ _):=⟨h.wb,hE,R,hS,X,bz_⟩;obtain⟨I,y,aC,_⟩:=Fj hE.rn;obtain⟨J,u,a8,_⟩:=Fj hE.rm;obtain⟨D,s,aD,_⟩:=Fj R.rn;obtain⟨Q,m,aA,_⟩:=Fj R.rm;obtain⟨H,t,aE,_⟩:=Fj hS.rn;obtain⟨S,x,aB,_⟩:=Fj hS.rm;obtain⟨U,A,aF,_⟩:=Fj X.rn;obtain⟨L,v,a9,_⟩:=Fj X.rm;have fe:=hE.few;have fn:=R.few;have fs:=hS.few;have fl:=X.few;rw[hE.len] at a8;rw[R.len] at aA;rw[hS.len] at aB;rw[X.len] at a9;subst aC a8 aD aA aE aB aF a9
 have HC:Hid (∀W,WB W g c->_/\_/\_/\_/\_/\_/\_/\_):=λW hW=>
  ⟨(hW.cell 4).trans hE.c0,(hW.cell 5).trans hE.c1,(hW.cell 6).trans R.c0,(hW.cell 7).trans R.c1,(hW.cell 8).trans hS.c0,(hW.cell 9).trans hS.c1,(hW.cell _).trans X.c0,(hW.cell 11).trans X.c1⟩
 have aI:Hid (∀{n:Nat},n=n):=rfl;go_enter Tryz.func43,Tryz.ntmps43;go_upto_region 2 with fail;go_loopw [3] (λti wr=>∃i:Nat,i<=f.length/\ti=.int .i64 i/\Hid (LkS w wr o g N c (.slice I f.length y) (.slice J f.length u) (.slice D d.length s) (.slice Q d.length m) (.slice H j.length t) (.slice S j.length x) (.slice U l.length A) (.slice L l.length v) f em d nm j sm l lm)) (λti _=>f.length-(intOf ti).toNat)
 case atStart=>grind
 case round=>
  obtain⟨i,a5,rfl,HR⟩:=hrel;obtain⟨d4,d5,d6,d7,d8,d9,V,O⟩:=HC wr HR.wb
  by_cases hi:i<f.length
  ·have a2:0<=(i:Int):=o_;have a0:i<(f.length:Int):=o_;obtain⟨q,r,rfl,rfl,C,B,hF⟩:=HR.es.at hi;obtain⟨z,Y,T⟩:=hF;obtain⟨a,len,cp,Z,E⟩:=T.shape;rw[Z] at C;rw[Y] at B;have HV:=x1_ Z;have HM:=x1_ Y;unfold maxLen at E;go_upto_region 5 with fail;go_loopw [4] (λtk wr=>∃k:Nat,k<=len/\tk=.int .i64 k/\Hid (LkS w wr o g N c (.slice (some ⟨q,0,none⟩) f.length y) (.slice (some ⟨r,0,none⟩) f.length u) (.slice D d.length s) (.slice Q d.length m) (.slice H j.length t) (.slice S j.length x) (.slice U l.length A) (.slice L l.length v) f em d nm j sm l lm)) (λtk _=>len-(intOf tk).toNat)
   case atStart=>exact⟨0,qg_,rfl,HR⟩
   case round=>
    obtain⟨k,a1,rfl,HR⟩:=hrel;obtain⟨d4,d5,d6,d7,d8,d9,V,O⟩:=HC wr HR.wb;obtain⟨q2,r2,F,M,C,B,hF⟩:=HR.es.at hi;have P:q=q2:=(by injection F with e;injection e);have G:r=r2:=(by injection M with e;injection e);subst P G;rw[HV] at C hF;rw[HM] at B hF
    by_cases hk:k<len
    ·obtain⟨z2,a4,T⟩:=hF;injection a4 with _ a4;subst a4;obtain⟨b,rfl,x0,x1,x2,x3⟩:=T.cells hk;have a6:0<=(k:Int):=o_;have a3:k<(len:Int):=o_;go_upto_region 7 with fail;go_quiet (fail);refine rd_ ?_;exact⟨k+1,o_,g_,HR.drewN _⟩
    exact wk
  have a7:¬i<(f.length:Int):=o_;go_upto_region 10 with fail;go_loopw [5] (λti wr=>∃i:Nat,i<=d.length/\ti=.int .i64 i/\Hid (LkS w wr o g N c (.slice I f.length y) (.slice J f.length u) (.slice D d.length s) (.slice Q d.length m) (.slice H j.length t) (.slice S j.length x) (.slice U l.length A) (.slice L l.length v) f em d nm j sm l lm)) (λti _=>d.length-(intOf ti).toNat)
  case atStart=>exact⟨0,qg_,rfl,HR⟩
  case round=>
   obtain⟨i,a5,rfl,HR⟩:=hrel;obtain⟨d4,d5,d6,d7,d8,d9,V,O⟩:=HC wr HR.wb
   by_cases hi:i<d.length
   ·have a2:0<=(i:Int):=o_;have a0:i<(d.length:Int):=o_;obtain⟨q,r,rfl,rfl,C,B,hF⟩:=HR.ns.at hi;obtain⟨⟨z,Y⟩,T⟩:=hF;obtain⟨a,len,cp,Z,E⟩:=T.shape;rw[Z] at C;rw[Y] at B;have HV:=x1_ Z;have HM:=x1_ Y;unfold maxLen at E;go_upto_region 13 with fail;go_loopw [6] (λtk wr=>∃k:Nat,k<=len/\tk=.int .i64 k/\Hid (LkS w wr o g N c (.slice I f.length y) (.slice J f.length u) (.slice (some ⟨q,0,none⟩) d.length s) (.slice (some ⟨r,0,none⟩) d.length m) (.slice H j.length t) (.slice S j.length x) (.slice U l.length A) (.slice L l.length v) f em d nm j sm l lm)) (λtk _=>len-(intOf tk).toNat)
    case atStart=>exact⟨0,qg_,rfl,HR⟩
    case round=>
     obtain⟨k,a1,rfl,HR⟩:=hrel;obtain⟨d4,d5,d6,d7,d8,d9,V,O⟩:=HC wr HR.wb;obtain⟨q2,r2,F,M,C,B,hF⟩:=HR.ns.at hi;have P:q=q2:=(by injection F with e;injection e);have G:r=r2:=(by injection M with e;injection e);subst P G;rw[HV] at C hF;rw[HM] at B hF
     by_cases hk:k<len
     ·obtain⟨_,T⟩:=hF;obtain⟨b,rfl,x0⟩:=T.cells hk;have a6:0<=(k:Int):=o_;have a3:k<(len:Int):=o_;go_upto_region 15 with fail;go_quiet (fail);refine rd_ ?_;exact⟨k+1,o_,g_,HR.drewN _⟩
     exact wk
   have a7:¬i<(d.length:Int):=o_;go_upto_region 18 with fail;go_loopw [7] (λti wr=>∃i:Nat,i<=j.length/\ti=.int .i64 i/\Hid (LkS w wr o g N c (.slice I f.length y) (.slice J f.length u) (.slice D d.length s) (.slice Q d.length m) (.slice H j.length t) (.slice S j.length x) (.slice U l.length A) (.slice L l.length v) f em d nm j sm l lm)) (λti _=>j.length-(intOf ti).toNat)
   case atStart=>exact⟨0,qg_,rfl,HR⟩
   case round=>
    obtain⟨i,a5,rfl,HR⟩:=hrel;obtain⟨d4,d5,d6,d7,d8,d9,V,O⟩:=HC wr HR.wb
    by_cases hi:i<j.length
    ·have a2:0<=(i:Int):=o_;have a0:i<(j.length:Int):=o_;obtain⟨q,r,rfl,rfl,C,B,hF⟩:=HR.ss.at hi;obtain⟨⟨z,Y⟩,T⟩:=hF;obtain⟨a,len,cp,Z,E⟩:=T.shape;rw[Z] at C;rw[Y] at B;have HV:=x1_ Z;have HM:=x1_ Y;unfold maxLen at E;go_upto_region 21 with fail;go_loopw [8] (λtk wr=>∃k:Nat,k<=len/\tk=.int .i64 k/\Hid (LkS w wr o g N c (.slice I f.length y) (.slice J f.length u) (.slice D d.length s) (.slice Q d.length m) (.slice (some ⟨q,0,none⟩) j.length t) (.slice (some ⟨r,0,none⟩) j.length x) (.slice U l.length A) (.slice L l.length v) f em d nm j sm l lm)) (λtk _=>len-(intOf tk).toNat)
     case atStart=>exact⟨0,qg_,rfl,HR⟩
     case round=>
      obtain⟨k,a1,rfl,HR⟩:=hrel;obtain⟨d4,d5,d6,d7,d8,d9,V,O⟩:=HC wr HR.wb;obtain⟨q2,r2,F,M,C,B,hF⟩:=HR.ss.at hi;have P:q=q2:=(by injection F with e;injection e);have G:r=r2:=(by injection M with e;injection e);subst P G;rw[HV] at C hF;rw[HM] at B hF
      by_cases hk:k<len
      ·obtain⟨_,T⟩:=hF;obtain⟨b,rfl,x0⟩:=T.cells hk;have a6:0<=(k:Int):=o_;have a3:k<(len:Int):=o_;go_upto_region 23 with fail;go_quiet (fail);refine rd_ ?_;exact⟨k+1,o_,g_,HR.drewN _⟩
      exact wk
    have a7:¬i<(j.length:Int):=o_;go_upto_region 26 with fail;go_loopw [9] (λti wr=>∃i:Nat,i<=l.length/\ti=.int .i64 i/\Hid (LkS w wr o g N c (.slice I f.length y) (.slice J f.length u) (.slice D d.length s) (.slice Q d.length m) (.slice H j.length t) (.slice S j.length x) (.slice U l.length A) (.slice L l.length v) f em d nm j sm l lm)) (λti _=>l.length-(intOf ti).toNat)
    case atStart=>exact⟨0,qg_,rfl,HR⟩
    case round=>
     obtain⟨i,a5,rfl,HR⟩:=hrel;obtain⟨d4,d5,d6,d7,d8,d9,V,O⟩:=HC wr HR.wb
     by_cases hi:i<l.length
     ·have a2:0<=(i:Int):=o_;have a0:i<(l.length:Int):=o_;obtain⟨q,r,rfl,rfl,C,B,hF⟩:=HR.ls.at hi;obtain⟨z,mb,Y,T,_⟩:=hF;obtain⟨a,len,cp,Z,E⟩:=T.shape;rw[Z] at C;rw[Y] at B;have HV:=x1_ Z;have HM:=x1_ Y;unfold maxLen at E;go_upto_region 29 with fail;go_loopw [10] (λtk wr=>∃k:Nat,k<=len/\tk=.int .i64 k/\Hid (LkS w wr o g N c (.slice I f.length y) (.slice J f.length u) (.slice D d.length s) (.slice Q d.length m) (.slice H j.length t) (.slice S j.length x) (.slice (some ⟨q,0,none⟩) l.length A) (.slice (some ⟨r,0,none⟩) l.length v) f em d nm j sm l lm)) (λtk _=>len-(intOf tk).toNat)
      case atStart=>exact⟨0,qg_,rfl,HR⟩
      case round=>
       obtain⟨k,a1,rfl,HR⟩:=hrel;obtain⟨d4,d5,d6,d7,d8,d9,V,O⟩:=HC wr HR.wb;obtain⟨q2,r2,F,M,C,B,hF⟩:=HR.ls.at hi;have P:q=q2:=(by injection F with e;injection e);have G:r=r2:=(by injection M with e;injection e);subst P G;rw[HV] at C hF;rw[HM] at B hF
       by_cases hk:k<len
       ·obtain⟨z2,aH,_,T,aG⟩:=hF;obtain⟨b,rfl,x0⟩:=T.cells hk;have x1:=cR_ 0 aG;have a6:0<=(k:Int):=o_;have a3:k<(len:Int):=o_;go_upto_region 31 with fail;go_quiet (fail);refine rd_ ?_;exact⟨k+1,o_,g_,HR.drewN _⟩
       exact wk
     have a7:¬i<(l.length:Int):=o_;have HB:=x1_ HR.bl;go_wp2;go_ret;exact⟨rfl,HB⟩
end Go.Proofs.YtfcgnpchbcmdeaaGreat
