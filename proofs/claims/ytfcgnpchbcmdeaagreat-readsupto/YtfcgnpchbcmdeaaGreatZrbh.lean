import Derived.Test.YtfcgnpchbcmdeaaGreatZrbc
namespace Go.Proofs.YtfcgnpchbcmdeaaGreat
set_option linter.all false
set_option maxRecDepth 100000
set_option maxHeartbeats 16000000
open Go.RowKit
def oh(w:World)(base:Nat)(v:Value)(L:List VS):Prop:=w.ownsRow base 335 3 v L.length (Ic L)
def oh.more{w a v L x}(h:w.ownsRow a 335 3 v (L.length+1) (Ic L++Hy x)):oh w a v (L++[x]):=by grind [oh,Us,Ic]
def ZjX:(Tryz.prog.info? 335).map (λi=>(i.zero,i.size,i.bytes))=some (some (.agg #[.bool false,I_ 0,.string ⟨#[]⟩]),3,32):=k_
def ZjY:(Tryz.prog.info? 338).map (λi=>(i.zero,i.size,i.bytes))=some (some (.agg #[I_ 0,.slice none 0 0]),2,32):=k_
structure Jy where
 wt:Int
 fs:List VS
 v:Value
def Jy.pr(p:Jy):Int×List VS:=(p.wt,p.fs)
def Pv(p:Jy):List Value:=[I_ p.wt,p.v]
def Ox:List Jy->List Value
 |[]=>[]
 |p::L=>Pv p++Ox L
theorem yi A B:Ox (A++B)=Ox A++Ox B:=by
 induction A with
 |nil=>rfl
 |cons x A ih=>simp[Ox,ih]
structure Fy(w:World)(base)(v)(L):Prop where
 row:w.ownsRow base 338 2 v L.length (Ox L)
 each:∀p∈L,oh w base p.v p.fs
def Fy.nil w base:Fy w base (.slice none 0 0) []:=⟨rn_,s_⟩
def Fy.touch{w w' base v L K}(h:Fy w base v L)(t:Aa K w w')(h1:∀q,v.ownBlock=some q->¬K q)(h2:∀p∈L,∀q,p.v.ownBlock=some q->¬K q):Fy w' base v L:=
 ⟨t.row h.row h1,λp hp=>t.row (h.each p hp) (h2 p hp)⟩
def Fy.shape{w b v L}(h:Fy w b v L):∃a c,v=.slice a L.length c:=by
 rcases h.row.2 with⟨rfl,h0⟩|⟨g,cap,cur,rfl,_⟩
 ·grind
 grind
def Fy.below{w w' base v L}(h:Fy w base v L)(hb:Below w.heap.size w w'):Fy w' base v L:=h.touch (.of_below (S:=λ_=>False) hb) (λ_ _=>id) (λ_ _ _ _=>id)
def Fy.more{w c a v d L p}(h:Fy w a v L)(j:oh w a p.v p.fs)(g:w.grownBy c v.ownBlock)(r:c.ownsRow a 338 2 d (L.length+1) (Ox L++Pv p)):Fy c a d (L++[p]):=by
 have t:=(Aa.refl _ w).grown g (λk hk _=>hk);refine⟨?_,λq hq=>?_⟩
 ·grind [yi,Ox]
 have b:oh w a q.v q.fs:=by
  rcases List.mem_append.1 hq with e|e
  exact h.each q e
  grind
 refine t.row b (λk hk e=>?_);obtain⟨f,i⟩:=Ad b hk;exact Au h.row e i d_ rfl
structure RwI(w W)(base tb cb rb:Nat)(S)(k)(z)(vR)(L)(vc)(wt)(fv)(F):Prop where
 tx:Fb W tb S k z vR
 rows:Fy W base vR L
 cf:W.heap[cb]? =some (.cells vc 37 (0,0))
 rw:W.heap[rb]? =some (.cells #[I_ wt,fv] 338 (0,0))
 fl:oh W rb fv F
 lo:Below base w W
 n1:base<=tb
 n2:base<=cb
 n3:base<=rb
 ap:∀p∈L,∀q,p.v.ownBlock=some q->q<rb
 ar:∀q,vR.ownBlock=some q->q<rb
section
variable {w W W':World} {base tb cb rb:Nat} {S:ByteArray} {k k':Nat} {z z':Int} {vR:Value} {L:List Jy} {vc:Array Value} {wt:Int} {fv:Value} {F:List VS}
def RwI.text(h:RwI w W base tb cb rb S k z vR L vc wt fv F)(hx:Fb W' tb S k' z' vR)(t:Aa (λq=>q=tb) W W'):RwI w W' base tb cb rb S k' z' vR L vc wt fv F:=
 ⟨hx,h.rows.touch t (λq hq e=>Au h.rows.row hq h.tx d_ e) (λp hp q hq e=>Au (h.rows.each p hp) hq h.tx d_ e),
  t.at_ h.cf (λe=>by have h1:=h.cf;have h2:=h.tx;unfold Fb at h2;grind),
  t.at_ h.rw (λe=>by have h1:=h.rw;have h2:=h.tx;unfold Fb at h2;grind),
  t.row h.fl (λq hq e=>Au h.fl hq h.tx d_ e),h.lo.trans (t.to_below (by have:=h.lo.size;have:=h.tx.lt;have:=h.n1;omega) (λq hq=>by have:=h.n1;omega)),h.n1,h.n2,h.n3,h.ap,h.ar⟩
def RwI.below(h:RwI w W base tb cb rb S k z vR L vc wt fv F)(a:Below W.heap.size W W'):RwI w W' base tb cb rb S k z vR L vc wt fv F:=by have t:=Aa.of_below (S:=λ_=>False) a;exact⟨h.tx.below a,h.rows.below a,t.at_ h.cf id,t.at_ h.rw id,t.row h.fl (λ_ _=>id),h.lo.trans (a.mono (by have:=h.tx.lt;have:=h.n1;omega)),h.n1,h.n2,h.n3,h.ap,h.ar⟩
def RwI.ne(h:RwI w W base tb cb rb S k z vR L vc wt fv F):tb≠rb/\cb≠rb:=
 ⟨λe=>by have h1:=h.rw;have h2:=h.tx;unfold Fb at h2;grind,λe=>by have h1:=h.rw;have h2:=h.cf;grind⟩
def RwI.more{b c x}(h:RwI w W base tb cb rb S k z vR L vc wt fv F)(g:W.grownBy b fv.ownBlock)(r:b.ownsRow rb 335 3 c (F.length+1) (Ic F++Hy x)):RwI w (b.setCell (A_ rb 1) c) base tb cb rb S k z vR L vc wt c (F++[x])/\b.heap[rb]? =some (.cells #[I_ wt,fv] 338 (0,0)):=by
 have t:=(Aa.refl _ W).grown g (λk hk _=>hk);have a:=t.at_ h.rw (λe=>Au h.fl e h.rw d_ rfl);have d:Aa (λq=>_∨q=rb) W (b.setCell _ c):=(t.mono (λ_ _=>.inl)).setCell (p:=(A_ rb 1)) (λ_=>.inr rfl) _;obtain⟨n1,f⟩:=h.ne;refine⟨⟨h.tx.touch d ?_,h.rows.touch d (λq hq e=>?_) (λp hp q hq e=>?_),d.at_ h.cf ?_,ht_ 1 _ _ _ a,As (oh.more r) a d_,h.lo.trans (d.to_below (by have:=h.tx.lt;have:=h.n1;omega) (λq hq=>?_)),h.n1,h.n2,h.n3,h.ap,h.ar⟩,a⟩;rintro(e|e);exact Au h.fl e h.tx d_ rfl;exact n1 e
 ·rcases e with e|e
  have:=h.ar q hq;have:=(rl_ h.fl q e).1;omega;have:=h.ar q hq;omega
 ·rcases e with e|e
  have:=h.ap p hp q hq;have:=(rl_ h.fl q e).1;omega;have:=h.ap p hp q hq;omega
 rintro(e|e);exact Au h.fl e h.cf d_ rfl;exact f e;have:=h.n3
 rcases hq with e|e
 have:=(rl_ h.fl q e).1;omega;omega
end
def RwP(w:World)(base tb:Nat)(S:ByteArray)(L:List Jy)(R:Int×List VS×Nat×Int)(w':World):Prop:=
 ∃vR' L',Fb w' tb S R.2.2.1 R.2.2.2 vR'/\Fy w' base vR' L'/\L'.map Jy.pr=(if R.2.2.2=0 then L.map Jy.pr++[(R.1,R.2.1)] else L.map Jy.pr)/\Below base w w'
def ZiV f M k n H fc S vR L x1 x2 x3 o m ct w (h:Fb w M S k 0 vR)(hL:Fy w f vR L)(hb:f<=M)(b3:k<=S.size)(hF:Dd w H 0 n o m ct)(aB:H<f)(hn:n<=4)(aM:∀i,i<n->0<=m i/\(o i=false->m i<=3))(bF:L.length<=1000)(hk:S.size<=1000000000000000):C_ 236 #[.pointer (some ⟨M,0,none⟩),.agg #[.slice (some ⟨H,0,none⟩) n fc,.int .i64 x1,.int .i64 x2,.int .i64 x3]] w λe w'=>e=.returned (.tuple #[])/\RwP w f M S L (Zv S n o m k) w':=by
 obtain⟨R,aC⟩:=ez_ (Zv S n o m k);rw[aC];obtain⟨w1,P⟩:=ex_ (w.alloc (.cells #[L_ H n fc,I_ x1,I_ x2,I_ x3] 37));have aP:f<=w.heap.size:=(by have:=h.lt;omega);have b1:E_ w w1:=(by rw[P];exact bA_);have aI:w1.heap[w.heap.size]? =some (.cells #[L_ H n fc,I_ x1,I_ x2,I_ x3] 37 (0,0)):=(by rw[P];exact hn_);obtain⟨cb,a4⟩:=ex_ w.heap.size;have HN:=Zd _ k 2 S 0 false _ _ (h.below b1) o_ hk;have a5:=Zie (S:=S) 0 2 false b3;obtain⟨A,HA⟩:=ez_ (Mc S k 0 2 false);rw[HA] at HN a5;obtain⟨G,j,k2,z2⟩:=A;simp only at HN a5;have y:=x2_ (h.below b1) (hL.below b1)
 have b5:Hid (∀W,Below f w W->∀i,i<n->W.cell? (A_ H (i*3))=some (.bool (o i))/\W.cell? (A_ H (i*3+1))=some (I_ (m i).toNat)/\W.cell? (A_ H (i*3+2))=some (I_ (ct i))):=λW hW i hi=>by have e0:=hF.c0 i hi;have e1:=hF.c1 i hi;have e2:=hF.c2 i hi;rw[Nat.zero_add] at e0 e1 e2;refine⟨(hW.cell (p:=(A_ H (i*3))) aB).trans e0,?_,(hW.cell (p:=(A_ H (i*3+2))) aB).trans e2⟩;rw[Int.toNat_of_nonneg (aM i hi).1];exact(hW.cell (p:=(A_ H (i*3+1))) aB).trans e1
 have aJ:=x1_ P;have N:Hid (_/\_[cb]? =some _):=⟨b1,by rw[a4];exact aI⟩;have a6:=x1_ a4;clear P b1 aI h hL hF a4;go_enter Tryz.func236,Tryz.ntmps236;go_wp2_with fail
 rw[<- aJ,<- a6];refine HN.mono ?_;rintro e w2 ⟨rfl,h2,t2⟩;have a9:=x2_ h2 t2;clear h2 t2 HN aJ;have HM:=Xy _ _ S _ 44 _ _ a9.1 d_ hk;have aO:=ZeL (S:=S) (z:=z2) (b:=44) d_ a5.2;obtain⟨k3,aG⟩:=ey_ (Mq S k2 z2 44);obtain⟨z3,aN⟩:=ey_ (Ng S k2 z2 44);rw[aG,aN] at HM;rw[aG] at aO
 have a7:Hid (R=if z3=0 then(G,(Sr S n o m n 0 [] k3).1,(Sr S n o m n 0 [] k3).2.1,(Sr S n o m n 0 [] k3).2.2) else(G,[],k3,z3)):=by
  show _=_;rw[<- aC];unfold Zv;simp only;rw[HA]
  grind
 clear aG aN aC HA;go_wp2_with fail
 refine HM.mono ?_;rintro e w3 ⟨rfl,h3,t3⟩;obtain⟨w4,U⟩:=ex_ (w3.alloc (.cells #[I_ G,.slice none 0 0] 338));obtain⟨rb,J⟩:=ex_ w3.heap.size
 have HI:Hid (RwI w w4 f M cb rb S k3 z3 vR L #[L_ H n fc,I_ x1,I_ x2,I_ x3] G (.slice none 0 0) []):=by
  have t:=a9.2.trans t3;have b4:E_ w3 w4:=(by rw[U];exact bA_);have a8:=y.2.touch t (λq hq e=>Au y.2.row hq y.1 d_ e) (λp hp q hq e=>Au (y.2.each p hp) hq y.1 d_ e);have aY:f<=w1.heap.size:=(by have:=y.1.lt;omega);have V:=t.at_ N.2 (λe=>by have h1:=N.2;have h2:=y.1;unfold Fb at h2;grind);refine⟨h3.below b4,a8.below b4,(b4.block _ (Qb V).1).trans V,by rw[U,J];exact hn_,rn_,?_,hb,by rw[a6];exact aP,?_,λp hp q hq=>?_,λq hq=>?_⟩;exact((N.1.mono aP).trans (t.to_below aY (λq hq=>o_))).trans (b4.mono (by have:=t.size;omega));have:=t.size;omega;rw[J];exact(rl_ (a8.each p hp) q hq).2;rw[J];exact(rl_ a8.row q hq).2
 have Z:=x2_ U J;clear h3 t3 HM U J y a9 N a6;go_upto_region 5 with fail;rw[<- Z.1,<- Z.2];clear Z;go_loopw [7] (λQ wr=>∃(i E:Nat) (Y:Int) (fv:Value) (F:List VS),Q=.int .i64 i/\i<=n/\E<=S.size/\Hid ((Y=0/\F.length=i/\R=(G,(Sr S n o m (n-i) i F E).1,(Sr S n o m (n-i) i F E).2.1,(Sr S n o m (n-i) i F E).2.2))∨(Y≠0/\R.2.2.1=E/\R.2.2.2=Y))/\Hid (RwI w wr f M cb rb S E Y vR L #[.slice (some ⟨H,0,none⟩) n fc,.int .i64 x1,.int .i64 x2,.int .i64 x3] G fv F)) (λQ _=>n-(intOf Q).toNat)
 case atStart=>
  refine⟨0,k3,z3,_,[],rfl,qg_,aO.2,?_,HI⟩
  by_cases hz:z3=0
  ·grind
  exact .inr ⟨hz,by rw[a7,if_neg hz],by rw[a7,if_neg hz]⟩
 case round=>
  clear HI a7;obtain⟨i,E,Y,fv,F,rfl,hi,aT,HE,s⟩:=hrel;obtain⟨_,_,e2,_⟩:=s.tx.cells;have c0:=cq_ 0 _ _ _ s.out.cf;simp only[List.getElem?_toArray,List.getElem?_cons_zero] at c0
  by_cases C:i<n/\Y=0
  ·obtain⟨C,rfl⟩:=C;have l:Hid (F.length=i/\R=(G,(Sr S n o m (n-i) i F E).1,(Sr S n o m (n-i) i F E).2.1,(Sr S n o m (n-i) i F E).2.2)):=w_;clear HE;have g1:i<(n:Int):=o_;have g2:0<=(i:Int):=o_;go_upto_if 38 with fail
   go_cut [8] (λv wx=>v=.int .u8 (Eg i n)/\wx=wr)
   case first=>
    by_cases hl:i+1=n
    ·have HS:Hid (Eg i n=_):=if_pos hl;have g3:((i:_)==(n:Int)-1)=_:=beq_iff_eq.2 o_;go_wp2;go_meet
     exact⟨by rw[HS],rfl⟩
    have HS:Hid (Eg i n=_):=if_neg hl;have g3:((i:_)==(n:Int)-1)=_:=beq_eq_false_iff_ne.2 o_;go_wp2;go_meet
    exact⟨by rw[HS],rfl⟩
   case rest=>
    obtain⟨rfl,hw⟩:=hcut;obtain rfl:=hw.symm;clear hw;obtain⟨a0,a1,a2⟩:=b5 wr s.lo i C;have HF:=ZdO _ _ (m i).toNat S _ (ct i) _ _ _ s.tx aT (λe=>by have:=(aM i C).2 e;omega) (Xs i n) hk;have aQ:=ZkJ (S:=S) (o i) (m i).toNat (Xs i n) aT;obtain⟨r,Hr⟩:=ez_ (bz S E (o i) (m i).toNat (Eg i n));rw[Hr] at HF aQ
    have HN:Hid ((r.2.2=0/\(F++[r.1]).length=i+1/\R=(G,(Sr S n o m (n-(i+1)) (i+1) (F++[r.1]) r.2.1).1,(Sr S n o m (n-(i+1)) (i+1) (F++[r.1]) r.2.1).2.1,(Sr S n o m (n-(i+1)) (i+1) (F++[r.1]) r.2.1).2.2))∨(r.2.2≠0/\R.2.2.1=r.2.1/\R.2.2.2=r.2.2)):=by
     have e:Sr S n o m (n-i) i F E=if r.2.2=0 then Sr S n o m (n-(i+1)) (i+1) (F++[r.1]) r.2.1 else(F++[r.1],r.2.1,r.2.2):=by rw[show n-i=(n-(i+1))+1 by omega,Sr];rw[Hr]
     by_cases hz:r.2.2=0
     exact .inl ⟨hz,by rw[Qe,l.1];rfl,by rw[l.2,e,if_pos hz]⟩;exact .inr ⟨hz,by rw[l.2,e,if_neg hz],by rw[l.2,e,if_neg hz]⟩
    have aL:=x1_ l.1;clear l Hr;generalize o i=wdi,(m i).toNat=sci at *;go_wp2_with fail
    refine HF.mono ?_;rintro e w5 ⟨rfl,h5,t5⟩;have aV:=x1_ (s.text h5 t5);clear h5 t5 s HF e2 c0 a0 a1 a2;have q5:=aV.out;have bA:=(Qb q5.rw).1;obtain⟨⟨ms,nm,wo⟩,kr,zr⟩:=r;obtain⟨X,B⟩:=ex_ ((w5.alloc (.cells #[.bool ms,I_ nm,.string wo] 335)).alloc (.cells #[.bool ms,I_ nm,.string wo] 335));have b6:E_ w5 X:=(by rw[B];exact bA_.alloc s_ _);have d:Hid (RwI w _ _ _ _ _ S kr zr _ L _ _ _ F):=q5.below b6;have aE:=x1_ B;have d0:_=some fv:=cq_ 1 _ _ _ q5.rw;have aK:=aL.out;obtain⟨i0,I,aF,aD,T⟩:=info_parts ZjX;clear q5 B b6 aV
    go_wp2_with (at_builtin;rw[<- aE];refine Ab rfl (.tmp 48) (.tmp 50) 336 rfl rb 335 i0 _ 3 32 Tryz.underlying336 I aF aD T rfl d_ fv F.length (Ic F) rfl d.fl _ 1 1 [.bool ms,I_ nm,.string wo] rfl rfl ?_ ?_ ?_ ?_ ?_ ?_ ?_)
    have e:=Am (w5.alloc (.cells #[.bool ms,I_ nm,.string wo] 335)) #[.bool ms,I_ nm,.string wo] 335;rw[show(w5.alloc (.cells #[.bool ms,I_ nm,.string wo] 335)).heap.size=w5.heap.size+1 by simp] at e;rw[aE];exact e
    ·intro u hu;simp at hu;rcases hu with rfl|rfl|rfl<;>rfl
    decide;unfold maxLen;omega;omega;have:=(Qb d.out.rw).1;omega;intro v7 w7 H7;obtain⟨r7,g7,d7,_,q7,p7,a3⟩:=H7.out;subst a3;obtain⟨m1,m2⟩:=d.out.more (x:=⟨ms,nm,wo⟩) g7 (by rw[aL.out];exact r7);have bC:=x1_ m1;have c7:=cq_ 1 _ _ _ m2;have f7:=fq_ 1 _ _ m2;simp at c7;clear m1 m2 r7 g7 d7 H7 d d0 aE;go_wp2;go_roundw;case rel=>grind
    case measure=>exact z_
  by_cases hz:Y=0
  ·subst hz;have aH:i=n:=o_
   have l:Hid (R=(G,F,E,0)):=by
    rcases HE.out with h|h
    show _=_;rw[h.2.2,aH,Nat.sub_self,Sr];omega
   have g1:¬i<(n:Int):=o_;clear HE C aH;obtain⟨ra,rc,b7⟩:=s.rows.shape
   obtain⟨fa,O,aX⟩:∃a c,fv=.slice a F.length c:=by
    rcases s.out.fl.2 with⟨e,h0⟩|⟨g,cap,cur,e,_⟩
    ·grind
    grind
   subst b7 aX;have q1:=s.tx.cells.2.2.2;have q2:=cR_ 0 s.rw;have q3:=cR_ 1 s.rw;obtain⟨i0,I,aF,aD,T⟩:=info_parts ZjY;generalize aK:F.length=fl at s q3;generalize hll:L.length=ll at s q1;have b9:ll<=1000:=o_;have aU:=x1_ hll;clear aK hll;go_upto_region 13 with fail;refine Al (λw'=>w'.cell? _=some _/\w'.cell? _=some _/\w'.cell? _=some _) 10 k_ ⟨q1,q2,q3⟩ (λhHeld=>?_);refine Ah 0 ?_;refine Ah 1 ?_;refine Ah 2 ?_;refine Ah 3 ?_;refine Ah 4 ?_;refine Ah 5 ?_;refine Af (i:=6) k_ rfl (λKK hK=>?_);go_simp;obtain⟨X,B⟩:=ex_ ((wr.alloc (.cells #[I_ G,.slice fa fl O] 338)).drew);have b6:E_ wr X:=(by rw[B];exact bA_.drew);have d:=x1_ (s.below b6)
   have aW:∀j u,(#[I_ G,.slice fa fl O]).toList[j]? =some u->X.cell? (((A_ wr.heap.size 0):Addr).add j)=some u:=(by rw[B];exact Am _ _ _);rw[<- B];have b8:_/\X.cell? _=some (.int _ G)/\X.cell? _=some (.slice fa fl _):=⟨d.tx.cells.2.2.2,cq_ 0 _ _ _ d.rw,cq_ 1 _ _ _ d.rw⟩;have aS:f<=X.heap.size:=(by have:=d.tx.lt;omega);clear B b6 q1 q2 q3 s;refine hK _ _ b8 (λhHeld=>?_);clear hK KK;try simp only[Act.put,List.setIfInBounds_toArray,List.set_cons_succ,List.set_cons_zero]
   refine Af (i:=7) k_ rfl (λKK hK=>?_);refine Az rfl (.tmp 62) (.tmp 64) 281 rfl f 338 i0 _ 2 32 Tryz.underlying281 I aF aD T rfl d_ (.slice ra ll rc) ll (Ox L) j_ (by have:=d.rows.row;rw[aU] at this;exact this) (A_ wr.heap.size 0) 1 1 [I_ G,.slice fa fl O] j_ rfl ?_ ?_ d_ m_ o_ aS ?_;exact aW
   ·intro u hu;simp at hu;rcases hu with rfl|rfl<;>rfl
   intro v7 w7 H7;obtain⟨r7,g7,d7,_,q7,p7,a3⟩:=H7;subst a3;have aR:oh X f (.slice fa fl O) F:=(by have h1:=d.fl;have h2:=d.n3;exact⟨h1.1,h1.2.imp id (λ⟨g,cap,cur,e,hb,rest⟩=>⟨g,cap,cur,e,o_,rest⟩)⟩);have hM:Fy _ _ _ (L++[⟨_,F,_⟩]):=d.rows.more aR g7 (by rw[aU];exact r7);have Q:=(Aa.refl _ _).grown g7 (λk hk _=>hk);have D:=d.tx.touch Q (λe=>Au d.rows.row e d.tx d_ rfl);have aA:=Q.at_ d.rw (λe=>by have:=d.ar rb e;omega);have aZ:_/\w7.cell? _=some (.int _ G)/\w7.cell? _=some (.slice fa fl _):=⟨D.cells.2.2.2,cq_ 0 _ _ _ aA,cq_ 1 _ _ _ aA⟩;have bE:=D.cells.2.2.2;have bD:=fq_ 3 _ _ D
   have HP:Hid (RwP w f M S L (G,F,E,0) (w7.setCell (A_ M 3) (L_ q7 (ll+1) p7))):=(by have t8:Aa _ _ (w7.setCell _ (L_ q7 (ll+1) p7)):=(Aa.refl (λq=>q=M) _).setCell (p:=(A_ M 3)) (λ_=>rfl) _;have bB:=Q.size;have h1:=d.n1;refine⟨_,_,ht_ 3 _ _ _ D,hM.touch t8 (λq hq e=>Au hM.row hq D d_ e) (λp hp q hq e=>Au (hM.each p hp) hq D d_ e),by rw[if_pos rfl,List.map_append];rfl,?_⟩;exact(d.lo.trans (Q.to_below aS (λq hq=>(rl_ d.rows.row q hq).1))).trans (t8.to_below o_ (λq hq=>o_)));clear aR hM Q D aA r7 g7 d7 d;refine hK _ _ aZ (λhHeld=>?_);clear hK KK;try simp only[Act.put,List.setIfInBounds_toArray,List.set_cons_succ,List.set_cons_zero]
   refine Ah 8 ?_;refine Ah 9 ?_;refine Ai (i:=10) k_ rfl k_ (λKK hK=>?_);go_simp;refine hK _ _ ?_;clear hK KK;try simp only[Act.put,List.setIfInBounds_toArray,List.set_cons_succ,List.set_cons_zero]
   refine Ak k_ ?_ _;go_wp2;go_end0;rw[l];exact⟨rfl,HP⟩
  have l:Hid (R.2.2.1=E/\R.2.2.2=Y):=w_;have T:=beq_eq_false_iff_ne.2 hz;have HZ:=x1_ hz;clear HE C hz
  by_cases C:i<n
  ·have g1:i<(n:Int):=o_;go_wp2;go_end0;refine⟨rfl,?_⟩;unfold RwP;rw[l.1,l.2];exact⟨vR,L,s.tx,s.rows,by rw[if_neg HZ],s.lo⟩
  have g1:¬i<(n:Int):=o_;go_wp2;go_end0;refine⟨rfl,?_⟩;unfold RwP;rw[l.1,l.2];exact⟨vR,L,s.tx,s.rows,by rw[if_neg HZ],s.lo⟩
def RdP(w:World)(S:ByteArray)(R:List (Int×List VS)×Nat×Int)(e:Ending)(w':World):Prop:=
 ∃tb vR L,e=.returned (P_ tb)/\w.heap.size<=tb/\Fb w' tb S R.2.1 R.2.2 vR/\Fy w' w.heap.size vR L/\L.map Jy.pr=R.1/\L.length<=200/\E_ w w'
def uq n t G S B F x v m ct w (hF:Dd w t 0 n v m ct)(a6:t<w.heap.size)(hn:n<=4)(a0:∀i,i<n->0<=m i/\(v i=false->m i<=3))(hk:S.size<=1000000000000000):C_ 178 #[.agg #[.slice (some ⟨t,0,none⟩) n G,.int .i64 B,.int .i64 F,.int .i64 x],.string S] w λe w'=>RdP w S (Jd S n v m (S.size+1) [] 0) e w':=by
 obtain⟨R,A⟩:=ez_ (Jd S n v m (S.size+1) [] 0);rw[A];obtain⟨X,j⟩:=ex_ ((w.alloc (.cells #[L_ t n G,I_ B,I_ F,I_ x] 37)).alloc (.cells #[.string S,I_ 0,I_ 0,.slice none 0 0] 283));obtain⟨l,y⟩:=ex_ (w.heap.size+1);have I:Fb X l S 0 0 (.slice none 0 0):=(by have e:=ha_ (w.alloc (.cells #[L_ t n G,I_ B,I_ F,I_ x] 37)) (.cells #[.string S,I_ 0,I_ 0,.slice none 0 0] 283);rw[show(w.alloc (.cells #[L_ t n G,I_ B,I_ F,I_ x] 37)).heap.size=w.heap.size+1 by simp,<- j,<- y] at e;exact e);have O:X.heap[w.heap.size]? =some (.cells #[L_ t n G,I_ B,I_ F,I_ x] 37 (0,0)):=by grind [Below.heap_alloc,heap_alloc_new]
 have M:E_ w X:=(by rw[j];exact bA_.alloc s_ _);have HI:Hid (_/\Fy X (w.heap.size+1) _ _/\_/\_):=⟨I,Fy.nil _ _,O,M⟩;have c:=x2_ j y;have a2:Hid (∀W,Below _ w W->_):=λW hW=>hF.below hW;clear j y I O M hF;go_enter Tryz.func178,Tryz.ntmps178;go_upto_region 2 with fail;rw[<- c.1,<- c.2]
 go_loopw [13] (λ_ wr=>∃(b f:Nat) (o:Int) (vR:Value) (L:List Jy),b<=S.size/\L.length<=200/\(o=0->S.size+1<=f+b)/\Hid ((o=0/\R=Jd S n v m f (L.map Jy.pr) b)∨(o≠0/\R=(L.map Jy.pr,b,o)))/\Hid (Fb wr l S b o vR/\Fy wr (w.heap.size+1) vR L/\wr.heap[w.heap.size]? =some (.cells #[.slice (some ⟨t,0,none⟩) n G,.int .i64 B,.int .i64 F,.int .i64 x] 37 (0,0))/\E_ w wr)) (λ_ wr=>match wr.cell? ⟨l,1,none⟩,wr.cell? ⟨l,2,none⟩ with|some (.int _ k),some (.int _ z)=>if z=0 then S.size+1-k.toNat else 0|_,_=>0)
 case atStart=>exact⟨0,S.size+1,0,_,[],qg_,s_,λ_=>o_,.inl ⟨rfl,A.symm⟩,HI⟩
 case round=>
  clear HI A;obtain⟨b,f,o,vR,L,T,U,hf,Z,a⟩:=hrel;have HC:=a.1.cells;obtain⟨_,e1,e2,e3⟩:=HC;have J:=x2_ e1 e2;obtain⟨ra,rc,D⟩:=a.2.1.shape
  by_cases C:b<S.size/\o=0
  ·obtain⟨C,rfl⟩:=C;have hf:=hf rfl;obtain⟨f,rfl⟩:∃f',f=f'+1:=⟨f-1,o_⟩;have E:Hid (R=Jd S n v m (f+1) (L.map Jy.pr) b):=w_;have g1:b<(S.size:Int):=o_
   by_cases h200:L.length=200
   ·have u:Hid (R=(L.map Jy.pr,b,3)):=(by grind [Jd]);have f2:=fq_ 2 _ _ a.1;rw[h200] at D;subst D;have Y:Hid (RdP w S (L.map Jy.pr,b,3) (.returned (P_ l)) (wr.setCell (A_ l 2) (I_ 3))):=(by obtain⟨H,V⟩:=a.1.put 3;have h1:=a.1.lt;have h2:=c.2;have s:=a.2.1.touch V (λq hq e=>Au a.2.1.row hq a.1 d_ e) (λp hp q hq e=>Au (a.2.1.each p hp) hq a.1 d_ e);exact⟨l,_,L,rfl,o_,H,⟨⟨s.row.1,s.row.2.imp id (λ⟨g,cap,cur,e,hb,rest⟩=>⟨g,cap,cur,e,o_,rest⟩)⟩,λp hp=>⟨(s.each p hp).1,(s.each p hp).2.imp id (λ⟨g,cap,cur,e,hb,rest⟩=>⟨g,cap,cur,e,o_,rest⟩)⟩⟩,rfl,U,a.2.2.2.trans (V.to_below o_ (λq hq=>o_))⟩);clear Z E a;go_wp2;go_ret;rw[u];exact Y
   have Q:L.length<200:=o_;have a4:((L.length:Int)==200)=_:=beq_eq_false_iff_ne.2 o_;have d:=a.2.2.1;have d0:=cR_ 0 d;have d1:=cR_ 1 d;have d2:=cR_ 2 d;have d3:=cq_ 3 _ _ _ d;simp at d0 d1 d2 d3;have HW:=ZiV _ l _ n t G S vR L B F x _ _ ct wr a.1 a.2.1 (by have:=c.2;omega) T (a2 wr a.2.2.2) o_ hn a0 o_ hk;have N:=ZkT n v m T;obtain⟨r,Hr⟩:=ez_ (Zv S n v m b);rw[Hr] at HW N;have HN:Hid (R=if r.2.2.2=0 then Jd S n v m f (L.map Jy.pr++[(r.1,r.2.1)]) r.2.2.1 else(L.map Jy.pr,r.2.2.1,r.2.2.2)):=(by show _=_;rw[E,Jd,if_pos C,if_neg w_];simp only;rw[Hr]);subst D;have a1:=x1_ Q;clear Z E Hr d h200 Q;go_wp2_with fail
   refine HW.mono ?_;rintro e w2 ⟨rfl,h2⟩;have H2:=x1_ h2;clear h2 HW;go_wp2;go_roundw
   case rel=>
    obtain⟨P,L',H,V,y3,y4⟩:=H2.out;have j:=a.1.lt;have a5:=c.2;have h3:=a1.out;have a3:=congrArg List.length y3;refine⟨r.2.2.1,f,r.2.2.2,P,L',N.1.2,?_,?_,?_,H,V,?_,?_⟩
    ·grind
    omega
    ·grind
    exact(y4.block _ o_).trans a.2.2.1;exact a.2.2.2.trans (y4.mono o_)
   case measure=>
    obtain⟨P,L',H,_⟩:=H2;rw[H.cells.2.1,H.cells.2.2.1,J.1,J.2]
    grind
  have u:Hid (R=(L.map Jy.pr,b,o)):=by
   rcases Z.out with h|h
   ·show _=_;have:=hf h.1;obtain⟨f,rfl⟩:∃f',f=f'+1:=⟨f-1,o_⟩
    grind [Jd]
   exact h.2
  have Y:Hid (RdP w S (L.map Jy.pr,b,o) (.returned (P_ l)) wr):=(by have h2:=c.2;have s:=a.2.1;exact⟨l,_,L,rfl,o_,a.1,⟨⟨s.row.1,s.row.2.imp id (λ⟨g,cap,cur,e,hb,rest⟩=>⟨g,cap,cur,e,o_,rest⟩)⟩,λp hp=>⟨(s.each p hp).1,(s.each p hp).2.imp id (λ⟨g,cap,cur,e,hb,rest⟩=>⟨g,cap,cur,e,o_,rest⟩)⟩⟩,rfl,U,a.2.2.2⟩);clear Z a
  by_cases hz:o=0
  ·subst hz;have g1:¬b<(S.size:Int):=o_;go_wp2;go_ret;rw[u];exact Y
  have g1:=beq_eq_false_iff_ne.2 hz;go_wp2;go_ret;rw[u];exact Y
def mu(w:World)(ib fk n fc:Nat)(x1 x2 x3:Int)(S:ByteArray)(z p:Int)(cl:Bool):Prop:=w.heap[ib]? =some (.cells #[L_ fk n fc,I_ x1,I_ x2,I_ x3,.string S,I_ z,I_ p,.bool cl] 278 (0,0))
def mu.cells{w ib fk n fc x1 x2 x3 S z p cl}(h:mu w ib fk n fc x1 x2 x3 S z p cl):(w.cell? (A_ ib 0)=some (L_ fk n fc)/\w.cell? (A_ ib 1)=some (I_ x1)/\w.cell? (A_ ib 2)=some (I_ x2)/\w.cell? (A_ ib 3)=some (I_ x3)/\w.cell? (A_ ib 4)=some (.string S))/\w.cell? (A_ ib 5)=some (I_ z)/\w.cell? (A_ ib 6)=some (I_ p)/\w.cell? (A_ ib 7)=some (.bool cl):=
 ⟨⟨cq_ 0 _ 278 (0,0) h,cq_ 1 _ 278 (0,0) h,cq_ 2 _ 278 (0,0) h,cq_ 3 _ 278 (0,0) h,cq_ 4 _ 278 (0,0) h⟩,cq_ 5 _ 278 (0,0) h,cq_ 6 _ 278 (0,0) h,cq_ 7 _ 278 (0,0) h⟩
def zm a c n i g d f z p S b w (h:mu w a c n i g d f S z p true):C_ 125 #[.pointer (some ⟨a,0,none⟩),.string b] w λe w'=>e=.returned (.tuple #[.int .i64 1,.int .i64 0])/\w'=w:=by
 have j:=h.cells.2.2.2;go_enter Tryz.func125,Tryz.ntmps125;go_wp2;go_ret2
 exact⟨rfl,rfl⟩
def ZbG a k n g j d c z p S b w (h:mu w a k n g j d c S z p false)(f:z≠0):C_ 125 #[.pointer (some ⟨a,0,none⟩),.string b] w λe w'=>e=.returned (.tuple #[.int .i64 z,.int .i64 p])/\∃m,w'=w.drewN m:=by
 obtain⟨_,q,o,l⟩:=h.cells;have i:=bne_iff_ne.2 f;go_enter Tryz.func125,Tryz.ntmps125;go_upto_region 4 with fail;go_quiet (fail);go_wp2;go_ret2
 exact⟨rfl,_,rfl⟩
def fdA(S:ByteArray)(R:List (Int×List VS)×Nat×Int):Int×Int:=if R.2.2≠0/\R.2.1<S.size then(R.2.2,R.2.1) else(0,0)
def RfP(w:World)(ib fk n fc:Nat)(x1 x2 x3:Int)(S:ByteArray)(a:Int×Int)(w':World):Prop:=mu w' ib fk n fc x1 x2 x3 S a.1 a.2 false/\Aa (λq=>q=ib) w w'
def Zf2 c f n J G I B S b t k ct w (h:mu w c f n J G I B S 0 0 false)(x:Dd w f 0 n t k ct)(r:f≠c)(j:f<w.heap.size)(hn:n<=4)(U:∀i,i<n->0<=k i/\(t i=false->k i<=3))(X:(S++b).size<=1000000000000000):C_ 125 #[.pointer (some ⟨c,0,none⟩),.string b] w λe w'=>e=.returned (.tuple #[.int .i64 (fdA (S++b) (Jd (S++b) n t k ((S++b).size+1) [] 0)).1,.int .i64 (fdA (S++b) (Jd (S++b) n t k ((S++b).size+1) [] 0)).2])/\RfP w c f n J G I B (S++b) (fdA (S++b) (Jd (S++b) n t k ((S++b).size+1) [] 0)) w':=by
 obtain⟨⟨_,_,_,_,c4⟩,A,s,c7⟩:=h.cells;have f4:=fq_ 4 _ _ h;have a8:S.size+(b.size:Int)<=1000000000000000:=w_;obtain⟨T,Z⟩:=ex_ (S++b);rw[<- Z] at X ⊢;obtain⟨w1,g⟩:=ex_ (w.setCell (A_ c 4) (.string T));have u:Aa (λq=>q=c) w w1:=(by rw[g];exact(Aa.refl (λq=>q=c) w).setCell (p:=(A_ c 4)) (λ_=>rfl) _);have v:mu w1 c f n J G I B T 0 0 false:=(by rw[g];exact ht_ 4 _ _ _ h);have O:Dd _ _ 0 n t k _:=⟨x.le,λh0=>Qh (x.lt h0) u.size,λi hi=>by rw[<- x.c0 i hi];simp[World.cell?,u.block f j r],λi hi=>by rw[<- x.c1 i hi];simp[World.cell?,u.block f j r],λi hi=>by rw[<- x.c2 i hi];simp[World.cell?,u.block f j r]⟩;have E:=Qh j u.size
 have a0:=x1_ (λW hW=>uq n _ J T G I B _ _ _ W (O.below hW) (Qh E hW.size) hn U X);generalize Jd T n t k (T.size+1) [] 0=R at *;have m:=x2_ g Z;have F:=x2_ v u;clear h x O g Z v u X;go_enter Tryz.func125,Tryz.ntmps125;go_upto_region 6 with fail;rw[<- m.2,<- m.1];clear m c4 A s c7 f4;have hc:=F.1.cells.1;refine Al (λw'=>w'.cell? _=some _/\w'.cell? _=some _/\w'.cell? _=some _/\w'.cell? _=some _/\w'.cell? _=some _) 9 k_ hc (λhHeld=>?_);refine Ah 0 ?_;refine Ah 1 ?_;refine Ah 2 ?_;refine Ah 3 ?_;refine Ah 4 ?_;refine Ah 5 ?_;refine Ah 6 ?_;refine Ah 7 ?_;refine Af (i:=8) k_ rfl (λKK hK=>?_);go_simp;refine(a0 _ bz_.drew).mono ?_;rintro e w2 ⟨tb,vR,L,rfl,a5,hx,_,_,_,N⟩
 have o:Below w1.heap.size _ _:=bz_.drew.trans N;have z:mu _ _ _ n _ _ _ _ T 0 0 _:=(o.block _ (Qb F.1).1).trans F.1;have t2:=F.2.below o;have a:=x3_ hx z t2;have a3:=z.cells.1;clear hx z t2 N o F hc;go_simp;refine hK _ _ a3 (λhHeld=>?_);clear hK KK;try simp only[Act.put,List.setIfInBounds_toArray,List.set_cons_succ,List.set_cons_zero]
 refine Ai (i:=9) k_ rfl k_ (λKK hK=>?_);go_simp;refine hK _ _ ?_;clear hK KK;try simp only[Act.put,List.setIfInBounds_toArray,List.set_cons_succ,List.set_cons_zero]
 refine Ak k_ ?_ _;obtain⟨_,H,y,_⟩:=a.1.cells;obtain⟨⟨_,_,_,_,c4⟩,A,s,_⟩:=a.2.1.cells;have f5:=fq_ 5 _ _ a.2.1
 by_cases hz:R.2.2=0
 ·have M:Hid (fdA T R=_):=if_neg (λh=>h.1 hz);have a4:(R.2.2 !=0)=false:=(by rw[hz];rfl);rw[hz] at y;go_upto_region 7 with fail;go_quiet (fail);go_upto_region 10 with fail;go_quiet (fail);go_wp2;go_ret2
  rw[M];exact⟨rfl,a.2.1,(a.2.2.drewN _).drewN _⟩
 have a4:=bne_iff_ne.2 hz
 by_cases hlt:R.2.1<T.size
 ·have M:Hid (fdA T R=_):=if_pos ⟨hz,hlt⟩;have g1:decide (((R.2.1:_):_)<(T.size:Int))=_:=decide_eq_true o_
  have C:tb≠_:=λe=>by have v:=a.1;have z:=a.2.1;unfold Fb at v;unfold mu at z;rw[e,z] at v;simp at v
  have a6:_≠_:=λe=>C e.symm;go_upto_region 7 with fail;go_quiet (fail);obtain⟨D,d⟩:=ex_ (w2.drewN nq);have P:mu D c f n J G I B T 0 0 false:=(by rw[d];exact a.2.1);have l:Fb D tb T R.2.1 R.2.2 vR:=(by rw[d];exact a.1.drew _);have t3:Aa (λq=>q=c) w D:=(by rw[d];exact a.2.2.drewN _);rw[<- d];clear H y c4 A s f5 a d;obtain⟨_,H,y,_⟩:=l.cells;obtain⟨_,A,s,_⟩:=P.cells;have f5:=fq_ 5 _ _ P;have Q:=ht_ 5 _ _ (I_ R.2.2) P;have V:Aa _ _ (D.setCell _ (I_ R.2.2)):=(Aa.refl (λq=>q=c) _).setCell (p:=(A_ c 5)) (λ_=>rfl) _;have x4:=l.touch V C;go_upto_region 9 with fail;generalize D.setCell (A_ c 5) (I_ R.2.2)=w4 at *;clear H y A s f5;obtain⟨_,H,y,_⟩:=x4.cells;have s:=cR_ 6 Q
  have f6:=fq_ 6 _ _ Q;have a2:=ht_ 6 _ _ (I_ ((R.2.1:Nat):Int)) Q;have t5:Aa _ _ (w4.setCell _ (I_ ((R.2.1:_):_))):=(Aa.refl (λq=>q=c) _).setCell (p:=(A_ c 6)) (λ_=>rfl) _;go_upto_region 10 with fail;generalize w4.setCell (A_ c 6) (I_ ((R.2.1:Nat):Int))=w5 at *;have Y:mu _ _ _ n _ _ _ _ T _ _ _:=a2;obtain⟨_,A,a7,_⟩:=Y.cells;have HZ:=x2_ Y ((t3.trans V).trans t5);clear H y s f6 Q a2 t3 V t5 l x4 P Y;go_quiet (fail);go_wp2;go_ret2
  rw[M];exact⟨rfl,HZ.1,HZ.2.drewN _⟩
 have M:Hid (fdA T R=_):=if_neg (λh=>hlt h.2);have g1:decide (((R.2.1:_):_)<(T.size:Int))=_:=decide_eq_false o_;go_upto_region 7 with fail;go_quiet (fail);go_upto_region 10 with fail;go_quiet (fail);go_wp2;go_ret2
 rw[M];exact⟨rfl,a.2.1,(a.2.2.drewN _).drewN _⟩
def ZcT S n b a (c:1<=n):fdA S (Jd S n b a (S.size+1) [] 0)=Nr (Ca n b a RS.start (Aq S) 0):=by
 rcases ZbR (S:=S) (wd:=b) (sc:=a) c with⟨s,h1,_,h3,_,_⟩|⟨s,h1,_,h3,h4⟩|⟨h1,h2,h3⟩
 rw[h1];exact if_neg (λh=>h.1 h3);rw[h1];exact if_neg (λh=>o_);rw[h1];exact if_pos ⟨h2,h3⟩
def loK(n:Int)(k j:Nat):List Int:=Ba n j++List.replicate (k-j) 0
def ZeH n {k j}(h:j<=k):(loK n k j).length=k:=by simp[loK,Gc];omega
def Zj9 n {k j}(h:j<k):(loK n k j).set j (Vx j n%256)=loK n k (j+1):=by unfold loK;rw[List.set_append_right _ _ (by rw[Gc];omega),Gc,Nat.sub_self,show k-j=(k-(j+1))+1 by omega,List.replicate_succ,List.set_cons_zero];simp[Ba]
def Zj8 n k:loK n k k=Ba n k:=by simp[loK]
def Qw(m:Int)(n k:Nat) w (E:k<=8)(z:n<=1000000000000)(q:(0<=m/\m=n)∨(m<0/\m=n-4294967296)):C_ 135 #[.int .i64 m,.int .i64 k] w λe w'=>e=.returned (.string (strOfNums (Ba n k)))/\Below w.heap.size w w':=by
 have A:=Tt k o_;go_enter Tryz.func135,Tryz.ntmps135;go_upto_if 8 with fail
 go_cut [0] (λv wx=>v=.int .i64 (n:Nat)/\wx=w)
 case first=>
  rcases q with⟨a,b⟩|⟨a,b⟩
  ·subst b;have C:¬(n:Int)<0:=o_;go_wp2;go_meet
   grind
  have l:m+4294967296=n:=o_;go_wp2;go_meet
  grind
 case rest=>
 obtain⟨rfl,y⟩:=hcut;obtain rfl:=y.symm;go_upto_region 4 with fail
 have t:Hid (Bj (w.alloc (.cells (madeCells #[.int .u8 0] k) 5)) w.heap.size (L_ w.heap.size k k) (loK n k 0)/\E_ w (w.alloc (.cells (madeCells #[.int .u8 0] k) 5))):=by
  refine⟨?_,bA_⟩
  grind [Tr,loK,Ba]
 generalize w.alloc (.cells (madeCells #[.int .u8 0] k) 5)=w1 at *;go_upto_region 5 with fail;go_loopw [0,6] (λtn ti wr=>∃(j x:Nat),tn=.int .i64 (x:Nat)/\ti=.int .i64 j/\j<=k/\x<=1000000000000/\Hid (Vx j n=(x:Int))/\Hid (Bj wr w.heap.size (.slice (some ⟨w.heap.size,0,none⟩) k k) (loK n k j)/\E_ w wr)) (λ_ ti _=>k-(intOf ti).toNat)
 case atStart=>exact⟨0,n,rfl,rfl,qg_,z,rfl,t⟩
 case round=>
  obtain⟨j,x,rfl,rfl,i,D,g,c⟩:=hrel
  by_cases hjk:j<k
  ·have B:0<=(j:Int):=o_;have l:j<(k:Int):=o_;obtain⟨u,o⟩:=c.1.cellK (k:=j) (ZeH _ i).symm hjk;have s:Hid (Bj (wr.setCell (A_ w.heap.size j) (.int .u8 (x%256))) w.heap.size (L_ w.heap.size k k) (loK n k (j+1))/\E_ w (wr.setCell (A_ w.heap.size j) (.int .u8 (x%256)))):=(by have:=c.1.put (k:=j) (ZeH _ i).symm ((x:Int)%256);rw[<- g,Zj9 _ hjk] at this;rw[<- g];exact⟨this.1,c.2.setCell qa_ _⟩);have d:Hid (Vx (j+1) n=(x/256:Nat)):=by show _=_;unfold Vx;rw[g];omega
   have u1:IntKind.u8.wrap (x%256)=x%256:=(by simp only[IntKind.wrap,IntKind.bits,IntKind.signed];simp);go_upto_region 8 with fail;generalize wr.setCell (A_ w.heap.size j) (.int .u8 ((x:Int)%256))=w2 at *;refine rd_ ?_;exact⟨j+1,x/256,g_,g_,o_,o_,d,s⟩
  have h:j=k:=o_;subst h;have r:¬j<(j:Int):=o_;have f:=Pz _ _ _ _ c.1;rw[Zj8] at f;have p:=x1_ c.2;go_wp2;go_ret;exact⟨rfl,p⟩
def Hm:Value:=.slice none 0 0
structure Ry(w:World)(o:Nat->Nat)(c:Array Value)(i tl tm:Nat)(F:World->Value->Value->Prop)(N)(vn vm)(vs ms):Prop where
 c0:c[i]? =some vn
 c1:c[i+1]? =some vm
 rn:w.ownsRow 0 tl 1 vn vs.length vs
 on:∀k,vn.ownBlock=some k->o k=i
 rm:w.ownsRow 0 tm 1 vm ms.length ms
 om:∀k,vm.ownBlock=some k->o k=i+1
 len:ms.length=vs.length
 few:vs.length<=4*N
 all:∀j,j<vs.length->Ii w o 13 (λW=>F W (vs.getD j Hm) (ms.getD j Hm))
def Grp(w:World)(o:Nat->Nat)(c:Array Value)(i tl tm:Nat)(F:World->Value->Value->Prop)(N:Nat):Prop:=∃vn vm vs ms,Ry w o c i tl tm F N vn vm vs ms
section
variable {w w':World} {o o':Nat->Nat} {c c':Array Value} {i tl tm N:Nat} {F:World->Value->Value->Prop} {vn vm:Value} {vs ms:List Value} {S:Nat->Prop}
def Ry.keep(h:Ry w o c i tl tm F N vn vm vs ms)(t:Aa S w w')(d:∀k,k<w.heap.size->S k->o k≠i/\o k≠i+1/\o k≠13)(b:Dq w o o')(m:i<20)(e0:c'[i]? =c[i]?)(g:c'[i+1]? =c[i+1]?){f}(p:N<=f):Ry w' o' c' i tl tm F f vn vm vs ms:=by
 have a:∀{ty n:Nat} {v:_} {xs:_},w.ownsRow 0 ty 1 v n xs->_:=λhr k hk=>(rl_ hr k hk).2;refine⟨e0.trans h.c0,g.trans h.c1,t.row h.rn (λk hk e=>(d k (a h.rn k hk) e).1 (h.on k hk)),λk hk=>?_,t.row h.rm (λk hk e=>(d k (a h.rm k hk) e).2.1 (h.om k hk)),λk hk=>?_,h.len,by have:=h.few;omega,λj hj=>(h.all j hj).step t (λk hk e=>(d k hk e).2.2) b⟩
 ·have l:=h.on k hk
  rcases b k (a h.rn k hk) with e|e
  omega;omega
 have l:=h.om k hk
 rcases b k (a h.rm k hk) with e|e
 omega;omega
def Grp.keep(h:Grp w o c i tl tm F N)(t:Aa S w w')(m:∀k,k<w.heap.size->S k->o k≠i/\o k≠i+1/\o k≠13)(d:Dq w o o')(b:i<20)(e0:c'[i]? =c[i]?)(g:c'[i+1]? =c[i+1]?){a}(e:N<=a):Grp w' o' c' i tl tm F a:=by obtain⟨f,n,l,j,h⟩:=h;exact⟨f,n,l,j,h.keep t m d b e0 g e⟩
end
def fE(W:World)(x m:Value):Prop:=∃z:Int,m=I_ z/\Ft W z x
def fN(W:World)(x m:Value):Prop:=(∃z:Int,m=I_ z)/\Gi W 3 m x
def fS(W:World)(x m:Value):Prop:=(∃s:ByteArray,m=.string s)/\Gi W 9 m x
def fL(W:World)(x m:Value):Prop:=∃z mb,m=I_ z/\Gi W 25 (L_ mb 1 1) x/\W.heap[mb]? =some (.cells #[m] 3 (0,0))
structure Hx(w)(o:Nat->Nat)(g)(c)(N:Nat):Prop where
 wb:WB w g c
 og:o g=0
 sz:c.size=13
 nx:∃z:Int,c[12]? =some (I_ z)/\0<=z/\z<=N
 es:Grp w o c 4 29 3 fE N
 ns:Grp w o c 6 25 3 fN N
 ss:Grp w o c 8 47 9 fS N
 ls:Grp w o c 10 84 3 fL N
def Hx.keep{w f o d g N c S}(h:Hx w o g c N)(t:Aa S w f)(i:∀k,k<w.heap.size->S k->13<o k)(a:Dq w o d):Hx f d g c N:=by
 have b:=h.wb.lt;refine⟨t.at_ h.wb (λe=>by have:=i g b e;have:=h.og;omega),?_,h.sz,h.nx,?_,?_,?_,?_⟩
 ·have:=h.og
  rcases a g b with e|e
  omega;omega
 exact h.es.keep t (λk hk e=>w_) a d_ rfl rfl qa_;exact h.ns.keep t (λk hk e=>w_) a d_ rfl rfl qa_;exact h.ss.keep t (λk hk e=>w_) a d_ rfl rfl qa_;exact h.ls.keep t (λk hk e=>w_) a d_ rfl rfl qa_
def Lo(w:World)(o:Nat->Nat)(E:Nat->Prop)[DecidablePred E](i:Nat)(vn vm:Value)(k:Nat):Nat:=
 if k<w.heap.size/\o k≠99 then o k else if E k then 13 else if vn.ownBlock=some k then i else if vm.ownBlock=some k then i+1 else 99
def Ni w o E [DecidablePred E] i vn vm:Dq w o (Lo w o E i vn vm):=λk hk=>by
 by_cases e:o k=99
 exact .inl e;right;unfold Lo
 grind
def Rt{w o E}[DecidablePred E]{i a b k}(c:E k)(d:k<w.heap.size->o k=99):Lo w o E i a b k=13:=by
 unfold Lo
 grind
def Ry.grow{w z o c g i J r s N F u q v A B b d l n a C E}[DecidablePred E](h:Ry w o c i r s F N A B l n)(m:oq w z g i c J r s u q v A B l n C b d a)(P:i=6∨i=8∨i=10)(Q:o g=0)(T:∀k,v.ownBlock=some k->o k=99)(M:c.size=13)(D:r≠s)(I:∀k,E k->b.ownBlock≠some k)(t:∀k,E k->d.ownBlock≠some k)(G:∀x∈a,Ii z (Lo w o E i b d) 13 (λW=>F W x q)):Ry z (Lo w o E i b d) (((c.setIfInBounds 12 (I_ C)).setIfInBounds i b).setIfInBounds (i+1) d) i r s F (N+1) b d (l++a) (n++List.replicate 4 q):=by
 have f:=m.len;have L:=Ni w o E i b d;refine⟨?_,?_,?_,λk hk=>?_,?_,λk hk=>?_,?_,?_,λj hj=>?_⟩
 ·grind
 ·grind
 rw[Qe,f];exact m.rn
 ·unfold Lo
  rcases m.nn k hk with e|e
  rw[if_pos ⟨(rl_ h.rn k e).2,by have:=h.on k e;omega⟩];exact h.on k e
  grind
 rw[Qe,List.length_replicate];exact m.rm
 ·unfold Lo
  rcases m.nm k hk with e|e
  rw[if_pos ⟨(rl_ h.rm k e).2,by have:=h.om k e;omega⟩];exact h.om k e;rw[if_neg o_,if_neg (λp=>t k p hk),if_neg (λp=>?_),if_pos hk];obtain⟨U,O⟩:=Ad m.rn p;obtain⟨R,S⟩:=Ad m.rm hk
  grind
 simp[h.len,f]
 ·have:=h.few
  grind
 rw[Qe,f] at hj
 by_cases hjl:j<l.length
 ·have y:(l++a).getD j Hm=l.getD j Hm:=w_;have p:(n++List.replicate 4 q).getD j Hm=n.getD j Hm:=(by simp[List.getD,List.getElem?_append_left (show j<n.length by rw[h.len];exact hjl)]);rw[y,p];refine(h.all j hjl).step m.tch (λk hk e=>?_) L
  rcases e with e|e|e|e
  subst e;omega
  ·grind
  have:=h.on k e;omega;have:=h.om k e;omega
 have H:j-l.length<a.length:=o_;have y:(l++a).getD j Hm=a[j-l.length]:=w_;have p:(n++List.replicate 4 q).getD j Hm=q:=(by rw[List.getD,List.getElem?_append_right (by rw[h.len];omega),List.getElem?_replicate,if_pos (by rw[h.len];omega)];rfl);rw[y,p];exact G _ (Qf _)
def Grp.other{w q o c g i j D m z f l N F s u B v n t a b r p d x E}[DecidablePred E](h:Grp w o c j f l s N)(y:Ry w o c i m z F N n t r p)(A:oq w q g i c D m z u B v n t r p x a b d)(I:o g=0)(L:∀k,v.ownBlock=some k->o k=99)(H:i<=10)(G:j<=10)(J:4<=j)(C:j+1<i∨i+1<j):Grp q (Lo w o E i a b) (((c.setIfInBounds 12 (I_ x)).setIfInBounds i a).setIfInBounds (i+1) b) j f l s (N+1):=by
 refine h.keep A.tch (λk hk e=>?_) (Ni w o E i _ _) o_ ?_ ?_ (Nat.le_succ _)
 ·rcases e with e|e|e|e
  subst e;omega
  ·grind
  have:=y.on k e;omega;have:=y.om k e;omega
 rw[Array.getElem?_setIfInBounds_ne o_,Array.getElem?_setIfInBounds_ne o_,Array.getElem?_setIfInBounds_ne o_];rw[Array.getElem?_setIfInBounds_ne o_,Array.getElem?_setIfInBounds_ne o_,Array.getElem?_setIfInBounds_ne o_]
def zu(c:Array Value) i (b:i<=10) x y z (a:c.size=13):(((c.setIfInBounds 12 x).setIfInBounds i y).setIfInBounds (i+1) z)[12]? =some x/\(((c.setIfInBounds 12 x).setIfInBounds i y).setIfInBounds (i+1) z).size=13:=by refine⟨?_,by simp[a]⟩;rw[Array.getElem?_setIfInBounds_ne o_,Array.getElem?_setIfInBounds_ne o_,Array.getElem?_setIfInBounds_self_of_lt o_]
abbrev Vl(news:List Value)(k:Nat):Prop:=∃x∈news,x.ownBlock=some k
def Zci(w w':World)(o:Nat->Nat)(g:Nat)(N:Nat)(v:Value)(c:Array Value):Prop:=∃o' c',Hx w' o' g c' (N+1)/\Dq w o o'/\Aa (λk=>o k<=13∨v.ownBlock=some k) w w'/\(∀j,j<4->c'[j]? =c[j]?)/\(∀k,w.heap.size<=k->o' k<=13∨o' k=99)/\(∀k,k<w.heap.size->o k=99->v.ownBlock≠some k->o' k=99)/\∀k,k<w.heap.size->o k=99->o' k<=13∨o' k=99
def jl{w w' o g i ty tl tm N c F u mk v vn vm vn' vm' vs ms news nx}(hg:Ry w o c i tl tm F N vn vm vs ms)(hp:oq w w' g i c ty tl tm u mk v vn vm vs ms nx vn' vm' news)(og:o g=0)(hi:i<=10):Aa (λk=>o k<=13∨v.ownBlock=some k) w w':=
 hp.tch.mono (λk _ e=>by
  rcases e with e|e|e|e
  ·grind
  exact .inr e;have:=hg.on k e;omega
  have:=hg.om k e;omega)
theorem jj w o E [DecidablePred E] i vn vm (hi:i<=10):∀k,w.heap.size<=k->Lo w o E i vn vm k<=13∨Lo w o E i vn vm k=99:=λk hk=>by grind [Lo]
def ud{w B o g i z m l N c F u y v n r b f q p a s}(j:Ry w o c i m l F N n r q p)(hp:oq w B g i c z m l u y v n r q p s b f a)(C:i<=10){E}[DecidablePred E](t:∀k,E k->k<w.heap.size->v.ownBlock=some k:=by exact λk hk hl=>by obtain⟨x,A,h⟩:=hk;rcases(hp.all x A).2 k h with e|e;exact e;omega):∀k,k<w.heap.size->o k=99->v.ownBlock≠some k->Lo w o E i b f k=99:=λk hk h9 hv=>by
 unfold Lo;rw[if_neg (λe=>e.2 h9),if_neg (λe=>hv (t k e hk)),if_neg (λe=>?_),if_neg (λe=>?_)]
 ·rcases hp.nm k e with d|d
  have:=j.om k d;omega;omega
 rcases hp.nn k e with d|d
 have:=j.on k d;omega;omega
theorem zg w o E [DecidablePred E] i vn vm (hi:i<=10):∀k,k<w.heap.size->o k=99->Lo w o E i vn vm k<=13∨Lo w o E i vn vm k=99:=λk _ h9=>by grind [Lo]
def ki(c:Array Value) i (hi:4<=i) x y z:∀j,j<4->(((c.setIfInBounds 12 x).setIfInBounds i y).setIfInBounds (i+1) z)[j]? =c[j]?:=λj hj=>w_
def Hx.ownN{w o g N c v L}(h:Hx w o g c N)(A:Ag w 0 v L)(l:∀k,v.ownBlock=some k->o k=99)(t:L.length<=4194304)(C:N<=20000000):C_ 142 #[.pointer (some ⟨g,4,none⟩),v] w λe w'=>e=.returned (.tuple #[])/\Zci w w' o g N v c:=by
 obtain⟨D,y,F,E,a⟩:=h.ns;obtain⟨q,d,p,z⟩:=h.nx;have B:=a.few;have u:=a.len;refine(ji g c v _ _ L _ _ q w h.wb a.c0 a.c1 d A a.rn a.rm ?_ t o_ o_ ⟨p,o_⟩).mono ?_
 ·cases e:y.ownBlock with
  |none=>exact .inl rfl
  |some k=>exact .inr (λe2=>by have:=a.om k e;grind)
 rintro e w' ⟨rfl,i,j,f,hp⟩
 have m:∀k,Vl f k->k<w.heap.size->o k=99:=λk hk t=>by
  obtain⟨x,d,b⟩:=hk
  rcases(hp.all x d).2 k b with e|e
  exact l k e;omega
 have O:=Ni w o (Vl f) 6 i j;have s:=h.wb.lt;obtain⟨n,r⟩:=zu c 6 d_ (I_ (q+1)) i j h.sz;refine⟨rfl,Lo w o _ 6 _ _,_,⟨hp.wb,?_,r,⟨q+1,n,o_,o_⟩,h.es.other a hp h.og l d_ d_ d_ d_,⟨i,j,_,_,a.grow hp d_ h.og l h.sz d_ (λk hk=>by obtain⟨x,d,b⟩:=hk;exact hp.an x d k b) (λk hk=>by obtain⟨x,d,b⟩:=hk;exact hp.am x d k b) (λx d=>?_)⟩,h.ss.other a hp h.og l d_ d_ d_ d_,h.ls.other a hp h.og l d_ d_ d_ d_⟩,O,jl a hp h.og d_,ki c 6 d_ _ _ _,jj _ _ _ _ _ _ d_,ud a hp d_,zg _ _ _ _ _ _ d_⟩
 ·rcases O g s with e|e
  have:=h.og;omega;exact e.trans h.og
 refine(Ii.all (hp.all x d).1 (λk hk=>Rt ⟨x,d,hk⟩ (m k ⟨x,d,hk⟩))).mono (λW hW=>⟨⟨_,rfl⟩,hW⟩)
def Hx.ownT{w o g N c v L}(h:Hx w o g c N)(A:Cc w 0 v L)(l:∀k,v.ownBlock=some k->o k=99)(t:L.length<=4194304)(C:N<=20000000):C_ 143 #[.pointer (some ⟨g,4,none⟩),v] w λe w'=>e=.returned (.tuple #[])/\Zci w w' o g N v c:=by
 obtain⟨D,y,F,E,a⟩:=h.ss;obtain⟨q,d,p,z⟩:=h.nx;have B:=a.few;have u:=a.len;refine(zh g c v _ _ L _ _ q w h.wb a.c0 a.c1 d A a.rn a.rm ?_ t o_ o_ ⟨p,o_⟩).mono ?_
 ·cases e:y.ownBlock with
  |none=>exact .inl rfl
  |some k=>exact .inr (λe2=>by have:=a.om k e;grind)
 rintro e w' ⟨rfl,i,j,f,hp⟩
 have m:∀k,Vl f k->k<w.heap.size->o k=99:=λk hk t=>by
  obtain⟨x,d,b⟩:=hk
  rcases(hp.all x d).2 k b with e|e
  exact l k e;omega
 have O:=Ni w o (Vl f) 8 i j;have s:=h.wb.lt;obtain⟨n,r⟩:=zu c 8 d_ (I_ (q+1)) i j h.sz;refine⟨rfl,Lo w o _ 8 _ _,_,⟨hp.wb,?_,r,⟨q+1,n,o_,o_⟩,h.es.other a hp h.og l d_ d_ d_ d_,h.ns.other a hp h.og l d_ d_ d_ d_,⟨i,j,_,_,a.grow hp d_ h.og l h.sz d_ (λk hk=>by obtain⟨x,d,b⟩:=hk;exact hp.an x d k b) (λk hk=>by obtain⟨x,d,b⟩:=hk;exact hp.am x d k b) (λx d=>?_)⟩,h.ls.other a hp h.og l d_ d_ d_ d_⟩,O,jl a hp h.og d_,ki c 8 d_ _ _ _,jj _ _ _ _ _ _ d_,ud a hp d_,zg _ _ _ _ _ _ d_⟩
 ·rcases O g s with e|e
  have:=h.og;omega;exact e.trans h.og
 refine(Ii.all (hp.all x d).1 (λk hk=>Rt ⟨x,d,hk⟩ (m k ⟨x,d,hk⟩))).mono (λW hW=>⟨⟨_,rfl⟩,hW⟩)
def Zj4:(Tryz.prog.info? 84).map (λi=>(i.zero,i.size,i.bytes))=some (some (.slice none 0 0),1,24):=k_
def Lr(w w':World)(o:Nat->Nat)(g N:Nat)(c:Array Value):Prop:=∃o' c',Hx w' o' g c' N/\Dq w o o'/\Aa (λk=>o k<=13∨o k=99) w w'/\(∀j,j<4->c'[j]? =c[j]?)/\(∀k,w.heap.size<=k->o' k<=13∨o' k=99)/\∀k,k<w.heap.size->o k=99->o' k<=13∨o' k=99
structure ZgL(w wr)(o oi)(g N i)(c ci:Array Value)(v)(vals)(Ls:Nat->List Int):Prop where
 bk:Hx wr oi g ci (N+i)
 sm:Dq w o oi
 tc:Aa (λk=>o k<=13∨o k=99) w wr
 cc:∀j,j<4->ci[j]? =c[j]?
 nw:∀k,w.heap.size<=k->oi k<=13∨oi k=99
 ro:wr.ownsRow 0 25 1 v vals.length vals
 ov:∀k,v.ownBlock=some k->oi k=99
 ls:∀j,i<=j->j<vals.length->Ag wr 0 (vals.getD j Hm) (Ls j)/\∀k,(vals.getD j Hm).ownBlock=some k->oi k=99
 lo:∀j,j<vals.length->∀k,(vals.getD j Hm).ownBlock=some k->k<w.heap.size
 n9:∀k,k<w.heap.size->o k=99->oi k<=13∨oi k=99
def ZgL.next{w wr s o r g N i c t v a x}(h:ZgL w wr o r g N i c t v a x)(y:i<a.length)(m:∀i j,i<j->j<a.length->∀k,(a.getD i Hm).ownBlock=some k->(a.getD j Hm).ownBlock≠some k)(q:Zci wr s r g (N+i) (a.getD i Hm) t):∃o2 c2,ZgL w s o o2 g N (i+1) c c2 v a x:=by
 obtain⟨o2,c2,B,f,n,z,G,u,E⟩:=q;have A:=h.tc.size;have d:=(h.ls i qa_ y)
 have p:∀k,v.ownBlock=some k->(a.getD i Hm).ownBlock≠some k:=λk hk e=>by
  obtain⟨C,F⟩:=Ad h.ro hk;obtain⟨D,H⟩:=Ad d.1 e
  grind
 refine⟨o2,c2,B,h.sm.trans A f,h.tc.trans2 n (λk hk=>?_),λj hj=>(z j hj).trans (h.cc j hj),λk hk=>?_,n.row h.ro (λk hk e=>?_),λk hk=>?_,λj hj hjl=>⟨n.row (h.ls j o_ hjl).1 (λk hk e=>?_),λk hk=>?_⟩,h.lo,λk hk h9=>?_⟩
 ·by_cases hl:k<w.heap.size
  ·left
   rcases hk with e|e
   ·rcases h.sm k hl with b|b
    exact .inr b;omega
   have:=d.2 k e
   rcases h.sm k hl with b|b
   exact .inr b;omega
  omega
 ·by_cases hl:k<wr.heap.size
  ·rcases f k hl with e|e
   ·grind
   rw[e];exact h.nw k hk
  grind
 ·rcases e with e|e
  have:=h.ov k hk;omega
  grind
 exact u k (rl_ h.ro k hk).2 (h.ov k hk) (p k hk)
 ·rcases e with e|e
  have:=(h.ls j o_ hjl).2 k hk;omega
  grind
 exact u k (rl_ (h.ls j o_ hjl).1 k hk).2 ((h.ls j o_ hjl).2 k hk) (λe=>m i j o_ hjl k e hk);have l:k<wr.heap.size:=o_
 rcases h.n9 k hk h9 with e|e
 ·rcases f k l with b|b
  omega;omega
 grind
def Hx.ownL{w o g N c v b}{Ls:Nat->List Int}(h:Hx w o g c N)(hr:w.ownsRow 0 25 1 v b.length b)(D:∀k,v.ownBlock=some k->o k=99)(aT:∀j,j<b.length->Ag w 0 (b.getD j Hm) (Ls j)/\∀k,(b.getD j Hm).ownBlock=some k->o k=99)(c7:∀j,(Ls j).length<=4194304)(bK:∀i j,i<j->j<b.length->∀k,(b.getD i Hm).ownBlock=some k->(b.getD j Hm).ownBlock≠some k)(hn:b.length<=1000)(hN:N<=10000000)(bS:∀k,w.heap.size<=k->o k=99):C_ 144 #[.pointer (some ⟨g,4,none⟩),v] w λe w'=>e=.returned (.tuple #[])/\Lr w w' o g (N+b.length+1) c:=by
 obtain⟨i0,bV,dQ,dN,cU⟩:=info_parts Ss;obtain⟨j0,Z,aW,aO,aN⟩:=info_parts Zey;obtain⟨l0,cC,cT,cW,cR⟩:=info_parts Zj4;have dC:Hid (ZgL w w o o g N 0 c c v _ _):=⟨h,Dq.refl _ _,Aa.refl _ _,λ_ _=>rfl,λk hk=>.inr (bS k hk),hr,D,λj _ hj=>aT j hj,λj hj k hk=>(rl_ (aT j hj).1 k hk).2,λk _ h9=>.inr h9⟩;have cL:=x1_ bK;have cQ:=x1_ c7;obtain⟨n,aY⟩:=ex_ b.length;have P:=x1_ aY
 obtain⟨a,C,rfl⟩:∃a C,v=.slice a n C:=by
  rcases hr.2 with⟨rfl,h0⟩|⟨q,cap,cur,rfl,_⟩
  ·grind
  grind
 rw[<- aY] at hn ⊢;clear h hr D aT c7 bK bS aY;go_enter Tryz.func144,Tryz.ntmps144;go_upto_region 1 with fail;go_loopw [4] (λti wr=>∃(i:Nat) (oi:Nat->Nat) (ci:Array Value),i<=n/\ti=.int .i64 i/\Hid (ZgL w wr o oi g N i c ci (.slice a n C) b Ls)) (λti _=>n-(intOf ti).toNat)
 case atStart=>grind
 case round=>
  clear dC;obtain⟨i,oi,ci,hi,rfl,d⟩:=hrel
  by_cases hin:i<n
  ·have g0:0<=(i:Int):=o_;have g1:i<(n:Int):=o_;have aA:i<b.length:=by rw[<- P];exact hin
   obtain⟨q,rfl⟩:∃q,a=some ⟨q,0,none⟩:=by
    rcases d.out.ro.2 with⟨_,h0⟩|⟨gl,cap,cur,e,_⟩
    omega
    grind
   have cv:wr.cell? (A_ q i)=some (b.getD i Hm):=by
    have dM:=d.ro;rw[<- P] at dM
    grind [World.ownsRow.cellAt]
   have HC:=d.bk.ownN (d.ls i qa_ aA).1 (d.ls i qa_ aA).2 (cQ i) o_;have aP:Hid (∀w2,Zci _ w2 _ g _ _ _->_):=λw2 hq=>d.next aA cL hq
   obtain⟨ax,J,cx,bM⟩:∃ax J cx,b.getD i Hm=.slice ax J cx:=by
    obtain⟨ax,cx,e⟩:=(d.ls i qa_ aA).1.shape
    grind
   rw[bM] at cv HC aP;clear bM d;go_wp2_with fail
   refine HC.mono ?_;rintro e w2 ⟨rfl,hq⟩;obtain⟨o2,c2,bE⟩:=aP w2 hq;have fA:=x1_ bE;clear hq bE HC aP cv;go_wp2;go_roundw;case rel=>grind
   case measure=>exact z_
  have bH:i=n:=o_;subst bH;have dU:¬i<(i:Int):=o_;generalize wr=wA at *;obtain⟨vn,vm,S,ms,I⟩:=d.bk.ls;obtain⟨J,f,dY,dW⟩:=d.bk.nx;have dT:=I.few;have f8:ms.length<=400000000:=(by rw[I.len];omega);have A:=d.bk.wb;have dH:=A.lt;obtain⟨z,hz⟩:=ex_ (-(J+1));have q1:IntKind.i64.wrap (-(J+1))=z:=(by rw[Cb o_ o_,hz]);have q2:=hz.symm;have f9: -1000000000000<=z:=o_;obtain⟨c1,a2⟩:=ex_ (ci.setIfInBounds 12 (I_ (J+1)));have dL:=x1_ a2;have aF:Hid (c1[10]? =some _/\c1[11]? =some _):=⟨by rw[a2,Array.getElem?_setIfInBounds_ne d_];exact I.c0,by rw[a2,Array.getElem?_setIfInBounds_ne d_];exact I.c1⟩;have cN:wA.cell? (A_ g 12)=some (I_ J):=(by rw[A.cell];exact f);have dE:=λo=>A.frozen o
  have cP:(wA.setCell (A_ g 12) (I_ (J+1))).cell? (A_ g 12)=some (I_ (J+1)):=by
   rw[(A.set 12 (I_ (J+1))).cell]
   grind
  obtain⟨y,V⟩:=ex_ ((wA.setCell (A_ g 12) (I_ (J+1))).alloc (.cells #[I_ z] 3));have bA:(wA.setCell (A_ g 12) (I_ (J+1))).heap.size=wA.heap.size:=(by simp[World.setCell]);have F:Aa (λk=>k=g) wA y:=(by rw[V];exact((Aa.refl (λk=>k=g) _).setCell (p:=(A_ g 12)) (λ_=>rfl) _).alloc _);have bB:WB y g c1:=by rw[V,a2];exact(A.set _ _).alloc _
  have dI:y.heap[wA.heap.size]? =some (.cells #[I_ z] 3 (0,0)):=by rw[V,<- bA];exact hn_
  have d5:y.heap.size=wA.heap.size+1:=(by rw[V];simp[World.setCell]);have aD:∀{base ty n:Nat} {u:_} {xs:_},_->ty≠90->y.ownsRow base ty 1 u n xs:=λhr hne=>F.row hr (λk hk e=>by subst e;exact A.apart hr hne hk.symm);have bX:=aD d.ro d_;have bO:=aD I.rn d_;have bQ:=aD I.rm d_;have G:=x3_ (A.apart d.ro d_) (A.apart I.rn d_) (A.apart I.rm d_);have aK:=x1_ (An d.ro I.rn d_);have aJ:=x1_ (An d.ro I.rm d_);have c5:=x1_ (An I.rn I.rm d_);have bF:Hid (y.ownsRow 0 84 1 _ _ _):=bO;have bU:Hid (y.ownsRow 0 3 1 _ _ _):=bQ;obtain⟨l,aS⟩:=ex_ wA.heap.size;have dK:Hid (y.heap[l]? =some (.cells #[I_ z] 3 (0,0))):=w_
  have a3:Hid (¬(l=g∨(Value.slice a i C).ownBlock=some l∨vn.ownBlock=some l∨vm.ownBlock=some l)):=λe=>by
   rcases e with e|e|e|e
   omega;have:=(rl_ d.ro _ e).2;omega;have:=(rl_ I.rn _ e).2;omega;have:=(rl_ I.rm _ e).2;omega
  have bN:Hid (∀w' t r news,oq y w' g 10 ci 25 84 3 (L_ l 1 1) (I_ z) (.slice a i C) vn vm S ms (J+1) t r news->w'.heap[l]? =some (.cells #[I_ z] 3 (0,0))->Lr w w' o g (N+i+1) c):=λw' t r news hp hm=>by
   have U:Dq wA oi (λk=>if k<wA.heap.size then oi k else 99):=λk hk=>.inr (by simp[hk])
   have cB:∀k,k<wA.heap.size->(λk=>if k<wA.heap.size then oi k else 99) k=oi k:=λk hk=>by simp[hk]
   have cM:(λk=>if k<wA.heap.size then oi k else 99) l=99:=(by simp[aS]);obtain⟨oB,c6⟩:∃oB:Nat->Nat,oB=λk=>if k<wA.heap.size then oi k else 99:=⟨_,rfl⟩;rw[<- c6] at U cB cM
   have c9:∀k,wA.heap.size<=k->oB k=99:=λk hk=>w_
   clear c6;have dA:=d.bk.og
   have aE:∀j,j<=10->4<=j->∀k,k<wA.heap.size->k=g->oi k≠j/\oi k≠j+1/\oi k≠13:=λj h1 h2 k _ e=>by subst e;omega
   have X:=I.keep F (aE _ d_ d_) U d_ rfl rfl qa_;have dJ:=d.bk.es.keep F (aE 4 d_ d_) U d_ rfl rfl qa_;have b8:=d.bk.ns.keep F (aE 6 d_ d_) U d_ rfl rfl qa_;have bY:=d.bk.ss.keep F (aE 8 d_ d_) U d_ rfl rfl qa_;have H:=(cB g dH).trans dA;have D:=λk hk=>(cB k (rl_ d.ro k hk).2).trans (d.ov k hk)
   have aH:∀k,(Vl news k∨k=l)->k<y.heap.size->oB k=99:=λk hk hl=>by
    rcases hk with⟨x,f,hxk⟩|e
    ·rcases(hp.all x f).2 k hxk with e|e
     exact D k e;omega
    grind
   have cS:∀k,(Vl news k∨k=l)->t.ownBlock≠some k:=λk hk e=>by
    rcases hk with⟨x,f,hxk⟩|T
    exact hp.an x f k hxk e;subst T
    rcases hp.nn _ e with e3|e3
    exact a3 (.inr (.inr (.inl e3)));omega
   have dG:∀k,(Vl news k∨k=l)->r.ownBlock≠some k:=λk hk e=>by
    rcases hk with⟨x,f,hxk⟩|T
    exact hp.am x f k hxk e;subst T
    rcases hp.nm _ e with e3|e3
    exact a3 (.inr (.inr (.inr e3)));omega
   obtain⟨dD,cX⟩:=zu ci 10 d_ (I_ (J+1)) t r d.bk.sz;have O:=Ni y oB (λk=>Vl news k∨k=l) 10 t r;have c3:g<y.heap.size:=o_
   have hF:∀x∈_,Ii w' (Lo y oB (λk=>Vl _ k∨k=l) 10 t r) _ (λW=>fL W x _):=λx f=>
    ((Ii.all (hp.all x f).1 (λk hk=>Rt (.inl ⟨x,f,hk⟩) (aH k (.inl ⟨x,f,hk⟩)))).and (Ii.block hm (Rt (.inr rfl) (aH _ (.inr rfl))))).mono (λW hW=>⟨z,l,rfl,hW.1,hW.2⟩)
   refine⟨Lo y oB _ 10 t r,_,⟨hp.wb,?_,cX,⟨J+1,dD,o_,o_⟩,dJ.other X hp H D d_ d_ d_ d_,b8.other X hp H D d_ d_ d_ d_,bY.other X hp H D d_ d_ d_ d_,⟨t,r,_,_,X.grow hp d_ H D d.bk.sz d_ cS dG hF⟩⟩,?_,?_,λj hj=>(ki ci 10 d_ _ _ _ j hj).trans (d.cc j hj),λk hk=>?_,λk hk h9=>?_⟩
   ·rcases O g c3 with e|e
    omega;omega
   exact(d.sm.trans d.tc.size U).trans (Nat.le_trans d.tc.size F.size) O
   ·refine(d.tc.trans2 F (λk hk=>?_)).trans2 (jl X hp H d_) (λk hk=>?_)
    ·subst hk
     by_cases hl:k<w.heap.size
     ·left
      rcases d.out.sm k hl with T|T
      exact .inr T;omega
     omega
    by_cases hl:k<w.heap.size
    ·left;have a1:=Qh hl d.tc.size;have cD:=cB k a1
     rcases hk with e|e
     ·rcases d.out.sm k hl with T|T
      exact .inr T;omega
     have:=D k e
     rcases d.out.sm k hl with T|T
     exact .inr T;omega
    omega
   ·by_cases hl:k<y.heap.size
    ·by_cases h99:oB k=99
     unfold Lo;rw[if_neg (λe=>e.2 h99)];split;omega;split;omega;split;omega;exact .inr rfl
     rcases O k hl with e|e
     exact absurd e h99;rw[e]
     by_cases a1:k<wA.heap.size
     rw[cB k a1];exact d.nw k hk
     grind
    grind [jj]
   have a1:=Qh hk d.tc.size;have cD:=cB k a1
   rcases d.out.n9 k hk h9 with e|e
   ·rcases O k o_ with T|T
    omega;omega
   grind [zg]
  have dP:Hid (y.ownsRow 0 25 1 (.slice a i C) i (Mm b (L_ l 1 1:Value) 0)):=(by rw[Wv];have:=bX;rw[<- P] at this;exact this);have cY:Hid (Aa (λk=>k=g∨(Value.slice a i C).ownBlock=some k) y _):=Aa.refl _ _;have a9:=x1_ bB;clear I d bX bO bQ dI bB aD F A a2 hz;go_upto_region 7 with fail;rw[<- V,<- aS];clear aS d5 bA;clear cP cN dE V;go_loopw [6] (λti wr=>∃k:Nat,k<=i/\ti=.int .i64 k/\Hid (wr.ownsRow 0 25 1 (.slice a i C) i (Mm b (.slice (some ⟨l,0,none⟩) 1 1:Value) k))/\Hid (Aa (λk=>k=g∨(Value.slice a i C).ownBlock=some k) y wr)/\Hid (WB wr g c1)) (λti _=>i-(intOf ti).toNat)
  case atStart=>grind
  case round=>
   clear dP cY a9;obtain⟨k,cE,rfl,HR,HT,HW⟩:=hrel
   by_cases hk:k<i
   ·have fB:0<=(k:Int):=o_;have dZ:k<(i:Int):=o_
    obtain⟨gl,rfl⟩:∃gl,a=some ⟨gl,0,none⟩:=by
     rcases HR.out.2 with⟨_,h0⟩|⟨gl,cap,cur,e,_⟩
     omega
     grind
    have bG:=gu _ (L_ l 1 1:Value) (k:=k) (by rw[<- P];exact cE);have cc:∃u,wr.cell? (A_ gl k)=some u:=(by rw[World.ownsRow.cellAt HR k o_];exact⟨_,Qd (by rw[bG,<- P];exact hk)⟩);obtain⟨u0,c0⟩:=cc;have cf:=World.ownsRow.frozenAt HR k;have dX:Hid ((wr.setCell (A_ gl k) (L_ l 1 1:Value)).ownsRow 0 25 1 (L_ gl i C) i (Mm b (L_ l 1 1:Value) (k+1))):=by rw[<- gv _ _ (by rw[<- P];exact hk)];exact(World.ownsRow.stored HR k _).1
    have f3:Hid (Aa _ _ (wr.setCell _ (L_ l 1 1:_))):=HT.setCell (p:=(A_ gl k)) (λ_=>.inr rfl) _;have aQ:Hid (WB (wr.setCell _ (L_ l 1 1:_)) g _):=HW.other (p:=(A_ gl k)) (λe=>G.1 (by rw[e];rfl)) _;clear HR HT HW bG;go_wp2;go_roundw;case rel=>grind
    case measure=>exact z_
   have cV:k=i:=o_;subst cV;have dV:¬k<(k:Int):=o_
   have aU:Hid (Jh y wr 25 (L_ l 1 1:Value) (.slice a k C) k 0 [.slice a k C] (λk'=>k'=g∨(Value.slice a k C).ownBlock=some k')):=by
    have:=HR.out
    rw[show Mm b (L_ l 1 1:Value) k=List.replicate k (L_ l 1 1:Value) by
     have:=Wu b (L_ l 1 1:Value);rw[<- P] at this
     exact this] at this
    exact .start this m_ HT
   have a6:Hid (wr.ownsRow 0 25 1 _ k _):=aU.row;have bP:=HW;clear HR HT HW;go_wp2_with (at_builtin;refine Ab rfl (.tmp 45) (.tmp 47) 84 rfl 0 25 j0 (.slice none 0 0) 1 24 Tryz.underlying84 Z aW aO aN rfl d_ (.slice a k C) k _ rfl (ra_ a6 _) (A_ wr.heap.size 0) 1 1 [L_ l 1 1] rfl rfl (Am wr _ 25) (by intro u Q;simp only[List.mem_cons,List.not_mem_nil,or_false] at Q;rcases Q with rfl;rfl) d_ m_ o_ qg_ ?_)
   intro y1 w1 E;have b3:Hid (Jh _ _ _ _ _ k 1 [_,_] _):=aU.more (m:=1) _ o_ E (λk' hk'=>.inr hk') m_;have a9:=x1_ ((bP.alloc _).grown E.2.1 G.1);obtain⟨bI,p1,cO⟩:=E.2.2.2.2;subst cO;have a0:Hid (w1.ownsRow 0 25 1 _ k _):=b3.row;clear E aU bP a6;go_wp2_with (at_builtin;refine Ab rfl (.tmp 49) (.tmp 52) 84 rfl 0 25 j0 (.slice none 0 0) 1 24 Tryz.underlying84 Z aW aO aN rfl d_ (.slice a k C) k _ rfl (ra_ a0 _) (A_ w1.heap.size 0) 2 2 [L_ l 1 1,L_ l 1 1] rfl rfl (Am w1 _ 25) (by intro u Q;simp only[List.mem_cons,List.not_mem_nil,or_false] at Q;rcases Q with rfl|rfl<;>rfl) d_ m_ o_ qg_ ?_)
   intro y2 w2 E;have aL:Hid (Jh y w2 _ _ _ k 2 [_,_,y2] _):=b3.more (m:=2) _ o_ E (λk' hk'=>.inr hk') m_;have aQ:=x1_ ((a9.alloc _).grown E.2.1 G.1);obtain⟨cA,p2,dF⟩:=E.2.2.2.2;subst dF;have Y:Hid (w2.ownsRow 0 25 1 _ k _):=aL.row;clear E b3 a9 a0;go_wp2_with (at_builtin;refine Ab rfl (.tmp 54) (.tmp 58) 84 rfl 0 25 j0 (.slice none 0 0) 1 24 Tryz.underlying84 Z aW aO aN rfl d_ (.slice a k C) k _ rfl (ra_ Y _) (A_ w2.heap.size 0) 3 3 [L_ l 1 1,L_ l 1 1,L_ l 1 1] rfl rfl (Am w2 _ 25) (by intro u Q;simp only[List.mem_cons,List.not_mem_nil,or_false] at Q;rcases Q with rfl|rfl|rfl<;>rfl) d_ m_ o_ qg_ ?_)
   intro y3 w3 E;have s:Hid (Jh y w3 25 _ _ k 3 [_,_,_,y3] _):=aL.more (m:=3) _ o_ E (λk' hk'=>.inr hk') m_;have aC:=x1_ ((aQ.alloc _).grown E.2.1 G.1);obtain⟨c4,p3,cJ⟩:=E.2.2.2.2;subst cJ;clear E aL aQ Y
   have aV:=x1_ (s.tch.row bF (λk' hk' e=>by
    rcases e with e|e
    subst e;exact G.2.1 hk'.symm
    rcases aK.out with h|h
    ·grind
    grind))
   have bC:=x1_ (s.tch.row bU (λk' hk' e=>by
    rcases e with e|e
    subst e;exact G.2.2 hk'.symm
    rcases aJ.out with h|h
    ·grind
    grind))
   have d6:w3.cell? (A_ g 10)=some vn:=(by rw[aC.cell];exact aF.1);have df:=λo=>aC.frozen o;generalize hnews:[(.slice a k C:Value),L_ bI (k+1) p1,L_ cA (k+2) p2,L_ c4 (k+3) p3]=news at s;have b5:=x1_ hnews.symm;clear hnews;go_wp2_with (at_builtin;refine Ab rfl (.tmp 64) (.tmp 69) 86 rfl 0 84 l0 (.slice none 0 0) 1 24 Tryz.underlying86 cC cT cW cR rfl d_ vn S.length S rfl (ra_ aV _) (A_ w3.heap.size 0) 4 4 [.slice a k C,L_ bI (k+1) p1,L_ cA (k+2) p2,L_ c4 (k+3) p3] rfl rfl (Am w3 _ 84) (by intro u Q;simp only[List.mem_cons,List.not_mem_nil,or_false] at Q;rcases Q with rfl|rfl|rfl|rfl<;>rfl) d_ m_ o_ qg_ ?_)
   intro t w4 E;obtain⟨b9,aB,aX,_,q4,p4,cZ⟩:=E;have T4:=((Aa.refl _ _).alloc _).grown aB (λk' e _=>e);have L:=x1_ ((aC.alloc _).grown aB G.2.1);have b6:=x1_ (World.ownsRow.kept (ra_ bC _) aB c5)
   have c8:=x1_ (λx f=>(s.all x f).1.touch T4 (λk' cur _ hh e=>by
    obtain⟨dR,f6⟩:=Ad aV e
    grind))
   have bZ:=x1_ ((s.tch.mono (S':=λk'=>k'=g∨(Value.slice a k _).ownBlock=some _∨vn.ownBlock=some _∨vm.ownBlock=some k') (λk' _ e=>by rcases e with e|e;exact .inl e;exact .inr (.inl e))).trans (T4.mono (λk' _ e=>.inr (.inr (.inl e)))));have bR:Hid (w4.ownsRow 0 84 1 t (S.length+4) (S++news)):=by rw[b5];exact b9
   have dO:Hid (∀k',t.ownBlock=some k'->vn.ownBlock=some k'∨y.heap.size<=k'):=λk' hk'=>by
    rcases aX with h|⟨h,_⟩
    ·grind
    rw[h] at hk';injection hk' with hk';have:=s.tch.size;omega
   have aI:=x1_ (λx f k' hk'=>Qh (s.lt x f k' hk') T4.size);have dS:=T4.size
   have cH:Hid (∀x∈news,∀k',x.ownBlock=some k'->t.ownBlock≠some k'):=λx f k' hk' e=>by
    rcases aX with h|⟨h,_⟩
    ·rw[h] at e
     rcases(s.all x f).2.2 k' hk' with h3|h3
     ·rcases aK.out with h2|h2
      ·grind
      grind
     have:=(rl_ bF k' e).2;omega
    rw[h] at e;injection e with e;have:=s.lt x f k' hk';omega
   have bL:Hid (∀x∈news,∀k',x.ownBlock=some k'->vm.ownBlock≠some k'):=λx f k' hk' e=>by
    rcases(s.all x f).2.2 k' hk' with h|h
    ·rcases aJ.out with h2|h2
     ·grind
     grind
    have:=(rl_ bU k' e).2;omega
   have dB:=x1_ (λx f k' hk'=>(s.all x f).2.2 k' hk');subst cZ;have e6:w4.cell? (A_ g 10)=some vn:=(by rw[L.cell];exact aF.1);have ef:=λo=>L.frozen o;clear b9 aB aX T4 aC bC aV s d6 df;go_upto_region 14 with fail;have a4:Hid (WB _ g (c1.setIfInBounds _ (L_ q4 (S.length+4) p4))):=L.set 10 _;have aM:Hid ((w4.setCell ⟨g,10,_⟩ (L_ q4 (S.length+4) p4)).ownsRow 0 3 1 vm _ ms):=L.row b6 d_;have aZ:Hid ((w4.setCell ⟨g,10,_⟩ (L_ q4 (S.length+4) p4)).ownsRow 0 84 1 _ _ _):=L.row bR d_;have bT:Hid (∀x∈_,Gi (w4.setCell ⟨g,10,_⟩ (L_ q4 (S.length+4) p4)) 25 _ x):=λx f=>L.all (c8 x f) d_;have a8:Hid (Aa _ _ (w4.setCell _ (L_ q4 (S.length+4) p4))):=bZ.setCell (p:=(A_ g 10)) (λ_=>.inl rfl) _
   have a5:Hid (∀x∈news,∀k',x.ownBlock=some k'->k'<(w4.setCell (A_ g 10) (L_ q4 (S.length+4) p4)).heap.size):=λx f k' hk'=>by
    have:=aI x f k' hk'
    simpa [World.setCell] using this
   clear L b6 bR c8 bZ aI e6 ef;generalize w4.setCell (A_ g 10) (L_ q4 (S.length+4) p4)=w5 at *;have d7:w5.cell? (A_ g 11)=some vm:=(by rw[a4.cell,Array.getElem?_setIfInBounds_ne d_];exact aF.2);have R:=a8.at_ dK (λe=>a3 e);have dm:=cR_ 0 R;have df:=λo=>a4.frozen o;have f7:=a8.size;have d8:=a4.lt;have cG:=(Qb R).1;have bD:w5.drew.cell? _=_:=d7;have b7:w5.drew.cell? _=_:=dm;refine Al (λw'=>w'.cell? _=some vm/\w'.cell? _=some (I_ z)) 21 k_ ⟨bD,b7⟩ (λhHeld=>?_);refine Ah 0 ?_;refine Ah 1 ?_;refine Ah 2 ?_;refine Ah 3 ?_;refine Ah 4 ?_;refine Ah 5 ?_;refine Ah 6 ?_;refine Ah 7 ?_;refine Ah 8 ?_;refine Ah 9 ?_;refine Ah 10 ?_;refine Ah 11 ?_;refine Ah 12 ?_;refine Ah 13 ?_;refine Ah 14 ?_;refine Ah 15 ?_
   refine Ah 16 ?_;refine Af (i:=17) k_ rfl (λKK hK=>?_);go_simp;refine hK _ _ ⟨(Below.cell (B:=w5.heap.size) (w:=w5) (p:=(A_ g 11)) (by grind [Below.refl,Below.drew,Below.alloc]) d8).trans d7,(Below.cell (B:=w5.heap.size) (w:=w5) (p:=(A_ l 0)) (by grind [Below.refl,Below.drew,Below.alloc]) cG).trans dm⟩ (λhHeld=>?_);clear hK KK;try simp only[Act.put,sA,sB,sC]
   refine Af (i:=18) k_ rfl (λKK hK=>?_);refine Az rfl (.tmp 77) (.tmp 90) 25 rfl 0 3 i0 (I_ 0) 1 8 Tryz.underlying25 bV dQ dN cU rfl d_ vm ms.length ms j_ (ra_ (World.ownsRow.drew aM) _) (A_ w5.heap.size 0) 4 4 [I_ z,I_ z,I_ z,I_ z] j_ rfl (Am w5.drew #[I_ z,I_ z,I_ z,I_ z] 3) (by intro u Q;simp only[List.mem_cons,List.not_mem_nil,or_false] at Q;rcases Q with rfl|rfl|rfl|rfl<;>rfl) d_ m_ o_ qg_ ?_;intro r w6 E;obtain⟨bW,aG,aR,_,q6,p6,cF⟩:=E;have T6:=(((Aa.refl _ _).drew).alloc _).grown aG (λk' e _=>e);have M:=x1_ ((a4.drew.alloc _).grown aG G.2.2);have a7:=T6.at_ R (λe=>a3 (.inr (.inr (.inr e))))
   have d9:Hid (oq y (w6.setCell (A_ g 11) r) g 10 ci 25 84 3 (L_ l 1 1:Value) (I_ z) (.slice a k C) vn vm S ms (J+1) (L_ q4 (S.length+4) p4) r news):=by
    refine⟨?_,?_,?_,?_,λx f=>⟨?_,dB x f⟩,?_,dO,λk' hk'=>?_,λx f k' hk' e=>?_,cH,λx f k' hk'=>?_⟩;rw[<- dL];exact M.set _ _;exact M.row (World.ownsRow.kept (ra_ (World.ownsRow.drew aZ) _) aG (An aM aZ d_)) d_;exact M.row bW d_;rw[b5];rfl;exact M.all ((bT x f).touch T6 (λk' cur h1 _ e=>bL x f _ h1 e)) d_;exact(a8.trans (T6.mono (λk' _ e=>.inr (.inr (.inr e))))).setCell (p:=(A_ g 11)) (λ_=>.inl rfl) _
    ·rcases aR with h|⟨h,_⟩
     ·grind
     rw[h] at hk';injection hk' with hk';simp at hk';omega
    ·rcases aR with h|⟨h,_⟩
     exact bL x f _ hk' (h ▸ e);rw[h] at e;injection e with e;have:=a5 x f k' hk';simp at e;omega
    have:=a5 x f k' hk';have:=T6.size;simp[World.setCell];omega
   have cI:=x1_ ((Below.heap_setCell _ (A_ g 11) r _ (λe=>a3 (.inl e))).trans a7);have e7:w6.cell? (A_ g 11)=some vm:=(by rw[M.cell,Array.getElem?_setIfInBounds_ne d_];exact aF.2);have em:=cR_ 0 a7;have ef:=λo=>M.frozen o;subst cF;clear bW aG aR T6 a4 aM aZ bT a8 a5 M d7 df dm bD b7 R a7;refine hK _ _ ⟨e7,em⟩ (λhHeld=>?_);clear hK KK;try simp only[Act.put,sA,sB,sC]
   refine Ah 19 ?_;refine Ah 20 ?_;refine Ai (i:=21) k_ rfl k_ (λKK hK=>?_);go_simp;refine hK _ _ ?_;clear hK KK;try simp only[Act.put,sA,sB,sC]
   refine Ak k_ ?_ _;go_wp2;go_end0;exact⟨rfl,bN _ _ _ _ d9 cI⟩
def Ry.at{w o c i u l N n v p m F a k e d}(h:Ry w o c i u l F N (.slice a n p) (.slice k v m) e d){j}(f:j<e.length):∃q r,a=some ⟨q,0,none⟩/\k=some ⟨r,0,none⟩/\w.cell? (A_ q j)=some (e.getD j Hm)/\w.cell? (A_ r j)=some (d.getD j Hm)/\F w (e.getD j Hm) (d.getD j Hm):=by
 have g:j<d.length:=by rw[h.len];exact f
 have b:∀{ty:Nat} {a n p xs},w.ownsRow 0 ty 1 (.slice a n p) xs.length xs->j<xs.length->∃q,a=some ⟨q,0,none⟩/\w.cell? (A_ q j)=some (xs.getD j Hm):=λ{ty a n p xs} hr hl=>by grind [Fj,Qy]
 obtain⟨q,s,y⟩:=b h.rn f;obtain⟨r,t,x⟩:=b h.rm g;exact⟨q,r,s,t,y,x,(h.all j f).here⟩
def Gi.cells{w j d f u a}(h:Gi w j u (.slice a d f)){k}(m:k<d):∃b,a=some ⟨b,0,none⟩/\w.cell? (A_ b k)=some u:=by
 obtain⟨l,n,c,e,_,p|⟨g,i,rfl,o,q⟩⟩:=h
 ·grind
 grind [cell_of_row]
def Ft.cells{w d f z a}(h:Ft w z (.slice a d f)){k}(l:k<d):∃b,a=some ⟨b,0,none⟩/\w.cell? (A_ b (k*4))=some (I_ z)/\w.cell? (A_ b (k*4+1))=some (I_ 0)/\w.cell? (A_ b (k*4+2))=some (I_ 0)/\w.cell? (A_ b (k*4+3))=some (I_ 0):=by
 obtain⟨j,n,c,e,_,o|⟨g,i,rfl,m,p⟩⟩:=h
 ·grind
 grind [cell_of_row]
def Gi.shape{w b u v}(h:Gi w b u v):∃a n c,v=.slice a n c/\n<=maxLen:=by
 obtain⟨a,n,c,e,d,_⟩:=h
 grind
def Ft.shape{w z v}(h:Ft w z v):∃a n c,v=.slice a n c/\n<=maxLen:=by
 obtain⟨a,n,c,e,b,_⟩:=h
 grind
structure LkS(w wr)(o)(g N)(c)(e1 e2 n1 n2 s1 s2 l1 l2)(es em ns nm ss sm ls lm):Prop where
 wb:WB wr g c
 es:Ry wr o c 4 29 3 fE N e1 e2 es em
 ns:Ry wr o c 6 25 3 fN N n1 n2 ns nm
 ss:Ry wr o c 8 47 9 fS N s1 s2 ss sm
 ls:Ry wr o c 10 84 3 fL N l1 l2 ls lm
 bl:E_ w wr
def LkS.drewN{w wr o g N c b i n1 j a f v r u n q p d s l k}(h:LkS w wr o g N c b i n1 j a f v r u n q p d s l k) m:LkS w (wr.drewN m) o g N c b i n1 j a f v r u n q p d s l k:=by have x:E_ wr _:=below_drewN bz_ m;have t:Aa (λ_=>False) _ _:=.of_below x;exact⟨t.at_ h.wb id,h.es.keep t (λ_ _ e=>e.elim) (Dq.refl _ _) d_ rfl rfl qa_,h.ns.keep t (λ_ _ e=>e.elim) (Dq.refl _ _) d_ rfl rfl qa_,h.ss.keep t (λ_ _ e=>e.elim) (Dq.refl _ _) d_ rfl rfl qa_,h.ls.keep t (λ_ _ e=>e.elim) (Dq.refl _ _) d_ rfl rfl qa_,below_drewN h.bl m⟩
def wk{p:Prop}(h:p:=by
 clear hF;have hnk:¬k<(len:Int):=o_;refine rd_ ?_
 exact⟨i+1,o_,g_,HR⟩):p:=h
def Hx.looks{w o g N c}(h:Hx w o g c N)(hN:N<=100000000):C_ 43 #[.pointer (some ⟨g,4,none⟩)] w λe w'=>e=.returned (.bool true)/\Below w.heap.size w w':=by
 obtain⟨B,C,f,em,hE⟩:=h.es;obtain⟨n1,n2,d,nm,G⟩:=h.ns;obtain⟨s1,s2,j,sm,hS⟩:=h.ss;obtain⟨l1,l2,l,lm,P⟩:=h.ls;have HL:Hid (LkS w w o g N c _ _ _ _ _ _ _ _ _ _ _ _ _ _ _ _):=⟨h.wb,hE,G,hS,P,bz_⟩;obtain⟨J,s,aC,_⟩:=Fj hE.rn;obtain⟨I,x,a8,_⟩:=Fj hE.rm;obtain⟨V,v,aG,_⟩:=Fj G.rn;obtain⟨O,y,a9,_⟩:=Fj G.rm;obtain⟨L,A,aE,_⟩:=Fj hS.rn;obtain⟨T,m,aA,_⟩:=Fj hS.rm;obtain⟨E,u,aF,_⟩:=Fj P.rn;obtain⟨Q,t,aB,_⟩:=Fj P.rm;have fe:=hE.few;have fn:=G.few;have fs:=hS.few;have fl:=P.few;rw[hE.len] at a8;rw[G.len] at a9;rw[hS.len] at aA;rw[P.len] at aB;subst aC a8 aG a9 aE aA aF aB
 have HC:Hid (∀W,WB W g c->_/\_/\_/\_/\_/\_/\_/\_):=λW hW=>
  ⟨(hW.cell 4).trans hE.c0,(hW.cell 5).trans hE.c1,(hW.cell 6).trans G.c0,(hW.cell 7).trans G.c1,(hW.cell 8).trans hS.c0,(hW.cell 9).trans hS.c1,(hW.cell _).trans P.c0,(hW.cell 11).trans P.c1⟩
 have aH:Hid (∀{n:Nat},n=n):=rfl;go_enter Tryz.func43,Tryz.ntmps43;go_upto_region 2 with fail;go_loopw [3] (λti wr=>∃i:Nat,i<=f.length/\ti=.int .i64 i/\Hid (LkS w wr o g N c (.slice J f.length s) (.slice I f.length x) (.slice V d.length v) (.slice O d.length y) (.slice L j.length A) (.slice T j.length m) (.slice E l.length u) (.slice Q l.length t) f em d nm j sm l lm)) (λti _=>f.length-(intOf ti).toNat)
 case atStart=>grind
 case round=>
  obtain⟨i,a0,rfl,HR⟩:=hrel;obtain⟨d4,d5,d6,d7,d8,d9,F,S⟩:=HC wr HR.wb
  by_cases hi:i<f.length
  ·have a7:0<=(i:Int):=o_;have a2:i<(f.length:Int):=o_;obtain⟨q,r,rfl,rfl,B,C,hF⟩:=HR.es.at hi;obtain⟨z,Z,D⟩:=hF;obtain⟨a,len,cp,Y,H⟩:=D.shape;rw[Y] at B;rw[Z] at C;have HV:=x1_ Y;have HM:=x1_ Z;unfold maxLen at H;go_upto_region 5 with fail;go_loopw [4] (λtk wr=>∃k:Nat,k<=len/\tk=.int .i64 k/\Hid (LkS w wr o g N c (.slice (some ⟨q,0,none⟩) f.length s) (.slice (some ⟨r,0,none⟩) f.length x) (.slice V d.length v) (.slice O d.length y) (.slice L j.length A) (.slice T j.length m) (.slice E l.length u) (.slice Q l.length t) f em d nm j sm l lm)) (λtk _=>len-(intOf tk).toNat)
   case atStart=>exact⟨0,qg_,rfl,HR⟩
   case round=>
    obtain⟨k,a3,rfl,HR⟩:=hrel;obtain⟨d4,d5,d6,d7,d8,d9,F,S⟩:=HC wr HR.wb;obtain⟨q2,r2,U,R,B,C,hF⟩:=HR.es.at hi;have M:q=q2:=(by injection U with e;injection e);have X:r=r2:=(by injection R with e;injection e);subst M X;rw[HV] at B hF;rw[HM] at C hF
    by_cases hk:k<len
    ·obtain⟨z2,a5,D⟩:=hF;injection a5 with _ a5;subst a5;obtain⟨b,rfl,x0,x1,x2,x3⟩:=D.cells hk;have a6:0<=(k:Int):=o_;have a4:k<(len:Int):=o_;go_upto_region 7 with fail;go_quiet (fail);refine rd_ ?_;exact⟨k+1,o_,g_,HR.drewN _⟩
    exact wk
  have a1:¬i<(f.length:Int):=o_;go_upto_region 10 with fail;go_loopw [5] (λti wr=>∃i:Nat,i<=d.length/\ti=.int .i64 i/\Hid (LkS w wr o g N c (.slice J f.length s) (.slice I f.length x) (.slice V d.length v) (.slice O d.length y) (.slice L j.length A) (.slice T j.length m) (.slice E l.length u) (.slice Q l.length t) f em d nm j sm l lm)) (λti _=>d.length-(intOf ti).toNat)
  case atStart=>exact⟨0,qg_,rfl,HR⟩
  case round=>
   obtain⟨i,a0,rfl,HR⟩:=hrel;obtain⟨d4,d5,d6,d7,d8,d9,F,S⟩:=HC wr HR.wb
   by_cases hi:i<d.length
   ·have a7:0<=(i:Int):=o_;have a2:i<(d.length:Int):=o_;obtain⟨q,r,rfl,rfl,B,C,hF⟩:=HR.ns.at hi;obtain⟨⟨z,Z⟩,D⟩:=hF;obtain⟨a,len,cp,Y,H⟩:=D.shape;rw[Y] at B;rw[Z] at C;have HV:=x1_ Y;have HM:=x1_ Z;unfold maxLen at H;go_upto_region 13 with fail;go_loopw [6] (λtk wr=>∃k:Nat,k<=len/\tk=.int .i64 k/\Hid (LkS w wr o g N c (.slice J f.length s) (.slice I f.length x) (.slice (some ⟨q,0,none⟩) d.length v) (.slice (some ⟨r,0,none⟩) d.length y) (.slice L j.length A) (.slice T j.length m) (.slice E l.length u) (.slice Q l.length t) f em d nm j sm l lm)) (λtk _=>len-(intOf tk).toNat)
    case atStart=>exact⟨0,qg_,rfl,HR⟩
    case round=>
     obtain⟨k,a3,rfl,HR⟩:=hrel;obtain⟨d4,d5,d6,d7,d8,d9,F,S⟩:=HC wr HR.wb;obtain⟨q2,r2,U,R,B,C,hF⟩:=HR.ns.at hi;have M:q=q2:=(by injection U with e;injection e);have X:r=r2:=(by injection R with e;injection e);subst M X;rw[HV] at B hF;rw[HM] at C hF
     by_cases hk:k<len
     ·obtain⟨_,D⟩:=hF;obtain⟨b,rfl,x0⟩:=D.cells hk;have a6:0<=(k:Int):=o_;have a4:k<(len:Int):=o_;go_upto_region 15 with fail;go_quiet (fail);refine rd_ ?_;exact⟨k+1,o_,g_,HR.drewN _⟩
     exact wk
   have a1:¬i<(d.length:Int):=o_;go_upto_region 18 with fail;go_loopw [7] (λti wr=>∃i:Nat,i<=j.length/\ti=.int .i64 i/\Hid (LkS w wr o g N c (.slice J f.length s) (.slice I f.length x) (.slice V d.length v) (.slice O d.length y) (.slice L j.length A) (.slice T j.length m) (.slice E l.length u) (.slice Q l.length t) f em d nm j sm l lm)) (λti _=>j.length-(intOf ti).toNat)
   case atStart=>exact⟨0,qg_,rfl,HR⟩
   case round=>
    obtain⟨i,a0,rfl,HR⟩:=hrel;obtain⟨d4,d5,d6,d7,d8,d9,F,S⟩:=HC wr HR.wb
    by_cases hi:i<j.length
    ·have a7:0<=(i:Int):=o_;have a2:i<(j.length:Int):=o_;obtain⟨q,r,rfl,rfl,B,C,hF⟩:=HR.ss.at hi;obtain⟨⟨z,Z⟩,D⟩:=hF;obtain⟨a,len,cp,Y,H⟩:=D.shape;rw[Y] at B;rw[Z] at C;have HV:=x1_ Y;have HM:=x1_ Z;unfold maxLen at H;go_upto_region 21 with fail;go_loopw [8] (λtk wr=>∃k:Nat,k<=len/\tk=.int .i64 k/\Hid (LkS w wr o g N c (.slice J f.length s) (.slice I f.length x) (.slice V d.length v) (.slice O d.length y) (.slice (some ⟨q,0,none⟩) j.length A) (.slice (some ⟨r,0,none⟩) j.length m) (.slice E l.length u) (.slice Q l.length t) f em d nm j sm l lm)) (λtk _=>len-(intOf tk).toNat)
     case atStart=>exact⟨0,qg_,rfl,HR⟩
     case round=>
      obtain⟨k,a3,rfl,HR⟩:=hrel;obtain⟨d4,d5,d6,d7,d8,d9,F,S⟩:=HC wr HR.wb;obtain⟨q2,r2,U,R,B,C,hF⟩:=HR.ss.at hi;have M:q=q2:=(by injection U with e;injection e);have X:r=r2:=(by injection R with e;injection e);subst M X;rw[HV] at B hF;rw[HM] at C hF
      by_cases hk:k<len
      ·obtain⟨_,D⟩:=hF;obtain⟨b,rfl,x0⟩:=D.cells hk;have a6:0<=(k:Int):=o_;have a4:k<(len:Int):=o_;go_upto_region 23 with fail;go_quiet (fail);refine rd_ ?_;exact⟨k+1,o_,g_,HR.drewN _⟩
      exact wk
    have a1:¬i<(j.length:Int):=o_;go_upto_region 26 with fail;go_loopw [9] (λti wr=>∃i:Nat,i<=l.length/\ti=.int .i64 i/\Hid (LkS w wr o g N c (.slice J f.length s) (.slice I f.length x) (.slice V d.length v) (.slice O d.length y) (.slice L j.length A) (.slice T j.length m) (.slice E l.length u) (.slice Q l.length t) f em d nm j sm l lm)) (λti _=>l.length-(intOf ti).toNat)
    case atStart=>exact⟨0,qg_,rfl,HR⟩
    case round=>
     obtain⟨i,a0,rfl,HR⟩:=hrel;obtain⟨d4,d5,d6,d7,d8,d9,F,S⟩:=HC wr HR.wb
     by_cases hi:i<l.length
     ·have a7:0<=(i:Int):=o_;have a2:i<(l.length:Int):=o_;obtain⟨q,r,rfl,rfl,B,C,hF⟩:=HR.ls.at hi;obtain⟨z,mb,Z,D,_⟩:=hF;obtain⟨a,len,cp,Y,H⟩:=D.shape;rw[Y] at B;rw[Z] at C;have HV:=x1_ Y;have HM:=x1_ Z;unfold maxLen at H;go_upto_region 29 with fail;go_loopw [10] (λtk wr=>∃k:Nat,k<=len/\tk=.int .i64 k/\Hid (LkS w wr o g N c (.slice J f.length s) (.slice I f.length x) (.slice V d.length v) (.slice O d.length y) (.slice L j.length A) (.slice T j.length m) (.slice (some ⟨q,0,none⟩) l.length u) (.slice (some ⟨r,0,none⟩) l.length t) f em d nm j sm l lm)) (λtk _=>len-(intOf tk).toNat)
      case atStart=>exact⟨0,qg_,rfl,HR⟩
      case round=>
       obtain⟨k,a3,rfl,HR⟩:=hrel;obtain⟨d4,d5,d6,d7,d8,d9,F,S⟩:=HC wr HR.wb;obtain⟨q2,r2,U,R,B,C,hF⟩:=HR.ls.at hi;have M:q=q2:=(by injection U with e;injection e);have X:r=r2:=(by injection R with e;injection e);subst M X;rw[HV] at B hF;rw[HM] at C hF
       by_cases hk:k<len
       ·obtain⟨z2,aI,_,D,aD⟩:=hF;obtain⟨b,rfl,x0⟩:=D.cells hk;have x1:=cR_ 0 aD;have a6:0<=(k:Int):=o_;have a4:k<(len:Int):=o_;go_upto_region 31 with fail;go_quiet (fail);refine rd_ ?_;exact⟨k+1,o_,g_,HR.drewN _⟩
       exact wk
     have a1:¬i<(l.length:Int):=o_;have HB:=x1_ HR.bl;go_wp2;go_ret;exact⟨rfl,HB⟩
end Go.Proofs.YtfcgnpchbcmdeaaGreat
