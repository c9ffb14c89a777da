import Derived.Test.YtfcgnpchbcmdeaaGreatZrbc
namespace Go.Proofs.YtfcgnpchbcmdeaaGreat
set_option linter.all false
set_option maxRecDepth 100000
set_option maxHeartbeats 16000000
open Go.RowKit
def oe(w:World)(base:Nat)(v:Value)(L:List VS):Prop:=w.ownsRow base 335 3 v L.length (Ic L)
def oe.more{w a v L x}(h:w.ownsRow a 335 3 v (L.length+1) (Ic L++Hy x)):oe w a v (L++[x]):=by grind [oe,Uv,Ic]
def ZjV:(Tryz.prog.info? 335).map (λi=>(i.zero,i.size,i.bytes))=some (some (.agg #[.bool false,I_ 0,.string ⟨#[]⟩]),3,32):=k_
def ZjW:(Tryz.prog.info? 338).map (λi=>(i.zero,i.size,i.bytes))=some (some (.agg #[I_ 0,.slice none 0 0]),2,32):=k_
structure Ka where
 wt:Int
 fs:List VS
 v:Value
def Ka.pr(p:Ka):Int×List VS:=(p.wt,p.fs)
def Pv(p:Ka):List Value:=[I_ p.wt,p.v]
def Ox:List Ka->List Value
 |[]=>[]
 |p::L=>Pv p++Ox L
def yh A B:Ox (A++B)=Ox A++Ox B:=by
 induction A with
 |nil=>rfl
 |cons x A ih=>simp[Ox,ih]
structure Fy(w:World)(base)(v)(L):Prop where
 row:w.ownsRow base 338 2 v L.length (Ox L)
 each:∀p∈L,oe w base p.v p.fs
def Fy.nil w base:Fy w base (.slice none 0 0) []:=⟨rn_,s_⟩
def Fy.touch{w w' base v L K}(h:Fy w base v L)(t:Aa K w w')(h1:∀q,v.ownBlock=some q->¬K q)(h2:∀p∈L,∀q,p.v.ownBlock=some q->¬K q):Fy w' base v L:=
 ⟨t.row h.row h1,λp hp=>t.row (h.each p hp) (h2 p hp)⟩
def Fy.shape{w b v L}(h:Fy w b v L):∃a c,v=.slice a L.length c:=by
 rcases h.row.2 with⟨rfl,h0⟩|⟨g,cap,cur,rfl,_⟩
 ·grind
 grind
def Fy.below{w w' base v L}(h:Fy w base v L)(hb:Below w.heap.size w w'):Fy w' base v L:=h.touch (.of_below (S:=λ_=>False) hb) (λ_ _=>id) (λ_ _ _ _=>id)
def Fy.more{w c a v d L p}(h:Fy w a v L)(j:oe w a p.v p.fs)(g:w.grownBy c v.ownBlock)(r:c.ownsRow a 338 2 d (L.length+1) (Ox L++Pv p)):Fy c a d (L++[p]):=by
 have t:=(Aa.refl _ w).grown g (λk hk _=>hk);refine⟨?_,λq hq=>?_⟩
 ·grind [yh,Ox]
 have b:oe w a q.v q.fs:=by
  rcases List.mem_append.1 hq with e|e
  exact h.each q e
  grind
 refine t.row b (λk hk e=>?_);obtain⟨i,f⟩:=Ad b hk;exact Au h.row e f d_ rfl
structure RwI(w W)(base tb cb rb:Nat)(S)(k)(z)(vR)(L)(vc)(wt)(fv)(F):Prop where
 tx:Fb W tb S k z vR
 rows:Fy W base vR L
 cf:W.heap[cb]? =some (.cells vc 37 (0,0))
 rw:W.heap[rb]? =some (.cells #[I_ wt,fv] 338 (0,0))
 fl:oe W rb fv F
 lo:Below base w W
 n1:base<=tb
 n2:base<=cb
 n3:base<=rb
 ap:∀p∈L,∀q,p.v.ownBlock=some q->q<rb
 ar:∀q,vR.ownBlock=some q->q<rb
section
variable {w W W':World} {base tb cb rb:Nat} {S:ByteArray} {k k':Nat} {z z':Int} {vR:Value} {L:List Ka} {vc:Array Value} {wt:Int} {fv:Value} {F:List VS}
def RwI.text(h:RwI w W base tb cb rb S k z vR L vc wt fv F)(hx:Fb W' tb S k' z' vR)(t:Aa (λq=>q=tb) W W'):RwI w W' base tb cb rb S k' z' vR L vc wt fv F:=
 ⟨hx,h.rows.touch t (λq hq e=>Au h.rows.row hq h.tx d_ e) (λp hp q hq e=>Au (h.rows.each p hp) hq h.tx d_ e),
  t.at_ h.cf (λe=>by have h1:=h.cf;have h2:=h.tx;unfold Fb at h2;grind),
  t.at_ h.rw (λe=>by have h1:=h.rw;have h2:=h.tx;unfold Fb at h2;grind),
  t.row h.fl (λq hq e=>Au h.fl hq h.tx d_ e),h.lo.trans (t.to_below (by have:=h.lo.size;have:=h.tx.lt;have:=h.n1;omega) (λq hq=>by have:=h.n1;omega)),h.n1,h.n2,h.n3,h.ap,h.ar⟩
def RwI.below(h:RwI w W base tb cb rb S k z vR L vc wt fv F)(a:Below W.heap.size W W'):RwI w W' base tb cb rb S k z vR L vc wt fv F:=by have t:=Aa.of_below (S:=λ_=>False) a;exact⟨h.tx.below a,h.rows.below a,t.at_ h.cf id,t.at_ h.rw id,t.row h.fl (λ_ _=>id),h.lo.trans (a.mono (by have:=h.tx.lt;have:=h.n1;omega)),h.n1,h.n2,h.n3,h.ap,h.ar⟩
def RwI.ne(h:RwI w W base tb cb rb S k z vR L vc wt fv F):tb≠rb/\cb≠rb:=
 ⟨λe=>by have h1:=h.rw;have h2:=h.tx;unfold Fb at h2;grind,λe=>by have h1:=h.rw;have h2:=h.cf;grind⟩
def RwI.more{b c x}(h:RwI w W base tb cb rb S k z vR L vc wt fv F)(g:W.grownBy b fv.ownBlock)(r:b.ownsRow rb 335 3 c (F.length+1) (Ic F++Hy x)):RwI w (b.setCell (A_ rb 1) c) base tb cb rb S k z vR L vc wt c (F++[x])/\b.heap[rb]? =some (.cells #[I_ wt,fv] 338 (0,0)):=by
 have t:=(Aa.refl _ W).grown g (λk hk _=>hk);have a:=t.at_ h.rw (λe=>Au h.fl e h.rw d_ rfl);have d:Aa (λq=>_∨q=rb) W (b.setCell _ c):=(t.mono (λ_ _=>.inl)).setCell (p:=(A_ rb 1)) (λ_=>.inr rfl) _;obtain⟨n1,f⟩:=h.ne;refine⟨⟨h.tx.touch d ?_,h.rows.touch d (λq hq e=>?_) (λp hp q hq e=>?_),d.at_ h.cf ?_,ht_ 1 _ _ _ a,As (oe.more r) a d_,h.lo.trans (d.to_below (by have:=h.tx.lt;have:=h.n1;omega) (λq hq=>?_)),h.n1,h.n2,h.n3,h.ap,h.ar⟩,a⟩;rintro(e|e);exact Au h.fl e h.tx d_ rfl;exact n1 e
 ·rcases e with e|e
  have:=h.ar q hq;have:=(rl_ h.fl q e).1;omega;have:=h.ar q hq;omega
 ·rcases e with e|e
  have:=h.ap p hp q hq;have:=(rl_ h.fl q e).1;omega;have:=h.ap p hp q hq;omega
 rintro(e|e);exact Au h.fl e h.cf d_ rfl;exact f e;have:=h.n3
 rcases hq with e|e
 have:=(rl_ h.fl q e).1;omega;omega
end
def RwP(w:World)(base tb:Nat)(S:ByteArray)(L:List Ka)(R:Int×List VS×Nat×Int)(w':World):Prop:=
 ∃vR' L',Fb w' tb S R.2.2.1 R.2.2.2 vR'/\Fy w' base vR' L'/\L'.map Ka.pr=(if R.2.2.2=0 then L.map Ka.pr++[(R.1,R.2.1)] else L.map Ka.pr)/\Below base w w'
def ZiT f M k n H fc S vR L x1 x2 x3 o m ct w (h:Fb w M S k 0 vR)(hL:Fy w f vR L)(hb:f<=M)(b8:k<=S.size)(hF:Dd w H 0 n o m ct)(a5:H<f)(hn:n<=4)(aT:∀i,i<n->0<=m i/\(o i=false->m i<=3))(bD:L.length<=1000)(hk:S.size<=1000000000000000):C_ 236 #[.pointer (some ⟨M,0,none⟩),.agg #[.slice (some ⟨H,0,none⟩) n fc,.int .i64 x1,.int .i64 x2,.int .i64 x3]] w λe w'=>e=.returned (.tuple #[])/\RwP w f M S L (Zu S n o m k) w':=by
 obtain⟨R,a4⟩:=ez_ (Zu S n o m k);rw[a4];obtain⟨w1,T⟩:=ex_ (w.alloc (.cells #[L_ H n fc,I_ x1,I_ x2,I_ x3] 37));have aJ:f<=w.heap.size:=(by have:=h.lt;omega);have b1:E_ w w1:=(by rw[T];exact bA_);have aL:w1.heap[w.heap.size]? =some (.cells #[L_ H n fc,I_ x1,I_ x2,I_ x3] 37 (0,0)):=(by rw[T];exact hn_);obtain⟨cb,aF⟩:=ex_ w.heap.size;have HN:=Zc _ k 2 S 0 false _ _ (h.below b1) o_ hk;have aE:=Zic (S:=S) 0 2 false b8;obtain⟨A,HA⟩:=ez_ (Md S k 0 2 false);rw[HA] at HN aE;obtain⟨G,j,k2,z2⟩:=A;simp only at HN aE;have y:=x2_ (h.below b1) (hL.below b1)
 have b5:Hid (∀W,Below f w W->∀i,i<n->W.cell? (A_ H (i*3))=some (.bool (o i))/\W.cell? (A_ H (i*3+1))=some (I_ (m i).toNat)/\W.cell? (A_ H (i*3+2))=some (I_ (ct i))):=λW hW i hi=>by have e0:=hF.c0 i hi;have e1:=hF.c1 i hi;have e2:=hF.c2 i hi;rw[Nat.zero_add] at e0 e1 e2;refine⟨(hW.cell (p:=(A_ H (i*3))) a5).trans e0,?_,(hW.cell (p:=(A_ H (i*3+2))) a5).trans e2⟩;rw[Int.toNat_of_nonneg (aT i hi).1];exact(hW.cell (p:=(A_ H (i*3+1))) a5).trans e1
 have aU:=x1_ T;have O:Hid (_/\_[cb]? =some _):=⟨b1,by rw[aF];exact aL⟩;have aC:=x1_ aF;clear T b1 aL h hL hF aF;go_enter Tryz.func236,Tryz.ntmps236;go_wp2_with fail
 rw[<- aU,<- aC];refine HN.mono ?_;rintro e w2 ⟨rfl,h2,t2⟩;have aD:=x2_ h2 t2;clear h2 t2 HN aU;have HM:=Xx _ _ S _ 44 _ _ aD.1 d_ hk;have aO:=ZeL (S:=S) (z:=z2) (b:=44) d_ aE.2;obtain⟨k3,a6⟩:=ey_ (Mr S k2 z2 44);obtain⟨z3,aW⟩:=ey_ (Ni S k2 z2 44);rw[a6,aW] at HM;rw[a6] at aO
 have a9:Hid (R=if z3=0 then(G,(St S n o m n 0 [] k3).1,(St S n o m n 0 [] k3).2.1,(St S n o m n 0 [] k3).2.2) else(G,[],k3,z3)):=by
  show _=_;rw[<- a4];unfold Zu;simp only;rw[HA]
  grind
 clear a6 aW a4 HA;go_wp2_with fail
 refine HM.mono ?_;rintro e w3 ⟨rfl,h3,t3⟩;obtain⟨w4,P⟩:=ex_ (w3.alloc (.cells #[I_ G,.slice none 0 0] 338));obtain⟨rb,I⟩:=ex_ w3.heap.size
 have HI:Hid (RwI w w4 f M cb rb S k3 z3 vR L #[L_ H n fc,I_ x1,I_ x2,I_ x3] G (.slice none 0 0) []):=by
  have t:=aD.2.trans t3;have b4:E_ w3 w4:=(by rw[P];exact bA_);have aG:=y.2.touch t (λq hq e=>Au y.2.row hq y.1 d_ e) (λp hp q hq e=>Au (y.2.each p hp) hq y.1 d_ e);have b3:f<=w1.heap.size:=(by have:=y.1.lt;omega);have V:=t.at_ O.2 (λe=>by have h1:=O.2;have h2:=y.1;unfold Fb at h2;grind);refine⟨h3.below b4,aG.below b4,(b4.block _ (Qb V).1).trans V,by rw[P,I];exact hn_,rn_,?_,hb,by rw[aC];exact aJ,?_,λp hp q hq=>?_,λq hq=>?_⟩;exact((O.1.mono aJ).trans (t.to_below b3 (λq hq=>o_))).trans (b4.mono (by have:=t.size;omega));have:=t.size;omega;rw[I];exact(rl_ (aG.each p hp) q hq).2;rw[I];exact(rl_ aG.row q hq).2
 have aH:=x2_ P I;clear h3 t3 HM P I y aD O aC;go_upto_region 5 with fail;rw[<- aH.1,<- aH.2];clear aH;go_loopw [7] (λU wr=>∃(i C:Nat) (X:Int) (fv:Value) (F:List VS),U=.int .i64 i/\i<=n/\C<=S.size/\Hid ((X=0/\F.length=i/\R=(G,(St S n o m (n-i) i F C).1,(St S n o m (n-i) i F C).2.1,(St S n o m (n-i) i F C).2.2))∨(X≠0/\R.2.2.1=C/\R.2.2.2=X))/\Hid (RwI w wr f M cb rb S C X vR L #[.slice (some ⟨H,0,none⟩) n fc,.int .i64 x1,.int .i64 x2,.int .i64 x3] G fv F)) (λU _=>n-(intOf U).toNat)
 case atStart=>
  refine⟨0,k3,z3,_,[],rfl,qg_,aO.2,?_,HI⟩
  by_cases hz:z3=0
  ·grind
  exact .inr ⟨hz,by rw[a9,if_neg hz],by rw[a9,if_neg hz]⟩
 case round=>
  clear HI a9;obtain⟨i,C,X,fv,F,rfl,hi,aV,HE,s⟩:=hrel;obtain⟨_,_,e2,_⟩:=s.tx.cells;have c0:=cq_ 0 _ _ _ s.out.cf;simp only[List.getElem?_toArray,List.getElem?_cons_zero] at c0
  by_cases E:i<n/\X=0
  ·obtain⟨E,rfl⟩:=E;have l:Hid (F.length=i/\R=(G,(St S n o m (n-i) i F C).1,(St S n o m (n-i) i F C).2.1,(St S n o m (n-i) i F C).2.2)):=w_;clear HE;have g1:i<(n:Int):=o_;have g2:0<=(i:Int):=o_;go_upto_if 38 with fail
   go_cut [8] (λv wx=>v=.int .u8 (Eg i n)/\wx=wr)
   case first=>
    by_cases hl:i+1=n
    ·have HS:Hid (Eg i n=_):=if_pos hl;have g3:((i:_)==(n:Int)-1)=_:=beq_iff_eq.2 o_;go_wp2;go_meet
     exact⟨by rw[HS],rfl⟩
    have HS:Hid (Eg i n=_):=if_neg hl;have g3:((i:_)==(n:Int)-1)=_:=beq_eq_false_iff_ne.2 o_;go_wp2;go_meet
    exact⟨by rw[HS],rfl⟩
   case rest=>
    obtain⟨rfl,hw⟩:=hcut;obtain rfl:=hw.symm;clear hw;obtain⟨a0,a1,a2⟩:=b5 wr s.lo i E;have HF:=ZdO _ _ (m i).toNat S _ (ct i) _ _ _ s.tx aV (λe=>by have:=(aT i E).2 e;omega) (Xr i n) hk;have aI:=ZkG (S:=S) (o i) (m i).toNat (Xr i n) aV;obtain⟨r,Hr⟩:=ez_ (br S C (o i) (m i).toNat (Eg i n));rw[Hr] at HF aI
    have HN:Hid ((r.2.2=0/\(F++[r.1]).length=i+1/\R=(G,(St S n o m (n-(i+1)) (i+1) (F++[r.1]) r.2.1).1,(St S n o m (n-(i+1)) (i+1) (F++[r.1]) r.2.1).2.1,(St S n o m (n-(i+1)) (i+1) (F++[r.1]) r.2.1).2.2))∨(r.2.2≠0/\R.2.2.1=r.2.1/\R.2.2.2=r.2.2)):=by
     have e:St S n o m (n-i) i F C=if r.2.2=0 then St S n o m (n-(i+1)) (i+1) (F++[r.1]) r.2.1 else(F++[r.1],r.2.1,r.2.2):=by rw[show n-i=(n-(i+1))+1 by omega,St];rw[Hr]
     by_cases hz:r.2.2=0
     exact .inl ⟨hz,by rw[Qe,l.1];rfl,by rw[l.2,e,if_pos hz]⟩;exact .inr ⟨hz,by rw[l.2,e,if_neg hz],by rw[l.2,e,if_neg hz]⟩
    have aS:=x1_ l.1;clear l Hr;generalize o i=wdi,(m i).toNat=sci at *;go_wp2_with fail
    refine HF.mono ?_;rintro e w5 ⟨rfl,h5,t5⟩;have aQ:=x1_ (s.text h5 t5);clear h5 t5 s HF e2 c0 a0 a1 a2;have q5:=aQ.out;have bA:=(Qb q5.rw).1;obtain⟨⟨Z,nm,wo⟩,kr,zr⟩:=r;obtain⟨Y,B⟩:=ex_ ((w5.alloc (.cells #[.bool Z,I_ nm,.string wo] 335)).alloc (.cells #[.bool Z,I_ nm,.string wo] 335));have b6:E_ w5 Y:=(by rw[B];exact bA_.alloc s_ _);have d:Hid (RwI w _ _ _ _ _ S kr zr _ L _ _ _ F):=q5.below b6;have aA:=x1_ B;have d0:_=some fv:=cq_ 1 _ _ _ q5.rw;have aN:=aS.out;obtain⟨i0,J,aB,a7,Q⟩:=info_parts ZjV;clear q5 B b6 aQ
    go_wp2_with (at_builtin;rw[<- aA];refine Ab rfl (.tmp 48) (.tmp 50) 336 rfl rb 335 i0 _ 3 32 Tryz.underlying336 J aB a7 Q rfl d_ fv F.length (Ic F) rfl d.fl _ 1 1 [.bool Z,I_ nm,.string wo] rfl rfl ?_ ?_ ?_ ?_ ?_ ?_ ?_)
    have e:=Am (w5.alloc (.cells #[.bool Z,I_ nm,.string wo] 335)) #[.bool Z,I_ nm,.string wo] 335;rw[show(w5.alloc (.cells #[.bool Z,I_ nm,.string wo] 335)).heap.size=w5.heap.size+1 by simp] at e;rw[aA];exact e
    ·intro u hu;simp at hu;rcases hu with rfl|rfl|rfl<;>rfl
    decide;unfold maxLen;omega;omega;have:=(Qb d.out.rw).1;omega;intro v7 w7 H7;obtain⟨r7,g7,d7,_,q7,p7,a8⟩:=H7.out;subst a8;obtain⟨m1,m2⟩:=d.out.more (x:=⟨Z,nm,wo⟩) g7 (by rw[aS.out];exact r7);have bF:=x1_ m1;have c7:=cq_ 1 _ _ _ m2;have f7:=fq_ 1 _ _ m2;simp at c7;clear m1 m2 r7 g7 d7 H7 d d0 aA;go_wp2;go_roundw;case rel=>grind
    case measure=>exact z_
  by_cases hz:X=0
  ·subst hz;have aX:i=n:=o_
   have l:Hid (R=(G,F,C,0)):=by
    rcases HE.out with h|h
    show _=_;rw[h.2.2,aX,Nat.sub_self,St];omega
   have g1:¬i<(n:Int):=o_;clear HE E aX;obtain⟨ra,rc,aY⟩:=s.rows.shape
   obtain⟨fa,N,b9⟩:∃a c,fv=.slice a F.length c:=by
    rcases s.out.fl.2 with⟨e,h0⟩|⟨g,cap,cur,e,_⟩
    ·grind
    grind
   subst aY b9;have q1:=s.tx.cells.2.2.2;have q2:=cR_ 0 s.rw;have q3:=cR_ 1 s.rw;obtain⟨i0,J,aB,a7,Q⟩:=info_parts ZjW;generalize aN:F.length=fl at s q3;generalize hll:L.length=ll at s q1;have bB:ll<=1000:=o_;have aM:=x1_ hll;clear aN hll;go_upto_region 13 with fail;refine Al (λw'=>w'.cell? _=some _/\w'.cell? _=some _/\w'.cell? _=some _) 10 k_ ⟨q1,q2,q3⟩ (λhHeld=>?_);refine Ah 0 ?_;refine Ah 1 ?_;refine Ah 2 ?_;refine Ah 3 ?_;refine Ah 4 ?_;refine Ah 5 ?_;refine Af (i:=6) k_ rfl (λKK hK=>?_);go_simp;obtain⟨Y,B⟩:=ex_ ((wr.alloc (.cells #[I_ G,.slice fa fl N] 338)).drew);have b6:E_ wr Y:=(by rw[B];exact bA_.drew);have d:=x1_ (s.below b6)
   have aK:∀j u,(#[I_ G,.slice fa fl N]).toList[j]? =some u->Y.cell? (((A_ wr.heap.size 0):Addr).add j)=some u:=(by rw[B];exact Am _ _ _);rw[<- B];have aZ:_/\Y.cell? _=some (.int _ G)/\Y.cell? _=some (.slice fa fl _):=⟨d.tx.cells.2.2.2,cq_ 0 _ _ _ d.rw,cq_ 1 _ _ _ d.rw⟩;have aR:f<=Y.heap.size:=(by have:=d.tx.lt;omega);clear B b6 q1 q2 q3 s;refine hK _ _ aZ (λhHeld=>?_);clear hK KK;try simp only[Act.put,List.setIfInBounds_toArray,List.set_cons_succ,List.set_cons_zero]
   refine Af (i:=7) k_ rfl (λKK hK=>?_);refine Az rfl (.tmp 62) (.tmp 64) 281 rfl f 338 i0 _ 2 32 Tryz.underlying281 J aB a7 Q rfl d_ (.slice ra ll rc) ll (Ox L) j_ (by have:=d.rows.row;rw[aM] at this;exact this) (A_ wr.heap.size 0) 1 1 [I_ G,.slice fa fl N] j_ rfl ?_ ?_ d_ m_ o_ aR ?_;exact aK
   ·intro u hu;simp at hu;rcases hu with rfl|rfl<;>rfl
   intro v7 w7 H7;obtain⟨r7,g7,d7,_,q7,p7,a8⟩:=H7;subst a8;have aP:oe Y f (.slice fa fl N) F:=(by have h1:=d.fl;have h2:=d.n3;exact⟨h1.1,h1.2.imp id (λ⟨g,cap,cur,e,hb,rest⟩=>⟨g,cap,cur,e,o_,rest⟩)⟩);have hM:Fy _ _ _ (L++[⟨_,F,_⟩]):=d.rows.more aP g7 (by rw[aM];exact r7);have U:=(Aa.refl _ _).grown g7 (λk hk _=>hk);have D:=d.tx.touch U (λe=>Au d.rows.row e d.tx d_ rfl);have a3:=U.at_ d.rw (λe=>by have:=d.ar rb e;omega);have b7:_/\w7.cell? _=some (.int _ G)/\w7.cell? _=some (.slice fa fl _):=⟨D.cells.2.2.2,cq_ 0 _ _ _ a3,cq_ 1 _ _ _ a3⟩;have bE:=D.cells.2.2.2;have bG:=fq_ 3 _ _ D
   have HP:Hid (RwP w f M S L (G,F,C,0) (w7.setCell (A_ M 3) (L_ q7 (ll+1) p7))):=(by have t8:Aa _ _ (w7.setCell _ (L_ q7 (ll+1) p7)):=(Aa.refl (λq=>q=M) _).setCell (p:=(A_ M 3)) (λ_=>rfl) _;have bC:=U.size;have h1:=d.n1;refine⟨_,_,ht_ 3 _ _ _ D,hM.touch t8 (λq hq e=>Au hM.row hq D d_ e) (λp hp q hq e=>Au (hM.each p hp) hq D d_ e),by rw[if_pos rfl,List.map_append];rfl,?_⟩;exact(d.lo.trans (U.to_below aR (λq hq=>(rl_ d.rows.row q hq).1))).trans (t8.to_below o_ (λq hq=>o_)));clear aP hM U D a3 r7 g7 d7 d;refine hK _ _ b7 (λhHeld=>?_);clear hK KK;try simp only[Act.put,List.setIfInBounds_toArray,List.set_cons_succ,List.set_cons_zero]
   refine Ah 8 ?_;refine Ah 9 ?_;refine Ai (i:=10) k_ rfl k_ (λKK hK=>?_);go_simp;refine hK _ _ ?_;clear hK KK;try simp only[Act.put,List.setIfInBounds_toArray,List.set_cons_succ,List.set_cons_zero]
   refine Ak k_ ?_ _;go_wp2;go_end0;rw[l];exact⟨rfl,HP⟩
  have l:Hid (R.2.2.1=C/\R.2.2.2=X):=w_;have Q:=beq_eq_false_iff_ne.2 hz;have HZ:=x1_ hz;clear HE E hz
  by_cases E:i<n
  ·have g1:i<(n:Int):=o_;go_wp2;go_end0;refine⟨rfl,?_⟩;unfold RwP;rw[l.1,l.2];exact⟨vR,L,s.tx,s.rows,by rw[if_neg HZ],s.lo⟩
  have g1:¬i<(n:Int):=o_;go_wp2;go_end0;refine⟨rfl,?_⟩;unfold RwP;rw[l.1,l.2];exact⟨vR,L,s.tx,s.rows,by rw[if_neg HZ],s.lo⟩
def RdP(w:World)(S:ByteArray)(R:List (Int×List VS)×Nat×Int)(e:Ending)(w':World):Prop:=
 ∃tb vR L,e=.returned (P_ tb)/\w.heap.size<=tb/\Fb w' tb S R.2.1 R.2.2 vR/\Fy w' w.heap.size vR L/\L.map Ka.pr=R.1/\L.length<=200/\E_ w w'
def uo n v C S y F E s l ct w (hF:Dd w v 0 n s l ct)(a6:v<w.heap.size)(hn:n<=4)(a0:∀i,i<n->0<=l i/\(s i=false->l i<=3))(hk:S.size<=1000000000000000):C_ 178 #[.agg #[.slice (some ⟨v,0,none⟩) n C,.int .i64 y,.int .i64 F,.int .i64 E],.string S] w λe w'=>RdP w S (Je S n s l (S.size+1) [] 0) e w':=by
 obtain⟨R,D⟩:=ez_ (Je S n s l (S.size+1) [] 0);rw[D];obtain⟨V,j⟩:=ex_ ((w.alloc (.cells #[L_ v n C,I_ y,I_ F,I_ E] 37)).alloc (.cells #[.string S,I_ 0,I_ 0,.slice none 0 0] 283));obtain⟨o,A⟩:=ex_ (w.heap.size+1);have N:Fb V o S 0 0 (.slice none 0 0):=(by have e:=ha_ (w.alloc (.cells #[L_ v n C,I_ y,I_ F,I_ E] 37)) (.cells #[.string S,I_ 0,I_ 0,.slice none 0 0] 283);rw[show(w.alloc (.cells #[L_ v n C,I_ y,I_ F,I_ E] 37)).heap.size=w.heap.size+1 by simp,<- j,<- A] at e;exact e);have O:V.heap[w.heap.size]? =some (.cells #[L_ v n C,I_ y,I_ F,I_ E] 37 (0,0)):=by grind [hb_,ha_]
 have T:E_ w V:=(by rw[j];exact bA_.alloc s_ _);have HI:Hid (_/\Fy V (w.heap.size+1) _ _/\_/\_):=⟨N,Fy.nil _ _,O,T⟩;have c:=x2_ j A;have a1:Hid (∀W,Below _ w W->_):=λW hW=>hF.below hW;clear j A N O T hF;go_enter Tryz.func178,Tryz.ntmps178;go_upto_region 2 with fail;rw[<- c.1,<- c.2]
 go_loopw [13] (λ_ wr=>∃(b f:Nat) (m:Int) (Y:Value) (L:List Ka),b<=S.size/\L.length<=200/\(m=0->S.size+1<=f+b)/\Hid ((m=0/\R=Je S n s l f (L.map Ka.pr) b)∨(m≠0/\R=(L.map Ka.pr,b,m)))/\Hid (Fb wr o S b m Y/\Fy wr (w.heap.size+1) Y L/\wr.heap[w.heap.size]? =some (.cells #[.slice (some ⟨v,0,none⟩) n C,.int .i64 y,.int .i64 F,.int .i64 E] 37 (0,0))/\E_ w wr)) (λ_ wr=>match wr.cell? ⟨o,1,none⟩,wr.cell? ⟨o,2,none⟩ with|some (.int _ k),some (.int _ z)=>if z=0 then S.size+1-k.toNat else 0|_,_=>0)
 case atStart=>exact⟨0,S.size+1,0,_,[],qg_,s_,λ_=>o_,.inl ⟨rfl,D.symm⟩,HI⟩
 case round=>
  clear HI D;obtain⟨b,f,m,Y,L,U,Q,hf,X,a⟩:=hrel;have HC:=a.1.cells;obtain⟨_,e1,e2,e3⟩:=HC;have I:=x2_ e1 e2;obtain⟨ra,rc,B⟩:=a.2.1.shape
  by_cases x:b<S.size/\m=0
  ·obtain⟨x,rfl⟩:=x;have hf:=hf rfl;obtain⟨f,rfl⟩:∃f',f=f'+1:=⟨f-1,o_⟩;have G:Hid (R=Je S n s l (f+1) (L.map Ka.pr) b):=w_;have g1:b<(S.size:Int):=o_
   by_cases h200:L.length=200
   ·have u:Hid (R=(L.map Ka.pr,b,3)):=(by grind [Je]);have f2:=fq_ 2 _ _ a.1;rw[h200] at B;subst B;have Z:Hid (RdP w S (L.map Ka.pr,b,3) (.returned (P_ o)) (wr.setCell (A_ o 2) (I_ 3))):=(by obtain⟨H,y2⟩:=a.1.put 3;have h1:=a.1.lt;have h2:=c.2;have t:=a.2.1.touch y2 (λq hq e=>Au a.2.1.row hq a.1 d_ e) (λp hp q hq e=>Au (a.2.1.each p hp) hq a.1 d_ e);exact⟨o,_,L,rfl,o_,H,⟨⟨t.row.1,t.row.2.imp id (λ⟨g,cap,cur,e,hb,rest⟩=>⟨g,cap,cur,e,o_,rest⟩)⟩,λp hp=>⟨(t.each p hp).1,(t.each p hp).2.imp id (λ⟨g,cap,cur,e,hb,rest⟩=>⟨g,cap,cur,e,o_,rest⟩)⟩⟩,rfl,Q,a.2.2.2.trans (y2.to_below o_ (λq hq=>o_))⟩);clear X G a;go_wp2;go_ret;rw[u];exact Z
   have M:L.length<200:=o_;have a5:((L.length:Int)==200)=_:=beq_eq_false_iff_ne.2 o_;have d:=a.2.2.1;have d0:=cR_ 0 d;have d1:=cR_ 1 d;have d2:=cR_ 2 d;have d3:=cq_ 3 _ _ _ d;simp at d0 d1 d2 d3;have HW:=ZiT _ o _ n v C S Y L y F E _ _ ct wr a.1 a.2.1 (by have:=c.2;omega) U (a1 wr a.2.2.2) o_ hn a0 o_ hk;have P:=ZkR n s l U;obtain⟨r,Hr⟩:=ez_ (Zu S n s l b);rw[Hr] at HW P;have HN:Hid (R=if r.2.2.2=0 then Je S n s l f (L.map Ka.pr++[(r.1,r.2.1)]) r.2.2.1 else(L.map Ka.pr,r.2.2.1,r.2.2.2)):=(by show _=_;rw[G,Je,if_pos x,if_neg w_];simp only;rw[Hr]);subst B;have a2:=x1_ M;clear X G Hr d h200 M;go_wp2_with fail
   refine HW.mono ?_;rintro e w2 ⟨rfl,h2⟩;have H2:=x1_ h2;clear h2 HW;go_wp2;go_roundw
   case rel=>
    obtain⟨J,L',H,y2,y3,y4⟩:=H2.out;have j:=a.1.lt;have a4:=c.2;have h3:=a2.out;have a3:=congrArg List.length y3;refine⟨r.2.2.1,f,r.2.2.2,J,L',P.1.2,?_,?_,?_,H,y2,?_,?_⟩
    ·grind
    omega
    ·grind
    exact(y4.block _ o_).trans a.2.2.1;exact a.2.2.2.trans (y4.mono o_)
   case measure=>
    obtain⟨J,L',H,_⟩:=H2;rw[H.cells.2.1,H.cells.2.2.1,I.1,I.2]
    grind
  have u:Hid (R=(L.map Ka.pr,b,m)):=by
   rcases X.out with h|h
   ·show _=_;have:=hf h.1;obtain⟨f,rfl⟩:∃f',f=f'+1:=⟨f-1,o_⟩
    grind [Je]
   exact h.2
  have Z:Hid (RdP w S (L.map Ka.pr,b,m) (.returned (P_ o)) wr):=(by have h2:=c.2;have t:=a.2.1;exact⟨o,_,L,rfl,o_,a.1,⟨⟨t.row.1,t.row.2.imp id (λ⟨g,cap,cur,e,hb,rest⟩=>⟨g,cap,cur,e,o_,rest⟩)⟩,λp hp=>⟨(t.each p hp).1,(t.each p hp).2.imp id (λ⟨g,cap,cur,e,hb,rest⟩=>⟨g,cap,cur,e,o_,rest⟩)⟩⟩,rfl,Q,a.2.2.2⟩);clear X a
  by_cases hz:m=0
  ·subst hz;have g1:¬b<(S.size:Int):=o_;go_wp2;go_ret;rw[u];exact Z
  have g1:=beq_eq_false_iff_ne.2 hz;go_wp2;go_ret;rw[u];exact Z
def mt(w:World)(ib fk n fc:Nat)(x1 x2 x3:Int)(S:ByteArray)(z p:Int)(cl:Bool):Prop:=w.heap[ib]? =some (.cells #[L_ fk n fc,I_ x1,I_ x2,I_ x3,.string S,I_ z,I_ p,.bool cl] 278 (0,0))
def mt.cells{w ib fk n fc x1 x2 x3 S z p cl}(h:mt w ib fk n fc x1 x2 x3 S z p cl):(w.cell? (A_ ib 0)=some (L_ fk n fc)/\w.cell? (A_ ib 1)=some (I_ x1)/\w.cell? (A_ ib 2)=some (I_ x2)/\w.cell? (A_ ib 3)=some (I_ x3)/\w.cell? (A_ ib 4)=some (.string S))/\w.cell? (A_ ib 5)=some (I_ z)/\w.cell? (A_ ib 6)=some (I_ p)/\w.cell? (A_ ib 7)=some (.bool cl):=
 ⟨⟨cq_ 0 _ 278 (0,0) h,cq_ 1 _ 278 (0,0) h,cq_ 2 _ 278 (0,0) h,cq_ 3 _ 278 (0,0) h,cq_ 4 _ 278 (0,0) h⟩,cq_ 5 _ 278 (0,0) h,cq_ 6 _ 278 (0,0) h,cq_ 7 _ 278 (0,0) h⟩
def zl a d n c f i g z p S b w (h:mt w a d n c f i g S z p true):C_ 125 #[.pointer (some ⟨a,0,none⟩),.string b] w λe w'=>e=.returned (.tuple #[.int .i64 1,.int .i64 0])/\w'=w:=by
 have j:=h.cells.2.2.2;go_enter Tryz.func125,Tryz.ntmps125;go_wp2;go_ret2
 exact⟨rfl,rfl⟩
def ZbG a g n d f j i z p S b w (h:mt w a g n d f j i S z p false)(k:z≠0):C_ 125 #[.pointer (some ⟨a,0,none⟩),.string b] w λe w'=>e=.returned (.tuple #[.int .i64 z,.int .i64 p])/\∃m,w'=w.drewN m:=by
 obtain⟨_,l,q,o⟩:=h.cells;have c:=bne_iff_ne.2 k;go_enter Tryz.func125,Tryz.ntmps125;go_upto_region 4 with fail;go_quiet (fail);go_wp2;go_ret2
 exact⟨rfl,_,rfl⟩
def fdA(S:ByteArray)(R:List (Int×List VS)×Nat×Int):Int×Int:=if R.2.2≠0/\R.2.1<S.size then(R.2.2,R.2.1) else(0,0)
def RfP(w:World)(ib fk n fc:Nat)(x1 x2 x3:Int)(S:ByteArray)(a:Int×Int)(w':World):Prop:=mt w' ib fk n fc x1 x2 x3 S a.1 a.2 false/\Aa (λq=>q=ib) w w'
def Zf1 c f n G C M J S b m k ct w (h:mt w c f n G C M J S 0 0 false)(y:Dd w f 0 n m k ct)(s:f≠c)(g:f<w.heap.size)(hn:n<=4)(a0:∀i,i<n->0<=k i/\(m i=false->k i<=3))(X:(S++b).size<=1000000000000000):C_ 125 #[.pointer (some ⟨c,0,none⟩),.string b] w λe w'=>e=.returned (.tuple #[.int .i64 (fdA (S++b) (Je (S++b) n m k ((S++b).size+1) [] 0)).1,.int .i64 (fdA (S++b) (Je (S++b) n m k ((S++b).size+1) [] 0)).2])/\RfP w c f n G C M J (S++b) (fdA (S++b) (Je (S++b) n m k ((S++b).size+1) [] 0)) w':=by
 obtain⟨⟨_,_,_,_,c4⟩,x,o,c7⟩:=h.cells;have f4:=fq_ 4 _ _ h;have a6:S.size+(b.size:Int)<=1000000000000000:=w_;obtain⟨T,hT⟩:=ex_ (S++b);rw[<- hT] at X ⊢;obtain⟨U,j⟩:=ex_ (w.setCell (A_ c 4) (.string T));have r:Aa (λq=>q=c) w U:=(by rw[j];exact(Aa.refl (λq=>q=c) w).setCell (p:=(A_ c 4)) (λ_=>rfl) _);have A:mt U c f n G C M J T 0 0 false:=(by rw[j];exact ht_ 4 _ _ _ h);have N:Dd _ _ 0 n m k _:=⟨y.le,λh0=>Qh (y.lt h0) r.size,λi hi=>by rw[<- y.c0 i hi];simp[World.cell?,r.block f g s],λi hi=>by rw[<- y.c1 i hi];simp[World.cell?,r.block f g s],λi hi=>by rw[<- y.c2 i hi];simp[World.cell?,r.block f g s]⟩;have E:=Qh g r.size
 have Y:=x1_ (λW hW=>uo n _ G T C M J _ _ _ W (N.below hW) (Qh E hW.size) hn a0 X);generalize Je T n m k (T.size+1) [] 0=R at *;have t:=x2_ j hT;have B:=x2_ A r;clear h y N j hT A r X;go_enter Tryz.func125,Tryz.ntmps125;go_upto_region 6 with fail;rw[<- t.2,<- t.1];clear t c4 x o c7 f4;have hc:=B.1.cells.1;refine Al (λw'=>w'.cell? _=some _/\w'.cell? _=some _/\w'.cell? _=some _/\w'.cell? _=some _/\w'.cell? _=some _) 9 k_ hc (λhHeld=>?_);refine Ah 0 ?_;refine Ah 1 ?_;refine Ah 2 ?_;refine Ah 3 ?_;refine Ah 4 ?_;refine Ah 5 ?_;refine Ah 6 ?_;refine Ah 7 ?_;refine Af (i:=8) k_ rfl (λKK hK=>?_);go_simp;refine(Y _ bz_.drew).mono ?_;rintro e w2 ⟨tb,vR,L,rfl,a7,hx,_,_,_,D⟩
 have l:Below U.heap.size _ _:=bz_.drew.trans D;have z:mt _ _ _ n _ _ _ _ T 0 0 _:=(l.block _ (Qb B.1).1).trans B.1;have t2:=B.2.below l;have a:=x3_ hx z t2;have a3:=z.cells.1;clear hx z t2 D l B hc;go_simp;refine hK _ _ a3 (λhHeld=>?_);clear hK KK;try simp only[Act.put,List.setIfInBounds_toArray,List.set_cons_succ,List.set_cons_zero]
 refine Ai (i:=9) k_ rfl k_ (λKK hK=>?_);go_simp;refine hK _ _ ?_;clear hK KK;try simp only[Act.put,List.setIfInBounds_toArray,List.set_cons_succ,List.set_cons_zero]
 refine Ak k_ ?_ _;obtain⟨_,O,v,_⟩:=a.1.cells;obtain⟨⟨_,_,_,_,c4⟩,x,o,_⟩:=a.2.1.cells;have V:=fq_ 5 _ _ a.2.1
 by_cases hz:R.2.2=0
 ·have H:Hid (fdA T R=_):=if_neg (λh=>h.1 hz);have a4:(R.2.2 !=0)=false:=(by rw[hz];rfl);rw[hz] at v;go_upto_region 7 with fail;go_quiet (fail);go_upto_region 10 with fail;go_quiet (fail);go_wp2;go_ret2
  rw[H];exact⟨rfl,a.2.1,(a.2.2.drewN _).drewN _⟩
 have a4:=bne_iff_ne.2 hz
 by_cases hlt:R.2.1<T.size
 ·have H:Hid (fdA T R=_):=if_pos ⟨hz,hlt⟩;have g1:decide (((R.2.1:_):_)<(T.size:Int))=_:=decide_eq_true o_
  have F:tb≠_:=λe=>by have A:=a.1;have z:=a.2.1;unfold Fb at A;unfold mt at z;rw[e,z] at A;simp at A
  have a5:_≠_:=λe=>F e.symm;go_upto_region 7 with fail;go_quiet (fail);obtain⟨I,d⟩:=ex_ (w2.drewN nq);have Q:mt I c f n G C M J T 0 0 false:=(by rw[d];exact a.2.1);have u:Fb I tb T R.2.1 R.2.2 vR:=(by rw[d];exact a.1.drew _);have t3:Aa (λq=>q=c) w I:=(by rw[d];exact a.2.2.drewN _);rw[<- d];clear O v c4 x o V a d;obtain⟨_,O,v,_⟩:=u.cells;obtain⟨_,x,o,_⟩:=Q.cells;have V:=fq_ 5 _ _ Q;have P:=ht_ 5 _ _ (I_ R.2.2) Q;have t4:Aa _ _ (I.setCell _ (I_ R.2.2)):=(Aa.refl (λq=>q=c) _).setCell (p:=(A_ c 5)) (λ_=>rfl) _;have x4:=u.touch t4 F;go_upto_region 9 with fail;generalize I.setCell (A_ c 5) (I_ R.2.2)=w4 at *;clear O v x o V;obtain⟨_,O,v,_⟩:=x4.cells;have o:=cR_ 6 P
  have f6:=fq_ 6 _ _ P;have a2:=ht_ 6 _ _ (I_ ((R.2.1:Nat):Int)) P;have t5:Aa _ _ (w4.setCell _ (I_ ((R.2.1:_):_))):=(Aa.refl (λq=>q=c) _).setCell (p:=(A_ c 6)) (λ_=>rfl) _;go_upto_region 10 with fail;generalize w4.setCell (A_ c 6) (I_ ((R.2.1:Nat):Int))=w5 at *;have Z:mt _ _ _ n _ _ _ _ T _ _ _:=a2;obtain⟨_,x,a8,_⟩:=Z.cells;have HZ:=x2_ Z ((t3.trans t4).trans t5);clear O v o f6 P a2 t3 t4 t5 u x4 Q Z;go_quiet (fail);go_wp2;go_ret2
  rw[H];exact⟨rfl,HZ.1,HZ.2.drewN _⟩
 have H:Hid (fdA T R=_):=if_neg (λh=>hlt h.2);have g1:decide (((R.2.1:_):_)<(T.size:Int))=_:=decide_eq_false o_;go_upto_region 7 with fail;go_quiet (fail);go_upto_region 10 with fail;go_quiet (fail);go_wp2;go_ret2
 rw[H];exact⟨rfl,a.2.1,(a.2.2.drewN _).drewN _⟩
def ZcT S n a b (c:1<=n):fdA S (Je S n a b (S.size+1) [] 0)=Nr (Ca n a b RS.start (Aq S) 0):=by
 rcases ZbR (S:=S) (a:=a) (b:=b) c with⟨s,h1,_,h3,_,_⟩|⟨s,h1,_,h3,h4⟩|⟨h1,h2,h3⟩
 rw[h1];exact if_neg (λh=>h.1 h3);rw[h1];exact if_neg (λh=>o_);rw[h1];exact if_pos ⟨h2,h3⟩
def loK(n:Int)(k j:Nat):List Int:=Ba n j++List.replicate (k-j) 0
def ZeH n {k j}(h:j<=k):(loK n k j).length=k:=by simp[loK,Gc];omega
def Zj6 n {k j}(h:j<k):(loK n k j).set j (Vx j n%256)=loK n k (j+1):=by unfold loK;rw[List.set_append_right _ _ (by rw[Gc];omega),Gc,Nat.sub_self,show k-j=(k-(j+1))+1 by omega,List.replicate_succ,List.set_cons_zero];simp[Ba]
def Zj5 n k:loK n k k=Ba n k:=by simp[loK]
def Qw(m:Int)(n k:Nat) w (C:k<=8)(l:n<=1000000000000)(o:(0<=m/\m=n)∨(m<0/\m=n-4294967296)):C_ 135 #[.int .i64 m,.int .i64 k] w λe w'=>e=.returned (.string (strOfNums (Ba n k)))/\Below w.heap.size w w':=by
 have A:=Tw k o_;go_enter Tryz.func135,Tryz.ntmps135;go_upto_if 8 with fail
 go_cut [0] (λv wx=>v=.int .i64 (n:Nat)/\wx=w)
 case first=>
  rcases o with⟨a,b⟩|⟨a,b⟩
  ·subst b;have E:¬(n:Int)<0:=o_;go_wp2;go_meet
   grind
  have y:m+4294967296=n:=o_;go_wp2;go_meet
  grind
 case rest=>
 obtain⟨rfl,t⟩:=hcut;obtain rfl:=t.symm;go_upto_region 4 with fail
 have r:Hid (Bj (w.alloc (.cells (madeCells #[.int .u8 0] k) 5)) w.heap.size (L_ w.heap.size k k) (loK n k 0)/\E_ w (w.alloc (.cells (madeCells #[.int .u8 0] k) 5))):=by
  refine⟨?_,bA_⟩
  grind [Tu,loK,Ba]
 generalize w.alloc (.cells (madeCells #[.int .u8 0] k) 5)=w1 at *;go_upto_region 5 with fail;go_loopw [0,6] (λtn ti wr=>∃(j x:Nat),tn=.int .i64 (x:Nat)/\ti=.int .i64 j/\j<=k/\x<=1000000000000/\Hid (Vx j n=(x:Int))/\Hid (Bj wr w.heap.size (.slice (some ⟨w.heap.size,0,none⟩) k k) (loK n k j)/\E_ w wr)) (λ_ ti _=>k-(intOf ti).toNat)
 case atStart=>exact⟨0,n,rfl,rfl,qg_,l,rfl,r⟩
 case round=>
  obtain⟨j,x,rfl,rfl,i,D,d,c⟩:=hrel
  by_cases hjk:j<k
  ·have B:0<=(j:Int):=o_;have y:j<(k:Int):=o_;obtain⟨s,z⟩:=c.1.cellK (k:=j) (ZeH _ i).symm hjk;have q:Hid (Bj (wr.setCell (A_ w.heap.size j) (.int .u8 (x%256))) w.heap.size (L_ w.heap.size k k) (loK n k (j+1))/\E_ w (wr.setCell (A_ w.heap.size j) (.int .u8 (x%256)))):=(by have:=c.1.put (k:=j) (ZeH _ i).symm ((x:Int)%256);rw[<- d,Zj6 _ hjk] at this;rw[<- d];exact⟨this.1,c.2.setCell qa_ _⟩);have f:Hid (Vx (j+1) n=(x/256:Nat)):=by show _=_;unfold Vx;rw[d];omega
   have u1:IntKind.u8.wrap (x%256)=x%256:=(by simp only[IntKind.wrap,IntKind.bits,IntKind.signed];simp);go_upto_region 8 with fail;generalize wr.setCell (A_ w.heap.size j) (.int .u8 ((x:Int)%256))=w2 at *;refine rd_ ?_;exact⟨j+1,x/256,g_,g_,o_,o_,f,q⟩
  have g:j=k:=o_;subst g;have u:¬j<(j:Int):=o_;have h:=Pz _ _ _ _ c.1;rw[Zj5] at h;have p:=x1_ c.2;go_wp2;go_ret;exact⟨rfl,p⟩
def Hm:Value:=.slice none 0 0
structure Sa(w:World)(o:Nat->Nat)(c:Array Value)(i tl tm:Nat)(F:World->Value->Value->Prop)(N)(vn vm)(vs ms):Prop where
 c0:c[i]? =some vn
 c1:c[i+1]? =some vm
 rn:w.ownsRow 0 tl 1 vn vs.length vs
 on:∀k,vn.ownBlock=some k->o k=i
 rm:w.ownsRow 0 tm 1 vm ms.length ms
 om:∀k,vm.ownBlock=some k->o k=i+1
 len:ms.length=vs.length
 few:vs.length<=4*N
 all:∀j,j<vs.length->Ii w o 13 (λW=>F W (vs.getD j Hm) (ms.getD j Hm))
def Grp(w:World)(o:Nat->Nat)(c:Array Value)(i tl tm:Nat)(F:World->Value->Value->Prop)(N:Nat):Prop:=∃vn vm vs ms,Sa w o c i tl tm F N vn vm vs ms
section
variable {w w':World} {o o':Nat->Nat} {c c':Array Value} {i tl tm N:Nat} {F:World->Value->Value->Prop} {vn vm:Value} {vs ms:List Value} {S:Nat->Prop}
def Sa.keep(h:Sa w o c i tl tm F N vn vm vs ms)(t:Aa S w w')(d:∀k,k<w.heap.size->S k->o k≠i/\o k≠i+1/\o k≠13)(b:Dr w o o')(m:i<20)(e0:c'[i]? =c[i]?)(l:c'[i+1]? =c[i+1]?){f}(p:N<=f):Sa w' o' c' i tl tm F f vn vm vs ms:=by
 have a:∀{ty n:Nat} {v:_} {xs:_},w.ownsRow 0 ty 1 v n xs->_:=λhr k hk=>(rl_ hr k hk).2;refine⟨e0.trans h.c0,l.trans h.c1,t.row h.rn (λk hk e=>(d k (a h.rn k hk) e).1 (h.on k hk)),λk hk=>?_,t.row h.rm (λk hk e=>(d k (a h.rm k hk) e).2.1 (h.om k hk)),λk hk=>?_,h.len,by have:=h.few;omega,λj hj=>(h.all j hj).step t (λk hk e=>(d k hk e).2.2) b⟩
 ·have g:=h.on k hk
  rcases b k (a h.rn k hk) with e|e
  omega;omega
 have g:=h.om k hk
 rcases b k (a h.rm k hk) with e|e
 omega;omega
def Grp.keep(h:Grp w o c i tl tm F N)(t:Aa S w w')(n:∀k,k<w.heap.size->S k->o k≠i/\o k≠i+1/\o k≠13)(j:Dr w o o')(f:i<20)(e0:c'[i]? =c[i]?)(g:c'[i+1]? =c[i+1]?){a}(l:N<=a):Grp w' o' c' i tl tm F a:=by obtain⟨m,e,b,d,h⟩:=h;exact⟨m,e,b,d,h.keep t n j f e0 g l⟩
end
def fE(W:World)(x m:Value):Prop:=∃z:Int,m=I_ z/\Ft W z x
def fN(W:World)(x m:Value):Prop:=(∃z:Int,m=I_ z)/\Gi W 3 m x
def fS(W:World)(x m:Value):Prop:=(∃s:ByteArray,m=.string s)/\Gi W 9 m x
def fL(W:World)(x m:Value):Prop:=∃z mb,m=I_ z/\Gi W 25 (L_ mb 1 1) x/\W.heap[mb]? =some (.cells #[m] 3 (0,0))
structure Hx(w)(o:Nat->Nat)(g)(c)(N:Nat):Prop where
 wb:WB w g c
 og:o g=0
 sz:c.size=13
 nx:∃z:Int,c[12]? =some (I_ z)/\0<=z/\z<=N
 es:Grp w o c 4 29 3 fE N
 ns:Grp w o c 6 25 3 fN N
 ss:Grp w o c 8 47 9 fS N
 ls:Grp w o c 10 84 3 fL N
def Hx.keep{w d o b g N c S}(h:Hx w o g c N)(t:Aa S w d)(i:∀k,k<w.heap.size->S k->13<o k)(a:Dr w o b):Hx d b g c N:=by
 have f:=h.wb.lt;refine⟨t.at_ h.wb (λe=>by have:=i g f e;have:=h.og;omega),?_,h.sz,h.nx,?_,?_,?_,?_⟩
 ·have:=h.og
  rcases a g f with e|e
  omega;omega
 exact h.es.keep t (λk hk e=>w_) a d_ rfl rfl qa_;exact h.ns.keep t (λk hk e=>w_) a d_ rfl rfl qa_;exact h.ss.keep t (λk hk e=>w_) a d_ rfl rfl qa_;exact h.ls.keep t (λk hk e=>w_) a d_ rfl rfl qa_
def Lp(w:World)(o:Nat->Nat)(E:Nat->Prop)[DecidablePred E](i:Nat)(vn vm:Value)(k:Nat):Nat:=
 if k<w.heap.size/\o k≠99 then o k else if E k then 13 else if vn.ownBlock=some k then i else if vm.ownBlock=some k then i+1 else 99
def Nk w o E [DecidablePred E] i vn vm:Dr w o (Lp w o E i vn vm):=λk hk=>by
 by_cases e:o k=99
 exact .inl e;right;unfold Lp
 grind
def Rv{w o E}[DecidablePred E]{i b a k}(c:E k)(d:k<w.heap.size->o k=99):Lp w o E i b a k=13:=by
 unfold Lp
 grind
def Sa.grow{w t o c g i G r s N F u q v A C d b l p a B E}[DecidablePred E](h:Sa w o c i r s F N A C l p)(m:oh w t g i c G r s u q v A C l p B d b a)(T:i=6∨i=8∨i=10)(R:o g=0)(Q:∀k,v.ownBlock=some k->o k=99)(P:c.size=13)(L:r≠s)(H:∀k,E k->d.ownBlock≠some k)(y:∀k,E k->b.ownBlock≠some k)(I:∀x∈a,Ii t (Lp w o E i d b) 13 (λW=>F W x q)):Sa t (Lp w o E i d b) (((c.setIfInBounds 12 (I_ B)).setIfInBounds i d).setIfInBounds (i+1) b) i r s F (N+1) d b (l++a) (p++List.replicate 4 q):=by
 have f:=m.len;have D:=Nk w o E i d b;refine⟨?_,?_,?_,λk hk=>?_,?_,λk hk=>?_,?_,?_,λj hj=>?_⟩
 ·grind
 ·grind
 rw[Qe,f];exact m.rn
 ·unfold Lp
  rcases m.nn k hk with e|e
  rw[if_pos ⟨(rl_ h.rn k e).2,by have:=h.on k e;omega⟩];exact h.on k e
  grind
 rw[Qe,List.length_replicate];exact m.rm
 ·unfold Lp
  rcases m.nm k hk with e|e
  rw[if_pos ⟨(rl_ h.rm k e).2,by have:=h.om k e;omega⟩];exact h.om k e;rw[if_neg o_,if_neg (λn=>y k n hk),if_neg (λn=>?_),if_pos hk];obtain⟨U,S⟩:=Ad m.rn n;obtain⟨M,O⟩:=Ad m.rm hk
  grind
 simp[h.len,f]
 ·have:=h.few
  grind
 rw[Qe,f] at hj
 by_cases hjl:j<l.length
 ·have z:(l++a).getD j Hm=l.getD j Hm:=w_;have n:(p++List.replicate 4 q).getD j Hm=p.getD j Hm:=(by simp[List.getD,List.getElem?_append_left (show j<p.length by rw[h.len];exact hjl)]);rw[z,n];refine(h.all j hjl).step m.tch (λk hk e=>?_) D
  rcases e with e|e|e|e
  subst e;omega
  ·grind
  have:=h.on k e;omega;have:=h.om k e;omega
 have J:j-l.length<a.length:=o_;have z:(l++a).getD j Hm=a[j-l.length]:=w_;have n:(p++List.replicate 4 q).getD j Hm=q:=(by rw[List.getD,List.getElem?_append_right (by rw[h.len];omega),List.getElem?_replicate,if_pos (by rw[h.len];omega)];rfl);rw[z,n];exact I _ (Qf _)
def Grp.other{w m o c g i j A q r l d N F z u D v s y b a x n f t E}[DecidablePred E](h:Grp w o c j l d z N)(p:Sa w o c i q r F N s y x n)(B:oh w m g i c A q r u D v s y x n t b a f)(H:o g=0)(G:∀k,v.ownBlock=some k->o k=99)(I:i<=10)(J:j<=10)(L:4<=j)(C:j+1<i∨i+1<j):Grp m (Lp w o E i b a) (((c.setIfInBounds 12 (I_ t)).setIfInBounds i b).setIfInBounds (i+1) a) j l d z (N+1):=by
 refine h.keep B.tch (λk hk e=>?_) (Nk w o E i _ _) o_ ?_ ?_ (Nat.le_succ _)
 ·rcases e with e|e|e|e
  subst e;omega
  ·grind
  have:=p.on k e;omega;have:=p.om k e;omega
 rw[Array.getElem?_setIfInBounds_ne o_,Array.getElem?_setIfInBounds_ne o_,Array.getElem?_setIfInBounds_ne o_];rw[Array.getElem?_setIfInBounds_ne o_,Array.getElem?_setIfInBounds_ne o_,Array.getElem?_setIfInBounds_ne o_]
def zt(c:Array Value) i (b:i<=10) x y z (a:c.size=13):(((c.setIfInBounds 12 x).setIfInBounds i y).setIfInBounds (i+1) z)[12]? =some x/\(((c.setIfInBounds 12 x).setIfInBounds i y).setIfInBounds (i+1) z).size=13:=by refine⟨?_,by simp[a]⟩;rw[Array.getElem?_setIfInBounds_ne o_,Array.getElem?_setIfInBounds_ne o_,Array.getElem?_setIfInBounds_self_of_lt o_]
abbrev Vn(news:List Value)(k:Nat):Prop:=∃x∈news,x.ownBlock=some k
def Zci(w w':World)(o:Nat->Nat)(g:Nat)(N:Nat)(v:Value)(c:Array Value):Prop:=∃o' c',Hx w' o' g c' (N+1)/\Dr w o o'/\Aa (λk=>o k<=13∨v.ownBlock=some k) w w'/\(∀j,j<4->c'[j]? =c[j]?)/\(∀k,w.heap.size<=k->o' k<=13∨o' k=99)/\(∀k,k<w.heap.size->o k=99->v.ownBlock≠some k->o' k=99)/\∀k,k<w.heap.size->o k=99->o' k<=13∨o' k=99
def jk{w w' o g i ty tl tm N c F u mk v vn vm vn' vm' vs ms news nx}(hg:Sa w o c i tl tm F N vn vm vs ms)(hp:oh w w' g i c ty tl tm u mk v vn vm vs ms nx vn' vm' news)(og:o g=0)(hi:i<=10):Aa (λk=>o k<=13∨v.ownBlock=some k) w w':=
 hp.tch.mono (λk _ e=>by
  rcases e with e|e|e|e
  ·grind
  exact .inr e;have:=hg.on k e;omega
  have:=hg.om k e;omega)
def ji w o E [DecidablePred E] i vn vm (hi:i<=10):∀k,w.heap.size<=k->Lp w o E i vn vm k<=13∨Lp w o E i vn vm k=99:=λk hk=>by grind [Lp]
def tz{w y o g i A m n N c F u C v p s b f q r d z}(l:Sa w o c i m n F N p s q r)(h:oh w y g i c A m n u C v p s q r z b f d)(D:i<=10){E}[DecidablePred E](t:∀k,E k->k<w.heap.size->v.ownBlock=some k:=by exact λk hk hl=>by obtain⟨x,B,j⟩:=hk;rcases(h.all x B).2 k j with e|e;exact e;omega):∀k,k<w.heap.size->o k=99->v.ownBlock≠some k->Lp w o E i b f k=99:=λk hk h9 hv=>by
 unfold Lp;rw[if_neg (λe=>e.2 h9),if_neg (λe=>hv (t k e hk)),if_neg (λe=>?_),if_neg (λe=>?_)]
 ·rcases h.nm k e with a|a
  have:=l.om k a;omega;omega
 rcases h.nn k e with a|a
 have:=l.on k a;omega;omega
def ze w o E [DecidablePred E] i vn vm (hi:i<=10):∀k,k<w.heap.size->o k=99->Lp w o E i vn vm k<=13∨Lp w o E i vn vm k=99:=λk _ h9=>by grind [Lp]
def kh(c:Array Value) i (hi:4<=i) x y z:∀j,j<4->(((c.setIfInBounds 12 x).setIfInBounds i y).setIfInBounds (i+1) z)[j]? =c[j]?:=λj hj=>w_
def Hx.ownN{w o g N c v L}(h:Hx w o g c N)(z:Ag w 0 v L)(m:∀k,v.ownBlock=some k->o k=99)(u:L.length<=4194304)(G:N<=20000000):C_ 142 #[.pointer (some ⟨g,4,none⟩),v] w λe w'=>e=.returned (.tuple #[])/\Zci w w' o g N v c:=by
 obtain⟨E,A,F,C,a⟩:=h.ns;obtain⟨s,b,q,B⟩:=h.nx;have D:=a.few;have y:=a.len;refine(jh g c v _ _ L _ _ s w h.wb a.c0 a.c1 b z a.rn a.rm ?_ u o_ o_ ⟨q,o_⟩).mono ?_
 ·cases e:A.ownBlock with
  |none=>exact .inl rfl
  |some k=>exact .inr (λe2=>by have:=a.om k e;grind)
 rintro e w' ⟨rfl,l,j,i,f⟩
 have n:∀k,Vn i k->k<w.heap.size->o k=99:=λk hk u=>by
  obtain⟨x,b,d⟩:=hk
  rcases(f.all x b).2 k d with e|e
  exact m k e;omega
 have O:=Nk w o (Vn i) 6 l j;have t:=h.wb.lt;obtain⟨r,p⟩:=zt c 6 d_ (I_ (s+1)) l j h.sz;refine⟨rfl,Lp w o _ 6 _ _,_,⟨f.wb,?_,p,⟨s+1,r,o_,o_⟩,h.es.other a f h.og m d_ d_ d_ d_,⟨l,j,_,_,a.grow f d_ h.og m h.sz d_ (λk hk=>by obtain⟨x,b,d⟩:=hk;exact f.an x b k d) (λk hk=>by obtain⟨x,b,d⟩:=hk;exact f.am x b k d) (λx b=>?_)⟩,h.ss.other a f h.og m d_ d_ d_ d_,h.ls.other a f h.og m d_ d_ d_ d_⟩,O,jk a f h.og d_,kh c 6 d_ _ _ _,ji _ _ _ _ _ _ d_,tz a f d_,ze _ _ _ _ _ _ d_⟩
 ·rcases O g t with e|e
  have:=h.og;omega;exact e.trans h.og
 refine(Ii.all (f.all x b).1 (λk hk=>Rv ⟨x,b,hk⟩ (n k ⟨x,b,hk⟩))).mono (λW hW=>⟨⟨_,rfl⟩,hW⟩)
def Hx.ownT{w o g N c v L}(h:Hx w o g c N)(z:Cc w 0 v L)(m:∀k,v.ownBlock=some k->o k=99)(u:L.length<=4194304)(G:N<=20000000):C_ 143 #[.pointer (some ⟨g,4,none⟩),v] w λe w'=>e=.returned (.tuple #[])/\Zci w w' o g N v c:=by
 obtain⟨E,A,F,C,a⟩:=h.ss;obtain⟨s,b,q,B⟩:=h.nx;have D:=a.few;have y:=a.len;refine(zg g c v _ _ L _ _ s w h.wb a.c0 a.c1 b z a.rn a.rm ?_ u o_ o_ ⟨q,o_⟩).mono ?_
 ·cases e:A.ownBlock with
  |none=>exact .inl rfl
  |some k=>exact .inr (λe2=>by have:=a.om k e;grind)
 rintro e w' ⟨rfl,l,j,i,f⟩
 have n:∀k,Vn i k->k<w.heap.size->o k=99:=λk hk u=>by
  obtain⟨x,b,d⟩:=hk
  rcases(f.all x b).2 k d with e|e
  exact m k e;omega
 have O:=Nk w o (Vn i) 8 l j;have t:=h.wb.lt;obtain⟨r,p⟩:=zt c 8 d_ (I_ (s+1)) l j h.sz;refine⟨rfl,Lp w o _ 8 _ _,_,⟨f.wb,?_,p,⟨s+1,r,o_,o_⟩,h.es.other a f h.og m d_ d_ d_ d_,h.ns.other a f h.og m d_ d_ d_ d_,⟨l,j,_,_,a.grow f d_ h.og m h.sz d_ (λk hk=>by obtain⟨x,b,d⟩:=hk;exact f.an x b k d) (λk hk=>by obtain⟨x,b,d⟩:=hk;exact f.am x b k d) (λx b=>?_)⟩,h.ls.other a f h.og m d_ d_ d_ d_⟩,O,jk a f h.og d_,kh c 8 d_ _ _ _,ji _ _ _ _ _ _ d_,tz a f d_,ze _ _ _ _ _ _ d_⟩
 ·rcases O g t with e|e
  have:=h.og;omega;exact e.trans h.og
 refine(Ii.all (f.all x b).1 (λk hk=>Rv ⟨x,b,hk⟩ (n k ⟨x,b,hk⟩))).mono (λW hW=>⟨⟨_,rfl⟩,hW⟩)
def Zj1:(Tryz.prog.info? 84).map (λi=>(i.zero,i.size,i.bytes))=some (some (.slice none 0 0),1,24):=k_
def Lt(w w':World)(o:Nat->Nat)(g N:Nat)(c:Array Value):Prop:=∃o' c',Hx w' o' g c' N/\Dr w o o'/\Aa (λk=>o k<=13∨o k=99) w w'/\(∀j,j<4->c'[j]? =c[j]?)/\(∀k,w.heap.size<=k->o' k<=13∨o' k=99)/\∀k,k<w.heap.size->o k=99->o' k<=13∨o' k=99
structure ZgK(w wr)(o oi)(g N i)(c ci:Array Value)(v)(vals)(Ls:Nat->List Int):Prop where
 bk:Hx wr oi g ci (N+i)
 sm:Dr w o oi
 tc:Aa (λk=>o k<=13∨o k=99) w wr
 cc:∀j,j<4->ci[j]? =c[j]?
 nw:∀k,w.heap.size<=k->oi k<=13∨oi k=99
 ro:wr.ownsRow 0 25 1 v vals.length vals
 ov:∀k,v.ownBlock=some k->oi k=99
 ls:∀j,i<=j->j<vals.length->Ag wr 0 (vals.getD j Hm) (Ls j)/\∀k,(vals.getD j Hm).ownBlock=some k->oi k=99
 lo:∀j,j<vals.length->∀k,(vals.getD j Hm).ownBlock=some k->k<w.heap.size
 n9:∀k,k<w.heap.size->o k=99->oi k<=13∨oi k=99
def ZgK.next{w wr u o r g N i c x v a t}(h:ZgK w wr o r g N i c x v a t)(y:i<a.length)(p:∀i j,i<j->j<a.length->∀k,(a.getD i Hm).ownBlock=some k->(a.getD j Hm).ownBlock≠some k)(q:Zci wr u r g (N+i) (a.getD i Hm) x):∃o2 c2,ZgK w u o o2 g N (i+1) c c2 v a t:=by
 obtain⟨o2,c2,z,n,m,B,G,s,H⟩:=q;have A:=h.tc.size;have d:=(h.ls i qa_ y)
 have l:∀k,v.ownBlock=some k->(a.getD i Hm).ownBlock≠some k:=λk hk e=>by
  obtain⟨E,D⟩:=Ad h.ro hk;obtain⟨F,C⟩:=Ad d.1 e
  grind
 refine⟨o2,c2,z,h.sm.trans A n,h.tc.trans2 m (λk hk=>?_),λj hj=>(B j hj).trans (h.cc j hj),λk hk=>?_,m.row h.ro (λk hk e=>?_),λk hk=>?_,λj hj hjl=>⟨m.row (h.ls j o_ hjl).1 (λk hk e=>?_),λk hk=>?_⟩,h.lo,λk hk h9=>?_⟩
 ·by_cases hl:k<w.heap.size
  ·left
   rcases hk with e|e
   ·rcases h.sm k hl with b|b
    exact .inr b;omega
   have:=d.2 k e
   rcases h.sm k hl with b|b
   exact .inr b;omega
  omega
 ·by_cases hl:k<wr.heap.size
  ·rcases n k hl with e|e
   ·grind
   rw[e];exact h.nw k hk
  grind
 ·rcases e with e|e
  have:=h.ov k hk;omega
  grind
 exact s k (rl_ h.ro k hk).2 (h.ov k hk) (l k hk)
 ·rcases e with e|e
  have:=(h.ls j o_ hjl).2 k hk;omega
  grind
 exact s k (rl_ (h.ls j o_ hjl).1 k hk).2 ((h.ls j o_ hjl).2 k hk) (λe=>p i j o_ hjl k e hk);have f:k<wr.heap.size:=o_
 rcases h.n9 k hk h9 with e|e
 ·rcases n k f with b|b
  omega;omega
 grind
def Hx.ownL{w o g N c v b}{Ls:Nat->List Int}(h:Hx w o g c N)(hr:w.ownsRow 0 25 1 v b.length b)(D:∀k,v.ownBlock=some k->o k=99)(aR:∀j,j<b.length->Ag w 0 (b.getD j Hm) (Ls j)/\∀k,(b.getD j Hm).ownBlock=some k->o k=99)(b6:∀j,(Ls j).length<=4194304)(bD:∀i j,i<j->j<b.length->∀k,(b.getD i Hm).ownBlock=some k->(b.getD j Hm).ownBlock≠some k)(hn:b.length<=1000)(hN:N<=10000000)(cA:∀k,w.heap.size<=k->o k=99):C_ 144 #[.pointer (some ⟨g,4,none⟩),v] w λe w'=>e=.returned (.tuple #[])/\Lt w w' o g (N+b.length+1) c:=by
 obtain⟨i0,bT,cY,cV,dA⟩:=info_parts Su;obtain⟨j0,a6,aU,b3,aZ⟩:=info_parts Zey;obtain⟨l0,bR,d8,dC,dG⟩:=info_parts Zj1;have dI:Hid (ZgK w w o o g N 0 c c v _ _):=⟨h,Dr.refl _ _,Aa.refl _ _,λ_ _=>rfl,λk hk=>.inr (cA k hk),hr,D,λj _ hj=>aR j hj,λj hj k hk=>(rl_ (aR j hj).1 k hk).2,λk _ h9=>.inr h9⟩;have cU:=x1_ bD;have cL:=x1_ b6;obtain⟨n,aT⟩:=ex_ b.length;have M:=x1_ aT
 obtain⟨a,C,rfl⟩:∃a C,v=.slice a n C:=by
  rcases hr.2 with⟨rfl,h0⟩|⟨q,cap,cur,rfl,_⟩
  ·grind
  grind
 rw[<- aT] at hn ⊢;clear h hr D aR b6 bD cA aT;go_enter Tryz.func144,Tryz.ntmps144;go_upto_region 1 with fail;go_loopw [4] (λti wr=>∃(i:Nat) (oi:Nat->Nat) (ci:Array Value),i<=n/\ti=.int .i64 i/\Hid (ZgK w wr o oi g N i c ci (.slice a n C) b Ls)) (λti _=>n-(intOf ti).toNat)
 case atStart=>grind
 case round=>
  clear dI;obtain⟨i,oi,ci,hi,rfl,d⟩:=hrel
  by_cases hin:i<n
  ·have g0:0<=(i:Int):=o_;have g1:i<(n:Int):=o_;have aE:i<b.length:=by rw[<- M];exact hin
   obtain⟨q,rfl⟩:∃q,a=some ⟨q,0,none⟩:=by
    rcases d.out.ro.2 with⟨_,h0⟩|⟨gl,cap,cur,e,_⟩
    omega
    grind
   have cv:wr.cell? (A_ q i)=some (b.getD i Hm):=by
    have dL:=d.ro;rw[<- M] at dL
    grind [World.ownsRow.cellAt]
   have HC:=d.bk.ownN (d.ls i qa_ aE).1 (d.ls i qa_ aE).2 (cL i) o_;have aM:Hid (∀w2,Zci _ w2 _ g _ _ _->_):=λw2 hq=>d.next aE cU hq
   obtain⟨ax,J,cx,c3⟩:∃ax J cx,b.getD i Hm=.slice ax J cx:=by
    obtain⟨ax,cx,e⟩:=(d.ls i qa_ aE).1.shape
    grind
   rw[c3] at cv HC aM;clear c3 d;go_wp2_with fail
   refine HC.mono ?_;rintro e w2 ⟨rfl,hq⟩;obtain⟨o2,c2,bE⟩:=aM w2 hq;have dX:=x1_ bE;clear hq bE HC aM cv;go_wp2;go_roundw;case rel=>grind
   case measure=>exact z_
  have c6:i=n:=o_;subst c6;have fB:¬i<(i:Int):=o_;generalize wr=wA at *;obtain⟨vn,vm,T,ms,I⟩:=d.bk.ls;obtain⟨J,f,dZ,f9⟩:=d.bk.nx;have dS:=I.few;have fA:ms.length<=400000000:=(by rw[I.len];omega);have A:=d.bk.wb;have cP:=A.lt;obtain⟨z,hz⟩:=ex_ (-(J+1));have q1:IntKind.i64.wrap (-(J+1))=z:=(by rw[Cb o_ o_,hz]);have q2:=hz.symm;have f8: -1000000000000<=z:=o_;obtain⟨c1,a3⟩:=ex_ (ci.setIfInBounds 12 (I_ (J+1)));have cS:=x1_ a3;have aD:Hid (c1[10]? =some _/\c1[11]? =some _):=⟨by rw[a3,Array.getElem?_setIfInBounds_ne d_];exact I.c0,by rw[a3,Array.getElem?_setIfInBounds_ne d_];exact I.c1⟩;have dH:wA.cell? (A_ g 12)=some (I_ J):=(by rw[A.cell];exact f);have dB:=λo=>A.frozen o
  have cJ:(wA.setCell (A_ g 12) (I_ (J+1))).cell? (A_ g 12)=some (I_ (J+1)):=by
   rw[(A.set 12 (I_ (J+1))).cell]
   grind
  obtain⟨y,V⟩:=ex_ ((wA.setCell (A_ g 12) (I_ (J+1))).alloc (.cells #[I_ z] 3));have bO:(wA.setCell (A_ g 12) (I_ (J+1))).heap.size=wA.heap.size:=(by simp[World.setCell]);have F:Aa (λk=>k=g) wA y:=(by rw[V];exact((Aa.refl (λk=>k=g) _).setCell (p:=(A_ g 12)) (λ_=>rfl) _).alloc _);have bN:WB y g c1:=by rw[V,a3];exact(A.set _ _).alloc _
  have d9:y.heap[wA.heap.size]? =some (.cells #[I_ z] 3 (0,0)):=by rw[V,<- bO];exact hn_
  have dK:y.heap.size=wA.heap.size+1:=(by rw[V];simp[World.setCell]);have a9:∀{base ty n:Nat} {u:_} {xs:_},_->ty≠90->y.ownsRow base ty 1 u n xs:=λhr hne=>F.row hr (λk hk e=>by subst e;exact A.apart hr hne hk.symm);have c8:=a9 d.ro d_;have cC:=a9 I.rn d_;have bL:=a9 I.rm d_;have G:=x3_ (A.apart d.ro d_) (A.apart I.rn d_) (A.apart I.rm d_);have aK:=x1_ (An d.ro I.rn d_);have aH:=x1_ (An d.ro I.rm d_);have bW:=x1_ (An I.rn I.rm d_);have bB:Hid (y.ownsRow 0 84 1 _ _ _):=cC;have c5:Hid (y.ownsRow 0 3 1 _ _ _):=bL;obtain⟨l,aN⟩:=ex_ wA.heap.size;have cE:Hid (y.heap[l]? =some (.cells #[I_ z] 3 (0,0))):=w_
  have a4:Hid (¬(l=g∨(Value.slice a i C).ownBlock=some l∨vn.ownBlock=some l∨vm.ownBlock=some l)):=λe=>by
   rcases e with e|e|e|e
   omega;have:=(rl_ d.ro _ e).2;omega;have:=(rl_ I.rn _ e).2;omega;have:=(rl_ I.rm _ e).2;omega
  have bF:Hid (∀w' r t news,oh y w' g 10 ci 25 84 3 (L_ l 1 1) (I_ z) (.slice a i C) vn vm T ms (J+1) r t news->w'.heap[l]? =some (.cells #[I_ z] 3 (0,0))->Lt w w' o g (N+i+1) c):=λw' r t news hp hm=>by
   have U:Dr wA oi (λk=>if k<wA.heap.size then oi k else 99):=λk hk=>.inr (by simp[hk])
   have cB:∀k,k<wA.heap.size->(λk=>if k<wA.heap.size then oi k else 99) k=oi k:=λk hk=>by simp[hk]
   have cM:(λk=>if k<wA.heap.size then oi k else 99) l=99:=(by simp[aN]);obtain⟨oB,b8⟩:∃oB:Nat->Nat,oB=λk=>if k<wA.heap.size then oi k else 99:=⟨_,rfl⟩;rw[<- b8] at U cB cM
   have c9:∀k,wA.heap.size<=k->oB k=99:=λk hk=>w_
   clear b8;have dN:=d.bk.og
   have aB:∀j,j<=10->4<=j->∀k,k<wA.heap.size->k=g->oi k≠j/\oi k≠j+1/\oi k≠13:=λj h1 h2 k _ e=>by subst e;omega
   have a0:=I.keep F (aB _ d_ d_) U d_ rfl rfl qa_;have cW:=d.bk.es.keep F (aB 4 d_ d_) U d_ rfl rfl qa_;have bG:=d.bk.ns.keep F (aB 6 d_ d_) U d_ rfl rfl qa_;have b9:=d.bk.ss.keep F (aB 8 d_ d_) U d_ rfl rfl qa_;have H:=(cB g cP).trans dN;have D:=λk hk=>(cB k (rl_ d.ro k hk).2).trans (d.ov k hk)
   have aI:∀k,(Vn news k∨k=l)->k<y.heap.size->oB k=99:=λk hk hl=>by
    rcases hk with⟨x,f,hxk⟩|e
    ·rcases(hp.all x f).2 k hxk with e|e
     exact D k e;omega
    grind
   have cR:∀k,(Vn news k∨k=l)->r.ownBlock≠some k:=λk hk e=>by
    rcases hk with⟨x,f,hxk⟩|Q
    exact hp.an x f k hxk e;subst Q
    rcases hp.nn _ e with e3|e3
    exact a4 (.inr (.inr (.inl e3)));omega
   have cD:∀k,(Vn news k∨k=l)->t.ownBlock≠some k:=λk hk e=>by
    rcases hk with⟨x,f,hxk⟩|Q
    exact hp.am x f k hxk e;subst Q
    rcases hp.nm _ e with e3|e3
    exact a4 (.inr (.inr (.inr e3)));omega
   obtain⟨cT,dJ⟩:=zt ci 10 d_ (I_ (J+1)) r t d.bk.sz;have O:=Nk y oB (λk=>Vn news k∨k=l) 10 r t;have bA:g<y.heap.size:=o_
   have hF:∀x∈_,Ii w' (Lp y oB (λk=>Vn _ k∨k=l) 10 r t) _ (λW=>fL W x _):=λx f=>
    ((Ii.all (hp.all x f).1 (λk hk=>Rv (.inl ⟨x,f,hk⟩) (aI k (.inl ⟨x,f,hk⟩)))).and (Ii.block hm (Rv (.inr rfl) (aI _ (.inr rfl))))).mono (λW hW=>⟨z,l,rfl,hW.1,hW.2⟩)
   refine⟨Lp y oB _ 10 r t,_,⟨hp.wb,?_,dJ,⟨J+1,cT,o_,o_⟩,cW.other a0 hp H D d_ d_ d_ d_,bG.other a0 hp H D d_ d_ d_ d_,b9.other a0 hp H D d_ d_ d_ d_,⟨r,t,_,_,a0.grow hp d_ H D d.bk.sz d_ cR cD hF⟩⟩,?_,?_,λj hj=>(kh ci 10 d_ _ _ _ j hj).trans (d.cc j hj),λk hk=>?_,λk hk h9=>?_⟩
   ·rcases O g bA with e|e
    omega;omega
   exact(d.sm.trans d.tc.size U).trans (Nat.le_trans d.tc.size F.size) O
   ·refine(d.tc.trans2 F (λk hk=>?_)).trans2 (jk a0 hp H d_) (λk hk=>?_)
    ·subst hk
     by_cases hl:k<w.heap.size
     ·left
      rcases d.out.sm k hl with Q|Q
      exact .inr Q;omega
     omega
    by_cases hl:k<w.heap.size
    ·left;have X:=Qh hl d.tc.size;have cG:=cB k X
     rcases hk with e|e
     ·rcases d.out.sm k hl with Q|Q
      exact .inr Q;omega
     have:=D k e
     rcases d.out.sm k hl with Q|Q
     exact .inr Q;omega
    omega
   ·by_cases hl:k<y.heap.size
    ·by_cases h99:oB k=99
     unfold Lp;rw[if_neg (λe=>e.2 h99)];split;omega;split;omega;split;omega;exact .inr rfl
     rcases O k hl with e|e
     exact absurd e h99;rw[e]
     by_cases X:k<wA.heap.size
     rw[cB k X];exact d.nw k hk
     grind
    grind [ji]
   have X:=Qh hk d.tc.size;have cG:=cB k X
   rcases d.out.n9 k hk h9 with e|e
   ·rcases O k o_ with Q|Q
    omega;omega
   grind [ze]
  have dE:Hid (y.ownsRow 0 25 1 (.slice a i C) i (Mn b (L_ l 1 1:Value) 0)):=(by rw[Wv];have:=c8;rw[<- M] at this;exact this);have cF:Hid (Aa (λk=>k=g∨(Value.slice a i C).ownBlock=some k) y _):=Aa.refl _ _;have aG:=x1_ bN;clear I d c8 cC bL d9 bN a9 F A a3 hz;go_upto_region 7 with fail;rw[<- V,<- aN];clear aN dK bO;clear cJ dH dB V;go_loopw [6] (λti wr=>∃k:Nat,k<=i/\ti=.int .i64 k/\Hid (wr.ownsRow 0 25 1 (.slice a i C) i (Mn b (.slice (some ⟨l,0,none⟩) 1 1:Value) k))/\Hid (Aa (λk=>k=g∨(Value.slice a i C).ownBlock=some k) y wr)/\Hid (WB wr g c1)) (λti _=>i-(intOf ti).toNat)
  case atStart=>grind
  case round=>
   clear dE cF aG;obtain⟨k,dD,rfl,HR,HT,HW⟩:=hrel
   by_cases hk:k<i
   ·have dU:0<=(k:Int):=o_;have f7:k<(i:Int):=o_
    obtain⟨gl,rfl⟩:∃gl,a=some ⟨gl,0,none⟩:=by
     rcases HR.out.2 with⟨_,h0⟩|⟨gl,cap,cur,e,_⟩
     omega
     grind
    have bM:=gr _ (L_ l 1 1:Value) (k:=k) (by rw[<- M];exact dD);have cc:∃u,wr.cell? (A_ gl k)=some u:=(by rw[World.ownsRow.cellAt HR k o_];exact⟨_,Qd (by rw[bM,<- M];exact hk)⟩);obtain⟨u0,c0⟩:=cc;have cf:=World.ownsRow.frozenAt HR k;have dY:Hid ((wr.setCell (A_ gl k) (L_ l 1 1:Value)).ownsRow 0 25 1 (L_ gl i C) i (Mn b (L_ l 1 1:Value) (k+1))):=by rw[<- gt _ _ (by rw[<- M];exact hk)];exact(World.ownsRow.stored HR k _).1
    have dV:Hid (Aa _ _ (wr.setCell _ (L_ l 1 1:_))):=HT.setCell (p:=(A_ gl k)) (λ_=>.inr rfl) _;have aO:Hid (WB (wr.setCell _ (L_ l 1 1:_)) g _):=HW.other (p:=(A_ gl k)) (λe=>G.1 (by rw[e];rfl)) _;clear HR HT HW bM;go_wp2;go_roundw;case rel=>grind
    case measure=>exact z_
   have dM:k=i:=o_;subst dM;have f6:¬k<(k:Int):=o_
   have aX:Hid (Ji y wr 25 (L_ l 1 1:Value) (.slice a k C) k 0 [.slice a k C] (λk'=>k'=g∨(Value.slice a k C).ownBlock=some k')):=by
    have:=HR.out
    rw[show Mn b (L_ l 1 1:Value) k=List.replicate k (L_ l 1 1:Value) by
     have:=Wu b (L_ l 1 1:Value);rw[<- M] at this
     exact this] at this
    exact .start this m_ HT
   have a1:Hid (wr.ownsRow 0 25 1 _ k _):=aX.row;have b7:=HW;clear HR HT HW;go_wp2_with (at_builtin;refine Ab rfl (.tmp 45) (.tmp 47) 84 rfl 0 25 j0 (.slice none 0 0) 1 24 Tryz.underlying84 a6 aU b3 aZ rfl d_ (.slice a k C) k _ rfl (ra_ a1 _) (A_ wr.heap.size 0) 1 1 [L_ l 1 1] rfl rfl (Am wr _ 25) (by intro u S;simp only[List.mem_cons,List.not_mem_nil,or_false] at S;rcases S with rfl;rfl) d_ m_ o_ qg_ ?_)
   intro y1 w1 E;have aL:Hid (Ji _ _ _ _ _ k 1 [_,_] _):=aX.more (m:=1) _ o_ E (λk' hk'=>.inr hk') m_;have aG:=x1_ ((b7.alloc _).grown E.2.1 G.1);obtain⟨bX,p1,dO⟩:=E.2.2.2.2;subst dO;have a2:Hid (w1.ownsRow 0 25 1 _ k _):=aL.row;clear E aX b7 a1;go_wp2_with (at_builtin;refine Ab rfl (.tmp 49) (.tmp 52) 84 rfl 0 25 j0 (.slice none 0 0) 1 24 Tryz.underlying84 a6 aU b3 aZ rfl d_ (.slice a k C) k _ rfl (ra_ a2 _) (A_ w1.heap.size 0) 2 2 [L_ l 1 1,L_ l 1 1] rfl rfl (Am w1 _ 25) (by intro u S;simp only[List.mem_cons,List.not_mem_nil,or_false] at S;rcases S with rfl|rfl<;>rfl) d_ m_ o_ qg_ ?_)
   intro y2 w2 E;have aW:Hid (Ji y w2 _ _ _ k 2 [_,_,y2] _):=aL.more (m:=2) _ o_ E (λk' hk'=>.inr hk') m_;have aO:=x1_ ((aG.alloc _).grown E.2.1 G.1);obtain⟨bI,p2,dP⟩:=E.2.2.2.2;subst dP;have Y:Hid (w2.ownsRow 0 25 1 _ k _):=aW.row;clear E aL aG a2;go_wp2_with (at_builtin;refine Ab rfl (.tmp 54) (.tmp 58) 84 rfl 0 25 j0 (.slice none 0 0) 1 24 Tryz.underlying84 a6 aU b3 aZ rfl d_ (.slice a k C) k _ rfl (ra_ Y _) (A_ w2.heap.size 0) 3 3 [L_ l 1 1,L_ l 1 1,L_ l 1 1] rfl rfl (Am w2 _ 25) (by intro u S;simp only[List.mem_cons,List.not_mem_nil,or_false] at S;rcases S with rfl|rfl|rfl<;>rfl) d_ m_ o_ qg_ ?_)
   intro y3 w3 E;have s:Hid (Ji y w3 25 _ _ k 3 [_,_,_,y3] _):=aW.more (m:=3) _ o_ E (λk' hk'=>.inr hk') m_;have aC:=x1_ ((aO.alloc _).grown E.2.1 G.1);obtain⟨b5,p3,cH⟩:=E.2.2.2.2;subst cH;clear E aW aO Y
   have aY:=x1_ (s.tch.row bB (λk' hk' e=>by
    rcases e with e|e
    subst e;exact G.2.1 hk'.symm
    rcases aK.out with h|h
    ·grind
    grind))
   have bU:=x1_ (s.tch.row c5 (λk' hk' e=>by
    rcases e with e|e
    subst e;exact G.2.2 hk'.symm
    rcases aH.out with h|h
    ·grind
    grind))
   have d6:w3.cell? (A_ g 10)=some vn:=(by rw[aC.cell];exact aD.1);have df:=λo=>aC.frozen o;generalize hnews:[(.slice a k C:Value),L_ bX (k+1) p1,L_ bI (k+2) p2,L_ b5 (k+3) p3]=news at s;have bY:=x1_ hnews.symm;clear hnews;go_wp2_with (at_builtin;refine Ab rfl (.tmp 64) (.tmp 69) 86 rfl 0 84 l0 (.slice none 0 0) 1 24 Tryz.underlying86 bR d8 dC dG rfl d_ vn T.length T rfl (ra_ aY _) (A_ w3.heap.size 0) 4 4 [.slice a k C,L_ bX (k+1) p1,L_ bI (k+2) p2,L_ b5 (k+3) p3] rfl rfl (Am w3 _ 84) (by intro u S;simp only[List.mem_cons,List.not_mem_nil,or_false] at S;rcases S with rfl|rfl|rfl|rfl<;>rfl) d_ m_ o_ qg_ ?_)
   intro r w4 E;obtain⟨bK,aF,aV,_,q4,p4,cX⟩:=E;have T4:=((Aa.refl _ _).alloc _).grown aF (λk' e _=>e);have P:=x1_ ((aC.alloc _).grown aF G.2.1);have bS:=x1_ (World.ownsRow.kept (ra_ bU _) aF bW)
   have c4:=x1_ (λx f=>(s.all x f).1.touch T4 (λk' cur _ hh e=>by
    obtain⟨dT,dW⟩:=Ad aY e
    grind))
   have bP:=x1_ ((s.tch.mono (S':=λk'=>k'=g∨(Value.slice a k _).ownBlock=some _∨vn.ownBlock=some _∨vm.ownBlock=some k') (λk' _ e=>by rcases e with e|e;exact .inl e;exact .inr (.inl e))).trans (T4.mono (λk' _ e=>.inr (.inr (.inl e)))));have c7:Hid (w4.ownsRow 0 84 1 r (T.length+4) (T++news)):=by rw[bY];exact bK
   have cN:Hid (∀k',r.ownBlock=some k'->vn.ownBlock=some k'∨y.heap.size<=k'):=λk' hk'=>by
    rcases aV with h|⟨h,_⟩
    ·grind
    rw[h] at hk';injection hk' with hk';have:=s.tch.size;omega
   have aJ:=x1_ (λx f k' hk'=>Qh (s.lt x f k' hk') T4.size);have dR:=T4.size
   have dQ:Hid (∀x∈news,∀k',x.ownBlock=some k'->r.ownBlock≠some k'):=λx f k' hk' e=>by
    rcases aV with h|⟨h,_⟩
    ·rw[h] at e
     rcases(s.all x f).2.2 k' hk' with h3|h3
     ·rcases aK.out with h2|h2
      ·grind
      grind
     have:=(rl_ bB k' e).2;omega
    rw[h] at e;injection e with e;have:=s.lt x f k' hk';omega
   have bH:Hid (∀x∈news,∀k',x.ownBlock=some k'->vm.ownBlock≠some k'):=λx f k' hk' e=>by
    rcases(s.all x f).2.2 k' hk' with h|h
    ·rcases aH.out with h2|h2
     ·grind
     grind
    have:=(rl_ c5 k' e).2;omega
   have cO:=x1_ (λx f k' hk'=>(s.all x f).2.2 k' hk');subst cX;have e6:w4.cell? (A_ g 10)=some vn:=(by rw[P.cell];exact aD.1);have ef:=λo=>P.frozen o;clear bK aF aV T4 aC bU aY s d6 df;go_upto_region 14 with fail;have a7:Hid (WB _ g (c1.setIfInBounds _ (L_ q4 (T.length+4) p4))):=P.set 10 _;have aP:Hid ((w4.setCell ⟨g,10,_⟩ (L_ q4 (T.length+4) p4)).ownsRow 0 3 1 vm _ ms):=P.row bS d_;have aS:Hid ((w4.setCell ⟨g,10,_⟩ (L_ q4 (T.length+4) p4)).ownsRow 0 84 1 _ _ _):=P.row c7 d_;have bC:Hid (∀x∈_,Gi (w4.setCell ⟨g,10,_⟩ (L_ q4 (T.length+4) p4)) 25 _ x):=λx f=>P.all (c4 x f) d_;have a8:Hid (Aa _ _ (w4.setCell _ (L_ q4 (T.length+4) p4))):=bP.setCell (p:=(A_ g 10)) (λ_=>.inl rfl) _
   have Z:Hid (∀x∈news,∀k',x.ownBlock=some k'->k'<(w4.setCell (A_ g 10) (L_ q4 (T.length+4) p4)).heap.size):=λx f k' hk'=>by
    have:=aJ x f k' hk'
    simpa [World.setCell] using this
   clear P bS c7 c4 bP aJ e6 ef;generalize w4.setCell (A_ g 10) (L_ q4 (T.length+4) p4)=w5 at *;have d7:w5.cell? (A_ g 11)=some vm:=(by rw[a7.cell,Array.getElem?_setIfInBounds_ne d_];exact aD.2);have R:=a8.at_ cE (λe=>a4 e);have dm:=cR_ 0 R;have df:=λo=>a7.frozen o;have f3:=a8.size;have cQ:=a7.lt;have dF:=(Qb R).1;have bV:w5.drew.cell? _=_:=d7;have bQ:w5.drew.cell? _=_:=dm;refine Al (λw'=>w'.cell? _=some vm/\w'.cell? _=some (I_ z)) 21 k_ ⟨bV,bQ⟩ (λhHeld=>?_);refine Ah 0 ?_;refine Ah 1 ?_;refine Ah 2 ?_;refine Ah 3 ?_;refine Ah 4 ?_;refine Ah 5 ?_;refine Ah 6 ?_;refine Ah 7 ?_;refine Ah 8 ?_;refine Ah 9 ?_;refine Ah 10 ?_;refine Ah 11 ?_;refine Ah 12 ?_;refine Ah 13 ?_;refine Ah 14 ?_;refine Ah 15 ?_
   refine Ah 16 ?_;refine Af (i:=17) k_ rfl (λKK hK=>?_);go_simp;refine hK _ _ ⟨(Below.cell (B:=w5.heap.size) (w:=w5) (p:=(A_ g 11)) (by grind [br_,Below.drew,Below.alloc]) cQ).trans d7,(Below.cell (B:=w5.heap.size) (w:=w5) (p:=(A_ l 0)) (by grind [br_,Below.drew,Below.alloc]) dF).trans dm⟩ (λhHeld=>?_);clear hK KK;try simp only[Act.put,sA,sB,sC]
   refine Af (i:=18) k_ rfl (λKK hK=>?_);refine Az rfl (.tmp 77) (.tmp 90) 25 rfl 0 3 i0 (I_ 0) 1 8 Tryz.underlying25 bT cY cV dA rfl d_ vm ms.length ms j_ (ra_ (World.ownsRow.drew aP) _) (A_ w5.heap.size 0) 4 4 [I_ z,I_ z,I_ z,I_ z] j_ rfl (Am w5.drew #[I_ z,I_ z,I_ z,I_ z] 3) (by intro u S;simp only[List.mem_cons,List.not_mem_nil,or_false] at S;rcases S with rfl|rfl|rfl|rfl<;>rfl) d_ m_ o_ qg_ ?_;intro t w6 E;obtain⟨bZ,aA,aQ,_,q6,p6,cZ⟩:=E;have T6:=(((Aa.refl _ _).drew).alloc _).grown aA (λk' e _=>e);have L:=x1_ ((a7.drew.alloc _).grown aA G.2.2);have a5:=T6.at_ R (λe=>a4 (.inr (.inr (.inr e))))
   have cI:Hid (oh y (w6.setCell (A_ g 11) t) g 10 ci 25 84 3 (L_ l 1 1:Value) (I_ z) (.slice a k C) vn vm T ms (J+1) (L_ q4 (T.length+4) p4) t news):=by
    refine⟨?_,?_,?_,?_,λx f=>⟨?_,cO x f⟩,?_,cN,λk' hk'=>?_,λx f k' hk' e=>?_,dQ,λx f k' hk'=>?_⟩;rw[<- cS];exact L.set _ _;exact L.row (World.ownsRow.kept (ra_ (World.ownsRow.drew aS) _) aA (An aP aS d_)) d_;exact L.row bZ d_;rw[bY];rfl;exact L.all ((bC x f).touch T6 (λk' cur h1 _ e=>bH x f _ h1 e)) d_;exact(a8.trans (T6.mono (λk' _ e=>.inr (.inr (.inr e))))).setCell (p:=(A_ g 11)) (λ_=>.inl rfl) _
    ·rcases aQ with h|⟨h,_⟩
     ·grind
     rw[h] at hk';injection hk' with hk';simp at hk';omega
    ·rcases aQ with h|⟨h,_⟩
     exact bH x f _ hk' (h ▸ e);rw[h] at e;injection e with e;have:=Z x f k' hk';simp at e;omega
    have:=Z x f k' hk';have:=T6.size;simp[World.setCell];omega
   have d5:=x1_ ((Below.heap_setCell _ (A_ g 11) t _ (λe=>a4 (.inl e))).trans a5);have e7:w6.cell? (A_ g 11)=some vm:=(by rw[L.cell,Array.getElem?_setIfInBounds_ne d_];exact aD.2);have em:=cR_ 0 a5;have ef:=λo=>L.frozen o;subst cZ;clear bZ aA aQ T6 a7 aP aS bC a8 Z L d7 df dm bV bQ R a5;refine hK _ _ ⟨e7,em⟩ (λhHeld=>?_);clear hK KK;try simp only[Act.put,sA,sB,sC]
   refine Ah 19 ?_;refine Ah 20 ?_;refine Ai (i:=21) k_ rfl k_ (λKK hK=>?_);go_simp;refine hK _ _ ?_;clear hK KK;try simp only[Act.put,sA,sB,sC]
   refine Ak k_ ?_ _;go_wp2;go_end0;exact⟨rfl,bF _ _ _ _ cI d5⟩
def Sa.at{w o c i u v N n t p l F a k d e}(h:Sa w o c i u v F N (.slice a n p) (.slice k t l) d e){j}(f:j<d.length):∃q r,a=some ⟨q,0,none⟩/\k=some ⟨r,0,none⟩/\w.cell? (A_ q j)=some (d.getD j Hm)/\w.cell? (A_ r j)=some (e.getD j Hm)/\F w (d.getD j Hm) (e.getD j Hm):=by
 have g:j<e.length:=by rw[h.len];exact f
 have b:∀{ty:Nat} {a n p xs},w.ownsRow 0 ty 1 (.slice a n p) xs.length xs->j<xs.length->∃q,a=some ⟨q,0,none⟩/\w.cell? (A_ q j)=some (xs.getD j Hm):=λ{ty a n p xs} hr hl=>by grind [Fj,Qz]
 obtain⟨q,y,m⟩:=b h.rn f;obtain⟨r,x,s⟩:=b h.rm g;exact⟨q,r,y,x,m,s,(h.all j f).here⟩
def Gi.cells{w i d j u a}(h:Gi w i u (.slice a d j)){k}(p:k<d):∃b,a=some ⟨b,0,none⟩/\w.cell? (A_ b k)=some u:=by
 obtain⟨m,n,c,e,_,q|⟨g,f,rfl,o,l⟩⟩:=h
 ·grind
 grind [cell_of_row]
def Ft.cells{w d i z a}(h:Ft w z (.slice a d i)){k}(p:k<d):∃b,a=some ⟨b,0,none⟩/\w.cell? (A_ b (k*4))=some (I_ z)/\w.cell? (A_ b (k*4+1))=some (I_ 0)/\w.cell? (A_ b (k*4+2))=some (I_ 0)/\w.cell? (A_ b (k*4+3))=some (I_ 0):=by
 obtain⟨m,n,c,e,_,j|⟨g,f,rfl,o,l⟩⟩:=h
 ·grind
 grind [cell_of_row]
def Gi.shape{w b u v}(h:Gi w b u v):∃a n c,v=.slice a n c/\n<=maxLen:=by
 obtain⟨a,n,c,e,d,_⟩:=h
 grind
def Ft.shape{w z v}(h:Ft w z v):∃a n c,v=.slice a n c/\n<=maxLen:=by
 obtain⟨a,n,c,e,b,_⟩:=h
 grind
structure LkS(w wr)(o)(g N)(c)(e1 e2 n1 n2 s1 s2 l1 l2)(es em ns nm ss sm ls lm):Prop where
 wb:WB wr g c
 es:Sa wr o c 4 29 3 fE N e1 e2 es em
 ns:Sa wr o c 6 25 3 fN N n1 n2 ns nm
 ss:Sa wr o c 8 47 9 fS N s1 s2 ss sm
 ls:Sa wr o c 10 84 3 fL N l1 l2 ls lm
 bl:E_ w wr
def LkS.drewN{w wr o g N c q i n1 f n s v k j d r p l u b a}(h:LkS w wr o g N c q i n1 f n s v k j d r p l u b a) m:LkS w (wr.drewN m) o g N c q i n1 f n s v k j d r p l u b a:=by have x:E_ wr _:=below_drewN bz_ m;have t:Aa (λ_=>False) _ _:=.of_below x;exact⟨t.at_ h.wb id,h.es.keep t (λ_ _ e=>e.elim) (Dr.refl _ _) d_ rfl rfl qa_,h.ns.keep t (λ_ _ e=>e.elim) (Dr.refl _ _) d_ rfl rfl qa_,h.ss.keep t (λ_ _ e=>e.elim) (Dr.refl _ _) d_ rfl rfl qa_,h.ls.keep t (λ_ _ e=>e.elim) (Dr.refl _ _) d_ rfl rfl qa_,below_drewN h.bl m⟩
def wj{p:Prop}(h:p:=by
 clear hF;have hnk:¬k<(len:Int):=o_;refine rd_ ?_
 exact⟨i+1,o_,g_,HR⟩):p:=h
def Hx.looks{w o g N c}(h:Hx w o g c N)(hN:N<=100000000):C_ 43 #[.pointer (some ⟨g,4,none⟩)] w λe w'=>e=.returned (.bool true)/\Below w.heap.size w w':=by
 obtain⟨C,B,j,em,hE⟩:=h.es;obtain⟨n1,n2,l,nm,U⟩:=h.ns;obtain⟨s1,s2,d,sm,hS⟩:=h.ss;obtain⟨l1,l2,f,lm,R⟩:=h.ls;have HL:Hid (LkS w w o g N c _ _ _ _ _ _ _ _ _ _ _ _ _ _ _ _):=⟨h.wb,hE,U,hS,R,bz_⟩;obtain⟨T,m,aD,_⟩:=Fj hE.rn;obtain⟨X,x,a8,_⟩:=Fj hE.rm;obtain⟨E,s,aG,_⟩:=Fj U.rn;obtain⟨Q,v,a9,_⟩:=Fj U.rm;obtain⟨H,u,aE,_⟩:=Fj hS.rn;obtain⟨O,t,aB,_⟩:=Fj hS.rm;obtain⟨I,A,aC,_⟩:=Fj R.rn;obtain⟨M,y,aA,_⟩:=Fj R.rm;have fe:=hE.few;have fn:=U.few;have fs:=hS.few;have fl:=R.few;rw[hE.len] at a8;rw[U.len] at a9;rw[hS.len] at aB;rw[R.len] at aA;subst aD a8 aG a9 aE aB aC aA
 have HC:Hid (∀W,WB W g c->_/\_/\_/\_/\_/\_/\_/\_):=λW hW=>
  ⟨(hW.cell 4).trans hE.c0,(hW.cell 5).trans hE.c1,(hW.cell 6).trans U.c0,(hW.cell 7).trans U.c1,(hW.cell 8).trans hS.c0,(hW.cell 9).trans hS.c1,(hW.cell _).trans R.c0,(hW.cell 11).trans R.c1⟩
 have aH:Hid (∀{n:Nat},n=n):=rfl;go_enter Tryz.func43,Tryz.ntmps43;go_upto_region 2 with fail;go_loopw [3] (λti wr=>∃i:Nat,i<=j.length/\ti=.int .i64 i/\Hid (LkS w wr o g N c (.slice T j.length m) (.slice X j.length x) (.slice E l.length s) (.slice Q l.length v) (.slice H d.length u) (.slice O d.length t) (.slice I f.length A) (.slice M f.length y) j em l nm d sm f lm)) (λti _=>j.length-(intOf ti).toNat)
 case atStart=>grind
 case round=>
  obtain⟨i,a6,rfl,HR⟩:=hrel;obtain⟨d4,d5,d6,d7,d8,d9,V,P⟩:=HC wr HR.wb
  by_cases hi:i<j.length
  ·have a4:0<=(i:Int):=o_;have a5:i<(j.length:Int):=o_;obtain⟨q,r,rfl,rfl,C,B,hF⟩:=HR.es.at hi;obtain⟨z,Z,F⟩:=hF;obtain⟨a,len,cp,Y,D⟩:=F.shape;rw[Y] at C;rw[Z] at B;have HV:=x1_ Y;have HM:=x1_ Z;unfold maxLen at D;go_upto_region 5 with fail;go_loopw [4] (λtk wr=>∃k:Nat,k<=len/\tk=.int .i64 k/\Hid (LkS w wr o g N c (.slice (some ⟨q,0,none⟩) j.length m) (.slice (some ⟨r,0,none⟩) j.length x) (.slice E l.length s) (.slice Q l.length v) (.slice H d.length u) (.slice O d.length t) (.slice I f.length A) (.slice M f.length y) j em l nm d sm f lm)) (λtk _=>len-(intOf tk).toNat)
   case atStart=>exact⟨0,qg_,rfl,HR⟩
   case round=>
    obtain⟨k,a3,rfl,HR⟩:=hrel;obtain⟨d4,d5,d6,d7,d8,d9,V,P⟩:=HC wr HR.wb;obtain⟨q2,r2,G,S,C,B,hF⟩:=HR.es.at hi;have L:q=q2:=(by injection G with e;injection e);have J:r=r2:=(by injection S with e;injection e);subst L J;rw[HV] at C hF;rw[HM] at B hF
    by_cases hk:k<len
    ·obtain⟨z2,a0,F⟩:=hF;injection a0 with _ a0;subst a0;obtain⟨b,rfl,x0,x1,x2,x3⟩:=F.cells hk;have a2:0<=(k:Int):=o_;have a1:k<(len:Int):=o_;go_upto_region 7 with fail;go_quiet (fail);refine rd_ ?_;exact⟨k+1,o_,g_,HR.drewN _⟩
    exact wj
  have a7:¬i<(j.length:Int):=o_;go_upto_region 10 with fail;go_loopw [5] (λti wr=>∃i:Nat,i<=l.length/\ti=.int .i64 i/\Hid (LkS w wr o g N c (.slice T j.length m) (.slice X j.length x) (.slice E l.length s) (.slice Q l.length v) (.slice H d.length u) (.slice O d.length t) (.slice I f.length A) (.slice M f.length y) j em l nm d sm f lm)) (λti _=>l.length-(intOf ti).toNat)
  case atStart=>exact⟨0,qg_,rfl,HR⟩
  case round=>
   obtain⟨i,a6,rfl,HR⟩:=hrel;obtain⟨d4,d5,d6,d7,d8,d9,V,P⟩:=HC wr HR.wb
   by_cases hi:i<l.length
   ·have a4:0<=(i:Int):=o_;have a5:i<(l.length:Int):=o_;obtain⟨q,r,rfl,rfl,C,B,hF⟩:=HR.ns.at hi;obtain⟨⟨z,Z⟩,F⟩:=hF;obtain⟨a,len,cp,Y,D⟩:=F.shape;rw[Y] at C;rw[Z] at B;have HV:=x1_ Y;have HM:=x1_ Z;unfold maxLen at D;go_upto_region 13 with fail;go_loopw [6] (λtk wr=>∃k:Nat,k<=len/\tk=.int .i64 k/\Hid (LkS w wr o g N c (.slice T j.length m) (.slice X j.length x) (.slice (some ⟨q,0,none⟩) l.length s) (.slice (some ⟨r,0,none⟩) l.length v) (.slice H d.length u) (.slice O d.length t) (.slice I f.length A) (.slice M f.length y) j em l nm d sm f lm)) (λtk _=>len-(intOf tk).toNat)
    case atStart=>exact⟨0,qg_,rfl,HR⟩
    case round=>
     obtain⟨k,a3,rfl,HR⟩:=hrel;obtain⟨d4,d5,d6,d7,d8,d9,V,P⟩:=HC wr HR.wb;obtain⟨q2,r2,G,S,C,B,hF⟩:=HR.ns.at hi;have L:q=q2:=(by injection G with e;injection e);have J:r=r2:=(by injection S with e;injection e);subst L J;rw[HV] at C hF;rw[HM] at B hF
     by_cases hk:k<len
     ·obtain⟨_,F⟩:=hF;obtain⟨b,rfl,x0⟩:=F.cells hk;have a2:0<=(k:Int):=o_;have a1:k<(len:Int):=o_;go_upto_region 15 with fail;go_quiet (fail);refine rd_ ?_;exact⟨k+1,o_,g_,HR.drewN _⟩
     exact wj
   have a7:¬i<(l.length:Int):=o_;go_upto_region 18 with fail;go_loopw [7] (λti wr=>∃i:Nat,i<=d.length/\ti=.int .i64 i/\Hid (LkS w wr o g N c (.slice T j.length m) (.slice X j.length x) (.slice E l.length s) (.slice Q l.length v) (.slice H d.length u) (.slice O d.length t) (.slice I f.length A) (.slice M f.length y) j em l nm d sm f lm)) (λti _=>d.length-(intOf ti).toNat)
   case atStart=>exact⟨0,qg_,rfl,HR⟩
   case round=>
    obtain⟨i,a6,rfl,HR⟩:=hrel;obtain⟨d4,d5,d6,d7,d8,d9,V,P⟩:=HC wr HR.wb
    by_cases hi:i<d.length
    ·have a4:0<=(i:Int):=o_;have a5:i<(d.length:Int):=o_;obtain⟨q,r,rfl,rfl,C,B,hF⟩:=HR.ss.at hi;obtain⟨⟨z,Z⟩,F⟩:=hF;obtain⟨a,len,cp,Y,D⟩:=F.shape;rw[Y] at C;rw[Z] at B;have HV:=x1_ Y;have HM:=x1_ Z;unfold maxLen at D;go_upto_region 21 with fail;go_loopw [8] (λtk wr=>∃k:Nat,k<=len/\tk=.int .i64 k/\Hid (LkS w wr o g N c (.slice T j.length m) (.slice X j.length x) (.slice E l.length s) (.slice Q l.length v) (.slice (some ⟨q,0,none⟩) d.length u) (.slice (some ⟨r,0,none⟩) d.length t) (.slice I f.length A) (.slice M f.length y) j em l nm d sm f lm)) (λtk _=>len-(intOf tk).toNat)
     case atStart=>exact⟨0,qg_,rfl,HR⟩
     case round=>
      obtain⟨k,a3,rfl,HR⟩:=hrel;obtain⟨d4,d5,d6,d7,d8,d9,V,P⟩:=HC wr HR.wb;obtain⟨q2,r2,G,S,C,B,hF⟩:=HR.ss.at hi;have L:q=q2:=(by injection G with e;injection e);have J:r=r2:=(by injection S with e;injection e);subst L J;rw[HV] at C hF;rw[HM] at B hF
      by_cases hk:k<len
      ·obtain⟨_,F⟩:=hF;obtain⟨b,rfl,x0⟩:=F.cells hk;have a2:0<=(k:Int):=o_;have a1:k<(len:Int):=o_;go_upto_region 23 with fail;go_quiet (fail);refine rd_ ?_;exact⟨k+1,o_,g_,HR.drewN _⟩
      exact wj
    have a7:¬i<(d.length:Int):=o_;go_upto_region 26 with fail;go_loopw [9] (λti wr=>∃i:Nat,i<=f.length/\ti=.int .i64 i/\Hid (LkS w wr o g N c (.slice T j.length m) (.slice X j.length x) (.slice E l.length s) (.slice Q l.length v) (.slice H d.length u) (.slice O d.length t) (.slice I f.length A) (.slice M f.length y) j em l nm d sm f lm)) (λti _=>f.length-(intOf ti).toNat)
    case atStart=>exact⟨0,qg_,rfl,HR⟩
    case round=>
     obtain⟨i,a6,rfl,HR⟩:=hrel;obtain⟨d4,d5,d6,d7,d8,d9,V,P⟩:=HC wr HR.wb
     by_cases hi:i<f.length
     ·have a4:0<=(i:Int):=o_;have a5:i<(f.length:Int):=o_;obtain⟨q,r,rfl,rfl,C,B,hF⟩:=HR.ls.at hi;obtain⟨z,mb,Z,F,_⟩:=hF;obtain⟨a,len,cp,Y,D⟩:=F.shape;rw[Y] at C;rw[Z] at B;have HV:=x1_ Y;have HM:=x1_ Z;unfold maxLen at D;go_upto_region 29 with fail;go_loopw [10] (λtk wr=>∃k:Nat,k<=len/\tk=.int .i64 k/\Hid (LkS w wr o g N c (.slice T j.length m) (.slice X j.length x) (.slice E l.length s) (.slice Q l.length v) (.slice H d.length u) (.slice O d.length t) (.slice (some ⟨q,0,none⟩) f.length A) (.slice (some ⟨r,0,none⟩) f.length y) j em l nm d sm f lm)) (λtk _=>len-(intOf tk).toNat)
      case atStart=>exact⟨0,qg_,rfl,HR⟩
      case round=>
       obtain⟨k,a3,rfl,HR⟩:=hrel;obtain⟨d4,d5,d6,d7,d8,d9,V,P⟩:=HC wr HR.wb;obtain⟨q2,r2,G,S,C,B,hF⟩:=HR.ls.at hi;have L:q=q2:=(by injection G with e;injection e);have J:r=r2:=(by injection S with e;injection e);subst L J;rw[HV] at C hF;rw[HM] at B hF
       by_cases hk:k<len
       ·obtain⟨z2,aI,_,F,aF⟩:=hF;obtain⟨b,rfl,x0⟩:=F.cells hk;have x1:=cR_ 0 aF;have a2:0<=(k:Int):=o_;have a1:k<(len:Int):=o_;go_upto_region 31 with fail;go_quiet (fail);refine rd_ ?_;exact⟨k+1,o_,g_,HR.drewN _⟩
       exact wj
     have a7:¬i<(f.length:Int):=o_;have HB:=x1_ HR.bl;go_wp2;go_ret;exact⟨rfl,HB⟩
end Go.Proofs.YtfcgnpchbcmdeaaGreat
