import Derived.Test.YtfcgnpchbcmdeaaGreatZrbh
namespace Go.Proofs.YtfcgnpchbcmdeaaGreat
set_option linter.all false
set_option maxRecDepth 100000
set_option maxHeartbeats 8000000
open Go.RowKit
def Ki(ss:List ByteArray):List Int:=ss.flatMap (λs=>s.size%256::Aq s)
def uy{L:List ByteArray}{k}(h:k<L.length) d:Ki (L.take (k+1))=Ki (L.take k)++((L.getD k d).size:Int)%256::Aq (L.getD k d):=by
 unfold Ki;rw[Qi h,List.flatMap_append]
 grind
def yo(k:KS):List Int:=[119,(k.d:Int)%256,k.e.cnt%256]++Ki k.e.ww
def Hb.own{d w v c}(h:Hb d w v c):Bj w d.heap.size v c:=by
 refine⟨h.ow.1,?_⟩
 rcases h.ow.2 with f|⟨g,b,a,e,_,r⟩
 exact .inl f;exact .inr ⟨g,b,a,e,h.nw g (by rw[e];rfl),r⟩
def Hb.of_own{a w v b}(f:Below a.heap.size a w)(h:Bj w a.heap.size v b):Hb a w v b:=by
 refine⟨f,⟨h.1,?_⟩,λk hk=>(rl_ h k hk).1⟩
 rcases h.2 with d|⟨g,i,c,e,_,r⟩
 exact .inl d
 grind
def Cc.atW{w b a n c L}(h:Cc w b (.slice a n c) L)(f:L.length=n){k}(j:k<n) d:∃q,a=some ⟨q,0,none⟩/\q<w.heap.size/\w.cell? (A_ q k)=some (.string (L.getD k d)):=by
 have i:=h;subst f
 rcases h.2 with⟨e,h0⟩|⟨g,cap,cur,e,_,hh,_⟩
 omega;simp only[Value.slice.injEq,true_and] at e;obtain⟨rfl,rfl⟩:=e;refine⟨g,rfl,(Qb hh).1,?_⟩;rw[World.ownsRow.cellAt i k o_]
 grind
theorem Pt b:(Aq b).length=b.size:=by unfold Aq;rw[List.length_map];rfl
def ky s:Go.Lib.strCells s=(Aq s).map (Value.int .u8):=by unfold Go.Lib.strCells Aq;rw[List.map_map];rfl
def Xd V ab aw cb cw k a c y w (O:k.e.wd=true)(hI:Cc V 0 (.slice aw k.e.ww.length cw) k.e.ww)(ho:Hb V w (.slice a y.length c) y)(aW:k.e.ww.length<=1000)(hr:∀x∈k.e.ww,x.size<=8)(hl:y.length<=900000):C_ 100 #[.agg #[.bool k.e.wd,.slice ab 0 cb,.slice aw k.e.ww.length cw,.int .i64 k.d],.slice a y.length c] w λe w'=>eo V (y++yo k) e w':=by
 rw[O];have H0:=x1_ ho;have HI:=x1_ hI;have aQ:=x1_ hr;have G:k.e.cnt=k.e.ww.length:=by unfold ES.cnt Ky;rw[O];rfl
 have aU:Hid (yo k=[119,(k.d:Int)%256,k.e.ww.length%256]++Ki k.e.ww):=by show _=_;unfold yo;rw[G]
 have aO:Hid (∀W:_,Calls _ 169 _ W λe w'=>e=.returned (.int _ ((k.e.ww.length:Nat):Int))/\_):=λW=>Wo true ab aw 0 cb _ cw W;obtain⟨i0,C,a0,X,R⟩:=info_parts Nc;have a4:Hid _:=ho.ow;clear hI ho hr O G;generalize k.d=d,hbl:y.length=bl,hnb:k.e.ww.length=nb at *;have D:=x2_ hbl hnb;clear hbl hnb;go_enter Tryz.func100,Tryz.ntmps100;go_upto_region 4 with fail;generalize hW1:w.alloc (.cells #[.bool true,.slice ab 0 cb,.slice aw nb cw,I_ (d:Nat)] 172)=w1;have a8:E_ w w1:=(by rw[<- hW1];exact bA_);have l:w1.heap[w.heap.size]? =some (.cells #[.bool true,.slice ab 0 cb,.slice aw nb cw,I_ d] 172 (0,0)):=(by rw[<- hW1];exact hn_);have h:=(Qb l).1;have x0:=cR_ 0 l;have x1:=cR_ 1 l;have x2:=cR_ 2 l;have x3:=cR_ 3 l
 have aH:=x2_ l a8;clear hW1 a8 l;refine Al (λw'=>w'.cell? _=some _/\w'.cell? _=some _/\w'.cell? _=some _/\w'.cell? _=some _) 11 k_ ⟨x0,x1,x2,x3⟩ (λhHeld=>?_);refine Ah 0 ?_;refine Ah 1 ?_;refine Ah 2 ?_;refine Tx [4,9,10,11] 3 (v:=?_) ?_ ?_
 rotate_left
 ·intro w J;try obtain⟨_,_,_,_⟩:=J
  go_simp;try with_reducible rfl
 try simp only[Act.put,sA,sB,sC]
 refine Ah 4 ?_;refine Ah 5 ?_;refine Tx [7,8,9,10,11] 6 (v:=?_) ?_ ?_
 rotate_left
 ·intro w J;try obtain⟨_,_,_,_⟩:=J
  go_simp;try with_reducible rfl
 try simp only[Act.put,sA,sB,sC]
 refine Af (i:=7) k_ rfl (λKK hK=>?_);go_simp;refine(aO _).mono ?_;rintro e I ⟨rfl,aE⟩;have b:=(br_ w1.heap.size _).drew.trans aE;have y0:=(b.cell (p:=(A_ w.heap.size 0)) h).trans x0;have y1:=(b.cell (p:=(A_ w.heap.size 1)) h).trans x1;have y2:=(b.cell (p:=(A_ w.heap.size 2)) h).trans x2;have y3:=(b.cell (p:=(A_ w.heap.size 3)) h).trans x3;have g:=Qh h b.size;go_simp;refine hK _ _ ⟨y0,y1,y2,y3⟩ (λhHeld=>?_);clear hK KK aE;try simp only[Act.put,sA,sB,sC]
 refine Ah 8 ?_;refine Af (i:=9) k_ rfl (λKK hK=>?_);go_simp;refine hK _ _ ⟨(Below.cell (B:=I.heap.size) (p:=(A_ w.heap.size 0)) bA_ g).trans y0,(Below.cell (B:=I.heap.size) (p:=(A_ w.heap.size 1)) bA_ g).trans y1,(Below.cell (B:=I.heap.size) (p:=(A_ w.heap.size 2)) bA_ g).trans y2,(Below.cell (B:=I.heap.size) (p:=(A_ w.heap.size 3)) bA_ g).trans y3⟩ (λhHeld=>?_);clear hK KK;try simp only[Act.put,sA,sB,sC]
 refine Af (i:=10) k_ rfl (λKK hK=>?_);have o:=aH.2.trans (b.mono (Nat.le_of_lt h));refine Az rfl (.tmp 13) (.tmp 22) 66 rfl 0 5 i0 (.int .u8 0) 1 1 Tryz.underlying66 C a0 X R rfl d_ (.slice a bl c) bl (y.map (Value.int .u8)) j_ (ra_ (w:=I) ((Aa.of_below (S:=λ_=>False) o).row a4 (λ_ _=>id)) _) (A_ I.heap.size 0) 3 3 [.int .u8 119,.int .u8 ((d:Int)%256),.int .u8 ((nb:Int)%256)] j_ rfl (Am I _ 5) (by intro u hu;simp at hu;rcases hu with rfl|rfl|rfl<;>rfl) d_ m_ o_ s_ ?_;intro v6 w6 H6;obtain⟨r6,g6,aG,_,q6,p6,aM⟩:=H6;have H:Below _ w (I.alloc (.cells #[.int .u8 119,.int .u8 ((d:Int)%256),.int .u8 ((nb:Int)%256)] 5)):=o.alloc o.size _
 have aI:=Ec.pre H (Ec.of_mark g6 aG qa_);have a7:Bj _ 0 _ (_++[_,_,_]):=Bj.more (n:=3) (by rw[D.1];exact r6) rfl
 have t:=(g6.block _ t_ (λe=>by
  have:=(rl_ a4 _ e.symm).2
  omega)).trans ((hc_ g).trans ((b.block _ h).trans aH.1))
 have h0:=H0.out;have Z:=x2_ (h0.app a7 aI) t;have z0:=cR_ 0 t;have z1:=cR_ 1 t;have z2:=cR_ 2 t;have z3:=cR_ 3 t;subst aM;clear r6 g6 aG H aI a7 t h0 y0 y1 y2 y3 o;refine hK _ _ ⟨z0,z1,z2,z3⟩ (λhHeld=>?_);clear hK KK;try simp only[Act.put,sA,sB,sC]
 refine Ai (i:=11) k_ rfl k_ (λKK hK=>?_);go_simp;refine hK _ _ ?_;clear hK KK;try simp only[Act.put,sA,sB,sC]
 refine Ak k_ ?_ _;clear x0 x1 x2 x3 hHeld;have e1:=cR_ 1 Z.2;clear z0 z1 z2 z3 hHeld;go_wp2_with fail
 go_loopw [1,28] (λtv ti wr=>tv=.slice (some ⟨q6,0,none⟩) (bl+3) p6/\ti=.int .i64 0/\Hid (w6=wr)) (λ_ _ _=>0)
 case atStart=>exact⟨rfl,rfl,rfl⟩
 case round=>
  obtain⟨rfl,rfl,hw⟩:=hrel;have aV:=hw.out;subst aV;clear hw;have e2:=cR_ 2 Z.2;go_wp2_with fail
  go_loopw [1,40] (λtv ti wr=>∃(j:Nat) (aj:Option Addr) (cj:Nat) (r:List Int),tv=.slice aj r.length cj/\ti=.int .i64 j/\j<=nb/\Hid (r=y++[119,(d:Int)%256,(nb:Int)%256]++Ki (k.e.ww.take j))/\r.length<=bl+3+9*j/\Hid (Hb V wr (.slice aj r.length cj) r/\wr.heap[w.heap.size]? =some (.cells #[.bool true,.slice ab 0 cb,.slice aw nb cw,.int .i64 (d:Nat)] 172 (0,0)))) (λ_ ti _=>nb-(intOf ti).toNat)
  case atStart=>
   have aR:(y++[119,(d:Int)%256,nb%256]).length=bl+3:=(by rw[Qe,D.1];rfl);refine⟨0,some _,p6,y++[119,(d:Int)%256,(nb:Int)%256],by rw[aR],rfl,qg_,?_,o_,?_⟩;show _=_;rw[List.take_zero];simp[Ki]
   grind
  case round=>
   clear Z e2 e1;obtain⟨j,aj,cj,r,rfl,rfl,hj,a1,aT,E⟩:=hrel;have b6:=(Qb E.2).1
   by_cases hjl:j<nb
   ·have aL:j<k.e.ww.length:=(by rw[D.2];exact hjl);have a9:=HI.below E.1.bl;obtain⟨q,hq,aZ,y0⟩:=a9.atW D.2 hjl ⟨#[]⟩;subst hq;have aD:(k.e.ww.getD j ⟨#[]⟩).size<=8:=aQ _ w_;have HX:Hid (y++[119,(d:Int)%256,nb%256]++Ki (k.e.ww.take (j+1))=(r++[((k.e.ww.getD j ⟨#[]⟩).size:Int)%256])++Aq (k.e.ww.getD j ⟨#[]⟩)):=by show _=_;rw[uy aL ⟨#[]⟩,a1];simp
    clear a9;generalize k.e.ww.getD j ⟨#[]⟩=x at *;obtain⟨Y,U⟩:=ex_ r.length;have F:=x1_ U;rw[<- U] at E aT ⊢;clear U;have A:Hid (wr.ownsRow 0 5 1 (.slice aj Y cj) Y (r.map (Value.int .u8))):=(by have N:=E.1.ow;unfold Bj at N;rw[<- F] at N;exact N);have b5:0<=(j:Int):=o_;have b3:j<(nb:Int):=o_;have P:=x1_ aD;clear aD;obtain⟨sx,aJ⟩:=ex_ x.size;have aY:=x1_ aJ;clear aJ;go_wp2_with (at_builtin;refine Ab rfl (.tmp 44) (.tmp 48) 66 rfl 0 5 i0 (.int .u8 0) 1 1 Tryz.underlying66 C a0 X R rfl d_ _ Y (r.map (Value.int .u8)) rfl (A.alloc _) _ 1 1 [.int .u8 _] rfl rfl (Am wr _ 5) (by intro u hu;simp at hu;subst hu;rfl) d_ m_ o_ s_ ?_)
    intro v4 w4 H4;obtain⟨r4,g4,d4,_,q4,p4,aN⟩:=H4;have aA:Bj _ 0 _ (_++[_]):=Bj.more (n:=1) (by rw[<- F];exact r4) rfl;have L:=Ec.pre bA_ (Ec.of_mark g4 d4 s_);have aF:=L.1.at_ E.2 (λe=>Au A e E.2 d_ rfl);have f:=E.1.app aA L;subst aN;have s:=x2_ f aF;have m:Hid (w4.ownsRow V.heap.size 5 1 (L_ q4 (Y+1) p4) (Y+1) ((r++[(x.size:Int)%256]).map (Value.int .u8))):=by have N:=f.own;unfold Bj at N;rw[Qe,<- F] at N;exact N
    have a6:=f.bl.size;have aS:x.size<=8->_:=λ_=>trivial;clear r4 g4 d4 aA L aF f A E y0 aS;obtain⟨L4,M⟩:=ex_ (r++[(x.size:Int)%256]);rw[<- M] at s m HX;have a3:Hid (L4.length=Y+1):=(by show _=_;rw[M,Qe,F];rfl);clear M;go_wp2_with (at_builtin;refine Go.Lib.wpList_append_own_string _ rfl (.tmp 50) (.tmp 51) 66 9 rfl V.heap.size 5 i0 Tryz.underlying66 Tryz.underlying9 C a0 X R _ (Y+1) _ rfl m x rfl (by have:=P.out;unfold maxLen;omega) (by have:=P.out;omega) a6 ?_)
    intro v5 w5 r5 g5 d5;have Q:Bj w5 V.heap.size v5 (L4++Aq x):=(by unfold Bj;rw[Qe,a3,Pt,List.map_append,<- ky];exact r5);obtain⟨a5,c5,rfl⟩:=Q.form;have T:=(Aa.refl _ _).grown g5 (λk hk _=>hk);have aC:=T.at_ s.2 (λe=>Au m e s.2 d_ rfl);have aB:=s.1.bl.trans (T.to_below a6 (λz hz=>s.1.nw z hz));have HN:=x2_ (Hb.of_own aB Q) aC;have aP:Hid ((L4++Aq x).length<=bl+3+9*(j+1)):=(by show _<=_;rw[Qe,a3,Pt];have:=P.out;omega);clear r5 g5 d5 Q T aC aB s m;generalize L4++Aq x=L5 at *;refine rd_ ?_;exact⟨j+1,a5,c5,L5,rfl,g_,o_,HX.symm,aP,HN⟩
   have aX:¬j<(nb:Int):=o_;have aK:k.e.ww.take j=_:=List.take_of_length_le (by have:=D.2;omega);have a2:r=y++yo k:=(by rw[a1,aK,aU,List.append_assoc]);have HF:=x2_ E.1 a2;clear aK a2 a1 E;go_wp2;go_ret;refine⟨aj,cj,?_,?_⟩;rw[<- HF.2];rfl;rw[<- HF.2];exact HF.1
def ZiS{x s:ByteArray}(h:¬x=s):(x.toList==s.toList)=false:=by
 rw[beq_eq_false_iff_ne,Lib.toList_data,Lib.toList_data];intro e;apply h
 cases x;cases s
 simp at e;rw[e]
def xp{B:List Int}{r}(h:r<B.length) p:(B.take (r+1)).countP p=(B.take r).countP p+(if p (B.getD r 0)=true then 1 else 0):=by
 rw[Qi h,List.countP_append,Qc,Qd h]
 grind
def ZcY{L:List ByteArray}{s k}(h:k<L.length)(a:L.getD k ⟨#[]⟩=s)(b:∀j,j<k->L.getD j ⟨#[]⟩≠s):L.findIdx (λy=>decide (y=s))=k:=by grind [List.findIdx_eq]
def ZcZ{L:List ByteArray}{s}(a:∀j,j<L.length->L.getD j ⟨#[]⟩≠s):L.findIdx (λy=>decide (y=s))=L.length:=w_
def Ziu n vb vw d e s w (D:Ag w n vb e.bs)(F:Cc w n vw e.ww)(T:Ol e)(Z:e.wd=true->e.bs=[])(hy:e.wd=false->e.ww=[]):C_ 239 #[.agg #[.bool e.wd,vb,vw,.int .i64 d],.agg #[.bool s.miss,.int .i64 s.num,.string s.word]] w λz w'=>z=.returned (.int .i64 (Dy e s:Nat))/\Below w.heap.size w w':=by
 obtain⟨r,a,c⟩:=e;obtain⟨I,f,g⟩:=s;simp only at D F Z hy ⊢;have O:=T.lb;have Q:=T.lw;simp only at O Q;obtain⟨E,B,rfl⟩:=D.shape;obtain⟨L,G,rfl⟩:=F.form;obtain⟨u,i⟩:=ex_ ((w.alloc (.cells #[.bool r,.slice E a.length B,.slice L c.length G,I_ d] 227)).alloc (.cells #[.bool I,I_ f,.string g] 335));have C:E_ w u:=by rw[i];exact bA_.alloc s_ _
 have J:u.heap[w.heap.size]? =some (.cells #[.bool r,.slice E a.length B,.slice L c.length G,I_ d] 227 (0,0)):=(by grind [Below.heap_alloc,heap_alloc_new]);have H:u.heap[w.heap.size+1]? =some (.cells #[.bool I,I_ f,.string g] 335 (0,0)):=by have e:=ha_ (w.alloc (.cells #[.bool r,.slice E a.length B,.slice L c.length G,I_ d] 227)) (.cells #[.bool I,I_ f,.string g] 335);rw[show(w.alloc (.cells #[.bool r,.slice E a.length B,.slice L c.length G,I_ d] 227)).heap.size=w.heap.size+1 by simp,<- i] at e;exact e
 have l:=x1_ C;have R:=x1_ (D.below C);have X:=x1_ (F.below C);have v:=x1_ i;have c0:=cR_ 0 J;have c1:=cR_ 1 J;have c2:=cR_ 2 J;have d0:=cR_ 0 H;have d1:=cR_ 1 H;have d2:=cR_ 2 H;clear D F T i J H C;go_enter Tryz.func239,Tryz.ntmps239;go_upto_region 1 with fail;rw[<- v];clear v
 cases I with
 | true=>
  have p:Hid (Dy ⟨r,a,c⟩ ⟨true,f,g⟩=a.length+c.length+1):=by
   show _=_
   grind [Dy,ES.cnt,Ky]
  go_wp2;go_ret;rw[p];exact⟨g_,l⟩
 | false =>
  cases r with
  | true=>
   have U:=Z rfl;subst U;have p:Hid (Dy ⟨true,[],_⟩ ⟨false,f,_⟩=c.findIdx (λy=>decide (y=g))):=rfl;go_wp2_with fail
   go_loopw [6] (λt6 wr=>∃(k m:Nat),t6=.int .i64 k/\k<=c.length/\Hid (∀j,j<k->c.getD j ⟨#[]⟩≠g)/\wr=u.drewN m) (λt6 _=>c.length-(intOf t6).toNat)
   case atStart=>exact⟨0,0,rfl,qg_,λj hj=>o_,rfl⟩
   case round=>
    obtain⟨k,m,rfl,Y,P,o⟩:=hrel;subst o
    by_cases hin:k<c.length
    ·obtain⟨q,rfl,_,hc⟩:=X.atW rfl hin ⟨#[]⟩;have g1:k<(c.length:Int):=o_;have g2:0<=(k:Int):=o_
     by_cases heq:c.getD k ⟨#[]⟩=g
     ·have M:=x1_ (ZcY hin heq P);have e2:((c.getD k ⟨#[]⟩).toList==g.toList)=true:=(by rw[heq];simp);generalize c.getD k ⟨#[]⟩=x at *;clear heq;go_upto_region 8 with fail;go_quiet (fail);go_wp2;go_ret;rw[p,M];exact⟨rfl,below_drewN (below_drewN l _) _⟩
     have e2:=ZiS heq
     have S:Hid (∀j,j<k+1->c.getD j ⟨#[]⟩≠g):=λj hj=>by
      by_cases h:j=k
      rw[h];exact heq;exact P j o_
     generalize c.getD k ⟨#[]⟩=x at *;clear heq;go_upto_region 8 with fail;go_quiet (fail);refine rd_ ?_;exact⟨k+1,m+nq,g_,o_,S,s_⟩
    have t:k=c.length:=o_;have M:=x1_ (ZcZ (λj hj=>P j o_));have g1:¬k<(c.length:Int):=o_;go_wp2;go_ret;rw[p,M];exact⟨s_,below_drewN l _⟩
  | false=>
   have N:=hy rfl;subst N;have p:Hid (Dy ⟨false,_,[]⟩ ⟨false,_,g⟩=a.countP (λb=>decide (b<f))):=rfl;go_wp2_with fail
   go_loopw [7,8] (λt7 t8 wr=>∃(k m:Nat),t8=.int .i64 k/\k<=a.length/\t7=.int .i64 ((a.take k).countP (λb=>decide (b<f)):Nat)/\(a.take k).countP (λb=>decide (b<f))<=k/\wr=u.drewN m) (λ_ t8 _=>a.length-(intOf t8).toNat)
   case atStart=>exact⟨0,0,rfl,qg_,s_,s_,rfl⟩
   case round=>
    obtain⟨k,m,rfl,Y,rfl,W,o⟩:=hrel;subst o
    by_cases hin:k<a.length
    ·obtain⟨q,rfl,_,_,hc,_⟩:=R.atK rfl hin;have g1:k<(a.length:Int):=o_;have g2:0<=(k:Int):=o_;have V:Hid ((a.take _).countP (λb=>decide (b<f))=_):=xp hin _;generalize a.getD k 0=x,(a.take k).countP (λb=>decide (b<f))=cr at *
     by_cases hlt:x<f
     ·have A:Hid ((a.take (k+1)).countP (λb=>decide (b<f))=cr+1):=w_;have g3:=decide_eq_true hlt;go_upto_region 15 with fail;go_quiet (fail);refine rd_ ?_;exact⟨k+1,m+nq,g_,o_,by rw[A];go_num,by rw[A];omega,s_⟩
     have A:Hid ((a.take (k+1)).countP (λb=>decide (b<f))=cr):=(by show _=_;rw[V,if_neg w_];rfl);have g3:=decide_eq_false hlt;go_upto_region 15 with fail;go_quiet (fail);refine rd_ ?_;exact⟨k+1,m+nq,g_,o_,by rw[A],by rw[A];omega,s_⟩
    have t:k=a.length:=o_;subst t;rw[List.take_length] at W;rw[List.take_length];go_wp2;go_ret;rw[p];exact⟨rfl,below_drewN l _⟩
def Sf:Int×List VS:=(0,[])
def Sn(w:World)(a:Option Addr)(n nf:Nat)(L:List (Int×List VS)):Prop:=
 L.length=n/\(n=0∨∃q,a=some ⟨q,0,none⟩/\∀r,r<n->w.cell? (A_ q (r*2))=some (I_ (L.getD r Sf).1)/\∃g c,w.cell? (A_ q (r*2+1))=some (L_ g nf c)/\(L.getD r Sf).2.length=nf/\∀i,i<nf->w.cell? (A_ g (i*3))=some (.bool ((L.getD r Sf).2.getD i Ax).miss)/\w.cell? (A_ g (i*3+1))=some (I_ ((L.getD r Sf).2.getD i Ax).num)/\w.cell? (A_ g (i*3+2))=some (.string ((L.getD r Sf).2.getD i Ax).word))
def Sn.below{w f a n b L}(h:Sn w a n b L)(i:Below w.heap.size w f):Sn f a n b L:=by
 refine⟨h.1,h.2.imp id ?_⟩;rintro⟨q,e,j⟩;refine⟨q,e,λr hr=>?_⟩;obtain⟨o,g,c,k,m,l⟩:=j r hr;have d:∀p v,_=some v->_:=λp v hp=>(i.cell (World.block_lt_of_cell? w p hp)).trans hp
 grind
def rz:∀(L:List Jy) (i:Nat),i<L.length->∀c,c<2->(Ox L)[i*2+c]? =(Pv (L.getD i ⟨0,[],.slice none 0 0⟩))[c]?
 |[],i,h=>by simp at h
 |x::L,0,_=>λc hc=>by grind [Ox,Pv]
 |x::L,i+1,h=>λc hc=>by simp only[Ox];rw[List.getElem?_append_right (by simp[Pv];omega),show(i+1)*2+c-(Pv x).length=i*2+c by simp[Pv];omega];exact rz L i (by simpa using h) c hc
def Fy.view{w d c n l a L}(h:Fy w d (.slice a n c) L)(x:L.length=n)(y:∀p∈L,p.fs.length=l)(A:0<l):Sn w a n l (L.map Jy.pr):=by
 subst x;refine⟨List.length_map _,?_⟩
 rcases h.row.2 with⟨e,e0⟩|⟨q,cap,cur,e,_,hh,hnc,_⟩
 exact .inl e0;refine .inr ?_;injection e with e1 e2 e3;subst e1;refine⟨q,rfl,λr hr=>?_⟩;have v:(L.map Jy.pr).getD r Sf=Jy.pr (L.getD r ⟨0,[],.slice none 0 0⟩):=w_
 have t:L.getD r ⟨0,[],.slice none 0 0⟩∈L:=w_;rw[v];generalize hp:L.getD r ⟨0,[],.slice none 0 0⟩=p at *
 have k:∀o u,o<2->(Pv p)[o]? =some u->w.cell? (A_ q (r*2+o))=some u:=λo u f hu=>by rw[World.ownsRow.cellAt h.row (r*2+o) o_,rz L r hr o f,hp];exact hu
 have j:=y p t;have f:=h.each p t;refine⟨k 0 _ o_ rfl,?_⟩
 rcases f.2 with⟨_,e0⟩|⟨g,cap2,cur2,ev,_⟩
 omega;have s:=k 1 _ o_ rfl;rw[ev] at s;rw[j] at s;refine⟨g,cap2,s,j,λi hi=>?_⟩
 have m:w.ownsRow d 335 3 (L_ g p.fs.length cap2) p.fs.length (Ic p.fs):=by
  have z:=f;unfold oh at z
  grind
 have b:∀o u,o<3->(Hy (p.fs.getD i Ax))[o]? =some u->w.cell? (A_ g (i*3+o))=some u:=λo u f hu=>by rw[World.ownsRow.cellAt m (i*3+o) o_,Ww p.fs i o_ o f];exact hu
 exact⟨b 0 _ o_ rfl,b 1 _ o_ rfl,b 2 _ o_ rfl⟩
def Ziw b n c a L s w (h:Cc w b (.slice a n c) L)(m:L.length=n)(z:n<=1000):C_ 244 #[.slice a n c,.string s] w λe w'=>e=.returned (.bool (Lib.containsS L s))/\w'=w:=by
 have r:=x1_ h;have d:=x1_ m;clear h m;go_enter Tryz.func244,Tryz.ntmps244;go_wp2_with fail
 go_loopw [5] (λt5 wr=>∃k:Nat,t5=.int .i64 k/\k<=n/\Hid (∀j,j<k->L.getD j ⟨#[]⟩≠s)/\wr=w) (λt5 _=>n-(intOf t5).toNat)
 case atStart=>exact⟨0,rfl,qg_,λj o=>o_,rfl⟩
 case round=>
  obtain⟨k,rfl,u,l,i⟩:=hrel;subst i
  by_cases hin:k<n
  ·obtain⟨q,rfl,_,y⟩:=r.atW d hin ⟨#[]⟩;have v:k<(n:Int):=o_;have A:0<=(k:Int):=o_
   by_cases heq:L.getD k ⟨#[]⟩=s
   ·have f:Hid (Lib.containsS L s=true):=by
     refine(Lib.containsS_iff L s).2 ?_;rw[<- heq,Qc,Qd (by rw[d];exact hin)]
     grind
    have p:((L.getD k ⟨#[]⟩).toList==s.toList)=true:=(by rw[heq];simp);generalize L.getD k ⟨#[]⟩=x at *;clear heq;go_wp2;go_ret;exact⟨by rw[f];rfl,rfl⟩
   have p:=ZiS heq
   have g:Hid (∀j,j<k+1->L.getD j ⟨#[]⟩≠s):=λj o=>by
    by_cases h:j=k
    rw[h];exact heq;exact l j o_
   generalize L.getD k ⟨#[]⟩=x at *;clear heq;refine rd_ ?_;exact⟨k+1,g_,o_,g,trivial⟩
  have f:Hid (Lib.containsS L s=false):=by
   show _=_;rw[<- Bool.not_eq_true,Lib.containsS_iff];intro t;obtain⟨j,o,e⟩:=List.getElem_of_mem t;have B:=d.out;refine l j o_ ?_
   grind
  have v:¬k<(n:Int):=o_;go_wp2;go_ret;exact⟨by rw[f];rfl,rfl⟩
def Pn(L:List (Int×List VS))(i:Nat)(s:ByteArray):Int:=((L.filter (λr=>!(r.2.getD i Ax).miss&&decide ((r.2.getD i Ax).word=s))).map Prod.fst).sum
def Zb7{L:List (Int×List VS)}{r}(h:r<L.length) i s:Pn (L.take (r+1)) i s=Pn (L.take r) i s+(if(!((L.getD r Sf).2.getD i Ax).miss&&decide (((L.getD r Sf).2.getD i Ax).word=s))=true then(L.getD r Sf).1 else 0):=by
 have e:L.getD r Sf=L[r]:=w_;unfold Pn
 grind [Qi]
def Ze3{L:List (Int×List VS)}(hw:∀r∈L,0<=r.1/\r.1<=99) i s:∀k,k<=L.length->0<=Pn (L.take k) i s/\Pn (L.take k) i s<=99*k
 |0,_=>by simp[Pn]
 | k+1,hk=>by
  have ih:=Ze3 hw i s k o_;rw[Zb7 o_]
  grind
def ZbO a n l c i L s w (h:Sn w a n l L)(C:i<l)(z:∀r∈L,0<=r.1/\r.1<=99)(N:n<=1000):C_ 290 #[.slice a n c,.int .i64 i,.string s] w λe w'=>e=.returned (.int .i64 (Pn L i s))/\∃m,w'=w.drewN m:=by
 have o:=x1_ h;have f:=x1_ (λk hk=>Ze3 z i s k (by rw[h.1];exact hk));clear h z;go_enter Tryz.func290,Tryz.ntmps290;go_wp2_with fail
 go_loopw [7,8] (λt7 t8 wr=>∃(k m:Nat),t8=.int .i64 k/\k<=n/\t7=.int .i64 (Pn (L.take k) i s)/\wr=w.drewN m) (λ_ t8 _=>n-(intOf t8).toNat)
 case atStart=>exact⟨0,0,rfl,qg_,rfl,rfl⟩
 case round=>
  obtain⟨k,m,rfl,G,rfl,p⟩:=hrel;subst p
  by_cases hin:k<n
  ·have H:k<(n:Int):=o_;have V:0<=(k:Int):=o_;have J:i<(l:Int):=o_;have Q:0<=(i:Int):=o_
   rcases o.out.2 with U|⟨q,rfl,u⟩
   omega;obtain⟨P,g,S,R,_,y⟩:=u k hin;obtain⟨O,_,I⟩:=y i C;clear y;have j:=x1_ (Zb7 (by rw[o.1];exact hin) i s);have D:=f k o_;have d:=x1_ (f (k+1) o_);clear u;generalize Pn (L.take k) i s=A,(L.getD k Sf).2.getD i Ax=v,(L.getD k Sf).1=x at *;obtain⟨F,T,t⟩:=v;simp only at *
   cases F with
   | true=>
    have b:Hid (Pn (L.take (k+1)) i s=A):=(by show _=_;rw[j,if_neg s_];omega);refine rd_ ?_;exact⟨k+1,_,g_,o_,by rw[b],by first|rfl|simp⟩
   | false=>
    by_cases heq:t=s
    ·have b:Hid (Pn (L.take (k+1)) i s=A+x):=w_;have B:(t.toList==s.toList)=true:=(by rw[heq];simp);have M:_=A+x:=Cb (by have:=b.out;have:=d.out;omega) (by have:=b.out;have:=d.out;omega);clear heq;refine rd_ ?_;exact⟨k+1,_,g_,o_,by rw[b],by first|rfl|simp⟩
    have b:Hid (Pn (L.take (k+1)) i s=A):=(by show _=_;rw[j,if_neg (by simp[heq])];omega);have B:=ZiS heq;clear heq;refine rd_ ?_;exact⟨k+1,_,g_,o_,by rw[b],by first|rfl|simp⟩
  have H:¬k<(n:Int):=o_;have E:k=L.length:=(by rw[o.1];omega);have j:Hid (Pn (L.take k) i s=Pn L i s):=(by show _=_;grind);go_wp2;go_ret;exact⟨rfl,_,rfl⟩
def Nk b c n m a f h d w (k:n<=1000)(j:m<=1000):C_ 189 #[.agg #[.bool h,.slice b n a,.slice c m f,.int .i64 d]] w λe w'=>e=.returned (.int .i64 (n+m+2:Nat))/\Below w.heap.size w w':=by have g:Below _ w (w.alloc (.cells #[.bool h,.slice b n a,.slice c m f,I_ d] 227)):=bA_;have i:=x1_ g;clear g;go_enter Tryz.func189,Tryz.ntmps189;go_wp2;go_ret;exact⟨g_,i⟩
def ZbN a j h g k c o f n b l i r x d (w:World)(C:w.cell? (A_ a 0)=some (P_ j))(u:w.cell? (A_ a 1)=some (L_ h c o))(t:w.cell? (A_ h i)=some (L_ g f n))(v:w.cell? (A_ g r)=some (I_ x))(p:w.cell? (A_ j 1)=some (L_ k b l))(B:w.cell? (A_ k (i*4+3))=some (I_ d))(A:i<c)(E:r<f)(z:i<b):C_ 292 #[.pointer (some ⟨a,0,none⟩),.int .i64 r,.int .i64 i] w λe w'=>e=.returned (.bool (x !=d))/\∃m,w'=w.drewN m:=by
 have F:0<=(i:Int):=o_;have y:i<(c:Int):=o_;have q:0<=(r:Int):=o_;have D:r<(f:Int):=o_;have s:i<(b:Int):=o_;go_enter Tryz.func292,Tryz.ntmps292;go_wp2_with fail
 go_quiet (fail);go_wp2;go_ret;exact⟨rfl,_,rfl⟩
theorem Ac{w w'}(hb:Below w.heap.size w w'){p v}(hp:w.cell? p=some v):w'.cell? p=some v:=(hb.cell (World.block_lt_of_cell? w p hp)).trans hp
def NuV(w:World)(a:Option Addr)(L:List Nat):Prop:=∀k,k<L.length->∃q,a=some ⟨q,0,none⟩/\w.cell? (A_ q k)=some (I_ (L.getD k 0:Nat))
def NuV.below{w w' a L}(h:NuV w a L)(hb:Below w.heap.size w w'):NuV w' a L:=λk hk=>by obtain⟨q,e,hc⟩:=h k hk;exact⟨q,e,Ac hb hc⟩
def Ag.nums{w base c n a L}(h:Ag w base (.slice a n c) (Av L))(hn:L.length=n):NuV w a L:=λk hk=>by
 obtain⟨q,e,_,_,hc⟩:=h.atK (by rw[Aw];exact hn) (k:=k) o_;rw[Cv] at hc
 grind
def LiV(w:World)(v:Value)(Ls:List (List Nat)):Prop:=(∃a c,v=.slice a Ls.length c)/\∀i,i<Ls.length->∃q c ag cg,v=L_ q Ls.length c/\w.cell? (A_ q i)=some (.slice ag (Ls.getD i []).length cg)/\NuV w ag (Ls.getD i [])
def LiV.below{w w' v Ls}(h:LiV w v Ls)(hb:Below w.heap.size w w'):LiV w' v Ls:=⟨h.1,λi hi=>by
 obtain⟨q,c,ag,cg,e,h1,h2⟩:=h.2 i hi
 exact⟨q,c,ag,cg,e,Ac hb h1,h2.below hb⟩⟩
def FeV(w:World)(v:Value)(Ks:List KS):Prop:=(∃a c,v=.slice a Ks.length c)/\∀i,i<Ks.length->∃q c ab cb aw cw,v=L_ q Ks.length c/\w.cell? (A_ q (i*4))=some (.bool (Ks.getD i Ay).e.wd)/\
  w.cell? (A_ q (i*4+1))=some (.slice ab (Ks.getD i Ay).e.bs.length cb)/\w.cell? (A_ q (i*4+2))=some (.slice aw (Ks.getD i Ay).e.ww.length cw)/\w.cell? (A_ q (i*4+3))=some (I_ (Ks.getD i Ay).d)
def FeV.below{w w' v Ks}(h:FeV w v Ks)(hb:Below w.heap.size w w'):FeV w' v Ks:=⟨h.1,λi hi=>by
 obtain⟨q,c,ab,cb,aw,cw,e,h1,h2,h3,h4⟩:=h.2 i hi
 grind [Ac]⟩
def od(k:KS):Prop:=k.e.bs.length<=1000/\k.e.ww.length<=1000/\(k.e.wd=true->k.e.bs=[])/\(k.e.wd=false->k.e.ww=[])
def od.many{k}(h:od k):k.e.bs.length+k.e.ww.length+2=k.many:=by
 unfold KS.many ES.cnt Ky
 cases hw:k.e.wd
 rw[h.2.2.2 hw];simp;rw[h.2.2.1 hw];simp
structure DkV(w:World)(db n)(Ks):Prop where
 d0:w.cell? (A_ db 0)=some (I_ (n:Nat))
 d1:∃v,w.cell? (A_ db 1)=some v/\FeV w v Ks
 one:∀i,i<Ks.length->od (Ks.getD i Ay)
def DkV.below{w c d n b}(h:DkV w d n b)(a:Below w.heap.size w c):DkV c d n b:=by obtain⟨f,e,g⟩:=h.d1;exact⟨Ac a h.d0,⟨f,Ac a e,g.below a⟩,h.one⟩
structure MkV(w:World)(mb db n)(Ks)(Bb):Prop where
 m0:w.cell? (A_ mb 0)=some (P_ db)
 m1:∃v,w.cell? (A_ mb 1)=some v/\LiV w v Bb
 dk:DkV w db n Ks
 len:Bb.length=Ks.length
 rows:∀i,i<Bb.length->(Bb.getD i []).length=n
def MkV.below{w d c e n b f}(h:MkV w c e n b f)(a:Below w.heap.size w d):MkV d c e n b f:=by obtain⟨i,g,j⟩:=h.m1;exact⟨Ac a h.m0,⟨i,Ac a g,j.below a⟩,h.dk.below a,h.len,h.rows⟩
def MkV.drewN{w mb db n Ks Bb}(h:MkV w mb db n Ks Bb) m:MkV (w.drewN m) mb db n Ks Bb:=h.below (below_drewN bz_ m)
def sO(Ks:List KS)(Bb:List (List Nat))(i r:Nat):Bool:=decide ((Bb.getD i []).getD r 0≠(Ks.getD i Ay).d)
def MkV.stands{w l x n b f}(h:MkV w l x n b f){i r}(j:i<b.length)(p:r<n):C_ 292 #[.pointer (some ⟨l,0,none⟩),.int .i64 r,.int .i64 i] w λe w'=>e=.returned (.bool (sO b f i r))/\∃m,w'=w.drewN m:=by obtain⟨B,u,y⟩:=h.m1;obtain⟨D,s,A⟩:=h.dk.d1;have a:i<f.length:=(by rw[h.len];exact j);obtain⟨q,c,G,I,rfl,o,v⟩:=y.2 i a;obtain⟨L,H,E,C,J,F,rfl,_,_,_,z⟩:=A.2 i j;rw[h.rows i a] at o;obtain⟨g,rfl,t⟩:=v r (by rw[h.rows i a];exact p);have k:=ZbN _ _ q g _ _ c n _ _ _ i r _ _ w h.m0 u o t s z a p j;have e:(((f.getD i []).getD r 0:Nat) !=((b.getD i Ay).d:Int))=sO b f i r:=(by grind [sO]);rw[e] at k;exact k
def DkV.feat{w b n a}(h:DkV w b n a){i}(f:i<a.length):∃q c ab cb aw cw,w.cell? (A_ b 1)=some (L_ q a.length c)/\w.cell? (A_ q (i*4))=some (.bool (a.getD i Ay).e.wd)/\w.cell? (A_ q (i*4+1))=some (.slice ab (a.getD i Ay).e.bs.length cb)/\w.cell? (A_ q (i*4+2))=some (.slice aw (a.getD i Ay).e.ww.length cw)/\w.cell? (A_ q (i*4+3))=some (I_ (a.getD i Ay).d):=by
 obtain⟨l,j,g⟩:=h.d1;obtain⟨o,k,ab,cb,aw,cw,rfl,m⟩:=g.2 i f
 grind
def clF(Ks:List KS)(Bb:List (List Nat))(fs:List Nat)(i k:Nat):Nat:=(List.range k).countP (λr=>sO Ks Bb i r&&fs.any (λf=>sO Ks Bb f r))
def Zhg a b c i k:clF a b c i (k+1)=clF a b c i k+(if(sO a b i k&&c.any (λf=>sO a b f k))=true then 1 else 0):=by unfold clF;rw[List.range_succ,List.countP_append,List.countP_singleton]
def Zk4 a b c i k:clF a b c i k<=k:=by have:=List.countP_le_length (p:=λr=>sO a b i r&&c.any (λf=>sO a b f r)) (l:=List.range k);rw[List.length_range] at this;exact this
def ZgV{a:List Nat}{k}(h:k<a.length) p:(a.take (k+1)).any p=((a.take k).any p||p (a.getD k 0)):=by
 rw[Qi h,List.any_append]
 grind
def Nb{a:List Nat}{k}(h:k<a.length):a.getD k 0∈a:=w_
def Zdv E O n c i a b d g w (h:MkV w E O n d g)(F:NuV w a b)(R:i<d.length)(y:∀f∈b,f<d.length)(Z:n<=1000)(N:b.length<=1000):C_ 291 #[.pointer (some ⟨E,0,none⟩),.slice a b.length c,.int .i64 i] w λe w'=>e=.returned (.int .i64 (clF d g b i n:Nat))/\∃m,w'=w.drewN m:=by
 have D:=x1_ h;have C:=x2_ F y;have m0:=h.m0;have d0:=h.dk.d0;obtain⟨l,o⟩:=ey_ b.length;have I:=x1_ o;rw[o] at N ⊢;clear h F y o;go_enter Tryz.func291,Tryz.ntmps291;go_wp2_with fail
 go_loopw [7,8] (λt7 t8 wr=>∃(r m:Nat),t8=.int .i64 r/\r<=n/\t7=.int .i64 (clF d g b i r:Nat)/\wr=w.drewN m) (λ_ t8 _=>n-(intOf t8).toNat)
 case atStart=>exact⟨0,0,rfl,qg_,rfl,rfl⟩
 case round =>
  obtain⟨r,m,rfl,T,rfl,u⟩:=hrel;subst u
  by_cases hin:r<n
  ·have W:r<(n:Int):=o_;have J:=x1_ (Zhg d g b i r);have Q:=Zk4 d g b i r;generalize clF d g b i r=cr at *;go_wp2_with fail
   refine((D.drewN _).stands R hin).mono ?_;rintro e M ⟨rfl,S,t⟩;obtain⟨v,j⟩:=ey_ (sO d g i r);have L:=x1_ j;rw[j];subst t;clear j;go_wp2_with fail
   go_loopw [10,11] (λt10 t11 wr=>∃(k m:Nat),t11=.int .i64 k/\k<=l/\t10=.bool ((b.take k).any (λf=>sO d g f r))/\wr=w.drewN m) (λ_ t11 _=>l-(intOf t11).toNat)
   case atStart=>exact⟨0,m+S,rfl,qg_,rfl,s_⟩
   case round=>
    obtain⟨k,H,rfl,hk,rfl,u⟩:=hrel;subst u
    by_cases hkl:k<l
    ·have p:k<b.length:=(by rw[I];exact hkl);obtain⟨q,rfl,Y⟩:=C.1 k p;have A:=C.2 _ (Nb p);have G:Hid ((b.take _).any (λf=>sO d g f r)=_):=ZgV p _;generalize b.getD k 0=f at *;generalize (b.take k).any (λf=>sO d g f r)=an at *;have P:k<(l:Int):=o_;have X:0<=(k:Int):=o_;go_wp2_with fail
     refine((D.drewN _).stands A hin).mono ?_;rintro e M ⟨rfl,U,t⟩;subst t;obtain⟨V,s⟩:=ey_ (sO d g f r);have z:Hid ((b.take (k+1)).any (λf=>sO d g f r)=(an||V)):=(by rw[<- s];exact G);rw[s];clear G s
     cases an<;>
      (go_wp2
       go_roundw;case rel=>exact⟨k+1,H+U,g_,o_,by rw[z];rfl,s_⟩
       case measure=>simp[intOf];omega)
    have P:¬k<(l:Int):=o_;have x:b.take k=_:=List.take_of_length_le (by have:=I.out;omega);rw[x];have B:Hid (clF d g b i (r+1)=cr+(if(v&&b.any (λf=>sO d g f r))=true then 1 else 0)):=(by rw[<- L];exact J);clear J x;generalize b.any (λf=>sO d g f r)=an at *
    cases v<;>cases an<;>
     (go_wp2
      go_roundw;case rel=>exact⟨r+1,H,g_,o_,by rw[B];first|rfl|go_num,by first|rfl|simp⟩
      case measure=>simp[intOf];omega)
  have W:¬r<(n:Int):=o_;obtain rfl:r=n:=o_;go_wp2;go_ret;exact⟨rfl,_,rfl⟩
def ZdK{b}{a:List Nat}{k}(h:k<a.length):Du b (a.take (k+1))=Du b (a.take k)+(b.getD (a.getD k 0) Ay).many:=by
 unfold Du;rw[Qi h,List.map_append,List.sum_append]
 grind
def ZiU{Ks fs}(a:∀f∈fs,(Ks.getD f Ay).many<=2002):Du Ks fs<=2002*fs.length:=by
 induction fs with
 |nil=>simp[Du]
 | cons f fs ih=>
  grind [Du]
def uj C n c a b g w (h:DkV w C n g)(z:NuV w a b)(m:∀f∈b,f<g.length)(U:b.length<=1000):C_ 137 #[.pointer (some ⟨C,0,none⟩),.slice a b.length c] w λe w'=>e=.returned (.int .i64 (Du g b:Nat))/\Below w.heap.size w w':=by
 have M:=x1_ h;have I:=x2_ z m
 have Y:=x1_ (λk s=>by
  have:=ZiU (g:=g) (b:=b.take k) (λf z=>by
   have s:=h.one f (m f (List.mem_of_mem_take z));have:=s.many;have:=s.1;have:=s.2.1
   omega)
  rw[List.length_take,Nat.min_eq_left s] at this
  exact this)
 obtain⟨l,o⟩:=ey_ b.length;have J:=x1_ o;rw[o] at U ⊢;clear h z m o;go_enter Tryz.func137,Tryz.ntmps137;go_wp2_with fail
 go_loopw [5,6] (λt5 t6 wr=>∃k:Nat,t6=.int .i64 k/\k<=l/\t5=.int .i64 (Du g (b.take k):Nat)/\E_ w wr) (λ_ t6 _=>l-(intOf t6).toNat)
 case atStart=>exact⟨0,rfl,qg_,rfl,bz_⟩
 case round=>
  obtain⟨k,rfl,s,rfl,u⟩:=hrel
  by_cases hkl:k<l
  ·have r:k<b.length:=(by rw[J];exact hkl);obtain⟨q,rfl,L⟩:=(I.1.below u) k r;have x:=I.2 _ (Nb r);obtain⟨y,X,B,A,H,D,N,O,Q,P,R⟩:=(M.below u).feat x;have S:Hid (Du g _=_):=ZdK r;have j:=M.one _ x;have v:=j.many;have h1:=Y k o_;have t:=Nk B H (g.getD (b.getD k 0) Ay).e.bs.length (g.getD (b.getD k 0) Ay).e.ww.length A D (g.getD (b.getD k 0) Ay).e.wd (g.getD (b.getD k 0) Ay).d
   have G:Hid (∀W:World,C_ 189 #[.agg #[.bool (g.getD (b.getD k 0) Ay).e.wd,.slice B (g.getD (b.getD k 0) Ay).e.bs.length A,.slice H (g.getD (b.getD k 0) Ay).e.ww.length D,.int .i64 (g.getD (b.getD k 0) Ay).d]] W λe w'=>e=.returned (.int .i64 (g.getD (b.getD k 0) Ay).many)/\E_ W w'):=λW=>by rw[<- v];exact t W j.1 j.2.1
   have T:(g.getD (b.getD k 0) Ay).many<=2002:=(by have:=j.1;have:=j.2.1;omega);clear t v j;generalize (g.getD (b.getD k 0) Ay).many=mn at *;generalize (g.getD (b.getD k 0) Ay).e.wd=wd at *;generalize (g.getD (b.getD k 0) Ay).e.bs.length=nb at *;generalize (g.getD (b.getD k 0) Ay).e.ww.length=nw at *;generalize (g.getD (b.getD k 0) Ay).d=dd at *;generalize b.getD k 0=f at *;generalize Du g (b.take k)=sm at *;have V:k<(l:Int):=o_;have g2:0<=(k:Int):=o_;have Z:0<=(f:Int):=o_;have g4:f<(g.length:Int):=o_;have q1:_=(sm:Int)+(mn:_):=Cb o_ o_;go_upto_region 5 with fail
   go_region_held3 (λw'=>w'.cell? (A_ C 1)=some (L_ y g.length X)/\w'.cell? (A_ q k)=some (I_ (f:Nat))/\w'.cell? (A_ y (f*4))=some (.bool wd)/\w'.cell? (A_ y (f*4+1))=some (.slice B nb A)/\w'.cell? (A_ y (f*4+2))=some (.slice H nw D)/\w'.cell? (A_ y (f*4+3))=some (I_ (dd:Nat))) (first|exact⟨N,L,O,Q,P,R⟩|exact⟨Ac i N,Ac i L,Ac i O,Ac i Q,Ac i P,Ac i R⟩) (first|(go_at_call 189;refine(G _).mono ?_;rintro e w2 ⟨rfl,E⟩;have i:Below wr.heap.size _ _:=bz_.drew.trans E))
   go_wp2;go_roundw;case rel=>exact⟨k+1,g_,o_,by rw[S];go_num,u.trans (i.mono u.size)⟩
   case measure=>exact z_
  have V:¬k<(l:Int):=o_;have F:b.take k=_:=List.take_of_length_le (by have:=J.out;omega);rw[F];go_wp2;go_ret;exact⟨rfl,u⟩
abbrev Cz:Value:=.slice none 0 0
structure Mg(w:World)(base)(v)(vs)(Ls:List (List Int)):Prop where
 row:w.ownsRow base 25 1 v Ls.length vs
 each:∀i,i<Ls.length->Ag w base (vs.getD i Cz) (Ls.getD i [])
 apart:∀i j,i<j->j<Ls.length->Ch (vs.getD i Cz) (vs.getD j Cz)
section
variable {w w':World} {base:Nat} {v v':Value} {vs:List Value} {Ls:List (List Int)}
def Mg.len(h:Mg w base v vs Ls):vs.length=Ls.length:=by have:=h.row.1;omega
def Mg.nil w base:Mg w base (.slice none 0 0) [] []:=⟨rn_,λi hi=>by simp at hi,λi j _ hj=>by simp at hj⟩
def Mg.touch{K}(h:Mg w base v vs Ls)(t:Aa K w w')(h1:∀k cur ty,w.heap[k]? =some (.cells cur ty (0,0))->ty=25∨ty=3->base<=k->¬K k):Mg w' base v vs Ls:=
 ⟨t.row h.row (λk hk=>by obtain⟨c,hc⟩:=Ad h.row hk;exact h1 k c _ hc (.inl rfl) (rl_ h.row k hk).1),λi hi=>t.row (h.each i hi) (λk hk=>by obtain⟨c,hc⟩:=Ad (h.each i hi) hk;exact h1 k c _ hc (.inr rfl) (rl_ (h.each i hi) k hk).1),h.apart⟩
def Mg.below(h:Mg w base v vs Ls)(hb:Below w.heap.size w w'):Mg w' base v vs Ls:=h.touch (.of_below (S:=λ_=>False) hb) (λ_ _ _ _ _ _=>id)
def Mg.shape(h:Mg w base v vs Ls):∃a c,v=.slice a Ls.length c:=by
 rcases h.row.2 with⟨rfl,h0⟩|⟨g,cap,cur,rfl,_⟩
 ·grind
 grind
def Mg.mono{b}(h:Mg w base v vs Ls)(d:b<=base):Mg w b v vs Ls:=by
 refine⟨⟨h.row.1,?_⟩,λi hi=>(h.each i hi).mono d,h.apart⟩
 rcases h.row.2 with e|⟨g,c,a,e,f,r⟩
 exact .inl e;exact .inr ⟨g,c,a,e,Nat.le_trans d f,r⟩
def Mg.at(h:Mg w base v vs Ls){i}(b:i<Ls.length):∃q c a k,v=L_ q Ls.length c/\w.cell? (A_ q i)=some (.slice a (Ls.getD i []).length k)/\(∀o,w.frozen? (A_ q o)=false)/\vs.getD i Cz=.slice a (Ls.getD i []).length k/\(∃cur,w.heap[q]? =some (.cells cur 25 (0,0)))/\base<=q:=by
 rcases h.row.2 with⟨_,h0⟩|⟨g,cap,cur,rfl,hb,hh,hnc,_⟩
 omega;obtain⟨a,k,e⟩:=(h.each i b).shape;refine⟨g,cap,a,k,rfl,?_,λo=>fq_ o _ _ hh,e,⟨cur,hh⟩,hb⟩;rw[World.ownsRow.cellAt h.row i o_,<- e]
 grind
def Mg.more{u L}(h:Mg w base v vs Ls)(c:Ag w base u L)(f:∀i,i<Ls.length->Ch (vs.getD i Cz) u)(g:w.grownBy w' v.ownBlock)(r:w'.ownsRow base 25 1 v' (Ls.length+1) (vs++[u])):Mg w' base v' (vs++[u]) (Ls++[L]):=by
 have d:=h.len;have a:∀i,i<Ls.length->(vs++[u]).getD i Cz=vs.getD i Cz/\(Ls++[L]).getD i []=Ls.getD i []:=λi hi=>⟨w_,w_⟩;have b:(vs++[u]).getD Ls.length Cz=u/\(Ls++[L]).getD Ls.length []=L:=⟨w_,by simp[List.getD]⟩;refine⟨w_,λi hi=>?_,λi j hij hj=>?_⟩
 ·rw[Qe,List.length_singleton] at hi
  by_cases e:i<Ls.length
  rw[(a i e).1,(a i e).2];exact Ag.kept (h.each i e) g (An h.row (h.each i e) d_);obtain rfl:i=Ls.length:=o_;rw[b.1,b.2];exact Ag.kept c g (An h.row c d_)
 rw[Qe,List.length_singleton] at hj;rw[(a i o_).1]
 by_cases e:j<Ls.length
 rw[(a j e).1];exact h.apart i j hij e
 grind
def Mg.grow{q c i u L}(h:Mg w base (L_ q Ls.length c) vs Ls)(f:i<Ls.length)(g:w.grownBy w' (vs.getD i Cz).ownBlock)(p:Ag w' base u L)(n:u.ownBlock=(vs.getD i Cz).ownBlock∨u.ownBlock=some w.heap.size):Mg (w'.setCell (A_ q i) u) base (L_ q Ls.length c) (vs.set i u) (Ls.set i L):=by
 have r:=h.len;have m:=World.ownsRow.kept h.row g (An (h.each i f) h.row d_);obtain⟨o,l⟩:=Ad m (k:=q) rfl;obtain⟨s,_⟩:=World.ownsRow.stored m i u;refine⟨w_,λj hj=>?_,λj k hjk hk=>?_⟩
 ·rw[List.length_set] at hj
  by_cases e:j=i
  subst e;have b:(vs.set j u).getD j Cz=u:=w_;have d:(Ls.set j L).getD j []=L:=w_;rw[b,d];exact As p l d_;have b:(vs.set i u).getD j Cz=vs.getD j Cz:=w_;have d:(Ls.set i L).getD j []=Ls.getD j []:=w_;rw[b,d];refine As (Ag.kept (h.each j hj) g ?_) l d_
  rcases Nat.lt_or_gt_of_ne e with e|e
  exact(h.apart j i e f).symm.keeps;exact(h.apart i j e hj).keeps
 rw[List.length_set] at hk
 have a:∀x,x<Ls.length->x≠i->(vs.set i u).getD x Cz=vs.getD x Cz:=λx _ e=>w_
 have b:(vs.set i u).getD i Cz=u:=w_
 by_cases ej:j=i
 subst ej;rw[b,a k hk o_];exact Ch.moved (h.apart j k hjk hk) (h.each k hk) n
 by_cases ek:k=i
 subst ek;rw[b,a j o_ ej];exact(Ch.moved (h.apart j k hjk hk).symm (h.each j o_) n).symm;rw[a j o_ ej,a k hk ek];exact h.apart j k hjk hk
end
def Mg.view{w d v p f}(h:Mg w d v p (f.map Av)):LiV w v f:=by obtain⟨a,c,e⟩:=h.shape;rw[List.length_map] at e;refine⟨⟨a,c,e⟩,λi hi=>?_⟩;have b:i<(f.map Av).length:=w_;obtain⟨q,o,n,k,g,l,_,r,_⟩:=h.at b;have j:(f.map Av).getD i []=Av (f.getD i []):=w_;have m:=h.each i b;rw[r,j,Aw] at m;rw[j,Aw] at l;rw[List.length_map] at g;exact⟨q,o,n,k,g,l,m.nums rfl⟩
structure dx(w)(base)(v)(kvs)(Ks):Prop where
 row:Yk w base 227 4 v (List.zipWith Cf Ks kvs)
 len:kvs.length=Ks.length
 each:∀i,i<Ks.length->Ag w base (kvs.getD i Oi).1 (Ks.getD i Ay).e.bs/\Cc w base (kvs.getD i Oi).2 (Ks.getD i Ay).e.ww
section
variable {w w':World} {base:Nat} {v v':Value} {kvs:List (Value×Value)} {Ks:List KS}
def dx.nil w base:dx w base (.slice none 0 0) [] []:=⟨Yk.nil _ _ _ _,rfl,λi hi=>by simp at hi⟩
def dx.zlen(h:dx w base v kvs Ks):(List.zipWith Cf Ks kvs).length=Ks.length:=by rw[List.length_zipWith,h.len,Nat.min_self]
def dx.touch{K}(h:dx w base v kvs Ks)(t:Aa K w w')(b:∀k cur ty,w.heap[k]? =some (.cells cur ty (0,0))->ty=227∨ty=3∨ty=9->base<=k->¬K k):dx w' base v kvs Ks:=by have a:∀{ty sz n:Nat} {u:_} {xs:_},w.ownsRow _ ty sz u n xs->(ty=227∨_=3∨ty=9)->_:=λhr hty=>t.row hr (λk hk=>by obtain⟨c,d⟩:=Ad hr hk;exact b k c _ d hty (rl_ hr k hk).1);exact⟨⟨a h.row.row (.inl rfl),h.row.wid⟩,h.len,λi hi=>⟨a (h.each i hi).1 (.inr (.inl rfl)),a (h.each i hi).2 (.inr (.inr rfl))⟩⟩
def dx.below(h:dx w base v kvs Ks)(hb:Below w.heap.size w w'):dx w' base v kvs Ks:=h.touch (.of_below (S:=λ_=>False) hb) (λ_ _ _ _ _ _=>id)
def dx.more{k u}(h:dx w base v kvs Ks)(f:Ag w base u.1 k.e.bs)(j:Cc w base u.2 k.e.ww)(g:w.grownBy w' v.ownBlock)(r:w'.ownsRow base 227 4 v' (Ks.length+1) ((List.zipWith Cf Ks kvs).flatten++Cf k u)):dx w' base v' (kvs++[u]) (Ks++[k]):=by
 have d:=h.len;refine⟨?_,by simp[d],λi hi=>?_⟩;rw[List.zipWith_append d.symm];exact h.row.more w_ rfl;have a:∀{ty sz n:Nat} {x:_} {xs:_},w.ownsRow base ty sz x n xs->_:=λhr hne=>World.ownsRow.kept hr g (An h.row.row hr hne);rw[Qe,List.length_singleton] at hi
 by_cases e:i<Ks.length
 have c:(kvs++[u]).getD i Oi=kvs.getD i Oi:=w_;have b:(Ks++[k]).getD i Ay=Ks.getD i Ay:=w_;rw[c,b];exact⟨a (h.each i e).1 d_,a (h.each i e).2 d_⟩;obtain rfl:i=Ks.length:=o_;have c:(kvs++[u]).getD Ks.length Oi=u:=w_;have b:(Ks++[k]).getD Ks.length Ay=k:=(by simp[List.getD]);rw[c,b];exact⟨a f d_,a j d_⟩
def dx.view(h:dx w base v kvs Ks):FeV w v Ks:=by obtain⟨a,c,e⟩:=h.row.shape;rw[h.zlen] at e;refine⟨⟨a,c,e⟩,λi hi=>?_⟩;obtain⟨q,j,d,_,_,_,_,b⟩:=h.row.at (i:=i) (by rw[h.zlen];exact hi);rw[h.zlen] at d;obtain⟨g,n,k⟩:=(h.each i hi).1.shape;obtain⟨l,m,f⟩:=(h.each i hi).2.form;have o:(List.zipWith Cf Ks kvs).getD i []=Cf (Ks.getD i Ay) (kvs.getD i Oi):=(by simp[List.getD,List.getElem?_zipWith,hi,show i<kvs.length by rw[h.len];exact hi]);rw[o] at b;exact⟨q,j,g,n,l,m,d,b 0 o_ _ rfl,b 1 o_ _ (by rw[<- k];rfl),b 2 o_ _ (by rw[<- f];rfl),b 3 o_ _ rfl⟩
end
def Ty(w:World)(db n:Nat)(vF vB vC vX:Value):Prop:=w.heap[db]? =some (.cells #[I_ n,vF,vB,vC,vX] 142 (0,0))
structure MkX(w:World)(base mb db n:Nat)(vF vB vC vX vb vo)(kvs)(bbs)(Ks)(Bb:List (List Nat))(outs):Prop where
 blk:w.heap[mb]? =some (.cells #[P_ db,vb,vo] 331 (0,0))
 ds:Ty w db n vF vB vC vX
 fe:dx w base vF kvs Ks
 bb:Mg w base vb bbs (Bb.map Av)
 ou:Ag w base vo (Av outs)
 len:Bb.length=Ks.length
 rows:∀i,i<Bb.length->(Bb.getD i []).length=n
 one:∀i,i<Ks.length->od (Ks.getD i Ay)
section
variable {w w':World} {base mb db n:Nat} {vF vB vC vX vb vo vB' vC' vX':Value} {kvs:List (Value×Value)} {bbs:List Value} {Ks:List KS} {Bb:List (List Nat)} {outs:List Nat}
def MkX.view(h:MkX w base mb db n vF vB vC vX vb vo kvs bbs Ks Bb outs):MkV w mb db n Ks Bb:=
 ⟨cq_ 0 _ 331 (0,0) h.blk,⟨vb,cq_ 1 _ 331 (0,0) h.blk,h.bb.view⟩,⟨cq_ 0 _ 142 (0,0) h.ds,⟨vF,cq_ 1 _ 142 (0,0) h.ds,h.fe.view⟩,h.one⟩,h.len,h.rows⟩
def MkX.dbw(h:MkX w base mb db n vF vB vC vX vb vo kvs bbs Ks Bb outs)(t:Aa (λq=>q=db) w w')(b:Ty w' db n vF vB' vC' vX'):MkX w' base mb db n vF vB' vC' vX' vb vo kvs bbs Ks Bb outs:=by
 have a:∀k cur ty,w.heap[k]? =some (.cells cur ty (0,0))->ty≠142->¬k=db:=λk cur ty hk hty e=>by
  have d:=h.ds;unfold Ty at d
  grind
 exact⟨t.at_ h.blk (a _ _ _ h.blk d_),b,h.fe.touch t (λk cur ty hk hty _=>a k _ _ hk w_),h.bb.touch t (λk cur ty hk hty _=>a k _ _ hk w_),
  t.row h.ou (λk hk=>by obtain⟨c,f⟩:=Ad h.ou hk;grind),h.len,h.rows,h.one⟩
end
structure Tb(w wr)(db n)(vF vB vC vX vc vd)(bvs)(Fs:List (List Nat))(cs)(dl):Prop where
 tch:Aa (λq=>q=db) w wr
 ds:Ty wr db n vF vB vC vX
 bu:Mg wr w.heap.size vB bvs (Fs.map Av)
 cf:Ag wr w.heap.size vc (Av cs)
 ap:∀i,i<Fs.length->Ch vc (bvs.getD i Cz)
 dn:Ev wr w.heap.size vd dl
 lt:db<w.heap.size
section
variable {w wr wr':World} {db n:Nat} {vF vB vC vX vc vd:Value} {bvs:List Value} {Fs:List (List Nat)} {cs:List Nat} {dl:List Bool}
def Tb.below(h:Tb w wr db n vF vB vC vX vc vd bvs Fs cs dl)(a:Below wr.heap.size wr wr'):Tb w wr' db n vF vB vC vX vc vd bvs Fs cs dl:=by have t:=Aa.of_below (S:=λ_=>False) a;exact⟨h.tch.below a,t.at_ h.ds id,h.bu.below a,h.cf.below a,h.ap,t.row h.dn (λ_ _=>id),h.lt⟩
def Ty.lt(h:Ty w db n vF vB vC vX):db<w.heap.size:=(Qb h).1
def Ty.ne(h:Ty w db n vF vB vC vX){k ty:Nat}{cur}(hk:w.heap[k]? =some (.cells cur ty (0,0)))(hty:ty≠142):k≠db:=λe=>by
 unfold Ty at h
 grind
def Tb.done{g c i m b}(h:Tb w wr db n vF vB vC vX vc (L_ g m c) bvs Fs cs dl)(l:dl.length=m):Tb w (wr.setCell (A_ g i) (.bool b)) db n vF vB vC vX vc (L_ g m c) bvs Fs cs (dl.set i b):=by
 obtain⟨r,u⟩:=Ad h.dn (k:=g) rfl;have o:=(rl_ h.dn g rfl).1;have t:Aa _ _ (wr.setCell _ (.bool b)):=(Aa.refl (λq=>q=g) _).setCell (p:=(A_ g i)) (λ_=>rfl) _
 have a:∀k d ty,wr.heap[k]? =some (.cells d ty (0,0))->ty≠4->¬k=g:=λk d ty hk hty e=>w_
 have f:Ev (wr.setCell (A_ g i) (.bool b)) w.heap.size (L_ g m c) (dl.set i b):=(by have j:=h.dn;unfold Ev at j ⊢;rw[l] at j;rw[List.length_set,l,List.map_set];exact(World.ownsRow.stored j i _).1);exact⟨h.tch.setCell (p:=(A_ g i)) (λhlt=>by simp at hlt;omega) _,t.at_ h.ds (a _ _ _ h.ds d_),h.bu.touch t (λk d ty hk hty _=>a k _ _ hk w_),t.row h.cf (λk hk=>by obtain⟨d,s⟩:=Ad h.cf hk;grind),h.ap,f,h.lt⟩
def Tb.grow{q c b u L}(h:Tb w wr db n vF (L_ q Fs.length c) vC vX vc vd bvs Fs cs dl)(r:b<Fs.length)(g:wr.grownBy wr' (bvs.getD b Cz).ownBlock)(z:Ag wr' w.heap.size u (Av L))(v:u.ownBlock=(bvs.getD b Cz).ownBlock∨u.ownBlock=some wr.heap.size):Tb w (wr'.setCell (A_ q b) u) db n vF (L_ q Fs.length c) vC vX vc vd (bvs.set b u) (Fs.set b L) cs dl:=by
 have j:b<(Fs.map Av).length:=w_;have l:=h.bu.each b j;have t:=(Aa.refl _ _).grown g (λk hk _=>hk);have y:Mg wr w.heap.size (L_ q (Fs.map Av).length c) bvs (Fs.map Av):=(by rw[List.length_map];exact h.bu);have s:=y.grow j g z v;rw[List.length_map] at s;have d:∃a,wr'.heap[q]? =some (.cells a 25 (0,0)):=by have B:=World.ownsRow.kept h.bu.row g (An l h.bu.row d_);exact Ad B (k:=q) rfl
 obtain⟨a,d⟩:=d;have o:=(rl_ h.bu.row q rfl).1;have f:Ty _ _ n _ _ _ _:=t.at_ h.ds (λe=>by obtain⟨C,x⟩:=Ad l e;exact h.ds.ne x d_ rfl);have A:Aa _ _ (wr'.setCell _ u):=(Aa.refl (λk=>k=q) _).setCell (p:=(A_ q b)) (λ_=>rfl) _;refine⟨(h.tch.grown g (λk hk hlt=>by have:=(rl_ l k hk).1;omega)).setCell (p:=(A_ q b)) (λhlt=>by simp at hlt;omega) _,A.at_ f (λe=>f.ne d d_ e.symm),by rw[List.map_set];exact s,?_,λi hi=>?_,?_,h.lt⟩;exact As (Ag.kept h.cf g ((h.ap b r).symm.keeps)) d d_
 ·rw[List.length_set] at hi
  by_cases e:i=b
  subst e;have m:(bvs.set i u).getD i Cz=u:=(by have:=h.bu.len;grind);rw[m];exact(Ch.moved (h.ap i r).symm h.cf v).symm;have m:(bvs.set b u).getD i Cz=bvs.getD i Cz:=w_;rw[m];exact h.ap i hi
 exact As (World.ownsRow.kept h.dn g (An l h.dn d_)) d d_
def Tb.conf{g c b m z}(h:Tb w wr db n vF vB vC vX (L_ g m c) vd bvs Fs cs dl)(s:cs.length=m):Tb w (wr.setCell (A_ g b) (I_ (z:Nat))) db n vF vB vC vX (L_ g m c) vd bvs Fs (cs.set b z) dl:=by
 obtain⟨l,u⟩:=Ad h.cf (k:=g) rfl;have j:=(rl_ h.cf g rfl).1;have t:Aa _ _ (wr.setCell _ (I_ (z:_))):=(Aa.refl (λq=>q=g) _).setCell (p:=(A_ g b)) (λ_=>rfl) _
 have f:∀k d ty,wr.heap[k]? =some (.cells d ty (0,0))->ty≠3->¬k=g:=λk d ty hk hty e=>w_
 have a:=(Ag.put h.cf (k:=b) (by rw[Aw];exact s.symm) (z:Int)).1;have e:(Av cs).set b z=Av (cs.set b z):=(by unfold Av;rw[List.map_set]);rw[e] at a
 have r:Mg _ _ _ _ _:=
  ⟨t.row h.bu.row (λk hk=>by obtain⟨d,o⟩:=Ad h.bu.row hk;grind),λi hi=>t.row (h.bu.each i hi) (λk hk e=>by
   have:=h.ap i w_;subst e
   rcases this with e|e|e
   simp[Value.ownBlock] at e
   ·grind
   exact e (by rw[hk];rfl)),h.bu.apart⟩
 exact⟨h.tch.setCell (p:=(A_ g b)) (λhlt=>by simp at hlt;omega) _,t.at_ h.ds (f _ _ _ h.ds d_),r,a,h.ap,t.row h.dn (λk hk=>by obtain⟨d,o⟩:=Ad h.dn hk;grind),h.lt⟩
def Tb.newB{u vB' L}(h:Tb w wr db n vF vB vC vX vc vd bvs Fs cs dl)(l:Ag wr w.heap.size u (Av L))(m:∀i,i<Fs.length->Ch (bvs.getD i Cz) u)(q:Ch vc u)(g:wr.grownBy wr' vB.ownBlock)(r:wr'.ownsRow w.heap.size 25 1 vB' (Fs.length+1) (bvs++[u])):Tb w (wr'.setCell (A_ db 2) vB') db n vF vB' vC vX vc vd (bvs++[u]) (Fs++[L]) cs dl/\Ty wr' db n vF vB vC vX:=by
 have t:=(Aa.refl _ _).grown g (λk hk _=>hk);have a:Ty _ _ n _ _ _ _:=t.at_ h.ds (λe=>by obtain⟨j,o⟩:=Ad h.bu.row e;exact h.ds.ne o d_ rfl);have f:=h.bu.more (L:=Av L) l (λi hi=>m i w_) g (by rw[List.length_map];exact r);have b:Aa _ _ (wr'.setCell _ vB'):=(Aa.refl (λk=>k=db) _).setCell (p:=(A_ db 2)) (λ_=>rfl) _;have d:=h.bu.len;rw[List.length_map] at d;refine⟨⟨(h.tch.grown g (λk hk hlt=>by have:=(rl_ h.bu.row k hk).1;omega)).setCell (p:=(A_ db 2)) (λ_=>rfl) _,ht_ 2 _ _ _ a,?_,?_,λi hi=>?_,?_,h.lt⟩,a⟩;rw[List.map_append];exact f.touch b (λk j ty hk hty _=>a.ne hk w_);exact As (Ag.kept h.cf g (An h.bu.row h.cf d_)) a d_
 ·rw[Qe,List.length_singleton] at hi
  by_cases e:i<Fs.length
  have c:(bvs++[u]).getD i Cz=bvs.getD i Cz:=w_;rw[c];exact h.ap i e
  grind
 exact As (World.ownsRow.kept h.dn g (An h.bu.row h.dn d_)) a d_
def Tb.newC{a}{z:Nat}(h:Tb w wr db n vF vB vC vX vc vd bvs Fs cs dl)(g:wr.grownBy wr' vc.ownBlock)(f:Ag wr' w.heap.size a (Av cs++[(z:Int)]))(d:a.ownBlock=vc.ownBlock∨a.ownBlock=some wr.heap.size):Tb w wr' db n vF vB vC vX a vd bvs Fs (cs++[z]) dl:=by have t:=(Aa.refl _ _).grown g (λk hk _=>hk);have b:Ty _ _ n _ _ _ _:=t.at_ h.ds (λe=>by obtain⟨j,c⟩:=Ad h.cf e;exact h.ds.ne c d_ rfl);refine⟨h.tch.grown g (λk hk hlt=>by have:=(rl_ h.cf k hk).1;omega),b,⟨World.ownsRow.kept h.bu.row g (An h.cf h.bu.row d_),λi hi=>Ag.kept (h.bu.each i hi) g (h.ap i w_).keeps,h.bu.apart⟩,by unfold Av at *;grind,λi hi=>Ch.moved (h.ap i hi) (h.bu.each i w_) d,World.ownsRow.kept h.dn g (An h.cf h.dn d_),h.lt⟩
end
def Cl a b:strOfNums a++strOfNums b=strOfNums (a++b):=by apply ByteArray.ext;simp[strOfNums]
def ja n:Ba n 1=[n%256]:=rfl
theorem ZbX L p:∀k,k<=L.length->kv (L++[p]) k=kv L k
 |0,_=>rfl
 |k+1,h=>by have e1:(L++[p]).getD k (0,0)=L.getD k (0,0):=w_;have e2:Ek (L++[p]) k=Ek L k:=(by grind [Ek]);simp only[kv];rw[ZbX L p k o_,e1,e2]
def ZiN L p:kv (L++[p]) (L.length+1)=kv L L.length++[(p.1-Ek L L.length)%256,p.2%256]:=by grind [Ek,kv,ZbX]
theorem eu L p:Ek (L++[p]) (L.length+1)=p.1:=by unfold Ek;simp[List.getD]
theorem ZiL N:∀k,k<=N.length->(Fu N k).length=Dj ((nzL N).take k)
 |0,_=>by simp[Fu,Dj]
 | k +1,h=>by
  have hk:k<(nzL N).length:=by rw[Vm];omega
  have e:(nzL N)[k]=decide (N.getD k 0≠0):=by
   have:=Zbr (N:=N) (k:=k) o_
   grind
  rw[Qi hk,My,<- ZiL N k o_,e];simp only[Fu]
  grind
def Zkx N:(Fu N N.length).length=nzN N:=by grind [ZiL,nzN,Vm]
def Zat N:∀k,-1<=Ek (Fu N k) (Fu N k).length/\Ek (Fu N k) (Fu N k).length<k
 |0=>by simp[Fu,Ek]
 | k+1=>by
  have:=Zat N k
  grind [Fu,eu]
def Zcu:∀g:Fin 64,∀b:Fin 7,b.val<Lib.bitLen g.val->0<g.val/2^b.val:=by decide+kernel
def Zds f a T (h:f T=0):Cd f a (T+1)=Cd f a T:=by
 have:=Xm f a T;rw[<- this,fm,h,Nat.zero_mul,Nat.add_zero];apply List.ext_getElem;simp
 grind [Cd]
def Zf1 a (c g:Nat) N w (h:NuV w a N)(hn:N.length<=200)(hg:g<64)(hv:∀r,N.getD r 0<=1000000):C_ 136 #[.slice a N.length c,.int .i64 g] w λe w'=>e=.returned (.string (strOfNums (Kz N g)))/\Below w.heap.size w w':=by
 have HN:=x1_ h;have HV:=x1_ hv;have I:Hid (Kz N g=if 4*(Fu N N.length).length<N.length then zv (Fu N N.length) else 100::Cd (Dr N (Lib.bitLen g)) ((N.length*Lib.bitLen g+7)/8) (N.length*Lib.bitLen g)):=(by show _=_;rw[Zkx];rfl);obtain⟨n,O⟩:=ey_ N.length;have HL:=x1_ O;have U:=x1_ (Vy N);rw[O] at hn I ⊢;clear h hv O;go_enter Tryz.func136,Tryz.ntmps136;go_upto_region 5 with fail;go_loopw [5,6,7,8] (λt5 t6 t7 t8 wr=>∃(r:Nat) (S:ByteArray),t5=.int .i64 ((Fu N r).length:Nat)/\t6=.string S/\t7=.int .i64 (Ek (Fu N r) (Fu N r).length)/\t8=.int .i64 r/\r<=n/\Hid (S=strOfNums (kv (Fu N r) (Fu N r).length))/\Hid (E_ w wr)) (λ_ _ _ t8 _=>n-(intOf t8).toNat)
 case atStart=>exact⟨0,_,rfl,rfl,rfl,rfl,qg_,rfl,bz_⟩
 case round=>
  obtain⟨r,S,rfl,rfl,rfl,rfl,hr,F,m⟩:=hrel
  by_cases hin:r<n
  ·have g1:r<(n:Int):=o_;have g0:0<=(r:Int):=o_;obtain⟨q,rfl,E⟩:=HN r (by rw[HL];exact hin);have V:=Ac m E;have hx:=HV r;have Y:Hid (Fu N (r+1)=_++_):=rfl;obtain⟨x,s⟩:=ey_ (N.getD r 0);rw[s] at E V hx Y;have a2:=World.block_lt_of_cell? _ _ E;clear s;have ha:=Zat N r;have a1:=U r
   by_cases hx0:x=0
   ·subst hx0;have G:Hid (Fu N (r+1)=Fu N r):=w_;clear Y;refine rd_ ?_;exact⟨r+1,S,by rw[G],rfl,by rw[G],g_,o_,by rw[G];exact F,m⟩
   have G:Hid (Fu N (r+1)=Fu N r++[(r,x)]):=w_;have b9:¬(x:Int)=0:=o_;clear Y;obtain⟨L,hL⟩:=ey_ (Fu N r);have bF:=x1_ hL;rw[hL] at ha a1 F G ⊢;clear hL;obtain⟨la,X⟩:=ey_ (Ek L L.length);have aL:=x1_ X;rw[X] at ha ⊢;clear X;obtain⟨d,hd⟩:∃d:Nat,r-la=d:=⟨((r:Int)-la).toNat,o_⟩;have q1:_=(d:Int):=Cb o_ o_;have a5:Hid (∀W,E_ w W->C_ 135 #[_,.int .i64 1] W λe w'=>_/\_):=λW hW=>(Qw _ d 1 W o_ o_ (.inl ⟨o_,rfl⟩)).mono (λ_ _ h=>⟨h.1,hW.trans (h.2.mono hW.size)⟩);have o:Hid (∀W,E_ w W->C_ 135 #[_,.int .i64 1] W λe w'=>_/\_):=λW hW=>(Qw _ x 1 W o_ o_ (.inl ⟨o_,rfl⟩)).mono (λ_ _ h=>⟨h.1,hW.trans (h.2.mono hW.size)⟩)
   have aR:S.size<=2000:=by rw[F,Br,Vz];omega
   have aD:(strOfNums (Ba d 1)).size=1:=(by rw[Br];rfl);have aM:(strOfNums (Ba x 1)).size=1:=by rw[Br];rfl
   have aX:Hid (strOfNums (kv (L++[(r,x)]) (L++[(r,x)]).length)=S++strOfNums (Ba d 1)++strOfNums (Ba x 1)):=(by show _=_;rw[Qe,List.length_singleton,ZiN,aL,hd,F,Cl,Cl,ja,ja,List.append_assoc];rfl);have aT:Hid (Ek (L++[(r,x)]) (L++[(r,x)]).length=r):=(by show _=_;rw[Qe,List.length_singleton,eu]);have aN:Hid ((L++[(r,x)]).length=L.length+1):=(by show _=_;simp);generalize strOfNums (Ba (d:Nat) 1)=s1,strOfNums (Ba (x:Nat) 1)=s2,L.length=ll at *;have z1:¬9223372036854775807<S.size+s1.size:=o_;have z2:¬9223372036854775807<S.size+s1.size+s2.size:=o_;clear aD aM;go_upto_region 9 with fail;have A:=m.out;go_cut [6] (λv wx=>v=.string (S++s1++s2)/\Hid (E_ w wx))
   case first=>
    refine Al (λw'=>w'.cell? _=some _) 12 k_ V (λhHeld=>?_);refine Ah 0 ?_;refine Ah 1 ?_;refine Ah 2 ?_;refine Ah 3 ?_;refine Ah 6 ?_;refine Ah 7 ?_;refine Ah 8 ?_;refine Tx [10,11,12] 9 (v:=?_) ?_ ?_
    rotate_left;· intro w aK;go_simp;try with_reducible rfl
    try simp only[Act.put,sA,sB,sC]
    refine Af (i:=4) k_ rfl (λKK hK=>?_);go_simp;refine(a5 _ A.drew).mono ?_;rintro e w2 ⟨rfl,t⟩;go_simp;refine hK _ _ ((t.cell (p:=(A_ q r)) a2).trans E) (λhHeld=>?_);clear hK KK;try simp only[Act.put,sA,sB,sC]
    refine Ah 5 ?_;refine Af (i:=10) k_ rfl (λKK hK=>?_);go_simp;refine(o _ t).mono ?_;rintro e w3 ⟨rfl,b3⟩;go_simp;refine hK _ _ ((b3.cell (p:=(A_ q r)) a2).trans E) (λhHeld=>?_);clear hK KK;try simp only[Act.put,sA,sB,sC]
    refine Ah 11 ?_;refine Ai (i:=12) k_ rfl k_ (λKK hK=>?_);go_simp;refine hK _ _ ?_;clear hK KK;try simp only[Act.put,sA,sB,sC]
    refine Ak k_ ?_ _;go_wp2;go_meet
    grind
   case rest=>
   obtain⟨rfl,M⟩:=hcut;clear m A a5 o V;refine rd_ ?_;exact⟨r+1,_,by rw[G,aN];go_num,rfl,by rw[G,aT],g_,o_,by rw[G];exact aX.symm,M⟩
  have aY:r=n:=o_;subst aY;have bG:¬r<(r:Int):=o_;have a1:=U r;clear U
  by_cases h4:4*(Fu N r).length<r
  ·have D:Hid (Kz N g=zv (Fu N r)):=w_;have H:Hid (strOfNums (zv (Fu N r))=({data:=#[115]}:ByteArray)++strOfNums (Ba (Fu N r).length 1)++S):=(by show _=_;rw[F,show({data:=#[115]}:ByteArray)=strOfNums [115] from rfl,Cl,Cl];rfl);have HP:=Qw ((Fu N r).length:Nat) (Fu N r).length 1;have aR:S.size<=2000:=by rw[F,Br,Vz];omega
   have aD:(strOfNums (Ba (Fu N r).length 1)).size=1:=(by rw[Br];rfl);have z1:¬9223372036854775807<1+(strOfNums (Ba (Fu N r).length 1)).size:=o_;have z2:¬9223372036854775807<1+(strOfNums (Ba (Fu N r).length 1)).size+S.size:=o_;generalize strOfNums (Ba ((Fu N r).length:Nat) 1)=s1,(Fu N r).length=ll at *;have aE:4*ll<(r:Int):=o_;have o:Hid (∀W,Calls _ 135 #[_,I_ 1] W λe w'=>_):=λW=>HP W o_ o_ (.inl ⟨o_,rfl⟩);clear HP I F h4;go_wp2_with fail
   refine(o _).mono ?_;rintro e w2 ⟨rfl,t⟩;have M:=x1_ (m.trans (t.mono m.size));clear t m o;go_wp2;go_ret;exact⟨by rw[D,H];rfl,M⟩
  have D:Hid (Kz N g=100::Cd (Dr N (Lib.bitLen g)) ((r*Lib.bitLen g+7)/8) (r*Lib.bitLen g)):=w_;have aO:=Re hg;have aW:=rq hg;have a8:Hid (∀b,b<Lib.bitLen g->0<g/_):=λb hb=>Zcu ⟨g,hg⟩ ⟨b,o_⟩ hb;generalize Lib.bitLen g=d at *;have aE:¬4*(Fu N r).length<(r:Int):=o_;generalize (Fu N r).length=ll at *;clear I F h4;generalize wr=w1 at *;go_upto_region 14 with fail;go_loopw [9] (λt9 wr=>∃b:Nat,t9=.int .i64 b/\b<=d/\Hid (w1=wr)) (λt9 _=>d-(intOf t9).toNat)
  case atStart=>exact⟨0,rfl,qg_,rfl⟩
  case round=>
   obtain⟨b,rfl,hb,hw⟩:=hrel;have aQ:=hw.out;subst aQ;clear hw
   by_cases hbd:b<d
   ·have aU:0<=(b:Int):=o_;have aJ:(b:Int)<64:=o_;have hp:=a8 b hbd;have aG:0<(g:Int)/2^b:=w_;clear hp;refine rd_ ?_;exact⟨b+1,g_,o_,True.intro⟩
   have a6:b=d:=o_;subst a6;have aU:0<=(b:Int):=o_;have aJ:(b:Int)<64:=o_
   have aG:¬0<(g:Int)/2^b:=(by grind [Nat.div_eq_of_lt]);obtain⟨P,hP⟩:=ey_ (r*b);have bN:P<=1200:=(by rw[<- hP];exact Nat.mul_le_mul hn aO);have aZ:r*b=(P:Int):=(by rw[<- hP];simp);obtain⟨f,a3⟩:=ey_ ((P+7)/8);have q1:((P:Int)+7).tdiv 8=f:=w_;have q2:(P+7)/8=(f:Int):=o_;have b5:=Tt f o_;have C:Hid (_/\P<=8*f/\f<=200):=⟨hP,o_,o_⟩;rw[hP,a3] at D;clear hP a3 a8 aW;go_upto_region 17 with fail;have HO:Hid (Bj (w1.alloc (.cells (madeCells #[.int .u8 0] f) 5)) w1.heap.size (L_ w1.heap.size f f) (Cd (Dr N b) f 0)/\E_ w (w1.alloc (.cells (madeCells #[.int .u8 0] f) 5))):=by refine⟨?_,m.alloc m.size _⟩;rw[jm];exact Tr _ _ _ o_ qa_
   have aP:=m.size;clear b5 q1 q2 aG aE m aZ;generalize w1.alloc (.cells (madeCells #[.int .u8 0] f) 5)=w2,w1.heap.size=q at *;go_upto_region 18 with fail;go_loopw [11] (λti wr=>∃i:Nat,ti=.int .i64 i/\i<=r/\Hid (Bj wr q (.slice (some ⟨q,0,none⟩) f f) (Cd (Dr N b) f (i*b))/\E_ w wr)) (λti _=>r-(intOf ti).toNat)
   case atStart=>grind
   case round=>
    clear HO;obtain⟨i,rfl,hi,j⟩:=hrel
    by_cases hir:i<r
    ·have i0 :0<=(i:Int):=o_;have i1:i<(r:Int):=o_;obtain⟨qn,rfl,E⟩:=HN i (by rw[HL];exact hir);have aS:=World.block_lt_of_cell? _ _ E;have hx:=HV i;obtain⟨Q,hQ⟩:=ey_ (i*b);have bD:i*b=(Q:Int):=by rw[<- hQ];simp
     have bB:Q+b<=P:=by
      rw[<- hQ,<- C.1];have:(i+1)*b<=r*b:=Nat.mul_le_mul_right _ hir
      grind
     have aC:Hid (∀k,_->Dr N b (Q+k)=_%2):=λk hk=>by rw[<- hQ];exact Zav N hk
     have HQ:=x1_ hQ;rw[hQ] at j;clear hQ;obtain⟨x,s⟩:=ey_ (N.getD i 0);rw[s] at E hx aC;clear s;generalize wr=w3 at *;go_upto_region 21 with fail;go_loopw [12] (λtk wr=>∃k:Nat,tk=.int .i64 k/\k<=b/\Hid (Bj wr q (.slice (some ⟨q,0,none⟩) f f) (Cd (Dr N b) f (Q+k))/\E_ w wr)) (λtk _=>b-(intOf tk).toNat)
     case atStart=>exact⟨0,rfl,qg_,j⟩
     case round=>
      clear j;obtain⟨k,rfl,hk,j⟩:=hrel
      by_cases hkb:k<b
      ·have k0:0<=(k:Int):=o_;have k1:k<(b:Int):=o_;have k2:(k:Int)<64:=o_;have cx:=(j.2.cell (p:=(A_ qn i)) aS).trans E;have l:=aC k hkb;have b6:=C.out;have e1:((x:Int)/2^k).tmod 2=(x/2^k%2:Nat):=by rw[show((x:Int)/2^k)=((x/2^k:Nat):Int) by simp];rfl
       rcases Nat.mod_two_eq_zero_or_one (x/2^k) with A|a7
       ·rw[A] at l e1;have HF:Hid (Cd _ f (Q+(k+1))=Cd _ _ (Q+k)):=Zds _ _ _ l;clear A l;refine rd_ ?_;exact⟨k+1,g_,o_,by rw[HF];exact j⟩
       rw[a7] at l e1;obtain⟨T,Z⟩:=ex_ (Q+k);obtain⟨J,hJ⟩:=ex_ (T/8);obtain⟨R,hR⟩:=ex_ (T%8);have a0:J<f:=o_;obtain⟨B,aA⟩:=j.1.cellK (k:=J) (by rw[Gp]) a0;rw[Tw _ _ a0] at B;obtain⟨y,hy⟩:=ex_ (Hd (Dr N b) (Q+k) J);have aI:y<2^R:=(by rw[hy,hJ,hR,<- Z];exact fp (Uj N b) T);have bM:R<8:=o_
       have aH:2^R<=128:=by
        have:(2:Nat)^R<=2^7:=Nat.pow_le_pow_right d_ o_
        simpa using this
       obtain⟨z,hz⟩:=ex_ (2^R);obtain⟨u,hu⟩:=ex_ (y+z);have aB:Hd (Dr N b) (Q+k+1) J=u:=by rw[hu,hz,hy,hJ,hR,<- Z,fm,Z,l,Nat.one_mul]
       have a9:Hid ((Cd (Dr N b) f (Q+k)).set J u=Cd (Dr N b) f (Q+(k+1))):=by show _=_;rw[<- aB];have:=Xm (Dr N b) f (Q+k);rw[<- Z,<- hJ,Z] at this;exact this
       have t1:Q+k=(T:Int):=o_;have t2:(T:Int).tdiv 8=J:=(by rw[Int.tdiv_eq_ediv_of_nonneg o_];omega);have t3:T/8=(J:Int):=o_;have t4:(T:Int).tmod 8=R:=(by rw[Int.tmod_eq_emod_of_nonneg o_];omega);have t5:T%8=(R:Int):=o_
       have t6:IntKind.u8.wrap (1*2^R)=z:=by
        rw[Int.one_mul,Wf _ (by have:(0:Nat)<=2^R:=qg_;exact_mod_cast this) (by
         have:((2:Int)^R)=((2^R:Nat):Int):=s_
         rw[this];omega)]
        rw[hz];simp
       have bI:IntKind.u8.wrap (2^R)=z:=(by rw[<- t6,Int.one_mul]);have t7:IntKind.u8.wrap (y+z)=u:=by rw[Wf _ o_ o_];omega
       have t8:_=(J:Int):=Cb o_ o_;have t9:_=(T:Int):=Cb o_ o_;have bE:0<=(R:Int):=o_;have bO:(R:Int)<=8:=o_;have b8:0<=(J:Int):=o_;have bL:J<(f:Int):=o_;have bT:(T:Int)<=1300:=o_;rw[<- hy] at B;have d1:wr.drew.cell? _=_:=B;have fq:wr.drew.frozen? _=_:=aA;clear a7 l Z hJ hR B aA hy aI hz hu aB aH;go_upto_region 25 with fail;refine Al (λw'=>w'.cell? _=some _) 13 k_ d1 (λhHeld=>?_);refine Ah 0 ?_;refine Ah 1 ?_;refine Ah 2 ?_;refine Ah 3 ?_;refine Ah 4 ?_;refine Ah 5 ?_;refine Ah 6 ?_;refine Tx [11,12,13] 7 (v:=?_) ?_ ?_
       rotate_left;· intro w aK;go_simp;try with_reducible rfl
       try simp only[Act.put,sA,sB,sC]
       refine Ah 8 ?_;refine Ah 9 ?_;refine Ah 10 ?_;refine Ah 11 ?_;refine Ah 12 ?_;refine Ai (i:=13) k_ rfl k_ (λKK hK=>?_);go_simp;refine hK _ _ ?_;clear hK KK;try simp only[Act.put,sA,sB,sC]
       refine Ak k_ ?_ _;have aV:Hid (Bj (wr.setCell (A_ q J) (.int .u8 u)).drew q (L_ q f f) (Cd (Dr N b) f (Q+(k+1)))/\E_ w (wr.setCell (A_ q J) (.int .u8 u)).drew):=(by rw[<- a9];exact⟨World.ownsRow.drew (j.1.put (by rw[Gp]) _).1,(j.2.setCell (p:=(A_ q J)) aP _).drew⟩);clear j hHeld d1 fq cx;refine rd_ ?_;exact⟨k+1,g_,o_,aV⟩
      have a4:k=b:=o_;subst a4;have bA:¬k<(k:Int):=o_
      have HF:Hid (Bj wr q (L_ q f f) (Cd (Dr N k) f ((i+1)*k))/\E_ w wr):=(by have:(i+1)*k=Q+k:=(by rw[Nat.add_mul,Nat.one_mul,HQ]);rw[this];exact j);clear j;refine rd_ ?_;exact⟨i+1,g_,o_,HF⟩
    have aF:i=r:=o_;subst aF;have bK:¬i<(i:Int):=o_;have b7:=Pz _ q _ _ j.1;have HF:=x1_ j.2;have H:Hid (strOfNums (Kz N g)=({data:=#[100]}:ByteArray)++strOfNums (Cd (Dr N b) f (i*b))):=(by show _=_;rw[D,C.1,show({data:=#[100]}:ByteArray)=strOfNums [100] from rfl,Cl];rfl);have bC:(strOfNums (Cd (Dr N b) f (i*b))).size=f:=(by rw[Br,Gp]);have bH:=C.2.2;have z1:¬9223372036854775807<1+(strOfNums (Cd (Dr N b) f (i*b))).size:=o_;clear j;generalize strOfNums (Cd (Dr N b) f (i*b))=sp at *;go_wp2;go_ret;exact⟨by rw[H];rfl,HF⟩
def Ra B r j k L w (l:Ag w B j L)(p:Ag w r k L)(E:L.length<=1000000):C_ 140 #[j,k] w λe w'=>e=.returned (.bool true)/\∃m,w'=w.drewN m:=by
 obtain⟨a,c,rfl,C⟩:=l.form;obtain⟨u,F,rfl,g⟩:=p.form
 have D:Hid (∀i,i<L.length->∃b d,a=some ⟨b,0,none⟩/\u=some ⟨d,0,none⟩/\w.cell? (A_ b i)=some (I_ (L.getD i 0))/\w.cell? (A_ d i)=some (I_ (L.getD i 0))):=λi hi=>w_
 clear l p C g;generalize L.length=n at *;go_enter Tryz.func140,Tryz.ntmps140;go_upto_region 4 with fail;go_loopw [5] (λti wr=>∃(i m:Nat),i<=n/\ti=.int .i64 i/\Hid (wr=w.drewN m)) (λti _=>n-(intOf ti).toNat)
 case atStart=>exact⟨0,0,qg_,rfl,rfl⟩
 case round=>
  obtain⟨i,m,q,rfl,o⟩:=hrel;have t:=o.out;subst t;clear o
  by_cases hi:i<n
  ·have v:0<=(i:Int):=o_;have s:i<(n:Int):=o_;obtain⟨b,d,rfl,rfl,x,f⟩:=D i hi;have y:(w.drewN m).cell? (A_ b i)=some (I_ (L.getD i 0)):=(by rw[<- x];exact cb_ (below_drewN (br_ _ w) m|>.block _ (World.block_lt_of_cell? w _ x)));have G:(w.drewN m).cell? (A_ d i)=some (I_ (L.getD i 0)):=(by rw[<- f];exact cb_ (below_drewN (br_ _ w) m|>.block _ (World.block_lt_of_cell? w _ f)));clear x f;generalize L.getD i 0=z,hW:w.drewN m=w1 at *;have h:=x1_ hW;clear hW;go_upto_region 6 with fail;go_quiet (fail);refine rd_ ?_;exact⟨i+1,_,o_,g_,by rw[<- h];exact World.drewN_drewN _ _ _⟩
  have A:¬i<(n:Int):=o_;go_wp2;go_ret;exact⟨rfl,_,rfl⟩
def zt A q k l L w (h:Cc w A k L)(j:Cc w q l L)(C:L.length<=1000000):C_ 141 #[k,l] w λe w'=>e=.returned (.bool true)/\∃m,w'=w.drewN m:=by
 obtain⟨a,c,rfl⟩:=h.form;obtain⟨t,D,rfl⟩:=j.form
 have B:Hid (∀i,i<L.length->∃b d,a=some ⟨b,0,none⟩/\t=some ⟨d,0,none⟩/\w.cell? (A_ b i)=some (.string (L.getD i ⟨#[]⟩))/\w.cell? (A_ d i)=some (.string (L.getD i ⟨#[]⟩))):=λi hi=>by
  obtain⟨b,e,_,x⟩:=h.atW rfl hi ⟨#[]⟩;obtain⟨d,E,_,f⟩:=j.atW rfl hi ⟨#[]⟩
  grind
 clear h j;generalize L.length=n at *;go_enter Tryz.func141,Tryz.ntmps141;go_upto_region 4 with fail;go_loopw [5] (λti wr=>∃(i m:Nat),i<=n/\ti=.int .i64 i/\Hid (wr=w.drewN m)) (λti _=>n-(intOf ti).toNat)
 case atStart=>exact⟨0,0,qg_,rfl,rfl⟩
 case round=>
  obtain⟨i,m,p,rfl,o⟩:=hrel;have s:=o.out;subst s;clear o
  by_cases hi:i<n
  ·have u:0<=(i:Int):=o_;have r:i<(n:Int):=o_;obtain⟨b,d,rfl,rfl,x,f⟩:=B i hi;have y:(w.drewN m).cell? (A_ b i)=some (.string (L.getD i ⟨#[]⟩)):=(by rw[<- x];exact cb_ (below_drewN (br_ _ w) m|>.block _ (World.block_lt_of_cell? w _ x)));have F:(w.drewN m).cell? (A_ d i)=some (.string (L.getD i ⟨#[]⟩)):=(by rw[<- f];exact cb_ (below_drewN (br_ _ w) m|>.block _ (World.block_lt_of_cell? w _ f)));clear x f;generalize L.getD i ⟨#[]⟩=z,hW:w.drewN m=w1 at *;have g:=x1_ hW;clear hW;go_upto_region 6 with fail;go_quiet (fail);refine rd_ ?_;exact⟨i+1,_,o_,g_,by rw[<- g];exact World.drewN_drewN _ _ _⟩
  have v:¬i<(n:Int):=o_;go_wp2;go_ret;exact⟨rfl,_,rfl⟩
end Go.Proofs.YtfcgnpchbcmdeaaGreat
