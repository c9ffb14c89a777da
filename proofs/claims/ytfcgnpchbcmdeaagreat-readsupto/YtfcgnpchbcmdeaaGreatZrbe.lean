import Derived.Test.YtfcgnpchbcmdeaaGreatZrbh
namespace Go.Proofs.YtfcgnpchbcmdeaaGreat
set_option linter.all false
set_option maxRecDepth 100000
set_option maxHeartbeats 8000000
open Go.RowKit
def Ki(ss:List ByteArray):List Int:=ss.flatMap (λs=>s.size%256::Aq s)
def uy{L:List ByteArray}{k}(h:k<L.length) d:Ki (L.take (k+1))=Ki (L.take k)++((L.getD k d).size:Int)%256::Aq (L.getD k d):=by
 unfold Ki;rw[Qi h,List.flatMap_append]
 grind
def yo(k:KS):List Int:=[119,(k.d:Int)%256,k.e.cnt%256]++Ki k.e.ww
def Hb.own{d w v c}(h:Hb d w v c):Bj w d.heap.size v c:=by
 refine⟨h.ow.1,?_⟩
 rcases h.ow.2 with f|⟨g,b,a,e,_,r⟩
 exact .inl f;exact .inr ⟨g,b,a,e,h.nw g (by rw[e];rfl),r⟩
def Hb.of_own{a w v b}(d:Below a.heap.size a w)(h:Bj w a.heap.size v b):Hb a w v b:=by
 refine⟨d,⟨h.1,?_⟩,λk hk=>(rl_ h k hk).1⟩
 rcases h.2 with f|⟨g,i,c,e,_,r⟩
 exact .inl f
 grind
def Cc.atW{w b a n c L}(h:Cc w b (.slice a n c) L)(f:L.length=n){k}(j:k<n) d:∃q,a=some ⟨q,0,none⟩/\q<w.heap.size/\w.cell? (A_ q k)=some (.string (L.getD k d)):=by
 have i:=h;subst f
 rcases h.2 with⟨e,h0⟩|⟨g,cap,cur,e,_,hh,_⟩
 omega;simp only[Value.slice.injEq,true_and] at e;obtain⟨rfl,rfl⟩:=e;refine⟨g,rfl,(Qb hh).1,?_⟩;rw[World.ownsRow.cellAt i k o_]
 grind
theorem Pt b:(Aq b).length=b.size:=by unfold Aq;rw[List.length_map];rfl
def ky s:Go.Lib.strCells s=(Aq s).map (Value.int .u8):=by unfold Go.Lib.strCells Aq;rw[List.map_map];rfl
def Xd M ab aw cb cw k a c y w (V:k.e.wd=true)(hI:Cc M 0 (.slice aw k.e.ww.length cw) k.e.ww)(ho:Hb M w (.slice a y.length c) y)(aW:k.e.ww.length<=1000)(hr:∀x∈k.e.ww,x.size<=8)(hl:y.length<=900000):C_ 100 #[.agg #[.bool k.e.wd,.slice ab 0 cb,.slice aw k.e.ww.length cw,.int .i64 k.d],.slice a y.length c] w λe w'=>eo M (y++yo k) e w':=by
 rw[V];have H0:=x1_ ho;have HI:=x1_ hI;have aR:=x1_ hr;have G:k.e.cnt=k.e.ww.length:=by unfold ES.cnt Ky;rw[V];rfl
 have aQ:Hid (yo k=[119,(k.d:Int)%256,k.e.ww.length%256]++Ki k.e.ww):=by show _=_;unfold yo;rw[G]
 have aT:Hid (∀W:_,Calls _ 169 _ W λe w'=>e=.returned (.int _ ((k.e.ww.length:Nat):Int))/\_):=λW=>Wo true ab aw 0 cb _ cw W;obtain⟨i0,D,Z,a1,Y⟩:=info_parts Nc;have aE:Hid _:=ho.ow;clear hI ho hr V G;generalize k.d=d,hbl:y.length=bl,hnb:k.e.ww.length=nb at *;have C:=x2_ hbl hnb;clear hbl hnb;go_enter Tryz.func100,Tryz.ntmps100;go_upto_region 4 with fail;generalize hW1:w.alloc (.cells #[.bool true,.slice ab 0 cb,.slice aw nb cw,I_ (d:Nat)] 172)=w1;have aJ:E_ w w1:=(by rw[<- hW1];exact bA_);have h:w1.heap[w.heap.size]? =some (.cells #[.bool true,.slice ab 0 cb,.slice aw nb cw,I_ d] 172 (0,0)):=(by rw[<- hW1];exact hn_);have l:=(Qb h).1;have x0:=cR_ 0 h;have x1:=cR_ 1 h;have x2:=cR_ 2 h;have x3:=cR_ 3 h
 have a3:=x2_ h aJ;clear hW1 aJ h;refine Al (λw'=>w'.cell? _=some _/\w'.cell? _=some _/\w'.cell? _=some _/\w'.cell? _=some _) 11 k_ ⟨x0,x1,x2,x3⟩ (λhHeld=>?_);refine Ah 0 ?_;refine Ah 1 ?_;refine Ah 2 ?_;refine Tx [4,9,10,11] 3 (v:=?_) ?_ ?_
 rotate_left
 ·intro w P;try obtain⟨_,_,_,_⟩:=P
  go_simp;try with_reducible rfl
 try simp only[Act.put,sA,sB,sC]
 refine Ah 4 ?_;refine Ah 5 ?_;refine Tx [7,8,9,10,11] 6 (v:=?_) ?_ ?_
 rotate_left
 ·intro w P;try obtain⟨_,_,_,_⟩:=P
  go_simp;try with_reducible rfl
 try simp only[Act.put,sA,sB,sC]
 refine Af (i:=7) k_ rfl (λKK hK=>?_);go_simp;refine(aT _).mono ?_;rintro e H ⟨rfl,a9⟩;have b:=(br_ w1.heap.size _).drew.trans a9;have y0:=(b.cell (p:=(A_ w.heap.size 0)) l).trans x0;have y1:=(b.cell (p:=(A_ w.heap.size 1)) l).trans x1;have y2:=(b.cell (p:=(A_ w.heap.size 2)) l).trans x2;have y3:=(b.cell (p:=(A_ w.heap.size 3)) l).trans x3;have g:=Qh l b.size;go_simp;refine hK _ _ ⟨y0,y1,y2,y3⟩ (λhHeld=>?_);clear hK KK a9;try simp only[Act.put,sA,sB,sC]
 refine Ah 8 ?_;refine Af (i:=9) k_ rfl (λKK hK=>?_);go_simp;refine hK _ _ ⟨(Below.cell (B:=H.heap.size) (p:=(A_ w.heap.size 0)) bA_ g).trans y0,(Below.cell (B:=H.heap.size) (p:=(A_ w.heap.size 1)) bA_ g).trans y1,(Below.cell (B:=H.heap.size) (p:=(A_ w.heap.size 2)) bA_ g).trans y2,(Below.cell (B:=H.heap.size) (p:=(A_ w.heap.size 3)) bA_ g).trans y3⟩ (λhHeld=>?_);clear hK KK;try simp only[Act.put,sA,sB,sC]
 refine Af (i:=10) k_ rfl (λKK hK=>?_);have o:=a3.2.trans (b.mono (Nat.le_of_lt l));refine Az rfl (.tmp 13) (.tmp 22) 66 rfl 0 5 i0 (.int .u8 0) 1 1 Tryz.underlying66 D Z a1 Y rfl d_ (.slice a bl c) bl (y.map (Value.int .u8)) j_ (ra_ (w:=H) ((Aa.of_below (S:=λ_=>False) o).row aE (λ_ _=>id)) _) (A_ H.heap.size 0) 3 3 [.int .u8 119,.int .u8 ((d:Int)%256),.int .u8 ((nb:Int)%256)] j_ rfl (Am H _ 5) (by intro u hu;simp at hu;rcases hu with rfl|rfl|rfl<;>rfl) d_ m_ o_ s_ ?_;intro v6 w6 H6;obtain⟨r6,g6,aK,_,q6,p6,aV⟩:=H6;have I:Below _ w (H.alloc (.cells #[.int .u8 119,.int .u8 ((d:Int)%256),.int .u8 ((nb:Int)%256)] 5)):=o.alloc o.size _
 have aB:=Ec.pre I (Ec.of_mark g6 aK qa_);have a7:Bj _ 0 _ (_++[_,_,_]):=Bj.more (n:=3) (by rw[C.1];exact r6) rfl
 have t:=(g6.block _ t_ (λe=>by
  have:=(rl_ aE _ e.symm).2
  omega)).trans ((hc_ g).trans ((b.block _ l).trans a3.1))
 have h0:=H0.out;have N:=x2_ (h0.app a7 aB) t;have z0:=cR_ 0 t;have z1:=cR_ 1 t;have z2:=cR_ 2 t;have z3:=cR_ 3 t;subst aV;clear r6 g6 aK I aB a7 t h0 y0 y1 y2 y3 o;refine hK _ _ ⟨z0,z1,z2,z3⟩ (λhHeld=>?_);clear hK KK;try simp only[Act.put,sA,sB,sC]
 refine Ai (i:=11) k_ rfl k_ (λKK hK=>?_);go_simp;refine hK _ _ ?_;clear hK KK;try simp only[Act.put,sA,sB,sC]
 refine Ak k_ ?_ _;clear x0 x1 x2 x3 hHeld;have e1:=cR_ 1 N.2;clear z0 z1 z2 z3 hHeld;go_wp2_with fail
 go_loopw [1,28] (λtv ti wr=>tv=.slice (some ⟨q6,0,none⟩) (bl+3) p6/\ti=.int .i64 0/\Hid (w6=wr)) (λ_ _ _=>0)
 case atStart=>exact⟨rfl,rfl,rfl⟩
 case round=>
  obtain⟨rfl,rfl,hw⟩:=hrel;have aL:=hw.out;subst aL;clear hw;have e2:=cR_ 2 N.2;go_wp2_with fail
  go_loopw [1,40] (λtv ti wr=>∃(j:Nat) (aj:Option Addr) (cj:Nat) (r:List Int),tv=.slice aj r.length cj/\ti=.int .i64 j/\j<=nb/\Hid (r=y++[119,(d:Int)%256,(nb:Int)%256]++Ki (k.e.ww.take j))/\r.length<=bl+3+9*j/\Hid (Hb M wr (.slice aj r.length cj) r/\wr.heap[w.heap.size]? =some (.cells #[.bool true,.slice ab 0 cb,.slice aw nb cw,.int .i64 (d:Nat)] 172 (0,0)))) (λ_ ti _=>nb-(intOf ti).toNat)
  case atStart=>
   have aU:(y++[119,(d:Int)%256,nb%256]).length=bl+3:=(by rw[Qe,C.1];rfl);refine⟨0,some _,p6,y++[119,(d:Int)%256,(nb:Int)%256],by rw[aU],rfl,qg_,?_,o_,?_⟩;show _=_;rw[List.take_zero];simp[Ki]
   grind
  case round=>
   clear N e2 e1;obtain⟨j,aj,cj,r,rfl,rfl,hj,a0,aN,E⟩:=hrel;have b3:=(Qb E.2).1
   by_cases hjl:j<nb
   ·have aS:j<k.e.ww.length:=(by rw[C.2];exact hjl);have aH:=HI.below E.1.bl;obtain⟨q,hq,b6,y0⟩:=aH.atW C.2 hjl ⟨#[]⟩;subst hq;have a8:(k.e.ww.getD j ⟨#[]⟩).size<=8:=aR _ w_;have HX:Hid (y++[119,(d:Int)%256,nb%256]++Ki (k.e.ww.take (j+1))=(r++[((k.e.ww.getD j ⟨#[]⟩).size:Int)%256])++Aq (k.e.ww.getD j ⟨#[]⟩)):=by show _=_;rw[uy aS ⟨#[]⟩,a0];simp
    clear aH;generalize k.e.ww.getD j ⟨#[]⟩=x at *;obtain⟨J,R⟩:=ex_ r.length;have F:=x1_ R;rw[<- R] at E aN ⊢;clear R;have A:Hid (wr.ownsRow 0 5 1 (.slice aj J cj) J (r.map (Value.int .u8))):=(by have Q:=E.1.ow;unfold Bj at Q;rw[<- F] at Q;exact Q);have aX:0<=(j:Int):=o_;have b5:j<(nb:Int):=o_;have O:=x1_ a8;clear a8;obtain⟨sx,aA⟩:=ex_ x.size;have aZ:=x1_ aA;clear aA;go_wp2_with (at_builtin;refine Ab rfl (.tmp 44) (.tmp 48) 66 rfl 0 5 i0 (.int .u8 0) 1 1 Tryz.underlying66 D Z a1 Y rfl d_ _ J (r.map (Value.int .u8)) rfl (A.alloc _) _ 1 1 [.int .u8 _] rfl rfl (Am wr _ 5) (by intro u hu;simp at hu;subst hu;rfl) d_ m_ o_ s_ ?_)
    intro v4 w4 H4;obtain⟨r4,g4,d4,_,q4,p4,aP⟩:=H4;have aC:Bj _ 0 _ (_++[_]):=Bj.more (n:=1) (by rw[<- F];exact r4) rfl;have U:=Ec.pre bA_ (Ec.of_mark g4 d4 s_);have aF:=U.1.at_ E.2 (λe=>Au A e E.2 d_ rfl);have f:=E.1.app aC U;subst aP;have s:=x2_ f aF;have m:Hid (w4.ownsRow M.heap.size 5 1 (L_ q4 (J+1) p4) (J+1) ((r++[(x.size:Int)%256]).map (Value.int .u8))):=by have Q:=f.own;unfold Bj at Q;rw[Qe,<- F] at Q;exact Q
    have a2:=f.bl.size;have aO:x.size<=8->_:=λ_=>trivial;clear r4 g4 d4 aC U aF f A E y0 aO;obtain⟨L4,L⟩:=ex_ (r++[(x.size:Int)%256]);rw[<- L] at s m HX;have aI:Hid (L4.length=J+1):=(by show _=_;rw[L,Qe,F];rfl);clear L;go_wp2_with (at_builtin;refine Go.Lib.wpList_append_own_string _ rfl (.tmp 50) (.tmp 51) 66 9 rfl M.heap.size 5 i0 Tryz.underlying66 Tryz.underlying9 D Z a1 Y _ (J+1) _ rfl m x rfl (by have:=O.out;unfold maxLen;omega) (by have:=O.out;omega) a2 ?_)
    intro v5 w5 r5 g5 d5;have X:Bj w5 M.heap.size v5 (L4++Aq x):=(by unfold Bj;rw[Qe,aI,Pt,List.map_append,<- ky];exact r5);obtain⟨a5,c5,rfl⟩:=X.form;have T:=(Aa.refl _ _).grown g5 (λk hk _=>hk);have aG:=T.at_ s.2 (λe=>Au m e s.2 d_ rfl);have a4:=s.1.bl.trans (T.to_below a2 (λz hz=>s.1.nw z hz));have HN:=x2_ (Hb.of_own a4 X) aG;have aM:Hid ((L4++Aq x).length<=bl+3+9*(j+1)):=(by show _<=_;rw[Qe,aI,Pt];have:=O.out;omega);clear r5 g5 d5 X T aG a4 s m;generalize L4++Aq x=L5 at *;refine rd_ ?_;exact⟨j+1,a5,c5,L5,rfl,g_,o_,HX.symm,aM,HN⟩
   have aY:¬j<(nb:Int):=o_;have a6:k.e.ww.take j=_:=List.take_of_length_le (by have:=C.2;omega);have aD:r=y++yo k:=(by rw[a0,a6,aQ,List.append_assoc]);have HF:=x2_ E.1 aD;clear a6 aD a0 E;go_wp2;go_ret;refine⟨aj,cj,?_,?_⟩;rw[<- HF.2];rfl;rw[<- HF.2];exact HF.1
def ZiS{x s:ByteArray}(h:¬x=s):(x.toList==s.toList)=false:=by
 rw[beq_eq_false_iff_ne,Lib.toList_data,Lib.toList_data];intro e;apply h
 cases x;cases s
 simp at e;rw[e]
def xp{B:List Int}{r}(h:r<B.length) p:(B.take (r+1)).countP p=(B.take r).countP p+(if p (B.getD r 0)=true then 1 else 0):=by
 rw[Qi h,List.countP_append,Qc,Qd h]
 grind
def ZcY{L:List ByteArray}{s k}(h:k<L.length)(b:L.getD k ⟨#[]⟩=s)(a:∀j,j<k->L.getD j ⟨#[]⟩≠s):L.findIdx (λy=>decide (y=s))=k:=by grind [List.findIdx_eq]
def ZcZ{L:List ByteArray}{s}(a:∀j,j<L.length->L.getD j ⟨#[]⟩≠s):L.findIdx (λy=>decide (y=s))=L.length:=w_
def Ziu n vb vw d e s w (D:Ag w n vb e.bs)(J:Cc w n vw e.ww)(V:Ol e)(hx:e.wd=true->e.bs=[])(Z:e.wd=false->e.ww=[]):C_ 239 #[.agg #[.bool e.wd,vb,vw,.int .i64 d],.agg #[.bool s.miss,.int .i64 s.num,.string s.word]] w λz w'=>z=.returned (.int .i64 (Dy e s:Nat))/\Below w.heap.size w w':=by
 obtain⟨p,a,c⟩:=e;obtain⟨B,f,g⟩:=s;simp only at D J hx Z ⊢;have Y:=V.lb;have U:=V.lw;simp only at Y U;obtain⟨I,L,rfl⟩:=D.shape;obtain⟨C,F,rfl⟩:=J.form;obtain⟨v,i⟩:=ex_ ((w.alloc (.cells #[.bool p,.slice I a.length L,.slice C c.length F,I_ d] 227)).alloc (.cells #[.bool B,I_ f,.string g] 335));have H:E_ w v:=by rw[i];exact bA_.alloc s_ _
 have G:v.heap[w.heap.size]? =some (.cells #[.bool p,.slice I a.length L,.slice C c.length F,I_ d] 227 (0,0)):=(by grind [Below.heap_alloc,heap_alloc_new]);have E:v.heap[w.heap.size+1]? =some (.cells #[.bool B,I_ f,.string g] 335 (0,0)):=by have e:=ha_ (w.alloc (.cells #[.bool p,.slice I a.length L,.slice C c.length F,I_ d] 227)) (.cells #[.bool B,I_ f,.string g] 335);rw[show(w.alloc (.cells #[.bool p,.slice I a.length L,.slice C c.length F,I_ d] 227)).heap.size=w.heap.size+1 by simp,<- i] at e;exact e
 have l:=x1_ H;have W:=x1_ (D.below H);have P:=x1_ (J.below H);have A:=x1_ i;have c0:=cR_ 0 G;have c1:=cR_ 1 G;have c2:=cR_ 2 G;have d0:=cR_ 0 E;have d1:=cR_ 1 E;have d2:=cR_ 2 E;clear D J V i G E H;go_enter Tryz.func239,Tryz.ntmps239;go_upto_region 1 with fail;rw[<- A];clear A
 cases B with
 | true=>
  have r:Hid (Dy ⟨p,a,c⟩ ⟨true,f,g⟩=a.length+c.length+1):=by
   show _=_
   grind [Dy,ES.cnt,Ky]
  go_wp2;go_ret;rw[r];exact⟨g_,l⟩
 | false =>
  cases p with
  | true=>
   have R:=hx rfl;subst R;have r:Hid (Dy ⟨true,[],_⟩ ⟨false,f,_⟩=c.findIdx (λy=>decide (y=g))):=rfl;go_wp2_with fail
   go_loopw [6] (λt6 wr=>∃(k m:Nat),t6=.int .i64 k/\k<=c.length/\Hid (∀j,j<k->c.getD j ⟨#[]⟩≠g)/\wr=v.drewN m) (λt6 _=>c.length-(intOf t6).toNat)
   case atStart=>exact⟨0,0,rfl,qg_,λj hj=>o_,rfl⟩
   case round=>
    obtain⟨k,m,rfl,Q,X,o⟩:=hrel;subst o
    by_cases hin:k<c.length
    ·obtain⟨q,rfl,_,hc⟩:=P.atW rfl hin ⟨#[]⟩;have g1:k<(c.length:Int):=o_;have g2:0<=(k:Int):=o_
     by_cases heq:c.getD k ⟨#[]⟩=g
     ·have M:=x1_ (ZcY hin heq X);have e2:((c.getD k ⟨#[]⟩).toList==g.toList)=true:=(by rw[heq];simp);generalize c.getD k ⟨#[]⟩=x at *;clear heq;go_upto_region 8 with fail;go_quiet (fail);go_wp2;go_ret;rw[r,M];exact⟨rfl,below_drewN (below_drewN l _) _⟩
     have e2:=ZiS heq
     have O:Hid (∀j,j<k+1->c.getD j ⟨#[]⟩≠g):=λj hj=>by
      by_cases h:j=k
      rw[h];exact heq;exact X j o_
     generalize c.getD k ⟨#[]⟩=x at *;clear heq;go_upto_region 8 with fail;go_quiet (fail);refine rd_ ?_;exact⟨k+1,m+nq,g_,o_,O,s_⟩
    have t:k=c.length:=o_;have M:=x1_ (ZcZ (λj hj=>X j o_));have g1:¬k<(c.length:Int):=o_;go_wp2;go_ret;rw[r,M];exact⟨s_,below_drewN l _⟩
  | false=>
   have N:=Z rfl;subst N;have r:Hid (Dy ⟨false,_,[]⟩ ⟨false,_,g⟩=a.countP (λb=>decide (b<f))):=rfl;go_wp2_with fail
   go_loopw [7,8] (λt7 t8 wr=>∃(k m:Nat),t8=.int .i64 k/\k<=a.length/\t7=.int .i64 ((a.take k).countP (λb=>decide (b<f)):Nat)/\(a.take k).countP (λb=>decide (b<f))<=k/\wr=v.drewN m) (λ_ t8 _=>a.length-(intOf t8).toNat)
   case atStart=>exact⟨0,0,rfl,qg_,s_,s_,rfl⟩
   case round=>
    obtain⟨k,m,rfl,Q,rfl,T,o⟩:=hrel;subst o
    by_cases hin:k<a.length
    ·obtain⟨q,rfl,_,_,hc,_⟩:=W.atK rfl hin;have g1:k<(a.length:Int):=o_;have g2:0<=(k:Int):=o_;have S:Hid ((a.take _).countP (λb=>decide (b<f))=_):=xp hin _;generalize a.getD k 0=x,(a.take k).countP (λb=>decide (b<f))=cr at *
     by_cases hlt:x<f
     ·have u:Hid ((a.take (k+1)).countP (λb=>decide (b<f))=cr+1):=w_;have g3:=decide_eq_true hlt;go_upto_region 15 with fail;go_quiet (fail);refine rd_ ?_;exact⟨k+1,m+nq,g_,o_,by rw[u];go_num,by rw[u];omega,s_⟩
     have u:Hid ((a.take (k+1)).countP (λb=>decide (b<f))=cr):=(by show _=_;rw[S,if_neg w_];rfl);have g3:=decide_eq_false hlt;go_upto_region 15 with fail;go_quiet (fail);refine rd_ ?_;exact⟨k+1,m+nq,g_,o_,by rw[u],by rw[u];omega,s_⟩
    have t:k=a.length:=o_;subst t;rw[List.take_length] at T;rw[List.take_length];go_wp2;go_ret;rw[r];exact⟨rfl,below_drewN l _⟩
def Sf:Int×List VS:=(0,[])
def Sn(w:World)(a:Option Addr)(n nf:Nat)(L:List (Int×List VS)):Prop:=
 L.length=n/\(n=0∨∃q,a=some ⟨q,0,none⟩/\∀r,r<n->w.cell? (A_ q (r*2))=some (I_ (L.getD r Sf).1)/\∃g c,w.cell? (A_ q (r*2+1))=some (L_ g nf c)/\(L.getD r Sf).2.length=nf/\∀i,i<nf->w.cell? (A_ g (i*3))=some (.bool ((L.getD r Sf).2.getD i Ax).miss)/\w.cell? (A_ g (i*3+1))=some (I_ ((L.getD r Sf).2.getD i Ax).num)/\w.cell? (A_ g (i*3+2))=some (.string ((L.getD r Sf).2.getD i Ax).word))
def Sn.below{w d a n f L}(h:Sn w a n f L)(i:Below w.heap.size w d):Sn d a n f L:=by
 refine⟨h.1,h.2.imp id ?_⟩;rintro⟨q,e,j⟩;refine⟨q,e,λr hr=>?_⟩;obtain⟨m,g,c,o,k,l⟩:=j r hr;have b:∀p v,_=some v->_:=λp v hp=>(i.cell (World.block_lt_of_cell? w p hp)).trans hp
 grind
def rz:∀(L:List Jy) (i:Nat),i<L.length->∀c,c<2->(Ox L)[i*2+c]? =(Pv (L.getD i ⟨0,[],.slice none 0 0⟩))[c]?
 |[],i,h=>by simp at h
 |x::L,0,_=>λc hc=>by grind [Ox,Pv]
 |x::L,i+1,h=>λc hc=>by simp only[Ox];rw[List.getElem?_append_right (by simp[Pv];omega),show(i+1)*2+c-(Pv x).length=i*2+c by simp[Pv];omega];exact rz L i (by simpa using h) c hc
def Fy.view{w d c n s a L}(h:Fy w d (.slice a n c) L)(y:L.length=n)(x:∀p∈L,p.fs.length=s)(A:0<s):Sn w a n s (L.map Jy.pr):=by
 subst y;refine⟨List.length_map _,?_⟩
 rcases h.row.2 with⟨e,e0⟩|⟨q,cap,cur,e,_,hh,hnc,_⟩
 exact .inl e0;refine .inr ?_;injection e with e1 e2 e3;subst e1;refine⟨q,rfl,λr hr=>?_⟩;have z:(L.map Jy.pr).getD r Sf=Jy.pr (L.getD r ⟨0,[],.slice none 0 0⟩):=w_
 have t:L.getD r ⟨0,[],.slice none 0 0⟩∈L:=w_;rw[z];generalize hp:L.getD r ⟨0,[],.slice none 0 0⟩=p at *
 have j:∀o u,o<2->(Pv p)[o]? =some u->w.cell? (A_ q (r*2+o))=some u:=λo u f hu=>by rw[World.ownsRow.cellAt h.row (r*2+o) o_,rz L r hr o f,hp];exact hu
 have k:=x p t;have f:=h.each p t;refine⟨j 0 _ o_ rfl,?_⟩
 rcases f.2 with⟨_,e0⟩|⟨g,cap2,cur2,ev,_⟩
 omega;have m:=j 1 _ o_ rfl;rw[ev] at m;rw[k] at m;refine⟨g,cap2,m,k,λi hi=>?_⟩
 have l:w.ownsRow d 335 3 (L_ g p.fs.length cap2) p.fs.length (Ic p.fs):=by
  have v:=f;unfold oh at v
  grind
 have b:∀o u,o<3->(Hy (p.fs.getD i Ax))[o]? =some u->w.cell? (A_ g (i*3+o))=some u:=λo u f hu=>by rw[World.ownsRow.cellAt l (i*3+o) o_,Ww p.fs i o_ o f];exact hu
 exact⟨b 0 _ o_ rfl,b 1 _ o_ rfl,b 2 _ o_ rfl⟩
def Ziw b n c a L s w (h:Cc w b (.slice a n c) L)(m:L.length=n)(y:n<=1000):C_ 244 #[.slice a n c,.string s] w λe w'=>e=.returned (.bool (Lib.containsS L s))/\w'=w:=by
 have v:=x1_ h;have i:=x1_ m;clear h m;go_enter Tryz.func244,Tryz.ntmps244;go_wp2_with fail
 go_loopw [5] (λt5 wr=>∃k:Nat,t5=.int .i64 k/\k<=n/\Hid (∀j,j<k->L.getD j ⟨#[]⟩≠s)/\wr=w) (λt5 _=>n-(intOf t5).toNat)
 case atStart=>exact⟨0,rfl,qg_,λj l=>o_,rfl⟩
 case round=>
  obtain⟨k,rfl,r,o,f⟩:=hrel;subst f
  by_cases hin:k<n
  ·obtain⟨q,rfl,_,B⟩:=v.atW i hin ⟨#[]⟩;have u:k<(n:Int):=o_;have z:0<=(k:Int):=o_
   by_cases heq:L.getD k ⟨#[]⟩=s
   ·have g:Hid (Lib.containsS L s=true):=by
     refine(Lib.containsS_iff L s).2 ?_;rw[<- heq,Qc,Qd (by rw[i];exact hin)]
     grind
    have t:((L.getD k ⟨#[]⟩).toList==s.toList)=true:=(by rw[heq];simp);generalize L.getD k ⟨#[]⟩=x at *;clear heq;go_wp2;go_ret;exact⟨by rw[g];rfl,rfl⟩
   have t:=ZiS heq
   have d:Hid (∀j,j<k+1->L.getD j ⟨#[]⟩≠s):=λj l=>by
    by_cases h:j=k
    rw[h];exact heq;exact o j o_
   generalize L.getD k ⟨#[]⟩=x at *;clear heq;refine rd_ ?_;exact⟨k+1,g_,o_,d,trivial⟩
  have g:Hid (Lib.containsS L s=false):=by
   show _=_;rw[<- Bool.not_eq_true,Lib.containsS_iff];intro p;obtain⟨j,l,e⟩:=List.getElem_of_mem p;have A:=i.out;refine o j o_ ?_
   grind
  have u:¬k<(n:Int):=o_;go_wp2;go_ret;exact⟨by rw[g];rfl,rfl⟩
def Pn(L:List (Int×List VS))(i:Nat)(s:ByteArray):Int:=((L.filter (λr=>!(r.2.getD i Ax).miss&&decide ((r.2.getD i Ax).word=s))).map Prod.fst).sum
def Zb7{L:List (Int×List VS)}{r}(h:r<L.length) i s:Pn (L.take (r+1)) i s=Pn (L.take r) i s+(if(!((L.getD r Sf).2.getD i Ax).miss&&decide (((L.getD r Sf).2.getD i Ax).word=s))=true then(L.getD r Sf).1 else 0):=by
 have e:L.getD r Sf=L[r]:=w_;unfold Pn
 grind [Qi]
def Ze3{L:List (Int×List VS)}(hw:∀r∈L,0<=r.1/\r.1<=99) i s:∀k,k<=L.length->0<=Pn (L.take k) i s/\Pn (L.take k) i s<=99*k
 |0,_=>by simp[Pn]
 | k+1,hk=>by
  have ih:=Ze3 hw i s k o_;rw[Zb7 o_]
  grind
def ZbO a n p c i L s w (h:Sn w a n p L)(G:i<p)(y:∀r∈L,0<=r.1/\r.1<=99)(M:n<=1000):C_ 290 #[.slice a n c,.int .i64 i,.string s] w λe w'=>e=.returned (.int .i64 (Pn L i s))/\∃m,w'=w.drewN m:=by
 have o:=x1_ h;have d:=x1_ (λk hk=>Ze3 y i s k (by rw[h.1];exact hk));clear h y;go_enter Tryz.func290,Tryz.ntmps290;go_wp2_with fail
 go_loopw [7,8] (λt7 t8 wr=>∃(k m:Nat),t8=.int .i64 k/\k<=n/\t7=.int .i64 (Pn (L.take k) i s)/\wr=w.drewN m) (λ_ t8 _=>n-(intOf t8).toNat)
 case atStart=>exact⟨0,0,rfl,qg_,rfl,rfl⟩
 case round=>
  obtain⟨k,m,rfl,D,rfl,l⟩:=hrel;subst l
  by_cases hin:k<n
  ·have F:k<(n:Int):=o_;have P:0<=(k:Int):=o_;have U:i<(p:Int):=o_;have V:0<=(i:Int):=o_
   rcases o.out.2 with T|⟨q,rfl,u⟩
   omega;obtain⟨I,g,Q,R,_,z⟩:=u k hin;obtain⟨O,_,N⟩:=z i G;clear z;have j:=x1_ (Zb7 (by rw[o.1];exact hin) i s);have H:=d k o_;have f:=x1_ (d (k+1) o_);clear u;generalize Pn (L.take k) i s=A,(L.getD k Sf).2.getD i Ax=v,(L.getD k Sf).1=x at *;obtain⟨B,S,t⟩:=v;simp only at *
   cases B with
   | true=>
    have b:Hid (Pn (L.take (k+1)) i s=A):=(by show _=_;rw[j,if_neg s_];omega);refine rd_ ?_;exact⟨k+1,_,g_,o_,by rw[b],by first|rfl|simp⟩
   | false=>
    by_cases heq:t=s
    ·have b:Hid (Pn (L.take (k+1)) i s=A+x):=w_;have E:(t.toList==s.toList)=true:=(by rw[heq];simp);have J:_=A+x:=Cb (by have:=b.out;have:=f.out;omega) (by have:=b.out;have:=f.out;omega);clear heq;refine rd_ ?_;exact⟨k+1,_,g_,o_,by rw[b],by first|rfl|simp⟩
    have b:Hid (Pn (L.take (k+1)) i s=A):=(by show _=_;rw[j,if_neg (by simp[heq])];omega);have E:=ZiS heq;clear heq;refine rd_ ?_;exact⟨k+1,_,g_,o_,by rw[b],by first|rfl|simp⟩
  have F:¬k<(n:Int):=o_;have C:k=L.length:=(by rw[o.1];omega);have j:Hid (Pn (L.take k) i s=Pn L i s):=(by show _=_;grind);go_wp2;go_ret;exact⟨rfl,_,rfl⟩
def Nk h g n m c f b d w (j:n<=1000)(k:m<=1000):C_ 189 #[.agg #[.bool b,.slice h n c,.slice g m f,.int .i64 d]] w λe w'=>e=.returned (.int .i64 (n+m+2:Nat))/\Below w.heap.size w w':=by have a:Below _ w (w.alloc (.cells #[.bool b,.slice h n c,.slice g m f,I_ d] 227)):=bA_;have i:=x1_ a;clear a;go_enter Tryz.func189,Tryz.ntmps189;go_wp2;go_ret;exact⟨g_,i⟩
def ZbN b k h j g f n a o c l i r x d (w:World)(A:w.cell? (A_ b 0)=some (P_ k))(v:w.cell? (A_ b 1)=some (L_ h f n))(q:w.cell? (A_ h i)=some (L_ j a o))(F:w.cell? (A_ j r)=some (I_ x))(y:w.cell? (A_ k 1)=some (L_ g c l))(B:w.cell? (A_ g (i*4+3))=some (I_ d))(s:i<f)(E:r<a)(p:i<c):C_ 292 #[.pointer (some ⟨b,0,none⟩),.int .i64 r,.int .i64 i] w λe w'=>e=.returned (.bool (x !=d))/\∃m,w'=w.drewN m:=by
 have t:0<=(i:Int):=o_;have u:i<(f:Int):=o_;have C:0<=(r:Int):=o_;have D:r<(a:Int):=o_;have z:i<(c:Int):=o_;go_enter Tryz.func292,Tryz.ntmps292;go_wp2_with fail
 go_quiet (fail);go_wp2;go_ret;exact⟨rfl,_,rfl⟩
theorem Ac{w w'}(hb:Below w.heap.size w w'){p v}(hp:w.cell? p=some v):w'.cell? p=some v:=(hb.cell (World.block_lt_of_cell? w p hp)).trans hp
def NuV(w:World)(a:Option Addr)(L:List Nat):Prop:=∀k,k<L.length->∃q,a=some ⟨q,0,none⟩/\w.cell? (A_ q k)=some (I_ (L.getD k 0:Nat))
def NuV.below{w w' a L}(h:NuV w a L)(hb:Below w.heap.size w w'):NuV w' a L:=λk hk=>by obtain⟨q,e,hc⟩:=h k hk;exact⟨q,e,Ac hb hc⟩
def Ag.nums{w base c n a L}(h:Ag w base (.slice a n c) (Av L))(hn:L.length=n):NuV w a L:=λk hk=>by
 obtain⟨q,e,_,_,hc⟩:=h.atK (by rw[Aw];exact hn) (k:=k) o_;rw[Cv] at hc
 grind
def LiV(w:World)(v:Value)(Ls:List (List Nat)):Prop:=(∃a c,v=.slice a Ls.length c)/\∀i,i<Ls.length->∃q c ag cg,v=L_ q Ls.length c/\w.cell? (A_ q i)=some (.slice ag (Ls.getD i []).length cg)/\NuV w ag (Ls.getD i [])
def LiV.below{w w' v Ls}(h:LiV w v Ls)(hb:Below w.heap.size w w'):LiV w' v Ls:=⟨h.1,λi hi=>by
 obtain⟨q,c,ag,cg,e,h1,h2⟩:=h.2 i hi
 exact⟨q,c,ag,cg,e,Ac hb h1,h2.below hb⟩⟩
def FeV(w:World)(v:Value)(Ks:List KS):Prop:=(∃a c,v=.slice a Ks.length c)/\∀i,i<Ks.length->∃q c ab cb aw cw,v=L_ q Ks.length c/\w.cell? (A_ q (i*4))=some (.bool (Ks.getD i Ay).e.wd)/\
  w.cell? (A_ q (i*4+1))=some (.slice ab (Ks.getD i Ay).e.bs.length cb)/\w.cell? (A_ q (i*4+2))=some (.slice aw (Ks.getD i Ay).e.ww.length cw)/\w.cell? (A_ q (i*4+3))=some (I_ (Ks.getD i Ay).d)
def FeV.below{w w' v Ks}(h:FeV w v Ks)(hb:Below w.heap.size w w'):FeV w' v Ks:=⟨h.1,λi hi=>by
 obtain⟨q,c,ab,cb,aw,cw,e,h1,h2,h3,h4⟩:=h.2 i hi
 grind [Ac]⟩
def od(k:KS):Prop:=k.e.bs.length<=1000/\k.e.ww.length<=1000/\(k.e.wd=true->k.e.bs=[])/\(k.e.wd=false->k.e.ww=[])
def od.many{k}(h:od k):k.e.bs.length+k.e.ww.length+2=k.many:=by
 unfold KS.many ES.cnt Ky
 cases hw:k.e.wd
 rw[h.2.2.2 hw];simp;rw[h.2.2.1 hw];simp
structure DkV(w:World)(db n)(Ks):Prop where
 d0:w.cell? (A_ db 0)=some (I_ (n:Nat))
 d1:∃v,w.cell? (A_ db 1)=some v/\FeV w v Ks
 one:∀i,i<Ks.length->od (Ks.getD i Ay)
def DkV.below{w b d n c}(h:DkV w d n c)(a:Below w.heap.size w b):DkV b d n c:=by obtain⟨e,f,g⟩:=h.d1;exact⟨Ac a h.d0,⟨e,Ac a f,g.below a⟩,h.one⟩
structure MkV(w:World)(mb db n)(Ks)(Bb):Prop where
 m0:w.cell? (A_ mb 0)=some (P_ db)
 m1:∃v,w.cell? (A_ mb 1)=some v/\LiV w v Bb
 dk:DkV w db n Ks
 len:Bb.length=Ks.length
 rows:∀i,i<Bb.length->(Bb.getD i []).length=n
def MkV.below{w c b f n d e}(h:MkV w b f n d e)(a:Below w.heap.size w c):MkV c b f n d e:=by obtain⟨g,j,i⟩:=h.m1;exact⟨Ac a h.m0,⟨g,Ac a j,i.below a⟩,h.dk.below a,h.len,h.rows⟩
def MkV.drewN{w mb db n Ks Bb}(h:MkV w mb db n Ks Bb) m:MkV (w.drewN m) mb db n Ks Bb:=h.below (below_drewN bz_ m)
def sO(Ks:List KS)(Bb:List (List Nat))(i r:Nat):Bool:=decide ((Bb.getD i []).getD r 0≠(Ks.getD i Ay).d)
def MkV.stands{w p x n f b}(h:MkV w p x n f b){i r}(j:i<f.length)(l:r<n):C_ 292 #[.pointer (some ⟨p,0,none⟩),.int .i64 r,.int .i64 i] w λe w'=>e=.returned (.bool (sO f b i r))/\∃m,w'=w.drewN m:=by obtain⟨J,s,z⟩:=h.m1;obtain⟨I,u,A⟩:=h.dk.d1;have a:i<b.length:=(by rw[h.len];exact j);obtain⟨q,c,G,B,rfl,o,v⟩:=z.2 i a;obtain⟨C,D,H,L,E,F,rfl,_,_,_,t⟩:=A.2 i j;rw[h.rows i a] at o;obtain⟨g,rfl,y⟩:=v r (by rw[h.rows i a];exact l);have k:=ZbN _ _ q g _ _ c n _ _ _ i r _ _ w h.m0 s o y u t a l j;have e:(((b.getD i []).getD r 0:Nat) !=((f.getD i Ay).d:Int))=sO f b i r:=(by grind [sO]);rw[e] at k;exact k
def DkV.feat{w b n a}(h:DkV w b n a){i}(f:i<a.length):∃q c ab cb aw cw,w.cell? (A_ b 1)=some (L_ q a.length c)/\w.cell? (A_ q (i*4))=some (.bool (a.getD i Ay).e.wd)/\w.cell? (A_ q (i*4+1))=some (.slice ab (a.getD i Ay).e.bs.length cb)/\w.cell? (A_ q (i*4+2))=some (.slice aw (a.getD i Ay).e.ww.length cw)/\w.cell? (A_ q (i*4+3))=some (I_ (a.getD i Ay).d):=by
 obtain⟨m,o,g⟩:=h.d1;obtain⟨l,k,ab,cb,aw,cw,rfl,j⟩:=g.2 i f
 grind
def clF(Ks:List KS)(Bb:List (List Nat))(fs:List Nat)(i k:Nat):Nat:=(List.range k).countP (λr=>sO Ks Bb i r&&fs.any (λf=>sO Ks Bb f r))
def Zhg a b c i k:clF a b c i (k+1)=clF a b c i k+(if(sO a b i k&&c.any (λf=>sO a b f k))=true then 1 else 0):=by unfold clF;rw[List.range_succ,List.countP_append,List.countP_singleton]
def Zk4 a b c i k:clF a b c i k<=k:=by have:=List.countP_le_length (p:=λr=>sO a b i r&&c.any (λf=>sO a b f r)) (l:=List.range k);rw[List.length_range] at this;exact this
def ZgV{a:List Nat}{k}(h:k<a.length) p:(a.take (k+1)).any p=((a.take k).any p||p (a.getD k 0)):=by
 rw[Qi h,List.any_append]
 grind
def Nb{a:List Nat}{k}(h:k<a.length):a.getD k 0∈a:=w_
def Zdv J N n c i a b d g w (h:MkV w J N n d g)(G:NuV w a b)(Q:i<d.length)(y:∀f∈b,f<d.length)(Y:n<=1000)(T:b.length<=1000):C_ 291 #[.pointer (some ⟨J,0,none⟩),.slice a b.length c,.int .i64 i] w λe w'=>e=.returned (.int .i64 (clF d g b i n:Nat))/\∃m,w'=w.drewN m:=by
 have H:=x1_ h;have C:=x2_ G y;have m0:=h.m0;have Z:=h.dk.d0;obtain⟨l,u⟩:=ey_ b.length;have D:=x1_ u;rw[u] at T ⊢;clear h G y u;go_enter Tryz.func291,Tryz.ntmps291;go_wp2_with fail
 go_loopw [7,8] (λt7 t8 wr=>∃(r m:Nat),t8=.int .i64 r/\r<=n/\t7=.int .i64 (clF d g b i r:Nat)/\wr=w.drewN m) (λ_ t8 _=>n-(intOf t8).toNat)
 case atStart=>exact⟨0,0,rfl,qg_,rfl,rfl⟩
 case round =>
  obtain⟨r,m,rfl,O,rfl,t⟩:=hrel;subst t
  by_cases hin:r<n
  ·have V:r<(n:Int):=o_;have F:=x1_ (Zhg d g b i r);have L:=Zk4 d g b i r;generalize clF d g b i r=cr at *;go_wp2_with fail
   refine((H.drewN _).stands Q hin).mono ?_;rintro e W ⟨rfl,M,s⟩;obtain⟨x,j⟩:=ey_ (sO d g i r);have U:=x1_ j;rw[j];subst s;clear j;go_wp2_with fail
   go_loopw [10,11] (λt10 t11 wr=>∃(k m:Nat),t11=.int .i64 k/\k<=l/\t10=.bool ((b.take k).any (λf=>sO d g f r))/\wr=w.drewN m) (λ_ t11 _=>l-(intOf t11).toNat)
   case atStart=>exact⟨0,m+M,rfl,qg_,rfl,s_⟩
   case round=>
    obtain⟨k,E,rfl,hk,rfl,t⟩:=hrel;subst t
    by_cases hkl:k<l
    ·have p:k<b.length:=(by rw[D];exact hkl);obtain⟨q,rfl,X⟩:=C.1 k p;have A:=C.2 _ (Nb p);have I:Hid ((b.take _).any (λf=>sO d g f r)=_):=ZgV p _;generalize b.getD k 0=f at *;generalize (b.take k).any (λf=>sO d g f r)=an at *;have P:k<(l:Int):=o_;have g3:0<=(k:Int):=o_;go_wp2_with fail
     refine((H.drewN _).stands A hin).mono ?_;rintro e W ⟨rfl,R,s⟩;subst s;obtain⟨S,o⟩:=ey_ (sO d g f r);have z:Hid ((b.take (k+1)).any (λf=>sO d g f r)=(an||S)):=(by rw[<- o];exact I);rw[o];clear I o
     cases an<;>
      (go_wp2
       go_roundw;case rel=>exact⟨k+1,E+R,g_,o_,by rw[z];rfl,s_⟩
       case measure=>simp[intOf];omega)
    have P:¬k<(l:Int):=o_;have v:b.take k=_:=List.take_of_length_le (by have:=D.out;omega);rw[v];have B:Hid (clF d g b i (r+1)=cr+(if(x&&b.any (λf=>sO d g f r))=true then 1 else 0)):=(by rw[<- U];exact F);clear F v;generalize b.any (λf=>sO d g f r)=an at *
    cases x<;>cases an<;>
     (go_wp2
      go_roundw;case rel=>exact⟨r+1,E,g_,o_,by rw[B];first|rfl|go_num,by first|rfl|simp⟩
      case measure=>simp[intOf];omega)
  have V:¬r<(n:Int):=o_;obtain rfl:r=n:=o_;go_wp2;go_ret;exact⟨rfl,_,rfl⟩
def ZdK{b}{a:List Nat}{k}(h:k<a.length):Du b (a.take (k+1))=Du b (a.take k)+(b.getD (a.getD k 0) Ay).many:=by
 unfold Du;rw[Qi h,List.map_append,List.sum_append]
 grind
def ZiU{Ks fs}(a:∀f∈fs,(Ks.getD f Ay).many<=2002):Du Ks fs<=2002*fs.length:=by
 induction fs with
 |nil=>simp[Du]
 | cons f fs ih=>
  grind [Du]
def uj E n c a b g w (h:DkV w E n g)(z:NuV w a b)(o:∀f∈b,f<g.length)(V:b.length<=1000):C_ 137 #[.pointer (some ⟨E,0,none⟩),.slice a b.length c] w λe w'=>e=.returned (.int .i64 (Du g b:Nat))/\Below w.heap.size w w':=by
 have Q:=x1_ h;have I:=x2_ z o
 have Y:=x1_ (λk s=>by
  have:=ZiU (g:=g) (b:=b.take k) (λf z=>by
   have s:=h.one f (o f (List.mem_of_mem_take z));have:=s.many;have:=s.1;have:=s.2.1
   omega)
  rw[List.length_take,Nat.min_eq_left s] at this
  exact this)
 obtain⟨l,r⟩:=ey_ b.length;have N:=x1_ r;rw[r] at V ⊢;clear h z o r;go_enter Tryz.func137,Tryz.ntmps137;go_wp2_with fail
 go_loopw [5,6] (λt5 t6 wr=>∃k:Nat,t6=.int .i64 k/\k<=l/\t5=.int .i64 (Du g (b.take k):Nat)/\E_ w wr) (λ_ t6 _=>l-(intOf t6).toNat)
 case atStart=>exact⟨0,rfl,qg_,rfl,bz_⟩
 case round=>
  obtain⟨k,rfl,s,rfl,v⟩:=hrel
  by_cases hkl:k<l
  ·have m:k<b.length:=(by rw[N];exact hkl);obtain⟨q,rfl,L⟩:=(I.1.below v) k m;have u:=I.2 _ (Nb m);obtain⟨t,T,G,H,B,D,M,O,J,R,P⟩:=(Q.below v).feat u;have S:Hid (Du g _=_):=ZdK m;have j:=Q.one _ u;have y:=j.many;have h1:=Y k o_;have x:=Nk G B (g.getD (b.getD k 0) Ay).e.bs.length (g.getD (b.getD k 0) Ay).e.ww.length H D (g.getD (b.getD k 0) Ay).e.wd (g.getD (b.getD k 0) Ay).d
   have F:Hid (∀W:World,C_ 189 #[.agg #[.bool (g.getD (b.getD k 0) Ay).e.wd,.slice G (g.getD (b.getD k 0) Ay).e.bs.length H,.slice B (g.getD (b.getD k 0) Ay).e.ww.length D,.int .i64 (g.getD (b.getD k 0) Ay).d]] W λe w'=>e=.returned (.int .i64 (g.getD (b.getD k 0) Ay).many)/\E_ W w'):=λW=>by rw[<- y];exact x W j.1 j.2.1
   have U:(g.getD (b.getD k 0) Ay).many<=2002:=(by have:=j.1;have:=j.2.1;omega);clear x y j;generalize (g.getD (b.getD k 0) Ay).many=mn at *;generalize (g.getD (b.getD k 0) Ay).e.wd=wd at *;generalize (g.getD (b.getD k 0) Ay).e.bs.length=nb at *;generalize (g.getD (b.getD k 0) Ay).e.ww.length=nw at *;generalize (g.getD (b.getD k 0) Ay).d=dd at *;generalize b.getD k 0=f at *;generalize Du g (b.take k)=sm at *;have X:k<(l:Int):=o_;have g2:0<=(k:Int):=o_;have g3:0<=(f:Int):=o_;have g4:f<(g.length:Int):=o_;have Z:_=(sm:Int)+(mn:_):=Cb o_ o_;go_upto_region 5 with fail
   go_region_held3 (λw'=>w'.cell? (A_ E 1)=some (L_ t g.length T)/\w'.cell? (A_ q k)=some (I_ (f:Nat))/\w'.cell? (A_ t (f*4))=some (.bool wd)/\w'.cell? (A_ t (f*4+1))=some (.slice G nb H)/\w'.cell? (A_ t (f*4+2))=some (.slice B nw D)/\w'.cell? (A_ t (f*4+3))=some (I_ (dd:Nat))) (first|exact⟨M,L,O,J,R,P⟩|exact⟨Ac i M,Ac i L,Ac i O,Ac i J,Ac i R,Ac i P⟩) (first|(go_at_call 189;refine(F _).mono ?_;rintro e w2 ⟨rfl,A⟩;have i:Below wr.heap.size _ _:=bz_.drew.trans A))
   go_wp2;go_roundw;case rel=>exact⟨k+1,g_,o_,by rw[S];go_num,v.trans (i.mono v.size)⟩
   case measure=>exact z_
  have X:¬k<(l:Int):=o_;have C:b.take k=_:=List.take_of_length_le (by have:=N.out;omega);rw[C];go_wp2;go_ret;exact⟨rfl,v⟩
abbrev Cz:Value:=.slice none 0 0
structure Mg(w:World)(base)(v)(vs)(Ls:List (List Int)):Prop where
 row:w.ownsRow base 25 1 v Ls.length vs
 each:∀i,i<Ls.length->Ag w base (vs.getD i Cz) (Ls.getD i [])
 apart:∀i j,i<j->j<Ls.length->Ch (vs.getD i Cz) (vs.getD j Cz)
section
variable {w w':World} {base:Nat} {v v':Value} {vs:List Value} {Ls:List (List Int)}
def Mg.len(h:Mg w base v vs Ls):vs.length=Ls.length:=by have:=h.row.1;omega
def Mg.nil w base:Mg w base (.slice none 0 0) [] []:=⟨rn_,λi hi=>by simp at hi,λi j _ hj=>by simp at hj⟩
def Mg.touch{K}(h:Mg w base v vs Ls)(t:Aa K w w')(h1:∀k cur ty,w.heap[k]? =some (.cells cur ty (0,0))->ty=25∨ty=3->base<=k->¬K k):Mg w' base v vs Ls:=
 ⟨t.row h.row (λk hk=>by obtain⟨c,hc⟩:=Ad h.row hk;exact h1 k c _ hc (.inl rfl) (rl_ h.row k hk).1),λi hi=>t.row (h.each i hi) (λk hk=>by obtain⟨c,hc⟩:=Ad (h.each i hi) hk;exact h1 k c _ hc (.inr rfl) (rl_ (h.each i hi) k hk).1),h.apart⟩
def Mg.below(h:Mg w base v vs Ls)(hb:Below w.heap.size w w'):Mg w' base v vs Ls:=h.touch (.of_below (S:=λ_=>False) hb) (λ_ _ _ _ _ _=>id)
def Mg.shape(h:Mg w base v vs Ls):∃a c,v=.slice a Ls.length c:=by
 rcases h.row.2 with⟨rfl,h0⟩|⟨g,cap,cur,rfl,_⟩
 ·grind
 grind
def Mg.mono{b}(h:Mg w base v vs Ls)(d:b<=base):Mg w b v vs Ls:=by
 refine⟨⟨h.row.1,?_⟩,λi hi=>(h.each i hi).mono d,h.apart⟩
 rcases h.row.2 with e|⟨g,c,a,e,f,r⟩
 exact .inl e;exact .inr ⟨g,c,a,e,Nat.le_trans d f,r⟩
def Mg.at(h:Mg w base v vs Ls){i}(b:i<Ls.length):∃q c a k,v=L_ q Ls.length c/\w.cell? (A_ q i)=some (.slice a (Ls.getD i []).length k)/\(∀o,w.frozen? (A_ q o)=false)/\vs.getD i Cz=.slice a (Ls.getD i []).length k/\(∃cur,w.heap[q]? =some (.cells cur 25 (0,0)))/\base<=q:=by
 rcases h.row.2 with⟨_,h0⟩|⟨g,cap,cur,rfl,hb,hh,hnc,_⟩
 omega;obtain⟨a,k,e⟩:=(h.each i b).shape;refine⟨g,cap,a,k,rfl,?_,λo=>fq_ o _ _ hh,e,⟨cur,hh⟩,hb⟩;rw[World.ownsRow.cellAt h.row i o_,<- e]
 grind
def Mg.more{u L}(h:Mg w base v vs Ls)(c:Ag w base u L)(d:∀i,i<Ls.length->Ch (vs.getD i Cz) u)(g:w.grownBy w' v.ownBlock)(r:w'.ownsRow base 25 1 v' (Ls.length+1) (vs++[u])):Mg w' base v' (vs++[u]) (Ls++[L]):=by
 have f:=h.len;have a:∀i,i<Ls.length->(vs++[u]).getD i Cz=vs.getD i Cz/\(Ls++[L]).getD i []=Ls.getD i []:=λi hi=>⟨w_,w_⟩;have b:(vs++[u]).getD Ls.length Cz=u/\(Ls++[L]).getD Ls.length []=L:=⟨w_,by simp[List.getD]⟩;refine⟨w_,λi hi=>?_,λi j hij hj=>?_⟩
 ·rw[Qe,List.length_singleton] at hi
  by_cases e:i<Ls.length
  rw[(a i e).1,(a i e).2];exact Ag.kept (h.each i e) g (An h.row (h.each i e) d_);obtain rfl:i=Ls.length:=o_;rw[b.1,b.2];exact Ag.kept c g (An h.row c d_)
 rw[Qe,List.length_singleton] at hj;rw[(a i o_).1]
 by_cases e:j<Ls.length
 rw[(a j e).1];exact h.apart i j hij e
 grind
def Mg.grow{q c i u L}(h:Mg w base (L_ q Ls.length c) vs Ls)(n:i<Ls.length)(g:w.grownBy w' (vs.getD i Cz).ownBlock)(o:Ag w' base u L)(f:u.ownBlock=(vs.getD i Cz).ownBlock∨u.ownBlock=some w.heap.size):Mg (w'.setCell (A_ q i) u) base (L_ q Ls.length c) (vs.set i u) (Ls.set i L):=by
 have r:=h.len;have l:=World.ownsRow.kept h.row g (An (h.each i n) h.row d_);obtain⟨p,m⟩:=Ad l (k:=q) rfl;obtain⟨s,_⟩:=World.ownsRow.stored l i u;refine⟨w_,λj hj=>?_,λj k hjk hk=>?_⟩
 ·rw[List.length_set] at hj
  by_cases e:j=i
  subst e;have b:(vs.set j u).getD j Cz=u:=w_;have d:(Ls.set j L).getD j []=L:=w_;rw[b,d];exact As o m d_;have b:(vs.set i u).getD j Cz=vs.getD j Cz:=w_;have d:(Ls.set i L).getD j []=Ls.getD j []:=w_;rw[b,d];refine As (Ag.kept (h.each j hj) g ?_) m d_
  rcases Nat.lt_or_gt_of_ne e with e|e
  exact(h.apart j i e n).symm.keeps;exact(h.apart i j e hj).keeps
 rw[List.length_set] at hk
 have a:∀x,x<Ls.length->x≠i->(vs.set i u).getD x Cz=vs.getD x Cz:=λx _ e=>w_
 have b:(vs.set i u).getD i Cz=u:=w_
 by_cases ej:j=i
 subst ej;rw[b,a k hk o_];exact Ch.moved (h.apart j k hjk hk) (h.each k hk) f
 by_cases ek:k=i
 subst ek;rw[b,a j o_ ej];exact(Ch.moved (h.apart j k hjk hk).symm (h.each j o_) f).symm;rw[a j o_ ej,a k hk ek];exact h.apart j k hjk hk
end
def Mg.view{w b v o d}(h:Mg w b v o (d.map Av)):LiV w v d:=by obtain⟨a,c,e⟩:=h.shape;rw[List.length_map] at e;refine⟨⟨a,c,e⟩,λi hi=>?_⟩;have f:i<(d.map Av).length:=w_;obtain⟨q,r,n,k,l,g,_,p,_⟩:=h.at f;have j:(d.map Av).getD i []=Av (d.getD i []):=w_;have m:=h.each i f;rw[p,j,Aw] at m;rw[j,Aw] at g;rw[List.length_map] at l;exact⟨q,r,n,k,l,g,m.nums rfl⟩
structure dx(w)(base)(v)(kvs)(Ks):Prop where
 row:Yk w base 227 4 v (List.zipWith Cf Ks kvs)
 len:kvs.length=Ks.length
 each:∀i,i<Ks.length->Ag w base (kvs.getD i Oi).1 (Ks.getD i Ay).e.bs/\Cc w base (kvs.getD i Oi).2 (Ks.getD i Ay).e.ww
section
variable {w w':World} {base:Nat} {v v':Value} {kvs:List (Value×Value)} {Ks:List KS}
def dx.nil w base:dx w base (.slice none 0 0) [] []:=⟨Yk.nil _ _ _ _,rfl,λi hi=>by simp at hi⟩
def dx.zlen(h:dx w base v kvs Ks):(List.zipWith Cf Ks kvs).length=Ks.length:=by rw[List.length_zipWith,h.len,Nat.min_self]
def dx.touch{K}(h:dx w base v kvs Ks)(t:Aa K w w')(b:∀k cur ty,w.heap[k]? =some (.cells cur ty (0,0))->ty=227∨ty=3∨ty=9->base<=k->¬K k):dx w' base v kvs Ks:=by have a:∀{ty sz n:Nat} {u:_} {xs:_},w.ownsRow _ ty sz u n xs->(ty=227∨_=3∨ty=9)->_:=λhr hty=>t.row hr (λk hk=>by obtain⟨c,d⟩:=Ad hr hk;exact b k c _ d hty (rl_ hr k hk).1);exact⟨⟨a h.row.row (.inl rfl),h.row.wid⟩,h.len,λi hi=>⟨a (h.each i hi).1 (.inr (.inl rfl)),a (h.each i hi).2 (.inr (.inr rfl))⟩⟩
def dx.below(h:dx w base v kvs Ks)(hb:Below w.heap.size w w'):dx w' base v kvs Ks:=h.touch (.of_below (S:=λ_=>False) hb) (λ_ _ _ _ _ _=>id)
def dx.more{k u}(h:dx w base v kvs Ks)(f:Ag w base u.1 k.e.bs)(j:Cc w base u.2 k.e.ww)(g:w.grownBy w' v.ownBlock)(r:w'.ownsRow base 227 4 v' (Ks.length+1) ((List.zipWith Cf Ks kvs).flatten++Cf k u)):dx w' base v' (kvs++[u]) (Ks++[k]):=by
 have d:=h.len;refine⟨?_,by simp[d],λi hi=>?_⟩;rw[List.zipWith_append d.symm];exact h.row.more w_ rfl;have a:∀{ty sz n:Nat} {x:_} {xs:_},w.ownsRow base ty sz x n xs->_:=λhr hne=>World.ownsRow.kept hr g (An h.row.row hr hne);rw[Qe,List.length_singleton] at hi
 by_cases e:i<Ks.length
 have b:(kvs++[u]).getD i Oi=kvs.getD i Oi:=w_;have c:(Ks++[k]).getD i Ay=Ks.getD i Ay:=w_;rw[b,c];exact⟨a (h.each i e).1 d_,a (h.each i e).2 d_⟩;obtain rfl:i=Ks.length:=o_;have b:(kvs++[u]).getD Ks.length Oi=u:=w_;have c:(Ks++[k]).getD Ks.length Ay=k:=(by simp[List.getD]);rw[b,c];exact⟨a f d_,a j d_⟩
def dx.view(h:dx w base v kvs Ks):FeV w v Ks:=by obtain⟨a,c,e⟩:=h.row.shape;rw[h.zlen] at e;refine⟨⟨a,c,e⟩,λi hi=>?_⟩;obtain⟨q,n,d,_,_,_,_,b⟩:=h.row.at (i:=i) (by rw[h.zlen];exact hi);rw[h.zlen] at d;obtain⟨o,j,f⟩:=(h.each i hi).1.shape;obtain⟨m,k,g⟩:=(h.each i hi).2.form;have l:(List.zipWith Cf Ks kvs).getD i []=Cf (Ks.getD i Ay) (kvs.getD i Oi):=(by simp[List.getD,List.getElem?_zipWith,hi,show i<kvs.length by rw[h.len];exact hi]);rw[l] at b;exact⟨q,n,o,j,m,k,d,b 0 o_ _ rfl,b 1 o_ _ (by rw[<- f];rfl),b 2 o_ _ (by rw[<- g];rfl),b 3 o_ _ rfl⟩
end
def Ty(w:World)(db n:Nat)(vF vB vC vX:Value):Prop:=w.heap[db]? =some (.cells #[I_ n,vF,vB,vC,vX] 142 (0,0))
structure MkX(w:World)(base mb db n:Nat)(vF vB vC vX vb vo)(kvs)(bbs)(Ks)(Bb:List (List Nat))(outs):Prop where
 blk:w.heap[mb]? =some (.cells #[P_ db,vb,vo] 331 (0,0))
 ds:Ty w db n vF vB vC vX
 fe:dx w base vF kvs Ks
 bb:Mg w base vb bbs (Bb.map Av)
 ou:Ag w base vo (Av outs)
 len:Bb.length=Ks.length
 rows:∀i,i<Bb.length->(Bb.getD i []).length=n
 one:∀i,i<Ks.length->od (Ks.getD i Ay)
section
variable {w w':World} {base mb db n:Nat} {vF vB vC vX vb vo vB' vC' vX':Value} {kvs:List (Value×Value)} {bbs:List Value} {Ks:List KS} {Bb:List (List Nat)} {outs:List Nat}
def MkX.view(h:MkX w base mb db n vF vB vC vX vb vo kvs bbs Ks Bb outs):MkV w mb db n Ks Bb:=
 ⟨cq_ 0 _ 331 (0,0) h.blk,⟨vb,cq_ 1 _ 331 (0,0) h.blk,h.bb.view⟩,⟨cq_ 0 _ 142 (0,0) h.ds,⟨vF,cq_ 1 _ 142 (0,0) h.ds,h.fe.view⟩,h.one⟩,h.len,h.rows⟩
def MkX.dbw(h:MkX w base mb db n vF vB vC vX vb vo kvs bbs Ks Bb outs)(t:Aa (λq=>q=db) w w')(b:Ty w' db n vF vB' vC' vX'):MkX w' base mb db n vF vB' vC' vX' vb vo kvs bbs Ks Bb outs:=by
 have a:∀k cur ty,w.heap[k]? =some (.cells cur ty (0,0))->ty≠142->¬k=db:=λk cur ty hk hty e=>by
  have d:=h.ds;unfold Ty at d
  grind
 exact⟨t.at_ h.blk (a _ _ _ h.blk d_),b,h.fe.touch t (λk cur ty hk hty _=>a k _ _ hk w_),h.bb.touch t (λk cur ty hk hty _=>a k _ _ hk w_),
  t.row h.ou (λk hk=>by obtain⟨c,f⟩:=Ad h.ou hk;grind),h.len,h.rows,h.one⟩
end
structure Tb(w wr)(db n)(vF vB vC vX vc vd)(bvs)(Fs:List (List Nat))(cs)(dl):Prop where
 tch:Aa (λq=>q=db) w wr
 ds:Ty wr db n vF vB vC vX
 bu:Mg wr w.heap.size vB bvs (Fs.map Av)
 cf:Ag wr w.heap.size vc (Av cs)
 ap:∀i,i<Fs.length->Ch vc (bvs.getD i Cz)
 dn:Ev wr w.heap.size vd dl
 lt:db<w.heap.size
section
variable {w wr wr':World} {db n:Nat} {vF vB vC vX vc vd:Value} {bvs:List Value} {Fs:List (List Nat)} {cs:List Nat} {dl:List Bool}
def Tb.below(h:Tb w wr db n vF vB vC vX vc vd bvs Fs cs dl)(a:Below wr.heap.size wr wr'):Tb w wr' db n vF vB vC vX vc vd bvs Fs cs dl:=by have t:=Aa.of_below (S:=λ_=>False) a;exact⟨h.tch.below a,t.at_ h.ds id,h.bu.below a,h.cf.below a,h.ap,t.row h.dn (λ_ _=>id),h.lt⟩
def Ty.lt(h:Ty w db n vF vB vC vX):db<w.heap.size:=(Qb h).1
def Ty.ne(h:Ty w db n vF vB vC vX){k ty:Nat}{cur}(hk:w.heap[k]? =some (.cells cur ty (0,0)))(hty:ty≠142):k≠db:=λe=>by
 unfold Ty at h
 grind
def Tb.done{g c i m b}(h:Tb w wr db n vF vB vC vX vc (L_ g m c) bvs Fs cs dl)(l:dl.length=m):Tb w (wr.setCell (A_ g i) (.bool b)) db n vF vB vC vX vc (L_ g m c) bvs Fs cs (dl.set i b):=by
 obtain⟨o,s⟩:=Ad h.dn (k:=g) rfl;have r:=(rl_ h.dn g rfl).1;have t:Aa _ _ (wr.setCell _ (.bool b)):=(Aa.refl (λq=>q=g) _).setCell (p:=(A_ g i)) (λ_=>rfl) _
 have a:∀k d ty,wr.heap[k]? =some (.cells d ty (0,0))->ty≠4->¬k=g:=λk d ty hk hty e=>w_
 have j:Ev (wr.setCell (A_ g i) (.bool b)) w.heap.size (L_ g m c) (dl.set i b):=(by have f:=h.dn;unfold Ev at f ⊢;rw[l] at f;rw[List.length_set,l,List.map_set];exact(World.ownsRow.stored f i _).1);exact⟨h.tch.setCell (p:=(A_ g i)) (λhlt=>by simp at hlt;omega) _,t.at_ h.ds (a _ _ _ h.ds d_),h.bu.touch t (λk d ty hk hty _=>a k _ _ hk w_),t.row h.cf (λk hk=>by obtain⟨d,u⟩:=Ad h.cf hk;grind),h.ap,j,h.lt⟩
def Tb.grow{q c b u L}(h:Tb w wr db n vF (L_ q Fs.length c) vC vX vc vd bvs Fs cs dl)(s:b<Fs.length)(g:wr.grownBy wr' (bvs.getD b Cz).ownBlock)(x:Ag wr' w.heap.size u (Av L))(v:u.ownBlock=(bvs.getD b Cz).ownBlock∨u.ownBlock=some wr.heap.size):Tb w (wr'.setCell (A_ q b) u) db n vF (L_ q Fs.length c) vC vX vc vd (bvs.set b u) (Fs.set b L) cs dl:=by
 have d:b<(Fs.map Av).length:=w_;have l:=h.bu.each b d;have t:=(Aa.refl _ _).grown g (λk hk _=>hk);have A:Mg wr w.heap.size (L_ q (Fs.map Av).length c) bvs (Fs.map Av):=(by rw[List.length_map];exact h.bu);have o:=A.grow d g x v;rw[List.length_map] at o;have j:∃f,wr'.heap[q]? =some (.cells f 25 (0,0)):=by have z:=World.ownsRow.kept h.bu.row g (An l h.bu.row d_);exact Ad z (k:=q) rfl
 obtain⟨f,j⟩:=j;have r:=(rl_ h.bu.row q rfl).1;have a:Ty _ _ n _ _ _ _:=t.at_ h.ds (λe=>by obtain⟨C,B⟩:=Ad l e;exact h.ds.ne B d_ rfl);have y:Aa _ _ (wr'.setCell _ u):=(Aa.refl (λk=>k=q) _).setCell (p:=(A_ q b)) (λ_=>rfl) _;refine⟨(h.tch.grown g (λk hk hlt=>by have:=(rl_ l k hk).1;omega)).setCell (p:=(A_ q b)) (λhlt=>by simp at hlt;omega) _,y.at_ a (λe=>a.ne j d_ e.symm),by rw[List.map_set];exact o,?_,λi hi=>?_,?_,h.lt⟩;exact As (Ag.kept h.cf g ((h.ap b s).symm.keeps)) j d_
 ·rw[List.length_set] at hi
  by_cases e:i=b
  subst e;have m:(bvs.set i u).getD i Cz=u:=(by have:=h.bu.len;grind);rw[m];exact(Ch.moved (h.ap i s).symm h.cf v).symm;have m:(bvs.set b u).getD i Cz=bvs.getD i Cz:=w_;rw[m];exact h.ap i hi
 exact As (World.ownsRow.kept h.dn g (An l h.dn d_)) j d_
def Tb.conf{g c b m z}(h:Tb w wr db n vF vB vC vX (L_ g m c) vd bvs Fs cs dl)(o:cs.length=m):Tb w (wr.setCell (A_ g b) (I_ (z:Nat))) db n vF vB vC vX (L_ g m c) vd bvs Fs (cs.set b z) dl:=by
 obtain⟨j,u⟩:=Ad h.cf (k:=g) rfl;have l:=(rl_ h.cf g rfl).1;have t:Aa _ _ (wr.setCell _ (I_ (z:_))):=(Aa.refl (λq=>q=g) _).setCell (p:=(A_ g b)) (λ_=>rfl) _
 have f:∀k d ty,wr.heap[k]? =some (.cells d ty (0,0))->ty≠3->¬k=g:=λk d ty hk hty e=>w_
 have a:=(Ag.put h.cf (k:=b) (by rw[Aw];exact o.symm) (z:Int)).1;have e:(Av cs).set b z=Av (cs.set b z):=(by unfold Av;rw[List.map_set]);rw[e] at a
 have r:Mg _ _ _ _ _:=
  ⟨t.row h.bu.row (λk hk=>by obtain⟨d,s⟩:=Ad h.bu.row hk;grind),λi hi=>t.row (h.bu.each i hi) (λk hk e=>by
   have:=h.ap i w_;subst e
   rcases this with e|e|e
   simp[Value.ownBlock] at e
   ·grind
   exact e (by rw[hk];rfl)),h.bu.apart⟩
 exact⟨h.tch.setCell (p:=(A_ g b)) (λhlt=>by simp at hlt;omega) _,t.at_ h.ds (f _ _ _ h.ds d_),r,a,h.ap,t.row h.dn (λk hk=>by obtain⟨d,s⟩:=Ad h.dn hk;grind),h.lt⟩
def Tb.newB{u vB' L}(h:Tb w wr db n vF vB vC vX vc vd bvs Fs cs dl)(d:Ag wr w.heap.size u (Av L))(f:∀i,i<Fs.length->Ch (bvs.getD i Cz) u)(b:Ch vc u)(g:wr.grownBy wr' vB.ownBlock)(r:wr'.ownsRow w.heap.size 25 1 vB' (Fs.length+1) (bvs++[u])):Tb w (wr'.setCell (A_ db 2) vB') db n vF vB' vC vX vc vd (bvs++[u]) (Fs++[L]) cs dl/\Ty wr' db n vF vB vC vX:=by
 have t:=(Aa.refl _ _).grown g (λk hk _=>hk);have a:Ty _ _ n _ _ _ _:=t.at_ h.ds (λe=>by obtain⟨o,j⟩:=Ad h.bu.row e;exact h.ds.ne j d_ rfl);have c:=h.bu.more (L:=Av L) d (λi hi=>f i w_) g (by rw[List.length_map];exact r);have m:Aa _ _ (wr'.setCell _ vB'):=(Aa.refl (λk=>k=db) _).setCell (p:=(A_ db 2)) (λ_=>rfl) _;have l:=h.bu.len;rw[List.length_map] at l;refine⟨⟨(h.tch.grown g (λk hk hlt=>by have:=(rl_ h.bu.row k hk).1;omega)).setCell (p:=(A_ db 2)) (λ_=>rfl) _,ht_ 2 _ _ _ a,?_,?_,λi hi=>?_,?_,h.lt⟩,a⟩;rw[List.map_append];exact c.touch m (λk o ty hk hty _=>a.ne hk w_);exact As (Ag.kept h.cf g (An h.bu.row h.cf d_)) a d_
 ·rw[Qe,List.length_singleton] at hi
  by_cases e:i<Fs.length
  have q:(bvs++[u]).getD i Cz=bvs.getD i Cz:=w_;rw[q];exact h.ap i e
  grind
 exact As (World.ownsRow.kept h.dn g (An h.bu.row h.dn d_)) a d_
def Tb.newC{a}{z:Nat}(h:Tb w wr db n vF vB vC vX vc vd bvs Fs cs dl)(g:wr.grownBy wr' vc.ownBlock)(f:Ag wr' w.heap.size a (Av cs++[(z:Int)]))(c:a.ownBlock=vc.ownBlock∨a.ownBlock=some wr.heap.size):Tb w wr' db n vF vB vC vX a vd bvs Fs (cs++[z]) dl:=by have t:=(Aa.refl _ _).grown g (λk hk _=>hk);have b:Ty _ _ n _ _ _ _:=t.at_ h.ds (λe=>by obtain⟨j,d⟩:=Ad h.cf e;exact h.ds.ne d d_ rfl);refine⟨h.tch.grown g (λk hk hlt=>by have:=(rl_ h.cf k hk).1;omega),b,⟨World.ownsRow.kept h.bu.row g (An h.cf h.bu.row d_),λi hi=>Ag.kept (h.bu.each i hi) g (h.ap i w_).keeps,h.bu.apart⟩,by unfold Av at *;grind,λi hi=>Ch.moved (h.ap i hi) (h.bu.each i w_) c,World.ownsRow.kept h.dn g (An h.cf h.dn d_),h.lt⟩
end
def Cl a b:strOfNums a++strOfNums b=strOfNums (a++b):=by apply ByteArray.ext;simp[strOfNums]
def ja n:Ba n 1=[n%256]:=rfl
theorem ZbX L p:∀k,k<=L.length->kv (L++[p]) k=kv L k
 |0,_=>rfl
 |k+1,h=>by have e1:(L++[p]).getD k (0,0)=L.getD k (0,0):=w_;have e2:Ek (L++[p]) k=Ek L k:=(by grind [Ek]);simp only[kv];rw[ZbX L p k o_,e1,e2]
def ZiN L p:kv (L++[p]) (L.length+1)=kv L L.length++[(p.1-Ek L L.length)%256,p.2%256]:=by grind [Ek,kv,ZbX]
theorem eu L p:Ek (L++[p]) (L.length+1)=p.1:=by unfold Ek;simp[List.getD]
theorem ZiL N:∀k,k<=N.length->(Fu N k).length=Dj ((nzL N).take k)
 |0,_=>by simp[Fu,Dj]
 | k +1,h=>by
  have hk:k<(nzL N).length:=by rw[Vm];omega
  have e:(nzL N)[k]=decide (N.getD k 0≠0):=by
   have:=Zbr (N:=N) (k:=k) o_
   grind
  rw[Qi hk,My,<- ZiL N k o_,e];simp only[Fu]
  grind
def Zkx N:(Fu N N.length).length=nzN N:=by grind [ZiL,nzN,Vm]
def Zat N:∀k,-1<=Ek (Fu N k) (Fu N k).length/\Ek (Fu N k) (Fu N k).length<k
 |0=>by simp[Fu,Ek]
 | k+1=>by
  have:=Zat N k
  grind [Fu,eu]
def Zcu:∀g:Fin 64,∀b:Fin 7,b.val<Lib.bitLen g.val->0<g.val/2^b.val:=by decide+kernel
def Zds f a T (h:f T=0):Cd f a (T+1)=Cd f a T:=by
 have:=Xm f a T;rw[<- this,fm,h,Nat.zero_mul,Nat.add_zero];apply List.ext_getElem;simp
 grind [Cd]
def Zf1 a (c g:Nat) N w (h:NuV w a N)(hn:N.length<=200)(hg:g<64)(hv:∀r,N.getD r 0<=1000000):C_ 136 #[.slice a N.length c,.int .i64 g] w λe w'=>e=.returned (.string (strOfNums (Kz N g)))/\Below w.heap.size w w':=by
 have HN:=x1_ h;have HV:=x1_ hv;have M:Hid (Kz N g=if 4*(Fu N N.length).length<N.length then zv (Fu N N.length) else 100::Cd (Dr N (Lib.bitLen g)) ((N.length*Lib.bitLen g+7)/8) (N.length*Lib.bitLen g)):=(by show _=_;rw[Zkx];rfl);obtain⟨n,V⟩:=ey_ N.length;have HL:=x1_ V;have I:=x1_ (Vy N);rw[V] at hn M ⊢;clear h hv V;go_enter Tryz.func136,Tryz.ntmps136;go_upto_region 5 with fail;go_loopw [5,6,7,8] (λt5 t6 t7 t8 wr=>∃(r:Nat) (S:ByteArray),t5=.int .i64 ((Fu N r).length:Nat)/\t6=.string S/\t7=.int .i64 (Ek (Fu N r) (Fu N r).length)/\t8=.int .i64 r/\r<=n/\Hid (S=strOfNums (kv (Fu N r) (Fu N r).length))/\Hid (E_ w wr)) (λ_ _ _ t8 _=>n-(intOf t8).toNat)
 case atStart=>exact⟨0,_,rfl,rfl,rfl,rfl,qg_,rfl,bz_⟩
 case round=>
  obtain⟨r,S,rfl,rfl,rfl,rfl,hr,G,m⟩:=hrel
  by_cases hin:r<n
  ·have g1:r<(n:Int):=o_;have g0:0<=(r:Int):=o_;obtain⟨q,rfl,B⟩:=HN r (by rw[HL];exact hin);have Y:=Ac m B;have hx:=HV r;have H:Hid (Fu N (r+1)=_++_):=rfl;obtain⟨x,t⟩:=ey_ (N.getD r 0);rw[t] at B Y hx H;have aC:=World.block_lt_of_cell? _ _ B;clear t;have ha:=Zat N r;have a4:=I r
   by_cases hx0:x=0
   ·subst hx0;have F:Hid (Fu N (r+1)=Fu N r):=w_;clear H;refine rd_ ?_;exact⟨r+1,S,by rw[F],rfl,by rw[F],g_,o_,by rw[F];exact G,m⟩
   have F:Hid (Fu N (r+1)=Fu N r++[(r,x)]):=w_;have bH:¬(x:Int)=0:=o_;clear H;obtain⟨L,hL⟩:=ey_ (Fu N r);have bI:=x1_ hL;rw[hL] at ha a4 G F ⊢;clear hL;obtain⟨la,O⟩:=ey_ (Ek L L.length);have aQ:=x1_ O;rw[O] at ha ⊢;clear O;obtain⟨d,hd⟩:∃d:Nat,r-la=d:=⟨((r:Int)-la).toNat,o_⟩;have q1:_=(d:Int):=Cb o_ o_;have a8:Hid (∀W,E_ w W->C_ 135 #[_,.int .i64 1] W λe w'=>_/\_):=λW hW=>(Qw _ d 1 W o_ o_ (.inl ⟨o_,rfl⟩)).mono (λ_ _ h=>⟨h.1,hW.trans (h.2.mono hW.size)⟩);have A:Hid (∀W,E_ w W->C_ 135 #[_,.int .i64 1] W λe w'=>_/\_):=λW hW=>(Qw _ x 1 W o_ o_ (.inl ⟨o_,rfl⟩)).mono (λ_ _ h=>⟨h.1,hW.trans (h.2.mono hW.size)⟩)
   have aU:S.size<=2000:=by rw[G,Br,Vz];omega
   have a6:(strOfNums (Ba d 1)).size=1:=(by rw[Br];rfl);have b3:(strOfNums (Ba x 1)).size=1:=by rw[Br];rfl
   have aN:Hid (strOfNums (kv (L++[(r,x)]) (L++[(r,x)]).length)=S++strOfNums (Ba d 1)++strOfNums (Ba x 1)):=(by show _=_;rw[Qe,List.length_singleton,ZiN,aQ,hd,G,Cl,Cl,ja,ja,List.append_assoc];rfl);have aT:Hid (Ek (L++[(r,x)]) (L++[(r,x)]).length=r):=(by show _=_;rw[Qe,List.length_singleton,eu]);have aO:Hid ((L++[(r,x)]).length=L.length+1):=(by show _=_;simp);generalize strOfNums (Ba (d:Nat) 1)=s1,strOfNums (Ba (x:Nat) 1)=s2,L.length=ll at *;have z1:¬9223372036854775807<S.size+s1.size:=o_;have z2:¬9223372036854775807<S.size+s1.size+s2.size:=o_;clear a6 b3;go_upto_region 9 with fail;have o:=m.out;go_cut [6] (λv wx=>v=.string (S++s1++s2)/\Hid (E_ w wx))
   case first=>
    refine Al (λw'=>w'.cell? _=some _) 12 k_ Y (λhHeld=>?_);refine Ah 0 ?_;refine Ah 1 ?_;refine Ah 2 ?_;refine Ah 3 ?_;refine Ah 6 ?_;refine Ah 7 ?_;refine Ah 8 ?_;refine Tx [10,11,12] 9 (v:=?_) ?_ ?_
    rotate_left;· intro w aV;go_simp;try with_reducible rfl
    try simp only[Act.put,sA,sB,sC]
    refine Af (i:=4) k_ rfl (λKK hK=>?_);go_simp;refine(a8 _ o.drew).mono ?_;rintro e w2 ⟨rfl,s⟩;go_simp;refine hK _ _ ((s.cell (p:=(A_ q r)) aC).trans B) (λhHeld=>?_);clear hK KK;try simp only[Act.put,sA,sB,sC]
    refine Ah 5 ?_;refine Af (i:=10) k_ rfl (λKK hK=>?_);go_simp;refine(A _ s).mono ?_;rintro e w3 ⟨rfl,aW⟩;go_simp;refine hK _ _ ((aW.cell (p:=(A_ q r)) aC).trans B) (λhHeld=>?_);clear hK KK;try simp only[Act.put,sA,sB,sC]
    refine Ah 11 ?_;refine Ai (i:=12) k_ rfl k_ (λKK hK=>?_);go_simp;refine hK _ _ ?_;clear hK KK;try simp only[Act.put,sA,sB,sC]
    refine Ak k_ ?_ _;go_wp2;go_meet
    grind
   case rest=>
   obtain⟨rfl,U⟩:=hcut;clear m o a8 A Y;refine rd_ ?_;exact⟨r+1,_,by rw[F,aO];go_num,rfl,by rw[F,aT],g_,o_,by rw[F];exact aN.symm,U⟩
  have aS:r=n:=o_;subst aS;have bA:¬r<(r:Int):=o_;have a4:=I r;clear I
  by_cases h4:4*(Fu N r).length<r
  ·have C:Hid (Kz N g=zv (Fu N r)):=w_;have X:Hid (strOfNums (zv (Fu N r))=({data:=#[115]}:ByteArray)++strOfNums (Ba (Fu N r).length 1)++S):=(by show _=_;rw[G,show({data:=#[115]}:ByteArray)=strOfNums [115] from rfl,Cl,Cl];rfl);have HP:=Qw ((Fu N r).length:Nat) (Fu N r).length 1;have aU:S.size<=2000:=by rw[G,Br,Vz];omega
   have a6:(strOfNums (Ba (Fu N r).length 1)).size=1:=(by rw[Br];rfl);have z1:¬9223372036854775807<1+(strOfNums (Ba (Fu N r).length 1)).size:=o_;have z2:¬9223372036854775807<1+(strOfNums (Ba (Fu N r).length 1)).size+S.size:=o_;generalize strOfNums (Ba ((Fu N r).length:Nat) 1)=s1,(Fu N r).length=ll at *;have a3:4*ll<(r:Int):=o_;have A:Hid (∀W,Calls _ 135 #[_,I_ 1] W λe w'=>_):=λW=>HP W o_ o_ (.inl ⟨o_,rfl⟩);clear HP M G h4;go_wp2_with fail
   refine(A _).mono ?_;rintro e w2 ⟨rfl,s⟩;have U:=x1_ (m.trans (s.mono m.size));clear s m A;go_wp2;go_ret;exact⟨by rw[C,X];rfl,U⟩
  have C:Hid (Kz N g=100::Cd (Dr N (Lib.bitLen g)) ((r*Lib.bitLen g+7)/8) (r*Lib.bitLen g)):=w_;have aH:=Re hg;have aI:=rq hg;have aD:Hid (∀b,b<Lib.bitLen g->0<g/_):=λb hb=>Zcu ⟨g,hg⟩ ⟨b,o_⟩ hb;generalize Lib.bitLen g=d at *;have a3:¬4*(Fu N r).length<(r:Int):=o_;generalize (Fu N r).length=ll at *;clear M G h4;generalize wr=w1 at *;go_upto_region 14 with fail;go_loopw [9] (λt9 wr=>∃b:Nat,t9=.int .i64 b/\b<=d/\Hid (w1=wr)) (λt9 _=>d-(intOf t9).toNat)
  case atStart=>exact⟨0,rfl,qg_,rfl⟩
  case round=>
   obtain⟨b,rfl,hb,hw⟩:=hrel;have aJ:=hw.out;subst aJ;clear hw
   by_cases hbd:b<d
   ·have aR:0<=(b:Int):=o_;have aK:(b:Int)<64:=o_;have hp:=aD b hbd;have a1:0<(g:Int)/2^b:=w_;clear hp;refine rd_ ?_;exact⟨b+1,g_,o_,True.intro⟩
   have aB:b=d:=o_;subst aB;have aR:0<=(b:Int):=o_;have aK:(b:Int)<64:=o_
   have a1:¬0<(g:Int)/2^b:=(by grind [Nat.div_eq_of_lt]);obtain⟨P,hP⟩:=ey_ (r*b);have bC:P<=1200:=(by rw[<- hP];exact Nat.mul_le_mul hn aH);have aZ:r*b=(P:Int):=(by rw[<- hP];simp);obtain⟨f,aG⟩:=ey_ ((P+7)/8);have q1:((P:Int)+7).tdiv 8=f:=w_;have q2:(P+7)/8=(f:Int):=o_;have aL:=Tt f o_;have E:Hid (_/\P<=8*f/\f<=200):=⟨hP,o_,o_⟩;rw[hP,aG] at C;clear hP aG aD aI;go_upto_region 17 with fail;have HO:Hid (Bj (w1.alloc (.cells (madeCells #[.int .u8 0] f) 5)) w1.heap.size (L_ w1.heap.size f f) (Cd (Dr N b) f 0)/\E_ w (w1.alloc (.cells (madeCells #[.int .u8 0] f) 5))):=by refine⟨?_,m.alloc m.size _⟩;rw[jm];exact Tr _ _ _ o_ qa_
   have aX:=m.size;clear aL q1 q2 a1 a3 m aZ;generalize w1.alloc (.cells (madeCells #[.int .u8 0] f) 5)=w2,w1.heap.size=q at *;go_upto_region 18 with fail;go_loopw [11] (λti wr=>∃i:Nat,ti=.int .i64 i/\i<=r/\Hid (Bj wr q (.slice (some ⟨q,0,none⟩) f f) (Cd (Dr N b) f (i*b))/\E_ w wr)) (λti _=>r-(intOf ti).toNat)
   case atStart=>grind
   case round=>
    clear HO;obtain⟨i,rfl,hi,j⟩:=hrel
    by_cases hir:i<r
    ·have i0 :0<=(i:Int):=o_;have i1:i<(r:Int):=o_;obtain⟨qn,rfl,B⟩:=HN i (by rw[HL];exact hir);have aM:=World.block_lt_of_cell? _ _ B;have hx:=HV i;obtain⟨Q,Z⟩:=ey_ (i*b);have bN:i*b=(Q:Int):=by rw[<- Z];simp
     have bF:Q+b<=P:=by
      rw[<- Z,<- E.1];have:(i+1)*b<=r*b:=Nat.mul_le_mul_right _ hir
      grind
     have a7:Hid (∀k,_->Dr N b (Q+k)=_%2):=λk hk=>by rw[<- Z];exact Zav N hk
     have HQ:=x1_ Z;rw[Z] at j;clear Z;obtain⟨x,t⟩:=ey_ (N.getD i 0);rw[t] at B hx a7;clear t;generalize wr=w3 at *;go_upto_region 21 with fail;go_loopw [12] (λtk wr=>∃k:Nat,tk=.int .i64 k/\k<=b/\Hid (Bj wr q (.slice (some ⟨q,0,none⟩) f f) (Cd (Dr N b) f (Q+k))/\E_ w wr)) (λtk _=>b-(intOf tk).toNat)
     case atStart=>exact⟨0,rfl,qg_,j⟩
     case round=>
      clear j;obtain⟨k,rfl,hk,j⟩:=hrel
      by_cases hkb:k<b
      ·have k0:0<=(k:Int):=o_;have k1:k<(b:Int):=o_;have k2:(k:Int)<64:=o_;have cx:=(j.2.cell (p:=(A_ qn i)) aM).trans B;have l:=a7 k hkb;have b6:=E.out;have e1:((x:Int)/2^k).tmod 2=(x/2^k%2:Nat):=by rw[show((x:Int)/2^k)=((x/2^k:Nat):Int) by simp];rfl
       rcases Nat.mod_two_eq_zero_or_one (x/2^k) with o|aF
       ·rw[o] at l e1;have HF:Hid (Cd _ f (Q+(k+1))=Cd _ _ (Q+k)):=Zds _ _ _ l;clear o l;refine rd_ ?_;exact⟨k+1,g_,o_,by rw[HF];exact j⟩
       rw[aF] at l e1;obtain⟨T,hT⟩:=ex_ (Q+k);obtain⟨J,hJ⟩:=ex_ (T/8);obtain⟨R,hR⟩:=ex_ (T%8);have aE:J<f:=o_;obtain⟨D,a2⟩:=j.1.cellK (k:=J) (by rw[Gp]) aE;rw[Tw _ _ aE] at D;obtain⟨y,hy⟩:=ex_ (Hd (Dr N b) (Q+k) J);have aP:y<2^R:=(by rw[hy,hJ,hR,<- hT];exact fp (Uj N b) T);have bB:R<8:=o_
       have aY:2^R<=128:=by
        have:(2:Nat)^R<=2^7:=Nat.pow_le_pow_right d_ o_
        simpa using this
       obtain⟨z,hz⟩:=ex_ (2^R);obtain⟨u,hu⟩:=ex_ (y+z);have a0:Hd (Dr N b) (Q+k+1) J=u:=by rw[hu,hz,hy,hJ,hR,<- hT,fm,hT,l,Nat.one_mul]
       have aA:Hid ((Cd (Dr N b) f (Q+k)).set J u=Cd (Dr N b) f (Q+(k+1))):=by show _=_;rw[<- a0];have:=Xm (Dr N b) f (Q+k);rw[<- hT,<- hJ,hT] at this;exact this
       have t1:Q+k=(T:Int):=o_;have t2:(T:Int).tdiv 8=J:=(by rw[Int.tdiv_eq_ediv_of_nonneg o_];omega);have t3:T/8=(J:Int):=o_;have t4:(T:Int).tmod 8=R:=(by rw[Int.tmod_eq_emod_of_nonneg o_];omega);have t5:T%8=(R:Int):=o_
       have t6:IntKind.u8.wrap (1*2^R)=z:=by
        rw[Int.one_mul,Wf _ (by have:(0:Nat)<=2^R:=qg_;exact_mod_cast this) (by
         have:((2:Int)^R)=((2^R:Nat):Int):=s_
         rw[this];omega)]
        rw[hz];simp
       have b7:IntKind.u8.wrap (2^R)=z:=(by rw[<- t6,Int.one_mul]);have t7:IntKind.u8.wrap (y+z)=u:=by rw[Wf _ o_ o_];omega
       have t8:_=(J:Int):=Cb o_ o_;have t9:_=(T:Int):=Cb o_ o_;have b8:0<=(R:Int):=o_;have bM:(R:Int)<=8:=o_;have b9:0<=(J:Int):=o_;have bG:J<(f:Int):=o_;have bT:(T:Int)<=1300:=o_;rw[<- hy] at D;have d1:wr.drew.cell? _=_:=D;have fq:wr.drew.frozen? _=_:=a2;clear aF l hT hJ hR D a2 hy aP hz hu a0 aY;go_upto_region 25 with fail;refine Al (λw'=>w'.cell? _=some _) 13 k_ d1 (λhHeld=>?_);refine Ah 0 ?_;refine Ah 1 ?_;refine Ah 2 ?_;refine Ah 3 ?_;refine Ah 4 ?_;refine Ah 5 ?_;refine Ah 6 ?_;refine Tx [11,12,13] 7 (v:=?_) ?_ ?_
       rotate_left;· intro w aV;go_simp;try with_reducible rfl
       try simp only[Act.put,sA,sB,sC]
       refine Ah 8 ?_;refine Ah 9 ?_;refine Ah 10 ?_;refine Ah 11 ?_;refine Ah 12 ?_;refine Ai (i:=13) k_ rfl k_ (λKK hK=>?_);go_simp;refine hK _ _ ?_;clear hK KK;try simp only[Act.put,sA,sB,sC]
       refine Ak k_ ?_ _;have b5:Hid (Bj (wr.setCell (A_ q J) (.int .u8 u)).drew q (L_ q f f) (Cd (Dr N b) f (Q+(k+1)))/\E_ w (wr.setCell (A_ q J) (.int .u8 u)).drew):=(by rw[<- aA];exact⟨World.ownsRow.drew (j.1.put (by rw[Gp]) _).1,(j.2.setCell (p:=(A_ q J)) aX _).drew⟩);clear j hHeld d1 fq cx;refine rd_ ?_;exact⟨k+1,g_,o_,b5⟩
      have a9:k=b:=o_;subst a9;have bK:¬k<(k:Int):=o_
      have HF:Hid (Bj wr q (L_ q f f) (Cd (Dr N k) f ((i+1)*k))/\E_ w wr):=(by have:(i+1)*k=Q+k:=(by rw[Nat.add_mul,Nat.one_mul,HQ]);rw[this];exact j);clear j;refine rd_ ?_;exact⟨i+1,g_,o_,HF⟩
    have a5:i=r:=o_;subst a5;have bD:¬i<(i:Int):=o_;have bE:=Pz _ q _ _ j.1;have HF:=x1_ j.2;have X:Hid (strOfNums (Kz N g)=({data:=#[100]}:ByteArray)++strOfNums (Cd (Dr N b) f (i*b))):=(by show _=_;rw[C,E.1,show({data:=#[100]}:ByteArray)=strOfNums [100] from rfl,Cl];rfl);have bL:(strOfNums (Cd (Dr N b) f (i*b))).size=f:=(by rw[Br,Gp]);have bO:=E.2.2;have z1:¬9223372036854775807<1+(strOfNums (Cd (Dr N b) f (i*b))).size:=o_;clear j;generalize strOfNums (Cd (Dr N b) f (i*b))=sp at *;go_wp2;go_ret;exact⟨by rw[X];rfl,HF⟩
def Ra u t o l L w (k:Ag w u o L)(p:Ag w t l L)(F:L.length<=1000000):C_ 140 #[o,l] w λe w'=>e=.returned (.bool true)/\∃m,w'=w.drewN m:=by
 obtain⟨a,c,rfl,D⟩:=k.form;obtain⟨r,E,rfl,g⟩:=p.form
 have s:Hid (∀i,i<L.length->∃b d,a=some ⟨b,0,none⟩/\r=some ⟨d,0,none⟩/\w.cell? (A_ b i)=some (I_ (L.getD i 0))/\w.cell? (A_ d i)=some (I_ (L.getD i 0))):=λi hi=>w_
 clear k p D g;generalize L.length=n at *;go_enter Tryz.func140,Tryz.ntmps140;go_upto_region 4 with fail;go_loopw [5] (λti wr=>∃(i m:Nat),i<=n/\ti=.int .i64 i/\Hid (wr=w.drewN m)) (λti _=>n-(intOf ti).toNat)
 case atStart=>exact⟨0,0,qg_,rfl,rfl⟩
 case round=>
  obtain⟨i,m,B,rfl,j⟩:=hrel;have C:=j.out;subst C;clear j
  by_cases hi:i<n
  ·have v:0<=(i:Int):=o_;have A:i<(n:Int):=o_;obtain⟨b,d,rfl,rfl,x,h⟩:=s i hi;have y:(w.drewN m).cell? (A_ b i)=some (I_ (L.getD i 0)):=(by rw[<- x];exact cb_ (below_drewN (br_ _ w) m|>.block _ (World.block_lt_of_cell? w _ x)));have G:(w.drewN m).cell? (A_ d i)=some (I_ (L.getD i 0)):=(by rw[<- h];exact cb_ (below_drewN (br_ _ w) m|>.block _ (World.block_lt_of_cell? w _ h)));clear x h;generalize L.getD i 0=z,hW:w.drewN m=w1 at *;have f:=x1_ hW;clear hW;go_upto_region 6 with fail;go_quiet (fail);refine rd_ ?_;exact⟨i+1,_,o_,g_,by rw[<- f];exact World.drewN_drewN _ _ _⟩
  have q:¬i<(n:Int):=o_;go_wp2;go_ret;exact⟨rfl,_,rfl⟩
def zt t s o l L w (h:Cc w t o L)(j:Cc w s l L)(D:L.length<=1000000):C_ 141 #[o,l] w λe w'=>e=.returned (.bool true)/\∃m,w'=w.drewN m:=by
 obtain⟨a,c,rfl⟩:=h.form;obtain⟨q,C,rfl⟩:=j.form
 have r:Hid (∀i,i<L.length->∃b d,a=some ⟨b,0,none⟩/\q=some ⟨d,0,none⟩/\w.cell? (A_ b i)=some (.string (L.getD i ⟨#[]⟩))/\w.cell? (A_ d i)=some (.string (L.getD i ⟨#[]⟩))):=λi hi=>by
  obtain⟨b,e,_,x⟩:=h.atW rfl hi ⟨#[]⟩;obtain⟨d,E,_,f⟩:=j.atW rfl hi ⟨#[]⟩
  grind
 clear h j;generalize L.length=n at *;go_enter Tryz.func141,Tryz.ntmps141;go_upto_region 4 with fail;go_loopw [5] (λti wr=>∃(i m:Nat),i<=n/\ti=.int .i64 i/\Hid (wr=w.drewN m)) (λti _=>n-(intOf ti).toNat)
 case atStart=>exact⟨0,0,qg_,rfl,rfl⟩
 case round=>
  obtain⟨i,m,A,rfl,k⟩:=hrel;have B:=k.out;subst B;clear k
  by_cases hi:i<n
  ·have u:0<=(i:Int):=o_;have v:i<(n:Int):=o_;obtain⟨b,d,rfl,rfl,x,f⟩:=r i hi;have y:(w.drewN m).cell? (A_ b i)=some (.string (L.getD i ⟨#[]⟩)):=(by rw[<- x];exact cb_ (below_drewN (br_ _ w) m|>.block _ (World.block_lt_of_cell? w _ x)));have F:(w.drewN m).cell? (A_ d i)=some (.string (L.getD i ⟨#[]⟩)):=(by rw[<- f];exact cb_ (below_drewN (br_ _ w) m|>.block _ (World.block_lt_of_cell? w _ f)));clear x f;generalize L.getD i ⟨#[]⟩=z,hW:w.drewN m=w1 at *;have g:=x1_ hW;clear hW;go_upto_region 6 with fail;go_quiet (fail);refine rd_ ?_;exact⟨i+1,_,o_,g_,by rw[<- g];exact World.drewN_drewN _ _ _⟩
  have p:¬i<(n:Int):=o_;go_wp2;go_ret;exact⟨rfl,_,rfl⟩
end Go.Proofs.YtfcgnpchbcmdeaaGreat
