import Derived.Test.YtfcgnpchbcmdeaaGreatZrbh
namespace Go.Proofs.YtfcgnpchbcmdeaaGreat
set_option linter.all false
set_option maxRecDepth 100000
set_option maxHeartbeats 8000000
open Go.RowKit
def Ki(ss:List ByteArray):List Int:=ss.flatMap (λs=>s.size%256::Aq s)
def uy{L:List ByteArray}{k}(h:k<L.length) d:Ki (L.take (k+1))=Ki (L.take k)++((L.getD k d).size:Int)%256::Aq (L.getD k d):=by
 unfold Ki;rw[Qi h,List.flatMap_append]
 grind
def yo(k:KS):List Int:=[119,(k.d:Int)%256,k.e.cnt%256]++Ki k.e.ww
def Hb.own{c w v d}(h:Hb c w v d):Bj w c.heap.size v d:=by
 refine⟨h.ow.1,?_⟩
 rcases h.ow.2 with f|⟨g,a,b,e,_,r⟩
 exact .inl f;exact .inr ⟨g,a,b,e,h.nw g (by rw[e];rfl),r⟩
def Hb.of_own{a w v b}(c:Below a.heap.size a w)(h:Bj w a.heap.size v b):Hb a w v b:=by
 refine⟨c,⟨h.1,?_⟩,λk hk=>(rl_ h k hk).1⟩
 rcases h.2 with i|⟨g,d,f,e,_,r⟩
 exact .inl i
 grind
def Cc.atW{w b a n c L}(h:Cc w b (.slice a n c) L)(i:L.length=n){k}(j:k<n) d:∃q,a=some ⟨q,0,none⟩/\q<w.heap.size/\w.cell? (A_ q k)=some (.string (L.getD k d)):=by
 have f:=h;subst i
 rcases h.2 with⟨e,h0⟩|⟨g,cap,cur,e,_,hh,_⟩
 omega;simp only[Value.slice.injEq,true_and] at e;obtain⟨rfl,rfl⟩:=e;refine⟨g,rfl,(Qb hh).1,?_⟩;rw[World.ownsRow.cellAt f k o_]
 grind
theorem Pt b:(Aq b).length=b.size:=by unfold Aq;rw[List.length_map];rfl
def ky s:Go.Lib.strCells s=(Aq s).map (Value.int .u8):=by unfold Go.Lib.strCells Aq;rw[List.map_map];rfl
def Xd Y ab aw cb cw k a c y w (L:k.e.wd=true)(hI:Cc Y 0 (.slice aw k.e.ww.length cw) k.e.ww)(ho:Hb Y w (.slice a y.length c) y)(aW:k.e.ww.length<=1000)(hr:∀x∈k.e.ww,x.size<=8)(hl:y.length<=900000):C_ 100 #[.agg #[.bool k.e.wd,.slice ab 0 cb,.slice aw k.e.ww.length cw,.int .i64 k.d],.slice a y.length c] w λe w'=>eo Y (y++yo k) e w':=by
 rw[L];have H0:=x1_ ho;have HI:=x1_ hI;have aP:=x1_ hr;have G:k.e.cnt=k.e.ww.length:=by unfold ES.cnt Ky;rw[L];rfl
 have aO:Hid (yo k=[119,(k.d:Int)%256,k.e.ww.length%256]++Ki k.e.ww):=by show _=_;unfold yo;rw[G]
 have aM:Hid (∀W:_,Calls _ 169 _ W λe w'=>e=.returned (.int _ ((k.e.ww.length:Nat):Int))/\_):=λW=>Wo true ab aw 0 cb _ cw W;obtain⟨i0,C,Z,X,O⟩:=info_parts Nc;have a2:Hid _:=ho.ow;clear hI ho hr L G;generalize k.d=d,hbl:y.length=bl,hnb:k.e.ww.length=nb at *;have A:=x2_ hbl hnb;clear hbl hnb;go_enter Tryz.func100,Tryz.ntmps100;go_upto_region 4 with fail;generalize hW1:w.alloc (.cells #[.bool true,.slice ab 0 cb,.slice aw nb cw,I_ (d:Nat)] 172)=w1;have aI:E_ w w1:=(by rw[<- hW1];exact bA_);have h:w1.heap[w.heap.size]? =some (.cells #[.bool true,.slice ab 0 cb,.slice aw nb cw,I_ d] 172 (0,0)):=(by rw[<- hW1];exact hn_);have l:=(Qb h).1;have x0:=cR_ 0 h;have x1:=cR_ 1 h;have x2:=cR_ 2 h;have x3:=cR_ 3 h
 have aE:=x2_ h aI;clear hW1 aI h;refine Al (λw'=>w'.cell? _=some _/\w'.cell? _=some _/\w'.cell? _=some _/\w'.cell? _=some _) 11 k_ ⟨x0,x1,x2,x3⟩ (λhHeld=>?_);refine Ah 0 ?_;refine Ah 1 ?_;refine Ah 2 ?_;refine Tx [4,9,10,11] 3 (v:=?_) ?_ ?_
 rotate_left
 ·intro w R;try obtain⟨_,_,_,_⟩:=R
  go_simp;try with_reducible rfl
 try simp only[Act.put,sA,sB,sC]
 refine Ah 4 ?_;refine Ah 5 ?_;refine Tx [7,8,9,10,11] 6 (v:=?_) ?_ ?_
 rotate_left
 ·intro w R;try obtain⟨_,_,_,_⟩:=R
  go_simp;try with_reducible rfl
 try simp only[Act.put,sA,sB,sC]
 refine Af (i:=7) k_ rfl (λKK hK=>?_);go_simp;refine(aM _).mono ?_;rintro e I ⟨rfl,aC⟩;have b:=(br_ w1.heap.size _).drew.trans aC;have y0:=(b.cell (p:=(A_ w.heap.size 0)) l).trans x0;have y1:=(b.cell (p:=(A_ w.heap.size 1)) l).trans x1;have y2:=(b.cell (p:=(A_ w.heap.size 2)) l).trans x2;have y3:=(b.cell (p:=(A_ w.heap.size 3)) l).trans x3;have g:=Qh l b.size;go_simp;refine hK _ _ ⟨y0,y1,y2,y3⟩ (λhHeld=>?_);clear hK KK aC;try simp only[Act.put,sA,sB,sC]
 refine Ah 8 ?_;refine Af (i:=9) k_ rfl (λKK hK=>?_);go_simp;refine hK _ _ ⟨(Below.cell (B:=I.heap.size) (p:=(A_ w.heap.size 0)) bA_ g).trans y0,(Below.cell (B:=I.heap.size) (p:=(A_ w.heap.size 1)) bA_ g).trans y1,(Below.cell (B:=I.heap.size) (p:=(A_ w.heap.size 2)) bA_ g).trans y2,(Below.cell (B:=I.heap.size) (p:=(A_ w.heap.size 3)) bA_ g).trans y3⟩ (λhHeld=>?_);clear hK KK;try simp only[Act.put,sA,sB,sC]
 refine Af (i:=10) k_ rfl (λKK hK=>?_);have m:=aE.2.trans (b.mono (Nat.le_of_lt l));refine Az rfl (.tmp 13) (.tmp 22) 66 rfl 0 5 i0 (.int .u8 0) 1 1 Tryz.underlying66 C Z X O rfl d_ (.slice a bl c) bl (y.map (Value.int .u8)) j_ (ra_ (w:=I) ((Aa.of_below (S:=λ_=>False) m).row a2 (λ_ _=>id)) _) (A_ I.heap.size 0) 3 3 [.int .u8 119,.int .u8 ((d:Int)%256),.int .u8 ((nb:Int)%256)] j_ rfl (Am I _ 5) (by intro u hu;simp at hu;rcases hu with rfl|rfl|rfl<;>rfl) d_ m_ o_ s_ ?_;intro v6 w6 H6;obtain⟨r6,g6,aA,_,q6,p6,aQ⟩:=H6;have H:Below _ w (I.alloc (.cells #[.int .u8 119,.int .u8 ((d:Int)%256),.int .u8 ((nb:Int)%256)] 5)):=m.alloc m.size _
 have a9:=Ec.pre H (Ec.of_mark g6 aA qa_);have aJ:Bj _ 0 _ (_++[_,_,_]):=Bj.more (n:=3) (by rw[A.1];exact r6) rfl
 have r:=(g6.block _ t_ (λe=>by
  have:=(rl_ a2 _ e.symm).2
  omega)).trans ((hc_ g).trans ((b.block _ l).trans aE.1))
 have h0:=H0.out;have a0:=x2_ (h0.app aJ a9) r;have z0:=cR_ 0 r;have z1:=cR_ 1 r;have z2:=cR_ 2 r;have z3:=cR_ 3 r;subst aQ;clear r6 g6 aA H a9 aJ r h0 y0 y1 y2 y3 m;refine hK _ _ ⟨z0,z1,z2,z3⟩ (λhHeld=>?_);clear hK KK;try simp only[Act.put,sA,sB,sC]
 refine Ai (i:=11) k_ rfl k_ (λKK hK=>?_);go_simp;refine hK _ _ ?_;clear hK KK;try simp only[Act.put,sA,sB,sC]
 refine Ak k_ ?_ _;clear x0 x1 x2 x3 hHeld;have e1:=cR_ 1 a0.2;clear z0 z1 z2 z3 hHeld;go_wp2_with fail
 go_loopw [1,28] (λtv ti wr=>tv=.slice (some ⟨q6,0,none⟩) (bl+3) p6/\ti=.int .i64 0/\Hid (w6=wr)) (λ_ _ _=>0)
 case atStart=>exact⟨rfl,rfl,rfl⟩
 case round=>
  obtain⟨rfl,rfl,hw⟩:=hrel;have aU:=hw.out;subst aU;clear hw;have e2:=cR_ 2 a0.2;go_wp2_with fail
  go_loopw [1,40] (λtv ti wr=>∃(j:Nat) (aj:Option Addr) (cj:Nat) (s:List Int),tv=.slice aj s.length cj/\ti=.int .i64 j/\j<=nb/\Hid (s=y++[119,(d:Int)%256,(nb:Int)%256]++Ki (k.e.ww.take j))/\s.length<=bl+3+9*j/\Hid (Hb Y wr (.slice aj s.length cj) s/\wr.heap[w.heap.size]? =some (.cells #[.bool true,.slice ab 0 cb,.slice aw nb cw,.int .i64 (d:Nat)] 172 (0,0)))) (λ_ ti _=>nb-(intOf ti).toNat)
  case atStart=>
   have aL:(y++[119,(d:Int)%256,nb%256]).length=bl+3:=(by rw[Qe,A.1];rfl);refine⟨0,some _,p6,y++[119,(d:Int)%256,(nb:Int)%256],by rw[aL],rfl,qg_,?_,o_,?_⟩;show _=_;rw[List.take_zero];simp[Ki]
   grind
  case round=>
   clear a0 e2 e1;obtain⟨j,aj,cj,s,rfl,rfl,hj,Q,aS,E⟩:=hrel;have aY:=(Qb E.2).1
   by_cases hjl:j<nb
   ·have aT:j<k.e.ww.length:=(by rw[A.2];exact hjl);have aH:=HI.below E.1.bl;obtain⟨q,hq,b5,y0⟩:=aH.atW A.2 hjl ⟨#[]⟩;subst hq;have aF:(k.e.ww.getD j ⟨#[]⟩).size<=8:=aP _ w_;have HX:Hid (y++[119,(d:Int)%256,nb%256]++Ki (k.e.ww.take (j+1))=(s++[((k.e.ww.getD j ⟨#[]⟩).size:Int)%256])++Aq (k.e.ww.getD j ⟨#[]⟩)):=by show _=_;rw[uy aT ⟨#[]⟩,Q];simp
    clear aH;generalize k.e.ww.getD j ⟨#[]⟩=x at *;obtain⟨P,N⟩:=ex_ s.length;have F:=x1_ N;rw[<- N] at E aS ⊢;clear N;have D:Hid (wr.ownsRow 0 5 1 (.slice aj P cj) P (s.map (Value.int .u8))):=(by have V:=E.1.ow;unfold Bj at V;rw[<- F] at V;exact V);have b3:0<=(j:Int):=o_;have aX:j<(nb:Int):=o_;have M:=x1_ aF;clear aF;obtain⟨sx,aG⟩:=ex_ x.size;have b6:=x1_ aG;clear aG;go_wp2_with (at_builtin;refine Ab rfl (.tmp 44) (.tmp 48) 66 rfl 0 5 i0 (.int .u8 0) 1 1 Tryz.underlying66 C Z X O rfl d_ _ P (s.map (Value.int .u8)) rfl (D.alloc _) _ 1 1 [.int .u8 _] rfl rfl (Am wr _ 5) (by intro u hu;simp at hu;subst hu;rfl) d_ m_ o_ s_ ?_)
    intro v4 w4 H4;obtain⟨r4,g4,d4,_,q4,p4,aV⟩:=H4;have a8:Bj _ 0 _ (_++[_]):=Bj.more (n:=1) (by rw[<- F];exact r4) rfl;have J:=Ec.pre bA_ (Ec.of_mark g4 d4 s_);have aB:=J.1.at_ E.2 (λe=>Au D e E.2 d_ rfl);have f:=E.1.app a8 J;subst aV;have t:=x2_ f aB;have o:Hid (w4.ownsRow Y.heap.size 5 1 (L_ q4 (P+1) p4) (P+1) ((s++[(x.size:Int)%256]).map (Value.int .u8))):=by have V:=f.own;unfold Bj at V;rw[Qe,<- F] at V;exact V
    have aK:=f.bl.size;have aR:x.size<=8->_:=λ_=>trivial;clear r4 g4 d4 a8 J aB f D E y0 aR;obtain⟨L4,a1⟩:=ex_ (s++[(x.size:Int)%256]);rw[<- a1] at t o HX;have a4:Hid (L4.length=P+1):=(by show _=_;rw[a1,Qe,F];rfl);clear a1;go_wp2_with (at_builtin;refine Go.Lib.wpList_append_own_string _ rfl (.tmp 50) (.tmp 51) 66 9 rfl Y.heap.size 5 i0 Tryz.underlying66 Tryz.underlying9 C Z X O _ (P+1) _ rfl o x rfl (by have:=M.out;unfold maxLen;omega) (by have:=M.out;omega) aK ?_)
    intro v5 w5 r5 g5 d5;have U:Bj w5 Y.heap.size v5 (L4++Aq x):=(by unfold Bj;rw[Qe,a4,Pt,List.map_append,<- ky];exact r5);obtain⟨a5,c5,rfl⟩:=U.form;have T:=(Aa.refl _ _).grown g5 (λk hk _=>hk);have a6:=T.at_ t.2 (λe=>Au o e t.2 d_ rfl);have a7:=t.1.bl.trans (T.to_below aK (λz hz=>t.1.nw z hz));have HN:=x2_ (Hb.of_own a7 U) a6;have aN:Hid ((L4++Aq x).length<=bl+3+9*(j+1)):=(by show _<=_;rw[Qe,a4,Pt];have:=M.out;omega);clear r5 g5 d5 U T a6 a7 t o;generalize L4++Aq x=L5 at *;refine rd_ ?_;exact⟨j+1,a5,c5,L5,rfl,g_,o_,HX.symm,aN,HN⟩
   have aZ:¬j<(nb:Int):=o_;have a3:k.e.ww.take j=_:=List.take_of_length_le (by have:=A.2;omega);have aD:s=y++yo k:=(by rw[Q,a3,aO,List.append_assoc]);have HF:=x2_ E.1 aD;clear a3 aD Q E;go_wp2;go_ret;refine⟨aj,cj,?_,?_⟩;rw[<- HF.2];rfl;rw[<- HF.2];exact HF.1
def ZiR{x s:ByteArray}(h:¬x=s):(x.toList==s.toList)=false:=by
 rw[beq_eq_false_iff_ne,Lib.toList_data,Lib.toList_data];intro e;apply h
 cases x;cases s
 simp at e;rw[e]
def xp{B:List Int}{r}(h:r<B.length) p:(B.take (r+1)).countP p=(B.take r).countP p+(if p (B.getD r 0)=true then 1 else 0):=by
 rw[Qi h,List.countP_append,Qc,Qd h]
 grind
def ZcY{L:List ByteArray}{s k}(h:k<L.length)(b:L.getD k ⟨#[]⟩=s)(a:∀j,j<k->L.getD j ⟨#[]⟩≠s):L.findIdx (λy=>decide (y=s))=k:=by grind [List.findIdx_eq]
def ZcZ{L:List ByteArray}{s}(a:∀j,j<L.length->L.getD j ⟨#[]⟩≠s):L.findIdx (λy=>decide (y=s))=L.length:=w_
def Zit n vb Z d e s w (H:Ag w n vb e.bs)(L:Cc w n Z e.ww)(T:Ol e)(hx:e.wd=true->e.bs=[])(hy:e.wd=false->e.ww=[]):C_ 239 #[.agg #[.bool e.wd,vb,Z,.int .i64 d],.agg #[.bool s.miss,.int .i64 s.num,.string s.word]] w λz w'=>z=.returned (.int .i64 (Dy e s:Nat))/\Below w.heap.size w w':=by
 obtain⟨r,c,a⟩:=e;obtain⟨F,f,g⟩:=s;simp only at H L hx hy ⊢;have U:=T.lb;have S:=T.lw;simp only at U S;obtain⟨G,I,rfl⟩:=H.shape;obtain⟨E,J,rfl⟩:=L.form;obtain⟨t,l⟩:=ex_ ((w.alloc (.cells #[.bool r,.slice G c.length I,.slice E a.length J,I_ d] 227)).alloc (.cells #[.bool F,I_ f,.string g] 335));have B:E_ w t:=by rw[l];exact bA_.alloc s_ _
 have C:t.heap[w.heap.size]? =some (.cells #[.bool r,.slice G c.length I,.slice E a.length J,I_ d] 227 (0,0)):=(by grind [Below.heap_alloc,heap_alloc_new]);have D:t.heap[w.heap.size+1]? =some (.cells #[.bool F,I_ f,.string g] 335 (0,0)):=by have e:=ha_ (w.alloc (.cells #[.bool r,.slice G c.length I,.slice E a.length J,I_ d] 227)) (.cells #[.bool F,I_ f,.string g] 335);rw[show(w.alloc (.cells #[.bool r,.slice G c.length I,.slice E a.length J,I_ d] 227)).heap.size=w.heap.size+1 by simp,<- l] at e;exact e
 have i:=x1_ B;have N:=x1_ (H.below B);have M:=x1_ (L.below B);have A:=x1_ l;have c0:=cR_ 0 C;have c1:=cR_ 1 C;have c2:=cR_ 2 C;have d0:=cR_ 0 D;have d1:=cR_ 1 D;have d2:=cR_ 2 D;clear H L T l C D B;go_enter Tryz.func239,Tryz.ntmps239;go_upto_region 1 with fail;rw[<- A];clear A
 cases F with
 | true=>
  have p:Hid (Dy ⟨r,c,a⟩ ⟨true,f,g⟩=c.length+a.length+1):=by
   show _=_
   grind [Dy,ES.cnt,Ky]
  go_wp2;go_ret;rw[p];exact⟨g_,i⟩
 | false =>
  cases r with
  | true=>
   have Y:=hx rfl;subst Y;have p:Hid (Dy ⟨true,[],_⟩ ⟨false,f,_⟩=a.findIdx (λy=>decide (y=g))):=rfl;go_wp2_with fail
   go_loopw [6] (λt6 wr=>∃(k m:Nat),t6=.int .i64 k/\k<=a.length/\Hid (∀j,j<k->a.getD j ⟨#[]⟩≠g)/\wr=t.drewN m) (λt6 _=>a.length-(intOf t6).toNat)
   case atStart=>exact⟨0,0,rfl,qg_,λj hj=>o_,rfl⟩
   case round=>
    obtain⟨k,m,rfl,P,Q,o⟩:=hrel;subst o
    by_cases hin:k<a.length
    ·obtain⟨q,rfl,_,hc⟩:=M.atW rfl hin ⟨#[]⟩;have g1:k<(a.length:Int):=o_;have g2:0<=(k:Int):=o_
     by_cases heq:a.getD k ⟨#[]⟩=g
     ·have X:=x1_ (ZcY hin heq Q);have e2:((a.getD k ⟨#[]⟩).toList==g.toList)=true:=(by rw[heq];simp);generalize a.getD k ⟨#[]⟩=x at *;clear heq;go_upto_region 8 with fail;go_quiet (fail);go_wp2;go_ret;rw[p,X];exact⟨rfl,below_drewN (below_drewN i _) _⟩
     have e2:=ZiR heq
     have V:Hid (∀j,j<k+1->a.getD j ⟨#[]⟩≠g):=λj hj=>by
      by_cases h:j=k
      rw[h];exact heq;exact Q j o_
     generalize a.getD k ⟨#[]⟩=x at *;clear heq;go_upto_region 8 with fail;go_quiet (fail);refine rd_ ?_;exact⟨k+1,m+nq,g_,o_,V,s_⟩
    have v:k=a.length:=o_;have X:=x1_ (ZcZ (λj hj=>Q j o_));have g1:¬k<(a.length:Int):=o_;go_wp2;go_ret;rw[p,X];exact⟨s_,below_drewN i _⟩
  | false=>
   have W:=hy rfl;subst W;have p:Hid (Dy ⟨false,_,[]⟩ ⟨false,_,g⟩=c.countP (λb=>decide (b<f))):=rfl;go_wp2_with fail
   go_loopw [7,8] (λt7 t8 wr=>∃(k m:Nat),t8=.int .i64 k/\k<=c.length/\t7=.int .i64 ((c.take k).countP (λb=>decide (b<f)):Nat)/\(c.take k).countP (λb=>decide (b<f))<=k/\wr=t.drewN m) (λ_ t8 _=>c.length-(intOf t8).toNat)
   case atStart=>exact⟨0,0,rfl,qg_,s_,s_,rfl⟩
   case round=>
    obtain⟨k,m,rfl,P,rfl,O,o⟩:=hrel;subst o
    by_cases hin:k<c.length
    ·obtain⟨q,rfl,_,_,hc,_⟩:=N.atK rfl hin;have g1:k<(c.length:Int):=o_;have g2:0<=(k:Int):=o_;have R:Hid ((c.take _).countP (λb=>decide (b<f))=_):=xp hin _;generalize c.getD k 0=x,(c.take k).countP (λb=>decide (b<f))=cr at *
     by_cases hlt:x<f
     ·have u:Hid ((c.take (k+1)).countP (λb=>decide (b<f))=cr+1):=w_;have g3:=decide_eq_true hlt;go_upto_region 15 with fail;go_quiet (fail);refine rd_ ?_;exact⟨k+1,m+nq,g_,o_,by rw[u];go_num,by rw[u];omega,s_⟩
     have u:Hid ((c.take (k+1)).countP (λb=>decide (b<f))=cr):=(by show _=_;rw[R,if_neg w_];rfl);have g3:=decide_eq_false hlt;go_upto_region 15 with fail;go_quiet (fail);refine rd_ ?_;exact⟨k+1,m+nq,g_,o_,by rw[u],by rw[u];omega,s_⟩
    have v:k=c.length:=o_;subst v;rw[List.take_length] at O;rw[List.take_length];go_wp2;go_ret;rw[p];exact⟨rfl,below_drewN i _⟩
def Sf:Int×List VS:=(0,[])
def Sn(w:World)(a:Option Addr)(n nf:Nat)(L:List (Int×List VS)):Prop:=
 L.length=n/\(n=0∨∃q,a=some ⟨q,0,none⟩/\∀r,r<n->w.cell? (A_ q (r*2))=some (I_ (L.getD r Sf).1)/\∃g c,w.cell? (A_ q (r*2+1))=some (L_ g nf c)/\(L.getD r Sf).2.length=nf/\∀i,i<nf->w.cell? (A_ g (i*3))=some (.bool ((L.getD r Sf).2.getD i Ax).miss)/\w.cell? (A_ g (i*3+1))=some (I_ ((L.getD r Sf).2.getD i Ax).num)/\w.cell? (A_ g (i*3+2))=some (.string ((L.getD r Sf).2.getD i Ax).word))
def Sn.below{w f a n b L}(h:Sn w a n b L)(i:Below w.heap.size w f):Sn f a n b L:=by
 refine⟨h.1,h.2.imp id ?_⟩;rintro⟨q,e,j⟩;refine⟨q,e,λr hr=>?_⟩;obtain⟨o,g,c,k,m,l⟩:=j r hr;have d:∀p v,_=some v->_:=λp v hp=>(i.cell (World.block_lt_of_cell? w p hp)).trans hp
 grind
def rz:∀(L:List Jy) (i:Nat),i<L.length->∀c,c<2->(Ox L)[i*2+c]? =(Pv (L.getD i ⟨0,[],.slice none 0 0⟩))[c]?
 |[],i,h=>by simp at h
 |x::L,0,_=>λc hc=>by grind [Ox,Pv]
 |x::L,i+1,h=>λc hc=>by simp only[Ox];rw[List.getElem?_append_right (by simp[Pv];omega),show(i+1)*2+c-(Pv x).length=i*2+c by simp[Pv];omega];exact rz L i (by simpa using h) c hc
def Fy.view{w d c n s a L}(h:Fy w d (.slice a n c) L)(y:L.length=n)(z:∀p∈L,p.fs.length=s)(A:0<s):Sn w a n s (L.map Jy.pr):=by
 subst y;refine⟨List.length_map _,?_⟩
 rcases h.row.2 with⟨e,e0⟩|⟨q,cap,cur,e,_,hh,hnc,_⟩
 exact .inl e0;refine .inr ?_;injection e with e1 e2 e3;subst e1;refine⟨q,rfl,λr hr=>?_⟩;have x:(L.map Jy.pr).getD r Sf=Jy.pr (L.getD r ⟨0,[],.slice none 0 0⟩):=w_
 have t:L.getD r ⟨0,[],.slice none 0 0⟩∈L:=w_;rw[x];generalize hp:L.getD r ⟨0,[],.slice none 0 0⟩=p at *
 have k:∀o u,o<2->(Pv p)[o]? =some u->w.cell? (A_ q (r*2+o))=some u:=λo u f hu=>by rw[World.ownsRow.cellAt h.row (r*2+o) o_,rz L r hr o f,hp];exact hu
 have j:=z p t;have f:=h.each p t;refine⟨k 0 _ o_ rfl,?_⟩
 rcases f.2 with⟨_,e0⟩|⟨g,cap2,cur2,ev,_⟩
 omega;have m:=k 1 _ o_ rfl;rw[ev] at m;rw[j] at m;refine⟨g,cap2,m,j,λi hi=>?_⟩
 have l:w.ownsRow d 335 3 (L_ g p.fs.length cap2) p.fs.length (Ic p.fs):=by
  have v:=f;unfold oh at v
  grind
 have b:∀o u,o<3->(Hy (p.fs.getD i Ax))[o]? =some u->w.cell? (A_ g (i*3+o))=some u:=λo u f hu=>by rw[World.ownsRow.cellAt l (i*3+o) o_,Ww p.fs i o_ o f];exact hu
 exact⟨b 0 _ o_ rfl,b 1 _ o_ rfl,b 2 _ o_ rfl⟩
def Ziv b n c a L s w (h:Cc w b (.slice a n c) L)(o:L.length=n)(y:n<=1000):C_ 244 #[.slice a n c,.string s] w λe w'=>e=.returned (.bool (Lib.containsS L s))/\w'=w:=by
 have p:=x1_ h;have f:=x1_ o;clear h o;go_enter Tryz.func244,Tryz.ntmps244;go_wp2_with fail
 go_loopw [5] (λt5 wr=>∃k:Nat,t5=.int .i64 k/\k<=n/\Hid (∀j,j<k->L.getD j ⟨#[]⟩≠s)/\wr=w) (λt5 _=>n-(intOf t5).toNat)
 case atStart=>exact⟨0,rfl,qg_,λj l=>o_,rfl⟩
 case round=>
  obtain⟨k,rfl,r,m,g⟩:=hrel;subst g
  by_cases hin:k<n
  ·obtain⟨q,rfl,_,A⟩:=p.atW f hin ⟨#[]⟩;have v:k<(n:Int):=o_;have z:0<=(k:Int):=o_
   by_cases heq:L.getD k ⟨#[]⟩=s
   ·have d:Hid (Lib.containsS L s=true):=by
     refine(Lib.containsS_iff L s).2 ?_;rw[<- heq,Qc,Qd (by rw[f];exact hin)]
     grind
    have u:((L.getD k ⟨#[]⟩).toList==s.toList)=true:=(by rw[heq];simp);generalize L.getD k ⟨#[]⟩=x at *;clear heq;go_wp2;go_ret;exact⟨by rw[d];rfl,rfl⟩
   have u:=ZiR heq
   have i:Hid (∀j,j<k+1->L.getD j ⟨#[]⟩≠s):=λj l=>by
    by_cases h:j=k
    rw[h];exact heq;exact m j o_
   generalize L.getD k ⟨#[]⟩=x at *;clear heq;refine rd_ ?_;exact⟨k+1,g_,o_,i,trivial⟩
  have d:Hid (Lib.containsS L s=false):=by
   show _=_;rw[<- Bool.not_eq_true,Lib.containsS_iff];intro t;obtain⟨j,l,e⟩:=List.getElem_of_mem t;have B:=f.out;refine m j o_ ?_
   grind
  have v:¬k<(n:Int):=o_;go_wp2;go_ret;exact⟨by rw[d];rfl,rfl⟩
def Pn(L:List (Int×List VS))(i:Nat)(s:ByteArray):Int:=((L.filter (λr=>!(r.2.getD i Ax).miss&&decide ((r.2.getD i Ax).word=s))).map Prod.fst).sum
def Zb7{L:List (Int×List VS)}{r}(h:r<L.length) i s:Pn (L.take (r+1)) i s=Pn (L.take r) i s+(if(!((L.getD r Sf).2.getD i Ax).miss&&decide (((L.getD r Sf).2.getD i Ax).word=s))=true then(L.getD r Sf).1 else 0):=by
 have e:L.getD r Sf=L[r]:=w_;unfold Pn
 grind [Qi]
def Ze3{L:List (Int×List VS)}(hw:∀r∈L,0<=r.1/\r.1<=99) i s:∀k,k<=L.length->0<=Pn (L.take k) i s/\Pn (L.take k) i s<=99*k
 |0,_=>by simp[Pn]
 | k+1,hk=>by
  have ih:=Ze3 hw i s k o_;rw[Zb7 o_]
  grind
def ZbO a n o c i L s w (h:Sn w a n o L)(C:i<o)(z:∀r∈L,0<=r.1/\r.1<=99)(N:n<=1000):C_ 290 #[.slice a n c,.int .i64 i,.string s] w λe w'=>e=.returned (.int .i64 (Pn L i s))/\∃m,w'=w.drewN m:=by
 have l:=x1_ h;have d:=x1_ (λk hk=>Ze3 z i s k (by rw[h.1];exact hk));clear h z;go_enter Tryz.func290,Tryz.ntmps290;go_wp2_with fail
 go_loopw [7,8] (λt7 t8 wr=>∃(k m:Nat),t8=.int .i64 k/\k<=n/\t7=.int .i64 (Pn (L.take k) i s)/\wr=w.drewN m) (λ_ t8 _=>n-(intOf t8).toNat)
 case atStart=>exact⟨0,0,rfl,qg_,rfl,rfl⟩
 case round=>
  obtain⟨k,m,rfl,D,rfl,p⟩:=hrel;subst p
  by_cases hin:k<n
  ·have H:k<(n:Int):=o_;have P:0<=(k:Int):=o_;have U:i<(o:Int):=o_;have O:0<=(i:Int):=o_
   rcases l.out.2 with Q|⟨q,rfl,t⟩
   omega;obtain⟨I,g,S,V,_,y⟩:=t k hin;obtain⟨M,_,J⟩:=y i C;clear y;have j:=x1_ (Zb7 (by rw[l.1];exact hin) i s);have G:=d k o_;have f:=x1_ (d (k+1) o_);clear t;generalize Pn (L.take k) i s=A,(L.getD k Sf).2.getD i Ax=v,(L.getD k Sf).1=x at *;obtain⟨E,R,u⟩:=v;simp only at *
   cases E with
   | true=>
    have b:Hid (Pn (L.take (k+1)) i s=A):=(by show _=_;rw[j,if_neg s_];omega);refine rd_ ?_;exact⟨k+1,_,g_,o_,by rw[b],by first|rfl|simp⟩
   | false=>
    by_cases heq:u=s
    ·have b:Hid (Pn (L.take (k+1)) i s=A+x):=w_;have F:(u.toList==s.toList)=true:=(by rw[heq];simp);have T:_=A+x:=Cb (by have:=b.out;have:=f.out;omega) (by have:=b.out;have:=f.out;omega);clear heq;refine rd_ ?_;exact⟨k+1,_,g_,o_,by rw[b],by first|rfl|simp⟩
    have b:Hid (Pn (L.take (k+1)) i s=A):=(by show _=_;rw[j,if_neg (by simp[heq])];omega);have F:=ZiR heq;clear heq;refine rd_ ?_;exact⟨k+1,_,g_,o_,by rw[b],by first|rfl|simp⟩
  have H:¬k<(n:Int):=o_;have B:k=L.length:=(by rw[l.1];omega);have j:Hid (Pn (L.take k) i s=Pn L i s):=(by show _=_;grind);go_wp2;go_ret;exact⟨rfl,_,rfl⟩
def Nk g a n m b f c d w (k:n<=1000)(j:m<=1000):C_ 189 #[.agg #[.bool c,.slice g n b,.slice a m f,.int .i64 d]] w λe w'=>e=.returned (.int .i64 (n+m+2:Nat))/\Below w.heap.size w w':=by have h:Below _ w (w.alloc (.cells #[.bool c,.slice g n b,.slice a m f,I_ d] 227)):=bA_;have i:=x1_ h;clear h;go_enter Tryz.func189,Tryz.ntmps189;go_wp2;go_ret;exact⟨g_,i⟩
def ZbN c g j k h b n f l a o i r x d (w:World)(z:w.cell? (A_ c 0)=some (P_ g))(C:w.cell? (A_ c 1)=some (L_ j b n))(F:w.cell? (A_ j i)=some (L_ k f l))(B:w.cell? (A_ k r)=some (I_ x))(t:w.cell? (A_ g 1)=some (L_ h a o))(v:w.cell? (A_ h (i*4+3))=some (I_ d))(u:i<b)(s:r<f)(A:i<a):C_ 292 #[.pointer (some ⟨c,0,none⟩),.int .i64 r,.int .i64 i] w λe w'=>e=.returned (.bool (x !=d))/\∃m,w'=w.drewN m:=by
 have y:0<=(i:Int):=o_;have q:i<(b:Int):=o_;have E:0<=(r:Int):=o_;have p:r<(f:Int):=o_;have D:i<(a:Int):=o_;go_enter Tryz.func292,Tryz.ntmps292;go_wp2_with fail
 go_quiet (fail);go_wp2;go_ret;exact⟨rfl,_,rfl⟩
theorem Ac{w w'}(hb:Below w.heap.size w w'){p v}(hp:w.cell? p=some v):w'.cell? p=some v:=(hb.cell (World.block_lt_of_cell? w p hp)).trans hp
def NuV(w:World)(a:Option Addr)(L:List Nat):Prop:=∀k,k<L.length->∃q,a=some ⟨q,0,none⟩/\w.cell? (A_ q k)=some (I_ (L.getD k 0:Nat))
def NuV.below{w w' a L}(h:NuV w a L)(hb:Below w.heap.size w w'):NuV w' a L:=λk hk=>by obtain⟨q,e,hc⟩:=h k hk;exact⟨q,e,Ac hb hc⟩
def Ag.nums{w base c n a L}(h:Ag w base (.slice a n c) (Av L))(hn:L.length=n):NuV w a L:=λk hk=>by
 obtain⟨q,e,_,_,hc⟩:=h.atK (by rw[Aw];exact hn) (k:=k) o_;rw[Cv] at hc
 grind
def LiV(w:World)(v:Value)(Ls:List (List Nat)):Prop:=(∃a c,v=.slice a Ls.length c)/\∀i,i<Ls.length->∃q c ag cg,v=L_ q Ls.length c/\w.cell? (A_ q i)=some (.slice ag (Ls.getD i []).length cg)/\NuV w ag (Ls.getD i [])
def LiV.below{w w' v Ls}(h:LiV w v Ls)(hb:Below w.heap.size w w'):LiV w' v Ls:=⟨h.1,λi hi=>by
 obtain⟨q,c,ag,cg,e,h1,h2⟩:=h.2 i hi
 exact⟨q,c,ag,cg,e,Ac hb h1,h2.below hb⟩⟩
def FeV(w:World)(v:Value)(Ks:List KS):Prop:=(∃a c,v=.slice a Ks.length c)/\∀i,i<Ks.length->∃q c ab cb aw cw,v=L_ q Ks.length c/\w.cell? (A_ q (i*4))=some (.bool (Ks.getD i Ay).e.wd)/\
  w.cell? (A_ q (i*4+1))=some (.slice ab (Ks.getD i Ay).e.bs.length cb)/\w.cell? (A_ q (i*4+2))=some (.slice aw (Ks.getD i Ay).e.ww.length cw)/\w.cell? (A_ q (i*4+3))=some (I_ (Ks.getD i Ay).d)
def FeV.below{w w' v Ks}(h:FeV w v Ks)(hb:Below w.heap.size w w'):FeV w' v Ks:=⟨h.1,λi hi=>by
 obtain⟨q,c,ab,cb,aw,cw,e,h1,h2,h3,h4⟩:=h.2 i hi
 grind [Ac]⟩
def od(k:KS):Prop:=k.e.bs.length<=1000/\k.e.ww.length<=1000/\(k.e.wd=true->k.e.bs=[])/\(k.e.wd=false->k.e.ww=[])
def od.many{k}(h:od k):k.e.bs.length+k.e.ww.length+2=k.many:=by
 unfold KS.many ES.cnt Ky
 cases hw:k.e.wd
 rw[h.2.2.2 hw];simp;rw[h.2.2.1 hw];simp
structure DkV(w:World)(db n)(Ks):Prop where
 d0:w.cell? (A_ db 0)=some (I_ (n:Nat))
 d1:∃v,w.cell? (A_ db 1)=some v/\FeV w v Ks
 one:∀i,i<Ks.length->od (Ks.getD i Ay)
def DkV.below{w c b n d}(h:DkV w b n d)(a:Below w.heap.size w c):DkV c b n d:=by obtain⟨g,e,f⟩:=h.d1;exact⟨Ac a h.d0,⟨g,Ac a e,f.below a⟩,h.one⟩
structure MkV(w:World)(mb db n)(Ks)(Bb):Prop where
 m0:w.cell? (A_ mb 0)=some (P_ db)
 m1:∃v,w.cell? (A_ mb 1)=some v/\LiV w v Bb
 dk:DkV w db n Ks
 len:Bb.length=Ks.length
 rows:∀i,i<Bb.length->(Bb.getD i []).length=n
def MkV.below{w e d b n f c}(h:MkV w d b n f c)(a:Below w.heap.size w e):MkV e d b n f c:=by obtain⟨g,i,j⟩:=h.m1;exact⟨Ac a h.m0,⟨g,Ac a i,j.below a⟩,h.dk.below a,h.len,h.rows⟩
def MkV.drewN{w mb db n Ks Bb}(h:MkV w mb db n Ks Bb) m:MkV (w.drewN m) mb db n Ks Bb:=h.below (below_drewN bz_ m)
def sO(Ks:List KS)(Bb:List (List Nat))(i r:Nat):Bool:=decide ((Bb.getD i []).getD r 0≠(Ks.getD i Ay).d)
def MkV.stands{w o s n f b}(h:MkV w o s n f b){i r}(j:i<f.length)(l:r<n):C_ 292 #[.pointer (some ⟨o,0,none⟩),.int .i64 r,.int .i64 i] w λe w'=>e=.returned (.bool (sO f b i r))/\∃m,w'=w.drewN m:=by obtain⟨L,t,A⟩:=h.m1;obtain⟨F,y,z⟩:=h.dk.d1;have a:i<b.length:=(by rw[h.len];exact j);obtain⟨q,c,E,H,rfl,k,v⟩:=A.2 i a;obtain⟨B,C,G,I,D,J,rfl,_,_,_,u⟩:=z.2 i j;rw[h.rows i a] at k;obtain⟨g,rfl,x⟩:=v r (by rw[h.rows i a];exact l);have p:=ZbN _ _ q g _ _ c n _ _ _ i r _ _ w h.m0 t k x y u a l j;have e:(((b.getD i []).getD r 0:Nat) !=((f.getD i Ay).d:Int))=sO f b i r:=(by grind [sO]);rw[e] at p;exact p
def DkV.feat{w b n a}(h:DkV w b n a){i}(g:i<a.length):∃q c ab cb aw cw,w.cell? (A_ b 1)=some (L_ q a.length c)/\w.cell? (A_ q (i*4))=some (.bool (a.getD i Ay).e.wd)/\w.cell? (A_ q (i*4+1))=some (.slice ab (a.getD i Ay).e.bs.length cb)/\w.cell? (A_ q (i*4+2))=some (.slice aw (a.getD i Ay).e.ww.length cw)/\w.cell? (A_ q (i*4+3))=some (I_ (a.getD i Ay).d):=by
 obtain⟨o,k,f⟩:=h.d1;obtain⟨j,l,ab,cb,aw,cw,rfl,m⟩:=f.2 i g
 grind
def clF(Ks:List KS)(Bb:List (List Nat))(fs:List Nat)(i k:Nat):Nat:=(List.range k).countP (λr=>sO Ks Bb i r&&fs.any (λf=>sO Ks Bb f r))
def Zhg a b c i k:clF a b c i (k+1)=clF a b c i k+(if(sO a b i k&&c.any (λf=>sO a b f k))=true then 1 else 0):=by unfold clF;rw[List.range_succ,List.countP_append,List.countP_singleton]
def Zk3 a b c i k:clF a b c i k<=k:=by have:=List.countP_le_length (p:=λr=>sO a b i r&&c.any (λf=>sO a b f r)) (l:=List.range k);rw[List.length_range] at this;exact this
def ZgV{a:List Nat}{k}(h:k<a.length) p:(a.take (k+1)).any p=((a.take k).any p||p (a.getD k 0)):=by
 rw[Qi h,List.any_append]
 grind
def Nb{a:List Nat}{k}(h:k<a.length):a.getD k 0∈a:=w_
def Zdv D Q n c i a b d g w (h:MkV w D Q n d g)(G:NuV w a b)(L:i<d.length)(y:∀f∈b,f<d.length)(hn:n<=1000)(U:b.length<=1000):C_ 291 #[.pointer (some ⟨D,0,none⟩),.slice a b.length c,.int .i64 i] w λe w'=>e=.returned (.int .i64 (clF d g b i n:Nat))/\∃m,w'=w.drewN m:=by
 have F:=x1_ h;have E:=x2_ G y;have m0:=h.m0;have Z:=h.dk.d0;obtain⟨l,t⟩:=ey_ b.length;have H:=x1_ t;rw[t] at U ⊢;clear h G y t;go_enter Tryz.func291,Tryz.ntmps291;go_wp2_with fail
 go_loopw [7,8] (λt7 t8 wr=>∃(r m:Nat),t8=.int .i64 r/\r<=n/\t7=.int .i64 (clF d g b i r:Nat)/\wr=w.drewN m) (λ_ t8 _=>n-(intOf t8).toNat)
 case atStart=>exact⟨0,0,rfl,qg_,rfl,rfl⟩
 case round =>
  obtain⟨r,m,rfl,T,rfl,s⟩:=hrel;subst s
  by_cases hin:r<n
  ·have P:r<(n:Int):=o_;have J:=x1_ (Zhg d g b i r);have O:=Zk3 d g b i r;generalize clF d g b i r=cr at *;go_wp2_with fail
   refine((F.drewN _).stands L hin).mono ?_;rintro e R ⟨rfl,W,u⟩;obtain⟨v,j⟩:=ey_ (sO d g i r);have S:=x1_ j;rw[j];subst u;clear j;go_wp2_with fail
   go_loopw [10,11] (λt10 t11 wr=>∃(k m:Nat),t11=.int .i64 k/\k<=l/\t10=.bool ((b.take k).any (λf=>sO d g f r))/\wr=w.drewN m) (λ_ t11 _=>l-(intOf t11).toNat)
   case atStart=>exact⟨0,m+W,rfl,qg_,rfl,s_⟩
   case round=>
    obtain⟨k,C,rfl,Y,rfl,s⟩:=hrel;subst s
    by_cases hkl:k<l
    ·have p:k<b.length:=(by rw[H];exact hkl);obtain⟨q,rfl,X⟩:=E.1 k p;have B:=E.2 _ (Nb p);have I:Hid ((b.take _).any (λf=>sO d g f r)=_):=ZgV p _;generalize b.getD k 0=f at *;generalize (b.take k).any (λf=>sO d g f r)=an at *;have N:k<(l:Int):=o_;have g3:0<=(k:Int):=o_;go_wp2_with fail
     refine((F.drewN _).stands B hin).mono ?_;rintro e R ⟨rfl,M,u⟩;subst u;obtain⟨V,o⟩:=ey_ (sO d g f r);have A:Hid ((b.take (k+1)).any (λf=>sO d g f r)=(an||V)):=(by rw[<- o];exact I);rw[o];clear I o
     cases an<;>
      (go_wp2
       go_roundw;case rel=>exact⟨k+1,C+M,g_,o_,by rw[A];rfl,s_⟩
       case measure=>simp[intOf];omega)
    have N:¬k<(l:Int):=o_;have x:b.take k=_:=List.take_of_length_le (by have:=H.out;omega);rw[x];have z:Hid (clF d g b i (r+1)=cr+(if(v&&b.any (λf=>sO d g f r))=true then 1 else 0)):=(by rw[<- S];exact J);clear J x;generalize b.any (λf=>sO d g f r)=an at *
    cases v<;>cases an<;>
     (go_wp2
      go_roundw;case rel=>exact⟨r+1,C,g_,o_,by rw[z];first|rfl|go_num,by first|rfl|simp⟩
      case measure=>simp[intOf];omega)
  have P:¬r<(n:Int):=o_;obtain rfl:r=n:=o_;go_wp2;go_ret;exact⟨rfl,_,rfl⟩
def ZdK{b}{a:List Nat}{k}(h:k<a.length):Du b (a.take (k+1))=Du b (a.take k)+(b.getD (a.getD k 0) Ay).many:=by
 unfold Du;rw[Qi h,List.map_append,List.sum_append]
 grind
def ZiT{Ks fs}(a:∀f∈fs,(Ks.getD f Ay).many<=2002):Du Ks fs<=2002*fs.length:=by
 induction fs with
 |nil=>simp[Du]
 | cons f fs ih=>
  grind [Du]
def uj A n c a b g w (h:DkV w A n g)(z:NuV w a b)(r:∀f∈b,f<g.length)(X:b.length<=1000):C_ 137 #[.pointer (some ⟨A,0,none⟩),.slice a b.length c] w λe w'=>e=.returned (.int .i64 (Du g b:Nat))/\Below w.heap.size w w':=by
 have R:=x1_ h;have Q:=x2_ z r
 have T:=x1_ (λk s=>by
  have:=ZiT (Ks:=g) (fs:=b.take k) (λf z=>by
   have s:=h.one f (r f (List.mem_of_mem_take z));have:=s.many;have:=s.1;have:=s.2.1
   omega)
  rw[List.length_take,Nat.min_eq_left s] at this
  exact this)
 obtain⟨l,o⟩:=ey_ b.length;have M:=x1_ o;rw[o] at X ⊢;clear h z r o;go_enter Tryz.func137,Tryz.ntmps137;go_wp2_with fail
 go_loopw [5,6] (λt5 t6 wr=>∃k:Nat,t6=.int .i64 k/\k<=l/\t5=.int .i64 (Du g (b.take k):Nat)/\E_ w wr) (λ_ t6 _=>l-(intOf t6).toNat)
 case atStart=>exact⟨0,rfl,qg_,rfl,bz_⟩
 case round=>
  obtain⟨k,rfl,s,rfl,u⟩:=hrel
  by_cases hkl:k<l
  ·have m:k<b.length:=(by rw[M];exact hkl);obtain⟨q,rfl,J⟩:=(Q.1.below u) k m;have y:=Q.2 _ (Nb m);obtain⟨t,U,F,G,D,H,P,I,O,N,L⟩:=(R.below u).feat y;have S:Hid (Du g _=_):=ZdK m;have j:=R.one _ y;have v:=j.many;have h1:=T k o_;have x:=Nk F D (g.getD (b.getD k 0) Ay).e.bs.length (g.getD (b.getD k 0) Ay).e.ww.length G H (g.getD (b.getD k 0) Ay).e.wd (g.getD (b.getD k 0) Ay).d
   have B:Hid (∀W:World,C_ 189 #[.agg #[.bool (g.getD (b.getD k 0) Ay).e.wd,.slice F (g.getD (b.getD k 0) Ay).e.bs.length G,.slice D (g.getD (b.getD k 0) Ay).e.ww.length H,.int .i64 (g.getD (b.getD k 0) Ay).d]] W λe w'=>e=.returned (.int .i64 (g.getD (b.getD k 0) Ay).many)/\E_ W w'):=λW=>by rw[<- v];exact x W j.1 j.2.1
   have V:(g.getD (b.getD k 0) Ay).many<=2002:=(by have:=j.1;have:=j.2.1;omega);clear x v j;generalize (g.getD (b.getD k 0) Ay).many=mn at *;generalize (g.getD (b.getD k 0) Ay).e.wd=wd at *;generalize (g.getD (b.getD k 0) Ay).e.bs.length=nb at *;generalize (g.getD (b.getD k 0) Ay).e.ww.length=nw at *;generalize (g.getD (b.getD k 0) Ay).d=dd at *;generalize b.getD k 0=f at *;generalize Du g (b.take k)=sm at *;have Y:k<(l:Int):=o_;have g2:0<=(k:Int):=o_;have g3:0<=(f:Int):=o_;have Z:f<(g.length:Int):=o_;have q1:_=(sm:Int)+(mn:_):=Cb o_ o_;go_upto_region 5 with fail
   go_region_held3 (λw'=>w'.cell? (A_ A 1)=some (L_ t g.length U)/\w'.cell? (A_ q k)=some (I_ (f:Nat))/\w'.cell? (A_ t (f*4))=some (.bool wd)/\w'.cell? (A_ t (f*4+1))=some (.slice F nb G)/\w'.cell? (A_ t (f*4+2))=some (.slice D nw H)/\w'.cell? (A_ t (f*4+3))=some (I_ (dd:Nat))) (first|exact⟨P,J,I,O,N,L⟩|exact⟨Ac i P,Ac i J,Ac i I,Ac i O,Ac i N,Ac i L⟩) (first|(go_at_call 189;refine(B _).mono ?_;rintro e w2 ⟨rfl,E⟩;have i:Below wr.heap.size _ _:=bz_.drew.trans E))
   go_wp2;go_roundw;case rel=>exact⟨k+1,g_,o_,by rw[S];go_num,u.trans (i.mono u.size)⟩
   case measure=>exact z_
  have Y:¬k<(l:Int):=o_;have C:b.take k=_:=List.take_of_length_le (by have:=M.out;omega);rw[C];go_wp2;go_ret;exact⟨rfl,u⟩
abbrev Cz:Value:=.slice none 0 0
structure Mg(w:World)(base)(v)(vs)(Ls:List (List Int)):Prop where
 row:w.ownsRow base 25 1 v Ls.length vs
 each:∀i,i<Ls.length->Ag w base (vs.getD i Cz) (Ls.getD i [])
 apart:∀i j,i<j->j<Ls.length->Ch (vs.getD i Cz) (vs.getD j Cz)
section
variable {w w':World} {base:Nat} {v v':Value} {vs:List Value} {Ls:List (List Int)}
def Mg.len(h:Mg w base v vs Ls):vs.length=Ls.length:=by have:=h.row.1;omega
def Mg.nil w base:Mg w base (.slice none 0 0) [] []:=⟨rn_,λi hi=>by simp at hi,λi j _ hj=>by simp at hj⟩
def Mg.touch{K}(h:Mg w base v vs Ls)(t:Aa K w w')(h1:∀k cur ty,w.heap[k]? =some (.cells cur ty (0,0))->ty=25∨ty=3->base<=k->¬K k):Mg w' base v vs Ls:=
 ⟨t.row h.row (λk hk=>by obtain⟨c,hc⟩:=Ad h.row hk;exact h1 k c _ hc (.inl rfl) (rl_ h.row k hk).1),λi hi=>t.row (h.each i hi) (λk hk=>by obtain⟨c,hc⟩:=Ad (h.each i hi) hk;exact h1 k c _ hc (.inr rfl) (rl_ (h.each i hi) k hk).1),h.apart⟩
def Mg.below(h:Mg w base v vs Ls)(hb:Below w.heap.size w w'):Mg w' base v vs Ls:=h.touch (.of_below (S:=λ_=>False) hb) (λ_ _ _ _ _ _=>id)
def Mg.shape(h:Mg w base v vs Ls):∃a c,v=.slice a Ls.length c:=by
 rcases h.row.2 with⟨rfl,h0⟩|⟨g,cap,cur,rfl,_⟩
 ·grind
 grind
def Mg.mono{b}(h:Mg w base v vs Ls)(d:b<=base):Mg w b v vs Ls:=by
 refine⟨⟨h.row.1,?_⟩,λi hi=>(h.each i hi).mono d,h.apart⟩
 rcases h.row.2 with e|⟨g,a,c,e,f,r⟩
 exact .inl e;exact .inr ⟨g,a,c,e,Nat.le_trans d f,r⟩
def Mg.at(h:Mg w base v vs Ls){i}(b:i<Ls.length):∃q c a k,v=L_ q Ls.length c/\w.cell? (A_ q i)=some (.slice a (Ls.getD i []).length k)/\(∀o,w.frozen? (A_ q o)=false)/\vs.getD i Cz=.slice a (Ls.getD i []).length k/\(∃cur,w.heap[q]? =some (.cells cur 25 (0,0)))/\base<=q:=by
 rcases h.row.2 with⟨_,h0⟩|⟨g,cap,cur,rfl,hb,hh,hnc,_⟩
 omega;obtain⟨a,k,e⟩:=(h.each i b).shape;refine⟨g,cap,a,k,rfl,?_,λo=>fq_ o _ _ hh,e,⟨cur,hh⟩,hb⟩;rw[World.ownsRow.cellAt h.row i o_,<- e]
 grind
def Mg.more{u L}(h:Mg w base v vs Ls)(c:Ag w base u L)(d:∀i,i<Ls.length->Ch (vs.getD i Cz) u)(g:w.grownBy w' v.ownBlock)(r:w'.ownsRow base 25 1 v' (Ls.length+1) (vs++[u])):Mg w' base v' (vs++[u]) (Ls++[L]):=by
 have f:=h.len;have a:∀i,i<Ls.length->(vs++[u]).getD i Cz=vs.getD i Cz/\(Ls++[L]).getD i []=Ls.getD i []:=λi hi=>⟨w_,w_⟩;have b:(vs++[u]).getD Ls.length Cz=u/\(Ls++[L]).getD Ls.length []=L:=⟨w_,by simp[List.getD]⟩;refine⟨w_,λi hi=>?_,λi j hij hj=>?_⟩
 ·rw[Qe,List.length_singleton] at hi
  by_cases e:i<Ls.length
  rw[(a i e).1,(a i e).2];exact Ag.kept (h.each i e) g (An h.row (h.each i e) d_);obtain rfl:i=Ls.length:=o_;rw[b.1,b.2];exact Ag.kept c g (An h.row c d_)
 rw[Qe,List.length_singleton] at hj;rw[(a i o_).1]
 by_cases e:j<Ls.length
 rw[(a j e).1];exact h.apart i j hij e
 grind
def Mg.grow{q c i u L}(h:Mg w base (L_ q Ls.length c) vs Ls)(l:i<Ls.length)(g:w.grownBy w' (vs.getD i Cz).ownBlock)(o:Ag w' base u L)(m:u.ownBlock=(vs.getD i Cz).ownBlock∨u.ownBlock=some w.heap.size):Mg (w'.setCell (A_ q i) u) base (L_ q Ls.length c) (vs.set i u) (Ls.set i L):=by
 have r:=h.len;have n:=World.ownsRow.kept h.row g (An (h.each i l) h.row d_);obtain⟨p,f⟩:=Ad n (k:=q) rfl;obtain⟨s,_⟩:=World.ownsRow.stored n i u;refine⟨w_,λj hj=>?_,λj k hjk hk=>?_⟩
 ·rw[List.length_set] at hj
  by_cases e:j=i
  subst e;have b:(vs.set j u).getD j Cz=u:=w_;have d:(Ls.set j L).getD j []=L:=w_;rw[b,d];exact As o f d_;have b:(vs.set i u).getD j Cz=vs.getD j Cz:=w_;have d:(Ls.set i L).getD j []=Ls.getD j []:=w_;rw[b,d];refine As (Ag.kept (h.each j hj) g ?_) f d_
  rcases Nat.lt_or_gt_of_ne e with e|e
  exact(h.apart j i e l).symm.keeps;exact(h.apart i j e hj).keeps
 rw[List.length_set] at hk
 have a:∀x,x<Ls.length->x≠i->(vs.set i u).getD x Cz=vs.getD x Cz:=λx _ e=>w_
 have b:(vs.set i u).getD i Cz=u:=w_
 by_cases ej:j=i
 subst ej;rw[b,a k hk o_];exact Ch.moved (h.apart j k hjk hk) (h.each k hk) m
 by_cases ek:k=i
 subst ek;rw[b,a j o_ ej];exact(Ch.moved (h.apart j k hjk hk).symm (h.each j o_) m).symm;rw[a j o_ ej,a k hk ek];exact h.apart j k hjk hk
end
def Mg.view{w f v p b}(h:Mg w f v p (b.map Av)):LiV w v b:=by obtain⟨a,c,e⟩:=h.shape;rw[List.length_map] at e;refine⟨⟨a,c,e⟩,λi hi=>?_⟩;have d:i<(b.map Av).length:=w_;obtain⟨q,r,n,k,j,m,_,o,_⟩:=h.at d;have g:(b.map Av).getD i []=Av (b.getD i []):=w_;have l:=h.each i d;rw[o,g,Aw] at l;rw[g,Aw] at m;rw[List.length_map] at j;exact⟨q,r,n,k,j,m,l.nums rfl⟩
structure dx(w)(base)(v)(kvs)(Ks):Prop where
 row:Yk w base 227 4 v (List.zipWith Cf Ks kvs)
 len:kvs.length=Ks.length
 each:∀i,i<Ks.length->Ag w base (kvs.getD i Oi).1 (Ks.getD i Ay).e.bs/\Cc w base (kvs.getD i Oi).2 (Ks.getD i Ay).e.ww
section
variable {w w':World} {base:Nat} {v v':Value} {kvs:List (Value×Value)} {Ks:List KS}
def dx.nil w base:dx w base (.slice none 0 0) [] []:=⟨Yk.nil _ _ _ _,rfl,λi hi=>by simp at hi⟩
def dx.zlen(h:dx w base v kvs Ks):(List.zipWith Cf Ks kvs).length=Ks.length:=by rw[List.length_zipWith,h.len,Nat.min_self]
def dx.touch{K}(h:dx w base v kvs Ks)(t:Aa K w w')(d:∀k cur ty,w.heap[k]? =some (.cells cur ty (0,0))->ty=227∨ty=3∨ty=9->base<=k->¬K k):dx w' base v kvs Ks:=by have a:∀{ty sz n:Nat} {u:_} {xs:_},w.ownsRow _ ty sz u n xs->(ty=227∨_=3∨ty=9)->_:=λhr hty=>t.row hr (λk hk=>by obtain⟨c,b⟩:=Ad hr hk;exact d k c _ b hty (rl_ hr k hk).1);exact⟨⟨a h.row.row (.inl rfl),h.row.wid⟩,h.len,λi hi=>⟨a (h.each i hi).1 (.inr (.inl rfl)),a (h.each i hi).2 (.inr (.inr rfl))⟩⟩
def dx.below(h:dx w base v kvs Ks)(hb:Below w.heap.size w w'):dx w' base v kvs Ks:=h.touch (.of_below (S:=λ_=>False) hb) (λ_ _ _ _ _ _=>id)
def dx.more{k u}(h:dx w base v kvs Ks)(j:Ag w base u.1 k.e.bs)(f:Cc w base u.2 k.e.ww)(g:w.grownBy w' v.ownBlock)(r:w'.ownsRow base 227 4 v' (Ks.length+1) ((List.zipWith Cf Ks kvs).flatten++Cf k u)):dx w' base v' (kvs++[u]) (Ks++[k]):=by
 have d:=h.len;refine⟨?_,by simp[d],λi hi=>?_⟩;rw[List.zipWith_append d.symm];exact h.row.more w_ rfl;have a:∀{ty sz n:Nat} {x:_} {xs:_},w.ownsRow base ty sz x n xs->_:=λhr hne=>World.ownsRow.kept hr g (An h.row.row hr hne);rw[Qe,List.length_singleton] at hi
 by_cases e:i<Ks.length
 have b:(kvs++[u]).getD i Oi=kvs.getD i Oi:=w_;have c:(Ks++[k]).getD i Ay=Ks.getD i Ay:=w_;rw[b,c];exact⟨a (h.each i e).1 d_,a (h.each i e).2 d_⟩;obtain rfl:i=Ks.length:=o_;have b:(kvs++[u]).getD Ks.length Oi=u:=w_;have c:(Ks++[k]).getD Ks.length Ay=k:=(by simp[List.getD]);rw[b,c];exact⟨a j d_,a f d_⟩
def dx.view(h:dx w base v kvs Ks):FeV w v Ks:=by obtain⟨a,c,e⟩:=h.row.shape;rw[h.zlen] at e;refine⟨⟨a,c,e⟩,λi hi=>?_⟩;obtain⟨q,o,d,_,_,_,_,b⟩:=h.row.at (i:=i) (by rw[h.zlen];exact hi);rw[h.zlen] at d;obtain⟨n,l,k⟩:=(h.each i hi).1.shape;obtain⟨j,m,f⟩:=(h.each i hi).2.form;have g:(List.zipWith Cf Ks kvs).getD i []=Cf (Ks.getD i Ay) (kvs.getD i Oi):=(by simp[List.getD,List.getElem?_zipWith,hi,show i<kvs.length by rw[h.len];exact hi]);rw[g] at b;exact⟨q,o,n,l,j,m,d,b 0 o_ _ rfl,b 1 o_ _ (by rw[<- k];rfl),b 2 o_ _ (by rw[<- f];rfl),b 3 o_ _ rfl⟩
end
def Ty(w:World)(db n:Nat)(vF vB vC vX:Value):Prop:=w.heap[db]? =some (.cells #[I_ n,vF,vB,vC,vX] 142 (0,0))
structure MkX(w:World)(base mb db n:Nat)(vF vB vC vX vb vo)(kvs)(bbs)(Ks)(Bb:List (List Nat))(outs):Prop where
 blk:w.heap[mb]? =some (.cells #[P_ db,vb,vo] 331 (0,0))
 ds:Ty w db n vF vB vC vX
 fe:dx w base vF kvs Ks
 bb:Mg w base vb bbs (Bb.map Av)
 ou:Ag w base vo (Av outs)
 len:Bb.length=Ks.length
 rows:∀i,i<Bb.length->(Bb.getD i []).length=n
 one:∀i,i<Ks.length->od (Ks.getD i Ay)
section
variable {w w':World} {base mb db n:Nat} {vF vB vC vX vb vo vB' vC' vX':Value} {kvs:List (Value×Value)} {bbs:List Value} {Ks:List KS} {Bb:List (List Nat)} {outs:List Nat}
def MkX.view(h:MkX w base mb db n vF vB vC vX vb vo kvs bbs Ks Bb outs):MkV w mb db n Ks Bb:=
 ⟨cq_ 0 _ 331 (0,0) h.blk,⟨vb,cq_ 1 _ 331 (0,0) h.blk,h.bb.view⟩,⟨cq_ 0 _ 142 (0,0) h.ds,⟨vF,cq_ 1 _ 142 (0,0) h.ds,h.fe.view⟩,h.one⟩,h.len,h.rows⟩
def MkX.dbw(h:MkX w base mb db n vF vB vC vX vb vo kvs bbs Ks Bb outs)(t:Aa (λq=>q=db) w w')(d:Ty w' db n vF vB' vC' vX'):MkX w' base mb db n vF vB' vC' vX' vb vo kvs bbs Ks Bb outs:=by
 have a:∀k cur ty,w.heap[k]? =some (.cells cur ty (0,0))->ty≠142->¬k=db:=λk cur ty hk hty e=>by
  have b:=h.ds;unfold Ty at b
  grind
 exact⟨t.at_ h.blk (a _ _ _ h.blk d_),d,h.fe.touch t (λk cur ty hk hty _=>a k _ _ hk w_),h.bb.touch t (λk cur ty hk hty _=>a k _ _ hk w_),
  t.row h.ou (λk hk=>by obtain⟨c,f⟩:=Ad h.ou hk;grind),h.len,h.rows,h.one⟩
end
structure Tb(w wr)(db n)(vF vB vC vX vc vd)(bvs)(Fs:List (List Nat))(cs)(dl):Prop where
 tch:Aa (λq=>q=db) w wr
 ds:Ty wr db n vF vB vC vX
 bu:Mg wr w.heap.size vB bvs (Fs.map Av)
 cf:Ag wr w.heap.size vc (Av cs)
 ap:∀i,i<Fs.length->Ch vc (bvs.getD i Cz)
 dn:Ev wr w.heap.size vd dl
 lt:db<w.heap.size
section
variable {w wr wr':World} {db n:Nat} {vF vB vC vX vc vd:Value} {bvs:List Value} {Fs:List (List Nat)} {cs:List Nat} {dl:List Bool}
def Tb.below(h:Tb w wr db n vF vB vC vX vc vd bvs Fs cs dl)(a:Below wr.heap.size wr wr'):Tb w wr' db n vF vB vC vX vc vd bvs Fs cs dl:=by have t:=Aa.of_below (S:=λ_=>False) a;exact⟨h.tch.below a,t.at_ h.ds id,h.bu.below a,h.cf.below a,h.ap,t.row h.dn (λ_ _=>id),h.lt⟩
def Ty.lt(h:Ty w db n vF vB vC vX):db<w.heap.size:=(Qb h).1
def Ty.ne(h:Ty w db n vF vB vC vX){k ty:Nat}{cur}(hk:w.heap[k]? =some (.cells cur ty (0,0)))(hty:ty≠142):k≠db:=λe=>by
 unfold Ty at h
 grind
def Tb.done{g c i m b}(h:Tb w wr db n vF vB vC vX vc (L_ g m c) bvs Fs cs dl)(l:dl.length=m):Tb w (wr.setCell (A_ g i) (.bool b)) db n vF vB vC vX vc (L_ g m c) bvs Fs cs (dl.set i b):=by
 obtain⟨o,s⟩:=Ad h.dn (k:=g) rfl;have r:=(rl_ h.dn g rfl).1;have t:Aa _ _ (wr.setCell _ (.bool b)):=(Aa.refl (λq=>q=g) _).setCell (p:=(A_ g i)) (λ_=>rfl) _
 have a:∀k d ty,wr.heap[k]? =some (.cells d ty (0,0))->ty≠4->¬k=g:=λk d ty hk hty e=>w_
 have f:Ev (wr.setCell (A_ g i) (.bool b)) w.heap.size (L_ g m c) (dl.set i b):=(by have j:=h.dn;unfold Ev at j ⊢;rw[l] at j;rw[List.length_set,l,List.map_set];exact(World.ownsRow.stored j i _).1);exact⟨h.tch.setCell (p:=(A_ g i)) (λhlt=>by simp at hlt;omega) _,t.at_ h.ds (a _ _ _ h.ds d_),h.bu.touch t (λk d ty hk hty _=>a k _ _ hk w_),t.row h.cf (λk hk=>by obtain⟨d,u⟩:=Ad h.cf hk;grind),h.ap,f,h.lt⟩
def Tb.grow{q c b u L}(h:Tb w wr db n vF (L_ q Fs.length c) vC vX vc vd bvs Fs cs dl)(s:b<Fs.length)(g:wr.grownBy wr' (bvs.getD b Cz).ownBlock)(x:Ag wr' w.heap.size u (Av L))(r:u.ownBlock=(bvs.getD b Cz).ownBlock∨u.ownBlock=some wr.heap.size):Tb w (wr'.setCell (A_ q b) u) db n vF (L_ q Fs.length c) vC vX vc vd (bvs.set b u) (Fs.set b L) cs dl:=by
 have f:b<(Fs.map Av).length:=w_;have l:=h.bu.each b f;have t:=(Aa.refl _ _).grown g (λk hk _=>hk);have A:Mg wr w.heap.size (L_ q (Fs.map Av).length c) bvs (Fs.map Av):=(by rw[List.length_map];exact h.bu);have o:=A.grow f g x r;rw[List.length_map] at o;have a:∃d,wr'.heap[q]? =some (.cells d 25 (0,0)):=by have y:=World.ownsRow.kept h.bu.row g (An l h.bu.row d_);exact Ad y (k:=q) rfl
 obtain⟨d,a⟩:=a;have v:=(rl_ h.bu.row q rfl).1;have j:Ty _ _ n _ _ _ _:=t.at_ h.ds (λe=>by obtain⟨C,B⟩:=Ad l e;exact h.ds.ne B d_ rfl);have z:Aa _ _ (wr'.setCell _ u):=(Aa.refl (λk=>k=q) _).setCell (p:=(A_ q b)) (λ_=>rfl) _;refine⟨(h.tch.grown g (λk hk hlt=>by have:=(rl_ l k hk).1;omega)).setCell (p:=(A_ q b)) (λhlt=>by simp at hlt;omega) _,z.at_ j (λe=>j.ne a d_ e.symm),by rw[List.map_set];exact o,?_,λi hi=>?_,?_,h.lt⟩;exact As (Ag.kept h.cf g ((h.ap b s).symm.keeps)) a d_
 ·rw[List.length_set] at hi
  by_cases e:i=b
  subst e;have m:(bvs.set i u).getD i Cz=u:=(by have:=h.bu.len;grind);rw[m];exact(Ch.moved (h.ap i s).symm h.cf r).symm;have m:(bvs.set b u).getD i Cz=bvs.getD i Cz:=w_;rw[m];exact h.ap i hi
 exact As (World.ownsRow.kept h.dn g (An l h.dn d_)) a d_
def Tb.conf{g c b m z}(h:Tb w wr db n vF vB vC vX (L_ g m c) vd bvs Fs cs dl)(j:cs.length=m):Tb w (wr.setCell (A_ g b) (I_ (z:Nat))) db n vF vB vC vX (L_ g m c) vd bvs Fs (cs.set b z) dl:=by
 obtain⟨l,u⟩:=Ad h.cf (k:=g) rfl;have r:=(rl_ h.cf g rfl).1;have t:Aa _ _ (wr.setCell _ (I_ (z:_))):=(Aa.refl (λq=>q=g) _).setCell (p:=(A_ g b)) (λ_=>rfl) _
 have f:∀k d ty,wr.heap[k]? =some (.cells d ty (0,0))->ty≠3->¬k=g:=λk d ty hk hty e=>w_
 have a:=(Ag.put h.cf (k:=b) (by rw[Aw];exact j.symm) (z:Int)).1;have e:(Av cs).set b z=Av (cs.set b z):=(by unfold Av;rw[List.map_set]);rw[e] at a
 have o:Mg _ _ _ _ _:=
  ⟨t.row h.bu.row (λk hk=>by obtain⟨d,s⟩:=Ad h.bu.row hk;grind),λi hi=>t.row (h.bu.each i hi) (λk hk e=>by
   have:=h.ap i w_;subst e
   rcases this with e|e|e
   simp[Value.ownBlock] at e
   ·grind
   exact e (by rw[hk];rfl)),h.bu.apart⟩
 exact⟨h.tch.setCell (p:=(A_ g b)) (λhlt=>by simp at hlt;omega) _,t.at_ h.ds (f _ _ _ h.ds d_),o,a,h.ap,t.row h.dn (λk hk=>by obtain⟨d,s⟩:=Ad h.dn hk;grind),h.lt⟩
def Tb.newB{u vB' L}(h:Tb w wr db n vF vB vC vX vc vd bvs Fs cs dl)(d:Ag wr w.heap.size u (Av L))(f:∀i,i<Fs.length->Ch (bvs.getD i Cz) u)(m:Ch vc u)(g:wr.grownBy wr' vB.ownBlock)(r:wr'.ownsRow w.heap.size 25 1 vB' (Fs.length+1) (bvs++[u])):Tb w (wr'.setCell (A_ db 2) vB') db n vF vB' vC vX vc vd (bvs++[u]) (Fs++[L]) cs dl/\Ty wr' db n vF vB vC vX:=by
 have t:=(Aa.refl _ _).grown g (λk hk _=>hk);have a:Ty _ _ n _ _ _ _:=t.at_ h.ds (λe=>by obtain⟨c,j⟩:=Ad h.bu.row e;exact h.ds.ne j d_ rfl);have l:=h.bu.more (L:=Av L) d (λi hi=>f i w_) g (by rw[List.length_map];exact r);have q:Aa _ _ (wr'.setCell _ vB'):=(Aa.refl (λk=>k=db) _).setCell (p:=(A_ db 2)) (λ_=>rfl) _;have o:=h.bu.len;rw[List.length_map] at o;refine⟨⟨(h.tch.grown g (λk hk hlt=>by have:=(rl_ h.bu.row k hk).1;omega)).setCell (p:=(A_ db 2)) (λ_=>rfl) _,ht_ 2 _ _ _ a,?_,?_,λi hi=>?_,?_,h.lt⟩,a⟩;rw[List.map_append];exact l.touch q (λk c ty hk hty _=>a.ne hk w_);exact As (Ag.kept h.cf g (An h.bu.row h.cf d_)) a d_
 ·rw[Qe,List.length_singleton] at hi
  by_cases e:i<Fs.length
  have b:(bvs++[u]).getD i Cz=bvs.getD i Cz:=w_;rw[b];exact h.ap i e
  grind
 exact As (World.ownsRow.kept h.dn g (An h.bu.row h.dn d_)) a d_
def Tb.newC{a}{z:Nat}(h:Tb w wr db n vF vB vC vX vc vd bvs Fs cs dl)(g:wr.grownBy wr' vc.ownBlock)(f:Ag wr' w.heap.size a (Av cs++[(z:Int)]))(c:a.ownBlock=vc.ownBlock∨a.ownBlock=some wr.heap.size):Tb w wr' db n vF vB vC vX a vd bvs Fs (cs++[z]) dl:=by have t:=(Aa.refl _ _).grown g (λk hk _=>hk);have b:Ty _ _ n _ _ _ _:=t.at_ h.ds (λe=>by obtain⟨j,d⟩:=Ad h.cf e;exact h.ds.ne d d_ rfl);refine⟨h.tch.grown g (λk hk hlt=>by have:=(rl_ h.cf k hk).1;omega),b,⟨World.ownsRow.kept h.bu.row g (An h.cf h.bu.row d_),λi hi=>Ag.kept (h.bu.each i hi) g (h.ap i w_).keeps,h.bu.apart⟩,by unfold Av at *;grind,λi hi=>Ch.moved (h.ap i hi) (h.bu.each i w_) c,World.ownsRow.kept h.dn g (An h.cf h.dn d_),h.lt⟩
end
def Cl a b:strOfNums a++strOfNums b=strOfNums (a++b):=by apply ByteArray.ext;simp[strOfNums]
def ja n:Ba n 1=[n%256]:=rfl
theorem ZbX L p:∀k,k<=L.length->kv (L++[p]) k=kv L k
 |0,_=>rfl
 |k+1,h=>by have e1:(L++[p]).getD k (0,0)=L.getD k (0,0):=w_;have e2:Ek (L++[p]) k=Ek L k:=(by grind [Ek]);simp only[kv];rw[ZbX L p k o_,e1,e2]
def ZiM L p:kv (L++[p]) (L.length+1)=kv L L.length++[(p.1-Ek L L.length)%256,p.2%256]:=by grind [Ek,kv,ZbX]
theorem eu L p:Ek (L++[p]) (L.length+1)=p.1:=by unfold Ek;simp[List.getD]
theorem ZiK N:∀k,k<=N.length->(Fu N k).length=Dj ((nzL N).take k)
 |0,_=>by simp[Fu,Dj]
 | k +1,h=>by
  have hk:k<(nzL N).length:=by rw[Vm];omega
  have e:(nzL N)[k]=decide (N.getD k 0≠0):=by
   have:=Zbr (N:=N) (k:=k) o_
   grind
  rw[Qi hk,My,<- ZiK N k o_,e];simp only[Fu]
  grind
def Zkx N:(Fu N N.length).length=nzN N:=by grind [ZiK,nzN,Vm]
def Zat N:∀k,-1<=Ek (Fu N k) (Fu N k).length/\Ek (Fu N k) (Fu N k).length<k
 |0=>by simp[Fu,Ek]
 | k+1=>by
  have:=Zat N k
  grind [Fu,eu]
def Zcu:∀g:Fin 64,∀b:Fin 7,b.val<Lib.bitLen g.val->0<g.val/2^b.val:=by decide+kernel
def Zds f a T (h:f T=0):Cd f a (T+1)=Cd f a T:=by
 have:=Xm f a T;rw[<- this,fm,h,Nat.zero_mul,Nat.add_zero];apply List.ext_getElem;simp
 grind [Cd]
def Zf1 a (c g:Nat) N w (h:NuV w a N)(hn:N.length<=200)(hg:g<64)(hv:∀r,N.getD r 0<=1000000):C_ 136 #[.slice a N.length c,.int .i64 g] w λe w'=>e=.returned (.string (strOfNums (Kz N g)))/\Below w.heap.size w w':=by
 have HN:=x1_ h;have HV:=x1_ hv;have U:Hid (Kz N g=if 4*(Fu N N.length).length<N.length then zv (Fu N N.length) else 100::Cd (Dr N (Lib.bitLen g)) ((N.length*Lib.bitLen g+7)/8) (N.length*Lib.bitLen g)):=(by show _=_;rw[Zkx];rfl);obtain⟨n,Y⟩:=ey_ N.length;have HL:=x1_ Y;have I:=x1_ (Vy N);rw[Y] at hn U ⊢;clear h hv Y;go_enter Tryz.func136,Tryz.ntmps136;go_upto_region 5 with fail;go_loopw [5,6,7,8] (λt5 t6 t7 t8 wr=>∃(r:Nat) (S:ByteArray),t5=.int .i64 ((Fu N r).length:Nat)/\t6=.string S/\t7=.int .i64 (Ek (Fu N r) (Fu N r).length)/\t8=.int .i64 r/\r<=n/\Hid (S=strOfNums (kv (Fu N r) (Fu N r).length))/\Hid (E_ w wr)) (λ_ _ _ t8 _=>n-(intOf t8).toNat)
 case atStart=>exact⟨0,_,rfl,rfl,rfl,rfl,qg_,rfl,bz_⟩
 case round=>
  obtain⟨r,S,rfl,rfl,rfl,rfl,hr,F,m⟩:=hrel
  by_cases hin:r<n
  ·have g1:r<(n:Int):=o_;have g0:0<=(r:Int):=o_;obtain⟨q,rfl,C⟩:=HN r (by rw[HL];exact hin);have V:=Ac m C;have hx:=HV r;have X:Hid (Fu N (r+1)=_++_):=rfl;obtain⟨x,o⟩:=ey_ (N.getD r 0);rw[o] at C V hx X;have a5:=World.block_lt_of_cell? _ _ C;clear o;have ha:=Zat N r;have a1:=I r
   by_cases hx0:x=0
   ·subst hx0;have G:Hid (Fu N (r+1)=Fu N r):=w_;clear X;refine rd_ ?_;exact⟨r+1,S,by rw[G],rfl,by rw[G],g_,o_,by rw[G];exact F,m⟩
   have G:Hid (Fu N (r+1)=Fu N r++[(r,x)]):=w_;have bI:¬(x:Int)=0:=o_;clear X;obtain⟨L,hL⟩:=ey_ (Fu N r);have bE:=x1_ hL;rw[hL] at ha a1 F G ⊢;clear hL;obtain⟨la,O⟩:=ey_ (Ek L L.length);have aM:=x1_ O;rw[O] at ha ⊢;clear O;obtain⟨d,hd⟩:∃d:Nat,r-la=d:=⟨((r:Int)-la).toNat,o_⟩;have q1:_=(d:Int):=Cb o_ o_;have aG:Hid (∀W,E_ w W->C_ 135 #[_,.int .i64 1] W λe w'=>_/\_):=λW hW=>(Qw _ d 1 W o_ o_ (.inl ⟨o_,rfl⟩)).mono (λ_ _ h=>⟨h.1,hW.trans (h.2.mono hW.size)⟩);have s:Hid (∀W,E_ w W->C_ 135 #[_,.int .i64 1] W λe w'=>_/\_):=λW hW=>(Qw _ x 1 W o_ o_ (.inl ⟨o_,rfl⟩)).mono (λ_ _ h=>⟨h.1,hW.trans (h.2.mono hW.size)⟩)
   have aH:S.size<=2000:=by rw[F,Br,Vz];omega
   have aC:(strOfNums (Ba d 1)).size=1:=(by rw[Br];rfl);have aX:(strOfNums (Ba x 1)).size=1:=by rw[Br];rfl
   have aU:Hid (strOfNums (kv (L++[(r,x)]) (L++[(r,x)]).length)=S++strOfNums (Ba d 1)++strOfNums (Ba x 1)):=(by show _=_;rw[Qe,List.length_singleton,ZiM,aM,hd,F,Cl,Cl,ja,ja,List.append_assoc];rfl);have aK:Hid (Ek (L++[(r,x)]) (L++[(r,x)]).length=r):=(by show _=_;rw[Qe,List.length_singleton,eu]);have aI:Hid ((L++[(r,x)]).length=L.length+1):=(by show _=_;simp);generalize strOfNums (Ba (d:Nat) 1)=s1,strOfNums (Ba (x:Nat) 1)=s2,L.length=ll at *;have z1:¬9223372036854775807<S.size+s1.size:=o_;have z2:¬9223372036854775807<S.size+s1.size+s2.size:=o_;clear aC aX;go_upto_region 9 with fail;have t:=m.out;go_cut [6] (λv wx=>v=.string (S++s1++s2)/\Hid (E_ w wx))
   case first=>
    refine Al (λw'=>w'.cell? _=some _) 12 k_ V (λhHeld=>?_);refine Ah 0 ?_;refine Ah 1 ?_;refine Ah 2 ?_;refine Ah 3 ?_;refine Ah 6 ?_;refine Ah 7 ?_;refine Ah 8 ?_;refine Tx [10,11,12] 9 (v:=?_) ?_ ?_
    rotate_left;· intro w aO;go_simp;try with_reducible rfl
    try simp only[Act.put,sA,sB,sC]
    refine Af (i:=4) k_ rfl (λKK hK=>?_);go_simp;refine(aG _ t.drew).mono ?_;rintro e w2 ⟨rfl,A⟩;go_simp;refine hK _ _ ((A.cell (p:=(A_ q r)) a5).trans C) (λhHeld=>?_);clear hK KK;try simp only[Act.put,sA,sB,sC]
    refine Ah 5 ?_;refine Af (i:=10) k_ rfl (λKK hK=>?_);go_simp;refine(s _ A).mono ?_;rintro e w3 ⟨rfl,aQ⟩;go_simp;refine hK _ _ ((aQ.cell (p:=(A_ q r)) a5).trans C) (λhHeld=>?_);clear hK KK;try simp only[Act.put,sA,sB,sC]
    refine Ah 11 ?_;refine Ai (i:=12) k_ rfl k_ (λKK hK=>?_);go_simp;refine hK _ _ ?_;clear hK KK;try simp only[Act.put,sA,sB,sC]
    refine Ak k_ ?_ _;go_wp2;go_meet
    grind
   case rest=>
   obtain⟨rfl,H⟩:=hcut;clear m t aG s V;refine rd_ ?_;exact⟨r+1,_,by rw[G,aI];go_num,rfl,by rw[G,aK],g_,o_,by rw[G];exact aU.symm,H⟩
  have aY:r=n:=o_;subst aY;have bC:¬r<(r:Int):=o_;have a1:=I r;clear I
  by_cases h4:4*(Fu N r).length<r
  ·have D:Hid (Kz N g=zv (Fu N r)):=w_;have M:Hid (strOfNums (zv (Fu N r))=({data:=#[115]}:ByteArray)++strOfNums (Ba (Fu N r).length 1)++S):=(by show _=_;rw[F,show({data:=#[115]}:ByteArray)=strOfNums [115] from rfl,Cl,Cl];rfl);have HP:=Qw ((Fu N r).length:Nat) (Fu N r).length 1;have aH:S.size<=2000:=by rw[F,Br,Vz];omega
   have aC:(strOfNums (Ba (Fu N r).length 1)).size=1:=(by rw[Br];rfl);have z1:¬9223372036854775807<1+(strOfNums (Ba (Fu N r).length 1)).size:=o_;have z2:¬9223372036854775807<1+(strOfNums (Ba (Fu N r).length 1)).size+S.size:=o_;generalize strOfNums (Ba ((Fu N r).length:Nat) 1)=s1,(Fu N r).length=ll at *;have a2:4*ll<(r:Int):=o_;have s:Hid (∀W,Calls _ 135 #[_,I_ 1] W λe w'=>_):=λW=>HP W o_ o_ (.inl ⟨o_,rfl⟩);clear HP U F h4;go_wp2_with fail
   refine(s _).mono ?_;rintro e w2 ⟨rfl,A⟩;have H:=x1_ (m.trans (A.mono m.size));clear A m s;go_wp2;go_ret;exact⟨by rw[D,M];rfl,H⟩
  have D:Hid (Kz N g=100::Cd (Dr N (Lib.bitLen g)) ((r*Lib.bitLen g+7)/8) (r*Lib.bitLen g)):=w_;have aW:=Re hg;have b3:=rq hg;have aB:Hid (∀b,b<Lib.bitLen g->0<g/_):=λb hb=>Zcu ⟨g,hg⟩ ⟨b,o_⟩ hb;generalize Lib.bitLen g=d at *;have a2:¬4*(Fu N r).length<(r:Int):=o_;generalize (Fu N r).length=ll at *;clear U F h4;generalize wr=w1 at *;go_upto_region 14 with fail;go_loopw [9] (λt9 wr=>∃b:Nat,t9=.int .i64 b/\b<=d/\Hid (w1=wr)) (λt9 _=>d-(intOf t9).toNat)
  case atStart=>exact⟨0,rfl,qg_,rfl⟩
  case round=>
   obtain⟨b,rfl,hb,hw⟩:=hrel;have aP:=hw.out;subst aP;clear hw
   by_cases hbd:b<d
   ·have aL:0<=(b:Int):=o_;have aV:(b:Int)<64:=o_;have hp:=aB b hbd;have aA:0<(g:Int)/2^b:=w_;clear hp;refine rd_ ?_;exact⟨b+1,g_,o_,True.intro⟩
   have a0:b=d:=o_;subst a0;have aL:0<=(b:Int):=o_;have aV:(b:Int)<64:=o_
   have aA:¬0<(g:Int)/2^b:=(by grind [Nat.div_eq_of_lt]);obtain⟨P,hP⟩:=ey_ (r*b);have bB:P<=1200:=(by rw[<- hP];exact Nat.mul_le_mul hn aW);have aS:r*b=(P:Int):=(by rw[<- hP];simp);obtain⟨f,a6⟩:=ey_ ((P+7)/8);have q1:((P:Int)+7).tdiv 8=f:=w_;have q2:(P+7)/8=(f:Int):=o_;have aT:=Tt f o_;have B:Hid (_/\P<=8*f/\f<=200):=⟨hP,o_,o_⟩;rw[hP,a6] at D;clear hP a6 aB b3;go_upto_region 17 with fail;have HO:Hid (Bj (w1.alloc (.cells (madeCells #[.int .u8 0] f) 5)) w1.heap.size (L_ w1.heap.size f f) (Cd (Dr N b) f 0)/\E_ w (w1.alloc (.cells (madeCells #[.int .u8 0] f) 5))):=by refine⟨?_,m.alloc m.size _⟩;rw[jm];exact Tr _ _ _ o_ qa_
   have aN:=m.size;clear aT q1 q2 aA a2 m aS;generalize w1.alloc (.cells (madeCells #[.int .u8 0] f) 5)=w2,w1.heap.size=q at *;go_upto_region 18 with fail;go_loopw [11] (λti wr=>∃i:Nat,ti=.int .i64 i/\i<=r/\Hid (Bj wr q (.slice (some ⟨q,0,none⟩) f f) (Cd (Dr N b) f (i*b))/\E_ w wr)) (λti _=>r-(intOf ti).toNat)
   case atStart=>grind
   case round=>
    clear HO;obtain⟨i,rfl,hi,j⟩:=hrel
    by_cases hir:i<r
    ·have i0 :0<=(i:Int):=o_;have i1:i<(r:Int):=o_;obtain⟨qn,rfl,C⟩:=HN i (by rw[HL];exact hir);have b5:=World.block_lt_of_cell? _ _ C;have hx:=HV i;obtain⟨Q,hQ⟩:=ey_ (i*b);have bF:i*b=(Q:Int):=by rw[<- hQ];simp
     have bL:Q+b<=P:=by
      rw[<- hQ,<- B.1];have:(i+1)*b<=r*b:=Nat.mul_le_mul_right _ hir
      grind
     have a8:Hid (∀k,_->Dr N b (Q+k)=_%2):=λk hk=>by rw[<- hQ];exact Zav N hk
     have HQ:=x1_ hQ;rw[hQ] at j;clear hQ;obtain⟨x,o⟩:=ey_ (N.getD i 0);rw[o] at C hx a8;clear o;generalize wr=w3 at *;go_upto_region 21 with fail;go_loopw [12] (λtk wr=>∃k:Nat,tk=.int .i64 k/\k<=b/\Hid (Bj wr q (.slice (some ⟨q,0,none⟩) f f) (Cd (Dr N b) f (Q+k))/\E_ w wr)) (λtk _=>b-(intOf tk).toNat)
     case atStart=>exact⟨0,rfl,qg_,j⟩
     case round=>
      clear j;obtain⟨k,rfl,hk,j⟩:=hrel
      by_cases hkb:k<b
      ·have k0:0<=(k:Int):=o_;have k1:k<(b:Int):=o_;have k2:(k:Int)<64:=o_;have cx:=(j.2.cell (p:=(A_ qn i)) b5).trans C;have l:=a8 k hkb;have b6:=B.out;have e1:((x:Int)/2^k).tmod 2=(x/2^k%2:Nat):=by rw[show((x:Int)/2^k)=((x/2^k:Nat):Int) by simp];rfl
       rcases Nat.mod_two_eq_zero_or_one (x/2^k) with t|a9
       ·rw[t] at l e1;have HF:Hid (Cd _ f (Q+(k+1))=Cd _ _ (Q+k)):=Zds _ _ _ l;clear t l;refine rd_ ?_;exact⟨k+1,g_,o_,by rw[HF];exact j⟩
       rw[a9] at l e1;obtain⟨T,Z⟩:=ex_ (Q+k);obtain⟨J,hJ⟩:=ex_ (T/8);obtain⟨R,hR⟩:=ex_ (T%8);have aF:J<f:=o_;obtain⟨E,a7⟩:=j.1.cellK (k:=J) (by rw[Gp]) aF;rw[Tw _ _ aF] at E;obtain⟨y,hy⟩:=ex_ (Hd (Dr N b) (Q+k) J);have aJ:y<2^R:=(by rw[hy,hJ,hR,<- Z];exact fp (Uj N b) T);have bK:R<8:=o_
       have aR:2^R<=128:=by
        have:(2:Nat)^R<=2^7:=Nat.pow_le_pow_right d_ o_
        simpa using this
       obtain⟨z,hz⟩:=ex_ (2^R);obtain⟨u,hu⟩:=ex_ (y+z);have a4:Hd (Dr N b) (Q+k+1) J=u:=by rw[hu,hz,hy,hJ,hR,<- Z,fm,Z,l,Nat.one_mul]
       have aD:Hid ((Cd (Dr N b) f (Q+k)).set J u=Cd (Dr N b) f (Q+(k+1))):=by show _=_;rw[<- a4];have:=Xm (Dr N b) f (Q+k);rw[<- Z,<- hJ,Z] at this;exact this
       have t1:Q+k=(T:Int):=o_;have t2:(T:Int).tdiv 8=J:=(by rw[Int.tdiv_eq_ediv_of_nonneg o_];omega);have t3:T/8=(J:Int):=o_;have t4:(T:Int).tmod 8=R:=(by rw[Int.tmod_eq_emod_of_nonneg o_];omega);have t5:T%8=(R:Int):=o_
       have t6:IntKind.u8.wrap (1*2^R)=z:=by
        rw[Int.one_mul,Wf _ (by have:(0:Nat)<=2^R:=qg_;exact_mod_cast this) (by
         have:((2:Int)^R)=((2^R:Nat):Int):=s_
         rw[this];omega)]
        rw[hz];simp
       have b8:IntKind.u8.wrap (2^R)=z:=(by rw[<- t6,Int.one_mul]);have t7:IntKind.u8.wrap (y+z)=u:=by rw[Wf _ o_ o_];omega
       have t8:_=(J:Int):=Cb o_ o_;have t9:_=(T:Int):=Cb o_ o_;have bG:0<=(R:Int):=o_;have bM:(R:Int)<=8:=o_;have bA:0<=(J:Int):=o_;have bD:J<(f:Int):=o_;have bT:(T:Int)<=1300:=o_;rw[<- hy] at E;have d1:wr.drew.cell? _=_:=E;have fq:wr.drew.frozen? _=_:=a7;clear a9 l Z hJ hR E a7 hy aJ hz hu a4 aR;go_upto_region 25 with fail;refine Al (λw'=>w'.cell? _=some _) 13 k_ d1 (λhHeld=>?_);refine Ah 0 ?_;refine Ah 1 ?_;refine Ah 2 ?_;refine Ah 3 ?_;refine Ah 4 ?_;refine Ah 5 ?_;refine Ah 6 ?_;refine Tx [11,12,13] 7 (v:=?_) ?_ ?_
       rotate_left;· intro w aO;go_simp;try with_reducible rfl
       try simp only[Act.put,sA,sB,sC]
       refine Ah 8 ?_;refine Ah 9 ?_;refine Ah 10 ?_;refine Ah 11 ?_;refine Ah 12 ?_;refine Ai (i:=13) k_ rfl k_ (λKK hK=>?_);go_simp;refine hK _ _ ?_;clear hK KK;try simp only[Act.put,sA,sB,sC]
       refine Ak k_ ?_ _;have aZ:Hid (Bj (wr.setCell (A_ q J) (.int .u8 u)).drew q (L_ q f f) (Cd (Dr N b) f (Q+(k+1)))/\E_ w (wr.setCell (A_ q J) (.int .u8 u)).drew):=(by rw[<- aD];exact⟨World.ownsRow.drew (j.1.put (by rw[Gp]) _).1,(j.2.setCell (p:=(A_ q J)) aN _).drew⟩);clear j hHeld d1 fq cx;refine rd_ ?_;exact⟨k+1,g_,o_,aZ⟩
      have aE:k=b:=o_;subst aE;have b9:¬k<(k:Int):=o_
      have HF:Hid (Bj wr q (L_ q f f) (Cd (Dr N k) f ((i+1)*k))/\E_ w wr):=(by have:(i+1)*k=Q+k:=(by rw[Nat.add_mul,Nat.one_mul,HQ]);rw[this];exact j);clear j;refine rd_ ?_;exact⟨i+1,g_,o_,HF⟩
    have a3:i=r:=o_;subst a3;have b7:¬i<(i:Int):=o_;have bO:=Pz _ q _ _ j.1;have HF:=x1_ j.2;have M:Hid (strOfNums (Kz N g)=({data:=#[100]}:ByteArray)++strOfNums (Cd (Dr N b) f (i*b))):=(by show _=_;rw[D,B.1,show({data:=#[100]}:ByteArray)=strOfNums [100] from rfl,Cl];rfl);have bN:(strOfNums (Cd (Dr N b) f (i*b))).size=f:=(by rw[Br,Gp]);have bH:=B.2.2;have z1:¬9223372036854775807<1+(strOfNums (Cd (Dr N b) f (i*b))).size:=o_;clear j;generalize strOfNums (Cd (Dr N b) f (i*b))=sp at *;go_wp2;go_ret;exact⟨by rw[M];rfl,HF⟩
def Ra v q o k L w (p:Ag w v o L)(l:Ag w q k L)(G:L.length<=1000000):C_ 140 #[o,k] w λe w'=>e=.returned (.bool true)/\∃m,w'=w.drewN m:=by
 obtain⟨a,c,rfl,u⟩:=p.form;obtain⟨C,E,rfl,h⟩:=l.form
 have B:Hid (∀i,i<L.length->∃b d,a=some ⟨b,0,none⟩/\C=some ⟨d,0,none⟩/\w.cell? (A_ b i)=some (I_ (L.getD i 0))/\w.cell? (A_ d i)=some (I_ (L.getD i 0))):=λi hi=>w_
 clear p l u h;generalize L.length=n at *;go_enter Tryz.func140,Tryz.ntmps140;go_upto_region 4 with fail;go_loopw [5] (λti wr=>∃(i m:Nat),i<=n/\ti=.int .i64 i/\Hid (wr=w.drewN m)) (λti _=>n-(intOf ti).toNat)
 case atStart=>exact⟨0,0,qg_,rfl,rfl⟩
 case round=>
  obtain⟨i,m,r,rfl,j⟩:=hrel;have D:=j.out;subst D;clear j
  by_cases hi:i<n
  ·have A:0<=(i:Int):=o_;have t:i<(n:Int):=o_;obtain⟨b,d,rfl,rfl,x,f⟩:=B i hi;have y:(w.drewN m).cell? (A_ b i)=some (I_ (L.getD i 0)):=(by rw[<- x];exact cb_ (below_drewN (br_ _ w) m|>.block _ (World.block_lt_of_cell? w _ x)));have F:(w.drewN m).cell? (A_ d i)=some (I_ (L.getD i 0)):=(by rw[<- f];exact cb_ (below_drewN (br_ _ w) m|>.block _ (World.block_lt_of_cell? w _ f)));clear x f;generalize L.getD i 0=z,hW:w.drewN m=w1 at *;have g:=x1_ hW;clear hW;go_upto_region 6 with fail;go_quiet (fail);refine rd_ ?_;exact⟨i+1,_,o_,g_,by rw[<- g];exact World.drewN_drewN _ _ _⟩
  have s:¬i<(n:Int):=o_;go_wp2;go_ret;exact⟨rfl,_,rfl⟩
def zt t p o l L w (j:Cc w t o L)(h:Cc w p l L)(E:L.length<=1000000):C_ 141 #[o,l] w λe w'=>e=.returned (.bool true)/\∃m,w'=w.drewN m:=by
 obtain⟨a,c,rfl⟩:=j.form;obtain⟨A,C,rfl⟩:=h.form
 have v:Hid (∀i,i<L.length->∃b d,a=some ⟨b,0,none⟩/\A=some ⟨d,0,none⟩/\w.cell? (A_ b i)=some (.string (L.getD i ⟨#[]⟩))/\w.cell? (A_ d i)=some (.string (L.getD i ⟨#[]⟩))):=λi hi=>by
  obtain⟨b,e,_,x⟩:=j.atW rfl hi ⟨#[]⟩;obtain⟨d,F,_,f⟩:=h.atW rfl hi ⟨#[]⟩
  grind
 clear j h;generalize L.length=n at *;go_enter Tryz.func141,Tryz.ntmps141;go_upto_region 4 with fail;go_loopw [5] (λti wr=>∃(i m:Nat),i<=n/\ti=.int .i64 i/\Hid (wr=w.drewN m)) (λti _=>n-(intOf ti).toNat)
 case atStart=>exact⟨0,0,qg_,rfl,rfl⟩
 case round=>
  obtain⟨i,m,q,rfl,k⟩:=hrel;have B:=k.out;subst B;clear k
  by_cases hi:i<n
  ·have u:0<=(i:Int):=o_;have s:i<(n:Int):=o_;obtain⟨b,d,rfl,rfl,x,f⟩:=v i hi;have y:(w.drewN m).cell? (A_ b i)=some (.string (L.getD i ⟨#[]⟩)):=(by rw[<- x];exact cb_ (below_drewN (br_ _ w) m|>.block _ (World.block_lt_of_cell? w _ x)));have D:(w.drewN m).cell? (A_ d i)=some (.string (L.getD i ⟨#[]⟩)):=(by rw[<- f];exact cb_ (below_drewN (br_ _ w) m|>.block _ (World.block_lt_of_cell? w _ f)));clear x f;generalize L.getD i ⟨#[]⟩=z,hW:w.drewN m=w1 at *;have g:=x1_ hW;clear hW;go_upto_region 6 with fail;go_quiet (fail);refine rd_ ?_;exact⟨i+1,_,o_,g_,by rw[<- g];exact World.drewN_drewN _ _ _⟩
  have r:¬i<(n:Int):=o_;go_wp2;go_ret;exact⟨rfl,_,rfl⟩
end Go.Proofs.YtfcgnpchbcmdeaaGreat
