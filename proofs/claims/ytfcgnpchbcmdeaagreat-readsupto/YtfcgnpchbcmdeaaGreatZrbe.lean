import Derived.Test.YtfcgnpchbcmdeaaGreatZrbh
namespace Go.Proofs.YtfcgnpchbcmdeaaGreat
set_option linter.all false
set_option maxRecDepth 100000
set_option maxHeartbeats 8000000
open Go.RowKit
def Km(ss:List ByteArray):List Int:=ss.flatMap (λs=>s.size%256::Aq s)
def ux{L:List ByteArray}{k}(h:k<L.length) d:Km (L.take (k+1))=Km (L.take k)++((L.getD k d).size:Int)%256::Aq (L.getD k d):=by
 unfold Km;rw[Qi h,List.flatMap_append]
 grind
def yn(k:KS):List Int:=[119,(k.d:Int)%256,k.e.cnt%256]++Km k.e.ww
def Hb.own{c w v d}(h:Hb c w v d):Bj w c.heap.size v d:=by
 refine⟨h.ow.1,?_⟩
 rcases h.ow.2 with f|⟨g,b,a,e,_,r⟩
 exact .inl f;exact .inr ⟨g,b,a,e,h.nw g (by rw[e];rfl),r⟩
def Hb.of_own{a w v b}(c:Below a.heap.size a w)(h:Bj w a.heap.size v b):Hb a w v b:=by
 refine⟨c,⟨h.1,?_⟩,λk hk=>(rl_ h k hk).1⟩
 rcases h.2 with f|⟨g,i,d,e,_,r⟩
 exact .inl f
 grind
def Cc.atW{w b a n c L}(h:Cc w b (.slice a n c) L)(i:L.length=n){k}(j:k<n) d:∃q,a=some ⟨q,0,none⟩/\q<w.heap.size/\w.cell? (A_ q k)=some (.string (L.getD k d)):=by
 have f:=h;subst i
 rcases h.2 with⟨e,h0⟩|⟨g,cap,cur,e,_,hh,_⟩
 omega;simp only[Value.slice.injEq,true_and] at e;obtain⟨rfl,rfl⟩:=e;refine⟨g,rfl,(Qb hh).1,?_⟩;rw[World.ownsRow.cellAt f k o_]
 grind
def Pt b:(Aq b).length=b.size:=by unfold Aq;rw[List.length_map];rfl
def kx s:Go.Lib.strCells s=(Aq s).map (Value.int .u8):=by unfold Go.Lib.strCells Aq;rw[List.map_map];rfl
def Xd N ab aw cb cw k a c y w (J:k.e.wd=true)(hI:Cc N 0 (.slice aw k.e.ww.length cw) k.e.ww)(ho:Hb N w (.slice a y.length c) y)(aW:k.e.ww.length<=1000)(hr:∀x∈k.e.ww,x.size<=8)(hl:y.length<=900000):C_ 100 #[.agg #[.bool k.e.wd,.slice ab 0 cb,.slice aw k.e.ww.length cw,.int .i64 k.d],.slice a y.length c] w λe w'=>dz N (y++yn k) e w':=by
 rw[J];have H0:=x1_ ho;have HI:=x1_ hI;have aN:=x1_ hr;have I:k.e.cnt=k.e.ww.length:=by unfold ES.cnt La;rw[J];rfl
 have aO:Hid (yn k=[119,(k.d:Int)%256,k.e.ww.length%256]++Km k.e.ww):=by show _=_;unfold yn;rw[I]
 have aP:Hid (∀W:_,Calls _ 169 _ W λe w'=>e=.returned (.int _ ((k.e.ww.length:Nat):Int))/\_):=λW=>Wo true ab aw 0 cb _ cw W;obtain⟨i0,C,a0,U,L⟩:=info_parts Nf;have a6:Hid _:=ho.ow;clear hI ho hr J I;generalize k.d=d,hbl:y.length=bl,hnb:k.e.ww.length=nb at *;have D:=x2_ hbl hnb;clear hbl hnb;go_enter Tryz.func100,Tryz.ntmps100;go_upto_region 4 with fail;generalize hW1:w.alloc (.cells #[.bool true,.slice ab 0 cb,.slice aw nb cw,I_ (d:Nat)] 172)=w1;have aC:E_ w w1:=(by rw[<- hW1];exact bA_);have h:w1.heap[w.heap.size]? =some (.cells #[.bool true,.slice ab 0 cb,.slice aw nb cw,I_ d] 172 (0,0)):=(by rw[<- hW1];exact hn_);have l:=(Qb h).1;have x0:=cR_ 0 h;have x1:=cR_ 1 h;have x2:=cR_ 2 h;have x3:=cR_ 3 h
 have a4:=x2_ h aC;clear hW1 aC h;refine Al (λw'=>w'.cell? _=some _/\w'.cell? _=some _/\w'.cell? _=some _/\w'.cell? _=some _) 11 k_ ⟨x0,x1,x2,x3⟩ (λhHeld=>?_);refine Ah 0 ?_;refine Ah 1 ?_;refine Ah 2 ?_;refine Ua [4,9,10,11] 3 (v:=?_) ?_ ?_
 rotate_left
 ·intro w R;try obtain⟨_,_,_,_⟩:=R
  go_simp;try with_reducible rfl
 try simp only[Act.put,sA,sB,sC]
 refine Ah 4 ?_;refine Ah 5 ?_;refine Ua [7,8,9,10,11] 6 (v:=?_) ?_ ?_
 rotate_left
 ·intro w R;try obtain⟨_,_,_,_⟩:=R
  go_simp;try with_reducible rfl
 try simp only[Act.put,sA,sB,sC]
 refine Af (i:=7) k_ rfl (λKK hK=>?_);go_simp;refine(aP _).mono ?_;rintro e G ⟨rfl,aB⟩;have b:=(br_ w1.heap.size _).drew.trans aB;have y0:=(b.cell (p:=(A_ w.heap.size 0)) l).trans x0;have y1:=(b.cell (p:=(A_ w.heap.size 1)) l).trans x1;have y2:=(b.cell (p:=(A_ w.heap.size 2)) l).trans x2;have y3:=(b.cell (p:=(A_ w.heap.size 3)) l).trans x3;have g:=Qh l b.size;go_simp;refine hK _ _ ⟨y0,y1,y2,y3⟩ (λhHeld=>?_);clear hK KK aB;try simp only[Act.put,sA,sB,sC]
 refine Ah 8 ?_;refine Af (i:=9) k_ rfl (λKK hK=>?_);go_simp;refine hK _ _ ⟨(Below.cell (B:=G.heap.size) (p:=(A_ w.heap.size 0)) bA_ g).trans y0,(Below.cell (B:=G.heap.size) (p:=(A_ w.heap.size 1)) bA_ g).trans y1,(Below.cell (B:=G.heap.size) (p:=(A_ w.heap.size 2)) bA_ g).trans y2,(Below.cell (B:=G.heap.size) (p:=(A_ w.heap.size 3)) bA_ g).trans y3⟩ (λhHeld=>?_);clear hK KK;try simp only[Act.put,sA,sB,sC]
 refine Af (i:=10) k_ rfl (λKK hK=>?_);have m:=a4.2.trans (b.mono (Nat.le_of_lt l));refine Az rfl (.tmp 13) (.tmp 22) 66 rfl 0 5 i0 (.int .u8 0) 1 1 Tryz.underlying66 C a0 U L rfl d_ (.slice a bl c) bl (y.map (Value.int .u8)) j_ (ra_ (w:=G) ((Aa.of_below (S:=λ_=>False) m).row a6 (λ_ _=>id)) _) (A_ G.heap.size 0) 3 3 [.int .u8 119,.int .u8 ((d:Int)%256),.int .u8 ((nb:Int)%256)] j_ rfl (Am G _ 5) (by intro u hu;simp at hu;rcases hu with rfl|rfl|rfl<;>rfl) d_ m_ o_ s_ ?_;intro v6 w6 H6;obtain⟨r6,g6,aI,_,q6,p6,aT⟩:=H6;have H:Below _ w (G.alloc (.cells #[.int .u8 119,.int .u8 ((d:Int)%256),.int .u8 ((nb:Int)%256)] 5)):=m.alloc m.size _
 have a8:=Ec.pre H (Ec.of_mark g6 aI qa_);have aD:Bj _ 0 _ (_++[_,_,_]):=Bj.more (n:=3) (by rw[D.1];exact r6) rfl
 have r:=(g6.block _ t_ (λe=>by
  have:=(rl_ a6 _ e.symm).2
  omega)).trans ((hc_ g).trans ((b.block _ l).trans a4.1))
 have h0:=H0.out;have Q:=x2_ (h0.app aD a8) r;have z0:=cR_ 0 r;have z1:=cR_ 1 r;have z2:=cR_ 2 r;have z3:=cR_ 3 r;subst aT;clear r6 g6 aI H a8 aD r h0 y0 y1 y2 y3 m;refine hK _ _ ⟨z0,z1,z2,z3⟩ (λhHeld=>?_);clear hK KK;try simp only[Act.put,sA,sB,sC]
 refine Ai (i:=11) k_ rfl k_ (λKK hK=>?_);go_simp;refine hK _ _ ?_;clear hK KK;try simp only[Act.put,sA,sB,sC]
 refine Ak k_ ?_ _;clear x0 x1 x2 x3 hHeld;have e1:=cR_ 1 Q.2;clear z0 z1 z2 z3 hHeld;go_wp2_with fail
 go_loopw [1,28] (λtv ti wr=>tv=.slice (some ⟨q6,0,none⟩) (bl+3) p6/\ti=.int .i64 0/\Hid (w6=wr)) (λ_ _ _=>0)
 case atStart=>exact⟨rfl,rfl,rfl⟩
 case round=>
  obtain⟨rfl,rfl,hw⟩:=hrel;have aL:=hw.out;subst aL;clear hw;have e2:=cR_ 2 Q.2;go_wp2_with fail
  go_loopw [1,40] (λtv ti wr=>∃(j:Nat) (aj:Option Addr) (cj:Nat) (t:List Int),tv=.slice aj t.length cj/\ti=.int .i64 j/\j<=nb/\Hid (t=y++[119,(d:Int)%256,(nb:Int)%256]++Km (k.e.ww.take j))/\t.length<=bl+3+9*j/\Hid (Hb N wr (.slice aj t.length cj) t/\wr.heap[w.heap.size]? =some (.cells #[.bool true,.slice ab 0 cb,.slice aw nb cw,.int .i64 (d:Nat)] 172 (0,0)))) (λ_ ti _=>nb-(intOf ti).toNat)
  case atStart=>
   have aU:(y++[119,(d:Int)%256,nb%256]).length=bl+3:=(by rw[Qe,D.1];rfl);refine⟨0,some _,p6,y++[119,(d:Int)%256,(nb:Int)%256],by rw[aU],rfl,qg_,?_,o_,?_⟩;show _=_;rw[List.take_zero];simp[Km]
   grind
  case round=>
   clear Q e2 e1;obtain⟨j,aj,cj,t,rfl,rfl,hj,Z,aM,E⟩:=hrel;have b6:=(Qb E.2).1
   by_cases hjl:j<nb
   ·have aQ:j<k.e.ww.length:=(by rw[D.2];exact hjl);have a9:=HI.below E.1.bl;obtain⟨q,hq,aX,y0⟩:=a9.atW D.2 hjl ⟨#[]⟩;subst hq;have aF:(k.e.ww.getD j ⟨#[]⟩).size<=8:=aN _ w_;have HX:Hid (y++[119,(d:Int)%256,nb%256]++Km (k.e.ww.take (j+1))=(t++[((k.e.ww.getD j ⟨#[]⟩).size:Int)%256])++Aq (k.e.ww.getD j ⟨#[]⟩)):=by show _=_;rw[ux aQ ⟨#[]⟩,Z];simp
    clear a9;generalize k.e.ww.getD j ⟨#[]⟩=x at *;obtain⟨O,M⟩:=ex_ t.length;have F:=x1_ M;rw[<- M] at E aM ⊢;clear M;have A:Hid (wr.ownsRow 0 5 1 (.slice aj O cj) O (t.map (Value.int .u8))):=(by have Y:=E.1.ow;unfold Bj at Y;rw[<- F] at Y;exact Y);have aZ:0<=(j:Int):=o_;have aY:j<(nb:Int):=o_;have X:=x1_ aF;clear aF;obtain⟨sx,aH⟩:=ex_ x.size;have b3:=x1_ aH;clear aH;go_wp2_with (at_builtin;refine Ab rfl (.tmp 44) (.tmp 48) 66 rfl 0 5 i0 (.int .u8 0) 1 1 Tryz.underlying66 C a0 U L rfl d_ _ O (t.map (Value.int .u8)) rfl (A.alloc _) _ 1 1 [.int .u8 _] rfl rfl (Am wr _ 5) (by intro u hu;simp at hu;subst hu;rfl) d_ m_ o_ s_ ?_)
    intro v4 w4 H4;obtain⟨r4,g4,d4,_,q4,p4,aS⟩:=H4;have a2:Bj _ 0 _ (_++[_]):=Bj.more (n:=1) (by rw[<- F];exact r4) rfl;have V:=Ec.pre bA_ (Ec.of_mark g4 d4 s_);have aK:=V.1.at_ E.2 (λe=>Au A e E.2 d_ rfl);have f:=E.1.app a2 V;subst aS;have s:=x2_ f aK;have o:Hid (w4.ownsRow N.heap.size 5 1 (L_ q4 (O+1) p4) (O+1) ((t++[(x.size:Int)%256]).map (Value.int .u8))):=by have Y:=f.own;unfold Bj at Y;rw[Qe,<- F] at Y;exact Y
    have aG:=f.bl.size;have aR:x.size<=8->_:=λ_=>trivial;clear r4 g4 d4 a2 V aK f A E y0 aR;obtain⟨L4,a1⟩:=ex_ (t++[(x.size:Int)%256]);rw[<- a1] at s o HX;have a7:Hid (L4.length=O+1):=(by show _=_;rw[a1,Qe,F];rfl);clear a1;go_wp2_with (at_builtin;refine Go.Lib.wpList_append_own_string _ rfl (.tmp 50) (.tmp 51) 66 9 rfl N.heap.size 5 i0 Tryz.underlying66 Tryz.underlying9 C a0 U L _ (O+1) _ rfl o x rfl (by have:=X.out;unfold maxLen;omega) (by have:=X.out;omega) aG ?_)
    intro v5 w5 r5 g5 d5;have P:Bj w5 N.heap.size v5 (L4++Aq x):=(by unfold Bj;rw[Qe,a7,Pt,List.map_append,<- kx];exact r5);obtain⟨a5,c5,rfl⟩:=P.form;have T:=(Aa.refl _ _).grown g5 (λk hk _=>hk);have a3:=T.at_ s.2 (λe=>Au o e s.2 d_ rfl);have aJ:=s.1.bl.trans (T.to_below aG (λz hz=>s.1.nw z hz));have HN:=x2_ (Hb.of_own aJ P) a3;have aV:Hid ((L4++Aq x).length<=bl+3+9*(j+1)):=(by show _<=_;rw[Qe,a7,Pt];have:=X.out;omega);clear r5 g5 d5 P T a3 aJ s o;generalize L4++Aq x=L5 at *;refine rd_ ?_;exact⟨j+1,a5,c5,L5,rfl,g_,o_,HX.symm,aV,HN⟩
   have b5:¬j<(nb:Int):=o_;have aE:k.e.ww.take j=_:=List.take_of_length_le (by have:=D.2;omega);have aA:t=y++yn k:=(by rw[Z,aE,aO,List.append_assoc]);have HF:=x2_ E.1 aA;clear aE aA Z E;go_wp2;go_ret;refine⟨aj,cj,?_,?_⟩;rw[<- HF.2];rfl;rw[<- HF.2];exact HF.1
def ZiP{x s:ByteArray}(h:¬x=s):(x.toList==s.toList)=false:=by
 rw[beq_eq_false_iff_ne,Lib.toList_data,Lib.toList_data];intro e;apply h
 cases x;cases s
 simp at e;rw[e]
def xo{B:List Int}{r}(h:r<B.length) p:(B.take (r+1)).countP p=(B.take r).countP p+(if p (B.getD r 0)=true then 1 else 0):=by
 rw[Qi h,List.countP_append,Qc,Qd h]
 grind
def ZcY{L:List ByteArray}{s k}(h:k<L.length)(a:L.getD k ⟨#[]⟩=s)(b:∀j,j<k->L.getD j ⟨#[]⟩≠s):L.findIdx (λy=>decide (y=s))=k:=by grind [List.findIdx_eq]
def ZcZ{L:List ByteArray}{s}(a:∀j,j<L.length->L.getD j ⟨#[]⟩≠s):L.findIdx (λy=>decide (y=s))=L.length:=w_
def Zir n vb Z d e s w (G:Ag w n vb e.bs)(J:Cc w n Z e.ww)(U:Ol e)(hx:e.wd=true->e.bs=[])(hy:e.wd=false->e.ww=[]):C_ 239 #[.agg #[.bool e.wd,vb,Z,.int .i64 d],.agg #[.bool s.miss,.int .i64 s.num,.string s.word]] w λz w'=>z=.returned (.int .i64 (Dy e s:Nat))/\Below w.heap.size w w':=by
 obtain⟨p,c,a⟩:=e;obtain⟨D,f,g⟩:=s;simp only at G J hx hy ⊢;have V:=U.lb;have M:=U.lw;simp only at V M;obtain⟨L,E,rfl⟩:=G.shape;obtain⟨C,B,rfl⟩:=J.form;obtain⟨u,l⟩:=ex_ ((w.alloc (.cells #[.bool p,.slice L c.length E,.slice C a.length B,I_ d] 227)).alloc (.cells #[.bool D,I_ f,.string g] 335));have F:E_ w u:=by rw[l];exact bA_.alloc s_ _
 have H:u.heap[w.heap.size]? =some (.cells #[.bool p,.slice L c.length E,.slice C a.length B,I_ d] 227 (0,0)):=(by grind [hb_,ha_]);have I:u.heap[w.heap.size+1]? =some (.cells #[.bool D,I_ f,.string g] 335 (0,0)):=by have e:=ha_ (w.alloc (.cells #[.bool p,.slice L c.length E,.slice C a.length B,I_ d] 227)) (.cells #[.bool D,I_ f,.string g] 335);rw[show(w.alloc (.cells #[.bool p,.slice L c.length E,.slice C a.length B,I_ d] 227)).heap.size=w.heap.size+1 by simp,<- l] at e;exact e
 have i:=x1_ F;have T:=x1_ (G.below F);have X:=x1_ (J.below F);have t:=x1_ l;have c0:=cR_ 0 H;have c1:=cR_ 1 H;have c2:=cR_ 2 H;have d0:=cR_ 0 I;have d1:=cR_ 1 I;have d2:=cR_ 2 I;clear G J U l H I F;go_enter Tryz.func239,Tryz.ntmps239;go_upto_region 1 with fail;rw[<- t];clear t
 cases D with
 | true=>
  have r:Hid (Dy ⟨p,c,a⟩ ⟨true,f,g⟩=c.length+a.length+1):=by
   show _=_
   grind [Dy,ES.cnt,La]
  go_wp2;go_ret;rw[r];exact⟨g_,i⟩
 | false =>
  cases p with
  | true=>
   have Q:=hx rfl;subst Q;have r:Hid (Dy ⟨true,[],_⟩ ⟨false,f,_⟩=a.findIdx (λy=>decide (y=g))):=rfl;go_wp2_with fail
   go_loopw [6] (λt6 wr=>∃(k m:Nat),t6=.int .i64 k/\k<=a.length/\Hid (∀j,j<k->a.getD j ⟨#[]⟩≠g)/\wr=u.drewN m) (λt6 _=>a.length-(intOf t6).toNat)
   case atStart=>exact⟨0,0,rfl,qg_,λj hj=>o_,rfl⟩
   case round=>
    obtain⟨k,m,rfl,W,N,o⟩:=hrel;subst o
    by_cases hin:k<a.length
    ·obtain⟨q,rfl,_,hc⟩:=X.atW rfl hin ⟨#[]⟩;have g1:k<(a.length:Int):=o_;have g2:0<=(k:Int):=o_
     by_cases heq:a.getD k ⟨#[]⟩=g
     ·have P:=x1_ (ZcY hin heq N);have e2:((a.getD k ⟨#[]⟩).toList==g.toList)=true:=(by rw[heq];simp);generalize a.getD k ⟨#[]⟩=x at *;clear heq;go_upto_region 8 with fail;go_quiet (fail);go_wp2;go_ret;rw[r,P];exact⟨rfl,below_drewN (below_drewN i _) _⟩
     have e2:=ZiP heq
     have Y:Hid (∀j,j<k+1->a.getD j ⟨#[]⟩≠g):=λj hj=>by
      by_cases h:j=k
      rw[h];exact heq;exact N j o_
     generalize a.getD k ⟨#[]⟩=x at *;clear heq;go_upto_region 8 with fail;go_quiet (fail);refine rd_ ?_;exact⟨k+1,m+nq,g_,o_,Y,s_⟩
    have v:k=a.length:=o_;have P:=x1_ (ZcZ (λj hj=>N j o_));have g1:¬k<(a.length:Int):=o_;go_wp2;go_ret;rw[r,P];exact⟨s_,below_drewN i _⟩
  | false=>
   have O:=hy rfl;subst O;have r:Hid (Dy ⟨false,_,[]⟩ ⟨false,_,g⟩=c.countP (λb=>decide (b<f))):=rfl;go_wp2_with fail
   go_loopw [7,8] (λt7 t8 wr=>∃(k m:Nat),t8=.int .i64 k/\k<=c.length/\t7=.int .i64 ((c.take k).countP (λb=>decide (b<f)):Nat)/\(c.take k).countP (λb=>decide (b<f))<=k/\wr=u.drewN m) (λ_ t8 _=>c.length-(intOf t8).toNat)
   case atStart=>exact⟨0,0,rfl,qg_,s_,s_,rfl⟩
   case round=>
    obtain⟨k,m,rfl,W,rfl,R,o⟩:=hrel;subst o
    by_cases hin:k<c.length
    ·obtain⟨q,rfl,_,_,hc,_⟩:=T.atK rfl hin;have g1:k<(c.length:Int):=o_;have g2:0<=(k:Int):=o_;have S:Hid ((c.take _).countP (λb=>decide (b<f))=_):=xo hin _;generalize c.getD k 0=x,(c.take k).countP (λb=>decide (b<f))=cr at *
     by_cases hlt:x<f
     ·have A:Hid ((c.take (k+1)).countP (λb=>decide (b<f))=cr+1):=w_;have g3:=decide_eq_true hlt;go_upto_region 15 with fail;go_quiet (fail);refine rd_ ?_;exact⟨k+1,m+nq,g_,o_,by rw[A];go_num,by rw[A];omega,s_⟩
     have A:Hid ((c.take (k+1)).countP (λb=>decide (b<f))=cr):=(by show _=_;rw[S,if_neg w_];rfl);have g3:=decide_eq_false hlt;go_upto_region 15 with fail;go_quiet (fail);refine rd_ ?_;exact⟨k+1,m+nq,g_,o_,by rw[A],by rw[A];omega,s_⟩
    have v:k=c.length:=o_;subst v;rw[List.take_length] at R;rw[List.take_length];go_wp2;go_ret;rw[r];exact⟨rfl,below_drewN i _⟩
def Sh:Int×List VS:=(0,[])
def Sp(w:World)(a:Option Addr)(n nf:Nat)(L:List (Int×List VS)):Prop:=
 L.length=n/\(n=0∨∃q,a=some ⟨q,0,none⟩/\∀r,r<n->w.cell? (A_ q (r*2))=some (I_ (L.getD r Sh).1)/\∃g c,w.cell? (A_ q (r*2+1))=some (L_ g nf c)/\(L.getD r Sh).2.length=nf/\∀i,i<nf->w.cell? (A_ g (i*3))=some (.bool ((L.getD r Sh).2.getD i Ax).miss)/\w.cell? (A_ g (i*3+1))=some (I_ ((L.getD r Sh).2.getD i Ax).num)/\w.cell? (A_ g (i*3+2))=some (.string ((L.getD r Sh).2.getD i Ax).word))
def Sp.below{w d a n b L}(h:Sp w a n b L)(i:Below w.heap.size w d):Sp d a n b L:=by
 refine⟨h.1,h.2.imp id ?_⟩;rintro⟨q,e,j⟩;refine⟨q,e,λr hr=>?_⟩;obtain⟨m,g,c,k,l,o⟩:=j r hr;have f:∀p v,_=some v->_:=λp v hp=>(i.cell (World.block_lt_of_cell? w p hp)).trans hp
 grind
def ry:∀(L:List Ka) (i:Nat),i<L.length->∀c,c<2->(Ox L)[i*2+c]? =(Pv (L.getD i ⟨0,[],.slice none 0 0⟩))[c]?
 |[],i,h=>by simp at h
 |x::L,0,_=>λc hc=>by grind [Ox,Pv]
 |x::L,i+1,h=>λc hc=>by simp only[Ox];rw[List.getElem?_append_right (by simp[Pv];omega),show(i+1)*2+c-(Pv x).length=i*2+c by simp[Pv];omega];exact ry L i (by simpa using h) c hc
def Fy.view{w d c n m a L}(h:Fy w d (.slice a n c) L)(x:L.length=n)(y:∀p∈L,p.fs.length=m)(A:0<m):Sp w a n m (L.map Ka.pr):=by
 subst x;refine⟨List.length_map _,?_⟩
 rcases h.row.2 with⟨e,e0⟩|⟨q,cap,cur,e,_,hh,hnc,_⟩
 exact .inl e0;refine .inr ?_;injection e with e1 e2 e3;subst e1;refine⟨q,rfl,λr hr=>?_⟩;have z:(L.map Ka.pr).getD r Sh=Ka.pr (L.getD r ⟨0,[],.slice none 0 0⟩):=w_
 have t:L.getD r ⟨0,[],.slice none 0 0⟩∈L:=w_;rw[z];generalize hp:L.getD r ⟨0,[],.slice none 0 0⟩=p at *
 have j:∀o u,o<2->(Pv p)[o]? =some u->w.cell? (A_ q (r*2+o))=some u:=λo u f hu=>by rw[World.ownsRow.cellAt h.row (r*2+o) o_,ry L r hr o f,hp];exact hu
 have k:=y p t;have f:=h.each p t;refine⟨j 0 _ o_ rfl,?_⟩
 rcases f.2 with⟨_,e0⟩|⟨g,cap2,cur2,ev,_⟩
 omega;have l:=j 1 _ o_ rfl;rw[ev] at l;rw[k] at l;refine⟨g,cap2,l,k,λi hi=>?_⟩
 have s:w.ownsRow d 335 3 (L_ g p.fs.length cap2) p.fs.length (Ic p.fs):=by
  have v:=f;unfold oe at v
  grind
 have b:∀o u,o<3->(Hy (p.fs.getD i Ax))[o]? =some u->w.cell? (A_ g (i*3+o))=some u:=λo u f hu=>by rw[World.ownsRow.cellAt s (i*3+o) o_,Ww p.fs i o_ o f];exact hu
 exact⟨b 0 _ o_ rfl,b 1 _ o_ rfl,b 2 _ o_ rfl⟩
def Zit b n c a L s w (h:Cc w b (.slice a n c) L)(l:L.length=n)(B:n<=1000):C_ 244 #[.slice a n c,.string s] w λe w'=>e=.returned (.bool (Lib.containsS L s))/\w'=w:=by
 have v:=x1_ h;have f:=x1_ l;clear h l;go_enter Tryz.func244,Tryz.ntmps244;go_wp2_with fail
 go_loopw [5] (λt5 wr=>∃k:Nat,t5=.int .i64 k/\k<=n/\Hid (∀j,j<k->L.getD j ⟨#[]⟩≠s)/\wr=w) (λt5 _=>n-(intOf t5).toNat)
 case atStart=>exact⟨0,rfl,qg_,λj m=>o_,rfl⟩
 case round=>
  obtain⟨k,rfl,u,o,d⟩:=hrel;subst d
  by_cases hin:k<n
  ·obtain⟨q,rfl,_,z⟩:=v.atW f hin ⟨#[]⟩;have r:k<(n:Int):=o_;have y:0<=(k:Int):=o_
   by_cases heq:L.getD k ⟨#[]⟩=s
   ·have g:Hid (Lib.containsS L s=true):=by
     refine(Lib.containsS_iff L s).2 ?_;rw[<- heq,Qc,Qd (by rw[f];exact hin)]
     grind
    have p:((L.getD k ⟨#[]⟩).toList==s.toList)=true:=(by rw[heq];simp);generalize L.getD k ⟨#[]⟩=x at *;clear heq;go_wp2;go_ret;exact⟨by rw[g];rfl,rfl⟩
   have p:=ZiP heq
   have i:Hid (∀j,j<k+1->L.getD j ⟨#[]⟩≠s):=λj m=>by
    by_cases h:j=k
    rw[h];exact heq;exact o j o_
   generalize L.getD k ⟨#[]⟩=x at *;clear heq;refine rd_ ?_;exact⟨k+1,g_,o_,i,trivial⟩
  have g:Hid (Lib.containsS L s=false):=by
   show _=_;rw[<- Bool.not_eq_true,Lib.containsS_iff];intro t;obtain⟨j,m,e⟩:=List.getElem_of_mem t;have A:=f.out;refine o j o_ ?_
   grind
  have r:¬k<(n:Int):=o_;go_wp2;go_ret;exact⟨by rw[g];rfl,rfl⟩
def Pn(L:List (Int×List VS))(i:Nat)(s:ByteArray):Int:=((L.filter (λr=>!(r.2.getD i Ax).miss&&decide ((r.2.getD i Ax).word=s))).map Prod.fst).sum
def Zb7{L:List (Int×List VS)}{r}(h:r<L.length) i s:Pn (L.take (r+1)) i s=Pn (L.take r) i s+(if(!((L.getD r Sh).2.getD i Ax).miss&&decide (((L.getD r Sh).2.getD i Ax).word=s))=true then(L.getD r Sh).1 else 0):=by
 have e:L.getD r Sh=L[r]:=w_;unfold Pn
 grind [Qi]
def Ze3{L:List (Int×List VS)}(hw:∀r∈L,0<=r.1/\r.1<=99) i s:∀k,k<=L.length->0<=Pn (L.take k) i s/\Pn (L.take k) i s<=99*k
 |0,_=>by simp[Pn]
 | k+1,hk=>by
  have ih:=Ze3 hw i s k o_;rw[Zb7 o_]
  grind
def ZbO a n l c i L s w (h:Sp w a n l L)(G:i<l)(z:∀r∈L,0<=r.1/\r.1<=99)(V:n<=1000):C_ 290 #[.slice a n c,.int .i64 i,.string s] w λe w'=>e=.returned (.int .i64 (Pn L i s))/\∃m,w'=w.drewN m:=by
 have p:=x1_ h;have f:=x1_ (λk hk=>Ze3 z i s k (by rw[h.1];exact hk));clear h z;go_enter Tryz.func290,Tryz.ntmps290;go_wp2_with fail
 go_loopw [7,8] (λt7 t8 wr=>∃(k m:Nat),t8=.int .i64 k/\k<=n/\t7=.int .i64 (Pn (L.take k) i s)/\wr=w.drewN m) (λ_ t8 _=>n-(intOf t8).toNat)
 case atStart=>exact⟨0,0,rfl,qg_,rfl,rfl⟩
 case round=>
  obtain⟨k,m,rfl,H,rfl,j⟩:=hrel;subst j
  by_cases hin:k<n
  ·have D:k<(n:Int):=o_;have J:0<=(k:Int):=o_;have U:i<(l:Int):=o_;have T:0<=(i:Int):=o_
   rcases p.out.2 with I|⟨q,rfl,y⟩
   omega;obtain⟨N,g,R,S,_,u⟩:=y k hin;obtain⟨O,_,Q⟩:=u i G;clear u;have o:=x1_ (Zb7 (by rw[p.1];exact hin) i s);have F:=f k o_;have d:=x1_ (f (k+1) o_);clear y;generalize Pn (L.take k) i s=A,(L.getD k Sh).2.getD i Ax=v,(L.getD k Sh).1=x at *;obtain⟨C,P,t⟩:=v;simp only at *
   cases C with
   | true=>
    have b:Hid (Pn (L.take (k+1)) i s=A):=(by show _=_;rw[o,if_neg s_];omega);refine rd_ ?_;exact⟨k+1,_,g_,o_,by rw[b],by first|rfl|simp⟩
   | false=>
    by_cases heq:t=s
    ·have b:Hid (Pn (L.take (k+1)) i s=A+x):=w_;have B:(t.toList==s.toList)=true:=(by rw[heq];simp);have M:_=A+x:=Cb (by have:=b.out;have:=d.out;omega) (by have:=b.out;have:=d.out;omega);clear heq;refine rd_ ?_;exact⟨k+1,_,g_,o_,by rw[b],by first|rfl|simp⟩
    have b:Hid (Pn (L.take (k+1)) i s=A):=(by show _=_;rw[o,if_neg (by simp[heq])];omega);have B:=ZiP heq;clear heq;refine rd_ ?_;exact⟨k+1,_,g_,o_,by rw[b],by first|rfl|simp⟩
  have D:¬k<(n:Int):=o_;have E:k=L.length:=(by rw[p.1];omega);have o:Hid (Pn (L.take k) i s=Pn L i s):=(by show _=_;grind);go_wp2;go_ret;exact⟨rfl,_,rfl⟩
def Nl c a n m b g f d w (k:n<=1000)(j:m<=1000):C_ 189 #[.agg #[.bool f,.slice c n b,.slice a m g,.int .i64 d]] w λe w'=>e=.returned (.int .i64 (n+m+2:Nat))/\Below w.heap.size w w':=by have h:Below _ w (w.alloc (.cells #[.bool f,.slice c n b,.slice a m g,I_ d] 227)):=bA_;have i:=x1_ h;clear h;go_enter Tryz.func189,Tryz.ntmps189;go_wp2;go_ret;exact⟨g_,i⟩
def ZbN a h g j k b o c l f n i r x d (w:World)(D:w.cell? (A_ a 0)=some (P_ h))(t:w.cell? (A_ a 1)=some (L_ g b o))(v:w.cell? (A_ g i)=some (L_ j c l))(C:w.cell? (A_ j r)=some (I_ x))(u:w.cell? (A_ h 1)=some (L_ k f n))(B:w.cell? (A_ k (i*4+3))=some (I_ d))(q:i<b)(A:r<c)(p:i<f):C_ 292 #[.pointer (some ⟨a,0,none⟩),.int .i64 r,.int .i64 i] w λe w'=>e=.returned (.bool (x !=d))/\∃m,w'=w.drewN m:=by
 have E:0<=(i:Int):=o_;have s:i<(b:Int):=o_;have z:0<=(r:Int):=o_;have y:r<(c:Int):=o_;have F:i<(f:Int):=o_;go_enter Tryz.func292,Tryz.ntmps292;go_wp2_with fail
 go_quiet (fail);go_wp2;go_ret;exact⟨rfl,_,rfl⟩
def Ac{w w'}(hb:Below w.heap.size w w'){p v}(hp:w.cell? p=some v):w'.cell? p=some v:=(hb.cell (World.block_lt_of_cell? w p hp)).trans hp
def NuV(w:World)(a:Option Addr)(L:List Nat):Prop:=∀k,k<L.length->∃q,a=some ⟨q,0,none⟩/\w.cell? (A_ q k)=some (I_ (L.getD k 0:Nat))
def NuV.below{w w' a L}(h:NuV w a L)(hb:Below w.heap.size w w'):NuV w' a L:=λk hk=>by obtain⟨q,e,hc⟩:=h k hk;exact⟨q,e,Ac hb hc⟩
def Ag.nums{w base c n a L}(h:Ag w base (.slice a n c) (Av L))(hn:L.length=n):NuV w a L:=λk hk=>by
 obtain⟨q,e,_,_,hc⟩:=h.atK (by rw[Aw];exact hn) (k:=k) o_;rw[Cv] at hc
 grind
def LiV(w:World)(v:Value)(Ls:List (List Nat)):Prop:=(∃a c,v=.slice a Ls.length c)/\∀i,i<Ls.length->∃q c ag cg,v=L_ q Ls.length c/\w.cell? (A_ q i)=some (.slice ag (Ls.getD i []).length cg)/\NuV w ag (Ls.getD i [])
def LiV.below{w w' v Ls}(h:LiV w v Ls)(hb:Below w.heap.size w w'):LiV w' v Ls:=⟨h.1,λi hi=>by
 obtain⟨q,c,ag,cg,e,h1,h2⟩:=h.2 i hi
 exact⟨q,c,ag,cg,e,Ac hb h1,h2.below hb⟩⟩
def FeV(w:World)(v:Value)(Ks:List KS):Prop:=(∃a c,v=.slice a Ks.length c)/\∀i,i<Ks.length->∃q c ab cb aw cw,v=L_ q Ks.length c/\w.cell? (A_ q (i*4))=some (.bool (Ks.getD i Ay).e.wd)/\
  w.cell? (A_ q (i*4+1))=some (.slice ab (Ks.getD i Ay).e.bs.length cb)/\w.cell? (A_ q (i*4+2))=some (.slice aw (Ks.getD i Ay).e.ww.length cw)/\w.cell? (A_ q (i*4+3))=some (I_ (Ks.getD i Ay).d)
def FeV.below{w w' v Ks}(h:FeV w v Ks)(hb:Below w.heap.size w w'):FeV w' v Ks:=⟨h.1,λi hi=>by
 obtain⟨q,c,ab,cb,aw,cw,e,h1,h2,h3,h4⟩:=h.2 i hi
 grind [Ac]⟩
def np(k:KS):Prop:=k.e.bs.length<=1000/\k.e.ww.length<=1000/\(k.e.wd=true->k.e.bs=[])/\(k.e.wd=false->k.e.ww=[])
def np.many{k}(h:np k):k.e.bs.length+k.e.ww.length+2=k.many:=by
 unfold KS.many ES.cnt La
 cases hw:k.e.wd
 rw[h.2.2.2 hw];simp;rw[h.2.2.1 hw];simp
structure DkV(w:World)(db n)(Ks):Prop where
 d0:w.cell? (A_ db 0)=some (I_ (n:Nat))
 d1:∃v,w.cell? (A_ db 1)=some v/\FeV w v Ks
 one:∀i,i<Ks.length->np (Ks.getD i Ay)
def DkV.below{w b d n c}(h:DkV w d n c)(a:Below w.heap.size w b):DkV b d n c:=by obtain⟨e,f,g⟩:=h.d1;exact⟨Ac a h.d0,⟨e,Ac a f,g.below a⟩,h.one⟩
structure MkV(w:World)(mb db n)(Ks)(Bb):Prop where
 m0:w.cell? (A_ mb 0)=some (P_ db)
 m1:∃v,w.cell? (A_ mb 1)=some v/\LiV w v Bb
 dk:DkV w db n Ks
 len:Bb.length=Ks.length
 rows:∀i,i<Bb.length->(Bb.getD i []).length=n
def MkV.below{w c b f n d e}(h:MkV w b f n d e)(a:Below w.heap.size w c):MkV c b f n d e:=by obtain⟨g,j,i⟩:=h.m1;exact⟨Ac a h.m0,⟨g,Ac a j,i.below a⟩,h.dk.below a,h.len,h.rows⟩
def MkV.drewN{w mb db n Ks Bb}(h:MkV w mb db n Ks Bb) m:MkV (w.drewN m) mb db n Ks Bb:=h.below (below_drewN bz_ m)
def sO(Ks:List KS)(Bb:List (List Nat))(i r:Nat):Bool:=decide ((Bb.getD i []).getD r 0≠(Ks.getD i Ay).d)
def MkV.stands{w k A n b f}(h:MkV w k A n b f){i r}(j:i<b.length)(p:r<n):C_ 292 #[.pointer (some ⟨k,0,none⟩),.int .i64 r,.int .i64 i] w λe w'=>e=.returned (.bool (sO b f i r))/\∃m,w'=w.drewN m:=by obtain⟨H,z,y⟩:=h.m1;obtain⟨D,u,v⟩:=h.dk.d1;have a:i<f.length:=(by rw[h.len];exact j);obtain⟨q,c,J,C,rfl,o,s⟩:=y.2 i a;obtain⟨L,G,I,F,E,B,rfl,_,_,_,x⟩:=v.2 i j;rw[h.rows i a] at o;obtain⟨g,rfl,t⟩:=s r (by rw[h.rows i a];exact p);have l:=ZbN _ _ q g _ _ c n _ _ _ i r _ _ w h.m0 z o t u x a p j;have e:(((f.getD i []).getD r 0:Nat) !=((b.getD i Ay).d:Int))=sO b f i r:=(by grind [sO]);rw[e] at l;exact l
def DkV.feat{w b n a}(h:DkV w b n a){i}(f:i<a.length):∃q c ab cb aw cw,w.cell? (A_ b 1)=some (L_ q a.length c)/\w.cell? (A_ q (i*4))=some (.bool (a.getD i Ay).e.wd)/\w.cell? (A_ q (i*4+1))=some (.slice ab (a.getD i Ay).e.bs.length cb)/\w.cell? (A_ q (i*4+2))=some (.slice aw (a.getD i Ay).e.ww.length cw)/\w.cell? (A_ q (i*4+3))=some (I_ (a.getD i Ay).d):=by
 obtain⟨l,m,g⟩:=h.d1;obtain⟨o,k,ab,cb,aw,cw,rfl,j⟩:=g.2 i f
 grind
def clF(Ks:List KS)(Bb:List (List Nat))(fs:List Nat)(i k:Nat):Nat:=(List.range k).countP (λr=>sO Ks Bb i r&&fs.any (λf=>sO Ks Bb f r))
def Zhe a b c i k:clF a b c i (k+1)=clF a b c i k+(if(sO a b i k&&c.any (λf=>sO a b f k))=true then 1 else 0):=by unfold clF;rw[List.range_succ,List.countP_append,List.countP_singleton]
def Zk0 a b c i k:clF a b c i k<=k:=by have:=List.countP_le_length (p:=λr=>sO a b i r&&c.any (λf=>sO a b f r)) (l:=List.range k);rw[List.length_range] at this;exact this
def ZgU{a:List Nat}{k}(h:k<a.length) p:(a.take (k+1)).any p=((a.take k).any p||p (a.getD k 0)):=by
 rw[Qi h,List.any_append]
 grind
def Nd{a:List Nat}{k}(h:k<a.length):a.getD k 0∈a:=w_
def Zdv F Q n c i a b d g w (h:MkV w F Q n d g)(D:NuV w a b)(O:i<d.length)(x:∀f∈b,f<d.length)(Y:n<=1000)(R:b.length<=1000):C_ 291 #[.pointer (some ⟨F,0,none⟩),.slice a b.length c,.int .i64 i] w λe w'=>e=.returned (.int .i64 (clF d g b i n:Nat))/\∃m,w'=w.drewN m:=by
 have E:=x1_ h;have C:=x2_ D x;have m0:=h.m0;have d0:=h.dk.d0;obtain⟨l,p⟩:=ey_ b.length;have I:=x1_ p;rw[p] at R ⊢;clear h D x p;go_enter Tryz.func291,Tryz.ntmps291;go_wp2_with fail
 go_loopw [7,8] (λt7 t8 wr=>∃(r m:Nat),t8=.int .i64 r/\r<=n/\t7=.int .i64 (clF d g b i r:Nat)/\wr=w.drewN m) (λ_ t8 _=>n-(intOf t8).toNat)
 case atStart=>exact⟨0,0,rfl,qg_,rfl,rfl⟩
 case round =>
  obtain⟨r,m,rfl,P,rfl,u⟩:=hrel;subst u
  by_cases hin:r<n
  ·have V:r<(n:Int):=o_;have J:=x1_ (Zhe d g b i r);have W:=Zk0 d g b i r;generalize clF d g b i r=cr at *;go_wp2_with fail
   refine((E.drewN _).stands O hin).mono ?_;rintro e M ⟨rfl,L,t⟩;obtain⟨v,j⟩:=ey_ (sO d g i r);have N:=x1_ j;rw[j];subst t;clear j;go_wp2_with fail
   go_loopw [10,11] (λt10 t11 wr=>∃(k m:Nat),t11=.int .i64 k/\k<=l/\t10=.bool ((b.take k).any (λf=>sO d g f r))/\wr=w.drewN m) (λ_ t11 _=>l-(intOf t11).toNat)
   case atStart=>exact⟨0,m+L,rfl,qg_,rfl,s_⟩
   case round=>
    obtain⟨k,G,rfl,Z,rfl,u⟩:=hrel;subst u
    by_cases hkl:k<l
    ·have s:k<b.length:=(by rw[I];exact hkl);obtain⟨q,rfl,X⟩:=C.1 k s;have z:=C.2 _ (Nd s);have H:Hid ((b.take _).any (λf=>sO d g f r)=_):=ZgU s _;generalize b.getD k 0=f at *;generalize (b.take k).any (λf=>sO d g f r)=an at *;have S:k<(l:Int):=o_;have g3:0<=(k:Int):=o_;go_wp2_with fail
     refine((E.drewN _).stands z hin).mono ?_;rintro e M ⟨rfl,T,t⟩;subst t;obtain⟨U,o⟩:=ey_ (sO d g f r);have B:Hid ((b.take (k+1)).any (λf=>sO d g f r)=(an||U)):=(by rw[<- o];exact H);rw[o];clear H o
     cases an<;>
      (go_wp2
       go_roundw;case rel=>exact⟨k+1,G+T,g_,o_,by rw[B];rfl,s_⟩
       case measure=>simp[intOf];omega)
    have S:¬k<(l:Int):=o_;have y:b.take k=_:=List.take_of_length_le (by have:=I.out;omega);rw[y];have A:Hid (clF d g b i (r+1)=cr+(if(v&&b.any (λf=>sO d g f r))=true then 1 else 0)):=(by rw[<- N];exact J);clear J y;generalize b.any (λf=>sO d g f r)=an at *
    cases v<;>cases an<;>
     (go_wp2
      go_roundw;case rel=>exact⟨r+1,G,g_,o_,by rw[A];first|rfl|go_num,by first|rfl|simp⟩
      case measure=>simp[intOf];omega)
  have V:¬r<(n:Int):=o_;obtain rfl:r=n:=o_;go_wp2;go_ret;exact⟨rfl,_,rfl⟩
def ZdK{b}{a:List Nat}{k}(h:k<a.length):Dv b (a.take (k+1))=Dv b (a.take k)+(b.getD (a.getD k 0) Ay).many:=by
 unfold Dv;rw[Qi h,List.map_append,List.sum_append]
 grind
def ZiR{Ks fs}(a:∀f∈fs,(Ks.getD f Ay).many<=2002):Dv Ks fs<=2002*fs.length:=by
 induction fs with
 |nil=>simp[Dv]
 | cons f fs ih=>
  grind [Dv]
def ui H n c a b g w (h:DkV w H n g)(z:NuV w a b)(m:∀f∈b,f<g.length)(X:b.length<=1000):C_ 137 #[.pointer (some ⟨H,0,none⟩),.slice a b.length c] w λe w'=>e=.returned (.int .i64 (Dv g b:Nat))/\Below w.heap.size w w':=by
 have I:=x1_ h;have M:=x2_ z m
 have Y:=x1_ (λk s=>by
  have:=ZiR (g:=g) (b:=b.take k) (λf z=>by
   have s:=h.one f (m f (List.mem_of_mem_take z));have:=s.many;have:=s.1;have:=s.2.1
   omega)
  rw[List.length_take,Nat.min_eq_left s] at this
  exact this)
 obtain⟨l,o⟩:=ey_ b.length;have R:=x1_ o;rw[o] at X ⊢;clear h z m o;go_enter Tryz.func137,Tryz.ntmps137;go_wp2_with fail
 go_loopw [5,6] (λt5 t6 wr=>∃k:Nat,t6=.int .i64 k/\k<=l/\t5=.int .i64 (Dv g (b.take k):Nat)/\E_ w wr) (λ_ t6 _=>l-(intOf t6).toNat)
 case atStart=>exact⟨0,rfl,qg_,rfl,bz_⟩
 case round=>
  obtain⟨k,rfl,s,rfl,u⟩:=hrel
  by_cases hkl:k<l
  ·have r:k<b.length:=(by rw[R];exact hkl);obtain⟨q,rfl,J⟩:=(M.1.below u) k r;have x:=M.2 _ (Nd r);obtain⟨y,V,G,D,C,B,L,N,P,Q,O⟩:=(I.below u).feat x;have U:Hid (Dv g _=_):=ZdK r;have j:=I.one _ x;have t:=j.many;have h1:=Y k o_;have v:=Nl G C (g.getD (b.getD k 0) Ay).e.bs.length (g.getD (b.getD k 0) Ay).e.ww.length D B (g.getD (b.getD k 0) Ay).e.wd (g.getD (b.getD k 0) Ay).d
   have A:Hid (∀W:World,C_ 189 #[.agg #[.bool (g.getD (b.getD k 0) Ay).e.wd,.slice G (g.getD (b.getD k 0) Ay).e.bs.length D,.slice C (g.getD (b.getD k 0) Ay).e.ww.length B,.int .i64 (g.getD (b.getD k 0) Ay).d]] W λe w'=>e=.returned (.int .i64 (g.getD (b.getD k 0) Ay).many)/\E_ W w'):=λW=>by rw[<- t];exact v W j.1 j.2.1
   have S:(g.getD (b.getD k 0) Ay).many<=2002:=(by have:=j.1;have:=j.2.1;omega);clear v t j;generalize (g.getD (b.getD k 0) Ay).many=mn at *;generalize (g.getD (b.getD k 0) Ay).e.wd=wd at *;generalize (g.getD (b.getD k 0) Ay).e.bs.length=nb at *;generalize (g.getD (b.getD k 0) Ay).e.ww.length=nw at *;generalize (g.getD (b.getD k 0) Ay).d=dd at *;generalize b.getD k 0=f at *;generalize Dv g (b.take k)=sm at *;have T:k<(l:Int):=o_;have Z:0<=(k:Int):=o_;have g3:0<=(f:Int):=o_;have g4:f<(g.length:Int):=o_;have q1:_=(sm:Int)+(mn:_):=Cb o_ o_;go_upto_region 5 with fail
   go_region_held3 (λw'=>w'.cell? (A_ H 1)=some (L_ y g.length V)/\w'.cell? (A_ q k)=some (I_ (f:Nat))/\w'.cell? (A_ y (f*4))=some (.bool wd)/\w'.cell? (A_ y (f*4+1))=some (.slice G nb D)/\w'.cell? (A_ y (f*4+2))=some (.slice C nw B)/\w'.cell? (A_ y (f*4+3))=some (I_ (dd:Nat))) (first|exact⟨L,J,N,P,Q,O⟩|exact⟨Ac i L,Ac i J,Ac i N,Ac i P,Ac i Q,Ac i O⟩) (first|(go_at_call 189;refine(A _).mono ?_;rintro e w2 ⟨rfl,E⟩;have i:Below wr.heap.size _ _:=bz_.drew.trans E))
   go_wp2;go_roundw;case rel=>exact⟨k+1,g_,o_,by rw[U];go_num,u.trans (i.mono u.size)⟩
   case measure=>exact z_
  have T:¬k<(l:Int):=o_;have F:b.take k=_:=List.take_of_length_le (by have:=R.out;omega);rw[F];go_wp2;go_ret;exact⟨rfl,u⟩
abbrev Cz:Value:=.slice none 0 0
structure Mh(w:World)(base)(v)(vs)(Ls:List (List Int)):Prop where
 row:w.ownsRow base 25 1 v Ls.length vs
 each:∀i,i<Ls.length->Ag w base (vs.getD i Cz) (Ls.getD i [])
 apart:∀i j,i<j->j<Ls.length->Ch (vs.getD i Cz) (vs.getD j Cz)
section
variable {w w':World} {base:Nat} {v v':Value} {vs:List Value} {Ls:List (List Int)}
def Mh.len(h:Mh w base v vs Ls):vs.length=Ls.length:=by have:=h.row.1;omega
def Mh.nil w base:Mh w base (.slice none 0 0) [] []:=⟨rn_,λi hi=>by simp at hi,λi j _ hj=>by simp at hj⟩
def Mh.touch{K}(h:Mh w base v vs Ls)(t:Aa K w w')(h1:∀k cur ty,w.heap[k]? =some (.cells cur ty (0,0))->ty=25∨ty=3->base<=k->¬K k):Mh w' base v vs Ls:=
 ⟨t.row h.row (λk hk=>by obtain⟨c,hc⟩:=Ad h.row hk;exact h1 k c _ hc (.inl rfl) (rl_ h.row k hk).1),λi hi=>t.row (h.each i hi) (λk hk=>by obtain⟨c,hc⟩:=Ad (h.each i hi) hk;exact h1 k c _ hc (.inr rfl) (rl_ (h.each i hi) k hk).1),h.apart⟩
def Mh.below(h:Mh w base v vs Ls)(hb:Below w.heap.size w w'):Mh w' base v vs Ls:=h.touch (.of_below (S:=λ_=>False) hb) (λ_ _ _ _ _ _=>id)
def Mh.shape(h:Mh w base v vs Ls):∃a c,v=.slice a Ls.length c:=by
 rcases h.row.2 with⟨rfl,h0⟩|⟨g,cap,cur,rfl,_⟩
 ·grind
 grind
def Mh.mono{b}(h:Mh w base v vs Ls)(d:b<=base):Mh w b v vs Ls:=by
 refine⟨⟨h.row.1,?_⟩,λi hi=>(h.each i hi).mono d,h.apart⟩
 rcases h.row.2 with e|⟨g,a,c,e,f,r⟩
 exact .inl e;exact .inr ⟨g,a,c,e,Nat.le_trans d f,r⟩
def Mh.at(h:Mh w base v vs Ls){i}(b:i<Ls.length):∃q c a k,v=L_ q Ls.length c/\w.cell? (A_ q i)=some (.slice a (Ls.getD i []).length k)/\(∀o,w.frozen? (A_ q o)=false)/\vs.getD i Cz=.slice a (Ls.getD i []).length k/\(∃cur,w.heap[q]? =some (.cells cur 25 (0,0)))/\base<=q:=by
 rcases h.row.2 with⟨_,h0⟩|⟨g,cap,cur,rfl,hb,hh,hnc,_⟩
 omega;obtain⟨a,k,e⟩:=(h.each i b).shape;refine⟨g,cap,a,k,rfl,?_,λo=>fq_ o _ _ hh,e,⟨cur,hh⟩,hb⟩;rw[World.ownsRow.cellAt h.row i o_,<- e]
 grind
def Mh.more{u L}(h:Mh w base v vs Ls)(c:Ag w base u L)(d:∀i,i<Ls.length->Ch (vs.getD i Cz) u)(g:w.grownBy w' v.ownBlock)(r:w'.ownsRow base 25 1 v' (Ls.length+1) (vs++[u])):Mh w' base v' (vs++[u]) (Ls++[L]):=by
 have f:=h.len;have a:∀i,i<Ls.length->(vs++[u]).getD i Cz=vs.getD i Cz/\(Ls++[L]).getD i []=Ls.getD i []:=λi hi=>⟨w_,w_⟩;have b:(vs++[u]).getD Ls.length Cz=u/\(Ls++[L]).getD Ls.length []=L:=⟨w_,by simp[List.getD]⟩;refine⟨w_,λi hi=>?_,λi j hij hj=>?_⟩
 ·rw[Qe,List.length_singleton] at hi
  by_cases e:i<Ls.length
  rw[(a i e).1,(a i e).2];exact Ag.kept (h.each i e) g (An h.row (h.each i e) d_);obtain rfl:i=Ls.length:=o_;rw[b.1,b.2];exact Ag.kept c g (An h.row c d_)
 rw[Qe,List.length_singleton] at hj;rw[(a i o_).1]
 by_cases e:j<Ls.length
 rw[(a j e).1];exact h.apart i j hij e
 grind
def Mh.grow{q c i u L}(h:Mh w base (L_ q Ls.length c) vs Ls)(l:i<Ls.length)(g:w.grownBy w' (vs.getD i Cz).ownBlock)(o:Ag w' base u L)(f:u.ownBlock=(vs.getD i Cz).ownBlock∨u.ownBlock=some w.heap.size):Mh (w'.setCell (A_ q i) u) base (L_ q Ls.length c) (vs.set i u) (Ls.set i L):=by
 have s:=h.len;have n:=World.ownsRow.kept h.row g (An (h.each i l) h.row d_);obtain⟨p,m⟩:=Ad n (k:=q) rfl;obtain⟨r,_⟩:=World.ownsRow.stored n i u;refine⟨w_,λj hj=>?_,λj k hjk hk=>?_⟩
 ·rw[List.length_set] at hj
  by_cases e:j=i
  subst e;have b:(vs.set j u).getD j Cz=u:=w_;have d:(Ls.set j L).getD j []=L:=w_;rw[b,d];exact As o m d_;have b:(vs.set i u).getD j Cz=vs.getD j Cz:=w_;have d:(Ls.set i L).getD j []=Ls.getD j []:=w_;rw[b,d];refine As (Ag.kept (h.each j hj) g ?_) m d_
  rcases Nat.lt_or_gt_of_ne e with e|e
  exact(h.apart j i e l).symm.keeps;exact(h.apart i j e hj).keeps
 rw[List.length_set] at hk
 have a:∀x,x<Ls.length->x≠i->(vs.set i u).getD x Cz=vs.getD x Cz:=λx _ e=>w_
 have b:(vs.set i u).getD i Cz=u:=w_
 by_cases ej:j=i
 subst ej;rw[b,a k hk o_];exact Ch.moved (h.apart j k hjk hk) (h.each k hk) f
 by_cases ek:k=i
 subst ek;rw[b,a j o_ ej];exact(Ch.moved (h.apart j k hjk hk).symm (h.each j o_) f).symm;rw[a j o_ ej,a k hk ek];exact h.apart j k hjk hk
end
def Mh.view{w b v o d}(h:Mh w b v o (d.map Av)):LiV w v d:=by obtain⟨a,c,e⟩:=h.shape;rw[List.length_map] at e;refine⟨⟨a,c,e⟩,λi hi=>?_⟩;have f:i<(d.map Av).length:=w_;obtain⟨q,n,r,k,m,g,_,p,_⟩:=h.at f;have j:(d.map Av).getD i []=Av (d.getD i []):=w_;have l:=h.each i f;rw[p,j,Aw] at l;rw[j,Aw] at g;rw[List.length_map] at m;exact⟨q,n,r,k,m,g,l.nums rfl⟩
structure dv(w)(base)(v)(kvs)(Ks):Prop where
 row:Yj w base 227 4 v (List.zipWith Cf Ks kvs)
 len:kvs.length=Ks.length
 each:∀i,i<Ks.length->Ag w base (kvs.getD i Oi).1 (Ks.getD i Ay).e.bs/\Cc w base (kvs.getD i Oi).2 (Ks.getD i Ay).e.ww
section
variable {w w':World} {base:Nat} {v v':Value} {kvs:List (Value×Value)} {Ks:List KS}
def dv.nil w base:dv w base (.slice none 0 0) [] []:=⟨Yj.nil _ _ _ _,rfl,λi hi=>by simp at hi⟩
def dv.zlen(h:dv w base v kvs Ks):(List.zipWith Cf Ks kvs).length=Ks.length:=by rw[List.length_zipWith,h.len,Nat.min_self]
def dv.touch{K}(h:dv w base v kvs Ks)(t:Aa K w w')(b:∀k cur ty,w.heap[k]? =some (.cells cur ty (0,0))->ty=227∨ty=3∨ty=9->base<=k->¬K k):dv w' base v kvs Ks:=by have a:∀{ty sz n:Nat} {u:_} {xs:_},w.ownsRow _ ty sz u n xs->(ty=227∨_=3∨ty=9)->_:=λhr hty=>t.row hr (λk hk=>by obtain⟨c,d⟩:=Ad hr hk;exact b k c _ d hty (rl_ hr k hk).1);exact⟨⟨a h.row.row (.inl rfl),h.row.wid⟩,h.len,λi hi=>⟨a (h.each i hi).1 (.inr (.inl rfl)),a (h.each i hi).2 (.inr (.inr rfl))⟩⟩
def dv.below(h:dv w base v kvs Ks)(hb:Below w.heap.size w w'):dv w' base v kvs Ks:=h.touch (.of_below (S:=λ_=>False) hb) (λ_ _ _ _ _ _=>id)
def dv.more{k u}(h:dv w base v kvs Ks)(f:Ag w base u.1 k.e.bs)(j:Cc w base u.2 k.e.ww)(g:w.grownBy w' v.ownBlock)(r:w'.ownsRow base 227 4 v' (Ks.length+1) ((List.zipWith Cf Ks kvs).flatten++Cf k u)):dv w' base v' (kvs++[u]) (Ks++[k]):=by
 have d:=h.len;refine⟨?_,by simp[d],λi hi=>?_⟩;rw[List.zipWith_append d.symm];exact h.row.more w_ rfl;have a:∀{ty sz n:Nat} {x:_} {xs:_},w.ownsRow base ty sz x n xs->_:=λhr hne=>World.ownsRow.kept hr g (An h.row.row hr hne);rw[Qe,List.length_singleton] at hi
 by_cases e:i<Ks.length
 have c:(kvs++[u]).getD i Oi=kvs.getD i Oi:=w_;have b:(Ks++[k]).getD i Ay=Ks.getD i Ay:=w_;rw[c,b];exact⟨a (h.each i e).1 d_,a (h.each i e).2 d_⟩;obtain rfl:i=Ks.length:=o_;have c:(kvs++[u]).getD Ks.length Oi=u:=w_;have b:(Ks++[k]).getD Ks.length Ay=k:=(by simp[List.getD]);rw[c,b];exact⟨a f d_,a j d_⟩
def dv.view(h:dv w base v kvs Ks):FeV w v Ks:=by obtain⟨a,c,e⟩:=h.row.shape;rw[h.zlen] at e;refine⟨⟨a,c,e⟩,λi hi=>?_⟩;obtain⟨q,k,d,_,_,_,_,b⟩:=h.row.at (i:=i) (by rw[h.zlen];exact hi);rw[h.zlen] at d;obtain⟨l,g,j⟩:=(h.each i hi).1.shape;obtain⟨f,n,o⟩:=(h.each i hi).2.form;have m:(List.zipWith Cf Ks kvs).getD i []=Cf (Ks.getD i Ay) (kvs.getD i Oi):=(by simp[List.getD,List.getElem?_zipWith,hi,show i<kvs.length by rw[h.len];exact hi]);rw[m] at b;exact⟨q,k,l,g,f,n,d,b 0 o_ _ rfl,b 1 o_ _ (by rw[<- j];rfl),b 2 o_ _ (by rw[<- o];rfl),b 3 o_ _ rfl⟩
end
def Ub(w:World)(db n:Nat)(vF vB vC vX:Value):Prop:=w.heap[db]? =some (.cells #[I_ n,vF,vB,vC,vX] 142 (0,0))
structure MkX(w:World)(base mb db n:Nat)(vF vB vC vX vb vo)(kvs)(bbs)(Ks)(Bb:List (List Nat))(outs):Prop where
 blk:w.heap[mb]? =some (.cells #[P_ db,vb,vo] 331 (0,0))
 ds:Ub w db n vF vB vC vX
 fe:dv w base vF kvs Ks
 bb:Mh w base vb bbs (Bb.map Av)
 ou:Ag w base vo (Av outs)
 len:Bb.length=Ks.length
 rows:∀i,i<Bb.length->(Bb.getD i []).length=n
 one:∀i,i<Ks.length->np (Ks.getD i Ay)
section
variable {w w':World} {base mb db n:Nat} {vF vB vC vX vb vo vB' vC' vX':Value} {kvs:List (Value×Value)} {bbs:List Value} {Ks:List KS} {Bb:List (List Nat)} {outs:List Nat}
def MkX.view(h:MkX w base mb db n vF vB vC vX vb vo kvs bbs Ks Bb outs):MkV w mb db n Ks Bb:=
 ⟨cq_ 0 _ 331 (0,0) h.blk,⟨vb,cq_ 1 _ 331 (0,0) h.blk,h.bb.view⟩,⟨cq_ 0 _ 142 (0,0) h.ds,⟨vF,cq_ 1 _ 142 (0,0) h.ds,h.fe.view⟩,h.one⟩,h.len,h.rows⟩
def MkX.dbw(h:MkX w base mb db n vF vB vC vX vb vo kvs bbs Ks Bb outs)(t:Aa (λq=>q=db) w w')(d:Ub w' db n vF vB' vC' vX'):MkX w' base mb db n vF vB' vC' vX' vb vo kvs bbs Ks Bb outs:=by
 have a:∀k cur ty,w.heap[k]? =some (.cells cur ty (0,0))->ty≠142->¬k=db:=λk cur ty hk hty e=>by
  have b:=h.ds;unfold Ub at b
  grind
 exact⟨t.at_ h.blk (a _ _ _ h.blk d_),d,h.fe.touch t (λk cur ty hk hty _=>a k _ _ hk w_),h.bb.touch t (λk cur ty hk hty _=>a k _ _ hk w_),
  t.row h.ou (λk hk=>by obtain⟨c,f⟩:=Ad h.ou hk;grind),h.len,h.rows,h.one⟩
end
structure Td(w wr)(db n)(vF vB vC vX vc vd)(bvs)(Fs:List (List Nat))(cs)(dl):Prop where
 tch:Aa (λq=>q=db) w wr
 ds:Ub wr db n vF vB vC vX
 bu:Mh wr w.heap.size vB bvs (Fs.map Av)
 cf:Ag wr w.heap.size vc (Av cs)
 ap:∀i,i<Fs.length->Ch vc (bvs.getD i Cz)
 dn:Ev wr w.heap.size vd dl
 lt:db<w.heap.size
section
variable {w wr wr':World} {db n:Nat} {vF vB vC vX vc vd:Value} {bvs:List Value} {Fs:List (List Nat)} {cs:List Nat} {dl:List Bool}
def Td.below(h:Td w wr db n vF vB vC vX vc vd bvs Fs cs dl)(a:Below wr.heap.size wr wr'):Td w wr' db n vF vB vC vX vc vd bvs Fs cs dl:=by have t:=Aa.of_below (S:=λ_=>False) a;exact⟨h.tch.below a,t.at_ h.ds id,h.bu.below a,h.cf.below a,h.ap,t.row h.dn (λ_ _=>id),h.lt⟩
def Ub.lt(h:Ub w db n vF vB vC vX):db<w.heap.size:=(Qb h).1
def Ub.ne(h:Ub w db n vF vB vC vX){k ty:Nat}{cur}(hk:w.heap[k]? =some (.cells cur ty (0,0)))(hty:ty≠142):k≠db:=λe=>by
 unfold Ub at h
 grind
def Td.done{g c i m b}(h:Td w wr db n vF vB vC vX vc (L_ g m c) bvs Fs cs dl)(l:dl.length=m):Td w (wr.setCell (A_ g i) (.bool b)) db n vF vB vC vX vc (L_ g m c) bvs Fs cs (dl.set i b):=by
 obtain⟨o,s⟩:=Ad h.dn (k:=g) rfl;have r:=(rl_ h.dn g rfl).1;have t:Aa _ _ (wr.setCell _ (.bool b)):=(Aa.refl (λq=>q=g) _).setCell (p:=(A_ g i)) (λ_=>rfl) _
 have a:∀k d ty,wr.heap[k]? =some (.cells d ty (0,0))->ty≠4->¬k=g:=λk d ty hk hty e=>w_
 have j:Ev (wr.setCell (A_ g i) (.bool b)) w.heap.size (L_ g m c) (dl.set i b):=(by have f:=h.dn;unfold Ev at f ⊢;rw[l] at f;rw[List.length_set,l,List.map_set];exact(World.ownsRow.stored f i _).1);exact⟨h.tch.setCell (p:=(A_ g i)) (λhlt=>by simp at hlt;omega) _,t.at_ h.ds (a _ _ _ h.ds d_),h.bu.touch t (λk d ty hk hty _=>a k _ _ hk w_),t.row h.cf (λk hk=>by obtain⟨d,u⟩:=Ad h.cf hk;grind),h.ap,j,h.lt⟩
def Td.grow{q c b u L}(h:Td w wr db n vF (L_ q Fs.length c) vC vX vc vd bvs Fs cs dl)(s:b<Fs.length)(g:wr.grownBy wr' (bvs.getD b Cz).ownBlock)(x:Ag wr' w.heap.size u (Av L))(o:u.ownBlock=(bvs.getD b Cz).ownBlock∨u.ownBlock=some wr.heap.size):Td w (wr'.setCell (A_ q b) u) db n vF (L_ q Fs.length c) vC vX vc vd (bvs.set b u) (Fs.set b L) cs dl:=by
 have f:b<(Fs.map Av).length:=w_;have l:=h.bu.each b f;have t:=(Aa.refl _ _).grown g (λk hk _=>hk);have A:Mh wr w.heap.size (L_ q (Fs.map Av).length c) bvs (Fs.map Av):=(by rw[List.length_map];exact h.bu);have r:=A.grow f g x o;rw[List.length_map] at r;have j:∃d,wr'.heap[q]? =some (.cells d 25 (0,0)):=by have B:=World.ownsRow.kept h.bu.row g (An l h.bu.row d_);exact Ad B (k:=q) rfl
 obtain⟨d,j⟩:=j;have v:=(rl_ h.bu.row q rfl).1;have a:Ub _ _ n _ _ _ _:=t.at_ h.ds (λe=>by obtain⟨C,y⟩:=Ad l e;exact h.ds.ne y d_ rfl);have z:Aa _ _ (wr'.setCell _ u):=(Aa.refl (λk=>k=q) _).setCell (p:=(A_ q b)) (λ_=>rfl) _;refine⟨(h.tch.grown g (λk hk hlt=>by have:=(rl_ l k hk).1;omega)).setCell (p:=(A_ q b)) (λhlt=>by simp at hlt;omega) _,z.at_ a (λe=>a.ne j d_ e.symm),by rw[List.map_set];exact r,?_,λi hi=>?_,?_,h.lt⟩;exact As (Ag.kept h.cf g ((h.ap b s).symm.keeps)) j d_
 ·rw[List.length_set] at hi
  by_cases e:i=b
  subst e;have m:(bvs.set i u).getD i Cz=u:=(by have:=h.bu.len;grind);rw[m];exact(Ch.moved (h.ap i s).symm h.cf o).symm;have m:(bvs.set b u).getD i Cz=bvs.getD i Cz:=w_;rw[m];exact h.ap i hi
 exact As (World.ownsRow.kept h.dn g (An l h.dn d_)) j d_
def Td.conf{g c b m z}(h:Td w wr db n vF vB vC vX (L_ g m c) vd bvs Fs cs dl)(j:cs.length=m):Td w (wr.setCell (A_ g b) (I_ (z:Nat))) db n vF vB vC vX (L_ g m c) vd bvs Fs (cs.set b z) dl:=by
 obtain⟨l,u⟩:=Ad h.cf (k:=g) rfl;have r:=(rl_ h.cf g rfl).1;have t:Aa _ _ (wr.setCell _ (I_ (z:_))):=(Aa.refl (λq=>q=g) _).setCell (p:=(A_ g b)) (λ_=>rfl) _
 have f:∀k d ty,wr.heap[k]? =some (.cells d ty (0,0))->ty≠3->¬k=g:=λk d ty hk hty e=>w_
 have a:=(Ag.put h.cf (k:=b) (by rw[Aw];exact j.symm) (z:Int)).1;have e:(Av cs).set b z=Av (cs.set b z):=(by unfold Av;rw[List.map_set]);rw[e] at a
 have s:Mh _ _ _ _ _:=
  ⟨t.row h.bu.row (λk hk=>by obtain⟨d,o⟩:=Ad h.bu.row hk;grind),λi hi=>t.row (h.bu.each i hi) (λk hk e=>by
   have:=h.ap i w_;subst e
   rcases this with e|e|e
   simp[Value.ownBlock] at e
   ·grind
   exact e (by rw[hk];rfl)),h.bu.apart⟩
 exact⟨h.tch.setCell (p:=(A_ g b)) (λhlt=>by simp at hlt;omega) _,t.at_ h.ds (f _ _ _ h.ds d_),s,a,h.ap,t.row h.dn (λk hk=>by obtain⟨d,o⟩:=Ad h.dn hk;grind),h.lt⟩
def Td.newB{u vB' L}(h:Td w wr db n vF vB vC vX vc vd bvs Fs cs dl)(c:Ag wr w.heap.size u (Av L))(l:∀i,i<Fs.length->Ch (bvs.getD i Cz) u)(o:Ch vc u)(g:wr.grownBy wr' vB.ownBlock)(r:wr'.ownsRow w.heap.size 25 1 vB' (Fs.length+1) (bvs++[u])):Td w (wr'.setCell (A_ db 2) vB') db n vF vB' vC vX vc vd (bvs++[u]) (Fs++[L]) cs dl/\Ub wr' db n vF vB vC vX:=by
 have t:=(Aa.refl _ _).grown g (λk hk _=>hk);have a:Ub _ _ n _ _ _ _:=t.at_ h.ds (λe=>by obtain⟨j,m⟩:=Ad h.bu.row e;exact h.ds.ne m d_ rfl);have q:=h.bu.more (L:=Av L) c (λi hi=>l i w_) g (by rw[List.length_map];exact r);have f:Aa _ _ (wr'.setCell _ vB'):=(Aa.refl (λk=>k=db) _).setCell (p:=(A_ db 2)) (λ_=>rfl) _;have b:=h.bu.len;rw[List.length_map] at b;refine⟨⟨(h.tch.grown g (λk hk hlt=>by have:=(rl_ h.bu.row k hk).1;omega)).setCell (p:=(A_ db 2)) (λ_=>rfl) _,ht_ 2 _ _ _ a,?_,?_,λi hi=>?_,?_,h.lt⟩,a⟩;rw[List.map_append];exact q.touch f (λk j ty hk hty _=>a.ne hk w_);exact As (Ag.kept h.cf g (An h.bu.row h.cf d_)) a d_
 ·rw[Qe,List.length_singleton] at hi
  by_cases e:i<Fs.length
  have d:(bvs++[u]).getD i Cz=bvs.getD i Cz:=w_;rw[d];exact h.ap i e
  grind
 exact As (World.ownsRow.kept h.dn g (An h.bu.row h.dn d_)) a d_
def Td.newC{a}{z:Nat}(h:Td w wr db n vF vB vC vX vc vd bvs Fs cs dl)(g:wr.grownBy wr' vc.ownBlock)(f:Ag wr' w.heap.size a (Av cs++[(z:Int)]))(c:a.ownBlock=vc.ownBlock∨a.ownBlock=some wr.heap.size):Td w wr' db n vF vB vC vX a vd bvs Fs (cs++[z]) dl:=by have t:=(Aa.refl _ _).grown g (λk hk _=>hk);have b:Ub _ _ n _ _ _ _:=t.at_ h.ds (λe=>by obtain⟨j,d⟩:=Ad h.cf e;exact h.ds.ne d d_ rfl);refine⟨h.tch.grown g (λk hk hlt=>by have:=(rl_ h.cf k hk).1;omega),b,⟨World.ownsRow.kept h.bu.row g (An h.cf h.bu.row d_),λi hi=>Ag.kept (h.bu.each i hi) g (h.ap i w_).keeps,h.bu.apart⟩,by unfold Av at *;grind,λi hi=>Ch.moved (h.ap i hi) (h.bu.each i w_) c,World.ownsRow.kept h.dn g (An h.cf h.dn d_),h.lt⟩
end
def Cl a b:strOfNums a++strOfNums b=strOfNums (a++b):=by apply ByteArray.ext;simp[strOfNums]
def iz n:Ba n 1=[n%256]:=rfl
def ZbX L p:∀k,k<=L.length->ku (L++[p]) k=ku L k
 |0,_=>rfl
 |k+1,h=>by have e1:(L++[p]).getD k (0,0)=L.getD k (0,0):=w_;have e2:Ek (L++[p]) k=Ek L k:=(by grind [Ek]);simp only[ku];rw[ZbX L p k o_,e1,e2]
def ZiK L p:ku (L++[p]) (L.length+1)=ku L L.length++[(p.1-Ek L L.length)%256,p.2%256]:=by grind [Ek,ku,ZbX]
def eo L p:Ek (L++[p]) (L.length+1)=p.1:=by unfold Ek;simp[List.getD]
def ZiI N:∀k,k<=N.length->(Fu N k).length=Dj ((nzL N).take k)
 |0,_=>by simp[Fu,Dj]
 | k +1,h=>by
  have hk:k<(nzL N).length:=by rw[Vo];omega
  have e:(nzL N)[k]=decide (N.getD k 0≠0):=by
   have:=Zbr (N:=N) (k:=k) o_
   grind
  rw[Qi hk,Na,<- ZiI N k o_,e];simp only[Fu]
  grind
def Zku N:(Fu N N.length).length=nzN N:=by grind [ZiI,nzN,Vo]
def Zas N:∀k,-1<=Ek (Fu N k) (Fu N k).length/\Ek (Fu N k) (Fu N k).length<k
 |0=>by simp[Fu,Ek]
 | k+1=>by
  have:=Zas N k
  grind [Fu,eo]
def Zcu:∀g:Fin 64,∀b:Fin 7,b.val<Lib.bitLen g.val->0<g.val/2^b.val:=by decide+kernel
def Zds f a T (h:f T=0):Cd f a (T+1)=Cd f a T:=by
 have:=Xm f a T;rw[<- this,fi,h,Nat.zero_mul,Nat.add_zero];apply List.ext_getElem;simp
 grind [Cd]
def Zf0 a (c g:Nat) N w (h:NuV w a N)(hn:N.length<=200)(hg:g<64)(hv:∀r,N.getD r 0<=1000000):C_ 136 #[.slice a N.length c,.int .i64 g] w λe w'=>e=.returned (.string (strOfNums (Lb N g)))/\Below w.heap.size w w':=by
 have HN:=x1_ h;have HV:=x1_ hv;have M:Hid (Lb N g=if 4*(Fu N N.length).length<N.length then zu (Fu N N.length) else 100::Cd (Ds N (Lib.bitLen g)) ((N.length*Lib.bitLen g+7)/8) (N.length*Lib.bitLen g)):=(by show _=_;rw[Zku];rfl);obtain⟨n,U⟩:=ey_ N.length;have HL:=x1_ U;have X:=x1_ (Vy N);rw[U] at hn M ⊢;clear h hv U;go_enter Tryz.func136,Tryz.ntmps136;go_upto_region 5 with fail;go_loopw [5,6,7,8] (λt5 t6 t7 t8 wr=>∃(r:Nat) (S:ByteArray),t5=.int .i64 ((Fu N r).length:Nat)/\t6=.string S/\t7=.int .i64 (Ek (Fu N r) (Fu N r).length)/\t8=.int .i64 r/\r<=n/\Hid (S=strOfNums (ku (Fu N r) (Fu N r).length))/\Hid (E_ w wr)) (λ_ _ _ t8 _=>n-(intOf t8).toNat)
 case atStart=>exact⟨0,_,rfl,rfl,rfl,rfl,qg_,rfl,bz_⟩
 case round=>
  obtain⟨r,S,rfl,rfl,rfl,rfl,hr,G,m⟩:=hrel
  by_cases hin:r<n
  ·have g1:r<(n:Int):=o_;have g0:0<=(r:Int):=o_;obtain⟨q,rfl,B⟩:=HN r (by rw[HL];exact hin);have V:=Ac m B;have hx:=HV r;have I:Hid (Fu N (r+1)=_++_):=rfl;obtain⟨x,t⟩:=ey_ (N.getD r 0);rw[t] at B V hx I;have a8:=World.block_lt_of_cell? _ _ B;clear t;have ha:=Zas N r;have aD:=X r
   by_cases hx0:x=0
   ·subst hx0;have F:Hid (Fu N (r+1)=Fu N r):=w_;clear I;refine rd_ ?_;exact⟨r+1,S,by rw[F],rfl,by rw[F],g_,o_,by rw[F];exact G,m⟩
   have F:Hid (Fu N (r+1)=Fu N r++[(r,x)]):=w_;have bA:¬(x:Int)=0:=o_;clear I;obtain⟨L,hL⟩:=ey_ (Fu N r);have bD:=x1_ hL;rw[hL] at ha aD G F ⊢;clear hL;obtain⟨la,Y⟩:=ey_ (Ek L L.length);have aQ:=x1_ Y;rw[Y] at ha ⊢;clear Y;obtain⟨d,hd⟩:∃d:Nat,r-la=d:=⟨((r:Int)-la).toNat,o_⟩;have q1:_=(d:Int):=Cb o_ o_;have a7:Hid (∀W,E_ w W->C_ 135 #[_,.int .i64 1] W λe w'=>_/\_):=λW hW=>(Qw _ d 1 W o_ o_ (.inl ⟨o_,rfl⟩)).mono (λ_ _ h=>⟨h.1,hW.trans (h.2.mono hW.size)⟩);have o:Hid (∀W,E_ w W->C_ 135 #[_,.int .i64 1] W λe w'=>_/\_):=λW hW=>(Qw _ x 1 W o_ o_ (.inl ⟨o_,rfl⟩)).mono (λ_ _ h=>⟨h.1,hW.trans (h.2.mono hW.size)⟩)
   have aI:S.size<=2000:=by rw[G,Br,Vz];omega
   have a5:(strOfNums (Ba d 1)).size=1:=(by rw[Br];rfl);have aV:(strOfNums (Ba x 1)).size=1:=by rw[Br];rfl
   have aU:Hid (strOfNums (ku (L++[(r,x)]) (L++[(r,x)]).length)=S++strOfNums (Ba d 1)++strOfNums (Ba x 1)):=(by show _=_;rw[Qe,List.length_singleton,ZiK,aQ,hd,G,Cl,Cl,iz,iz,List.append_assoc];rfl);have aY:Hid (Ek (L++[(r,x)]) (L++[(r,x)]).length=r):=(by show _=_;rw[Qe,List.length_singleton,eo]);have b3:Hid ((L++[(r,x)]).length=L.length+1):=(by show _=_;simp);generalize strOfNums (Ba (d:Nat) 1)=s1,strOfNums (Ba (x:Nat) 1)=s2,L.length=ll at *;have z1:¬9223372036854775807<S.size+s1.size:=o_;have z2:¬9223372036854775807<S.size+s1.size+s2.size:=o_;clear a5 aV;go_upto_region 9 with fail;have A:=m.out;go_cut [6] (λv wx=>v=.string (S++s1++s2)/\Hid (E_ w wx))
   case first=>
    refine Al (λw'=>w'.cell? _=some _) 12 k_ V (λhHeld=>?_);refine Ah 0 ?_;refine Ah 1 ?_;refine Ah 2 ?_;refine Ah 3 ?_;refine Ah 6 ?_;refine Ah 7 ?_;refine Ah 8 ?_;refine Ua [10,11,12] 9 (v:=?_) ?_ ?_
    rotate_left;· intro w aO;go_simp;try with_reducible rfl
    try simp only[Act.put,sA,sB,sC]
    refine Af (i:=4) k_ rfl (λKK hK=>?_);go_simp;refine(a7 _ A.drew).mono ?_;rintro e w2 ⟨rfl,s⟩;go_simp;refine hK _ _ ((s.cell (p:=(A_ q r)) a8).trans B) (λhHeld=>?_);clear hK KK;try simp only[Act.put,sA,sB,sC]
    refine Ah 5 ?_;refine Af (i:=10) k_ rfl (λKK hK=>?_);go_simp;refine(o _ s).mono ?_;rintro e w3 ⟨rfl,aJ⟩;go_simp;refine hK _ _ ((aJ.cell (p:=(A_ q r)) a8).trans B) (λhHeld=>?_);clear hK KK;try simp only[Act.put,sA,sB,sC]
    refine Ah 11 ?_;refine Ai (i:=12) k_ rfl k_ (λKK hK=>?_);go_simp;refine hK _ _ ?_;clear hK KK;try simp only[Act.put,sA,sB,sC]
    refine Ak k_ ?_ _;go_wp2;go_meet
    grind
   case rest=>
   obtain⟨rfl,O⟩:=hcut;clear m A a7 o V;refine rd_ ?_;exact⟨r+1,_,by rw[F,b3];go_num,rfl,by rw[F,aY],g_,o_,by rw[F];exact aU.symm,O⟩
  have aS:r=n:=o_;subst aS;have bL:¬r<(r:Int):=o_;have aD:=X r;clear X
  by_cases h4:4*(Fu N r).length<r
  ·have E:Hid (Lb N g=zu (Fu N r)):=w_;have H:Hid (strOfNums (zu (Fu N r))=({data:=#[115]}:ByteArray)++strOfNums (Ba (Fu N r).length 1)++S):=(by show _=_;rw[G,show({data:=#[115]}:ByteArray)=strOfNums [115] from rfl,Cl,Cl];rfl);have HP:=Qw ((Fu N r).length:Nat) (Fu N r).length 1;have aI:S.size<=2000:=by rw[G,Br,Vz];omega
   have a5:(strOfNums (Ba (Fu N r).length 1)).size=1:=(by rw[Br];rfl);have z1:¬9223372036854775807<1+(strOfNums (Ba (Fu N r).length 1)).size:=o_;have z2:¬9223372036854775807<1+(strOfNums (Ba (Fu N r).length 1)).size+S.size:=o_;generalize strOfNums (Ba ((Fu N r).length:Nat) 1)=s1,(Fu N r).length=ll at *;have aE:4*ll<(r:Int):=o_;have o:Hid (∀W,Calls _ 135 #[_,I_ 1] W λe w'=>_):=λW=>HP W o_ o_ (.inl ⟨o_,rfl⟩);clear HP M G h4;go_wp2_with fail
   refine(o _).mono ?_;rintro e w2 ⟨rfl,s⟩;have O:=x1_ (m.trans (s.mono m.size));clear s m o;go_wp2;go_ret;exact⟨by rw[E,H];rfl,O⟩
  have E:Hid (Lb N g=100::Cd (Ds N (Lib.bitLen g)) ((r*Lib.bitLen g+7)/8) (r*Lib.bitLen g)):=w_;have aN:=Rg hg;have aR:=rp hg;have a1:Hid (∀b,b<Lib.bitLen g->0<g/_):=λb hb=>Zcu ⟨g,hg⟩ ⟨b,o_⟩ hb;generalize Lib.bitLen g=d at *;have aE:¬4*(Fu N r).length<(r:Int):=o_;generalize (Fu N r).length=ll at *;clear M G h4;generalize wr=w1 at *;go_upto_region 14 with fail;go_loopw [9] (λt9 wr=>∃b:Nat,t9=.int .i64 b/\b<=d/\Hid (w1=wr)) (λt9 _=>d-(intOf t9).toNat)
  case atStart=>exact⟨0,rfl,qg_,rfl⟩
  case round=>
   obtain⟨b,rfl,hb,hw⟩:=hrel;have aH:=hw.out;subst aH;clear hw
   by_cases hbd:b<d
   ·have aX:0<=(b:Int):=o_;have aM:(b:Int)<64:=o_;have hp:=a1 b hbd;have a6:0<(g:Int)/2^b:=w_;clear hp;refine rd_ ?_;exact⟨b+1,g_,o_,True.intro⟩
   have aA:b=d:=o_;subst aA;have aX:0<=(b:Int):=o_;have aM:(b:Int)<64:=o_
   have a6:¬0<(g:Int)/2^b:=(by grind [Nat.div_eq_of_lt]);obtain⟨P,hP⟩:=ey_ (r*b);have bG:P<=1200:=(by rw[<- hP];exact Nat.mul_le_mul hn aN);have aK:r*b=(P:Int):=(by rw[<- hP];simp);obtain⟨f,a9⟩:=ey_ ((P+7)/8);have q1:((P:Int)+7).tdiv 8=f:=w_;have q2:(P+7)/8=(f:Int):=o_;have aT:=Tw f o_;have D:Hid (_/\P<=8*f/\f<=200):=⟨hP,o_,o_⟩;rw[hP,a9] at E;clear hP a9 a1 aR;go_upto_region 17 with fail;have HO:Hid (Bj (w1.alloc (.cells (madeCells #[.int .u8 0] f) 5)) w1.heap.size (L_ w1.heap.size f f) (Cd (Ds N b) f 0)/\E_ w (w1.alloc (.cells (madeCells #[.int .u8 0] f) 5))):=by refine⟨?_,m.alloc m.size _⟩;rw[jl];exact Tu _ _ _ o_ qa_
   have aZ:=m.size;clear aT q1 q2 a6 aE m aK;generalize w1.alloc (.cells (madeCells #[.int .u8 0] f) 5)=w2,w1.heap.size=q at *;go_upto_region 18 with fail;go_loopw [11] (λti wr=>∃i:Nat,ti=.int .i64 i/\i<=r/\Hid (Bj wr q (.slice (some ⟨q,0,none⟩) f f) (Cd (Ds N b) f (i*b))/\E_ w wr)) (λti _=>r-(intOf ti).toNat)
   case atStart=>grind
   case round=>
    clear HO;obtain⟨i,rfl,hi,j⟩:=hrel
    by_cases hir:i<r
    ·have i0 :0<=(i:Int):=o_;have i1:i<(r:Int):=o_;obtain⟨qn,rfl,B⟩:=HN i (by rw[HL];exact hir);have aW:=World.block_lt_of_cell? _ _ B;have hx:=HV i;obtain⟨Q,hQ⟩:=ey_ (i*b);have bC:i*b=(Q:Int):=by rw[<- hQ];simp
     have bK:Q+b<=P:=by
      rw[<- hQ,<- D.1];have:(i+1)*b<=r*b:=Nat.mul_le_mul_right _ hir
      grind
     have a0:Hid (∀k,_->Ds N b (Q+k)=_%2):=λk hk=>by rw[<- hQ];exact Zau N hk
     have HQ:=x1_ hQ;rw[hQ] at j;clear hQ;obtain⟨x,t⟩:=ey_ (N.getD i 0);rw[t] at B hx a0;clear t;generalize wr=w3 at *;go_upto_region 21 with fail;go_loopw [12] (λtk wr=>∃k:Nat,tk=.int .i64 k/\k<=b/\Hid (Bj wr q (.slice (some ⟨q,0,none⟩) f f) (Cd (Ds N b) f (Q+k))/\E_ w wr)) (λtk _=>b-(intOf tk).toNat)
     case atStart=>exact⟨0,rfl,qg_,j⟩
     case round=>
      clear j;obtain⟨k,rfl,hk,j⟩:=hrel
      by_cases hkb:k<b
      ·have k0:0<=(k:Int):=o_;have k1:k<(b:Int):=o_;have k2:(k:Int)<64:=o_;have cx:=(j.2.cell (p:=(A_ qn i)) aW).trans B;have l:=a0 k hkb;have b6:=D.out;have e1:((x:Int)/2^k).tmod 2=(x/2^k%2:Nat):=by rw[show((x:Int)/2^k)=((x/2^k:Nat):Int) by simp];rfl
       rcases Nat.mod_two_eq_zero_or_one (x/2^k) with A|aF
       ·rw[A] at l e1;have HF:Hid (Cd _ f (Q+(k+1))=Cd _ _ (Q+k)):=Zds _ _ _ l;clear A l;refine rd_ ?_;exact⟨k+1,g_,o_,by rw[HF];exact j⟩
       rw[aF] at l e1;obtain⟨T,Z⟩:=ex_ (Q+k);obtain⟨J,hJ⟩:=ex_ (T/8);obtain⟨R,hR⟩:=ex_ (T%8);have aB:J<f:=o_;obtain⟨C,aG⟩:=j.1.cellK (k:=J) (by rw[Gp]) aB;rw[Tz _ _ aB] at C;obtain⟨y,hy⟩:=ex_ (Hd (Ds N b) (Q+k) J);have aL:y<2^R:=(by rw[hy,hJ,hR,<- Z];exact fj (Um N b) T);have bI:R<8:=o_
       have aP:2^R<=128:=by
        have:(2:Nat)^R<=2^7:=Nat.pow_le_pow_right d_ o_
        simpa using this
       obtain⟨z,hz⟩:=ex_ (2^R);obtain⟨u,hu⟩:=ex_ (y+z);have aC:Hd (Ds N b) (Q+k+1) J=u:=by rw[hu,hz,hy,hJ,hR,<- Z,fi,Z,l,Nat.one_mul]
       have a4:Hid ((Cd (Ds N b) f (Q+k)).set J u=Cd (Ds N b) f (Q+(k+1))):=by show _=_;rw[<- aC];have:=Xm (Ds N b) f (Q+k);rw[<- Z,<- hJ,Z] at this;exact this
       have t1:Q+k=(T:Int):=o_;have t2:(T:Int).tdiv 8=J:=(by rw[Int.tdiv_eq_ediv_of_nonneg o_];omega);have t3:T/8=(J:Int):=o_;have t4:(T:Int).tmod 8=R:=(by rw[Int.tmod_eq_emod_of_nonneg o_];omega);have t5:T%8=(R:Int):=o_
       have t6:IntKind.u8.wrap (1*2^R)=z:=by
        rw[Int.one_mul,Wf _ (by have:(0:Nat)<=2^R:=qg_;exact_mod_cast this) (by
         have:((2:Int)^R)=((2^R:Nat):Int):=s_
         rw[this];omega)]
        rw[hz];simp
       have b9:IntKind.u8.wrap (2^R)=z:=(by rw[<- t6,Int.one_mul]);have t7:IntKind.u8.wrap (y+z)=u:=by rw[Wf _ o_ o_];omega
       have t8:_=(J:Int):=Cb o_ o_;have t9:_=(T:Int):=Cb o_ o_;have bB:0<=(R:Int):=o_;have bM:(R:Int)<=8:=o_;have b8:0<=(J:Int):=o_;have bF:J<(f:Int):=o_;have bT:(T:Int)<=1300:=o_;rw[<- hy] at C;have d1:wr.drew.cell? _=_:=C;have fq:wr.drew.frozen? _=_:=aG;clear aF l Z hJ hR C aG hy aL hz hu aC aP;go_upto_region 25 with fail;refine Al (λw'=>w'.cell? _=some _) 13 k_ d1 (λhHeld=>?_);refine Ah 0 ?_;refine Ah 1 ?_;refine Ah 2 ?_;refine Ah 3 ?_;refine Ah 4 ?_;refine Ah 5 ?_;refine Ah 6 ?_;refine Ua [11,12,13] 7 (v:=?_) ?_ ?_
       rotate_left;· intro w aO;go_simp;try with_reducible rfl
       try simp only[Act.put,sA,sB,sC]
       refine Ah 8 ?_;refine Ah 9 ?_;refine Ah 10 ?_;refine Ah 11 ?_;refine Ah 12 ?_;refine Ai (i:=13) k_ rfl k_ (λKK hK=>?_);go_simp;refine hK _ _ ?_;clear hK KK;try simp only[Act.put,sA,sB,sC]
       refine Ak k_ ?_ _;have b5:Hid (Bj (wr.setCell (A_ q J) (.int .u8 u)).drew q (L_ q f f) (Cd (Ds N b) f (Q+(k+1)))/\E_ w (wr.setCell (A_ q J) (.int .u8 u)).drew):=(by rw[<- a4];exact⟨World.ownsRow.drew (j.1.put (by rw[Gp]) _).1,(j.2.setCell (p:=(A_ q J)) aZ _).drew⟩);clear j hHeld d1 fq cx;refine rd_ ?_;exact⟨k+1,g_,o_,b5⟩
      have a3:k=b:=o_;subst a3;have bE:¬k<(k:Int):=o_
      have HF:Hid (Bj wr q (L_ q f f) (Cd (Ds N k) f ((i+1)*k))/\E_ w wr):=(by have:(i+1)*k=Q+k:=(by rw[Nat.add_mul,Nat.one_mul,HQ]);rw[this];exact j);clear j;refine rd_ ?_;exact⟨i+1,g_,o_,HF⟩
    have a2:i=r:=o_;subst a2;have bO:¬i<(i:Int):=o_;have b7:=Pz _ q _ _ j.1;have HF:=x1_ j.2;have H:Hid (strOfNums (Lb N g)=({data:=#[100]}:ByteArray)++strOfNums (Cd (Ds N b) f (i*b))):=(by show _=_;rw[E,D.1,show({data:=#[100]}:ByteArray)=strOfNums [100] from rfl,Cl];rfl);have bN:(strOfNums (Cd (Ds N b) f (i*b))).size=f:=(by rw[Br,Gp]);have bH:=D.2.2;have z1:¬9223372036854775807<1+(strOfNums (Cd (Ds N b) f (i*b))).size:=o_;clear j;generalize strOfNums (Cd (Ds N b) f (i*b))=sp at *;go_wp2;go_ret;exact⟨by rw[H];rfl,HF⟩
def Rb q r p j L w (o:Ag w q p L)(k:Ag w r j L)(F:L.length<=1000000):C_ 140 #[p,j] w λe w'=>e=.returned (.bool true)/\∃m,w'=w.drewN m:=by
 obtain⟨a,c,rfl,C⟩:=o.form;obtain⟨v,E,rfl,f⟩:=k.form
 have s:Hid (∀i,i<L.length->∃b d,a=some ⟨b,0,none⟩/\v=some ⟨d,0,none⟩/\w.cell? (A_ b i)=some (I_ (L.getD i 0))/\w.cell? (A_ d i)=some (I_ (L.getD i 0))):=λi hi=>w_
 clear o k C f;generalize L.length=n at *;go_enter Tryz.func140,Tryz.ntmps140;go_upto_region 4 with fail;go_loopw [5] (λti wr=>∃(i m:Nat),i<=n/\ti=.int .i64 i/\Hid (wr=w.drewN m)) (λti _=>n-(intOf ti).toNat)
 case atStart=>exact⟨0,0,qg_,rfl,rfl⟩
 case round=>
  obtain⟨i,m,A,rfl,l⟩:=hrel;have B:=l.out;subst B;clear l
  by_cases hi:i<n
  ·have t:0<=(i:Int):=o_;have u:i<(n:Int):=o_;obtain⟨b,d,rfl,rfl,x,g⟩:=s i hi;have y:(w.drewN m).cell? (A_ b i)=some (I_ (L.getD i 0)):=(by rw[<- x];exact cb_ (below_drewN (br_ _ w) m|>.block _ (World.block_lt_of_cell? w _ x)));have G:(w.drewN m).cell? (A_ d i)=some (I_ (L.getD i 0)):=(by rw[<- g];exact cb_ (below_drewN (br_ _ w) m|>.block _ (World.block_lt_of_cell? w _ g)));clear x g;generalize L.getD i 0=z,hW:w.drewN m=w1 at *;have h:=x1_ hW;clear hW;go_upto_region 6 with fail;go_quiet (fail);refine rd_ ?_;exact⟨i+1,_,o_,g_,by rw[<- h];exact World.drewN_drewN _ _ _⟩
  have D:¬i<(n:Int):=o_;go_wp2;go_ret;exact⟨rfl,_,rfl⟩
def zq p q o k L w (h:Cc w p o L)(g:Cc w q k L)(E:L.length<=1000000):C_ 141 #[o,k] w λe w'=>e=.returned (.bool true)/\∃m,w'=w.drewN m:=by
 obtain⟨a,c,rfl⟩:=h.form;obtain⟨u,C,rfl⟩:=g.form
 have r:Hid (∀i,i<L.length->∃b d,a=some ⟨b,0,none⟩/\u=some ⟨d,0,none⟩/\w.cell? (A_ b i)=some (.string (L.getD i ⟨#[]⟩))/\w.cell? (A_ d i)=some (.string (L.getD i ⟨#[]⟩))):=λi hi=>by
  obtain⟨b,e,_,x⟩:=h.atW rfl hi ⟨#[]⟩;obtain⟨d,D,_,f⟩:=g.atW rfl hi ⟨#[]⟩
  grind
 clear h g;generalize L.length=n at *;go_enter Tryz.func141,Tryz.ntmps141;go_upto_region 4 with fail;go_loopw [5] (λti wr=>∃(i m:Nat),i<=n/\ti=.int .i64 i/\Hid (wr=w.drewN m)) (λti _=>n-(intOf ti).toNat)
 case atStart=>exact⟨0,0,qg_,rfl,rfl⟩
 case round=>
  obtain⟨i,m,v,rfl,l⟩:=hrel;have A:=l.out;subst A;clear l
  by_cases hi:i<n
  ·have s:0<=(i:Int):=o_;have t:i<(n:Int):=o_;obtain⟨b,d,rfl,rfl,x,f⟩:=r i hi;have y:(w.drewN m).cell? (A_ b i)=some (.string (L.getD i ⟨#[]⟩)):=(by rw[<- x];exact cb_ (below_drewN (br_ _ w) m|>.block _ (World.block_lt_of_cell? w _ x)));have F:(w.drewN m).cell? (A_ d i)=some (.string (L.getD i ⟨#[]⟩)):=(by rw[<- f];exact cb_ (below_drewN (br_ _ w) m|>.block _ (World.block_lt_of_cell? w _ f)));clear x f;generalize L.getD i ⟨#[]⟩=z,hW:w.drewN m=w1 at *;have j:=x1_ hW;clear hW;go_upto_region 6 with fail;go_quiet (fail);refine rd_ ?_;exact⟨i+1,_,o_,g_,by rw[<- j];exact World.drewN_drewN _ _ _⟩
  have B:¬i<(n:Int):=o_;go_wp2;go_ret;exact⟨rfl,_,rfl⟩
end Go.Proofs.YtfcgnpchbcmdeaaGreat
