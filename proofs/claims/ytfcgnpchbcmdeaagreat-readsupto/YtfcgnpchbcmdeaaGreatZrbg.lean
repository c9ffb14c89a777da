import Derived.Test.YtfcgnpchbcmdeaaGreatZrbe
import Derived.Test.YtfcgnpchbcmdeaaGreatZrbf
namespace Go.Proofs.YtfcgnpchbcmdeaaGreat
set_option linter.all false
set_option maxRecDepth 100000
set_option maxHeartbeats 8000000
open Go.RowKit
def xB(x:XS):List Int:=[x.row%256,x.f%256,x.bin%256]
def Pj(k:KS):List Int:=if k.e.wd=true then yn k else knB k
def Ob(D:Zg)(X:List XS):List Int:=[71,82,((D.bs.getD 0 Dx).N.length:Int)%256,D.ks.length%256]++D.ks.flatMap Pj++[(D.bs.length:Int)%256]++D.bs.flatMap Gw++Ba X.length 2++X.flatMap xB
def Mm(D:Zg)(X:List XS):List Int:=Ob D X++Ba (Jv (Ob D X)) 4
def ZdX(b:BS):Prop:=b.fs.length<=1000/\(∀f∈b.fs,f<=1000)/\((Fu b.N b.N.length).length<=1000/\∀x∈Fu b.N b.N.length,x.1<=1000/\x.2<=1000)/\(Cd (Ds b.N (Lib.bitLen b.g)) ((b.N.length*Lib.bitLen b.g+7)/8) (b.N.length*Lib.bitLen b.g)).length<=1000/\(Gw b).length<=5000
def od(k:KS):Prop:=(k.e.wd=false/\k.e.ww=[]/\k.e.bs.length<=1000/\∀x∈k.e.bs,-1000000000000<=x/\x<=1000000000000)∨(k.e.wd=true/\k.e.bs=[]/\k.e.ww.length<=1000/\∀x∈k.e.ww,x.size<=8)
def Ko{α:Type}(f:α->List Int)(L:List α) d {k}(h:k<L.length):(L.take (k+1)).flatMap f=(L.take k).flatMap f++f (L.getD k d):=by
 rw[Qi h,List.flatMap_append]
 grind
def Fk:XS:=⟨0,0,0⟩
def rz:∀(L:List XS) (i:Nat),i<L.length->∀c,c<3->(Io L)[i*3+c]? =(Do (L.getD i Fk))[c]?
 |[],i,h=>by simp at h
 |x::L,0,_=>λc hc=>by grind [Io,Do]
 |x::L,i+1,h=>λc hc=>by simp only[Io];rw[List.getElem?_append_right (by simp[Do];omega),show(i+1)*3+c-(Do x).length=i*3+c by simp[Do];omega];exact rz L i (by simpa using h) c hc
def Mi.atK{w a n c L}(h:Mi w 0 (.slice a n c) L)(l:L.length=n){k}(i:k<n):∃q,a=some ⟨q,0,none⟩/\q<w.heap.size/\w.cell? (A_ q (k*3))=some (I_ (L.getD k Fk).row)/\w.cell? (A_ q (k*3+1))=some (I_ (L.getD k Fk).f)/\w.cell? (A_ q (k*3+2))=some (I_ (L.getD k Fk).bin):=by
 subst l;have d:=h
 rcases d.2 with⟨e,h0⟩|⟨g,cap,cur,e,_,hh,hnc,_⟩
 omega;injection e with e1 e2 e3;subst e1;have j:w.ownsRow 0 _ 3 _ _ _:=h
 have b:∀o u,o<3->(Do (L.getD k Fk))[o]? =some u->w.cell? (A_ g (k*3+o))=some u:=λo u ho hu=>by rw[World.ownsRow.cellAt j (k*3+o) o_];exact(rz L k i o ho).trans hu
 exact⟨g,rfl,(Qb hh).1,b 0 _ o_ rfl,b 1 _ o_ rfl,b 2 _ o_ rfl⟩
def Zi3{a}(h:∀x∈a,x.size<=8):(Km a).length<=9*a.length:=by
 induction a with
 |nil=>simp[Km]
 | cons x a ih=>
  grind [Km,Pt]
def ZeC{k}(h:od k):(Pj k).length<=9003:=by
 unfold Pj
 rcases h with⟨h1,_,h2,_⟩|⟨h1,_,h2,h3⟩
 rw[h1,if_neg d_];unfold knB;rw[Qe,ff];simp;omega
 grind [yn,Zi3]
def Zfg J vK vB vX b5 bP X D w (h:So w J vK vB vX b5 bP X D)(h0:0<D.bs.length)(aP:∀K∈D.ks,od K)(bX:D.ks.length<=4)(aQ:∀b∈D.bs,ZdX b)(aS:D.bs.length<=4)(bY:X.length<=4000)(aH:∀b∈Ob D X,0<=b/\b<256):C_ 60 #[.pointer (some ⟨J,0,none⟩)] w λe w'=>e=.returned (.string (strOfNums (Mm D X)))/\Below w.heap.size w w':=by
 obtain⟨ka,kc,rfl⟩:=h.kn.form;have d0:=cR_ 0 h.ds.blk;have t:=(Qb h.ds.blk).1;have Z:=x1_ h;obtain⟨i0,a1,aJ,aI,aL⟩:=info_parts Nf;have aZ:=x1_ (λW I=>Nq _ _ _ _ _ _ X W (Z.ds.below I) h0)
 have a2:=x3_ aP aQ aH
 clear h aP aQ aH
 generalize hnr:(D.bs.getD 0 Dx).N.length=nr at *;generalize aA:D.ks.length=nk at *;have V:=x2_ hnr aA;clear hnr aA;go_enter Tryz.func60,Tryz.ntmps60;go_upto_region 1 with fail;go_cut [3] (λv wx=>∃a c,v=.slice a 4 c/\Hid (Hb w wx (.slice a 4 c) [71,82,(nr:Int)%256,(nk:Int)%256]))
 case first=>
  refine Al (λw'=>w'.cell? _=some _) 13 k_ d0 (λhHeld=>?_);refine Ah 2 ?_;refine Ah 5 ?_;refine Ah 6 ?_;refine Ah 7 ?_;refine Ah 8 ?_;refine Ah 9 ?_;refine Ah 10 ?_;have A:E_ w _:=(br_ _ w).drew;generalize w.drew=x at *
  repeat' first
   |(replace H:=H;replace fC:=fC;refine Af (i:=12) k_ rfl (λKK hK=>?_))
   |(replace H:=H;replace y:=y;refine Af (i:=1) k_ rfl (λKK hK=>?_))
   |(replace H:=H;refine Af (i:=0) k_ rfl (λKK hK=>?_))
   |(replace fD:=fD;replace fC:=fC;refine Af (i:=11) k_ rfl (λKK hK=>?_))
   |(replace fD:=fD;replace y:=y;refine Oj (i:=1) (j:=11) k_ rfl rfl (λKK hK=>?_) (λKK hK=>?_))
   |(replace fD:=fD;refine Oj (i:=0) (j:=11) k_ rfl rfl (λKK hK=>?_) (λKK hK=>?_))
   |(replace fC:=fC;refine Af (i:=3) k_ rfl (λKK hK=>?_))
   |(replace y:=y;refine Oj (i:=1) (j:=3) k_ rfl rfl (λKK hK=>?_) (λKK hK=>?_))
   |refine Oj (i:=0) (j:=3) k_ rfl rfl (λKK hK=>?_) (λKK hK=>?_)
   |(refine Xu rfl _ (.tmp 21) rfl _ _ 71 82 _ _ (2,3) (0,0) j_ j_ y H ?_;intro v6 w6 H6;obtain⟨o6,k6,b6,q6,p6,bG⟩:=H6;have aW:Hid (Hb w _ _ [_,_,_%256,_%256]):=⟨A.trans (b6.mono A.size),o6,λk hk=>by rw[k6] at hk;injection hk with hk;rw[<- hk];exact A.size⟩;subst bG;clear o6 k6 b6;refine hK _ _ ((aW.bl.cell (p:=(A_ J 0)) t).trans d0) (λhHeld=>?_);clear hK KK;(try simp only[Act.put]);(try simp only[List.setIfInBounds_toArray,List.set_cons_succ,List.set_cons_zero]);refine Ai (i:=13) k_ rfl k_ (λKK hK=>?_);go_simp;refine hK _ _ ?_;clear hK KK;(try simp only[Act.put]);(try simp only[List.setIfInBounds_toArray,List.set_cons_succ,List.set_cons_zero]);refine Ak k_ ?_ _;go_wp2;go_meet;grind)
   |(go_simp;refine(aZ _ A).mono ?_;rintro e x ⟨rfl,a7⟩;(try have y:=(a7.block _ (Qb y).1).trans y);have A:=A.trans (a7.mono A.size);have fD:Hid True:=trivial;clear a7;go_simp;refine hK _ _ ((A.cell (p:=(A_ J 0)) t).trans d0) (λhHeld=>?_);clear hK KK;(try simp only[Act.put]);(try simp only[List.setIfInBounds_toArray,List.set_cons_succ,List.set_cons_zero]);refine Ah 4 ?_)
   |(have aD:=Zfl x lb 2 2 _ y;have y:=yj x lb _ 5 2 y;(try have H:=(Vb x lb 2).at_ H o_);have A:=A.trans ((Vb x lb 2).to_below A.size (λq hq=>by rw[hq];exact hl));have fC:Hid True:=trivial;go_simp;generalize World.freeze x (A_ lb 2) 1=x at *;clear aD;refine hK _ _ ((A.cell (p:=(A_ J 0)) t).trans d0) (λhHeld=>?_);clear hK KK;(try simp only[Act.put]);(try simp only[List.setIfInBounds_toArray,List.set_cons_succ,List.set_cons_zero]))
   |(have y:=ha_ x (.cells #[.int .u8 71,.int .u8 82] 5);have hl:=A.size;(try(have b7:=Nat.ne_of_lt (Qb H).1;have H:=(hb_ x (.cells #[.int .u8 71,.int .u8 82] 5) rb (Qb H).1).trans H));have A:=A.alloc A.size (.cells #[.int .u8 71,.int .u8 82] 5);go_simp;generalize x.heap.size=lb at *;generalize World.alloc x (.cells #[.int .u8 71,.int .u8 82] 5)=x at *;refine hK _ _ ((A.cell (p:=(A_ J 0)) t).trans d0) (λhHeld=>?_);clear hK KK;(try simp only[Act.put]);(try simp only[List.setIfInBounds_toArray,List.set_cons_succ,List.set_cons_zero]))
   |(have H:=ha_ x (.cells #[.int .u8 (IntKind.u8.wrap (nr:Int)),.int .u8 (IntKind.u8.wrap (nk:Int))] 5);(try(have b7:=Nat.ne_of_lt (Qb y).1;have y:=(hb_ x (.cells #[.int .u8 (IntKind.u8.wrap (nr:Int)),.int .u8 (IntKind.u8.wrap (nk:Int))] 5) lb (Qb y).1).trans y));have A:=A.alloc A.size (.cells #[.int .u8 (IntKind.u8.wrap (nr:Int)),.int .u8 (IntKind.u8.wrap (nk:Int))] 5);go_simp;generalize x.heap.size=rb at *;generalize World.alloc x (.cells #[.int .u8 (IntKind.u8.wrap (nr:Int)),.int .u8 (IntKind.u8.wrap (nk:Int))] 5)=x at *;refine hK _ _ ((A.cell (p:=(A_ J 0)) t).trans d0) (λhHeld=>?_);clear hK KK;(try simp only[Act.put]);(try simp only[List.setIfInBounds_toArray,List.set_cons_succ,List.set_cons_zero]))
 case rest =>
  obtain⟨a0,c0,rfl,HO⟩:=hcut;have q0:=(HO.bl.cell (p:=(A_ J 0)) t).trans d0;go_wp2_with fail
  go_loopw [3,28] (λtv ti wr=>∃(k:Nat) (a:Option Addr) (c n:Nat),tv=.slice a n c/\ti=.int .i64 k/\k<=nk/\n<=4+k*9003/\Hid (Hb w wr (.slice a n c) ([71,82,(nr:Int)%256,(nk:Int)%256]++(D.ks.take k).flatMap Pj)/\([71,82,(nr:Int)%256,(nk:Int)%256]++(D.ks.take k).flatMap Pj).length=n)) (λ_ ti _=>nk-(intOf ti).toNat)
  case atStart=>exact⟨0,a0,c0,4,rfl,rfl,qg_,o_,by rw[List.take_zero];exact⟨HO,rfl⟩⟩
  case round=>
   clear HO q0;obtain⟨k,a,c,n,rfl,rfl,hk,hn,g⟩:=hrel
   by_cases hkl2:k<nk
   ·have a8:k<D.ks.length:=(by rw[V.2];exact hkl2);obtain⟨q,cc,ab,cb,aw,cw,hv,s,R,U,k2,k3,hI,hS⟩:=Z.kn.at a8;have aC:ka=some ⟨q,0,none⟩:=(by injection hv);subst aC;have l:od (D.ks.getD k Ay):=(by have:D.ks.getD k Ay=D.ks[k]:=(by simp[List.getD,a8]);rw[this];exact a2.1 _ (Qf _));have bV:=x1_ l;have m:=g.1.bl;have e0:=(m.cell (p:=(A_ q (k*4))) s).trans R;have O:=(m.cell (p:=(A_ q (k*4+1))) s).trans U;have e2:=(m.cell (p:=(A_ q (k*4+2))) s).trans k2;have e3:=(m.cell (p:=(A_ q (k*4+3))) s).trans k3;have Q:Hid ([71,82,(nr:Int)%256,nk%256]++(D.ks.take (k+1)).flatMap Pj=([71,82,(nr:Int)%256,nk%256]++(D.ks.take k).flatMap Pj)++Pj (D.ks.getD k Ay)):=by show _=_;rw[Ko Pj D.ks Ay a8,List.append_assoc]
    have aB:=x1_ (ZeC l)
    have P:Hid (∀W L,Hb w W (.slice a L.length c) L->L.length<=900000->C_ 100 #[.agg #[.bool (D.ks.getD k Ay).e.wd,.slice ab (D.ks.getD k Ay).e.bs.length cb,.slice aw (D.ks.getD k Ay).e.ww.length cw,.int .i64 (D.ks.getD k Ay).d],.slice a L.length c] W λe w'=>dz w (L++Pj (D.ks.getD k Ay)) e w'):=λW L I y=>by
     rcases l with l|l
     have o:=Zo w _ aw _ cw _ a c L W l.1 hI I l.2.2.1 l.2.2.2 y;have O:Pj (D.ks.getD k Ay)=knB (D.ks.getD k Ay):=(by unfold Pj;rw[l.1];rfl);rw[O,l.2.1];exact o;have o:=Xd w ab _ cb _ _ a c L W l.1 hS I l.2.2.1 l.2.2.2 y;have O:Pj (D.ks.getD k Ay)=yn (D.ks.getD k Ay):=(by unfold Pj;rw[l.1];rfl);rw[O,l.2.1];exact o
    clear l R U k2 k3 hI hS hv m;generalize D.ks.getD k Ay=Kk at *;generalize [71,82,(nr:Int)%256,(nk:Int)%256]++(D.ks.take k).flatMap Pj=L0 at *;have aE:0<=(k:Int):=o_;have aR:k<(nk:Int):=o_;generalize Kk.e.wd=wdk at *;generalize Kk.e.ww.length=nwk at *;generalize Kk.e.bs.length=nb at *;generalize Kk.d=dd at *;go_wp2_with fail
    have I:=g.1.below (bz_.alloc qa_ (.cells #[.bool wdk,.slice ab nb cb,.slice aw nwk cw,I_ (dd:Nat)] 172));have hC:=P _ _ (by rw[g.2];exact I) (by rw[g.2];omega);rw[g.2] at hC;refine hC.mono ?_;rintro e w3 ⟨a3,c3,rfl,T⟩;rw[<- Q] at T ⊢;obtain⟨n3,B⟩:=ex_ (([71,82,(nr:Int)%256,nk%256]++(D.ks.take (k+1)).flatMap Pj).length);have bO:n3<=4+(k+1)*9003:=by rw[B,Q,Qe,g.2];have:=aB.out;omega
    rw[<- B] at T ⊢;have HN:=x2_ T B.symm;clear T B hC I P Q g e0 O e2 e3;go_wp2;go_roundw;case rel=>grind
    case measure=>exact z_
   have aA:¬k<(nk:Int):=o_;have C:D.ks.take k=_:=List.take_of_length_le (by have:=V.2;omega);rw[C] at g;obtain⟨ba,bc,bI⟩:=Z.ds.bn.form;subst bI;have aT:Hid (Ob D X=([71,82,(nr:Int)%256,nk%256]++D.ks.flatMap Pj)++[(D.bs.length:Int)%256]++D.bs.flatMap Gw++Ba X.length 2++X.flatMap xB):=(by show _=_;unfold Ob;rw[V.1,V.2]);generalize hnb:D.bs.length=nb at *;have aM:=x1_ hnb;have aU:=x1_ aS;clear hnb C aS;have d1:=cR_ 1 Z.ds.blk;have O:=(g.1.bl.cell (p:=(A_ J 1)) t).trans d1;have bU:=Qh t g.1.bl.size;generalize [71,82,(nr:Int)%256,(nk:Int)%256]++D.ks.flatMap Pj=L1 at *;have M:Hid (wr.ownsRow 0 5 1 (.slice a n c) n (L1.map (Value.int .u8))):=by have o:=g.1.ow;unfold Bj at o;rw[g.2] at o;exact o
   have b9:n<=36016:=o_;go_wp2_with (at_builtin;refine Ab rfl (.tmp 36) (.tmp 43) 66 rfl 0 5 i0 (.int .u8 0) 1 1 Tryz.underlying66 a1 aJ aI aL rfl d_ _ n _ rfl (M.alloc _) _ 1 1 [.int .u8 ((nb:Int)%256)] rfl rfl ?_ ?_ ?_ ?_ ?_ ?_ ?_)
   all_goals try first|exact Am wr #[.int .u8 ((nb:Int)%256)] 5|(intro u hu;simp at hu;rcases hu with rfl;rfl)|exact qg_|rfl|decide|(unfold maxLen;omega)|omega
   intro v4 w4 H4;obtain⟨r4,g4,d4,_,q4,p4,bB⟩:=H4;have aG:Hid (Hb w w4 v4 (L1++[(nb:Int)%256])/\(L1++[(nb:Int)%256]).length=n+1):=(by refine⟨g.1.app ?_ (Ec.pre ((br_ _ wr).alloc qa_ _) (Ec.of_mark g4 d4 s_)),by rw[Qe,g.2];rfl⟩;refine Bj.more (n:=1) ?_ rfl;rw[g.2];exact r4);have b8:=(aG.1.bl.cell (p:=(A_ J 1)) t).trans d1;subst bB;clear r4 g4 d4 M g O hn;generalize L1++[(nb:Int)%256]=L2 at *;obtain⟨wl,aO⟩:∃wl,wl=wr:=⟨wr,rfl⟩;subst aO;go_wp2_with fail
   go_loopw [3,50] (λtv ti wr=>∃(j:Nat) (a:Option Addr) (c n:Nat),tv=.slice a n c/\ti=.int .i64 j/\j<=nb/\n<=36017+j*5000/\Hid (Hb w wr (.slice a n c) (L2++(D.bs.take j).flatMap Gw)/\(L2++(D.bs.take j).flatMap Gw).length=n)) (λ_ ti _=>nb-(intOf ti).toNat)
   case atStart=>exact⟨0,_,_,n+1,rfl,rfl,qg_,o_,w_⟩
   case round=>
    clear aG b8;obtain⟨j,a,c,n,rfl,rfl,hj,hn,g⟩:=hrel;have bW:=Nat.le_trans hj aU
    by_cases hjl:j<nb
    ·have Y:j<D.bs.length:=(by rw[aM];exact hjl);obtain⟨q,cc,hv,s,R,U⟩:=Z.ds.bn.at Y;have aC:ba=some ⟨q,0,none⟩:=(by injection hv);subst aC;have F:ZdX (D.bs.getD j Dx):=(by have:D.bs.getD j Dx=D.bs[j]:=(by simp[List.getD,Y]);rw[this];exact a2.2.1 _ (Qf _));obtain⟨hI,E⟩:=Z.ds.bn.each j Y;obtain⟨fa,aY,a6⟩:=hI.shape;obtain⟨ct,cp,aK⟩:=E.iface;rw[Aw] at a6;rw[a6] at R hI;rw[aK] at U E;have m:=g.1.bl;have e0:=(m.cell (p:=(A_ q (j*2))) s).trans R;have O:=(m.cell (p:=(A_ q (j*2+1))) s).trans U;have Q:Hid (L2++(D.bs.take (j+1)).flatMap Gw=(L2++(D.bs.take j).flatMap Gw)++Gw (D.bs.getD j Dx)):=(by show _=_;rw[Ko Gw D.bs Dx Y,List.append_assoc]);have aB:=x1_ F.2.2.2.2
     have P:=x1_ (λW L I y=>
      Wk w _ _ _ _ a c L W hI E I F.1 F.2.1 y F.2.2.1 F.2.2.2.1)
     clear F R U hI E hv m a6 aK;generalize D.bs.getD j Dx=Bk at *;generalize L2++(D.bs.take j).flatMap Gw=L0 at *;generalize Bk.fs.length=nf at *;have aE:0<=(j:Int):=o_;have aR:j<(nb:Int):=o_;go_wp2_with fail
     have I:=g.1.below (bz_.alloc qa_ (.cells #[.slice fa nf aY,.iface ct (P_ cp)] 163));have hC:=P _ _ (by rw[g.2];exact I) (by rw[g.2];omega);rw[g.2] at hC;refine hC.mono ?_;rintro e w3 ⟨a3,c3,rfl,T⟩;rw[<- Q] at T ⊢;obtain⟨n3,B⟩:=ex_ ((L2++(D.bs.take (j+1)).flatMap Gw).length);have bO:n3<=36017+(j+1)*5000:=by rw[B,Q,Qe,g.2];have:=aB.out;omega
     rw[<- B] at T ⊢;have HN:=x2_ T B.symm;clear T B hC I P Q g e0 O;go_wp2;go_roundw;case rel=>grind
     case measure=>exact z_
    have bZ:¬j<(nb:Int):=o_;have C:D.bs.take j=_:=List.take_of_length_le (by have:=aM.out;omega);rw[C] at g;obtain⟨xa,xc,bL⟩:=Z.ds.xn.shape;subst bL;have d2:=cR_ 2 Z.ds.blk;have e2:=(g.1.bl.cell (p:=(A_ J 2)) t).trans d2;have b9:n<=56017:=o_;have b3:=x1_ aT;generalize hL3:L2++D.bs.flatMap Gw=L3 at *;have G:C_ 102 #[.slice a n c,.int .i64 X.length,.int .i64 2] wr λe w'=>dz w (L3++Ba X.length 2) e w':=(by have o:=g.1;rw[<- g.2] at o ⊢;exact(Ml a c 2 _ _ _ o.ow o_ (by rw[g.2];omega) o_ o_).mono (λe w' h=>h.out o));clear C hL3 aT;generalize hxn:X.length=xn at *;have a4:=x1_ hxn;clear hxn;go_wp2_with fail
    refine G.mono ?_;rintro e w5 ⟨a5,c5,rfl,h5⟩;obtain⟨n5,S⟩:=ex_ ((L3++Ba xn 2).length);have bD:n5=n+2:=(by rw[S,Qe,Gc,g.2]);have bT:n5<=56019:=o_;rw[<- S] at h5 ⊢;have bF:=x2_ h5 S.symm;have e5:=(h5.bl.cell (p:=(A_ J 2)) t).trans d2;clear h5 S bD G g e2 hn;generalize L3++Ba (xn:Nat) 2=L5 at *;obtain⟨wm,aV⟩:∃wm,wm=wr:=⟨wr,rfl⟩;subst aV;go_wp2_with fail
    go_loopw [3,70] (λtv ti wr=>∃(r:Nat) (a:Option Addr) (c n:Nat),tv=.slice a n c/\ti=.int .i64 r/\r<=xn/\n=n5+r*3/\Hid (Hb w wr (.slice a n c) (L5++(X.take r).flatMap xB)/\(L5++(X.take r).flatMap xB).length=n)) (λ_ ti _=>xn-(intOf ti).toNat)
    case atStart=>exact⟨0,_,_,n5,rfl,rfl,qg_,rfl,w_⟩
    case round=>
     clear bF e5;obtain⟨r,a,c,n,rfl,rfl,hr,hn,g⟩:=hrel
     by_cases hrl:r<xn
     ·have bE:r<X.length:=(by rw[a4];exact hrl);obtain⟨q,hq,s,R,U,k2⟩:=Mi.atK Z.ds.xn a4 hrl;subst hq;have m:=g.1.bl;have e0:=(m.cell (p:=(A_ q (r*3))) s).trans R;have O:=(m.cell (p:=(A_ q (r*3+1))) s).trans U;have e2:=(m.cell (p:=(A_ q (r*3+2))) s).trans k2;have Q:Hid (L5++(X.take (r+1)).flatMap xB=(L5++(X.take r).flatMap xB)++[((X.getD r Fk).row:Int)%256,(X.getD r Fk).f%256,(X.getD r Fk).bin%256]):=(by show _=_;rw[Ko xB X Fk bE,List.append_assoc];rfl);clear R U k2 m;generalize L5++(X.take r).flatMap xB=L0 at *;generalize (X.getD r Fk).row=y0 at *;generalize (X.getD r Fk).f=y1 at *;generalize (X.getD r Fk).bin=y2 at *
      have M:Hid (wr.ownsRow 0 5 1 (.slice a n c) n (L0.map (Value.int .u8))):=(by have o:=g.1.ow;unfold Bj at o;rw[g.2] at o;exact o);have aX:=x1_ hn;have bK:n<=70000:=o_;clear hn;have aE:0<=(r:Int):=o_;have aR:r<(xn:Int):=o_;go_wp2_with (at_builtin;refine Ab rfl (.tmp 74) (.tmp 84) 66 rfl 0 5 i0 (.int .u8 0) 1 1 Tryz.underlying66 a1 aJ aI aL rfl d_ _ n (L0.map (Value.int .u8)) rfl ((M.alloc _).alloc _) _ 3 3 [.int .u8 ((y0:Int)%256),.int .u8 ((y1:Int)%256),.int .u8 ((y2:Int)%256)] rfl rfl ?_ ?_ ?_ ?_ ?_ ?_ ?_)
      intro j u hu;have o:=Am (wr.alloc (.cells #[I_ (y0:Nat),I_ (y1:Nat),I_ (y2:Nat)] 184)) #[.int _ _,.int _ _,.int _ _] 5 j u hu;rw[show(wr.alloc (.cells #[I_ (y0:Nat),I_ (y1:Nat),I_ (y2:Nat)] 184)).heap.size=wr.heap.size+1 by simp] at o;exact o
      ·intro u hu;simp at hu;rcases hu with rfl|rfl|rfl<;>rfl
      decide;unfold maxLen;omega;omega;simp;intro v7 w7 H7;obtain⟨r7,g7,d7,_,q7,p7,bA⟩:=H7;have HN:Hid (Hb w w7 v7 (L5++(X.take (r+1)).flatMap xB)/\(L5++(X.take (r+1)).flatMap xB).length=n+3):=by have bN:E_ wr ((wr.alloc (.cells #[I_ y0,I_ y1,I_ y2] 184)).alloc (.cells #[.int .u8 (y0%256),.int .u8 (y1%256),.int .u8 (y2%256)] 5)):=bA_.alloc s_ _;rw[Q];refine⟨g.1.app ?_ (Ec.pre bN (Ec.of_mark g7 d7 s_)),by rw[Qe,g.2];rfl⟩;refine Bj.more (n:=3) ?_ rfl;rw[g.2];exact r7
      subst bA;clear r7 g7 d7 M g Q e0 O e2;go_wp2;go_roundw;case rel=>exact⟨r+1,some _,p7,n+3,rfl,g_,o_,by have:=aX.out;omega,HN⟩
      case measure=>exact z_
     have bQ:¬r<(xn:Int):=o_;have C:X.take r=X:=List.take_of_length_le (by have:=a4.out;omega);rw[C,<- b3] at g;have bK:n<=70000:=o_
     have aF:C_ 103 #[.slice a n c] wr λe w'=>e=.returned (.int .u32 (Jv (Ob D X)))/\w'=wr:=(by have o:=g.1.ow;rw[<- g.2] at o ⊢;exact xg a c _ _ o (by rw[g.2];omega) a2.2.2);have hz:=Rh .xor 4294967295 (Zhq (Ob D X));have bM:0<=Jv _/\Jv _<_:=hz;have aN:Hid (Mm D X=_++_):=rfl;have G:C_ 102 #[.slice a n c,.int .i64 (Jv (Ob D X)),.int .i64 4] wr λe w'=>dz w (Ob D X++Ba (Jv (Ob D X)) 4) e w':=(by have o:=g.1;rw[<- g.2] at o ⊢;exact(Ml a c 4 _ _ _ o.ow o_ (by rw[g.2];omega) o_ o_).mono (λe w' h=>h.out o));rw[<- aN] at G;clear C hz hn aN;generalize Jv (Ob D X)=z at *;obtain⟨bR,bS⟩:=bM;go_wp2_with fail
     refine aF.mono ?_;rintro e w8 ⟨rfl,bC⟩;obtain rfl:=bC.symm;clear aF;go_wp2_with fail
     refine G.mono ?_;rintro e w9 ⟨a9,c9,rfl,h9⟩;have aD:=Pz _ 0 _ _ h9.ow;have bH:=x1_ h9.bl;generalize (Mm D X).length=n9 at *;clear h9 G g;go_wp2;go_ret;exact⟨rfl,bH⟩
def Zc4 n o r t u j k X D w (m:w.heap[n]? =some (.cells #[P_ o] 110 (0,0)))(h:So w o r t u j k X D)(p:0<D.bs.length)(d:∀K∈D.ks,od K)(a:D.ks.length<=4)(f:∀b∈D.bs,ZdX b)(i:D.bs.length<=4)(c:X.length<=4000)(g:∀b∈Ob D X,0<=b/\b<256):C_ 34 #[.pointer (some ⟨n,0,none⟩)] w λe w'=>e=.returned (.string (strOfNums (Mm D X)))/\Below w.heap.size w w':=by
 have v:=cR_ 0 m
 have q:=Zfg _ _ _ _ _ _ X D w h p d a f i c g
 clear m h p d a f i c g
 generalize strOfNums (Mm D X)=sb at *;go_enter Tryz.func34,Tryz.ntmps34;go_wp2_with fail
 refine q.mono ?_;rintro e x ⟨rfl,l⟩;have s:=x1_ l;clear l;go_wp2;go_ret;exact⟨rfl,s⟩
def kj n d w:C_ 330 #[.agg #[.int .i64 n,.int .i64 d]] w λe w'=>e=.returned (.int .i64 d)/\Below w.heap.size w w':=by go_enter Tryz.func330,Tryz.ntmps330;go_wp2;go_ret;exact⟨rfl,bA_⟩
def Zbe{f}(a:∀t,f t<=1) b:∀c r,r<c->Pk f b c/2^r%2=f (b+r)
 |0,r,h=>o_
 | c +1,r,h=>by
  simp only[Pk]
  by_cases e:r=c
  ·subst e;have h1:=Vk a b r
   grind [Nat.add_mul_div_right,Nat.div_eq_of_lt]
  have hr:r<c:=o_;have ih:=Zbe a b c r hr
  have h3:f (b+c)*2^c=f (b+c)*2^(c-r-1)*2*2^r:=by
   have:(2:Nat)^c=2^(c-r-1)*2*2^r:=by rw[Nat.mul_assoc,<- Nat.pow_succ',<- Nat.pow_add];congr 1;omega
   grind
  grind [Nat.add_mul_div_right]
def Zfe{f}(a:∀t,f t<=1){T t}(h:t<T):Hd f T (t/8)/2^(t%8)%2=f t:=by grind [Hd,Zbe]
def Zbf{f} n b:∀c,(∀i,i<c->f (b+i)=n/2^i%2)->Pk f b c=n%2^c
 |0,_=>by simp[Pk,Nat.mod_one]
 |c+1,h=>by simp only[Pk];rw[Zbf n b c (λi hi=>h i o_),h c o_,Nat.mod_pow_succ,Nat.mul_comm (2^c)]
def Zfc N {d a}(h:N.getD a 0<2^d):Pk (Ds N d) (a*d) d=N.getD a 0:=by
 rw[Zbf (N.getD a 0) (a*d) d (λi hi=>?_),Nat.mod_eq_of_lt h];unfold Ds;have b:(a*d+i)/d=a:=by rw[Nat.mul_comm,Nat.mul_add_div o_,Nat.div_eq_of_lt hi,Nat.add_zero]
 grind [Nat.mul_comm,Nat.mul_add_mod,Nat.mod_eq_of_lt]
def Zgy n (h₀:0<=n)(h₁:n<2^8):IntKind.i64.wrap n=n:=Cb o_ o_
def Zjs(a b:Nat)(ha:a<256)(hb:b<256):bits .or .i64 a b=(a|||b:Nat):=(bits_nat .i64 8 d_ Zgy a b o_ o_).2
def ZaN B q n d l T b f w (A:Zak w 0 B q n d (Cd f l T))(hf:∀t,f t<=1)(hd:d<=6)(M:b*d+d<=T)(hT:T<=8*l)(aA:T<=2000):C_ 323 #[.pointer (some ⟨B,0,none⟩),.int .i64 b] w λe w'=>e=.returned (.int .i64 (Pk f (b*d) d:Nat))/\Below w.heap.size w w':=by
 have HD:=x1_ A;have V:=x1_ hf;have H:=Gp f l T;have b0:=cR_ 0 A.blk;have b1:=cR_ 1 A.blk
 have b2:w.cell? (A_ B 2)=some (L_ q l l):=by
  have h1:=cR_ 2 A.blk
  grind
 have c:=(Qb A.blk).1;have HW:=x1_ kj;obtain⟨P,Y⟩:=ex_ (b*d);have q0:b*d=(P:Int):=(by rw[Y];simp);rw[<- Y] at M ⊢;have a6:_=(P:Int):=Cb o_ o_;have a0:Hid (Cd f l T=_/\_):=⟨rfl,H⟩;clear A hf Y H;go_enter Tryz.func323,Tryz.ntmps323;go_wp2_with fail
 refine(HW _ _ _).mono ?_;rintro e w1 ⟨rfl,a⟩;have c0:=(a.cell (p:=(A_ B 0)) c).trans b0;have c1:=(a.cell (p:=(A_ B 1)) c).trans b1;have W:=Qh c a.size;have s:=x1_ a;clear a;go_wp2_with fail
 refine(HW _ _ _).mono ?_;rintro e w2 ⟨rfl,E⟩;have o:=x1_ (s.trans (E.mono s.size));clear E c0 c1 W s;have c2:=(o.cell (p:=(A_ B 2)) c).trans b2;go_wp2_with fail
 go_loopw [5,21] (λtn ti wr=>∃(i m:Nat),tn=.int .i64 (m:Nat)/\ti=.int .i64 i/\i<=d/\Hid (m=Pk f P i)/\Hid (w2=wr)) (λ_ ti _=>d-(intOf ti).toNat)
 case atStart=>exact⟨0,0,rfl,rfl,qg_,rfl,rfl⟩
 case round=>
  obtain⟨i,m,rfl,rfl,hi,g,hw⟩:=hrel;have S:=hw.out;subst S;clear hw
  by_cases hid:i<d
  ·obtain⟨j,F⟩:=ex_ (P+i);obtain⟨J,hJ⟩:=ex_ (j/8);obtain⟨R,hR⟩:=ex_ (j%8);have I:J<l:=o_;have L:=Tz f T I;obtain⟨q',a1,U,cf⟩:=HD.row.atK rfl (k:=J) (by rw[a0.2];exact I);have X:q'=q:=w_;subst X;rw[L] at cf;have a5:=(o.cell (p:=(A_ q' J)) U).trans cf;obtain⟨y,Q⟩:=ex_ (Hd f T J);have x:y<256:=(by rw[Q];exact fm V T J);rw[<- Q] at a5;obtain⟨C,v⟩:=ex_ (f j);have O:y/2^R%2=C:=(by rw[Q,hJ,hR,v];exact Zfe V o_);have a:C<=1:=o_;have N:m<2^i:=(by rw[g];exact Vk V _ _);have a2:_^i<=2^5:=Nat.pow_le_pow_right d_ o_;obtain⟨z,hz⟩:=ex_ (C*2^i);have a3:_<=1*2^i:=Nat.mul_le_mul_right _ a;have r:z<256:=o_
   have D:Hid (m+z=Pk f P (i+1)):=by show m+z=Pk f P i+f (P+i)*2^i;rw[<- g,hz,v,F]
   have q1:P+i=(j:Int):=o_;have q2:(j:Int).tdiv 8=J:=w_;have q3:j/8=(J:Int):=o_;have q4:(j:Int).tmod 8=R:=w_;have q5:j%8=(R:Int):=o_
   have q6:bits BinOp.and IntKind.u8 (y/2^R) 1=C:=by
    have e:(y/2^R)=((y/2^R:Nat):Int):=s_;rw[e];have h1:=(Zcx (y/2^R) 1 (Nat.lt_of_le_of_lt (Nat.div_le_self _ _) x) d_).1
    grind
   have q7:_=(j:Int):=Cb o_ o_;have q8:_=(J:Int):=Cb o_ o_;have q9:IntKind.i64.wrap (C*2^i)=z:=(by grind [Cb]);have Z:bits BinOp.or IntKind.i64 m z=(m+z:Nat):=by rw[Zjs m z o_ r,hz,Zih N]
   obtain⟨u,hu⟩:=ex_ (m+z);rw[<- hu] at Z D;have a8:0<=(R:Int):=o_;have aE:(R:Int)<=8:=o_;have a9:0<=(i:Int):=o_;have aF:i<(d:Int):=o_;have aD:(i:Int)<=64:=o_;have a7:0<=(J:Int):=o_;have aB:J<(l:Int):=o_;clear a3 O N a2 hz hu Q v hJ hR F L cf g a1;go_wp2;go_roundw;case rel=>exact⟨i+1,u,rfl,g_,o_,D,True.intro⟩
   case measure=>exact z_
  have aC:¬i<(d:Int):=o_;have G:i=d:=o_;have a4:Hid (m=Pk f P d):=w_;clear G g;go_wp2;go_ret;rw[<- a4];exact⟨rfl,o⟩
structure ed(D:Zg)(f bi p):Prop where
 hb:bi<D.bs.length
 hp:p<(D.bs.getD bi Dx).fs.length
 at_:(D.bs.getD bi Dx).fs.getD p 0=f
 no:∀i j,i<=bi->j<(D.bs.getD i Dx).fs.length->(i<bi∨j<p)->(D.bs.getD i Dx).fs.getD j 0≠f
 fl:∀i,i<=bi->(D.bs.getD i Dx).fs.length<=100
 fk:∀i j,i<=bi->j<(D.bs.getD i Dx).fs.length->(D.bs.getD i Dx).fs.getD j 0<D.ks.length
 mn:∀i,i<D.ks.length->(D.ks.getD i Ay).many<=100
def Nj(D:Zg)(i j:Nat):Nat:=1+Dv D.ks ((D.bs.getD i Dx).fs.take j)
def zx Ks:∀fs:List Nat,(∀f∈fs,(Ks.getD f Ay).many<=100)->Dv Ks fs<=100*fs.length
 |[],_=>by simp[Dv]
 | f::fs,h=>by
  have h1:=zx _ fs (λx hx=>h x (by simp[hx]))
  grind [Dv]
def ZiF db f c p vK vB vX a7 n X D w (h:So w db vK vB vX a7 n X D)(hs:ed D f c p)(aM:D.bs.length<=1000):C_ 145 #[.pointer (some ⟨db,0,none⟩),.int .i64 f] w λe w'=>e=.returned (.tuple #[.agg #[(n.getD c Oi).1,(n.getD c Oi).2],.int .i64 (Nj D c p:Nat)])/\Below w.heap.size w w':=by
 have HM:=x1_ h;have o:=x1_ hs;obtain⟨qb,cB,a4,aG,_,_⟩:=h.ds.bn.at (i:=0) (by have:=hs.hb;omega);subst a4;have F:0<D.ks.length:=(by have:=hs.fk c p qa_ hs.hp;omega);obtain⟨qk,cK,_,_,_,_,aA,k,_⟩:=h.kn.at (i:=0) F;subst aA;have d1:=cR_ 1 h.ds.blk;have d0:=cR_ 0 h.ds.blk;have a0:=(Qb h.ds.blk).1;clear h hs;generalize hnb:D.bs.length=nb at *;generalize hnk:D.ks.length=nk at *;have HN:=x2_ hnb hnk;clear hnb hnk;go_enter Tryz.func145,Tryz.ntmps145;go_wp2_with fail
 go_loopw [13] (λti wr=>∃(i:Nat) (u0 u1:Value),ti=.int .i64 i/\i<=c/\Hid (wr.heap[w.heap.size]? =some (.cells #[u0,u1] 163 (0,0))/\E_ w wr)) (λti _=>nb-(intOf ti).toNat)
 case atStart=>exact⟨0,.slice _ 0 0,.nilIface,rfl,qg_,hn_,bA_⟩
 case round=>
  obtain⟨i,u0,u1,rfl,l,a⟩:=hrel;have a9:i<nb:=(by have:=o.hb;have:=HN.1;omega);have S:i<D.bs.length:=(by rw[HN.1];exact a9);obtain⟨q',c',a3,N,L,M⟩:=HM.ds.bn.at S;have a6:q'=qb:=w_;subst a6;obtain⟨hI,t⟩:=HM.ds.bn.each i S;obtain⟨Q,b,r⟩:=hI.shape;obtain⟨C,E,A⟩:=t.iface;rw[Aw] at r;rw[r] at L hI;rw[A] at M;have R:=x2_ r A;have e0:=(a.2.cell (p:=(A_ q' (i*2))) N).trans L;have e1:=(a.2.cell (p:=(A_ q' (i*2+1))) N).trans M;have r0:_=some u0:=cq_ 0 _ _ _ a.1;have r1:_=some u1:=cq_ 1 _ _ _ a.1;have f0:=fq_ 0 _ _ a.1;have f1:=fq_ 1 _ _ a.1;have HI:=x1_ hI;have aO:=o.fl i l;have aJ:0<=(i:Int):=o_;have aQ:i<(nb:Int):=o_
  clear r A hI t L M a3;generalize hnf:(D.bs.getD i Dx).fs.length=nf at *;have J:=x1_ hnf;clear hnf
  have I:Hid (((wr.setCell (A_ w.heap.size 0) (.slice Q nf b)).setCell (A_ w.heap.size 1) _).heap[w.heap.size]? =some (.cells #[.slice Q nf b,.iface C (P_ E)] 163 (0,0))/\E_ w ((wr.setCell (A_ w.heap.size 0) (.slice Q nf b)).setCell (A_ w.heap.size 1) (.iface C (P_ E)))):=
   ⟨ht_ 1 _ _ _ (ht_ 0 _ _ _ a.1),(a.2.setCell qa_ _).setCell qa_ _⟩
  go_upto_region 4 with fail;generalize (wr.setCell (A_ w.heap.size 0) (.slice Q nf b)).setCell (A_ w.heap.size 1) (.iface C (P_ E))=w2 at *;clear r0 r1 f0 f1 e0 e1 a;have s0:=cR_ 0 I.1;go_wp2_with fail
  obtain⟨wl,a8⟩:∃wl,wl=wr:=⟨wr,rfl⟩;subst a8;go_loopw [5,20] (λtof tj wr=>∃(j:Nat),tof=.int .i64 (Nj D i j:Nat)/\tj=.int .i64 j/\j<=nf/\(i=c->j<=p)/\Hid (wr.heap[w.heap.size]? =some (.cells #[.slice Q nf b,.iface C (.pointer (some ⟨E,0,none⟩))] 163 (0,0))/\E_ w wr)) (λ_ tj _=>nf-(intOf tj).toNat)
  case atStart=>exact⟨0,rfl,rfl,qg_,λ_=>qg_,I⟩
  case round=>
   clear I s0;obtain⟨j,rfl,rfl,hj,m,a⟩:=hrel;have r0:=cR_ 0 a.1;have r1:=cR_ 1 a.1;have f0:=fq_ 0 _ _ a.1;have f1:=fq_ 1 _ _ a.1;have aB:=a.2.size
   have aF:Nj D i j<=10001:=by
    have h1:=zx _ ((D.bs.getD i Dx).fs.take j) (λx hx=>by
     obtain⟨y,hy,rfl⟩:=List.getElem_of_mem hx;have aD:y<(D.bs.getD i Dx).fs.length:=w_;have h2:=o.fk i y l aD;have h3:(D.bs.getD i Dx).fs.getD y 0=((D.bs.getD i Dx).fs.take j)[y]:=w_;rw[h3] at h2
     exact o.mn _ h2)
    have h4:((D.bs.getD i Dx).fs.take j).length<=100:=w_;unfold Nj;omega
   by_cases hjn:j<nf
   ·have s:j<(D.bs.getD i Dx).fs.length:=(by rw[J];exact hjn);have G:=HI.below a.2;obtain⟨qf,aE,aH,_,y0,_⟩:=G.atK (by rw[Aw];exact J) hjn;rw[Cv] at y0;subst aE;have H:=o.fk i j l s;rw[HN.2] at H
    have O:Hid (Nj D i (j+1)=Nj D i j+(D.ks.getD ((D.bs.getD i Dx).fs.getD j 0) Ay).many):=by
     show 1+Dv D.ks ((D.bs.getD i Dx).fs.take (j+1))=1+Dv D.ks ((D.bs.getD i Dx).fs.take j)+_
     have a2:∀(B:List Nat),j<B.length->B.take (j+1)=B.take j++[B.getD j 0]:=λB hB=>by rw[Qi hB];grind
     have this:=a2 _ s;rw[this,um];omega
    have aI:0<=(j:Int):=o_;have aN:j<(nf:Int):=o_
    by_cases hgf:(D.bs.getD i Dx).fs.getD j 0=f
    ·have d:i=c:=by
      by_cases e:i=c
      exact e;exact absurd hgf (o.no i j l s (.inl o_))
     have u:j=p:=by
      have h1:=m d
      by_cases e:j=p
      exact e;exact absurd hgf (o.no i j l s (.inr o_))
     have U:((D.bs.getD i Dx).fs.getD j 0:Nat)=(f:Int):=(by rw[hgf]);rw[U] at y0;have z:Hid ((.agg #[(n.getD c Oi).1,(n.getD c Oi).2]:Value)=.agg #[L_ qf nf b,.iface C (P_ E)]/\Nj D c p=Nj D i j):=(by rw[<- d,<- u];exact⟨by rw[R.1,R.2],rfl⟩);have HB:Hid (Below _ w ((wr.setCell (A_ w.heap.size 0) (L_ qf nf b)).setCell (A_ w.heap.size 1) (.iface C (P_ E)))):=(a.2.setCell qa_ _).setCell qa_ _;clear hgf U d u m H O G;generalize Nj D i j=oo at *;go_wp2;refine bodyPost_ret (v:=.tuple #[.agg #[L_ qf nf b,.iface C (P_ E)],I_ (oo:Nat)]) (by simp[results,Tryz.results145,go_sem, *]) rfl ?_;rw[z.1,z.2];exact⟨rfl,HB⟩
    have aK:(((D.bs.getD i Dx).fs.getD j 0:Nat)==(f:Int))=false:=beq_eq_false_iff_ne.2 (λe=>hgf o_);have T:(D.bs.getD i Dx).fs.getD j 0<D.ks.length:=(by rw[HN.2];exact H);have aL:=o.mn _ T;obtain⟨ab,cb,aw,cw,_,L,M,k2,_,_,_⟩:=HM.kn.at2 (i:=(D.bs.getD i Dx).fs.getD j 0) T
    have Z:i=c->j+1<=p:=λe=>by
     have h1:=m e
     by_cases e2:j=p
     subst e2;subst e;exact absurd o.at_ hgf;omega
    generalize (D.bs.getD i Dx).fs.getD j 0=g at *;have e0:=(a.2.cell (p:=(A_ qk (g*4))) k).trans L;have e1:=(a.2.cell (p:=(A_ qk (g*4+1))) k).trans M;have e2:=(a.2.cell (p:=(A_ qk (g*4+2))) k).trans k2;have aC:=(a.2.cell (p:=(A_ db 0)) a0).trans d0;have Y:=KS.many_eq (D.ks.getD g Ay)
    have V:Hid (∀W:World,C_ 146 #[.agg #[.bool (D.ks.getD g Ay).e.wd,.slice ab (D.ks.getD g Ay).e.bs.length cb,.slice aw (D.ks.getD g Ay).e.ww.length cw]] W λe w'=>e=.returned (.int .i64 (D.ks.getD g Ay).many)/\E_ W w'):=λW=>by rw[<- Y];exact Jk _ _ _ _ _ _ _ W o_
    clear Y L M k2 G hgf m;generalize D.ks.getD g Ay=Kg at *;generalize Kg.e.wd=kwd at *;generalize Kg.e.bs.length=knb at *;generalize Kg.e.ww.length=knw at *;generalize Kg.many=km at *;generalize Nj D i j=oo at *;have aP:0<=(g:Int):=o_;have aS:g<(nk:Int):=o_;go_wp2_with fail
    refine(V _).mono ?_;rintro e w5 ⟨rfl,q⟩;have P:=q;have a5:=x2_ ((q.block _ (Qb a.1).1).trans a.1) (a.2.trans (q.mono aB));clear q P a r0 r1 f0 f1 e0 e1 e2 aC V y0;go_wp2;go_roundw;case rel=>exact⟨j+1,by rw[O];go_num,g_,o_,Z,a5⟩
    case measure=>exact z_
   have aR:¬j<(nf:Int):=o_
   have d:i<c:=by
    by_cases e:i=c
    have h1:=m e;have h2:=o.hp;rw[<- e,J] at h2;omega;omega
   have a1:_:=a;clear r0 r1 f0 f1;go_wp2;go_roundw;case rel=>exact⟨i+1,_,_,g_,o_,a1⟩
   case measure=>exact z_
def My.below{w e f g D}(h:My w f g D)(b:Below w.heap.size w e):My e f g D:=by obtain⟨i,j,k,c,d,X,a⟩:=h.md;exact⟨(b.block _ (Qb h.gp).1).trans h.gp,i,j,k,c,d,X,a.ds.below b,a.kn.below b,a.perm,a.sorted⟩
def ZaY d i f a D x w (h:My w d i D)(H:0<D.bs.length)(v:D.ks.length<=1000)(R:a<(D.bs.getD 0 Dx).N.length)(B:(D.bs.getD 0 Dx).N.length<=1000)(E:f<D.ks.length)(z:∀W:World,My W d i D->C_ 78 #[.pointer (some ⟨i,0,none⟩),.int .i64 a,.int .i64 f] W λe w'=>e=.returned (.int .i64 (x:Nat))/\Below W.heap.size W w'):C_ 44 #[.pointer (some ⟨d,0,none⟩),.int .i64 a,.int .i64 f] w λe w'=>e=.returned (.tuple #[.int .i64 x,.int .i64 0])/\Below w.heap.size w w':=by
 have A:=cR_ 0 h.gp;have r:=(Qb h.gp).1;have s:=x1_ h;have n:=x1_ z
 have m:Hid (∀W:World,My W d i D->C_ 52 #[.pointer (some ⟨d,0,none⟩),.int .i64 f] W λe w'=>e=.returned (.bool true)/\w'=W):=λW hW=>by have u:=Ie d i D (f:Int) W hW v;have C:decide (0<=(f:Int)/\f<=(D.ks.length:Int)-1)=true:=t_;rw[C] at u;exact u
 obtain⟨J,L,Q,G,F,X,y⟩:=h.md;have t:=Nq _ _ _ _ _ _ X w y.ds H;clear h y z v E;generalize (D.bs.getD 0 Dx).N.length=nr at *;have o:0<=(a:Int):=o_;have k:a<=(nr:Int)-1:=o_;go_enter Tryz.func44,Tryz.ntmps44;go_wp2_with fail
 refine t.mono ?_;rintro e M ⟨rfl,c⟩;have b:=x1_ c;have I:=(c.cell (p:=(A_ d 0)) r).trans A;clear c t;go_wp2_with fail
 refine(mj _ _ _ _ ⟨o,k⟩).mono ?_;rintro e S ⟨rfl,l⟩;obtain rfl:=l.symm;go_wp2_with fail
 refine(m _ (s.below b)).mono ?_;rintro e O ⟨rfl,q⟩;obtain rfl:=q.symm;go_wp2_with fail
 refine(n _ (s.below b)).mono ?_;rintro e P ⟨rfl,g⟩;have j:=x1_ (b.trans (g.mono b.size));clear g;go_wp2;go_ret2
 exact⟨rfl,j⟩
def Lk{n wd}{sc}:∀l s k {z p},Ca n wd sc s l k=.error (z,p)->z=2∨z=3
 |[],s,k,z,p,h=>by cases h
 | c::r,s,k,z,p,h=>by
  unfold Ca at h
  cases ht:Cw n wd sc s c with
  |error y=>rw[ht] at h;injection h with h;injection h with h1 h2;rw[<- h1];exact uk ht
  |ok s1=>rw[ht] at h;exact Lk r _ _ h
def ZcG b:(Aq b).length=b.size:=by unfold Aq;rw[List.length_map];rfl
structure uy(lw)(m)(wd:Nat->Bool)(ct:Nat->Int)(bins)(size)(s:RS):Prop where
 wok:(∃i,i<m+1/\wd i=true)->ZgM lw
 ok:∀i,i<m+1->Ol (Ck lw (wd i) (ct i) bins size (s.cols i) s.ws)/\(Ck lw (wd i) (ct i) bins size (s.cols i) s.ws).wd=wd i/\(Ck lw (wd i) (ct i) bins size (s.cols i) s.ws).cnt<=16
 num:∀i,i<m+1->∀v∈s.cols i,(-1000000000<=v.num/\v.num<=1000000000)/\v.word.size<=8
 ws:∀z∈s.ws,0<=z/\z<=99
section
variable {w wr:World} {K:Nat->Prop} {ib tb rb fb cb m:Nat} {wd:Nat->Bool} {sc ct:Nat->Int} {bins:Int} {size budget:Nat}
end
structure Sk(m)(wd:Nat->Bool)(sc ct:Nat->Int)(bins:Int)(size budget:Nat):Prop where
 hm:m+1<=4
 sc:∀i,i<m+1->0<=sc i/\(wd i=false->sc i<=3)
 ct:∀i,i<m+1->wd i=true->1<=ct i
 b1:2<=bins
 b2:bins<=16
 s1:bins<=size
 s2:size<=32
 bu:budget<=20
def Db(w w':World)(o:Nat->Nat)(t:Nat)(k:Nat):Nat:=if k<w.heap.size then o k else if k<w'.heap.size then t else 99
def Ep w w' o t:Dr w o (Db w w' o t):=λk hk=>.inr (by unfold Db;rw[if_pos hk])
def Kt{w a o t k}(c:w.heap.size<=k)(b:k<a.heap.size):Db w a o t k=t:=by unfold Db;grind
def Dz{w b o t k}(a:k<w.heap.size):Db w b o t k=o k:=by unfold Db;rw[if_pos a]
def InX.keep{w w' K M ib tb rb fb cb n wd sc ct bins size budget s len S}(h:InX w K M ib tb rb fb cb n wd sc ct bins size budget s len)(t:Aa S w w')(hs:∀k,K k∨M k∨k=ib∨k=tb->¬S k):InX w' K M ib tb rb fb cb n wd sc ct bins size budget s len:=
 ⟨t.at_ h.ik (hs _ (.inr (.inr (.inl rfl)))),t.at_ h.tx (hs _ (.inr (.inr (.inr rfl)))),h.rd.touch t (λk hk=>hs k (hk.elim .inl (λe=>.inr (.inl e)))),h.ni,h.nt⟩
section
variable {w w':World} {o o':Nat->Nat} {t ib yb fk fc m:Nat} {wd:Nat->Bool} {sc ct:Nat->Int} {bins:Int} {size budget:Nat} {T b:ByteArray} {cl:Bool}
def Mf(m:Nat)(wd:Nat->Bool)(sc:Nat->Int)(T:ByteArray):Except (Int×Nat) RS:=Ca (m+1) wd sc RS.start (Aq T) 0
def Oq(w:World)(o:Nat->Nat)(t ib m:Nat)(wd:Nat->Bool)(sc ct:Nat->Int)(bins:Int)(size budget:Nat)(T:ByteArray)(cl:Bool):Prop:=
 o ib=t/\ib<w.heap.size/\((cl=true/\∃z p,Sl w ib true z p)∨(cl=false/\∃z p,Mf m wd sc T=.error (z,p)/\Sl w ib false z p)∨
 (cl=false/\∃s K M tb rb fb cb,Mf m wd sc T=.ok s/\InX w K M ib tb rb fb cb (m+1) wd sc ct bins size budget s T.size/\(∀k,K k∨M k->k<w.heap.size/\o k=t)/\o tb=t))
def Oq.keep{S}(h:Oq w o t ib m wd sc ct bins size budget T cl)(b:Aa S w w')(i:∀k,k<w.heap.size->S k->o k≠t)(l:Dr w o o')(n:t≠99):Oq w' o' t ib m wd sc ct bins size budget T cl:=by
 obtain⟨d,c,j⟩:=h
 have f:∀k,k<w.heap.size->o k=t->o' k=t:=λk hk e=>by
  rcases l k hk with a|a
  omega;omega
 refine⟨f _ c d,Qh c b.size,?_⟩
 rcases j with⟨e,z,p,hd⟩|⟨e,z,p,hs2,hd⟩|⟨e,s,K,M,tb,rb,fb,cb,hs2,hx,hk,ht⟩
 exact .inl ⟨e,z,p,b.at_ hd (λa=>i _ c a d)⟩;exact .inr (.inl ⟨e,z,p,hs2,b.at_ hd (λa=>i _ c a d)⟩);have g:=(Qb hx.tx).1;refine .inr (.inr ⟨e,s,K,M,tb,rb,fb,cb,hs2,hx.keep b (λk hk2 a=>?_),λk hk2=>⟨Qh (hk k hk2).1 b.size,f k (hk k hk2).1 (hk k hk2).2⟩,f _ g ht⟩)
 grind
def Ws(m:Nat)(wd:Nat->Bool)(sc:Nat->Int)(T b:ByteArray)(cl:Bool):ByteArray:=if cl=true then T else match Mf m wd sc T with
 |.error _=>T
 |.ok _=>T++b
def fdZ(m:Nat)(wd:Nat->Bool)(sc:Nat->Int)(T:ByteArray)(cl:Bool):Int×Int:=if cl=true then(1,0) else Nr (Mf m wd sc T)
def ZcF T b:Aq (T++b)=Aq T++Aq b:=by unfold Aq;rw[ByteArray.data_append];simp
def feedX(r:Sk m wd sc ct bins size budget)(h:Oq w o t ib m wd sc ct bins size budget T cl)(B:t≠99)(R:T.size+b.size<=200000000000000):C_ 32 #[.pointer (some ⟨ib,0,none⟩),.string b] w λe w'=>e=.returned (.tuple #[.int .i64 (fdZ m wd sc (Ws m wd sc T b cl) cl).1,.int .i64 (fdZ m wd sc (Ws m wd sc T b cl) cl).2])/\Oq w' (Db w w' o t) t ib m wd sc ct bins size budget (Ws m wd sc T b cl) cl/\Aa (λk=>o k=t) w w':=by
 have A:=h;obtain⟨D,C,G⟩:=h;have f:∀i,_->_->_/\_:=λi hi hw=>⟨(r.sc i hi).1,(r.sc i hi).2 hw⟩;have I:=r.hm
 rcases G with⟨e,z,p,hd⟩|⟨e,z,p,hs2,hd⟩|⟨e,s,K,M,tb,rb,fb,cb,hs2,hx,hk,ht⟩
 subst e;refine(ZaR b _ z p w hd).mono ?_;rintro e w' ⟨rfl,rfl⟩;have j:Ws m wd sc T b true=T:=rfl;rw[j];exact⟨rfl,A.keep (S:=λ_=>False) (Aa.refl _ _) (λ_ _ e=>e.elim) (Ep _ _ _ _) B,Aa.refl _ _⟩;subst e;have J:=Lk _ _ _ hs2;refine(ZcU b _ z p w hd J).mono ?_;rintro e w' ⟨rfl,x,rfl⟩;have j:Ws m wd sc T b false=T:=(by unfold Ws;rw[hs2];rfl);have u:fdZ m wd sc T false=(z,(p:Int)):=(by unfold fdZ;rw[hs2];rfl);have l:E_ w _:=below_drewN bz_ x;rw[j,u];exact⟨rfl,A.keep (S:=λ_=>False) (.of_below l) (λ_ _ e=>e.elim) (Ep _ _ _ _) B,.of_below l⟩
 subst e;have j:Ws m wd sc T b false=T++b:=by unfold Ws;rw[hs2];rfl
 have a:Mf m wd sc (T++b)=Ca (m+1) wd sc s (Aq b) T.size:=(by grind [Mf,ZcF,Jf,ZcG]);have u:fdZ m wd sc (T++b) false=Nr (Ca (m+1) wd sc s (Aq b) T.size):=(by unfold fdZ;rw[a];rfl);rw[j,u];refine(Zhz b hx (Ht.takes o_ f _ (Ht.start o_) hs2) o_ I f o_).mono ?_;rintro e w' ⟨rfl,n,c⟩;have y:=(Qb hx.tx).1
 have d:=c.mono (λk _ hq=>by
  rcases hq with q|q|q
  exact(hk k (.inr q)).2;subst q;exact D
  grind)
 refine⟨rfl,⟨(Dz C).trans D,Qh C c.size,?_⟩,d⟩
 cases hq:Ca (m+1) wd sc s (Aq b) T.size with
 | error q=>
  obtain⟨z,p⟩:=q;rw[hq] at n;exact .inr (.inl ⟨rfl,z,p,by rw[a,hq],n⟩)
 | ok s'=>
  rw[hq] at n;obtain⟨H,v,L⟩:=n;have F:(T++b).size=_:=ByteArray.size_append;refine .inr (.inr ⟨rfl,s',K,H,tb,rb,fb,cb,by rw[a,hq],w_,λk hkm=>?_,(Dz y).trans ht⟩)
  have g:k<w'.heap.size:=by
   obtain⟨N,Q,O,P,E⟩:=v.rd
   rcases hkm with q|q
   exact Qh (hk k (.inl q)).1 c.size;exact E.ml k q
  refine⟨g,?_⟩
  by_cases hkl:k<w.heap.size
  ·grind [Dz]
  exact Kt o_ g
end
def ZaC x y r W:C_ 373 #[.agg #[.int .i64 (x:Nat),.int .i64 (y:Nat)],.int .i64 (r:Nat)] W λe w'=>e=.returned (.int .i64 (Lib.compareInt x r))/\Below W.heap.size W w':=by
 have b:Hid (∀w:_,Calls _ _ #[.int _ (x:_),.int _ (r:_)] w λe w'=>_):=λw=>Tryz.cmp_Compare_int _ _ w;generalize Lib.compareInt (x:Nat) (r:Nat)=c1 at *;go_enter Tryz.func373,Tryz.ntmps373;go_wp2_with fail
 refine(b _).mono ?_;rintro e c ⟨rfl,a⟩;obtain rfl:=a.symm;go_wp2;go_ret;exact⟨rfl,bA_⟩
def Zej x r:Lib.compareInt (x:Nat) (r:Nat)<0↔x<r:=by unfold Lib.compareInt;omega
def Zei x r:Lib.compareInt (x:Nat) (r:Nat)=0↔x=r:=by unfold Lib.compareInt;omega
structure ZgH(L:List (Nat×Nat))(r i):Prop where
 le:i<=L.length
 lo:∀k,k<i->(L.getD k (0,0)).1<r
 hi:∀k,i<=k->k<L.length->r<=(L.getD k (0,0)).1
def Mq(L:List (Nat×Nat))(r i:Nat):Bool:=decide (i<L.length/\(L.getD i (0,0)).1=r)
def ZlF(W:World)(L:List (Nat×Nat))(r:Nat)(e:Ending)(w':World):Prop:=∃i,e=.returned (.tuple #[I_ (i:Nat),.bool (Mq L r i)])/\ZgH L r i/\Below W.heap.size W w'
def Zfr a c r L w (h:Ui w 0 (.slice a L.length c) L)(R:L.Pairwise (λx y=>x.1<y.1))(V:L.length<=1000000):C_ 372 #[.slice a L.length c,.int .i64 (r:Nat),.func (.func 373) #[] #[]] w λe w'=>ZlF w L r e w':=by
 have G:=x1_ h
 have I:Hid (∀i j,i<j->j<L.length->(L.getD i (0,0)).1<(L.getD j (0,0)).1):=λi j C hj=>by grind [List.pairwise_iff_getElem]
 have H:=x1_ (λx y W=>ZaC x y r W);clear h R;generalize hnl:L.length=n at *;have d:=x1_ hnl;clear hnl;go_enter Tryz.func372,Tryz.ntmps372;go_wp2_with fail
 go_loopw [9,10] (λti tj wr=>∃(i j:Nat),ti=.int .i64 i/\tj=.int .i64 j/\i<=j/\j<=n/\Hid ((∀k,k<i->(L.getD k (0,0)).1<r)/\(∀k,j<=k->k<n->r<=(L.getD k (0,0)).1)/\E_ w wr)) (λti tj _=>(intOf tj).toNat-(intOf ti).toNat)
 case atStart=>exact⟨0,n,rfl,rfl,qg_,qa_,λk hk=>o_,λk t h2=>o_,bz_⟩
 case round=>
  obtain⟨i,j,rfl,rfl,C,o,b⟩:=hrel
  by_cases hlt:i<j
  ·have T:i<(j:Int):=o_;have F:(i+j)/2<n:=o_;obtain⟨q,A,f,z,u⟩:=(show Ui w 0 (.slice a L.length c) L by rw[d];exact G).atK (k:=(i+j)/2) (by rw[d];exact F);have e0:=(b.2.2.cell (p:=(A_ q ((i+j)/2*2))) f).trans z;have B:=(b.2.2.cell (p:=(A_ q ((i+j)/2*2+1))) f).trans u;clear z u;subst A;generalize hmm:(i+j)/2=m at *;have O:(i+j)/2=(m:Int):=o_;have Q:0<=(m:Int):=o_;have J:m<(n:Int):=o_;have S:=x1_ hmm;clear hmm
   have E:Hid ((∀k,k<=m->(L.getD k (0,0)).1<=(L.getD m (0,0)).1)/\(∀k,m<=k->k<n->(L.getD m (0,0)).1<=(L.getD k (0,0)).1)):=⟨λk hk=>by
    rcases Nat.lt_or_ge k m with t|t
    exact Nat.le_of_lt (I k m t F)
    grind,λk hk hkn=>by
    rcases Nat.lt_or_ge m k with t|t
    exact Nat.le_of_lt (I m k t hkn)
    grind⟩
   generalize (L.getD m (0,0)).1=xr at *;generalize (L.getD m (0,0)).2=xn at *;go_wp2_with fail
   refine(H _ _ _).mono ?_;rintro e N ⟨rfl,l⟩;have g:=x1_ (b.2.2.trans (l.mono b.2.2.size));clear l e0 B
   by_cases hx:xr<r
   ·have v:=(Zej _ r).2 hx;generalize Lib.compareInt (xr:Nat) (r:Nat)=c1 at *;go_wp2;go_roundw;case rel=>exact⟨m+1,j,g_,rfl,o_,o,λk hk=>by have:=E.1 k o_;omega,b.2.1,g⟩
    case measure=>exact z_
   have v:¬_:=λh=>hx ((Zej _ r).1 h);generalize Lib.compareInt (xr:Nat) (r:Nat)=c1 at *;go_wp2;go_roundw;case rel=>exact⟨i,m,rfl,rfl,o_,o_,b.1,λk t h2=>by have:=E.2 k t h2;omega,g⟩
   case measure=>exact z_
  have P:¬i<(j:Int):=o_;have D:i=j:=o_;subst D
  by_cases hin:i<n
  ·have M:i<(n:Int):=o_;have U:0<=(i:Int):=o_;obtain⟨q,A,f,z,u⟩:=(show Ui w 0 (.slice a L.length c) L by rw[d];exact G).atK (k:=i) (by rw[d];exact hin);have e0:=(b.2.2.cell (p:=(A_ q (i*2))) f).trans z;have B:=(b.2.2.cell (p:=(A_ q (i*2+1))) f).trans u;clear z u;subst A;have s:Hid (Mq L r i=decide ((L.getD i (0,0)).1=r)):=(by show _=_;unfold Mq;rw[d];simp[hin]);generalize (L.getD i (0,0)).1=xr at *;generalize (L.getD i (0,0)).2=xn at *;go_wp2_with fail
   refine(H _ _ _).mono ?_;rintro e N ⟨rfl,l⟩;have g:=x1_ (b.2.2.trans (l.mono b.2.2.size));clear l e0 B
   by_cases hx:xr=r
   ·have v:=(Zei _ r).2 hx;rw[v];go_wp2;go_ret2
    exact⟨i,by rw[s];simp[hx],⟨by rw[d];exact o,b.1,by rw[d];exact b.2.1⟩,g⟩
   have v:¬_:=λh=>hx ((Zei _ r).1 h);generalize Lib.compareInt (xr:Nat) (r:Nat)=c1 at *;go_wp2;go_ret2
   exact⟨i,by rw[s];simp[hx,v],⟨by rw[d];exact o,b.1,by rw[d];exact b.2.1⟩,g⟩
  have M:¬i<(n:Int):=o_;have s:Hid (Mq L r i=false):=(by show _=_;unfold Mq;rw[d];simp[hin]);go_wp2;go_ret2
  exact⟨i,by rw[s];rfl,⟨by rw[d];exact o,b.1,by rw[d];exact b.2.1⟩,b.2.2⟩
def cz N:∀k x,x∈Fu N k↔x.1<k/\x.2=N.getD x.1 0/\x.2≠0
 |0,x=>by simp[Fu]
 | k+1,x=>by
  obtain⟨x1,x2⟩:=x;rw[Fu,List.mem_append,cz N k]
  grind
def kt N:∀k,(Fu N k).Pairwise (λx y=>x.1<y.1)
 |0=>by simp[Fu]
 | k+1=>by
  rw[Fu,List.pairwise_append];refine⟨kt N k,by split<;>simp,λx hx y hy=>?_⟩
  grind [cz]
def ZhB{N k r i}(g:r<k)(h:ZgH (Fu N k) r i):(if Mq (Fu N k) r i=true then((Fu N k).getD i (0,0)).2 else 0)=N.getD r 0:=by
 have l:=kt N k;have d:=cz N k;generalize Fu N k=L at *
 by_cases h0:N.getD r 0=0
 ·grind [Mq]
 have b:(r,N.getD r 0)∈L:=(d _).2 ⟨g,rfl,h0⟩;obtain⟨p,c,e⟩:=List.getElem_of_mem b;have f:L.getD p (0,0)=(r,N.getD r 0):=w_
 have j:p=i:=by
  rcases Nat.lt_trichotomy p i with a|a|a
  ·have:=h.lo p a
   grind
  exact a;have m:=h.hi i qa_ o_
  grind [List.pairwise_iff_getElem]
 grind [Mq]
def zv l n d b B N w (h:vq w 0 l n d B (Fu N N.length))(u:b<N.length)(D:N.length<=1000000):C_ 371 #[.pointer (some ⟨l,0,none⟩),.int .i64 b] w λe w'=>e=.returned (.int .i64 (N.getD b 0:Nat))/\Below w.heap.size w w':=by
 obtain⟨a,c,rfl⟩:=h.row.shape;have v:=cR_ 2 h.blk;have o:=(Qb h.blk).1;have A:=x1_ h.row;have z:=Zfr a c b _ w h.row (kt N _) (by have:=Vy N N.length;omega);have y:Hid (∀i,ZgH (Fu N _) _ i->_):=λi g=>ZhB u g;clear h u D;generalize Fu N N.length=L at *;generalize N.getD b 0=res at *;go_enter Tryz.func371,Tryz.ntmps371;go_wp2_with fail
 refine z.mono ?_;rintro e H ⟨i,rfl,g,r⟩;have f:=y i g;have j:=x1_ r;have G:=(r.cell (p:=(A_ l 2)) o).trans v;have F:=x1_ g;clear r g v
 cases hf:Mq L b i
 ·have m:Hid (res=0):=(by rw[hf] at f;exact f.symm);clear f hf;generalize L.length=ll at *;go_wp2;go_ret;exact⟨by rw[m];rfl,j⟩
 have m:Hid (res=(L.getD i (0,0)).2):=(by rw[hf] at f;exact f.symm);have s:i<L.length:=(by simp only[Mq,decide_eq_true_eq] at hf;exact hf.1);obtain⟨q,rfl,k,C,t⟩:=A.atK s;have J:=(j.cell (p:=(A_ q (i*2+1))) k).trans t;clear f hf C t;have E:0<=(i:Int):=o_;have I:i<(L.length:Int):=o_;generalize (L.getD i (0,0)).2=x at *;generalize L.length=ll at *;go_wp2;go_ret;exact⟨by rw[m];rfl,j⟩
abbrev Ul(r f:Nat)(x:XS):Prop:=x.row<r∨x.row=r/\x.f<f
abbrev rl(r f:Nat)(x:XS):Prop:=x.row=r/\x.f=f
def Zjy x r f:Tl x ⟨r,f,0⟩<0↔Ul r f x:=by
 unfold Tl orI Ul Lib.compareInt
 grind
def Zjx x r f:Tl x ⟨r,f,0⟩=0↔rl r f x:=by
 unfold Tl orI rl Lib.compareInt
 grind
structure ZgI(L:List XS)(r f i):Prop where
 le:i<=L.length
 lo:∀k,k<i->Ul r f (L.getD k Fk)
 hi:∀k,i<=k->k<L.length->¬Ul r f (L.getD k Fk)
def Iw(L:List XS)(r f i:Nat):Bool:=decide (i<L.length/\rl r f (L.getD i Fk))
def ZlG(W:World)(L:List XS)(r f:Nat)(e:Ending)(w':World):Prop:=∃i,e=.returned (.tuple #[I_ (i:Nat),.bool (Iw L r f i)])/\ZgI L r f i/\Below W.heap.size W w'
def Zfs a c r f L w (h:Mi w 0 (.slice a L.length c) L)(hs:Fp L)(hl:L.length<=1000000):C_ 147 #[.slice a L.length c,.agg #[.int .i64 (r:Nat),.int .i64 (f:Nat),.int .i64 0],.func (.func 148) #[] #[]] w λe w'=>ZlG w L r f e w':=by
 have H0:=x1_ h
 have HS:Hid (∀i j,i<j->j<L.length->(L.getD i Fk).row<(L.getD j Fk).row∨(L.getD i Fk).row=(L.getD j Fk).row/\(L.getD i Fk).f<=(L.getD j Fk).f):=λi j O hj=>by
  have:=List.pairwise_iff_getElem.1 hs i j o_ hj O
  grind
 have HC:Hid (∀_ (W:_),Calls _ 148 #[_,.agg #[I_ (r:Nat),I_ (f:Nat),.int _ 0]] W λe w'=>_/\_):=λx W=>(Jy x ⟨r,f,0⟩ W).mono (λ_ _ h=>⟨h.1,h.2.below⟩);clear h hs;generalize hnl:L.length=n at *;have y:=x1_ hnl;clear hnl;go_enter Tryz.func147,Tryz.ntmps147;go_upto_region 1 with fail;generalize hW1:w.alloc (.cells #[I_ (r:Nat),I_ (f:Nat),I_ 0] 184)=w1;have Q:E_ w w1:=(by rw[<- hW1];exact bA_);have t:w1.heap[w.heap.size]? =some (.cells #[I_ r,I_ f,I_ 0] 184 (0,0)):=(by rw[<- hW1];exact hn_);have s:=(Qb t).1;have x0:=cR_ 0 t;have x1:=cR_ 1 t;have x2:=cR_ 2 t;have o:=x4_ Q x0 x1 x2;clear hW1 Q t x0 x1 x2;go_wp2_with fail
 go_loopw [9,10] (λti tj wr=>∃(i j:Nat),ti=.int .i64 i/\tj=.int .i64 j/\i<=j/\j<=n/\Hid ((∀k,k<i->Ul r f (L.getD k Fk))/\(∀k,j<=k->k<n->¬Ul r f (L.getD k Fk))/\E_ w1 wr)) (λti tj _=>(intOf tj).toNat-(intOf ti).toNat)
 case atStart=>exact⟨0,n,rfl,rfl,qg_,qa_,λk hk=>o_,λk A h2=>o_,bz_⟩
 case round=>
  obtain⟨i,j,rfl,rfl,O,D,g⟩:=hrel;have G:=(g.2.2.cell (p:=(A_ w.heap.size 0)) s).trans o.2.1;have E:=(g.2.2.cell (p:=(A_ w.heap.size 1)) s).trans o.2.2.1;have J:=(g.2.2.cell (p:=(A_ w.heap.size 2)) s).trans o.2.2.2;have F:=g.2.2.size;have b:=x1_ (o.1.trans (g.2.2.mono o.1.size))
  by_cases hlt:i<j
  ·have b1:i<(j:Int):=o_;have hm:(i+j)/2<n:=o_;obtain⟨q,Y,d,R,H,M⟩:=H0.atK y (k:=(i+j)/2) hm;have e0:=(b.cell (p:=(A_ q ((i+j)/2*3))) d).trans R;have N:=(b.cell (p:=(A_ q ((i+j)/2*3+1))) d).trans H;have I:=(b.cell (p:=(A_ q ((i+j)/2*3+2))) d).trans M;clear R H M;subst Y;have V:=Qh d b.size;have T:=Qh s F;generalize hmm:(i+j)/2=m at *;have a1:(i+j)/2=(m:Int):=o_;have a3:0<=(m:Int):=o_;have a0:m<(n:Int):=o_;have HM:=x1_ hmm;clear hmm
   have HX:Hid ((∀k,k<=m->Ul r f (L.getD m Fk)->Ul r f (L.getD k Fk))/\(∀k,m<=k->k<n->¬Ul r f (L.getD m Fk)->¬Ul r f (L.getD k Fk))):=⟨λk hk hb=>by
    rcases Nat.lt_or_ge k m with A|A
    have:=HS k m A hm;omega
    grind,λk hk hkn hb=>by
    rcases Nat.lt_or_ge m k with A|A
    have:=HS m k A hkn;omega
    grind⟩
   have u:=HC (L.getD m Fk);have z:=Zjy (L.getD m Fk) r f;generalize hx:Ul r f (L.getD m Fk)=P at *;generalize Tl (L.getD m Fk) ⟨r,f,0⟩=c1 at *;generalize (L.getD m Fk).row=xr at *;generalize (L.getD m Fk).f=xf at *;generalize (L.getD m Fk).bin=xb at *;have B:Hid (∀W:_,Below _ wr W->Calls _ _ _ W λe _=>_/\_):=λW hW=>(u W).mono (λ_ _ h=>⟨h.1,hW.trans (h.2.mono hW.size)⟩);clear u hx;go_upto_region 5 with fail
   go_region_held3 (λw'=>w'.cell? (A_ q (m*3))=some (I_ (xr:Nat))/\w'.cell? (A_ q (m*3+1))=some (I_ (xf:Nat))/\w'.cell? (A_ q (m*3+2))=some (I_ (xb:Nat))/\w'.cell? (A_ w.heap.size 0)=some (I_ (r:Nat))/\w'.cell? (A_ w.heap.size 1)=some (I_ (f:Nat))/\w'.cell? (A_ w.heap.size 2)=some (I_ 0)) (first|exact⟨e0,N,I,G,E,J⟩|grind [Below.cell]) (first|(go_at_call 148;refine(B _ bz_.drew).mono ?_;rintro e w3 ⟨rfl,l⟩))
   have v:=x1_ (g.2.2.trans (l.mono g.2.2.size));clear l e0 N I G E J
   by_cases hc:c1<0
   ·have X:=z.1 hc;have S:=decide_eq_true hc;go_wp2;go_roundw;case rel=>exact⟨m+1,j,g_,rfl,o_,D,λk hk=>HX.1 k o_ X,g.2.1,v⟩
    case measure=>exact z_
   have X:¬P:=λh=>hc (z.2 h);have S:=decide_eq_false hc;go_wp2;go_roundw;case rel=>exact⟨i,m,rfl,rfl,o_,o_,g.1,λk A h2=>HX.2 k A h2 X,v⟩
   case measure=>exact z_
  have a2:¬i<(j:Int):=o_;have Z:i=j:=o_;subst Z
  by_cases hin:i<n
  ·have U:i<(n:Int):=o_;have S:=decide_eq_true U;have b3:0<=(i:Int):=o_;obtain⟨q,Y,d,R,H,M⟩:=H0.atK y (k:=i) hin;have e0:=(b.cell (p:=(A_ q (i*3))) d).trans R;have N:=(b.cell (p:=(A_ q (i*3+1))) d).trans H;have I:=(b.cell (p:=(A_ q (i*3+2))) d).trans M;clear R H M;subst Y;have V:=Qh d b.size;have T:=Qh s F;have C:Hid (Iw L r f i=decide (Tl (L.getD i Fk) ⟨r,f,0⟩=0)):=by show _=_;unfold Iw;rw[y];simp only[hin,true_and,Zjx]
   have u:=HC (L.getD i Fk);generalize Tl (L.getD i Fk) ⟨r,f,0⟩=c1 at *;generalize (L.getD i Fk).row=xr at *;generalize (L.getD i Fk).f=xf at *;generalize (L.getD i Fk).bin=xb at *;have B:Hid (∀W:_,Below _ wr W->Calls _ _ _ W λe _=>_/\_):=λW hW=>(u W).mono (λ_ _ h=>⟨h.1,hW.trans (h.2.mono hW.size)⟩);clear u;go_upto_region 8 with fail;go_region_held3 (λw'=>w'.cell? (A_ q (i*3))=some (I_ (xr:Nat))/\w'.cell? (A_ q (i*3+1))=some (I_ (xf:Nat))/\w'.cell? (A_ q (i*3+2))=some (I_ (xb:Nat))/\w'.cell? (A_ w.heap.size 0)=some (I_ (r:Nat))/\w'.cell? (A_ w.heap.size 1)=some (I_ (f:Nat))/\w'.cell? (A_ w.heap.size 2)=some (I_ 0)) (first|exact⟨e0,N,I,G,E,J⟩|grind [Below.cell]) (first|(go_at_call 148;refine(B _ bz_.drew).mono ?_;rintro e w3 ⟨rfl,l⟩))
   have v:=x1_ (b.trans (l.mono b.size));clear l e0 N I G E J;go_wp2;go_ret2
   exact⟨i,by rw[C];rfl,⟨by rw[y];exact D,g.1,by rw[y];exact g.2.1⟩,v⟩
  have U:¬i<(n:Int):=o_;have S:=decide_eq_false U;have C:Hid (Iw L r f i=false):=(by show _=_;unfold Iw;rw[y];simp[hin]);clear G E J;go_upto_region 8 with fail;go_quiet (fail);go_wp2;go_ret2
  exact⟨i,by rw[C];rfl,⟨by rw[y];exact D,g.1,by rw[y];exact g.2.1⟩,below_drewN b _⟩
def xbF(X:List XS)(f row d:Nat):Nat:=
 match X.find? (λy=>decide (rl row f y)) with
 |some y=>y.bin
 |none=>d
def iy(D:Zg)(X:List XS)(f bi p row:Nat):Nat:=
 if Nj D bi p<=(D.bs.getD bi Dx).N.getD row 0/\(D.bs.getD bi Dx).N.getD row 0<Nj D bi p+(D.ks.getD f Ay).many then(D.bs.getD bi Dx).N.getD row 0-Nj D bi p
 else xbF X f row (D.ks.getD f Ay).d
def Zi5{X:List XS}{r f i d:Nat}(p:Fp X)(h:ZgI X r f i):xbF X f r d=if Iw X r f i=true then(X.getD i Fk).bin else d:=by
 unfold xbF
 have a:∀k _,X.getD k Fk=X[k]:=λk c=>by rw[Qc,Qd c];rfl
 by_cases hf:Iw X r f i=true
 rw[if_pos hf];simp only[Iw,decide_eq_true_eq] at hf;have:X.find? (λy=>decide (rl r f y))=some X[i]:=(by rw[List.find?_eq_some_iff_getElem];refine⟨by rw[<- a i hf.1];exact decide_eq_true hf.2,i,hf.1,rfl,λj hj=>?_⟩;have:=h.lo j hj;rw[a j o_] at this;unfold Ul at this;rw[Bool.not_eq_true',decide_eq_false_iff_not];unfold rl;omega);rw[this,a i hf.1];rw[if_neg hf]
 have:X.find? (λy=>decide (rl r f y))=none:=by
  rw[List.find?_eq_none];intro y o;obtain⟨k,c,rfl⟩:=List.getElem_of_mem o;simp only[decide_eq_true_eq];intro g
  rcases Nat.lt_or_ge k i with m|m
  have:=h.lo k m;rw[a k c] at this;unfold Ul at this;unfold rl at g;omega;apply hf;simp only[Iw,decide_eq_true_eq];have b:i<X.length:=o_;refine⟨b,?_⟩;have n:=h.hi i qa_ b;rw[a i b] at n ⊢
  rcases Nat.lt_or_ge i k with l|l
  have:=List.pairwise_iff_getElem.1 p i k b c l;unfold Ul at n;unfold rl at g ⊢;omega;have e:k=i:=o_;subst e;exact g
 rw[this]
def ZkD{p:Prop}(h:p:=by
 have HSE:=ZiF _ f _ p _ _ _ _ _ X D w h hs hbl;obtain⟨hI,_⟩:=h.ds.bn.each bi hs.hb;obtain⟨fa,fcc,hvf⟩:=hI.shape;have hfk:=hs.fk _ p qa_ hs.hp;rw[hs.at_] at hfk;have hmn:=hs.mn f hfk;obtain⟨qk,cK,ab,cb,aw,cw,hvK,hqkl,k0,k1,k2,k3,_⟩:=h.kn.at hfk;subst hvK;obtain⟨xa,xc,hvX⟩:=h.ds.xn.shape;subst hvX;have d0:w.cell? _=some (.slice _ _ _):=cq_ 0 _ _ _ h.ds.blk;have d2:w.cell? _=some (.slice _ _ _):=cq_ 2 _ _ _ h.ds.blk;have hdl:=(Qb h.ds.blk).1;rw[hvf,hvc] at HSE;have HAT:=x1_ hat;have HMN:=KS.many_eq (D.ks.getD f Ay)
 have HHM:Hid (∀W:World,Calls Tryz.prog 146 #[.agg #[.bool (D.ks.getD f Ay).e.wd,.slice ab (D.ks.getD f Ay).e.bs.length cb,.slice aw (D.ks.getD f Ay).e.ww.length cw]] W λe w'=>e=.returned (.int .i64 (((D.ks.getD f Ay).many:Nat):Int))/\Below W.heap.size W w'):=λW=>by rw[<- HMN];exact Jk _ _ _ _ _ _ _ W (by unfold KS.many ES.cnt at hmn;omega)
 have HXW:Hid (∀W:_,_->Mi W 0 _ X):=λW hW=>(Aa.of_below (S:=λ_=>False) hW).row h.ds.xn (λ_ _=>id);have HFX:=x1_ (λW hW=>Zfs _ _ row f X W (HXW.out W hW) h.sorted hxl);have HLF:Hid (iy D X f bi p row=if _/\_ then _ else _):=rfl;have HXB:Hid (∀i,ZgI X row f i->xbF X f row (D.ks.getD f Ay).d=_):=λi hi=>Zi5 h.sorted hi;clear HMN hvf hvc hI hs h hat hbl;generalize iy D X f bi p row=res at *;generalize (D.bs.getD bi Dx).N.getD row 0=x at *;generalize Nj D bi p=off at *;generalize (Av (D.bs.getD bi Dx).fs).length=nf at *;generalize D.ks.getD f Ay=Kf at *;generalize xbF X f row Kf.d=xres at *;generalize Kf.e.wd=kwd at *;generalize Kf.e.bs.length=knb at *;generalize Kf.e.ww.length=knw at *;generalize Kf.many=km at *;generalize Kf.d=kd at *;generalize hnk:D.ks.length=nk at *
 clear hnk;generalize hnx:X.length=nx at *;have HNX:=x1_ hnx;clear hnx;have bf1:(0:Int)<=(f:Int):=o_;have bf2:(f:Int)<(nk:Int):=o_;go_enter Tryz.func78,Tryz.ntmps78;go_wp2_with fail
 refine HSE.mono ?_;rintro e w2 ⟨rfl,hb2⟩;have HB2:=x1_ hb2;clear hb2 HSE;go_wp2_with fail
 refine(HAT.out _ (HB2.out.alloc HB2.out.size _)).mono ?_;rintro e w3 ⟨rfl,hb3⟩;have HB3:=x1_ ((HB2.out.alloc HB2.out.size _).trans (hb3.mono (by have:=HB2.out.size;simp;omega)));have d0w:=(HB3.out.cell (p:=⟨db,0,none⟩) hdl).trans d0;have d2w:=(HB3.out.cell (p:=⟨db,2,none⟩) hdl).trans d2;have e0:=(HB3.out.cell (p:=⟨qk,f*4,none⟩) hqkl).trans k0;have e1:=(HB3.out.cell (p:=⟨qk,f*4+1,none⟩) hqkl).trans k1;have e2:=(HB3.out.cell (p:=⟨qk,f*4+2,none⟩) hqkl).trans k2;clear hb3 HB2
 by_cases hlo:off<=x
 ·obtain⟨bn,hbn⟩:∃bn,bn=x-off:=⟨_,rfl⟩;have q1:(x:Int)-(off:Int)=(bn:Int):=o_;have q2:_=(bn:Int):=Cb o_ o_;have q3:(0:Int)<=(bn:Int):=o_;have HBN:=x1_ hbn;clear hbn;go_wp2_with fail
  refine(HHM.out _).mono ?_;rintro e w4 ⟨rfl,hb4⟩;have HB4:=x1_ (HB3.out.trans (hb4.mono HB3.out.size));clear hb4
  by_cases hhi:x<off+km
  ·have q4:(bn:Int)<(km:Int):=(by have:=HBN.out;omega);have HE:Hid (res=bn):=(by have:=HLF.out;rw[if_pos ⟨hlo,hhi⟩] at this;exact this.trans HBN.out.symm);go_wp2;go_ret;exact⟨by rw[HE.out];rfl,HB4.out⟩
  have q4:¬(bn:Int)<(km:Int):=(by have:=HBN.out;omega);have HE:Hid (res=xres):=(by have:=HLF.out;rw[if_neg (λh=>hhi h.2)] at this;exact this);have d2x:=(HB4.out.cell (p:=⟨db,2,none⟩) hdl).trans d2;clear d0w d2w e0 e1 e2;go_wp2_with fail
  refine(HFX.out _ HB4.out).mono ?_;rintro e w5 ⟨i,rfl,hi,hb5⟩;have HB5:=x1_ (HB4.out.trans (hb5.mono HB4.out.size));have hxb:=HXB.out i hi;have d0y:=(HB5.out.cell (p:=⟨db,0,none⟩) hdl).trans d0;have d2y:=(HB5.out.cell (p:=⟨db,2,none⟩) hdl).trans d2;have e3:=(HB5.out.cell (p:=⟨qk,f*4+3,none⟩) hqkl).trans k3;clear hb5
  cases hf:Iw X row f i
  ·have HR:Hid (res=kd):=(by rw[hf] at hxb;exact HE.out.trans hxb);clear hxb hf hi;go_wp2;go_ret;exact⟨by rw[HR.out];rfl,HB5.out⟩
  have HR:Hid (res=(X.getD i Fk).bin):=(by rw[hf] at hxb;exact HE.out.trans hxb);have hil:i<nx:=(by simp only[Iw,decide_eq_true_eq] at hf;have:=hf.1;rw[HNX.out] at this;exact this);obtain⟨q,hq,hql,_,_,y2⟩:=(HXW.out _ HB5.out).atK HNX.out hil;subst hq;have b1:(0:Int)<=(i:Int):=o_;have b2:(i:Int)<(nx:Int):=o_;clear hxb hf hi;generalize (X.getD i Fk).bin=xb at *;go_wp2;go_ret;exact⟨by rw[HR.out];rfl,HB5.out⟩
 have q1:_=(x:Int)-(off:_):=Cb o_ o_;have q3:¬(0:Int)<=(x:Int)-(off:Int):=o_;have HE:Hid (res=xres):=(by have:=HLF.out;rw[if_neg (λh=>hlo h.1)] at this;exact this);have HB4:=x1_ HB3.out;go_wp2_with fail
 refine(HFX.out _ HB4.out).mono ?_;rintro e w5 ⟨i,rfl,hi,hb5⟩;have HB5:=x1_ (HB4.out.trans (hb5.mono HB4.out.size));have hxb:=HXB.out i hi;have d0y:=(HB5.out.cell (p:=⟨db,0,none⟩) hdl).trans d0;have d2y:=(HB5.out.cell (p:=⟨db,2,none⟩) hdl).trans d2;have e3:=(HB5.out.cell (p:=⟨qk,f*4+3,none⟩) hqkl).trans k3;clear hb5
 cases hf:Iw X row f i
 ·have HR:Hid (res=kd):=(by rw[hf] at hxb;exact HE.out.trans hxb);clear hxb hf hi;go_wp2;go_ret;exact⟨by rw[HR.out];rfl,HB5.out⟩
 have HR:Hid (res=(X.getD i Fk).bin):=(by rw[hf] at hxb;exact HE.out.trans hxb);have hil:i<nx:=(by simp only[Iw,decide_eq_true_eq] at hf;have:=hf.1;rw[HNX.out] at this;exact this);obtain⟨q,hq,hql,_,_,y2⟩:=(HXW.out _ HB5.out).atK HNX.out hil;subst hq;have b1:(0:Int)<=(i:Int):=o_;have b2:(i:Int)<(nx:Int):=o_;clear hxb hf hi;generalize (X.getD i Fk).bin=xb at *;go_wp2;go_ret
 exact⟨by rw[HR.out];rfl,HB5.out⟩):p:=h
def yv(db f bi p row cp:Nat)(vK vB vX:Value)(kvs bvs:List (Value×Value))(X:List XS)(D:Zg)(w:World)(h:So w db vK vB vX kvs bvs X D)(hs:ed D f bi p)(hbl:D.bs.length<=1000)(hxl:X.length<=1000000)(hN:(D.bs.getD bi Dx).N.getD row 0<64)(hoff:Nj D bi p<=100000)(hvc:(bvs.getD bi Oi).2=.iface 382 (.pointer (some ⟨cp,0,none⟩)))(hat:∀W:World,Below w.heap.size w W->Calls Tryz.prog 323 #[.pointer (some ⟨cp,0,none⟩),.int .i64 (row:Nat)] W λe w'=>e=.returned (.int .i64 ((D.bs.getD bi Dx).N.getD row 0:Nat))/\Below W.heap.size W w'):Calls Tryz.prog 78 #[.pointer (some ⟨db,0,none⟩),.int .i64 (row:Nat),.int .i64 (f:Nat)] w λe w'=>e=.returned (.int .i64 (iy D X f bi p row:Nat))/\Below w.heap.size w w':=by
 have hme:∀W:World,(method 535 382 (.pointer (some ⟨cp,0,none⟩)) "At").run Tryz.prog W=.ok (323,.pointer (some ⟨cp,0,none⟩)) W:=λW=>k_
 exact ZkD
def pu(db f bi p row cp:Nat)(vK vB vX:Value)(kvs bvs:List (Value×Value))(X:List XS)(D:Zg)(w:World)(h:So w db vK vB vX kvs bvs X D)(hs:ed D f bi p)(hbl:D.bs.length<=1000)(hxl:X.length<=1000000)(hN:(D.bs.getD bi Dx).N.getD row 0<64)(hoff:Nj D bi p<=100000)(hvc:(bvs.getD bi Oi).2=.iface 380 (.pointer (some ⟨cp,0,none⟩)))(hat:∀W:World,Below w.heap.size w W->Calls Tryz.prog 371 #[.pointer (some ⟨cp,0,none⟩),.int .i64 (row:Nat)] W λe w'=>e=.returned (.int .i64 ((D.bs.getD bi Dx).N.getD row 0:Nat))/\Below W.heap.size W w'):Calls Tryz.prog 78 #[.pointer (some ⟨db,0,none⟩),.int .i64 (row:Nat),.int .i64 (f:Nat)] w λe w'=>e=.returned (.int .i64 (iy D X f bi p row:Nat))/\Below w.heap.size w w':=by
 have hme:∀W:World,(method 535 380 (.pointer (some ⟨cp,0,none⟩)) "At").run Tryz.prog W=.ok (371,.pointer (some ⟨cp,0,none⟩)) W:=λW=>k_
 exact ZkD
def ce:(Tryz.prog.info? 25).map (λi=>(i.zero,i.size,i.bytes))=some (some (.slice none 0 0),1,24):=k_
def Zdg(n:Nat)(f:n<=1000000) W:(Instr.makeSlice 84 (I_ n) (I_ n)).run Tryz.prog W=.ok (L_ W.heap.size n n) (W.alloc (.cells (madeCells #[.slice none 0 0] n) 25)):=by obtain⟨e,a,d,c,b⟩:=info_parts ce;have:=run_make (P:=Tryz.prog) W 84 25 e _ Tryz.underlying84 a d .i64 .i64 (n:Int) (n:Int) o_ o_ (by rw[b];omega) o_;rw[c] at this;rw[this,Int.toNat_natCast,Nat.mul_one];rfl
structure Iq(w)(base q n i:Nat)(Ls:List (List Int)):Prop where
 cur:∃c:Array Value,w.heap[q]? =some (.cells c 25 (0,0))/\c.size=n/\(∀j,j<i->∃v,c[j]? =some v/\Ag w base v (Ls.getD j []))/\∀j k,j<k->k<i->∀u v x,c[j]? =some u->c[k]? =some v->u.ownBlock=some x->v.ownBlock≠some x
def Iq.below{w e base q n i a}(h:Iq w base q n i a)(d:Below w.heap.size w e):Iq e base q n i a:=by
 obtain⟨c,b,f,g,l⟩:=h.cur
 exact⟨c,(d.block q (Qb b).1).trans b,f,λj hj=>by
  obtain⟨v,k,m⟩:=g j hj
  exact⟨v,k,m.below d⟩,l⟩
def Iq.put{w a q n i d v}(h:Iq w a q n i d)(p:i<n)(g:Ag w a v (d.getD i [])){B}(r:∀x,v.ownBlock=some x->B<=x)(m:∀c:Array Value,w.heap[q]? =some (.cells c 25 (0,0))->∀j,j<i->∀u,c[j]? =some u->∀x,u.ownBlock=some x->x<B):Iq (w.setCell (A_ q i) v) a q n (i+1) d:=by
 obtain⟨c,b,f,o,s⟩:=h.cur;refine⟨c.setIfInBounds i v,hs_ w q i c _ v b,by simp[f],λj hj=>?_,λj k hjk hki u y x e hy hx=>?_⟩
 rotate_left
 ·rw[Array.getElem?_setIfInBounds_ne o_] at e
  by_cases hk:k=i
  ·grind
  grind
 by_cases hji:j=i
 subst hji;exact⟨v,by simp[f,p],As g b d_⟩;obtain⟨u,e,l⟩:=o j o_;exact⟨u,w_,As l b d_⟩
def Iq.at{w b q n i d}(h:Iq w b q n i d){j}(g:j<i):∃a c,w.cell? (A_ q j)=some (.slice a (d.getD j []).length c)/\q<w.heap.size/\Ag w b (.slice a (d.getD j []).length c) (d.getD j []):=by
 obtain⟨c,l,_,f,_⟩:=h.cur;obtain⟨u,k,e⟩:=f j g;obtain⟨a,m,rfl⟩:=e.shape
 grind [cell_of_row]
def Xg(D:Zg):List (List Int):=D.bs.map (λb=>Av b.fs)
def Vj{D i}(h:i<D.bs.length):(Xg D).getD i []=Av (D.bs.getD i Dx).fs:=by grind [Xg]
def ZkT(w:World)(D:Zg)(x:Ending)(w':World):Prop:=∃q,x=.returned (L_ q D.bs.length D.bs.length)/\w.heap.size<=q/\Iq w' w.heap.size q D.bs.length D.bs.length (Xg D)/\Below w.heap.size w w'
def pc db vK vB vX a4 a8 X D w (h:So w db vK vB vX a4 a8 X D)(h0:0<D.bs.length)(aE:D.bs.length<=1000)(G:∀i,i<D.bs.length->0<(D.bs.getD i Dx).fs.length/\(D.bs.getD i Dx).fs.length<=1000):C_ 94 #[.pointer (some ⟨db,0,none⟩)] w λe w'=>ZkT w D e w':=by
 have HM:=x1_ h;have HF:=x1_ G;obtain⟨qb,cB,Z,a9,_,_⟩:=h.ds.bn.at (i:=0) h0;subst Z;have d1:=cR_ 1 h.ds.blk;have Q:=(Qb h.ds.blk).1;have a7:∀W:_,(Instr.makeSlice _ _ (.int _ (D.bs.length:_))).run _ W=_:=Zdg _ o_;clear h G;generalize hnb:D.bs.length=nb at *;have HN:=x1_ hnb;clear hnb;go_enter Tryz.func94,Tryz.ntmps94;go_upto_region 2 with fail;generalize hW1:w.alloc (.cells (madeCells #[.slice none 0 0] nb) 25)=w1;have t:E_ w w1:=by rw[<- hW1];exact bA_
 have aF:Hid (Iq w1 w.heap.size w.heap.size nb 0 (Xg D)/\E_ w w1):=(by refine⟨⟨_,by rw[<- hW1];exact hn_,by simp[madeCells],λj hj=>o_,λj k _ hk=>o_⟩,t⟩);have aG:=(t.cell (p:=(A_ db 1)) Q).trans d1;clear hW1 t a7 d1;go_wp2_with fail
 go_loopw [17] (λti wr=>∃(i:Nat),ti=.int .i64 i/\i<=nb/\Hid (Iq wr w.heap.size w.heap.size nb i (Xg D)/\E_ w wr)) (λti _=>nb-(intOf ti).toNat)
 case atStart=>grind
 case round=>
  obtain⟨i,rfl,aA,q⟩:=hrel
  by_cases hin:i<nb
  ·have z:i<D.bs.length:=(by rw[HN];exact hin);obtain⟨P,c',V,E,R,U⟩:=HM.ds.bn.at z;have a2:P=qb:=w_;subst a2;obtain⟨J,o⟩:=HM.ds.bn.each i z;obtain⟨fa,v,B⟩:=J.shape;obtain⟨ct,cp,F⟩:=o.iface;rw[Aw] at B;rw[B] at R J;rw[F] at U;obtain⟨aD,aB⟩:=HF i hin;have e0:=(q.2.cell (p:=(A_ P (i*2))) E).trans R;have e1:=(q.2.cell (p:=(A_ P (i*2+1))) E).trans U;have a5:=x1_ (Vj z);have HI:=x1_ J
   have hq:∃O,fa=some ⟨O,0,none⟩:=by
    rcases J.2 with⟨e,h1⟩|⟨g,cap,cur,e,_⟩
    ·grind
    grind
   obtain⟨O,rfl⟩:=hq;have aC:0<=(i:Int):=o_;have aH:i<(nb:Int):=o_;clear B F J o R U V;generalize hnf:(D.bs.getD i Dx).fs.length=nf at *;have m:Hid ((Av (D.bs.getD i Dx).fs).length=nf):=(by show _=_;rw[Aw];exact hnf);clear hnf;go_upto_region 5 with fail;generalize hW2:wr.alloc (.cells #[L_ O nf v,.iface ct (P_ cp)] 163)=w2;have C:E_ wr w2:=(by rw[<- hW2];exact bA_);have L:w2.heap[wr.heap.size]? =some (.cells #[L_ O nf v,.iface ct (P_ cp)] 163 (0,0)):=(by rw[<- hW2];exact hn_);have x0:=cR_ 0 L;have f:=x2_ (q.1.below C) (q.2.trans (C.mono q.2.size));clear hW2 L e0 e1 C q;have M:=HI.below f.2
   have HC:=Tryz.slices_Clone_int _ 0 _ v _ _ (by rw[m];exact qa_) o_ (λj hj=>by
    obtain⟨q3,d,_,_,y0,_⟩:=M.atK m (k:=j) (by rw[<- m];exact hj);injection d with d;injection d with d _;subst d;rw[Nat.zero_add]
    exact y0)
   clear M;go_wp2_with fail
   refine HC.mono ?_;clear HC;rintro e N ⟨T,rfl,b,_,l⟩;have A:=f.1.below l;have r:=f.2.size;have s:=f.2.trans (l.mono r);have I:Ag N w.heap.size T ((Xg D).getD i []):=by rw[a5];rw[<- m,List.take_length] at b;exact Ag.mono (b':=w2.heap.size) b r
   have H:∀c:Array Value,N.heap[w.heap.size]? =some (.cells c 25 (0,0))->∀j,j<i->∀u,c[j]? =some u->∀x,u.ownBlock=some x->x<w2.heap.size:=λc hc j hj u hu x hx=>by obtain⟨c2,a1,_,a3,_⟩:=f.1.cur;have S:=(l.block _ (Qb a1).1).trans a1;rw[S] at hc;simp at hc;subst hc;obtain⟨u2,Y,ho⟩:=a3 j hj;rw[Y] at hu;injection hu with hu;subst hu;exact(rl_ ho x hx).2
   obtain⟨cu,y,a0,_⟩:=A.cur
   have y0:N.cell? (A_ w.heap.size i)=some (cu[i]' o_):=by
    rw[cq_ i _ 25 (0,0) y]
    grind
   have f0:=fq_ i _ _ y;generalize (cu[i]' o_)=u0 at y0;have HP:Hid (_/\Below _ w (N.setCell (A_ w.heap.size i) T)):=⟨A.put hin I (λx hx=>(rl_ b x hx).1) H,s.setCell qa_ _⟩
   obtain⟨a3,n3,c3,rfl⟩:∃a n c,T=.slice a n c:=by
    rcases b.2 with⟨rfl,_⟩|⟨g,cap,cur,rfl,_⟩
    omega
    grind
   clear A s I y a0 l b H;go_wp2;go_roundw;case rel=>grind
   case measure=>exact z_
  have aI:¬i<(nb:Int):=o_;have a6:i=nb:=o_;subst a6;go_wp2;go_ret;refine⟨w.heap.size,by rw[HN];rfl,qa_,?_,q.2⟩;rw[HN];exact q.1
def yl d n D w (h:My w d n D)(g:0<D.bs.length)(b:D.bs.length<=1000)(a:∀i,i<D.bs.length->0<(D.bs.getD i Dx).fs.length/\(D.bs.getD i Dx).fs.length<=1000):C_ 55 #[.pointer (some ⟨d,0,none⟩)] w λe w'=>ZkT w D e w':=by
 have p:=cR_ 0 h.gp;obtain⟨o,r,t,l,k,X,c⟩:=h.md;have j:=pc _ _ _ _ _ _ X D w c g b a;clear h c a g b;go_enter Tryz.func55,Tryz.ntmps55;go_wp2_with fail
 refine j.mono ?_;rintro e s ⟨q,rfl,f⟩;have m:=x1_ f;clear f;generalize hnb:D.bs.length=nb at *;go_wp2;go_ret;exact⟨q,by rw[hnb];rfl,by rw[hnb];exact m⟩
def Ps tot bins:∀M share,(Fe tot bins share M).Sublist (M.map λe=>e.v)
 |[],_=>by simp[Fe]
 |e::r,share=>by unfold Fe;split;exact List.Sublist.cons_cons _ (Ps _ _ r _);exact(Ps _ _ r _).cons _
def Pr{tot bins B}:∀M share,(∀e∈M,Ce bins tot e.hi<=B)->share<=B+1->(Fe tot bins share M).length<=B+1-share
 |[],share,_,h=>by simp[Fe];omega
 | e ::r,share,hB,h=>by
  have h1:=hB e s_;have hr:=λx hx=>hB x (List.mem_cons_of_mem e hx);unfold Fe;split
  ·have:=Pr r (Ce bins tot e.hi+1) hr o_
   grind
  exact Pr r _ hr h
def Yn L a:(Bx L a).Sublist ((L.take (L.length-1)).map λe=>e.v):=by grind [Bx,Ps]
def wn{L}(g:Bo L) a:(Bx L a).Pairwise (· < ·):=by refine List.Pairwise.sublist ((Yn L _).trans ((List.take_sublist _ _).map _)) ?_;rw[List.pairwise_map];exact g.step.imp λh=>h.1
def Zav{L}(g:Bo L){a}(m:2<=a):(Bx L a).length<a:=by
 unfold Bx;split;simp;omega;rename_i h0;split
 ·grind
 have n:=g.at (i:=L.length-1) o_;have c:Ae L=(L.getD (L.length-1) e0).hi:=(by unfold Ae;rw[if_neg h0]);have:=Pr (tot:=Ae L) (a:=a) (B:=a-1) (L.take (L.length-1)) 1 (λe he=>?_) o_;omega;obtain⟨k,h,rfl⟩:=Zh6 he;rw[List.length_take] at h;have b:k<L.length-1:=o_;have f:(L.take (L.length-1)).getD k e0=L.getD k e0:=w_;rw[f];have o:=(g.lt (i:=k) (j:=L.length-1) b o_).2.2;unfold Ce;have d:_*(L.getD k e0).hi<a*Ae L:=Int.mul_lt_mul_of_pos_left o_ o_;have l:=Int.ediv_lt_of_lt_mul o_ d;omega
def sq L c {b a}(i:L.length<=200)(h:2<=a)(d:a<=32)(e:2<=b):(Co L c b a).Pairwise (· < ·)/\(Co L c b a).length<b:=by have f:((Bi L c).map Prod.fst).length<=2097152:=(by have:=Ix L c;simp;omega);have g:=(Qp h d _ ((Bi L c).map Prod.snd) f).1;exact⟨wn g _,Zav g e⟩
structure Sb(n)(s:RS):Prop where
 ws:∀z∈s.ws,0<=z/\z<=99
 row:∀v∈s.row,(-1000000000<=v.num/\v.num<=1000000000)/\v.word.size<=8
 col:∀i,i<n->∀v∈s.cols i,(-1000000000<=v.num/\v.num<=1000000000)/\v.word.size<=8
def Sb.start n:Sb n RS.start:=⟨by simp[RS.start],by simp[RS.start],by simp[RS.start]⟩
def Fv.of{p}(h:Fv p){a}(d:a.length<=8):(-1000000000<=(Gq p a).num/\(Gq p a).num<=1000000000)/\(Gq p a).word.size<=8:=by have c:=h.le;have b:=h.n0;refine⟨?_,?_⟩;show -1000000000<=Qv p/\Qv p<=1000000000;unfold Qv;split<;>omega;show(strOfNums a).size<=8;have:(strOfNums a).size=a.length:=(by simp[strOfNums,ByteArray.size]);omega
def Sb.take{n g j s f c}(h:Sb n s)(d:Ht n s)(a:Cw n g j s c=.ok f):Sb n f:=by
 unfold Cw at a;split at a
 ·cases a
 split at a
 ·split at a
  ·cases a
  injection a with a;subst a;exact⟨h.ws,h.row,h.col⟩;injection a with a;subst a;exact⟨h.ws,h.row,h.col⟩
 split at a;injection a with a;subst a;exact⟨h.ws,h.row,h.col⟩;split at a
 ·injection a with a;subst a
  have b:∀v∈s.row++[Gq s.p s.bs],(-1000000000<=v.num/\v.num<=1000000000)/\v.word.size<=8:=λv hv=>by
   rcases List.mem_append.1 hv with e|e
   exact h.row v e;simp only[List.mem_singleton] at e;rw[e];exact d.num.of d.bs
  unfold Gd;split
  ·refine⟨λz hz=>?_,s_,λi hi v hv=>?_⟩
   ·rcases List.mem_append.1 hz with e|e
    exact h.ws z e;simp only[List.mem_singleton] at e;rw[e];exact⟨d.wt0,d.wt1⟩
   simp only[hi,if_true] at hv
   rcases List.mem_append.1 hv with e|e
   exact h.col i hi v e
   grind
  exact⟨h.ws,b,h.col⟩
 cases a
def Sb.takes{n wd sc}(hn:1<=n)(hsc:∀i,i<n->wd i=false->0<=sc i/\sc i<=3):∀l {s s' k},Sb n s->Ht n s->Ca n wd sc s l k=.ok s'->Sb n s'
 |[],s,s',k,h,_,e=>by injection e with e;subst e;exact h
 | c::l,s,s',k,h,hI,e=>by
  simp only[Ca] at e
  cases ht:Cw n wd sc s c with
  |error z=>grind
  |ok s1=>rw[ht] at e;exact Sb.takes hn hsc l (h.take hI ht) (hI.take hn hsc ht) e
structure ZgL(lw):Prop where
 ok:ZgM lw
 fine:∀(L) (ws) (ct bins),L.length<=200->2<=bins->bins<=16->Ol (lw L ws ct bins)/\(lw L ws ct bins).wd=true/\(lw L ws ct bins).cnt<=16
def ZaD{c m g n j a b l s}(d:(∃i,i<m+1/\g i=true)->ZgL c)(f:∀i,i<m+1->g i=false->0<=n i/\n i<=3)(p:2<=a)(k:a<=16)(v:2<=b)(o:b<=32)(h:Ca (m+1) g n RS.start l 0=.ok s):uy c m g j a b s:=by
 have r:=Ht.takes o_ f l (Ht.start (show 1<=m+1 by omega)) h;have q:=Sb.takes o_ f l (Sb.start _) (Ht.start (show 1<=m+1 by omega)) h;refine⟨λhw=>(d hw).ok,λi hi=>?_,q.col,q.ws⟩;have t:(s.cols i).length<=200:=by rw[r.col i hi];exact r.ws
 cases hw:g i with
 | true=>
  have e:Ck c true (j i) a b (s.cols i) s.ws=c (s.cols i) s.ws (j i) a:=(by simp[Ck]);rw[e];exact(d ⟨i,hi,hw⟩).fine _ _ _ _ t p k
 | false=>
  have e:Ck c false (j i) a b (s.cols i) s.ws=⟨false,Co (s.cols i) s.ws a b,[]⟩:=(by simp[Ck]);rw[e];obtain⟨u,w⟩:=sq (s.cols i) s.ws t v o p;refine⟨⟨u.imp λh=>o_,?_,s_⟩,rfl,?_⟩
  ·grind
  show La false (Co (s.cols i) s.ws a b).length 0<=16;simp[La];omega
def XsV(w:World)(v:Value)(X:List XS):Prop:=(∃a c,v=.slice a X.length c)/\∀i,i<X.length->∃q c,v=L_ q X.length c/\w.cell? (A_ q (i*3))=some (I_ (X.getD i Fk).row)/\w.cell? (A_ q (i*3+1))=some (I_ (X.getD i Fk).f)/\w.cell? (A_ q (i*3+2))=some (I_ (X.getD i Fk).bin)
def XsV.below{w w' v X}(h:XsV w v X)(hb:Below w.heap.size w w'):XsV w' v X:=⟨h.1,λi hi=>by
 obtain⟨q,c,e,h1,h2,h3⟩:=h.2 i hi
 exact⟨q,c,e,Ac hb h1,Ac hb h2,Ac hb h3⟩⟩
structure DaV(w)(db n)(Ks)(Fs Cs)(X):Prop where
 dk:DkV w db n Ks
 d2:∃v,w.cell? (A_ db 2)=some v/\LiV w v Fs
 d3:∃v,w.cell? (A_ db 3)=some v/\LiV w v Cs
 d4:∃v,w.cell? (A_ db 4)=some v/\XsV w v X
def DaV.below{w b f n c d e X}(h:DaV w f n c d e X)(a:Below w.heap.size w b):DaV b f n c d e X:=by obtain⟨j,k,l⟩:=h.d2;obtain⟨m,o,p⟩:=h.d3;obtain⟨g,i,q⟩:=h.d4;exact⟨h.dk.below a,⟨j,Ac a k,l.below a⟩,⟨m,Ac a o,p.below a⟩,⟨g,Ac a i,q.below a⟩⟩
structure ZkU(n)(Ks:List KS)(Fs Cs:List (List Nat)):Prop where
 len:Cs.length=Fs.length
 few:Fs.length<=1000
 rows:∀b,b<Cs.length->(Cs.getD b []).length=n
 val:∀b,b<Cs.length->∀r,(Cs.getD b []).getD r 0<=1000000
 fl:∀b,b<Fs.length->(Fs.getD b []).length<=1000
 fk:∀b,b<Fs.length->∀f∈Fs.getD b [],f<Ks.length
def syF(Ks:List KS):List Nat->Nat->Option (Nat×Nat)
 |[],_=>none
 |f::fs,v=>if v<(Ks.getD f Ay).many then some (f,v) else syF Ks fs (v-(Ks.getD f Ay).many)
def Zge(Ks:List KS)(fs:List Nat)(V:Nat):Option (Nat×Nat):=if V=0 then none else syF Ks fs (V-1)
def syI:Option (Nat×Nat)->Int×Int
  |some p=>(p.1,p.2)
  |none=>(-1,0)
def Pd(Ks:List KS)(Fs Cs:List (List Nat))(b r:Nat):Option (Nat×Nat):=Zge Ks (Fs.getD b []) ((Cs.getD b []).getD r 0)
def ZiS{Ks}{a:List Nat}{k v}(h:k<a.length):syF Ks (a.drop k) v=if v<(Ks.getD (a.getD k 0) Ay).many then some (a.getD k 0,v) else syF Ks (a.drop (k+1)) (v-(Ks.getD (a.getD k 0) Ay).many):=by have e:a.getD k 0=a[k]:=w_;rw[List.drop_eq_getElem_cons h,e];rfl
def Zf3 G n b r c m t X w (h:DaV w G n c m t X)(s:ZkU n c m t)(H:b<m.length)(hr:r<n):C_ 190 #[.pointer (some ⟨G,0,none⟩),.int .i64 b,.int .i64 r] w λe w'=>e=.returned (.tuple #[.int .i64 (syI (Pd c m t b r)).1,.int .i64 (syI (Pd c m t b r)).2])/\Below w.heap.size w w':=by
 obtain⟨R,S⟩:=ez_ (Pd c m t b r);rw[S];obtain⟨v2,d2,h2⟩:=h.d2;obtain⟨v3,d3,h3⟩:=h.d3;have j:b<t.length:=(by rw[s.len];exact H);obtain⟨q3,c3,a3,k3,rfl,b3,n3⟩:=h3.2 b j;obtain⟨q2,c2,a2,k2,rfl,b2,n2⟩:=h2.2 b H;rw[s.rows b j] at b3;obtain⟨g3,rfl,e3⟩:=n3 r (by rw[s.rows b j];exact hr);have hV:=s.val b j r;have T:=s.fl b H;have o:Hid (R=Zge _ _ _):=S.symm;have D:=x2_ n2 (s.fk b H);have E:=x1_ h.dk;have a1:=s.len;clear h s n2 n3 h2 h3 S;generalize (t.getD b []).getD r 0=V at *;generalize m.getD b []=fs at *;obtain⟨l,U⟩:=ey_ fs.length;have HL:=x1_ U;rw[U] at b2 T;clear U;have g1:0<=(b:Int):=o_;have g2:b<(m.length:Int):=o_;have g3:b<(t.length:Int):=o_;have g4:0<=(r:Int):=o_
 have g5:r<(n:Int):=o_;go_enter Tryz.func190,Tryz.ntmps190
 by_cases hV0:V=0
 ·subst hV0;have u:Hid (R=none):=(by rw[o];rfl);clear o;go_wp2;go_ret2
  exact⟨by rw[u];rfl,bz_⟩
 obtain⟨x,rfl⟩:∃x,V=x+1:=⟨V-1,o_⟩;have z:Hid (R=syF c fs x):=(by rw[o];rfl);have eV:IntKind.i64.wrap ((x+1:Nat)-1)=x:=(by rw[Cb o_ o_];omega);have gV:¬(x:Int)<0:=o_;clear o hV0;go_wp2_with fail
 go_loopw [8,9] (λt8 t9 wr=>∃k v:Nat,t9=.int .i64 k/\k<=l/\t8=.int .i64 v/\v<=1000000/\Hid (R=syF c (fs.drop k) v)/\E_ w wr) (λ_ t9 _=>l-(intOf t9).toNat)
 case atStart=>exact⟨0,x,rfl,qg_,rfl,o_,z,bz_⟩
 case round=>
  clear z eV gV e3 b3 d3;obtain⟨k,v,rfl,hk,rfl,hv,F,g⟩:=hrel;have Z:=Ac g d2;have Q:=Ac g b2
  by_cases hkl:k<l
  ·have y:k<fs.length:=(by rw[HL];exact hkl);obtain⟨q,rfl,I⟩:=(D.1.below g) k y;have C:=D.2 _ (Nd y);have HT:=x1_ (ZiS (c:=c) (v:=v) y);obtain⟨B,cf,L,O,N,Y,d1,f0,f1,f2,f3⟩:=(E.below g).feat C;have i:=E.one _ C;have A:=Nl L N (c.getD (fs.getD k 0) Ay).e.bs.length (c.getD (fs.getD k 0) Ay).e.ww.length O Y (c.getD (fs.getD k 0) Ay).e.wd (c.getD (fs.getD k 0) Ay).d
   have M:Hid (∀W:World,C_ 189 #[.agg #[.bool (c.getD (fs.getD k 0) Ay).e.wd,.slice L (c.getD (fs.getD k 0) Ay).e.bs.length O,.slice N (c.getD (fs.getD k 0) Ay).e.ww.length Y,.int .i64 (c.getD (fs.getD k 0) Ay).d]] W λe w'=>e=.returned (.int .i64 (c.getD (fs.getD k 0) Ay).many)/\E_ W w'):=λW=>by rw[<- i.many];exact A W i.1 i.2.1
   have a0:(c.getD (fs.getD k 0) Ay).many<=2002:=(by have:=i.many;have:=i.1;have:=i.2.1;omega);clear A i;generalize (c.getD (fs.getD k 0) Ay).many=mn at *;generalize (c.getD (fs.getD k 0) Ay).e.wd=wd at *;generalize (c.getD (fs.getD k 0) Ay).e.bs.length=nb at *;generalize (c.getD (fs.getD k 0) Ay).e.ww.length=nw at *;generalize (c.getD (fs.getD k 0) Ay).d=dd at *;generalize fs.getD k 0=f at *;have g6:k<(l:Int):=o_;have g7:0<=(k:Int):=o_;have g8:0<=(f:Int):=o_;have g9:f<(c.length:Int):=o_;go_upto_region 7 with fail
   go_region_held3 (λw'=>w'.cell? (A_ G 1)=some (L_ B c.length cf)/\w'.cell? (A_ G 2)=some (L_ q2 m.length c2)/\w'.cell? (A_ q2 b)=some (L_ q l k2)/\w'.cell? (A_ q k)=some (I_ (f:Nat))/\w'.cell? (A_ B (f*4))=some (.bool wd)/\w'.cell? (A_ B (f*4+1))=some (.slice L nb O)/\w'.cell? (A_ B (f*4+2))=some (.slice N nw Y)/\w'.cell? (A_ B (f*4+3))=some (I_ (dd:Nat))) (first|exact⟨d1,Z,Q,I,f0,f1,f2,f3⟩|exact⟨Ac a d1,Ac a Z,Ac a Q,Ac a I,Ac a f0,Ac a f1,Ac a f2,Ac a f3⟩) (first|(go_at_call 189;refine(M _).mono ?_;rintro e w2 ⟨rfl,P⟩;have a:Below wr.heap.size _ _:=bz_.drew.trans P))
   have z2:=Ac a Z;have z3:=Ac a Q;have z4:=Ac a I
   by_cases hlt:v<mn
   ·have u:Hid (R=some (f,v)):=(by show _=_;rw[F,HT,if_pos hlt]);have J:v<(mn:Int):=o_;go_wp2;go_ret2
    exact⟨by rw[u];rfl,g.trans (a.mono g.size)⟩
   have u:Hid (R=syF c (fs.drop (k+1)) (v-mn)):=(by show _=_;rw[F,HT,if_neg hlt]);have J:¬v<(mn:Int):=o_;go_wp2;go_roundw;case rel=>exact⟨k+1,v-mn,g_,o_,g_,o_,u,g.trans (a.mono g.size)⟩
   case measure=>exact z_
  have g6:¬k<(l:Int):=o_;have u:Hid (R=none):=(by show _=_;rw[F,List.drop_of_length_le (by have:=HL.out;omega)];rfl);clear F;go_wp2;go_ret2
  exact⟨by rw[u];rfl,g⟩
def MaB(w:World)(mb db:Nat)(vb vo:Value):Prop:=w.heap[mb]? =some (.cells #[P_ db,vb,vo] 331 (0,0))
def MaB.ne{w mb db vb vo}(h:MaB w mb db vb vo){k ty:Nat}{cur}(hk:w.heap[k]? =some (.cells cur ty (0,0)))(hty:ty≠331):k≠mb:=λe=>by
 unfold MaB at h
 grind
structure rf(w)(base mb db n)(vF vB vC vX vb vo)(kvs)(bbs)(Ks)(Bb:List (List Nat))(outs):Prop where
 blk:MaB w mb db vb vo
 ds:Ub w db n vF vB vC vX
 fe:dv w base vF kvs Ks
 bb:Mh w base vb bbs (Bb.map Av)
 ou:Ag w base vo (Av outs)
 apb:∀i,i<Bb.length->Ch vo (bbs.getD i Cz)
 apf:∀i,i<Ks.length->Ch vo (kvs.getD i Oi).1
section
variable {w w':World} {base mb db n:Nat} {vF vB vC vX vb vo vF' vb' vo':Value} {kvs:List (Value×Value)} {bbs:List Value} {Ks:List KS} {Bb:List (List Nat)} {outs:List Nat}
def rf.below(h:rf w base mb db n vF vB vC vX vb vo kvs bbs Ks Bb outs)(a:Below w.heap.size w w'):rf w' base mb db n vF vB vC vX vb vo kvs bbs Ks Bb outs:=by have t:=Aa.of_below (S:=λ_=>False) a;exact⟨t.at_ h.blk id,t.at_ h.ds id,h.fe.below a,h.bb.below a,h.ou.below a,h.apb,h.apf⟩
def rf.whole(h:rf w base mb db n vF vB vC vX vb vo kvs bbs Ks Bb outs)(hl:Bb.length=Ks.length)(hr:∀i,i<Bb.length->(Bb.getD i []).length=n)(ho:∀i,i<Ks.length->np (Ks.getD i Ay)):MkX w base mb db n vF vB vC vX vb vo kvs bbs Ks Bb outs:=⟨h.blk,h.ds,h.fe,h.bb,h.ou,hl,hr,ho⟩
def rf.feat{k u}(h:rf w base mb db n vF vB vC vX vb vo kvs bbs Ks Bb outs)(q:Ag w base u.1 k.e.bs)(o:Cc w base u.2 k.e.ww)(v:Ch vo u.1)(g:w.grownBy w' vF.ownBlock)(r:w'.ownsRow base 227 4 vF' (Ks.length+1) ((List.zipWith Cf Ks kvs).flatten++Cf k u)):rf (w'.setCell (A_ db 1) vF') base mb db n vF' vB vC vX vb vo (kvs++[u]) bbs (Ks++[k]) Bb outs/\Ub w' db n vF vB vC vX/\MaB w' mb db vb vo:=by
 have t:=(Aa.refl _ w).grown g (λk hk _=>hk);have b:∀k,vF.ownBlock=some k->∃c,w.heap[k]? =some (.cells c 227 _):=λk hk=>Ad h.fe.row.row hk;have a:Ub _ _ n _ _ _ _:=t.at_ h.ds (λe=>by obtain⟨c,j⟩:=b _ e;exact h.ds.ne j d_ rfl);have d:MaB _ _ _ _ _:=t.at_ h.blk (λe=>by obtain⟨c,j⟩:=b _ e;exact h.blk.ne j d_ rfl);have l:Aa _ _ (w'.setCell _ vF'):=(Aa.refl (λk=>k=db) _).setCell (p:=(A_ db 1)) (λ_=>rfl) _;have f:=h.fe.more q o g r;have m:=h.bb.touch t (λk c ty hk hty2 _ e=>w_);have x:=h.fe.len
 refine⟨⟨l.at_ d (λe=>a.ne d d_ e),ht_ 1 _ _ _ a,f.touch l (λk c ty hk b _=>a.ne hk w_),m.touch l (λk c ty hk b _=>a.ne hk w_),As (Ag.kept h.ou g (An h.fe.row.row h.ou d_)) a d_,h.apb,λi hi=>?_⟩,a,d⟩;rw[Qe,List.length_singleton] at hi
 by_cases e:i<Ks.length
 have s:(kvs++[u]).getD i Oi=kvs.getD i Oi:=w_;rw[s];exact h.apf i e
 grind
def rf.bins{u B}(h:rf w base mb db n vF vB vC vX vb vo kvs bbs Ks Bb outs)(q:Ag w base u (Av B))(x:∀i,i<Bb.length->Ch (bbs.getD i Cz) u)(s:Ch vo u)(g:w.grownBy w' vb.ownBlock)(r:w'.ownsRow base 25 1 vb' (Bb.length+1) (bbs++[u])):rf (w'.setCell (A_ mb 1) vb') base mb db n vF vB vC vX vb' vo kvs (bbs++[u]) Ks (Bb++[B]) outs/\MaB w' mb db vb vo:=by
 have t:=(Aa.refl _ w).grown g (λk hk _=>hk);have b:∀k,_=some k->_:=λk hk=>Ad h.bb.row hk;have d:Ub _ _ n _ _ _ _:=t.at_ h.ds (λe=>by obtain⟨c,j⟩:=b _ e;exact h.ds.ne j d_ rfl);have a:MaB _ _ _ _ _:=t.at_ h.blk (λe=>by obtain⟨c,j⟩:=b _ e;exact h.blk.ne j d_ rfl);have l:Aa _ _ (w'.setCell _ vb'):=(Aa.refl (λk=>k=mb) _).setCell (p:=(A_ mb 1)) (λ_=>rfl) _;have f:=h.fe.touch t (λk c ty hk hty2 _ e=>w_);have m:=h.bb.more (L:=Av B) q (λi hi=>x i w_) g (by rw[List.length_map];exact r);have o:=h.bb.len;rw[List.length_map] at o
 refine⟨⟨ht_ 1 _ _ _ a,l.at_ d (λe=>a.ne d d_ e),f.touch l (λk c ty hk b _=>a.ne hk w_),?_,As (Ag.kept h.ou g (An h.bb.row h.ou d_)) a d_,λi hi=>?_,h.apf⟩,a⟩;rw[List.map_append];exact m.touch l (λk c ty hk b _=>a.ne hk w_);rw[Qe,List.length_singleton] at hi
 by_cases e:i<Bb.length
 have v:(bbs++[u]).getD i Cz=bbs.getD i Cz:=w_;rw[v];exact h.apb i e
 grind
def rf.outm{z:Nat}(h:rf w base mb db n vF vB vC vX vb vo kvs bbs Ks Bb outs)(g:w.grownBy w' vo.ownBlock)(q:Ag w' base vo' (Av outs++[(z:Int)]))(o:vo'.ownBlock=vo.ownBlock∨vo'.ownBlock=some w.heap.size):rf (w'.setCell (A_ mb 2) vo') base mb db n vF vB vC vX vb vo' kvs bbs Ks Bb (outs++[z])/\MaB w' mb db vb vo:=by
 have t:=(Aa.refl _ w).grown g (λk hk _=>hk);have b:∀k,_=some k->_:=λk hk=>Ad h.ou hk;have d:Ub _ _ n _ _ _ _:=t.at_ h.ds (λe=>by obtain⟨c,j⟩:=b _ e;exact h.ds.ne j d_ rfl);have a:MaB _ _ _ _ _:=t.at_ h.blk (λe=>by obtain⟨c,j⟩:=b _ e;exact h.blk.ne j d_ rfl);have l:Aa _ _ (w'.setCell _ vo'):=(Aa.refl (λk=>k=mb) _).setCell (p:=(A_ mb 2)) (λ_=>rfl) _;have f:dv _ _ _ _ _:=⟨⟨World.ownsRow.kept h.fe.row.row g (An h.ou h.fe.row.row d_),h.fe.row.wid⟩,h.fe.len,λi hi=>⟨Ag.kept (h.fe.each i hi).1 g (h.apf i hi).keeps,World.ownsRow.kept (h.fe.each i hi).2 g (An h.ou (h.fe.each i hi).2 d_)⟩⟩
 have m:Mh _ _ _ _ _:=⟨World.ownsRow.kept h.bb.row g (An h.ou h.bb.row d_),λi hi=>Ag.kept (h.bb.each i hi) g (h.apb i w_).keeps,h.bb.apart⟩;refine⟨⟨ht_ 2 _ _ _ a,l.at_ d (λe=>a.ne d d_ e),f.touch l (λk c ty hk b _=>a.ne hk w_),m.touch l (λk c ty hk b _=>a.ne hk w_),?_,λi hi=>Ch.moved (h.apb i hi) (h.bb.each i w_) o,λi hi=>Ch.moved (h.apf i hi) (h.fe.each i hi).1 o⟩,a⟩;have:Ag w' base vo' (Av (outs++[z])):=(by unfold Av at q ⊢;rw[List.map_append];exact q);exact As this a d_
end
structure RfX(w)(base db n)(vF vB vC vX)(kvs)(bvs cvs)(Ks)(Fs Cs:List (List Nat))(X:List XS):Prop where
 ds:Ub w db n vF vB vC vX
 fe:dv w base vF kvs Ks
 bu:Mh w base vB bvs (Fs.map Av)
 co:Mh w base vC cvs (Cs.map Av)
 xs:Yj w base 231 3 vX (X.map Do)
 one:∀i,i<Ks.length->np (Ks.getD i Ay)
 lo:base<=db
section
variable {w w':World} {base db n:Nat} {vF vB vC vX vX':Value} {kvs:List (Value×Value)} {bvs cvs:List Value} {Ks:List KS} {Fs Cs:List (List Nat)} {X:List XS}
def RfX.keep(h:RfX w base db n vF vB vC vX kvs bvs cvs Ks Fs Cs X)(t:Aa (λk=>k<base) w w'):RfX w' base db n vF vB vC vX kvs bvs cvs Ks Fs Cs X:=by
 have a:∀{k ty:Nat} {c},w.heap[k]? =some (.cells c ty (0,0))->base<=k->¬k<base:=λ_ h=>o_
 exact⟨t.at_ h.ds (by have:=h.lo;omega),h.fe.touch t (λk c ty hk _ hb=>a hk hb),h.bu.touch t (λk c ty hk _ hb=>a hk hb),h.co.touch t (λk c ty hk _ hb=>a hk hb),h.xs.touch t (λq hq=>by have:=(rl_ h.xs.row q hq).1;omega),h.one,h.lo⟩
def XsV.of{v}(h:Yj w base 231 3 v (X.map Do)):XsV w v X:=by obtain⟨a,c,e⟩:=h.shape;rw[List.length_map] at e;refine⟨⟨a,c,e⟩,λi hi=>?_⟩;obtain⟨q,f,d,_,_,_,_,b⟩:=h.at (i:=i) w_;rw[List.length_map] at d;have g:(X.map Do).getD i []=Do (X.getD i Fk):=w_;rw[g] at b;exact⟨q,f,d,b 0 o_ _ rfl,b 1 o_ _ rfl,b 2 o_ _ rfl⟩
def RfX.view(h:RfX w base db n vF vB vC vX kvs bvs cvs Ks Fs Cs X):DaV w db n Ks Fs Cs X:=
 ⟨⟨cq_ 0 _ 142 (0,0) h.ds,⟨vF,cq_ 1 _ 142 (0,0) h.ds,h.fe.view⟩,h.one⟩,⟨vB,cq_ 2 _ 142 (0,0) h.ds,h.bu.view⟩,⟨vC,cq_ 3 _ 142 (0,0) h.ds,h.co.view⟩,⟨vX,cq_ 4 _ 142 (0,0) h.ds,XsV.of h.xs⟩⟩
end
def Qn(f:Nat):Option (Nat×Nat)->Option Nat
 |some p=>if p.1=f then some p.2 else none
 |none=>none
def Jr(Ks:List KS)(Fs Cs:List (List Nat))(r f:Nat):Nat:=((List.range Fs.length).findSome? (λb=>Qn f (Pd Ks Fs Cs b r))).getD (Ks.getD f Ay).d
def Zkv{o}{f:Nat}:((syI o).1=f->Qn f o=some (syI o).2.toNat/\(syI o).2=(syI o).2.toNat)/\((syI o).1≠f->Qn f o=none):=by
 cases o with
 |none=>exact⟨λh=>by simp[syI] at h,λ_=>rfl⟩
 | some p=>
  grind [syI,Qn]
def ZhA{X r f i d}(a:i<X.length)(h:rl r f (X.getD i Fk))(c:∀j,j<i->¬rl r f (X.getD j Fk)):xbF X f r d=(X.getD i Fk).bin:=by
 have b:∀k _,X.getD k Fk=X[k]:=λk hk=>w_
 have:X.find? (λy=>decide (rl r f y))=some X[i]:=(by rw[List.find?_eq_some_iff_getElem];refine⟨w_,i,a,rfl,λj hj=>?_⟩;have:=c j hj;rw[b j o_] at this;simp only[decide_eq_false this,Bool.not_false]);unfold xbF;rw[this,b i a]
def rv{X r f d}(c:∀j,j<X.length->¬rl r f (X.getD j Fk)):xbF X f r d=d:=by
 have b:∀k _,X.getD k Fk=X[k]:=λk hk=>w_
 have:X.find? (λy=>decide (rl r f y))=none:=by
  rw[List.find?_eq_none];intro x e;obtain⟨j,a,rfl⟩:=List.getElem_of_mem e;have:=c j a;rw[b j a] at this
  simpa using this
 unfold xbF;rw[this]
def Zb3{d a c r f b x}(g:b<a.length)(h:Qn f (Pd d a c b r)=some x)(e:∀j,j<b->Qn f (Pd d a c j r)=none):Jr d a c r f=x:=by unfold Jr;have:(List.range a.length).findSome? (λb=>Qn f (Pd d a c b r))=some x:=(by rw[List.findSome?_eq_some_iff];refine⟨List.range b,b,(List.range (a.length-(b+1))).map (b+1+ ·),?_,h,λj hj=>e j (by simpa using hj)⟩;rw[show a.length=(b+1)+(a.length-(b+1)) by omega,List.range_add,List.range_succ];simp);rw[this];rfl
def ur{a b c r f}(e:∀j,j<b.length->Qn f (Pd a b c j r)=none):Jr a b c r f=(a.getD f Ay).d:=by grind [Jr]
def jq I n r f k g l X w (h:DaV w I n k g l X)(E:ZkU n k g l)(hr:r<n)(hf:f<k.length)(hx:X.length<=1000000):C_ 138 #[.pointer (some ⟨I,0,none⟩),.int .i64 r,.int .i64 f] w λe w'=>e=.returned (.tuple #[.int .i64 (xbF X f r (Jr k g l r f):Nat),.int .i64 0])/\Below w.heap.size w w':=by
 obtain⟨R,D⟩:=ez_ (xbF X f r (Jr k g l r f));rw[D];obtain⟨v4,d4,G⟩:=h.d4;obtain⟨a4,c4,rfl⟩:=G.1;obtain⟨v2,W,A⟩:=h.d2;obtain⟨a2,c2,rfl⟩:=A.1;obtain⟨qf,cf,ab,cb,aw,cw,Z,_,_,_,V⟩:=h.dk.feat hf;have d0:=h.dk.d0;have M:=x1_ G;have T:=x2_ h E;have Q:=E.few;clear h E G A;have g1:¬(r:Int)<0:=o_;have g2:¬n<=(r:Int):=o_;have g3:¬(f:Int)<0:=o_;have g4:¬k.length<=(f:Int):=o_;have g5:0<=(f:Int):=o_;have g6:f<(k.length:Int):=o_;go_enter Tryz.func138,Tryz.ntmps138;go_wp2_with fail
 go_loopw [8] (λt8 wr=>∃i:Nat,t8=.int .i64 i/\i<=X.length/\Hid (∀j,j<i->¬rl r f (X.getD j Fk))/\wr=w) (λt8 _=>X.length-(intOf t8).toNat)
 case atStart=>exact⟨0,rfl,qg_,λj hj=>o_,rfl⟩
 case round=>
  obtain⟨i,rfl,hi,s,L⟩:=hrel;subst L
  by_cases hix:i<X.length
  ·obtain⟨q,c,e,x0,x1,x2⟩:=M.2 i hix;injection e with v _ e3;subst v e3;have g7:i<(X.length:Int):=o_;have P:0<=(i:Int):=o_
   by_cases hat:rl r f (X.getD i Fk)
   ·have C:Hid (R=(X.getD i Fk).bin):=(by show _=_;rw[<- D];exact ZhA hix hat s);obtain⟨B,y⟩:=hat;have v:(((X.getD i Fk).row:_)==(r:Int))=_:=beq_iff_eq.2 o_;have U:(((X.getD i Fk).f:_)==(f:Int))=_:=beq_iff_eq.2 o_;generalize (X.getD i Fk).row=xr at *;generalize (X.getD i Fk).f=xf at *;generalize (X.getD i Fk).bin=xb at *;clear B y;go_wp2;go_ret2
    exact⟨by rw[C];rfl,bz_⟩
   have m:Hid (∀j,j<i+1->¬rl r f (X.getD j Fk)):=λj hj=>by
    by_cases e:j=i
    rw[e];exact hat;exact s j o_
   by_cases B:(X.getD i Fk).row=r
   ·have y:¬_:=λy=>hat ⟨B,y⟩;have v:(((X.getD i Fk).row:_)==(r:Int))=_:=beq_iff_eq.2 o_;have U:(((X.getD i Fk).f:_)==(f:Int))=_:=beq_eq_false_iff_ne.2 o_;clear B y hat;generalize (X.getD i Fk).row=xr at *;generalize (X.getD i Fk).f=xf at *;go_wp2;go_roundw;case rel=>exact⟨i+1,g_,o_,m,trivial⟩
    case measure=>exact z_
   have v:(((X.getD i Fk).row:_)==(r:Int))=_:=beq_eq_false_iff_ne.2 o_;clear B hat;generalize (X.getD i Fk).row=xr at *;go_wp2;go_roundw;case rel=>exact⟨i+1,g_,o_,m,trivial⟩
   case measure=>exact z_
  have C:Hid (R=Jr k g l r f):=(by show _=_;rw[<- D];exact rv (λj hj=>s j o_));have g7:¬i<(X.length:Int):=o_;clear D M s;obtain⟨Y,H⟩:=ex_ wr;subst H;go_wp2_with fail
  go_loopw [9] (λt9 wz=>∃b:Nat,t9=.int .i64 b/\b<=g.length/\Hid (∀j,j<b->Qn f (Pd k g l j r)=none)/\E_ Y wz) (λt9 _=>g.length-(intOf t9).toNat)
  case atStart=>exact⟨0,rfl,qg_,λj hj=>o_,bz_⟩
  case round=>
   obtain⟨b,rfl,y,s,a⟩:=hrel;have x2:=Ac a W
   by_cases hbl:b<g.length
   ·have P:b<(g.length:Int):=o_;go_wp2_with fail
    refine(Zf3 I n b r k g l X _ (T.1.below a) T.2 hbl hr).mono ?_;rintro e w1 ⟨rfl,J⟩;obtain⟨S,F⟩:=ey_ (Pd k g l b r);have x:=Zkv (o:=S) (f:=f);rw[F];have N:=x1_ F;have z:=a.trans (J.mono a.size);clear F;obtain⟨sp,u⟩:=ey_ (syI S);rw[u] at x ⊢;obtain⟨s1,s2⟩:=sp;simp only at x ⊢
    by_cases hs:s1=(f:Int)
    ·obtain⟨O,A⟩:=x.1 hs;have t:Hid (R=s2):=(by show _=_;rw[C,Zb3 hbl (by rw[N];exact O) s,<- A]);have v:=beq_iff_eq.2 hs;clear x O A hs u;go_wp2;go_ret2
     exact⟨by rw[t];rfl,z⟩
    have m:Hid (∀j,j<b+1->Qn f (Pd k g l j r)=none):=λj hj=>by
     by_cases e:j=b
     rw[e,N];exact x.2 hs;exact s j o_
    have v:=beq_eq_false_iff_ne.2 hs;clear x hs u;go_wp2;go_roundw;case rel=>exact⟨b+1,g_,o_,m,z⟩
    case measure=>exact z_
   have P:¬b<(g.length:Int):=o_;have t:Hid (R=(k.getD f Ay).d):=(by show _=_;rw[C,ur (λj hj=>s j o_)]);have x1:=Ac a Z;have x3:=Ac a V;generalize (k.getD f Ay).d=dd at *;go_wp2;go_ret2
   exact⟨by rw[t];rfl,a⟩
def ZbH c n r f a w (h:DkV w c n a)(j:¬(0<=r/\r<(n:Int)/\0<=f/\f<(a.length:Int))):C_ 138 #[.pointer (some ⟨c,0,none⟩),.int .i64 r,.int .i64 f] w λe w'=>e=.returned (.tuple #[.int .i64 0,.int .i64 1])/\w'=w:=by
 obtain⟨d,k,b⟩:=h.d1;obtain⟨m,i,rfl⟩:=b.1;have g:=h.d0;clear h b;go_enter Tryz.func138,Tryz.ntmps138
 by_cases g1:r<0
 ·go_wp2;go_ret2
  exact⟨rfl,rfl⟩
 by_cases g2:(n:Int)<=r
 ·go_wp2;go_ret2
  exact⟨rfl,rfl⟩
 by_cases g3:f<0
 ·go_wp2;go_ret2
  exact⟨rfl,rfl⟩
 have l:a.length<=f:=o_;go_wp2;go_ret2
 exact⟨rfl,rfl⟩
def Mh.dbw{w w' base db n v vF vB vC vX vs Ls}(h:Mh w base v vs Ls)(hd:Ub w db n vF vB vC vX)(t:Aa (λq=>q=db) w w'):Mh w' base v vs Ls:=h.touch t (λk c ty hk hty _=>hd.ne hk w_)
structure CoI(wL wr)(db n)(vF vB vC vX)(cvs)(Cs:List (List Nat)):Prop where
 tch:Aa (λq=>q=db) wL wr
 ds:Ub wr db n vF vB vC vX
 co:Mh wr wL.heap.size vC cvs (Cs.map Av)
 lt:db<wL.heap.size
section
variable {wL wr wr':World} {db n:Nat} {vF vB vC vX vC' vX':Value} {cvs:List Value} {Cs:List (List Nat)}
def CoI.below(h:CoI wL wr db n vF vB vC vX cvs Cs)(hb:Below wr.heap.size wr wr'):CoI wL wr' db n vF vB vC vX cvs Cs:=⟨h.tch.below hb,(hb.block _ h.ds.lt).trans h.ds,h.co.below hb,h.lt⟩
def CoI.more{u N}(h:CoI wL wr db n vF vB vC vX cvs Cs)(b:Ag wr wL.heap.size u (Av N))(j:∀i,i<Cs.length->Ch (cvs.getD i Cz) u)(g:wr.grownBy wr' vC.ownBlock)(r:wr'.ownsRow wL.heap.size 25 1 vC' (Cs.length+1) (cvs++[u])):CoI wL (wr'.setCell (A_ db 3) vC') db n vF vB vC' vX (cvs++[u]) (Cs++[N])/\Ub wr' db n vF vB vC vX:=by
 have t:=(Aa.refl _ _).grown g (λk hk _=>hk);have a:Ub _ _ n _ _ _ _:=t.at_ h.ds (λe=>by obtain⟨c,d⟩:=Ad h.co.row e;exact h.ds.ne d d_ rfl);have l:=h.co.more (L:=Av N) b (λi hi=>j i w_) g (by rw[List.length_map];exact r);have f:Aa _ _ (wr'.setCell _ vC'):=(Aa.refl (λk=>k=db) _).setCell (p:=(A_ db 3)) (λ_=>rfl) _;refine⟨⟨(h.tch.grown g (λk hk hlt=>by have:=(rl_ h.co.row k hk).1;omega)).setCell (p:=(A_ db 3)) (λ_=>rfl) _,ht_ 3 _ _ _ a,?_,h.lt⟩,a⟩;rw[List.map_append];exact l.touch f (λk c ty hk hty _=>a.ne hk w_)
end
def ZjP:(Tryz.prog.info? 231).map (λi=>(i.zero,i.size,i.bytes))=some (some (.agg #[I_ 0,I_ 0,I_ 0]),3,24):=k_
structure ExI(wL wr)(db n)(vF vB vC vX)(X:List XS):Prop where
 tch:Aa (λq=>q=db) wL wr
 ds:Ub wr db n vF vB vC vX
 xs:Yj wr wL.heap.size 231 3 vX (X.map Do)
 lt:db<wL.heap.size
section
variable {wL wr wr':World} {db n:Nat} {vF vB vC vX vX':Value} {X:List XS}
def ExI.below(h:ExI wL wr db n vF vB vC vX X)(hb:Below wr.heap.size wr wr'):ExI wL wr' db n vF vB vC vX X:=⟨h.tch.below hb,(hb.block _ h.ds.lt).trans h.ds,h.xs.below hb,h.lt⟩
def ExI.more{x}(h:ExI wL wr db n vF vB vC vX X)(g:wr.grownBy wr' vX.ownBlock)(r:wr'.ownsRow wL.heap.size 231 3 vX' (X.length+1) ((X.map Do).flatten++Do x)):ExI wL (wr'.setCell (A_ db 4) vX') db n vF vB vC vX' (X++[x])/\Ub wr' db n vF vB vC vX:=by
 have t:=(Aa.refl _ _).grown g (λk hk _=>hk);have a:Ub _ _ n _ _ _ _:=t.at_ h.ds (λe=>by obtain⟨f,b⟩:=Ad h.xs.row e;exact h.ds.ne b d_ rfl);have d:Aa _ _ (wr'.setCell _ vX'):=(Aa.refl (λk=>k=db) _).setCell (p:=(A_ db 4)) (λ_=>rfl) _;have c:=h.xs.more (x:=Do x) (by rw[List.length_map];exact r) rfl;refine⟨⟨(h.tch.grown g (λk hk hlt=>by have:=(rl_ h.xs.row k hk).1;omega)).setCell (p:=(A_ db 4)) (λ_=>rfl) _,ht_ 4 _ _ _ a,?_,h.lt⟩,a⟩;rw[List.map_append];exact c.touch d (λq hq e=>by obtain⟨f,b⟩:=Ad c.row hq;exact a.ne b d_ e)
end
def n1(z:Nat):Nat:=if z%2=1 then z/2^^^3988292384 else z/2
def nJ:Nat->Nat->Nat
 |0,z=>z
 |j+1,z=>nJ j (n1 z)
def Zdl i:∀j z,nJ (i+j) z=nJ i (nJ j z)
 |0,_=>rfl
 |j+1,z=>Zdl i j (n1 z)
def za j z:nJ (j+1) z=n1 (nJ j z):=by rw[Nat.add_comm,Zdl];rfl
def Zlh a b:n1 (a^^^b)=n1 a^^^n1 b:=by
 have c:(a^^^b)%2=(a+b)%2:=by
  have h:=Nat.testBit_xor (x:=a) (y:=b) (i:=0)
  grind
 have d:(a^^^b)/2=_:=Nat.xor_div_two ..;unfold n1
 grind
def Zh8:∀(j a b:Nat),nJ j (a^^^b)=nJ j a^^^nJ j b
 |0,_,_=>rfl
 |j+1,a,b=>by show nJ j (n1 (a^^^b))=nJ j (n1 a)^^^nJ j (n1 b);rw[Zlh,Zh8]
def ZlP{z}(h:z<4294967296):n1 z<4294967296:=by unfold n1;split;exact Nat.xor_lt_two_pow (n:=32) o_ d_;omega
def Zli j h:nJ j (2^j*h)=h:=by
 induction j generalizing h with
 |zero=>simp[nJ]
 | succ j ih=>
  show nJ j (n1 (2^(j+1)*h))=h;have e:n1 (2^(j+1)*h)=2^j*h:=(by unfold n1;rw[Nat.pow_succ,Nat.mul_comm (2^j) 2,Nat.mul_assoc,if_neg o_];omega);rw[e,ih]
def Zb6:List Int->Nat
 |[]=>0
 |b::bs=>b.toNat+256*Zb6 bs
def Zjk{b h}(a:b<256):b+256*h=b^^^256*h:=by
 have e:=Nat.two_pow_add_eq_or_of_lt (i:=8) a h
 have c:b&&&256*h=0:=by
  apply Nat.eq_of_testBit_eq;intro i;rw[Nat.testBit_and,Nat.zero_testBit]
  by_cases hi:i<8
  rw[show 256*h=2^8*h from rfl,Nat.testBit_two_pow_mul,decide_eq_false o_];simp;rw[Nat.testBit_lt_two_pow (x:=b) (i:=i) (Qh a (Nat.pow_le_pow_right (n:=2) (i:=8) d_ o_))];simp
 apply Nat.eq_of_testBit_eq;intro i;have d:=congrArg (λx=>x.testBit i) c
 grind
def nF(z:Nat)(bs:List Int):Nat:=nJ (8*bs.length) (z^^^Zb6 bs)
def yz z {b}(c:0<=b/\b<256) a:nF z (b::a)=nF (nJ 8 (z^^^b.toNat)) a:=by have e:nF z (b::a)=nJ (8*_+8) (z^^^(_+_)):=rfl;rw[e,Zjk (show b.toNat<256 by omega),<- Nat.xor_assoc,Zdl,Zh8 8,show 256*Zb6 a=2^8*Zb6 a from rfl,Zli];rfl
def Un(a b:Nat)(d:a<4294967296)(c:b<4294967296):bits .xor .u32 a b=(a^^^b:Nat):=by have e:=Nat.xor_lt_two_pow (n:=32) d c;simp only[bits,BitVec.ofInt_natCast,BitVec.toNat_xor,BitVec.toNat_ofNat];rw[show IntKind.u32.bits=32 from rfl,Nat.mod_eq_of_lt (show a<2^32 from d),Nat.mod_eq_of_lt (show b<2^32 from c)];simp only[IntKind.wrap,IntKind.bits,IntKind.signed];simp;omega
def ZgY(a:Nat)(b:a<4294967296):bits .and .u32 a 1=(a%2:Nat):=by simp only[bits];rw[show(1:Int)=((1:Nat):Int) from rfl,BitVec.ofInt_natCast,BitVec.ofInt_natCast,BitVec.toNat_and,BitVec.toNat_ofNat,BitVec.toNat_ofNat];rw[show IntKind.u32.bits=32 from rfl,Nat.mod_eq_of_lt (show a<2^32 from b),Nat.mod_eq_of_lt (show 1<2^32 by decide),Nat.and_one_is_mod];simp only[IntKind.wrap,IntKind.bits,IntKind.signed];simp;omega
def Zk3{z}(h:z<4294967296):ZaJ (z:Nat)=(n1 z:Nat):=by
 unfold ZaJ n1;rw[ZgY z h]
 rcases Nat.mod_two_eq_zero_or_one z with e|e
 ·grind
 rw[e,if_pos d_,if_pos rfl,show((z:Int)/2)=((z/2:Nat):Int) by omega,show(3988292384:Int)=((3988292384:Nat):Int) from rfl,Un _ _ o_ d_]
def Zbk{z}(h:z<4294967296):∀j,nJ j z<4294967296
 |0=>h
 |j+1=>by rw[za];exact ZlP (Zbk h j)
def Zhp{z}(h:z<4294967296):∀j,Zj j (z:Nat)=(nJ j z:Nat)
 |0=>rfl
 |j+1=>by show ZaJ (Zj j z)=_;rw[Zhp h j,Zk3 (Zbk h j),za]
def gm:∀(bs:List Int) {z:Nat},z<4294967296->(∀b∈bs,0<=b/\b<256)->bs.foldl oz (z:Nat)=(nF z bs:Nat)
 |[],z,_,_=>by simp[nF,nJ,Zb6]
 |b::bs,z,h,hb=>by have h1:=hb b s_;obtain⟨c,rfl⟩:=Int.eq_ofNat_of_zero_le h1.1;have hx:z^^^c<4294967296:=Nat.xor_lt_two_pow (n:=32) h o_;rw[yz z h1,List.foldl_cons];have e:oz z c=(nJ 8 (z^^^c):Nat):=(by grind [oz,Un,Zhp]);rw[e];exact gm _ (Zbk hx 8) (λx hx=>hb x (by simp[hx]))
def cK(z b k:Nat):Nat:=nJ k (z^^^b)^^^b/2^k
def Zkc a b:(a^^^b)%2=(a+b)%2:=by
 have h:=Nat.testBit_xor (x:=a) (y:=b) (i:=0)
 grind
def Zjv z b:cK z b 0=z:=by grind [cK,nJ]
def Zju z b k:cK z b (k+1)=if cK z b k%2≠b/2^k%2 then cK z b k/2^^^3988292384 else cK z b k/2:=by
 unfold cK;rw[za,Zkc,Nat.xor_div_two,Nat.div_div_eq_div_mul,<- Nat.pow_succ];generalize nJ k (z^^^b)=x;unfold n1
 grind
def ZkY z b (a:b<256):cK z b 8=nJ 8 (z^^^b):=by unfold cK;rw[show b/2^8=0 from Nat.div_eq_of_lt a,Nat.xor_zero]
def ZkE{z b}(a:z<4294967296)(c:b<256) k:cK z b k<4294967296:=by unfold cK;exact Nat.xor_lt_two_pow (n:=32) (Zbk (Nat.xor_lt_two_pow (n:=32) a o_) k) (Nat.lt_of_le_of_lt (Nat.div_le_self _ _) o_)
def Zi6(a b:Nat)(d:a<4294967296)(c:b<4294967296):bits .xor .i64 a b=(a^^^b:Nat):=by have e:=Nat.xor_lt_two_pow (n:=32) d c;simp only[bits,BitVec.ofInt_natCast,BitVec.toNat_xor,BitVec.toNat_ofNat];rw[show IntKind.i64.bits=64 from rfl,Nat.mod_eq_of_lt (show a<2^64 by omega),Nat.mod_eq_of_lt (show b<2^64 by omega)];simp only[IntKind.wrap,IntKind.bits,IntKind.signed];simp;omega
def ZlL(y b k:Nat):bits .xor .i64 (y%2) (((b:Int)/2^k).tmod 2)=if y%2≠b/2^k%2 then 1 else 0:=by
 have e:((b:Int)/2^k).tmod 2=(b/2^k%2:Nat):=w_;rw[e,show((y:Int)%2)=((y%2:Nat):Int) by omega,Zi6 _ _ o_ o_]
 grind [Nat.mod_two_eq_zero_or_one]
def zK(S:ByteArray)(k:Nat):Nat:=nF 4294967295 ((Aq S).take k)
def rt S:∀b∈Aq S,0<=b/\b<256:=λb hb=>by simp only[Aq,List.mem_map] at hb;obtain⟨u,_,rfl⟩:=hb;have:=u.toNat_lt;omega
def Zke L b (a:b<256)(z:Nat:=4294967295)(c:∀x∈L,0<=x/\x<256:=by assumption):nJ 8 (nF z L^^^b)=nF z (L++[(b:Int)]):=by
 induction L generalizing z with
 |nil=>grind [nF,nJ,Zb6]
 | cons x L ih=>
  grind [yz]
def Zis S w (P:S.size<=1000000):C_ 180 #[.string S] w λe w'=>e=.returned (.int .i64 (Jv (Aq S)))/\w'=w:=by
 go_enter Tryz.func180,Tryz.ntmps180;go_upto_region 3 with fail;go_loopw [3,4] (λtc ti wr=>∃(z i:Nat),tc=.int .i64 z/\ti=.int .i64 i/\i<=S.size/\z<4294967296/\Hid (z=zK S i)/\Hid (w=wr)) (λ_ ti _=>S.size-(intOf ti).toNat)
 case atStart=>exact⟨4294967295,0,rfl,rfl,qg_,d_,by show _=_;simp[zK,nF,nJ,Zb6],rfl⟩
 case round=>
  obtain⟨z,i,rfl,rfl,J,m,l,j⟩:=hrel;have c:=j.out;subst c;clear j
  by_cases hin:i<S.size
  ·have H:0<=(i:Int):=o_;have O:i<(S.size:Int):=o_;obtain⟨b,v⟩:=ex_ ((S[i]'hin).toNat);have a:b<256:=(by rw[v];exact UInt8.toNat_lt _);have o:=x1_ v;clear v;go_upto_region 6 with fail;go_loopw [3,5] (λtc ti wr=>∃(y k:Nat),tc=.int .i64 y/\ti=.int .i64 k/\k<=8/\Hid (y=cK z b k)/\Hid (w=wr)) (λ_ ti _=>8-(intOf ti).toNat)
   case atStart=>exact⟨z,0,rfl,rfl,qg_,by show _=_;rw[Zjv],rfl⟩
   case round=>
    obtain⟨y,k,rfl,rfl,L,d,j⟩:=hrel;have c:=j.out;subst c;clear j
    by_cases hk8:k<8
    ·have G:0<=(k:Int):=o_;have E:(k:Int)<8:=o_;have M:y<4294967296:=(by rw[d];exact ZkE m a k);have C:=o.symm;go_upto_region 9 with fail;rw[ZlL];have f:=Zju z b k;rw[<- d] at f
     by_cases hx:y%2≠b/2^k%2
     ·rw[if_pos hx] at f ⊢;have r:Hid (bits .xor .i64 (y/2) 3988292384=(cK z b (k+1):Nat)):=by show _=_;rw[f,show((y:Int)/2)=((y/2:Nat):Int) by omega];exact Zi6 _ _ o_ d_
      clear f hx C d;go_wp2;go_roundw;case rel=>exact⟨cK z b _,k+1,by rw[r],g_,o_,rfl,True.intro⟩
      case measure=>exact z_
     rw[if_neg hx] at f ⊢;have r:Hid (y/2=((cK z b (k+1):Nat):Int)):=by show _=_;rw[f];omega
     clear f hx C d;go_wp2;go_roundw;case rel=>exact⟨cK z b _,k+1,by rw[r],g_,o_,rfl,True.intro⟩
     case measure=>exact z_
    have q:k=8:=o_;subst q;have B:¬((8:Nat):Int)<8:=o_
    have t:Hid (y=zK S (i+1)):=by show _=_;have g:(Aq S).length=S.size:=(by simp[Aq]);have u:(Aq S)[i]' o_=b:=(by rw[o];simp[Aq];rfl);rw[d,ZkY z b a,l];unfold zK;rw[Qi o_,u];exact Zke _ _ a _ (λx hx=>rt S x (List.mem_of_mem_take hx))
    have n:y<4294967296:=(by rw[d];exact ZkE m a 8);clear d o l;go_wp2;go_roundw;case rel=>exact⟨y,i+1,rfl,g_,o_,n,t,True.intro⟩
    case measure=>exact z_
  have A:i=S.size:=o_;subst A;have B:¬S.size<(S.size:Int):=o_
  have F:Hid (bits .xor .i64 z 4294967295=Jv (Aq S)):=by
   show _=_;have g:(Aq S).length=S.size:=(by simp[Aq]);have s:z=nF 4294967295 (Aq S):=(by rw[l];unfold zK;grind);have D:Zhq (Aq S)=z:=(by rw[s];exact gm _ (z:=4294967295) d_ (rt S));unfold Jv;rw[D];have N:=Zi6 z 4294967295 m d_;have I:=Un 4294967295 z d_ m
   grind
  clear l;go_wp2;go_ret;exact⟨by rw[F];rfl,rfl⟩
def cfU(cs:List Int):Nat:=pickK (rawK cs 2) 21
def cfS(cs:List Int):Nat:=cfB cs+pickK (rawK cs 1) (33-cfB cs)
def cfM(cs:List Int):Nat:=pickK (rawK cs 3) 4
def Zmx a:2<=cfB a/\cfB a<=16/\cfB a<=cfS a/\cfS a<=32/\cfU a<=20/\cfM a<=3:=by
 have e:=pickK_lt (rawK a 0) (show 0<15 by omega);have b:=pickK_lt (rawK a 2) (show 0<21 by omega);have c:=pickK_lt (rawK a 3) (show 0<4 by omega);have e0:cfB a=2+_:=rfl;have d:=pickK_lt (rawK a 1) (show 0<33-cfB a by omega)
 grind [cfS,cfU,cfM]
def ZlZ a i:Le (cfW a i) (cfC a i) (cfT a i)=true:=by
 have c:=pickK_lt (rawK a (4+i)) (show 0<4 by omega);have b:=pickK_lt (rawK a (4+i)) (show 0<9 by omega);unfold Le cfC cfT
 grind
def Zfu cs:∀k,(flatF cs k).length=k*3
 |0=>rfl
 |k+1=>by rw[flatF,Qe,Zfu cs k];simp[cellsF];omega
def ZhQ:(Tryz.prog.info? 51).map (λi=>(i.zero,i.size,i.bytes))=some (some (.agg #[.bool false,I_ 0,I_ 0]),3,24):=k_
def ftC(wd:Nat->Bool)(sc ct:Nat->Int)(j:Nat):Value:=if j%3=0 then .bool (wd (j/3)) else if j%3=1 then I_ (sc (j/3)) else I_ (ct (j/3))
def ftL(wd:Nat->Bool)(sc ct:Nat->Int)(n:Nat):List Value:=(List.range (n*3)).map (ftC wd sc ct)
def bz{a c b n j}(h:j<n*3):(ftL a c b n)[j]? =some (ftC a c b j):=by simp[ftL,h]
def Zfz{w b off n wd sc ct}(h:Dd w b off n wd sc ct):∀j u,(ftL wd sc ct n)[j]? =some u->w.cell? (((A_ b off):Addr).add j)=some u:=λj u hu=>by
 have hj:j<n*3:=(by grind [ftL]);rw[bz hj] at hu;injection hu with hu;subst hu;rw[Addr.add_lit];have hi:j/3<n:=o_;unfold ftC
 by_cases h0:j%3=0
 rw[if_pos h0,<- h.c0 _ hi,show off+j/3*3=off+j by omega]
 by_cases h1:j%3=1
 rw[if_neg h0,if_pos h1,<- h.c1 _ hi,show off+j/3*3+1=off+j by omega];rw[if_neg h0,if_neg h1,<- h.c2 _ hi,show off+j/3*3+2=off+j by omega]
def ZfA{w a g n b d k j}(h:w.ownsRow a 51 3 (L_ g n b) n (ftL d k j n))(l:n<=maxLen):Dd w g 0 n d k j/\g<w.heap.size:=by
 have f:g<w.heap.size:=by
  rcases h.2 with⟨e,_⟩|⟨q,c,cur,e,_,hh,_⟩
  ·cases e
  grind
 refine⟨⟨l,λ_=>f,λi hi=>?_,λi hi=>?_,λi hi=>?_⟩,f⟩
 ·rw[Nat.zero_add,h.cellAt _ o_,bz o_]
  grind [ftC]
 ·rw[Nat.zero_add,h.cellAt _ o_,bz o_]
  grind [ftC]
 rw[Nat.zero_add,h.cellAt _ o_,bz o_]
 grind [ftC]
def Zdx a n i c d b j h k w (r:n<=maxLen)(o:Ej w a n j h k)(m:Hz n c d b j h k=false):C_ 123 #[.agg #[.slice a n i,.int .i64 c,.int .i64 d,.int .i64 b]] w λe w'=>e=.returned (.tuple #[.pointer none,.int .i64 1])/\Below w.heap.size w w':=by
 have f:Hid (Below _ w (w.alloc (.cells #[.slice a n i,I_ c,I_ d,I_ b] 37))):=bA_;have p:=x1_ (o.below f);have q:Hid (Zhv (Hz n c d b j h k)=1):=(by rw[m];rfl);clear o m;go_enter Tryz.func123,Tryz.ntmps123;go_wp2_with fail
 generalize w.alloc (.cells #[.slice a n i,I_ c,I_ d,I_ b] 37)=w0 at *;refine(Vu a n _ _ _ _ _ _ _ _ r p).mono ?_;rintro e s ⟨rfl,g⟩;rw[q];have l:=x1_ (f.trans (g.mono f.size));clear g;go_wp2;go_ret2
 exact⟨rfl,l⟩
def ZbK b f n I c d a J G L w (A:Dd w b f n J G L)(Q:Hz n c d a J G L=true):C_ 123 #[.agg #[.slice (some ⟨b,f,none⟩) n I,.int .i64 c,.int .i64 d,.int .i64 a]] w λe w'=>∃ib fk fc',e=.returned (.tuple #[.pointer (some ⟨ib,0,none⟩),.int .i64 0])/\mt w' ib fk n fc' c d a ⟨#[]⟩ 0 0 false/\Dd w' fk 0 n J G L/\fk≠ib/\w.heap.size<=fk/\w.heap.size<=ib/\fk<w'.heap.size/\Below w.heap.size w w':=by
 obtain⟨h1,h4,_,_,_,_,_,_,_⟩:=Lc Q;have V:=A.lt o_;have D:=A.le;have v:Hid (Below _ w (w.alloc (.cells #[.slice (some ⟨b,f,none⟩) n I,I_ c,I_ d,I_ a] 37))):=bA_;have z:Hid ((w.alloc (.cells #[.slice (some ⟨b,f,none⟩) n I,I_ c,I_ d,I_ a] 37)).heap[_]? =_):=ha_ w _
 have B:Hid (∀W,E_ w W->Dd W b f n J G L):=λW hb=>by have k:=λo=>hb.cell (p:=(A_ b o)) V;exact⟨A.le,λ_=>by have:=hb.size;omega,λi hi=>(k _).trans (A.c0 i hi),λi hi=>(k _).trans (A.c1 i hi),λi hi=>(k _).trans (A.c2 i hi)⟩
 have HC:Hid (Zhv (Hz n c d a J G L)=0):=(by rw[Q];rfl);obtain⟨i0,E,Z,P,S⟩:=info_parts ZhQ;clear A Q;go_enter Tryz.func123,Tryz.ntmps123;go_wp2_with fail
 generalize w.alloc (.cells #[.slice (some ⟨b,f,none⟩) n I,I_ c,I_ d,I_ a] 37)=w0 at *;refine(Vu _ n _ _ _ _ _ _ _ _ D (.inr ⟨b,f,rfl,B _ v⟩)).mono ?_;rintro e w1 ⟨rfl,C⟩;rw[HC];have H:=(Qb z).1;have x:=(C.block _ H).trans z;have d0:=cR_ 0 x;have t:=x1_ x;have s:=x1_ (v.trans (C.mono o_));have X:=s.size;clear C x;go_wp2_with (at_builtin;refine wpList_append_own _ rfl _ _ _ rfl (w.heap.size+1) 51 i0 _ 3 24 Tryz.underlying35 E Z P S rfl d_ (.slice _ 0 0) 0 [] rfl ⟨rfl,.inl ⟨rfl,rfl⟩⟩ _ n I _ rfl (by simp[ftL]) (Zfz (B _ s)) ?_ ?_ ?_ ?_ ?_)
 intro u hu;simp only[ftL,List.mem_map] at hu;obtain⟨j,_,rfl⟩:=hu;unfold ftC;split;rfl;split<;>rfl;omega;omega;have:=(Qb t).1;omega;intro v2 T m Y R;have T2:Aa (λ_=>False) _ _:=(Aa.refl _ _).grown Y (λk hk _=>by cases hk);have r:=(T2.block _ (Qb t).1 id).trans t
 rcases m.2 with⟨_,e0⟩|⟨g,cap,cur,rfl,hg1,_⟩
 omega;have d2:=cR_ 0 r;have f2:=fq_ 0 _ _ r;have h:=ht_ 0 _ _ (L_ g n cap) r;have M:=s.grown Y X (λk hk=>by cases hk);have F:Below _ w (T.setCell (A_ w.heap.size 0) (L_ g n cap)):=M.setCell qa_ _;have t3:Aa _ _ (T.setCell _ (L_ g n cap)):=(Aa.refl (λq=>q=w.heap.size) _).setCell (p:=(A_ w.heap.size 0)) (λ_=>rfl) _;have l:=t3.row m (λq hq he=>by subst he;simp[Value.ownBlock] at hq;omega);clear t s d0 R m Y T2;go_upto_region 7 with fail;generalize T.setCell (A_ w.heap.size 0) (L_ g n cap)=w3 at *;have c0:=cR_ 0 h;have c1:=cR_ 1 h;have c2:=cR_ 2 h;have c3:=cR_ 3 h;obtain⟨N,O⟩:=ZfA l D;have HE:Hid (_/\_/\w.heap.size<=g/\_):=⟨N,O,o_,F⟩;clear d2 f2 r h M F t3 l N O B v z
 go_wp2;go_ret2
 have y:Below _ w3 (w3.alloc (.cells #[L_ g n cap,I_ c,I_ d,I_ a,.string ⟨#[]⟩,I_ 0,I_ 0,.bool false] 278)):=bA_;obtain⟨a1,a2,a3,U⟩:=HE;exact⟨w3.heap.size,g,cap,rfl,hn_,a1.below y,o_,a3,U.size,Qh a2 y.size,U.trans (y.mono U.size)⟩
end Go.Proofs.YtfcgnpchbcmdeaaGreat
