import Derived.Test.YtfcgnpchbcmdeaaGreatZrbe
import Derived.Test.YtfcgnpchbcmdeaaGreatZrbf
namespace Go.Proofs.YtfcgnpchbcmdeaaGreat
set_option linter.all false
set_option maxRecDepth 100000
set_option maxHeartbeats 8000000
open Go.RowKit
def xB(x:XS):List Int:=[x.row%256,x.f%256,x.bin%256]
def Pj(k:KS):List Int:=if k.e.wd=true then yo k else knB k
def Ob(D:Zh)(X:List XS):List Int:=[71,82,((D.bs.getD 0 Dx).N.length:Int)%256,D.ks.length%256]++D.ks.flatMap Pj++[(D.bs.length:Int)%256]++D.bs.flatMap Gw++Ba X.length 2++X.flatMap xB
def Ml(D:Zh)(X:List XS):List Int:=Ob D X++Ba (Jt (Ob D X)) 4
def ZdX(b:BS):Prop:=b.fs.length<=1000/\(∀f∈b.fs,f<=1000)/\((Fu b.N b.N.length).length<=1000/\∀x∈Fu b.N b.N.length,x.1<=1000/\x.2<=1000)/\(Cd (Dr b.N (Lib.bitLen b.g)) ((b.N.length*Lib.bitLen b.g+7)/8) (b.N.length*Lib.bitLen b.g)).length<=1000/\(Gw b).length<=5000
def oe(k:KS):Prop:=(k.e.wd=false/\k.e.ww=[]/\k.e.bs.length<=1000/\∀x∈k.e.bs,-1000000000000<=x/\x<=1000000000000)∨(k.e.wd=true/\k.e.bs=[]/\k.e.ww.length<=1000/\∀x∈k.e.ww,x.size<=8)
def Kl{α:Type}(f:α->List Int)(L:List α) d {k}(h:k<L.length):(L.take (k+1)).flatMap f=(L.take k).flatMap f++f (L.getD k d):=by
 rw[Qi h,List.flatMap_append]
 grind
def Fk:XS:=⟨0,0,0⟩
def sd:∀(L:List XS) (i:Nat),i<L.length->∀c,c<3->(Io L)[i*3+c]? =(Dn (L.getD i Fk))[c]?
 |[],i,h=>by simp at h
 |x::L,0,_=>λc hc=>by grind [Io,Dn]
 |x::L,i+1,h=>λc hc=>by simp only[Io];rw[List.getElem?_append_right (by simp[Dn];omega),show(i+1)*3+c-(Dn x).length=i*3+c by simp[Dn];omega];exact sd L i (by simpa using h) c hc
def Mh.atK{w a n c L}(h:Mh w 0 (.slice a n c) L)(i:L.length=n){k}(l:k<n):∃q,a=some ⟨q,0,none⟩/\q<w.heap.size/\w.cell? (A_ q (k*3))=some (I_ (L.getD k Fk).row)/\w.cell? (A_ q (k*3+1))=some (I_ (L.getD k Fk).f)/\w.cell? (A_ q (k*3+2))=some (I_ (L.getD k Fk).bin):=by
 subst i;have d:=h
 rcases d.2 with⟨e,h0⟩|⟨g,cap,cur,e,_,hh,hnc,_⟩
 omega;injection e with e1 e2 e3;subst e1;have j:w.ownsRow 0 _ 3 _ _ _:=h
 have b:∀o u,o<3->(Dn (L.getD k Fk))[o]? =some u->w.cell? (A_ g (k*3+o))=some u:=λo u ho hu=>by rw[World.ownsRow.cellAt j (k*3+o) o_];exact(sd L k l o ho).trans hu
 exact⟨g,rfl,(Qb hh).1,b 0 _ o_ rfl,b 1 _ o_ rfl,b 2 _ o_ rfl⟩
theorem Zi5{a}(h:∀x∈a,x.size<=8):(Ki a).length<=9*a.length:=by
 induction a with
 |nil=>simp[Ki]
 | cons x a ih=>
  grind [Ki,Pt]
def ZeC{k}(h:oe k):(Pj k).length<=9003:=by
 unfold Pj
 rcases h with⟨h1,_,h2,_⟩|⟨h1,_,h2,h3⟩
 rw[h1,if_neg d_];unfold knB;rw[Qe,fh];simp;omega
 grind [yo,Zi5]
def Zfg J vK vB vX bK b7 X D w (h:Sm w J vK vB vX bK b7 X D)(h0:0<D.bs.length)(aG:∀K∈D.ks,oe K)(bW:D.ks.length<=4)(aO:∀b∈D.bs,ZdX b)(aU:D.bs.length<=4)(bY:X.length<=4000)(aD:∀b∈Ob D X,0<=b/\b<256):C_ 60 #[.pointer (some ⟨J,0,none⟩)] w λe w'=>e=.returned (.string (strOfNums (Ml D X)))/\Below w.heap.size w w':=by
 obtain⟨ka,kc,rfl⟩:=h.kn.form;have d0:=cR_ 0 h.ds.blk;have t:=(Qb h.ds.blk).1;have U:=x1_ h;obtain⟨i0,a1,aT,aR,aJ⟩:=info_parts Nc;have aY:=x1_ (λW I=>Nq _ _ _ _ _ _ X W (U.ds.below I) h0)
 have a6:=x3_ aG aO aD
 clear h aG aO aD
 generalize hnr:(D.bs.getD 0 Dx).N.length=nr at *;generalize a4:D.ks.length=nk at *;have V:=x2_ hnr a4;clear hnr a4;go_enter Tryz.func60,Tryz.ntmps60;go_upto_region 1 with fail;go_cut [3] (λv wx=>∃a c,v=.slice a 4 c/\Hid (Hb w wx (.slice a 4 c) [71,82,(nr:Int)%256,(nk:Int)%256]))
 case first=>
  refine Al (λw'=>w'.cell? _=some _) 13 k_ d0 (λhHeld=>?_);refine Ah 2 ?_;refine Ah 5 ?_;refine Ah 6 ?_;refine Ah 7 ?_;refine Ah 8 ?_;refine Ah 9 ?_;refine Ah 10 ?_;have A:E_ w _:=(br_ _ w).drew;generalize w.drew=x at *
  repeat' first
   |(replace F:=F;replace fC:=fC;refine Af (i:=12) k_ rfl (λKK hK=>?_))
   |(replace F:=F;replace y:=y;refine Af (i:=1) k_ rfl (λKK hK=>?_))
   |(replace F:=F;refine Af (i:=0) k_ rfl (λKK hK=>?_))
   |(replace fD:=fD;replace fC:=fC;refine Af (i:=11) k_ rfl (λKK hK=>?_))
   |(replace fD:=fD;replace y:=y;refine Oj (i:=1) (j:=11) k_ rfl rfl (λKK hK=>?_) (λKK hK=>?_))
   |(replace fD:=fD;refine Oj (i:=0) (j:=11) k_ rfl rfl (λKK hK=>?_) (λKK hK=>?_))
   |(replace fC:=fC;refine Af (i:=3) k_ rfl (λKK hK=>?_))
   |(replace y:=y;refine Oj (i:=1) (j:=3) k_ rfl rfl (λKK hK=>?_) (λKK hK=>?_))
   |refine Oj (i:=0) (j:=3) k_ rfl rfl (λKK hK=>?_) (λKK hK=>?_)
   |(refine Xv rfl _ (.tmp 21) rfl _ _ 71 82 _ _ (2,3) (0,0) j_ j_ y F ?_;intro v6 w6 H6;obtain⟨o6,k6,b6,q6,p6,aX⟩:=H6;have bC:Hid (Hb w _ _ [_,_,_%256,_%256]):=⟨A.trans (b6.mono A.size),o6,λk hk=>by rw[k6] at hk;injection hk with hk;rw[<- hk];exact A.size⟩;subst aX;clear o6 k6 b6;refine hK _ _ ((bC.bl.cell (p:=(A_ J 0)) t).trans d0) (λhHeld=>?_);clear hK KK;(try simp only[Act.put]);(try simp only[List.setIfInBounds_toArray,List.set_cons_succ,List.set_cons_zero]);refine Ai (i:=13) k_ rfl k_ (λKK hK=>?_);go_simp;refine hK _ _ ?_;clear hK KK;(try simp only[Act.put]);(try simp only[List.setIfInBounds_toArray,List.set_cons_succ,List.set_cons_zero]);refine Ak k_ ?_ _;go_wp2;go_meet;grind)
   |(go_simp;refine(aY _ A).mono ?_;rintro e x ⟨rfl,aC⟩;(try have y:=(aC.block _ (Qb y).1).trans y);have A:=A.trans (aC.mono A.size);have fD:Hid True:=trivial;clear aC;go_simp;refine hK _ _ ((A.cell (p:=(A_ J 0)) t).trans d0) (λhHeld=>?_);clear hK KK;(try simp only[Act.put]);(try simp only[List.setIfInBounds_toArray,List.set_cons_succ,List.set_cons_zero]);refine Ah 4 ?_)
   |(have aL:=Zfl x lb 2 2 _ y;have y:=yk x lb _ 5 2 y;(try have F:=(Uy x lb 2).at_ F o_);have A:=A.trans ((Uy x lb 2).to_below A.size (λq hq=>by rw[hq];exact hl));have fC:Hid True:=trivial;go_simp;generalize World.freeze x (A_ lb 2) 1=x at *;clear aL;refine hK _ _ ((A.cell (p:=(A_ J 0)) t).trans d0) (λhHeld=>?_);clear hK KK;(try simp only[Act.put]);(try simp only[List.setIfInBounds_toArray,List.set_cons_succ,List.set_cons_zero]))
   |(have y:=ha_ x (.cells #[.int .u8 71,.int .u8 82] 5);have hl:=A.size;(try(have bO:=Nat.ne_of_lt (Qb F).1;have F:=(hb_ x (.cells #[.int .u8 71,.int .u8 82] 5) rb (Qb F).1).trans F));have A:=A.alloc A.size (.cells #[.int .u8 71,.int .u8 82] 5);go_simp;generalize x.heap.size=lb at *;generalize World.alloc x (.cells #[.int .u8 71,.int .u8 82] 5)=x at *;refine hK _ _ ((A.cell (p:=(A_ J 0)) t).trans d0) (λhHeld=>?_);clear hK KK;(try simp only[Act.put]);(try simp only[List.setIfInBounds_toArray,List.set_cons_succ,List.set_cons_zero]))
   |(have F:=ha_ x (.cells #[.int .u8 (IntKind.u8.wrap (nr:Int)),.int .u8 (IntKind.u8.wrap (nk:Int))] 5);(try(have bO:=Nat.ne_of_lt (Qb y).1;have y:=(hb_ x (.cells #[.int .u8 (IntKind.u8.wrap (nr:Int)),.int .u8 (IntKind.u8.wrap (nk:Int))] 5) lb (Qb y).1).trans y));have A:=A.alloc A.size (.cells #[.int .u8 (IntKind.u8.wrap (nr:Int)),.int .u8 (IntKind.u8.wrap (nk:Int))] 5);go_simp;generalize x.heap.size=rb at *;generalize World.alloc x (.cells #[.int .u8 (IntKind.u8.wrap (nr:Int)),.int .u8 (IntKind.u8.wrap (nk:Int))] 5)=x at *;refine hK _ _ ((A.cell (p:=(A_ J 0)) t).trans d0) (λhHeld=>?_);clear hK KK;(try simp only[Act.put]);(try simp only[List.setIfInBounds_toArray,List.set_cons_succ,List.set_cons_zero]))
 case rest =>
  obtain⟨a0,c0,rfl,HO⟩:=hcut;have q0:=(HO.bl.cell (p:=(A_ J 0)) t).trans d0;go_wp2_with fail
  go_loopw [3,28] (λtv ti wr=>∃(k:Nat) (a:Option Addr) (c n:Nat),tv=.slice a n c/\ti=.int .i64 k/\k<=nk/\n<=4+k*9003/\Hid (Hb w wr (.slice a n c) ([71,82,(nr:Int)%256,(nk:Int)%256]++(D.ks.take k).flatMap Pj)/\([71,82,(nr:Int)%256,(nk:Int)%256]++(D.ks.take k).flatMap Pj).length=n)) (λ_ ti _=>nk-(intOf ti).toNat)
  case atStart=>exact⟨0,a0,c0,4,rfl,rfl,qg_,o_,by rw[List.take_zero];exact⟨HO,rfl⟩⟩
  case round=>
   clear HO q0;obtain⟨k,a,c,n,rfl,rfl,hk,hn,g⟩:=hrel
   by_cases hkl2:k<nk
   ·have aA:k<D.ks.length:=(by rw[V.2];exact hkl2);obtain⟨q,cc,ab,cb,aw,cw,hv,s,R,Z,k2,k3,hI,hS⟩:=U.kn.at aA;have aB:ka=some ⟨q,0,none⟩:=(by injection hv);subst aB;have l:oe (D.ks.getD k Ay):=(by have:D.ks.getD k Ay=D.ks[k]:=(by simp[List.getD,aA]);rw[this];exact a6.1 _ (Qf _));have bU:=x1_ l;have m:=g.1.bl;have e0:=(m.cell (p:=(A_ q (k*4))) s).trans R;have P:=(m.cell (p:=(A_ q (k*4+1))) s).trans Z;have e2:=(m.cell (p:=(A_ q (k*4+2))) s).trans k2;have e3:=(m.cell (p:=(A_ q (k*4+3))) s).trans k3;have Q:Hid ([71,82,(nr:Int)%256,nk%256]++(D.ks.take (k+1)).flatMap Pj=([71,82,(nr:Int)%256,nk%256]++(D.ks.take k).flatMap Pj)++Pj (D.ks.getD k Ay)):=by show _=_;rw[Kl Pj D.ks Ay aA,List.append_assoc]
    have a7:=x1_ (ZeC l)
    have O:Hid (∀W L,Hb w W (.slice a L.length c) L->L.length<=900000->C_ 100 #[.agg #[.bool (D.ks.getD k Ay).e.wd,.slice ab (D.ks.getD k Ay).e.bs.length cb,.slice aw (D.ks.getD k Ay).e.ww.length cw,.int .i64 (D.ks.getD k Ay).d],.slice a L.length c] W λe w'=>eo w (L++Pj (D.ks.getD k Ay)) e w'):=λW L I y=>by
     rcases l with l|l
     have o:=Zp w _ aw _ cw _ a c L W l.1 hI I l.2.2.1 l.2.2.2 y;have P:Pj (D.ks.getD k Ay)=knB (D.ks.getD k Ay):=(by unfold Pj;rw[l.1];rfl);rw[P,l.2.1];exact o;have o:=Xd w ab _ cb _ _ a c L W l.1 hS I l.2.2.1 l.2.2.2 y;have P:Pj (D.ks.getD k Ay)=yo (D.ks.getD k Ay):=(by unfold Pj;rw[l.1];rfl);rw[P,l.2.1];exact o
    clear l R Z k2 k3 hI hS hv m;generalize D.ks.getD k Ay=Kk at *;generalize [71,82,(nr:Int)%256,(nk:Int)%256]++(D.ks.take k).flatMap Pj=L0 at *;have aS:0<=(k:Int):=o_;have aN:k<(nk:Int):=o_;generalize Kk.e.wd=wdk at *;generalize Kk.e.ww.length=nwk at *;generalize Kk.e.bs.length=nb at *;generalize Kk.d=dd at *;go_wp2_with fail
    have I:=g.1.below (bz_.alloc qa_ (.cells #[.bool wdk,.slice ab nb cb,.slice aw nwk cw,I_ (dd:Nat)] 172));have hC:=O _ _ (by rw[g.2];exact I) (by rw[g.2];omega);rw[g.2] at hC;refine hC.mono ?_;rintro e w3 ⟨a3,c3,rfl,Y⟩;rw[<- Q] at Y ⊢;obtain⟨n3,B⟩:=ex_ (([71,82,(nr:Int)%256,nk%256]++(D.ks.take (k+1)).flatMap Pj).length);have bM:n3<=4+(k+1)*9003:=by rw[B,Q,Qe,g.2];have:=a7.out;omega
    rw[<- B] at Y ⊢;have HN:=x2_ Y B.symm;clear Y B hC I O Q g e0 P e2 e3;go_wp2;go_roundw;case rel=>grind
    case measure=>exact z_
   have a4:¬k<(nk:Int):=o_;have C:D.ks.take k=_:=List.take_of_length_le (by have:=V.2;omega);rw[C] at g;obtain⟨ba,bc,bG⟩:=U.ds.bn.form;subst bG;have aE:Hid (Ob D X=([71,82,(nr:Int)%256,nk%256]++D.ks.flatMap Pj)++[(D.bs.length:Int)%256]++D.bs.flatMap Gw++Ba X.length 2++X.flatMap xB):=(by show _=_;unfold Ob;rw[V.1,V.2]);generalize hnb:D.bs.length=nb at *;have aQ:=x1_ hnb;have aH:=x1_ aU;clear hnb C aU;have d1:=cR_ 1 U.ds.blk;have P:=(g.1.bl.cell (p:=(A_ J 1)) t).trans d1;have bV:=Qh t g.1.bl.size;generalize [71,82,(nr:Int)%256,(nk:Int)%256]++D.ks.flatMap Pj=L1 at *;have M:Hid (wr.ownsRow 0 5 1 (.slice a n c) n (L1.map (Value.int .u8))):=by have o:=g.1.ow;unfold Bj at o;rw[g.2] at o;exact o
   have b8:n<=36016:=o_;go_wp2_with (at_builtin;refine Ab rfl (.tmp 36) (.tmp 43) 66 rfl 0 5 i0 (.int .u8 0) 1 1 Tryz.underlying66 a1 aT aR aJ rfl d_ _ n _ rfl (M.alloc _) _ 1 1 [.int .u8 ((nb:Int)%256)] rfl rfl ?_ ?_ ?_ ?_ ?_ ?_ ?_)
   all_goals try first|exact Am wr #[.int .u8 ((nb:Int)%256)] 5|(intro u hu;simp at hu;rcases hu with rfl;rfl)|exact qg_|rfl|decide|(unfold maxLen;omega)|omega
   intro v4 w4 H4;obtain⟨r4,g4,d4,_,q4,p4,bB⟩:=H4;have aK:Hid (Hb w w4 v4 (L1++[(nb:Int)%256])/\(L1++[(nb:Int)%256]).length=n+1):=(by refine⟨g.1.app ?_ (Ec.pre ((br_ _ wr).alloc qa_ _) (Ec.of_mark g4 d4 s_)),by rw[Qe,g.2];rfl⟩;refine Bj.more (n:=1) ?_ rfl;rw[g.2];exact r4);have bP:=(aK.1.bl.cell (p:=(A_ J 1)) t).trans d1;subst bB;clear r4 g4 d4 M g P hn;generalize L1++[(nb:Int)%256]=L2 at *;obtain⟨wl,aM⟩:∃wl,wl=wr:=⟨wr,rfl⟩;subst aM;go_wp2_with fail
   go_loopw [3,50] (λtv ti wr=>∃(j:Nat) (a:Option Addr) (c n:Nat),tv=.slice a n c/\ti=.int .i64 j/\j<=nb/\n<=36017+j*5000/\Hid (Hb w wr (.slice a n c) (L2++(D.bs.take j).flatMap Gw)/\(L2++(D.bs.take j).flatMap Gw).length=n)) (λ_ ti _=>nb-(intOf ti).toNat)
   case atStart=>exact⟨0,_,_,n+1,rfl,rfl,qg_,o_,w_⟩
   case round=>
    clear aK bP;obtain⟨j,a,c,n,rfl,rfl,hj,hn,g⟩:=hrel;have bT:=Nat.le_trans hj aH
    by_cases hjl:j<nb
    ·have S:j<D.bs.length:=(by rw[aQ];exact hjl);obtain⟨q,cc,hv,s,R,Z⟩:=U.ds.bn.at S;have aB:ba=some ⟨q,0,none⟩:=(by injection hv);subst aB;have H:ZdX (D.bs.getD j Dx):=(by have:D.bs.getD j Dx=D.bs[j]:=(by simp[List.getD,S]);rw[this];exact a6.2.1 _ (Qf _));obtain⟨hI,E⟩:=U.ds.bn.each j S;obtain⟨fa,aV,a8⟩:=hI.shape;obtain⟨ct,cp,aF⟩:=E.iface;rw[Aw] at a8;rw[a8] at R hI;rw[aF] at Z E;have m:=g.1.bl;have e0:=(m.cell (p:=(A_ q (j*2))) s).trans R;have P:=(m.cell (p:=(A_ q (j*2+1))) s).trans Z;have Q:Hid (L2++(D.bs.take (j+1)).flatMap Gw=(L2++(D.bs.take j).flatMap Gw)++Gw (D.bs.getD j Dx)):=(by show _=_;rw[Kl Gw D.bs Dx S,List.append_assoc]);have a7:=x1_ H.2.2.2.2
     have O:=x1_ (λW L I y=>
      Wk w _ _ _ _ a c L W hI E I H.1 H.2.1 y H.2.2.1 H.2.2.2.1)
     clear H R Z hI E hv m a8 aF;generalize D.bs.getD j Dx=Bk at *;generalize L2++(D.bs.take j).flatMap Gw=L0 at *;generalize Bk.fs.length=nf at *;have aS:0<=(j:Int):=o_;have aN:j<(nb:Int):=o_;go_wp2_with fail
     have I:=g.1.below (bz_.alloc qa_ (.cells #[.slice fa nf aV,.iface ct (P_ cp)] 163));have hC:=O _ _ (by rw[g.2];exact I) (by rw[g.2];omega);rw[g.2] at hC;refine hC.mono ?_;rintro e w3 ⟨a3,c3,rfl,Y⟩;rw[<- Q] at Y ⊢;obtain⟨n3,B⟩:=ex_ ((L2++(D.bs.take (j+1)).flatMap Gw).length);have bM:n3<=36017+(j+1)*5000:=by rw[B,Q,Qe,g.2];have:=a7.out;omega
     rw[<- B] at Y ⊢;have HN:=x2_ Y B.symm;clear Y B hC I O Q g e0 P;go_wp2;go_roundw;case rel=>grind
     case measure=>exact z_
    have bX:¬j<(nb:Int):=o_;have C:D.bs.take j=_:=List.take_of_length_le (by have:=aQ.out;omega);rw[C] at g;obtain⟨xa,xc,aZ⟩:=U.ds.xn.shape;subst aZ;have d2:=cR_ 2 U.ds.blk;have e2:=(g.1.bl.cell (p:=(A_ J 2)) t).trans d2;have b8:n<=56017:=o_;have bH:=x1_ aE;generalize hL3:L2++D.bs.flatMap Gw=L3 at *;have G:C_ 102 #[.slice a n c,.int .i64 X.length,.int .i64 2] wr λe w'=>eo w (L3++Ba X.length 2) e w':=(by have o:=g.1;rw[<- g.2] at o ⊢;exact(Mj a c 2 _ _ _ o.ow o_ (by rw[g.2];omega) o_ o_).mono (λe w' h=>h.out o));clear C hL3 aE;generalize hxn:X.length=xn at *;have a2:=x1_ hxn;clear hxn;go_wp2_with fail
    refine G.mono ?_;rintro e w5 ⟨a5,c5,rfl,h5⟩;obtain⟨n5,T⟩:=ex_ ((L3++Ba xn 2).length);have bL:n5=n+2:=(by rw[T,Qe,Gc,g.2]);have bZ:n5<=56019:=o_;rw[<- T] at h5 ⊢;have bD:=x2_ h5 T.symm;have e5:=(h5.bl.cell (p:=(A_ J 2)) t).trans d2;clear h5 T bL G g e2 hn;generalize L3++Ba (xn:Nat) 2=L5 at *;obtain⟨wm,b3⟩:∃wm,wm=wr:=⟨wr,rfl⟩;subst b3;go_wp2_with fail
    go_loopw [3,70] (λtv ti wr=>∃(r:Nat) (a:Option Addr) (c n:Nat),tv=.slice a n c/\ti=.int .i64 r/\r<=xn/\n=n5+r*3/\Hid (Hb w wr (.slice a n c) (L5++(X.take r).flatMap xB)/\(L5++(X.take r).flatMap xB).length=n)) (λ_ ti _=>xn-(intOf ti).toNat)
    case atStart=>exact⟨0,_,_,n5,rfl,rfl,qg_,rfl,w_⟩
    case round=>
     clear bD e5;obtain⟨r,a,c,n,rfl,rfl,hr,hn,g⟩:=hrel
     by_cases hrl:r<xn
     ·have b9:r<X.length:=(by rw[a2];exact hrl);obtain⟨q,hq,s,R,Z,k2⟩:=Mh.atK U.ds.xn a2 hrl;subst hq;have m:=g.1.bl;have e0:=(m.cell (p:=(A_ q (r*3))) s).trans R;have P:=(m.cell (p:=(A_ q (r*3+1))) s).trans Z;have e2:=(m.cell (p:=(A_ q (r*3+2))) s).trans k2;have Q:Hid (L5++(X.take (r+1)).flatMap xB=(L5++(X.take r).flatMap xB)++[((X.getD r Fk).row:Int)%256,(X.getD r Fk).f%256,(X.getD r Fk).bin%256]):=(by show _=_;rw[Kl xB X Fk b9,List.append_assoc];rfl);clear R Z k2 m;generalize L5++(X.take r).flatMap xB=L0 at *;generalize (X.getD r Fk).row=y0 at *;generalize (X.getD r Fk).f=y1 at *;generalize (X.getD r Fk).bin=y2 at *
      have M:Hid (wr.ownsRow 0 5 1 (.slice a n c) n (L0.map (Value.int .u8))):=(by have o:=g.1.ow;unfold Bj at o;rw[g.2] at o;exact o);have bE:=x1_ hn;have b5:n<=70000:=o_;clear hn;have aS:0<=(r:Int):=o_;have aN:r<(xn:Int):=o_;go_wp2_with (at_builtin;refine Ab rfl (.tmp 74) (.tmp 84) 66 rfl 0 5 i0 (.int .u8 0) 1 1 Tryz.underlying66 a1 aT aR aJ rfl d_ _ n (L0.map (Value.int .u8)) rfl ((M.alloc _).alloc _) _ 3 3 [.int .u8 ((y0:Int)%256),.int .u8 ((y1:Int)%256),.int .u8 ((y2:Int)%256)] rfl rfl ?_ ?_ ?_ ?_ ?_ ?_ ?_)
      intro j u hu;have o:=Am (wr.alloc (.cells #[I_ (y0:Nat),I_ (y1:Nat),I_ (y2:Nat)] 184)) #[.int _ _,.int _ _,.int _ _] 5 j u hu;rw[show(wr.alloc (.cells #[I_ (y0:Nat),I_ (y1:Nat),I_ (y2:Nat)] 184)).heap.size=wr.heap.size+1 by simp] at o;exact o
      ·intro u hu;simp at hu;rcases hu with rfl|rfl|rfl<;>rfl
      decide;unfold maxLen;omega;omega;simp;intro v7 w7 H7;obtain⟨r7,g7,d7,_,q7,p7,aW⟩:=H7;have HN:Hid (Hb w w7 v7 (L5++(X.take (r+1)).flatMap xB)/\(L5++(X.take (r+1)).flatMap xB).length=n+3):=by have bN:E_ wr ((wr.alloc (.cells #[I_ y0,I_ y1,I_ y2] 184)).alloc (.cells #[.int .u8 (y0%256),.int .u8 (y1%256),.int .u8 (y2%256)] 5)):=bA_.alloc s_ _;rw[Q];refine⟨g.1.app ?_ (Ec.pre bN (Ec.of_mark g7 d7 s_)),by rw[Qe,g.2];rfl⟩;refine Bj.more (n:=3) ?_ rfl;rw[g.2];exact r7
      subst aW;clear r7 g7 d7 M g Q e0 P e2;go_wp2;go_roundw;case rel=>exact⟨r+1,some _,p7,n+3,rfl,g_,o_,by have:=bE.out;omega,HN⟩
      case measure=>exact z_
     have bQ:¬r<(xn:Int):=o_;have C:X.take r=X:=List.take_of_length_le (by have:=a2.out;omega);rw[C,<- bH] at g;have b5:n<=70000:=o_
     have aP:C_ 103 #[.slice a n c] wr λe w'=>e=.returned (.int .u32 (Jt (Ob D X)))/\w'=wr:=(by have o:=g.1.ow;rw[<- g.2] at o ⊢;exact xh a c _ _ o (by rw[g.2];omega) a6.2.2);have hz:=Rf .xor 4294967295 (Zhs (Ob D X));have bF:0<=Jt _/\Jt _<_:=hz;have aI:Hid (Ml D X=_++_):=rfl;have G:C_ 102 #[.slice a n c,.int .i64 (Jt (Ob D X)),.int .i64 4] wr λe w'=>eo w (Ob D X++Ba (Jt (Ob D X)) 4) e w':=(by have o:=g.1;rw[<- g.2] at o ⊢;exact(Mj a c 4 _ _ _ o.ow o_ (by rw[g.2];omega) o_ o_).mono (λe w' h=>h.out o));rw[<- aI] at G;clear C hz hn aI;generalize Jt (Ob D X)=z at *;obtain⟨bS,bR⟩:=bF;go_wp2_with fail
     refine aP.mono ?_;rintro e w8 ⟨rfl,bI⟩;obtain rfl:=bI.symm;clear aP;go_wp2_with fail
     refine G.mono ?_;rintro e w9 ⟨a9,c9,rfl,h9⟩;have aL:=Pz _ 0 _ _ h9.ow;have bA:=x1_ h9.bl;generalize (Ml D X).length=n9 at *;clear h9 G g;go_wp2;go_ret;exact⟨rfl,bA⟩
def Zc4 p l t s r j k X D w (m:w.heap[p]? =some (.cells #[P_ l] 110 (0,0)))(h:Sm w l t s r j k X D)(o:0<D.bs.length)(a:∀K∈D.ks,oe K)(d:D.ks.length<=4)(i:∀b∈D.bs,ZdX b)(f:D.bs.length<=4)(g:X.length<=4000)(c:∀b∈Ob D X,0<=b/\b<256):C_ 34 #[.pointer (some ⟨p,0,none⟩)] w λe w'=>e=.returned (.string (strOfNums (Ml D X)))/\Below w.heap.size w w':=by
 have x:=cR_ 0 m
 have q:=Zfg _ _ _ _ _ _ X D w h o a d i f g c
 clear m h o a d i f g c
 generalize strOfNums (Ml D X)=sb at *;go_enter Tryz.func34,Tryz.ntmps34;go_wp2_with fail
 refine q.mono ?_;rintro e v ⟨rfl,n⟩;have u:=x1_ n;clear n;go_wp2;go_ret;exact⟨rfl,u⟩
def kp n d w:C_ 330 #[.agg #[.int .i64 n,.int .i64 d]] w λe w'=>e=.returned (.int .i64 d)/\Below w.heap.size w w':=by go_enter Tryz.func330,Tryz.ntmps330;go_wp2;go_ret;exact⟨rfl,bA_⟩
theorem Zbf{f}(a:∀t,f t<=1) b:∀c r,r<c->Pk f b c/2^r%2=f (b+r)
 |0,r,h=>o_
 | c +1,r,h=>by
  simp only[Pk]
  by_cases e:r=c
  ·subst e;have h1:=Vi a b r
   grind [Nat.add_mul_div_right,Nat.div_eq_of_lt]
  have hr:r<c:=o_;have ih:=Zbf a b c r hr
  have h3:f (b+c)*2^c=f (b+c)*2^(c-r-1)*2*2^r:=by
   have:(2:Nat)^c=2^(c-r-1)*2*2^r:=by rw[Nat.mul_assoc,<- Nat.pow_succ',<- Nat.pow_add];congr 1;omega
   grind
  grind [Nat.add_mul_div_right]
def Zfe{f}(a:∀t,f t<=1){T t}(h:t<T):Hd f T (t/8)/2^(t%8)%2=f t:=by grind [Hd,Zbf]
def Zbg{f} n b:∀c,(∀i,i<c->f (b+i)=n/2^i%2)->Pk f b c=n%2^c
 |0,_=>by simp[Pk,Nat.mod_one]
 |c+1,h=>by simp only[Pk];rw[Zbg n b c (λi hi=>h i o_),h c o_,Nat.mod_pow_succ,Nat.mul_comm (2^c)]
def Zfc N {d a}(h:N.getD a 0<2^d):Pk (Dr N d) (a*d) d=N.getD a 0:=by
 rw[Zbg (N.getD a 0) (a*d) d (λi hi=>?_),Nat.mod_eq_of_lt h];unfold Dr;have b:(a*d+i)/d=a:=by rw[Nat.mul_comm,Nat.mul_add_div o_,Nat.div_eq_of_lt hi,Nat.add_zero]
 grind [Nat.mul_comm,Nat.mul_add_mod,Nat.mod_eq_of_lt]
def Zgz n (h₀:0<=n)(h₁:n<2^8):IntKind.i64.wrap n=n:=Cb o_ o_
def Zju(a b:Nat)(ha:a<256)(hb:b<256):bits .or .i64 a b=(a|||b:Nat):=(bits_nat .i64 8 d_ Zgz a b o_ o_).2
def ZaO A q n d l T b f w (B:Zal w 0 A q n d (Cd f l T))(hf:∀t,f t<=1)(hd:d<=6)(C:b*d+d<=T)(hT:T<=8*l)(a8:T<=2000):C_ 323 #[.pointer (some ⟨A,0,none⟩),.int .i64 b] w λe w'=>e=.returned (.int .i64 (Pk f (b*d) d:Nat))/\Below w.heap.size w w':=by
 have HD:=x1_ B;have Z:=x1_ hf;have I:=Gp f l T;have b0:=cR_ 0 B.blk;have b1:=cR_ 1 B.blk
 have b2:w.cell? (A_ A 2)=some (L_ q l l):=by
  have h1:=cR_ 2 B.blk
  grind
 have g:=(Qb B.blk).1;have HW:=x1_ kp;obtain⟨P,hP⟩:=ex_ (b*d);have q0:b*d=(P:Int):=(by rw[hP];simp);rw[<- hP] at C ⊢;have a5:_=(P:Int):=Cb o_ o_;have a4:Hid (Cd f l T=_/\_):=⟨rfl,I⟩;clear B hf hP I;go_enter Tryz.func323,Tryz.ntmps323;go_wp2_with fail
 refine(HW _ _ _).mono ?_;rintro e w1 ⟨rfl,a⟩;have c0:=(a.cell (p:=(A_ A 0)) g).trans b0;have c1:=(a.cell (p:=(A_ A 1)) g).trans b1;have a1:=Qh g a.size;have r:=x1_ a;clear a;go_wp2_with fail
 refine(HW _ _ _).mono ?_;rintro e w2 ⟨rfl,M⟩;have o:=x1_ (r.trans (M.mono r.size));clear M c0 c1 a1 r;have c2:=(o.cell (p:=(A_ A 2)) g).trans b2;go_wp2_with fail
 go_loopw [5,21] (λtn ti wr=>∃(i m:Nat),tn=.int .i64 (m:Nat)/\ti=.int .i64 i/\i<=d/\Hid (m=Pk f P i)/\Hid (w2=wr)) (λ_ ti _=>d-(intOf ti).toNat)
 case atStart=>exact⟨0,0,rfl,rfl,qg_,rfl,rfl⟩
 case round=>
  obtain⟨i,m,rfl,rfl,hi,j,hw⟩:=hrel;have S:=hw.out;subst S;clear hw
  by_cases hid:i<d
  ·obtain⟨c,F⟩:=ex_ (P+i);obtain⟨J,hJ⟩:=ex_ (c/8);obtain⟨R,hR⟩:=ex_ (c%8);have N:J<l:=o_;have E:=Tw f T N;obtain⟨q',a2,X,cf⟩:=HD.row.atK rfl (k:=J) (by rw[a4.2];exact N);have Y:q'=q:=w_;subst Y;rw[E] at cf;have W:=(o.cell (p:=(A_ q' J)) X).trans cf;obtain⟨y,Q⟩:=ex_ (Hd f T J);have s:y<256:=(by rw[Q];exact fx Z T J);rw[<- Q] at W;obtain⟨O,v⟩:=ex_ (f c);have G:y/2^R%2=O:=(by rw[Q,hJ,hR,v];exact Zfe Z o_);have a:O<=1:=o_;have D:m<2^i:=(by rw[j];exact Vi Z _ _);have U:_^i<=2^5:=Nat.pow_le_pow_right d_ o_;obtain⟨z,hz⟩:=ex_ (O*2^i);have a0:_<=1*2^i:=Nat.mul_le_mul_right _ a;have x:z<256:=o_
   have H:Hid (m+z=Pk f P (i+1)):=by show m+z=Pk f P i+f (P+i)*2^i;rw[<- j,hz,v,F]
   have q1:P+i=(c:Int):=o_;have q2:(c:Int).tdiv 8=J:=w_;have q3:c/8=(J:Int):=o_;have q4:(c:Int).tmod 8=R:=w_;have q5:c%8=(R:Int):=o_
   have q6:bits BinOp.and IntKind.u8 (y/2^R) 1=O:=by
    have e:(y/2^R)=((y/2^R:Nat):Int):=s_;rw[e];have h1:=(Zcx (y/2^R) 1 (Nat.lt_of_le_of_lt (Nat.div_le_self _ _) s) d_).1
    grind
   have q7:_=(c:Int):=Cb o_ o_;have q8:_=(J:Int):=Cb o_ o_;have q9:IntKind.i64.wrap (O*2^i)=z:=(by grind [Cb]);have V:bits BinOp.or IntKind.i64 m z=(m+z:Nat):=by rw[Zju m z o_ x,hz,Zij D]
   obtain⟨u,hu⟩:=ex_ (m+z);rw[<- hu] at V H;have aC:0<=(R:Int):=o_;have aE:(R:Int)<=8:=o_;have a9:0<=(i:Int):=o_;have aB:i<(d:Int):=o_;have a6:(i:Int)<=64:=o_;have a7:0<=(J:Int):=o_;have aA:J<(l:Int):=o_;clear a0 G D U hz hu Q v hJ hR F E cf j a2;go_wp2;go_roundw;case rel=>exact⟨i+1,u,rfl,g_,o_,H,True.intro⟩
   case measure=>exact z_
  have aD:¬i<(d:Int):=o_;have L:i=d:=o_;have a3:Hid (m=Pk f P d):=w_;clear L j;go_wp2;go_ret;rw[<- a3];exact⟨rfl,o⟩
structure et(D:Zh)(f bi p):Prop where
 hb:bi<D.bs.length
 hp:p<(D.bs.getD bi Dx).fs.length
 at_:(D.bs.getD bi Dx).fs.getD p 0=f
 no:∀i j,i<=bi->j<(D.bs.getD i Dx).fs.length->(i<bi∨j<p)->(D.bs.getD i Dx).fs.getD j 0≠f
 fl:∀i,i<=bi->(D.bs.getD i Dx).fs.length<=100
 fk:∀i j,i<=bi->j<(D.bs.getD i Dx).fs.length->(D.bs.getD i Dx).fs.getD j 0<D.ks.length
 mn:∀i,i<D.ks.length->(D.ks.getD i Ay).many<=100
def Nh(D:Zh)(i j:Nat):Nat:=1+Du D.ks ((D.bs.getD i Dx).fs.take j)
def zy Ks:∀fs:List Nat,(∀f∈fs,(Ks.getD f Ay).many<=100)->Du Ks fs<=100*fs.length
 |[],_=>by simp[Du]
 | f::fs,h=>by
  have h1:=zy _ fs (λx hx=>h x (by simp[hx]))
  grind [Du]
def ZiH db f c p vK vB vX a7 n X D w (h:Sm w db vK vB vX a7 n X D)(V:et D f c p)(aT:D.bs.length<=1000):C_ 145 #[.pointer (some ⟨db,0,none⟩),.int .i64 f] w λe w'=>e=.returned (.tuple #[.agg #[(n.getD c Oi).1,(n.getD c Oi).2],.int .i64 (Nh D c p:Nat)])/\Below w.heap.size w w':=by
 have HM:=x1_ h;have o:=x1_ V;obtain⟨qb,cB,a3,aG,_,_⟩:=h.ds.bn.at (i:=0) (by have:=V.hb;omega);subst a3;have I:0<D.ks.length:=(by have:=V.fk c p qa_ V.hp;omega);obtain⟨qk,cK,_,_,_,_,a4,l,_⟩:=h.kn.at (i:=0) I;subst a4;have d1:=cR_ 1 h.ds.blk;have d0:=cR_ 0 h.ds.blk;have aE:=(Qb h.ds.blk).1;clear h V;generalize hnb:D.bs.length=nb at *;generalize hnk:D.ks.length=nk at *;have HN:=x2_ hnb hnk;clear hnb hnk;go_enter Tryz.func145,Tryz.ntmps145;go_wp2_with fail
 go_loopw [13] (λti wr=>∃(i:Nat) (u0 u1:Value),ti=.int .i64 i/\i<=c/\Hid (wr.heap[w.heap.size]? =some (.cells #[u0,u1] 163 (0,0))/\E_ w wr)) (λti _=>nb-(intOf ti).toNat)
 case atStart=>exact⟨0,.slice _ 0 0,.nilIface,rfl,qg_,hn_,bA_⟩
 case round=>
  obtain⟨i,u0,u1,rfl,k,a⟩:=hrel;have a1:i<nb:=(by have:=o.hb;have:=HN.1;omega);have P:i<D.bs.length:=(by rw[HN.1];exact a1);obtain⟨q',c',aC,U,L,M⟩:=HM.ds.bn.at P;have a8:q'=qb:=w_;subst a8;obtain⟨hI,t⟩:=HM.ds.bn.each i P;obtain⟨T,b,s⟩:=hI.shape;obtain⟨E,H,A⟩:=t.iface;rw[Aw] at s;rw[s] at L hI;rw[A] at M;have Q:=x2_ s A;have e0:=(a.2.cell (p:=(A_ q' (i*2))) U).trans L;have e1:=(a.2.cell (p:=(A_ q' (i*2+1))) U).trans M;have r0:_=some u0:=cq_ 0 _ _ _ a.1;have r1:_=some u1:=cq_ 1 _ _ _ a.1;have f0:=fq_ 0 _ _ a.1;have f1:=fq_ 1 _ _ a.1;have HI:=x1_ hI;have aN:=o.fl i k;have aL:0<=(i:Int):=o_;have aO:i<(nb:Int):=o_
  clear s A hI t L M aC;generalize hnf:(D.bs.getD i Dx).fs.length=nf at *;have C:=x1_ hnf;clear hnf
  have G:Hid (((wr.setCell (A_ w.heap.size 0) (.slice T nf b)).setCell (A_ w.heap.size 1) _).heap[w.heap.size]? =some (.cells #[.slice T nf b,.iface E (P_ H)] 163 (0,0))/\E_ w ((wr.setCell (A_ w.heap.size 0) (.slice T nf b)).setCell (A_ w.heap.size 1) (.iface E (P_ H)))):=
   ⟨ht_ 1 _ _ _ (ht_ 0 _ _ _ a.1),(a.2.setCell qa_ _).setCell qa_ _⟩
  go_upto_region 4 with fail;generalize (wr.setCell (A_ w.heap.size 0) (.slice T nf b)).setCell (A_ w.heap.size 1) (.iface E (P_ H))=w2 at *;clear r0 r1 f0 f1 e0 e1 a;have s0:=cR_ 0 G.1;go_wp2_with fail
  obtain⟨wl,a2⟩:∃wl,wl=wr:=⟨wr,rfl⟩;subst a2;go_loopw [5,20] (λtof tj wr=>∃(j:Nat),tof=.int .i64 (Nh D i j:Nat)/\tj=.int .i64 j/\j<=nf/\(i=c->j<=p)/\Hid (wr.heap[w.heap.size]? =some (.cells #[.slice T nf b,.iface E (.pointer (some ⟨H,0,none⟩))] 163 (0,0))/\E_ w wr)) (λ_ tj _=>nf-(intOf tj).toNat)
  case atStart=>exact⟨0,rfl,rfl,qg_,λ_=>qg_,G⟩
  case round=>
   clear G s0;obtain⟨j,rfl,rfl,hj,m,a⟩:=hrel;have r0:=cR_ 0 a.1;have r1:=cR_ 1 a.1;have f0:=fq_ 0 _ _ a.1;have f1:=fq_ 1 _ _ a.1;have a9:=a.2.size
   have aI:Nh D i j<=10001:=by
    have h1:=zy _ ((D.bs.getD i Dx).fs.take j) (λx hx=>by
     obtain⟨y,hy,rfl⟩:=List.getElem_of_mem hx;have a6:y<(D.bs.getD i Dx).fs.length:=w_;have h2:=o.fk i y k a6;have h3:(D.bs.getD i Dx).fs.getD y 0=((D.bs.getD i Dx).fs.take j)[y]:=w_;rw[h3] at h2
     exact o.mn _ h2)
    have h4:((D.bs.getD i Dx).fs.take j).length<=100:=w_;unfold Nh;omega
   by_cases hjn:j<nf
   ·have q:j<(D.bs.getD i Dx).fs.length:=(by rw[C];exact hjn);have J:=HI.below a.2;obtain⟨qf,aB,aH,_,y0,_⟩:=J.atK (by rw[Aw];exact C) hjn;rw[Cv] at y0;subst aB;have F:=o.fk i j k q;rw[HN.2] at F
    have Y:Hid (Nh D i (j+1)=Nh D i j+(D.ks.getD ((D.bs.getD i Dx).fs.getD j 0) Ay).many):=by
     show 1+Du D.ks ((D.bs.getD i Dx).fs.take (j+1))=1+Du D.ks ((D.bs.getD i Dx).fs.take j)+_
     have aA:∀(B:List Nat),j<B.length->B.take (j+1)=B.take j++[B.getD j 0]:=λB hB=>by rw[Qi hB];grind
     have this:=aA _ q;rw[this,uo];omega
    have aJ:0<=(j:Int):=o_;have aM:j<(nf:Int):=o_
    by_cases hgf:(D.bs.getD i Dx).fs.getD j 0=f
    ·have d:i=c:=by
      by_cases e:i=c
      exact e;exact absurd hgf (o.no i j k q (.inl o_))
     have u:j=p:=by
      have h1:=m d
      by_cases e:j=p
      exact e;exact absurd hgf (o.no i j k q (.inr o_))
     have Z:((D.bs.getD i Dx).fs.getD j 0:Nat)=(f:Int):=(by rw[hgf]);rw[Z] at y0;have z:Hid ((.agg #[(n.getD c Oi).1,(n.getD c Oi).2]:Value)=.agg #[L_ qf nf b,.iface E (P_ H)]/\Nh D c p=Nh D i j):=(by rw[<- d,<- u];exact⟨by rw[Q.1,Q.2],rfl⟩);have HB:Hid (Below _ w ((wr.setCell (A_ w.heap.size 0) (L_ qf nf b)).setCell (A_ w.heap.size 1) (.iface E (P_ H)))):=(a.2.setCell qa_ _).setCell qa_ _;clear hgf Z d u m F Y J;generalize Nh D i j=oo at *;go_wp2;refine bodyPost_ret (v:=.tuple #[.agg #[L_ qf nf b,.iface E (P_ H)],I_ (oo:Nat)]) (by simp[results,Tryz.results145,go_sem, *]) rfl ?_;rw[z.1,z.2];exact⟨rfl,HB⟩
    have aS:(((D.bs.getD i Dx).fs.getD j 0:Nat)==(f:Int))=false:=beq_eq_false_iff_ne.2 (λe=>hgf o_);have a0:(D.bs.getD i Dx).fs.getD j 0<D.ks.length:=(by rw[HN.2];exact F);have aP:=o.mn _ a0;obtain⟨ab,cb,aw,cw,_,L,M,k2,_,_,_⟩:=HM.kn.at2 (i:=(D.bs.getD i Dx).fs.getD j 0) a0
    have O:i=c->j+1<=p:=λe=>by
     have h1:=m e
     by_cases e2:j=p
     subst e2;subst e;exact absurd o.at_ hgf;omega
    generalize (D.bs.getD i Dx).fs.getD j 0=g at *;have e0:=(a.2.cell (p:=(A_ qk (g*4))) l).trans L;have e1:=(a.2.cell (p:=(A_ qk (g*4+1))) l).trans M;have e2:=(a.2.cell (p:=(A_ qk (g*4+2))) l).trans k2;have aF:=(a.2.cell (p:=(A_ db 0)) aE).trans d0;have R:=KS.many_eq (D.ks.getD g Ay)
    have N:Hid (∀W:World,C_ 146 #[.agg #[.bool (D.ks.getD g Ay).e.wd,.slice ab (D.ks.getD g Ay).e.bs.length cb,.slice aw (D.ks.getD g Ay).e.ww.length cw]] W λe w'=>e=.returned (.int .i64 (D.ks.getD g Ay).many)/\E_ W w'):=λW=>by rw[<- R];exact Ji _ _ _ _ _ _ _ W o_
    clear R L M k2 J hgf m;generalize D.ks.getD g Ay=Kg at *;generalize Kg.e.wd=kwd at *;generalize Kg.e.bs.length=knb at *;generalize Kg.e.ww.length=knw at *;generalize Kg.many=km at *;generalize Nh D i j=oo at *;have aQ:0<=(g:Int):=o_;have aK:g<(nk:Int):=o_;go_wp2_with fail
    refine(N _).mono ?_;rintro e w5 ⟨rfl,r⟩;have S:=r;have aD:=x2_ ((r.block _ (Qb a.1).1).trans a.1) (a.2.trans (r.mono a9));clear r S a r0 r1 f0 f1 e0 e1 e2 aF N y0;go_wp2;go_roundw;case rel=>exact⟨j+1,by rw[Y];go_num,g_,o_,O,aD⟩
    case measure=>exact z_
   have aR:¬j<(nf:Int):=o_
   have d:i<c:=by
    by_cases e:i=c
    have h1:=m e;have h2:=o.hp;rw[<- e,C] at h2;omega;omega
   have a5:_:=a;clear r0 r1 f0 f1;go_wp2;go_roundw;case rel=>exact⟨i+1,_,_,g_,o_,a5⟩
   case measure=>exact z_
def Mw.below{w g f e D}(h:Mw w f e D)(b:Below w.heap.size w g):Mw g f e D:=by obtain⟨k,j,i,c,d,X,a⟩:=h.md;exact⟨(b.block _ (Qb h.gp).1).trans h.gp,k,j,i,c,d,X,a.ds.below b,a.kn.below b,a.perm,a.sorted⟩
def ZaZ d g f a D x w (h:Mw w d g D)(F:0<D.bs.length)(y:D.ks.length<=1000)(P:a<(D.bs.getD 0 Dx).N.length)(E:(D.bs.getD 0 Dx).N.length<=1000)(B:f<D.ks.length)(u:∀W:World,Mw W d g D->C_ 78 #[.pointer (some ⟨g,0,none⟩),.int .i64 a,.int .i64 f] W λe w'=>e=.returned (.int .i64 (x:Nat))/\Below W.heap.size W w'):C_ 44 #[.pointer (some ⟨d,0,none⟩),.int .i64 a,.int .i64 f] w λe w'=>e=.returned (.tuple #[.int .i64 x,.int .i64 0])/\Below w.heap.size w w':=by
 have C:=cR_ 0 h.gp;have r:=(Qb h.gp).1;have t:=x1_ h;have n:=x1_ u
 have m:Hid (∀W:World,Mw W d g D->C_ 52 #[.pointer (some ⟨d,0,none⟩),.int .i64 f] W λe w'=>e=.returned (.bool true)/\w'=W):=λW hW=>by have z:=Ie d g D (f:Int) W hW y;have G:decide (0<=(f:Int)/\f<=(D.ks.length:Int)-1)=true:=t_;rw[G] at z;exact z
 obtain⟨Q,R,I,A,H,X,v⟩:=h.md;have s:=Nq _ _ _ _ _ _ X w v.ds F;clear h v u y B;generalize (D.bs.getD 0 Dx).N.length=nr at *;have q:0<=(a:Int):=o_;have l:a<=(nr:Int)-1:=o_;go_enter Tryz.func44,Tryz.ntmps44;go_wp2_with fail
 refine s.mono ?_;rintro e O ⟨rfl,c⟩;have b:=x1_ c;have J:=(c.cell (p:=(A_ d 0)) r).trans C;clear c s;go_wp2_with fail
 refine(mo _ _ _ _ ⟨q,l⟩).mono ?_;rintro e M ⟨rfl,k⟩;obtain rfl:=k.symm;go_wp2_with fail
 refine(m _ (t.below b)).mono ?_;rintro e L ⟨rfl,j⟩;obtain rfl:=j.symm;go_wp2_with fail
 refine(n _ (t.below b)).mono ?_;rintro e S ⟨rfl,i⟩;have o:=x1_ (b.trans (i.mono b.size));clear i;go_wp2;go_ret2
 exact⟨rfl,o⟩
def Lh{n wd}{sc}:∀l s k {z p},Ca n wd sc s l k=.error (z,p)->z=2∨z=3
 |[],s,k,z,p,h=>by cases h
 | c::r,s,k,z,p,h=>by
  unfold Ca at h
  cases ht:Cw n wd sc s c with
  |error y=>rw[ht] at h;injection h with h;injection h with h1 h2;rw[<- h1];exact ul ht
  |ok s1=>rw[ht] at h;exact Lh r _ _ h
theorem ZcG b:(Aq b).length=b.size:=by unfold Aq;rw[List.length_map];rfl
structure uz(lw)(m)(wd:Nat->Bool)(ct:Nat->Int)(bins)(size)(s:RS):Prop where
 wok:(∃i,i<m+1/\wd i=true)->ZgN lw
 ok:∀i,i<m+1->Ol (Ck lw (wd i) (ct i) bins size (s.cols i) s.ws)/\(Ck lw (wd i) (ct i) bins size (s.cols i) s.ws).wd=wd i/\(Ck lw (wd i) (ct i) bins size (s.cols i) s.ws).cnt<=16
 num:∀i,i<m+1->∀v∈s.cols i,(-1000000000<=v.num/\v.num<=1000000000)/\v.word.size<=8
 ws:∀z∈s.ws,0<=z/\z<=99
section
variable {w wr:World} {K:Nat->Prop} {ib tb rb fb cb m:Nat} {wd:Nat->Bool} {sc ct:Nat->Int} {bins:Int} {size budget:Nat}
end
structure Si(m)(wd:Nat->Bool)(sc ct:Nat->Int)(bins:Int)(size budget:Nat):Prop where
 hm:m+1<=4
 sc:∀i,i<m+1->0<=sc i/\(wd i=false->sc i<=3)
 ct:∀i,i<m+1->wd i=true->1<=ct i
 b1:2<=bins
 b2:bins<=16
 s1:bins<=size
 s2:size<=32
 bu:budget<=20
def Db(w w':World)(o:Nat->Nat)(t:Nat)(k:Nat):Nat:=if k<w.heap.size then o k else if k<w'.heap.size then t else 99
def Ep w w' o t:Dq w o (Db w w' o t):=λk hk=>.inr (by unfold Db;rw[if_pos hk])
def Kp{w a o t k}(c:w.heap.size<=k)(b:k<a.heap.size):Db w a o t k=t:=by unfold Db;grind
theorem Dz{w a o t k}(b:k<w.heap.size):Db w a o t k=o k:=by unfold Db;rw[if_pos b]
def InX.keep{w w' K M ib tb rb fb cb n wd sc ct bins size budget s len S}(h:InX w K M ib tb rb fb cb n wd sc ct bins size budget s len)(t:Aa S w w')(hs:∀k,K k∨M k∨k=ib∨k=tb->¬S k):InX w' K M ib tb rb fb cb n wd sc ct bins size budget s len:=
 ⟨t.at_ h.ik (hs _ (.inr (.inr (.inl rfl)))),t.at_ h.tx (hs _ (.inr (.inr (.inr rfl)))),h.rd.touch t (λk hk=>hs k (hk.elim .inl (λe=>.inr (.inl e)))),h.ni,h.nt⟩
section
variable {w w':World} {o o':Nat->Nat} {t ib yb fk fc m:Nat} {wd:Nat->Bool} {sc ct:Nat->Int} {bins:Int} {size budget:Nat} {T b:ByteArray} {cl:Bool}
def Me(m:Nat)(wd:Nat->Bool)(sc:Nat->Int)(T:ByteArray):Except (Int×Nat) RS:=Ca (m+1) wd sc RS.start (Aq T) 0
def Oq(w:World)(o:Nat->Nat)(t ib m:Nat)(wd:Nat->Bool)(sc ct:Nat->Int)(bins:Int)(size budget:Nat)(T:ByteArray)(cl:Bool):Prop:=
 o ib=t/\ib<w.heap.size/\((cl=true/\∃z p,Sj w ib true z p)∨(cl=false/\∃z p,Me m wd sc T=.error (z,p)/\Sj w ib false z p)∨
 (cl=false/\∃s K M tb rb fb cb,Me m wd sc T=.ok s/\InX w K M ib tb rb fb cb (m+1) wd sc ct bins size budget s T.size/\(∀k,K k∨M k->k<w.heap.size/\o k=t)/\o tb=t))
def Oq.keep{S}(h:Oq w o t ib m wd sc ct bins size budget T cl)(b:Aa S w w')(i:∀k,k<w.heap.size->S k->o k≠t)(j:Dq w o o')(n:t≠99):Oq w' o' t ib m wd sc ct bins size budget T cl:=by
 obtain⟨g,c,l⟩:=h
 have f:∀k,k<w.heap.size->o k=t->o' k=t:=λk hk e=>by
  rcases j k hk with a|a
  omega;omega
 refine⟨f _ c g,Qh c b.size,?_⟩
 rcases l with⟨e,z,p,hd⟩|⟨e,z,p,hs2,hd⟩|⟨e,s,K,M,tb,rb,fb,cb,hs2,hx,hk,ht⟩
 exact .inl ⟨e,z,p,b.at_ hd (λa=>i _ c a g)⟩;exact .inr (.inl ⟨e,z,p,hs2,b.at_ hd (λa=>i _ c a g)⟩);have d:=(Qb hx.tx).1;refine .inr (.inr ⟨e,s,K,M,tb,rb,fb,cb,hs2,hx.keep b (λk hk2 a=>?_),λk hk2=>⟨Qh (hk k hk2).1 b.size,f k (hk k hk2).1 (hk k hk2).2⟩,f _ d ht⟩)
 grind
def Ws(m:Nat)(wd:Nat->Bool)(sc:Nat->Int)(T b:ByteArray)(cl:Bool):ByteArray:=if cl=true then T else match Me m wd sc T with
 |.error _=>T
 |.ok _=>T++b
def fdZ(m:Nat)(wd:Nat->Bool)(sc:Nat->Int)(T:ByteArray)(cl:Bool):Int×Int:=if cl=true then(1,0) else Nr (Me m wd sc T)
theorem ZcF T b:Aq (T++b)=Aq T++Aq b:=by unfold Aq;rw[ByteArray.data_append];simp
def feedX(y:Si m wd sc ct bins size budget)(h:Oq w o t ib m wd sc ct bins size budget T cl)(A:t≠99)(P:T.size+b.size<=200000000000000):C_ 32 #[.pointer (some ⟨ib,0,none⟩),.string b] w λe w'=>e=.returned (.tuple #[.int .i64 (fdZ m wd sc (Ws m wd sc T b cl) cl).1,.int .i64 (fdZ m wd sc (Ws m wd sc T b cl) cl).2])/\Oq w' (Db w w' o t) t ib m wd sc ct bins size budget (Ws m wd sc T b cl) cl/\Aa (λk=>o k=t) w w':=by
 have B:=h;obtain⟨D,C,F⟩:=h;have j:∀i,_->_->_/\_:=λi hi hw=>⟨(y.sc i hi).1,(y.sc i hi).2 hw⟩;have I:=y.hm
 rcases F with⟨e,z,p,hd⟩|⟨e,z,p,hs2,hd⟩|⟨e,s,K,M,tb,rb,fb,cb,hs2,hx,hk,ht⟩
 subst e;refine(ZaS b _ z p w hd).mono ?_;rintro e w' ⟨rfl,rfl⟩;have g:Ws m wd sc T b true=T:=rfl;rw[g];exact⟨rfl,B.keep (S:=λ_=>False) (Aa.refl _ _) (λ_ _ e=>e.elim) (Ep _ _ _ _) A,Aa.refl _ _⟩;subst e;have G:=Lh _ _ _ hs2;refine(ZcU b _ z p w hd G).mono ?_;rintro e w' ⟨rfl,x,rfl⟩;have g:Ws m wd sc T b false=T:=(by unfold Ws;rw[hs2];rfl);have v:fdZ m wd sc T false=(z,(p:Int)):=(by unfold fdZ;rw[hs2];rfl);have d:E_ w _:=below_drewN bz_ x;rw[g,v];exact⟨rfl,B.keep (S:=λ_=>False) (.of_below d) (λ_ _ e=>e.elim) (Ep _ _ _ _) A,.of_below d⟩
 subst e;have g:Ws m wd sc T b false=T++b:=by unfold Ws;rw[hs2];rfl
 have a:Me m wd sc (T++b)=Ca (m+1) wd sc s (Aq b) T.size:=(by grind [Me,ZcF,Je,ZcG]);have v:fdZ m wd sc (T++b) false=Nr (Ca (m+1) wd sc s (Aq b) T.size):=(by unfold fdZ;rw[a];rfl);rw[g,v];refine(ZhB b hx (Ht.takes o_ j _ (Ht.start o_) hs2) o_ I j o_).mono ?_;rintro e w' ⟨rfl,n,c⟩;have u:=(Qb hx.tx).1
 have f:=c.mono (λk _ hq=>by
  rcases hq with q|q|q
  exact(hk k (.inr q)).2;subst q;exact D
  grind)
 refine⟨rfl,⟨(Dz C).trans D,Qh C c.size,?_⟩,f⟩
 cases hq:Ca (m+1) wd sc s (Aq b) T.size with
 | error q=>
  obtain⟨z,p⟩:=q;rw[hq] at n;exact .inr (.inl ⟨rfl,z,p,by rw[a,hq],n⟩)
 | ok s'=>
  rw[hq] at n;obtain⟨E,r,L⟩:=n;have J:(T++b).size=_:=ByteArray.size_append;refine .inr (.inr ⟨rfl,s',K,E,tb,rb,fb,cb,by rw[a,hq],w_,λk hkm=>?_,(Dz u).trans ht⟩)
  have l:k<w'.heap.size:=by
   obtain⟨O,R,Q,N,H⟩:=r.rd
   rcases hkm with q|q
   exact Qh (hk k (.inl q)).1 c.size;exact H.ml k q
  refine⟨l,?_⟩
  by_cases hkl:k<w.heap.size
  ·grind [Dz]
  exact Kp o_ l
end
def ZaD x y r W:C_ 373 #[.agg #[.int .i64 (x:Nat),.int .i64 (y:Nat)],.int .i64 (r:Nat)] W λe w'=>e=.returned (.int .i64 (Lib.compareInt x r))/\Below W.heap.size W w':=by
 have b:Hid (∀w:_,Calls _ _ #[.int _ (x:_),.int _ (r:_)] w λe w'=>_):=λw=>Tryz.cmp_Compare_int _ _ w;generalize Lib.compareInt (x:Nat) (r:Nat)=c1 at *;go_enter Tryz.func373,Tryz.ntmps373;go_wp2_with fail
 refine(b _).mono ?_;rintro e c ⟨rfl,a⟩;obtain rfl:=a.symm;go_wp2;go_ret;exact⟨rfl,bA_⟩
def Zej x r:Lib.compareInt (x:Nat) (r:Nat)<0↔x<r:=by unfold Lib.compareInt;omega
def Zei x r:Lib.compareInt (x:Nat) (r:Nat)=0↔x=r:=by unfold Lib.compareInt;omega
structure ZgI(L:List (Nat×Nat))(r i):Prop where
 le:i<=L.length
 lo:∀k,k<i->(L.getD k (0,0)).1<r
 hi:∀k,i<=k->k<L.length->r<=(L.getD k (0,0)).1
def Mp(L:List (Nat×Nat))(r i:Nat):Bool:=decide (i<L.length/\(L.getD i (0,0)).1=r)
def ZlK(W:World)(L:List (Nat×Nat))(r:Nat)(e:Ending)(w':World):Prop:=∃i,e=.returned (.tuple #[I_ (i:Nat),.bool (Mp L r i)])/\ZgI L r i/\Below W.heap.size W w'
def Zfr a c r L w (h:Uf w 0 (.slice a L.length c) L)(P:L.Pairwise (λx y=>x.1<y.1))(U:L.length<=1000000):C_ 372 #[.slice a L.length c,.int .i64 (r:Nat),.func (.func 373) #[] #[]] w λe w'=>ZlK w L r e w':=by
 have G:=x1_ h
 have E:Hid (∀i j,i<j->j<L.length->(L.getD i (0,0)).1<(L.getD j (0,0)).1):=λi j D hj=>by grind [List.pairwise_iff_getElem]
 have I:=x1_ (λx y W=>ZaD x y r W);clear h P;generalize hnl:L.length=n at *;have d:=x1_ hnl;clear hnl;go_enter Tryz.func372,Tryz.ntmps372;go_wp2_with fail
 go_loopw [9,10] (λti tj wr=>∃(i j:Nat),ti=.int .i64 i/\tj=.int .i64 j/\i<=j/\j<=n/\Hid ((∀k,k<i->(L.getD k (0,0)).1<r)/\(∀k,j<=k->k<n->r<=(L.getD k (0,0)).1)/\E_ w wr)) (λti tj _=>(intOf tj).toNat-(intOf ti).toNat)
 case atStart=>exact⟨0,n,rfl,rfl,qg_,qa_,λk hk=>o_,λk t h2=>o_,bz_⟩
 case round=>
  obtain⟨i,j,rfl,rfl,D,o,b⟩:=hrel
  by_cases hlt:i<j
  ·have T:i<(j:Int):=o_;have H:(i+j)/2<n:=o_;obtain⟨q,B,f,u,v⟩:=(show Uf w 0 (.slice a L.length c) L by rw[d];exact G).atK (k:=(i+j)/2) (by rw[d];exact H);have e0:=(b.2.2.cell (p:=(A_ q ((i+j)/2*2))) f).trans u;have C:=(b.2.2.cell (p:=(A_ q ((i+j)/2*2+1))) f).trans v;clear u v;subst B;generalize hmm:(i+j)/2=m at *;have Q:(i+j)/2=(m:Int):=o_;have O:0<=(m:Int):=o_;have R:m<(n:Int):=o_;have V:=x1_ hmm;clear hmm
   have F:Hid ((∀k,k<=m->(L.getD k (0,0)).1<=(L.getD m (0,0)).1)/\(∀k,m<=k->k<n->(L.getD m (0,0)).1<=(L.getD k (0,0)).1)):=⟨λk hk=>by
    rcases Nat.lt_or_ge k m with t|t
    exact Nat.le_of_lt (E k m t H)
    grind,λk hk hkn=>by
    rcases Nat.lt_or_ge m k with t|t
    exact Nat.le_of_lt (E m k t hkn)
    grind⟩
   generalize (L.getD m (0,0)).1=xr at *;generalize (L.getD m (0,0)).2=xn at *;go_wp2_with fail
   refine(I _ _ _).mono ?_;rintro e N ⟨rfl,g⟩;have l:=x1_ (b.2.2.trans (g.mono b.2.2.size));clear g e0 C
   by_cases hx:xr<r
   ·have z:=(Zej _ r).2 hx;generalize Lib.compareInt (xr:Nat) (r:Nat)=c1 at *;go_wp2;go_roundw;case rel=>exact⟨m+1,j,g_,rfl,o_,o,λk hk=>by have:=F.1 k o_;omega,b.2.1,l⟩
    case measure=>exact z_
   have z:¬_:=λh=>hx ((Zej _ r).1 h);generalize Lib.compareInt (xr:Nat) (r:Nat)=c1 at *;go_wp2;go_roundw;case rel=>exact⟨i,m,rfl,rfl,o_,o_,b.1,λk t h2=>by have:=F.2 k t h2;omega,l⟩
   case measure=>exact z_
  have M:¬i<(j:Int):=o_;have A:i=j:=o_;subst A
  by_cases hin:i<n
  ·have J:i<(n:Int):=o_;have S:0<=(i:Int):=o_;obtain⟨q,B,f,u,v⟩:=(show Uf w 0 (.slice a L.length c) L by rw[d];exact G).atK (k:=i) (by rw[d];exact hin);have e0:=(b.2.2.cell (p:=(A_ q (i*2))) f).trans u;have C:=(b.2.2.cell (p:=(A_ q (i*2+1))) f).trans v;clear u v;subst B;have s:Hid (Mp L r i=decide ((L.getD i (0,0)).1=r)):=(by show _=_;unfold Mp;rw[d];simp[hin]);generalize (L.getD i (0,0)).1=xr at *;generalize (L.getD i (0,0)).2=xn at *;go_wp2_with fail
   refine(I _ _ _).mono ?_;rintro e N ⟨rfl,g⟩;have l:=x1_ (b.2.2.trans (g.mono b.2.2.size));clear g e0 C
   by_cases hx:xr=r
   ·have z:=(Zei _ r).2 hx;rw[z];go_wp2;go_ret2
    exact⟨i,by rw[s];simp[hx],⟨by rw[d];exact o,b.1,by rw[d];exact b.2.1⟩,l⟩
   have z:¬_:=λh=>hx ((Zei _ r).1 h);generalize Lib.compareInt (xr:Nat) (r:Nat)=c1 at *;go_wp2;go_ret2
   exact⟨i,by rw[s];simp[hx,z],⟨by rw[d];exact o,b.1,by rw[d];exact b.2.1⟩,l⟩
  have J:¬i<(n:Int):=o_;have s:Hid (Mp L r i=false):=(by show _=_;unfold Mp;rw[d];simp[hin]);go_wp2;go_ret2
  exact⟨i,by rw[s];rfl,⟨by rw[d];exact o,b.1,by rw[d];exact b.2.1⟩,b.2.2⟩
theorem dh N:∀k x,x∈Fu N k↔x.1<k/\x.2=N.getD x.1 0/\x.2≠0
 |0,x=>by simp[Fu]
 | k+1,x=>by
  obtain⟨x1,x2⟩:=x;rw[Fu,List.mem_append,dh N k]
  grind
def ku N:∀k,(Fu N k).Pairwise (λx y=>x.1<y.1)
 |0=>by simp[Fu]
 | k+1=>by
  rw[Fu,List.pairwise_append];refine⟨ku N k,by split<;>simp,λx hx y hy=>?_⟩
  grind [dh]
def ZhD{N k r i}(f:r<k)(h:ZgI (Fu N k) r i):(if Mp (Fu N k) r i=true then((Fu N k).getD i (0,0)).2 else 0)=N.getD r 0:=by
 have l:=ku N k;have d:=dh N k;generalize Fu N k=L at *
 by_cases h0:N.getD r 0=0
 ·grind [Mp]
 have b:(r,N.getD r 0)∈L:=(d _).2 ⟨f,rfl,h0⟩;obtain⟨p,c,g⟩:=List.getElem_of_mem b;have j:L.getD p (0,0)=(r,N.getD r 0):=w_
 have e:p=i:=by
  rcases Nat.lt_trichotomy p i with a|a|a
  ·have:=h.lo p a
   grind
  exact a;have m:=h.hi i qa_ o_
  grind [List.pairwise_iff_getElem]
 grind [Mp]
def zw r n d b z N w (h:vt w 0 r n d z (Fu N N.length))(v:b<N.length)(C:N.length<=1000000):C_ 371 #[.pointer (some ⟨r,0,none⟩),.int .i64 b] w λe w'=>e=.returned (.int .i64 (N.getD b 0:Nat))/\Below w.heap.size w w':=by
 obtain⟨a,c,rfl⟩:=h.row.shape;have t:=cR_ 2 h.blk;have m:=(Qb h.blk).1;have A:=x1_ h.row;have D:=Zfr a c b _ w h.row (ku N _) (by have:=Vy N N.length;omega);have B:Hid (∀i,ZgI (Fu N _) _ i->_):=λi g=>ZhD v g;clear h v C;generalize Fu N N.length=L at *;generalize N.getD b 0=res at *;go_enter Tryz.func371,Tryz.ntmps371;go_wp2_with fail
 refine D.mono ?_;rintro e I ⟨i,rfl,g,s⟩;have f:=B i g;have k:=x1_ s;have F:=(s.cell (p:=(A_ r 2)) m).trans t;have J:=x1_ g;clear s g t
 cases hf:Mp L b i
 ·have o:Hid (res=0):=(by rw[hf] at f;exact f.symm);clear f hf;generalize L.length=ll at *;go_wp2;go_ret;exact⟨by rw[o];rfl,k⟩
 have o:Hid (res=(L.getD i (0,0)).2):=(by rw[hf] at f;exact f.symm);have l:i<L.length:=(by simp only[Mp,decide_eq_true_eq] at hf;exact hf.1);obtain⟨q,rfl,j,y,u⟩:=A.atK l;have G:=(k.cell (p:=(A_ q (i*2+1))) j).trans u;clear f hf y u;have H:0<=(i:Int):=o_;have E:i<(L.length:Int):=o_;generalize (L.getD i (0,0)).2=x at *;generalize L.length=ll at *;go_wp2;go_ret;exact⟨by rw[o];rfl,k⟩
abbrev Ui(r f:Nat)(x:XS):Prop:=x.row<r∨x.row=r/\x.f<f
abbrev rp(r f:Nat)(x:XS):Prop:=x.row=r/\x.f=f
def ZjA x r f:Tj x ⟨r,f,0⟩<0↔Ui r f x:=by
 unfold Tj orI Ui Lib.compareInt
 grind
def Zjz x r f:Tj x ⟨r,f,0⟩=0↔rp r f x:=by
 unfold Tj orI rp Lib.compareInt
 grind
structure ZgJ(L:List XS)(r f i):Prop where
 le:i<=L.length
 lo:∀k,k<i->Ui r f (L.getD k Fk)
 hi:∀k,i<=k->k<L.length->¬Ui r f (L.getD k Fk)
def Iv(L:List XS)(r f i:Nat):Bool:=decide (i<L.length/\rp r f (L.getD i Fk))
def ZlL(W:World)(L:List XS)(r f:Nat)(e:Ending)(w':World):Prop:=∃i,e=.returned (.tuple #[I_ (i:Nat),.bool (Iv L r f i)])/\ZgJ L r f i/\Below W.heap.size W w'
def Zfs a c r f L w (h:Mh w 0 (.slice a L.length c) L)(hs:Fp L)(hl:L.length<=1000000):C_ 147 #[.slice a L.length c,.agg #[.int .i64 (r:Nat),.int .i64 (f:Nat),.int .i64 0],.func (.func 148) #[] #[]] w λe w'=>ZlL w L r f e w':=by
 have H0:=x1_ h
 have HS:Hid (∀i j,i<j->j<L.length->(L.getD i Fk).row<(L.getD j Fk).row∨(L.getD i Fk).row=(L.getD j Fk).row/\(L.getD i Fk).f<=(L.getD j Fk).f):=λi j M hj=>by
  have:=List.pairwise_iff_getElem.1 hs i j o_ hj M
  grind
 have HC:Hid (∀_ (W:_),Calls _ 148 #[_,.agg #[I_ (r:Nat),I_ (f:Nat),.int _ 0]] W λe w'=>_/\_):=λx W=>(Jw x ⟨r,f,0⟩ W).mono (λ_ _ h=>⟨h.1,h.2.below⟩);clear h hs;generalize hnl:L.length=n at *;have z:=x1_ hnl;clear hnl;go_enter Tryz.func147,Tryz.ntmps147;go_upto_region 1 with fail;generalize hW1:w.alloc (.cells #[I_ (r:Nat),I_ (f:Nat),I_ 0] 184)=w1;have Q:E_ w w1:=(by rw[<- hW1];exact bA_);have l:w1.heap[w.heap.size]? =some (.cells #[I_ r,I_ f,I_ 0] 184 (0,0)):=(by rw[<- hW1];exact hn_);have o:=(Qb l).1;have x0:=cR_ 0 l;have x1:=cR_ 1 l;have x2:=cR_ 2 l;have s:=x4_ Q x0 x1 x2;clear hW1 Q l x0 x1 x2;go_wp2_with fail
 go_loopw [9,10] (λti tj wr=>∃(i j:Nat),ti=.int .i64 i/\tj=.int .i64 j/\i<=j/\j<=n/\Hid ((∀k,k<i->Ui r f (L.getD k Fk))/\(∀k,j<=k->k<n->¬Ui r f (L.getD k Fk))/\E_ w1 wr)) (λti tj _=>(intOf tj).toNat-(intOf ti).toNat)
 case atStart=>exact⟨0,n,rfl,rfl,qg_,qa_,λk hk=>o_,λk y h2=>o_,bz_⟩
 case round=>
  obtain⟨i,j,rfl,rfl,M,C,g⟩:=hrel;have R:=(g.2.2.cell (p:=(A_ w.heap.size 0)) o).trans s.2.1;have O:=(g.2.2.cell (p:=(A_ w.heap.size 1)) o).trans s.2.2.1;have J:=(g.2.2.cell (p:=(A_ w.heap.size 2)) o).trans s.2.2.2;have H:=g.2.2.size;have b:=x1_ (s.1.trans (g.2.2.mono s.1.size))
  by_cases hlt:i<j
  ·have b1:i<(j:Int):=o_;have hm:(i+j)/2<n:=o_;obtain⟨q,U,d,E,G,N⟩:=H0.atK z (k:=(i+j)/2) hm;have e0:=(b.cell (p:=(A_ q ((i+j)/2*3))) d).trans E;have F:=(b.cell (p:=(A_ q ((i+j)/2*3+1))) d).trans G;have I:=(b.cell (p:=(A_ q ((i+j)/2*3+2))) d).trans N;clear E G N;subst U;have X:=Qh d b.size;have Y:=Qh o H;generalize hmm:(i+j)/2=m at *;have a2:(i+j)/2=(m:Int):=o_;have a1:0<=(m:Int):=o_;have a3:m<(n:Int):=o_;have HM:=x1_ hmm;clear hmm
   have HX:Hid ((∀k,k<=m->Ui r f (L.getD m Fk)->Ui r f (L.getD k Fk))/\(∀k,m<=k->k<n->¬Ui r f (L.getD m Fk)->¬Ui r f (L.getD k Fk))):=⟨λk hk hb=>by
    rcases Nat.lt_or_ge k m with y|y
    have:=HS k m y hm;omega
    grind,λk hk hkn hb=>by
    rcases Nat.lt_or_ge m k with y|y
    have:=HS m k y hkn;omega
    grind⟩
   have u:=HC (L.getD m Fk);have A:=ZjA (L.getD m Fk) r f;generalize hx:Ui r f (L.getD m Fk)=P at *;generalize Tj (L.getD m Fk) ⟨r,f,0⟩=c1 at *;generalize (L.getD m Fk).row=xr at *;generalize (L.getD m Fk).f=xf at *;generalize (L.getD m Fk).bin=xb at *;have B:Hid (∀W:_,Below _ wr W->Calls _ _ _ W λe _=>_/\_):=λW hW=>(u W).mono (λ_ _ h=>⟨h.1,hW.trans (h.2.mono hW.size)⟩);clear u hx;go_upto_region 5 with fail
   go_region_held3 (λw'=>w'.cell? (A_ q (m*3))=some (I_ (xr:Nat))/\w'.cell? (A_ q (m*3+1))=some (I_ (xf:Nat))/\w'.cell? (A_ q (m*3+2))=some (I_ (xb:Nat))/\w'.cell? (A_ w.heap.size 0)=some (I_ (r:Nat))/\w'.cell? (A_ w.heap.size 1)=some (I_ (f:Nat))/\w'.cell? (A_ w.heap.size 2)=some (I_ 0)) (first|exact⟨e0,F,I,R,O,J⟩|grind [Below.cell]) (first|(go_at_call 148;refine(B _ bz_.drew).mono ?_;rintro e w3 ⟨rfl,t⟩))
   have v:=x1_ (g.2.2.trans (t.mono g.2.2.size));clear t e0 F I R O J
   by_cases hc:c1<0
   ·have Z:=A.1 hc;have V:=decide_eq_true hc;go_wp2;go_roundw;case rel=>exact⟨m+1,j,g_,rfl,o_,C,λk hk=>HX.1 k o_ Z,g.2.1,v⟩
    case measure=>exact z_
   have Z:¬P:=λh=>hc (A.2 h);have V:=decide_eq_false hc;go_wp2;go_roundw;case rel=>exact⟨i,m,rfl,rfl,o_,o_,g.1,λk y h2=>HX.2 k y h2 Z,v⟩
   case measure=>exact z_
  have a0:¬i<(j:Int):=o_;have T:i=j:=o_;subst T
  by_cases hin:i<n
  ·have S:i<(n:Int):=o_;have V:=decide_eq_true S;have b3:0<=(i:Int):=o_;obtain⟨q,U,d,E,G,N⟩:=H0.atK z (k:=i) hin;have e0:=(b.cell (p:=(A_ q (i*3))) d).trans E;have F:=(b.cell (p:=(A_ q (i*3+1))) d).trans G;have I:=(b.cell (p:=(A_ q (i*3+2))) d).trans N;clear E G N;subst U;have X:=Qh d b.size;have Y:=Qh o H;have D:Hid (Iv L r f i=decide (Tj (L.getD i Fk) ⟨r,f,0⟩=0)):=by show _=_;unfold Iv;rw[z];simp only[hin,true_and,Zjz]
   have u:=HC (L.getD i Fk);generalize Tj (L.getD i Fk) ⟨r,f,0⟩=c1 at *;generalize (L.getD i Fk).row=xr at *;generalize (L.getD i Fk).f=xf at *;generalize (L.getD i Fk).bin=xb at *;have B:Hid (∀W:_,Below _ wr W->Calls _ _ _ W λe _=>_/\_):=λW hW=>(u W).mono (λ_ _ h=>⟨h.1,hW.trans (h.2.mono hW.size)⟩);clear u;go_upto_region 8 with fail;go_region_held3 (λw'=>w'.cell? (A_ q (i*3))=some (I_ (xr:Nat))/\w'.cell? (A_ q (i*3+1))=some (I_ (xf:Nat))/\w'.cell? (A_ q (i*3+2))=some (I_ (xb:Nat))/\w'.cell? (A_ w.heap.size 0)=some (I_ (r:Nat))/\w'.cell? (A_ w.heap.size 1)=some (I_ (f:Nat))/\w'.cell? (A_ w.heap.size 2)=some (I_ 0)) (first|exact⟨e0,F,I,R,O,J⟩|grind [Below.cell]) (first|(go_at_call 148;refine(B _ bz_.drew).mono ?_;rintro e w3 ⟨rfl,t⟩))
   have v:=x1_ (b.trans (t.mono b.size));clear t e0 F I R O J;go_wp2;go_ret2
   exact⟨i,by rw[D];rfl,⟨by rw[z];exact C,g.1,by rw[z];exact g.2.1⟩,v⟩
  have S:¬i<(n:Int):=o_;have V:=decide_eq_false S;have D:Hid (Iv L r f i=false):=(by show _=_;unfold Iv;rw[z];simp[hin]);clear R O J;go_upto_region 8 with fail;go_quiet (fail);go_wp2;go_ret2
  exact⟨i,by rw[D];rfl,⟨by rw[z];exact C,g.1,by rw[z];exact g.2.1⟩,below_drewN b _⟩
def xbF(X:List XS)(f row d:Nat):Nat:=
 match X.find? (λy=>decide (rp row f y)) with
 |some y=>y.bin
 |none=>d
def iz(D:Zh)(X:List XS)(f bi p row:Nat):Nat:=
 if Nh D bi p<=(D.bs.getD bi Dx).N.getD row 0/\(D.bs.getD bi Dx).N.getD row 0<Nh D bi p+(D.ks.getD f Ay).many then(D.bs.getD bi Dx).N.getD row 0-Nh D bi p
 else xbF X f row (D.ks.getD f Ay).d
def Zi7{X:List XS}{r f i d:Nat}(o:Fp X)(h:ZgJ X r f i):xbF X f r d=if Iv X r f i=true then(X.getD i Fk).bin else d:=by
 unfold xbF
 have a:∀k _,X.getD k Fk=X[k]:=λk b=>by rw[Qc,Qd b];rfl
 by_cases hf:Iv X r f i=true
 rw[if_pos hf];simp only[Iv,decide_eq_true_eq] at hf;have:X.find? (λy=>decide (rp r f y))=some X[i]:=(by rw[List.find?_eq_some_iff_getElem];refine⟨by rw[<- a i hf.1];exact decide_eq_true hf.2,i,hf.1,rfl,λj hj=>?_⟩;have:=h.lo j hj;rw[a j o_] at this;unfold Ui at this;rw[Bool.not_eq_true',decide_eq_false_iff_not];unfold rp;omega);rw[this,a i hf.1];rw[if_neg hf]
 have:X.find? (λy=>decide (rp r f y))=none:=by
  rw[List.find?_eq_none];intro y p;obtain⟨k,b,rfl⟩:=List.getElem_of_mem p;simp only[decide_eq_true_eq];intro g
  rcases Nat.lt_or_ge k i with n|n
  have:=h.lo k n;rw[a k b] at this;unfold Ui at this;unfold rp at g;omega;apply hf;simp only[Iv,decide_eq_true_eq];have c:i<X.length:=o_;refine⟨c,?_⟩;have l:=h.hi i qa_ c;rw[a i c] at l ⊢
  rcases Nat.lt_or_ge i k with m|m
  have:=List.pairwise_iff_getElem.1 o i k c b m;unfold Ui at l;unfold rp at g ⊢;omega;have e:k=i:=o_;subst e;exact g
 rw[this]
def ZkG{p:Prop}(h:p:=by
 have HSE:=ZiH _ f _ p _ _ _ _ _ X D w h hs hbl;obtain⟨hI,_⟩:=h.ds.bn.each bi hs.hb;obtain⟨fa,fcc,hvf⟩:=hI.shape;have hfk:=hs.fk _ p qa_ hs.hp;rw[hs.at_] at hfk;have hmn:=hs.mn f hfk;obtain⟨qk,cK,ab,cb,aw,cw,hvK,hqkl,k0,k1,k2,k3,_⟩:=h.kn.at hfk;subst hvK;obtain⟨xa,xc,hvX⟩:=h.ds.xn.shape;subst hvX;have d0:w.cell? _=some (.slice _ _ _):=cq_ 0 _ _ _ h.ds.blk;have d2:w.cell? _=some (.slice _ _ _):=cq_ 2 _ _ _ h.ds.blk;have hdl:=(Qb h.ds.blk).1;rw[hvf,hvc] at HSE;have HAT:=x1_ hat;have HMN:=KS.many_eq (D.ks.getD f Ay)
 have HHM:Hid (∀W:World,Calls Tryz.prog 146 #[.agg #[.bool (D.ks.getD f Ay).e.wd,.slice ab (D.ks.getD f Ay).e.bs.length cb,.slice aw (D.ks.getD f Ay).e.ww.length cw]] W λe w'=>e=.returned (.int .i64 (((D.ks.getD f Ay).many:Nat):Int))/\Below W.heap.size W w'):=λW=>by rw[<- HMN];exact Ji _ _ _ _ _ _ _ W (by unfold KS.many ES.cnt at hmn;omega)
 have HXW:Hid (∀W:_,_->Mh W 0 _ X):=λW hW=>(Aa.of_below (S:=λ_=>False) hW).row h.ds.xn (λ_ _=>id);have HFX:=x1_ (λW hW=>Zfs _ _ row f X W (HXW.out W hW) h.sorted hxl);have HLF:Hid (iz D X f bi p row=if _/\_ then _ else _):=rfl;have HXB:Hid (∀i,ZgJ X row f i->xbF X f row (D.ks.getD f Ay).d=_):=λi hi=>Zi7 h.sorted hi;clear HMN hvf hvc hI hs h hat hbl;generalize iz D X f bi p row=res at *;generalize (D.bs.getD bi Dx).N.getD row 0=x at *;generalize Nh D bi p=off at *;generalize (Av (D.bs.getD bi Dx).fs).length=nf at *;generalize D.ks.getD f Ay=Kf at *;generalize xbF X f row Kf.d=xres at *;generalize Kf.e.wd=kwd at *;generalize Kf.e.bs.length=knb at *;generalize Kf.e.ww.length=knw at *;generalize Kf.many=km at *;generalize Kf.d=kd at *;generalize hnk:D.ks.length=nk at *
 clear hnk;generalize hnx:X.length=nx at *;have HNX:=x1_ hnx;clear hnx;have bf1:(0:Int)<=(f:Int):=o_;have bf2:(f:Int)<(nk:Int):=o_;go_enter Tryz.func78,Tryz.ntmps78;go_wp2_with fail
 refine HSE.mono ?_;rintro e w2 ⟨rfl,hb2⟩;have HB2:=x1_ hb2;clear hb2 HSE;go_wp2_with fail
 refine(HAT.out _ (HB2.out.alloc HB2.out.size _)).mono ?_;rintro e w3 ⟨rfl,hb3⟩;have HB3:=x1_ ((HB2.out.alloc HB2.out.size _).trans (hb3.mono (by have:=HB2.out.size;simp;omega)));have d0w:=(HB3.out.cell (p:=⟨db,0,none⟩) hdl).trans d0;have d2w:=(HB3.out.cell (p:=⟨db,2,none⟩) hdl).trans d2;have e0:=(HB3.out.cell (p:=⟨qk,f*4,none⟩) hqkl).trans k0;have e1:=(HB3.out.cell (p:=⟨qk,f*4+1,none⟩) hqkl).trans k1;have e2:=(HB3.out.cell (p:=⟨qk,f*4+2,none⟩) hqkl).trans k2;clear hb3 HB2
 by_cases hlo:off<=x
 ·obtain⟨bn,hbn⟩:∃bn,bn=x-off:=⟨_,rfl⟩;have q1:(x:Int)-(off:Int)=(bn:Int):=o_;have q2:_=(bn:Int):=Cb o_ o_;have q3:(0:Int)<=(bn:Int):=o_;have HBN:=x1_ hbn;clear hbn;go_wp2_with fail
  refine(HHM.out _).mono ?_;rintro e w4 ⟨rfl,hb4⟩;have HB4:=x1_ (HB3.out.trans (hb4.mono HB3.out.size));clear hb4
  by_cases hhi:x<off+km
  ·have q4:(bn:Int)<(km:Int):=(by have:=HBN.out;omega);have HE:Hid (res=bn):=(by have:=HLF.out;rw[if_pos ⟨hlo,hhi⟩] at this;exact this.trans HBN.out.symm);go_wp2;go_ret;exact⟨by rw[HE.out];rfl,HB4.out⟩
  have q4:¬(bn:Int)<(km:Int):=(by have:=HBN.out;omega);have HE:Hid (res=xres):=(by have:=HLF.out;rw[if_neg (λh=>hhi h.2)] at this;exact this);have d2x:=(HB4.out.cell (p:=⟨db,2,none⟩) hdl).trans d2;clear d0w d2w e0 e1 e2;go_wp2_with fail
  refine(HFX.out _ HB4.out).mono ?_;rintro e w5 ⟨i,rfl,hi,hb5⟩;have HB5:=x1_ (HB4.out.trans (hb5.mono HB4.out.size));have hxb:=HXB.out i hi;have d0y:=(HB5.out.cell (p:=⟨db,0,none⟩) hdl).trans d0;have d2y:=(HB5.out.cell (p:=⟨db,2,none⟩) hdl).trans d2;have e3:=(HB5.out.cell (p:=⟨qk,f*4+3,none⟩) hqkl).trans k3;clear hb5
  cases hf:Iv X row f i
  ·have HR:Hid (res=kd):=(by rw[hf] at hxb;exact HE.out.trans hxb);clear hxb hf hi;go_wp2;go_ret;exact⟨by rw[HR.out];rfl,HB5.out⟩
  have HR:Hid (res=(X.getD i Fk).bin):=(by rw[hf] at hxb;exact HE.out.trans hxb);have hil:i<nx:=(by simp only[Iv,decide_eq_true_eq] at hf;have:=hf.1;rw[HNX.out] at this;exact this);obtain⟨q,hq,hql,_,_,y2⟩:=(HXW.out _ HB5.out).atK HNX.out hil;subst hq;have b1:(0:Int)<=(i:Int):=o_;have b2:(i:Int)<(nx:Int):=o_;clear hxb hf hi;generalize (X.getD i Fk).bin=xb at *;go_wp2;go_ret;exact⟨by rw[HR.out];rfl,HB5.out⟩
 have q1:_=(x:Int)-(off:_):=Cb o_ o_;have q3:¬(0:Int)<=(x:Int)-(off:Int):=o_;have HE:Hid (res=xres):=(by have:=HLF.out;rw[if_neg (λh=>hlo h.1)] at this;exact this);have HB4:=x1_ HB3.out;go_wp2_with fail
 refine(HFX.out _ HB4.out).mono ?_;rintro e w5 ⟨i,rfl,hi,hb5⟩;have HB5:=x1_ (HB4.out.trans (hb5.mono HB4.out.size));have hxb:=HXB.out i hi;have d0y:=(HB5.out.cell (p:=⟨db,0,none⟩) hdl).trans d0;have d2y:=(HB5.out.cell (p:=⟨db,2,none⟩) hdl).trans d2;have e3:=(HB5.out.cell (p:=⟨qk,f*4+3,none⟩) hqkl).trans k3;clear hb5
 cases hf:Iv X row f i
 ·have HR:Hid (res=kd):=(by rw[hf] at hxb;exact HE.out.trans hxb);clear hxb hf hi;go_wp2;go_ret;exact⟨by rw[HR.out];rfl,HB5.out⟩
 have HR:Hid (res=(X.getD i Fk).bin):=(by rw[hf] at hxb;exact HE.out.trans hxb);have hil:i<nx:=(by simp only[Iv,decide_eq_true_eq] at hf;have:=hf.1;rw[HNX.out] at this;exact this);obtain⟨q,hq,hql,_,_,y2⟩:=(HXW.out _ HB5.out).atK HNX.out hil;subst hq;have b1:(0:Int)<=(i:Int):=o_;have b2:(i:Int)<(nx:Int):=o_;clear hxb hf hi;generalize (X.getD i Fk).bin=xb at *;go_wp2;go_ret
 exact⟨by rw[HR.out];rfl,HB5.out⟩):p:=h
def yw(db f bi p row cp:Nat)(vK vB vX:Value)(kvs bvs:List (Value×Value))(X:List XS)(D:Zh)(w:World)(h:Sm w db vK vB vX kvs bvs X D)(hs:et D f bi p)(hbl:D.bs.length<=1000)(hxl:X.length<=1000000)(hN:(D.bs.getD bi Dx).N.getD row 0<64)(hoff:Nh D bi p<=100000)(hvc:(bvs.getD bi Oi).2=.iface 382 (.pointer (some ⟨cp,0,none⟩)))(hat:∀W:World,Below w.heap.size w W->Calls Tryz.prog 323 #[.pointer (some ⟨cp,0,none⟩),.int .i64 (row:Nat)] W λe w'=>e=.returned (.int .i64 ((D.bs.getD bi Dx).N.getD row 0:Nat))/\Below W.heap.size W w'):Calls Tryz.prog 78 #[.pointer (some ⟨db,0,none⟩),.int .i64 (row:Nat),.int .i64 (f:Nat)] w λe w'=>e=.returned (.int .i64 (iz D X f bi p row:Nat))/\Below w.heap.size w w':=by
 have hme:∀W:World,(method 535 382 (.pointer (some ⟨cp,0,none⟩)) "At").run Tryz.prog W=.ok (323,.pointer (some ⟨cp,0,none⟩)) W:=λW=>k_
 exact ZkG
def pz(db f bi p row cp:Nat)(vK vB vX:Value)(kvs bvs:List (Value×Value))(X:List XS)(D:Zh)(w:World)(h:Sm w db vK vB vX kvs bvs X D)(hs:et D f bi p)(hbl:D.bs.length<=1000)(hxl:X.length<=1000000)(hN:(D.bs.getD bi Dx).N.getD row 0<64)(hoff:Nh D bi p<=100000)(hvc:(bvs.getD bi Oi).2=.iface 380 (.pointer (some ⟨cp,0,none⟩)))(hat:∀W:World,Below w.heap.size w W->Calls Tryz.prog 371 #[.pointer (some ⟨cp,0,none⟩),.int .i64 (row:Nat)] W λe w'=>e=.returned (.int .i64 ((D.bs.getD bi Dx).N.getD row 0:Nat))/\Below W.heap.size W w'):Calls Tryz.prog 78 #[.pointer (some ⟨db,0,none⟩),.int .i64 (row:Nat),.int .i64 (f:Nat)] w λe w'=>e=.returned (.int .i64 (iz D X f bi p row:Nat))/\Below w.heap.size w w':=by
 have hme:∀W:World,(method 535 380 (.pointer (some ⟨cp,0,none⟩)) "At").run Tryz.prog W=.ok (371,.pointer (some ⟨cp,0,none⟩)) W:=λW=>k_
 exact ZkG
def cm:(Tryz.prog.info? 25).map (λi=>(i.zero,i.size,i.bytes))=some (some (.slice none 0 0),1,24):=k_
def Zdg(n:Nat)(f:n<=1000000) W:(Instr.makeSlice 84 (I_ n) (I_ n)).run Tryz.prog W=.ok (L_ W.heap.size n n) (W.alloc (.cells (madeCells #[.slice none 0 0] n) 25)):=by obtain⟨e,a,d,b,c⟩:=info_parts cm;have:=run_make (P:=Tryz.prog) W 84 25 e _ Tryz.underlying84 a d .i64 .i64 (n:Int) (n:Int) o_ o_ (by rw[c];omega) o_;rw[b] at this;rw[this,Int.toNat_natCast,Nat.mul_one];rfl
structure Ku(w)(base q n i:Nat)(Ls:List (List Int)):Prop where
 cur:∃c:Array Value,w.heap[q]? =some (.cells c 25 (0,0))/\c.size=n/\(∀j,j<i->∃v,c[j]? =some v/\Ag w base v (Ls.getD j []))/\∀j k,j<k->k<i->∀u v x,c[j]? =some u->c[k]? =some v->u.ownBlock=some x->v.ownBlock≠some x
def Ku.below{w b base q n i d}(h:Ku w base q n i d)(a:Below w.heap.size w b):Ku b base q n i d:=by
 obtain⟨c,e,f,l,g⟩:=h.cur
 exact⟨c,(a.block q (Qb e).1).trans e,f,λj hj=>by
  obtain⟨v,m,k⟩:=l j hj
  exact⟨v,m,k.below a⟩,g⟩
def Ku.put{w a q n i b v}(h:Ku w a q n i b)(g:i<n)(m:Ag w a v (b.getD i [])){B}(r:∀x,v.ownBlock=some x->B<=x)(p:∀c:Array Value,w.heap[q]? =some (.cells c 25 (0,0))->∀j,j<i->∀u,c[j]? =some u->∀x,u.ownBlock=some x->x<B):Ku (w.setCell (A_ q i) v) a q n (i+1) b:=by
 obtain⟨c,d,f,o,s⟩:=h.cur;refine⟨c.setIfInBounds i v,hs_ w q i c _ v d,by simp[f],λj hj=>?_,λj k hjk hki u y x e hy hx=>?_⟩
 rotate_left
 ·rw[Array.getElem?_setIfInBounds_ne o_] at e
  by_cases hk:k=i
  ·grind
  grind
 by_cases hji:j=i
 subst hji;exact⟨v,by simp[f,g],As m d d_⟩;obtain⟨u,e,l⟩:=o j o_;exact⟨u,w_,As l d d_⟩
def Xg(D:Zh):List (List Int):=D.bs.map (λb=>Av b.fs)
theorem Vh{D i}(h:i<D.bs.length):(Xg D).getD i []=Av (D.bs.getD i Dx).fs:=by grind [Xg]
def ZkV(w:World)(D:Zh)(x:Ending)(w':World):Prop:=∃q,x=.returned (L_ q D.bs.length D.bs.length)/\w.heap.size<=q/\Ku w' w.heap.size q D.bs.length D.bs.length (Xg D)/\Below w.heap.size w w'
def pd db vK vB vX V a4 X D w (h:Sm w db vK vB vX V a4 X D)(h0:0<D.bs.length)(aJ:D.bs.length<=1000)(F:∀i,i<D.bs.length->0<(D.bs.getD i Dx).fs.length/\(D.bs.getD i Dx).fs.length<=1000):C_ 94 #[.pointer (some ⟨db,0,none⟩)] w λe w'=>ZkV w D e w':=by
 have HM:=x1_ h;have HF:=x1_ F;obtain⟨qb,cB,R,aA,_,_⟩:=h.ds.bn.at (i:=0) h0;subst R;have d1:=cR_ 1 h.ds.blk;have a8:=(Qb h.ds.blk).1;have a0:∀W:_,(Instr.makeSlice _ _ (.int _ (D.bs.length:_))).run _ W=_:=Zdg _ o_;clear h F;generalize hnb:D.bs.length=nb at *;have S:=x1_ hnb;clear hnb;go_enter Tryz.func94,Tryz.ntmps94;go_upto_region 2 with fail;generalize hW1:w.alloc (.cells (madeCells #[.slice none 0 0] nb) 25)=w1;have C:E_ w w1:=by rw[<- hW1];exact bA_
 have aI:Hid (Ku w1 w.heap.size w.heap.size nb 0 (Xg D)/\E_ w w1):=(by refine⟨⟨_,by rw[<- hW1];exact hn_,by simp[madeCells],λj hj=>o_,λj k _ hk=>o_⟩,C⟩);have aH:=(C.cell (p:=(A_ db 1)) a8).trans d1;clear hW1 C a0 d1;go_wp2_with fail
 go_loopw [17] (λti wr=>∃(i:Nat),ti=.int .i64 i/\i<=nb/\Hid (Ku wr w.heap.size w.heap.size nb i (Xg D)/\E_ w wr)) (λti _=>nb-(intOf ti).toNat)
 case atStart=>grind
 case round=>
  obtain⟨i,rfl,aC,s⟩:=hrel
  by_cases hin:i<nb
  ·have y:i<D.bs.length:=(by rw[S];exact hin);obtain⟨Q,c',a7,G,P,U⟩:=HM.ds.bn.at y;have Z:Q=qb:=w_;subst Z;obtain⟨J,q⟩:=HM.ds.bn.each i y;obtain⟨fa,t,z⟩:=J.shape;obtain⟨ct,cp,E⟩:=q.iface;rw[Aw] at z;rw[z] at P J;rw[E] at U;obtain⟨aG,aF⟩:=HF i hin;have e0:=(s.2.cell (p:=(A_ Q (i*2))) G).trans P;have e1:=(s.2.cell (p:=(A_ Q (i*2+1))) G).trans U;have T:=x1_ (Vh y);have HI:=x1_ J
   have hq:∃O,fa=some ⟨O,0,none⟩:=by
    rcases J.2 with⟨e,h1⟩|⟨g,cap,cur,e,_⟩
    ·grind
    grind
   obtain⟨O,rfl⟩:=hq;have aD:0<=(i:Int):=o_;have aE:i<(nb:Int):=o_;clear z E J q P U a7;generalize hnf:(D.bs.getD i Dx).fs.length=nf at *;have m:Hid ((Av (D.bs.getD i Dx).fs).length=nf):=(by show _=_;rw[Aw];exact hnf);clear hnf;go_upto_region 5 with fail;generalize hW2:wr.alloc (.cells #[L_ O nf t,.iface ct (P_ cp)] 163)=w2;have B:E_ wr w2:=(by rw[<- hW2];exact bA_);have I:w2.heap[wr.heap.size]? =some (.cells #[L_ O nf t,.iface ct (P_ cp)] 163 (0,0)):=(by rw[<- hW2];exact hn_);have x0:=cR_ 0 I;have d:=x2_ (s.1.below B) (s.2.trans (B.mono s.2.size));clear hW2 I e0 e1 B s;have M:=HI.below d.2
   have HC:=Tryz.slices_Clone_int _ 0 _ t _ _ (by rw[m];exact qa_) o_ (λj hj=>by
    obtain⟨q3,b,_,_,y0,_⟩:=M.atK m (k:=j) (by rw[<- m];exact hj);injection b with b;injection b with b _;subst b;rw[Nat.zero_add]
    exact y0)
   clear M;go_wp2_with fail
   refine HC.mono ?_;clear HC;rintro e N ⟨Y,rfl,f,_,l⟩;have A:=d.1.below l;have o:=d.2.size;have r:=d.2.trans (l.mono o);have L:Ag N w.heap.size Y ((Xg D).getD i []):=by rw[T];rw[<- m,List.take_length] at f;exact Ag.mono (b':=w2.heap.size) f o
   have H:∀c:Array Value,N.heap[w.heap.size]? =some (.cells c 25 (0,0))->∀j,j<i->∀u,c[j]? =some u->∀x,u.ownBlock=some x->x<w2.heap.size:=λc hc j hj u hu x hx=>by obtain⟨c2,a1,_,a3,_⟩:=d.1.cur;have a9:=(l.block _ (Qb a1).1).trans a1;rw[a9] at hc;simp at hc;subst hc;obtain⟨u2,a6,ho⟩:=a3 j hj;rw[a6] at hu;injection hu with hu;subst hu;exact(rl_ ho x hx).2
   obtain⟨cu,v,a2,_⟩:=A.cur
   have y0:N.cell? (A_ w.heap.size i)=some (cu[i]' o_):=by
    rw[cq_ i _ 25 (0,0) v]
    grind
   have f0:=fq_ i _ _ v;generalize (cu[i]' o_)=u0 at y0;have HP:Hid (_/\Below _ w (N.setCell (A_ w.heap.size i) Y)):=⟨A.put hin L (λx hx=>(rl_ f x hx).1) H,r.setCell qa_ _⟩
   obtain⟨a3,n3,c3,rfl⟩:∃a n c,Y=.slice a n c:=by
    rcases f.2 with⟨rfl,_⟩|⟨g,cap,cur,rfl,_⟩
    omega
    grind
   clear A r L v a2 l f H;go_wp2;go_roundw;case rel=>grind
   case measure=>exact z_
  have aB:¬i<(nb:Int):=o_;have a5:i=nb:=o_;subst a5;go_wp2;go_ret;refine⟨w.heap.size,by rw[S];rfl,qa_,?_,s.2⟩;rw[S];exact s.1
def ym g j D w (h:Mw w g j D)(d:0<D.bs.length)(b:D.bs.length<=1000)(a:∀i,i<D.bs.length->0<(D.bs.getD i Dx).fs.length/\(D.bs.getD i Dx).fs.length<=1000):C_ 55 #[.pointer (some ⟨g,0,none⟩)] w λe w'=>ZkV w D e w':=by
 have p:=cR_ 0 h.gp;obtain⟨s,r,o,l,n,X,c⟩:=h.md;have k:=pd _ _ _ _ _ _ X D w c d b a;clear h c a d b;go_enter Tryz.func55,Tryz.ntmps55;go_wp2_with fail
 refine k.mono ?_;rintro e t ⟨q,rfl,f⟩;have m:=x1_ f;clear f;generalize hnb:D.bs.length=nb at *;go_wp2;go_ret;exact⟨q,by rw[hnb];rfl,by rw[hnb];exact m⟩
theorem Ps tot bins:∀M share,(Fe tot bins share M).Sublist (M.map λe=>e.v)
 |[],_=>by simp[Fe]
 |e::r,share=>by unfold Fe;split;exact List.Sublist.cons_cons _ (Ps _ _ r _);exact(Ps _ _ r _).cons _
def Pr{tot bins B}:∀M share,(∀e∈M,Ce bins tot e.hi<=B)->share<=B+1->(Fe tot bins share M).length<=B+1-share
 |[],share,_,h=>by simp[Fe];omega
 | e ::r,share,hB,h=>by
  have h1:=hB e s_;have hr:=λx hx=>hB x (List.mem_cons_of_mem e hx);unfold Fe;split
  ·have:=Pr r (Ce bins tot e.hi+1) hr o_
   grind
  exact Pr r _ hr h
def Yo L a:(Bx L a).Sublist ((L.take (L.length-1)).map λe=>e.v):=by grind [Bx,Ps]
def wu{L}(g:Bq L) a:(Bx L a).Pairwise (· < ·):=by refine List.Pairwise.sublist ((Yo L _).trans ((List.take_sublist _ _).map _)) ?_;rw[List.pairwise_map];exact g.step.imp λh=>h.1
def Zaw{L}(g:Bq L){a}(n:2<=a):(Bx L a).length<a:=by
 unfold Bx;split;simp;omega;rename_i h0;split
 ·grind
 have o:=g.at (i:=L.length-1) o_;have c:Ae L=(L.getD (L.length-1) e0).hi:=(by unfold Ae;rw[if_neg h0]);have:=Pr (tot:=Ae L) (bins:=a) (B:=a-1) (L.take (L.length-1)) 1 (λe he=>?_) o_;omega;obtain⟨k,h,rfl⟩:=Zh8 he;rw[List.length_take] at h;have b:k<L.length-1:=o_;have f:(L.take (L.length-1)).getD k e0=L.getD k e0:=w_;rw[f];have m:=(g.lt (i:=k) (j:=L.length-1) b o_).2.2;unfold Ce;have d:_*(L.getD k e0).hi<a*Ae L:=Int.mul_lt_mul_of_pos_left o_ o_;have l:=Int.ediv_lt_of_lt_mul o_ d;omega
theorem sr L c {a b}(i:L.length<=200)(e:2<=b)(d:b<=32)(f:2<=a):(Co L c a b).Pairwise (· < ·)/\(Co L c a b).length<a:=by have h:((Bi L c).map Prod.fst).length<=2097152:=(by have:=Iw L c;simp;omega);have g:=(Qp e d _ ((Bi L c).map Prod.snd) h).1;exact⟨wu g _,Zaw g f⟩
structure Rz(n)(s:RS):Prop where
 ws:∀z∈s.ws,0<=z/\z<=99
 row:∀v∈s.row,(-1000000000<=v.num/\v.num<=1000000000)/\v.word.size<=8
 col:∀i,i<n->∀v∈s.cols i,(-1000000000<=v.num/\v.num<=1000000000)/\v.word.size<=8
def Rz.start n:Rz n RS.start:=⟨by simp[RS.start],by simp[RS.start],by simp[RS.start]⟩
def Fv.of{p}(h:Fv p){a}(c:a.length<=8):(-1000000000<=(Gq p a).num/\(Gq p a).num<=1000000000)/\(Gq p a).word.size<=8:=by have d:=h.le;have b:=h.n0;refine⟨?_,?_⟩;show -1000000000<=Qv p/\Qv p<=1000000000;unfold Qv;split<;>omega;show(strOfNums a).size<=8;have:(strOfNums a).size=a.length:=(by simp[strOfNums,ByteArray.size]);omega
def Rz.take{n g j s f c}(h:Rz n s)(d:Ht n s)(a:Cw n g j s c=.ok f):Rz n f:=by
 unfold Cw at a;split at a
 ·cases a
 split at a
 ·split at a
  ·cases a
  injection a with a;subst a;exact⟨h.ws,h.row,h.col⟩;injection a with a;subst a;exact⟨h.ws,h.row,h.col⟩
 split at a;injection a with a;subst a;exact⟨h.ws,h.row,h.col⟩;split at a
 ·injection a with a;subst a
  have b:∀v∈s.row++[Gq s.p s.bs],(-1000000000<=v.num/\v.num<=1000000000)/\v.word.size<=8:=λv hv=>by
   rcases List.mem_append.1 hv with e|e
   exact h.row v e;simp only[List.mem_singleton] at e;rw[e];exact d.num.of d.bs
  unfold Gd;split
  ·refine⟨λz hz=>?_,s_,λi hi v hv=>?_⟩
   ·rcases List.mem_append.1 hz with e|e
    exact h.ws z e;simp only[List.mem_singleton] at e;rw[e];exact⟨d.wt0,d.wt1⟩
   simp only[hi,if_true] at hv
   rcases List.mem_append.1 hv with e|e
   exact h.col i hi v e
   grind
  exact⟨h.ws,b,h.col⟩
 cases a
def Rz.takes{n wd sc}(hn:1<=n)(hsc:∀i,i<n->wd i=false->0<=sc i/\sc i<=3):∀l {s s' k},Rz n s->Ht n s->Ca n wd sc s l k=.ok s'->Rz n s'
 |[],s,s',k,h,_,e=>by injection e with e;subst e;exact h
 | c::l,s,s',k,h,hI,e=>by
  simp only[Ca] at e
  cases ht:Cw n wd sc s c with
  |error z=>grind
  |ok s1=>rw[ht] at e;exact Rz.takes hn hsc l (h.take hI ht) (hI.take hn hsc ht) e
structure ZgM(lw):Prop where
 ok:ZgN lw
 fine:∀(L) (ws) (ct bins),L.length<=200->2<=bins->bins<=16->Ol (lw L ws ct bins)/\(lw L ws ct bins).wd=true/\(lw L ws ct bins).cnt<=16
def ZaE{f m c k j a b l s}(g:(∃i,i<m+1/\c i=true)->ZgM f)(d:∀i,i<m+1->c i=false->0<=k i/\k i<=3)(p:2<=a)(o:a<=16)(v:2<=b)(n:b<=32)(h:Ca (m+1) c k RS.start l 0=.ok s):uz f m c j a b s:=by
 have r:=Ht.takes o_ d l (Ht.start (show 1<=m+1 by omega)) h;have q:=Rz.takes o_ d l (Rz.start _) (Ht.start (show 1<=m+1 by omega)) h;refine⟨λhw=>(g hw).ok,λi hi=>?_,q.col,q.ws⟩;have t:(s.cols i).length<=200:=by rw[r.col i hi];exact r.ws
 cases hw:c i with
 | true=>
  have e:Ck f true (j i) a b (s.cols i) s.ws=f (s.cols i) s.ws (j i) a:=(by simp[Ck]);rw[e];exact(g ⟨i,hi,hw⟩).fine _ _ _ _ t p o
 | false=>
  have e:Ck f false (j i) a b (s.cols i) s.ws=⟨false,Co (s.cols i) s.ws a b,[]⟩:=(by simp[Ck]);rw[e];obtain⟨u,w⟩:=sr (s.cols i) s.ws t v n p;refine⟨⟨u.imp λh=>o_,?_,s_⟩,rfl,?_⟩
  ·grind
  show Ky false (Co (s.cols i) s.ws a b).length 0<=16;simp[Ky];omega
def XsV(w:World)(v:Value)(X:List XS):Prop:=(∃a c,v=.slice a X.length c)/\∀i,i<X.length->∃q c,v=L_ q X.length c/\w.cell? (A_ q (i*3))=some (I_ (X.getD i Fk).row)/\w.cell? (A_ q (i*3+1))=some (I_ (X.getD i Fk).f)/\w.cell? (A_ q (i*3+2))=some (I_ (X.getD i Fk).bin)
def XsV.below{w w' v X}(h:XsV w v X)(hb:Below w.heap.size w w'):XsV w' v X:=⟨h.1,λi hi=>by
 obtain⟨q,c,e,h1,h2,h3⟩:=h.2 i hi
 exact⟨q,c,e,Ac hb h1,Ac hb h2,Ac hb h3⟩⟩
structure DaV(w)(db n)(Ks)(Fs Cs)(X):Prop where
 dk:DkV w db n Ks
 d2:∃v,w.cell? (A_ db 2)=some v/\LiV w v Fs
 d3:∃v,w.cell? (A_ db 3)=some v/\LiV w v Cs
 d4:∃v,w.cell? (A_ db 4)=some v/\XsV w v X
def DaV.below{w c b n d e f X}(h:DaV w b n d e f X)(a:Below w.heap.size w c):DaV c b n d e f X:=by obtain⟨l,m,p⟩:=h.d2;obtain⟨j,o,k⟩:=h.d3;obtain⟨g,i,q⟩:=h.d4;exact⟨h.dk.below a,⟨l,Ac a m,p.below a⟩,⟨j,Ac a o,k.below a⟩,⟨g,Ac a i,q.below a⟩⟩
structure ZkW(n)(Ks:List KS)(Fs Cs:List (List Nat)):Prop where
 len:Cs.length=Fs.length
 few:Fs.length<=1000
 rows:∀b,b<Cs.length->(Cs.getD b []).length=n
 val:∀b,b<Cs.length->∀r,(Cs.getD b []).getD r 0<=1000000
 fl:∀b,b<Fs.length->(Fs.getD b []).length<=1000
 fk:∀b,b<Fs.length->∀f∈Fs.getD b [],f<Ks.length
def syF(Ks:List KS):List Nat->Nat->Option (Nat×Nat)
 |[],_=>none
 |f::fs,v=>if v<(Ks.getD f Ay).many then some (f,v) else syF Ks fs (v-(Ks.getD f Ay).many)
def Zgf(Ks:List KS)(fs:List Nat)(V:Nat):Option (Nat×Nat):=if V=0 then none else syF Ks fs (V-1)
def syI:Option (Nat×Nat)->Int×Int
  |some p=>(p.1,p.2)
  |none=>(-1,0)
def Pd(Ks:List KS)(Fs Cs:List (List Nat))(b r:Nat):Option (Nat×Nat):=Zgf Ks (Fs.getD b []) ((Cs.getD b []).getD r 0)
def ZiU{Ks}{a:List Nat}{k v}(h:k<a.length):syF Ks (a.drop k) v=if v<(Ks.getD (a.getD k 0) Ay).many then some (a.getD k 0,v) else syF Ks (a.drop (k+1)) (v-(Ks.getD (a.getD k 0) Ay).many):=by have e:a.getD k 0=a[k]:=w_;rw[List.drop_eq_getElem_cons h,e];rfl
def Zf4 H n b r c o t X w (h:DaV w H n c o t X)(s:ZkW n c o t)(G:b<o.length)(hr:r<n):C_ 190 #[.pointer (some ⟨H,0,none⟩),.int .i64 b,.int .i64 r] w λe w'=>e=.returned (.tuple #[.int .i64 (syI (Pd c o t b r)).1,.int .i64 (syI (Pd c o t b r)).2])/\Below w.heap.size w w':=by
 obtain⟨R,Y⟩:=ez_ (Pd c o t b r);rw[Y];obtain⟨v2,d2,h2⟩:=h.d2;obtain⟨v3,d3,h3⟩:=h.d3;have m:b<t.length:=(by rw[s.len];exact G);obtain⟨q3,c3,a3,k3,rfl,b3,n3⟩:=h3.2 b m;obtain⟨q2,c2,a2,k2,rfl,b2,n2⟩:=h2.2 b G;rw[s.rows b m] at b3;obtain⟨g3,rfl,e3⟩:=n3 r (by rw[s.rows b m];exact hr);have hV:=s.val b m r;have O:=s.fl b G;have j:Hid (R=Zgf _ _ _):=Y.symm;have C:=x2_ n2 (s.fk b G);have A:=x1_ h.dk;have a1:=s.len;clear h s n2 n3 h2 h3 Y;generalize (t.getD b []).getD r 0=V at *;generalize o.getD b []=fs at *;obtain⟨l,N⟩:=ey_ fs.length;have HL:=x1_ N;rw[N] at b2 O;clear N;have g1:0<=(b:Int):=o_;have g2:b<(o.length:Int):=o_;have g3:b<(t.length:Int):=o_;have g4:0<=(r:Int):=o_
 have g5:r<(n:Int):=o_;go_enter Tryz.func190,Tryz.ntmps190
 by_cases hV0:V=0
 ·subst hV0;have u:Hid (R=none):=(by rw[j];rfl);clear j;go_wp2;go_ret2
  exact⟨by rw[u];rfl,bz_⟩
 obtain⟨x,rfl⟩:∃x,V=x+1:=⟨V-1,o_⟩;have E:Hid (R=syF c fs x):=(by rw[j];rfl);have eV:IntKind.i64.wrap ((x+1:Nat)-1)=x:=(by rw[Cb o_ o_];omega);have gV:¬(x:Int)<0:=o_;clear j hV0;go_wp2_with fail
 go_loopw [8,9] (λt8 t9 wr=>∃k v:Nat,t9=.int .i64 k/\k<=l/\t8=.int .i64 v/\v<=1000000/\Hid (R=syF c (fs.drop k) v)/\E_ w wr) (λ_ t9 _=>l-(intOf t9).toNat)
 case atStart=>exact⟨0,x,rfl,qg_,rfl,o_,E,bz_⟩
 case round=>
  clear E eV gV e3 b3 d3;obtain⟨k,v,rfl,hk,rfl,hv,F,g⟩:=hrel;have Z:=Ac g d2;have T:=Ac g b2
  by_cases hkl:k<l
  ·have y:k<fs.length:=(by rw[HL];exact hkl);obtain⟨q,rfl,Q⟩:=(C.1.below g) k y;have B:=C.2 _ (Nb y);have HT:=x1_ (ZiU (Ks:=c) (v:=v) y);obtain⟨D,cf,J,P,S,L,d1,f0,f1,f2,f3⟩:=(A.below g).feat B;have i:=A.one _ B;have z:=Nk J S (c.getD (fs.getD k 0) Ay).e.bs.length (c.getD (fs.getD k 0) Ay).e.ww.length P L (c.getD (fs.getD k 0) Ay).e.wd (c.getD (fs.getD k 0) Ay).d
   have I:Hid (∀W:World,C_ 189 #[.agg #[.bool (c.getD (fs.getD k 0) Ay).e.wd,.slice J (c.getD (fs.getD k 0) Ay).e.bs.length P,.slice S (c.getD (fs.getD k 0) Ay).e.ww.length L,.int .i64 (c.getD (fs.getD k 0) Ay).d]] W λe w'=>e=.returned (.int .i64 (c.getD (fs.getD k 0) Ay).many)/\E_ W w'):=λW=>by rw[<- i.many];exact z W i.1 i.2.1
   have a0:(c.getD (fs.getD k 0) Ay).many<=2002:=(by have:=i.many;have:=i.1;have:=i.2.1;omega);clear z i;generalize (c.getD (fs.getD k 0) Ay).many=mn at *;generalize (c.getD (fs.getD k 0) Ay).e.wd=wd at *;generalize (c.getD (fs.getD k 0) Ay).e.bs.length=nb at *;generalize (c.getD (fs.getD k 0) Ay).e.ww.length=nw at *;generalize (c.getD (fs.getD k 0) Ay).d=dd at *;generalize fs.getD k 0=f at *;have g6:k<(l:Int):=o_;have g7:0<=(k:Int):=o_;have g8:0<=(f:Int):=o_;have g9:f<(c.length:Int):=o_;go_upto_region 7 with fail
   go_region_held3 (λw'=>w'.cell? (A_ H 1)=some (L_ D c.length cf)/\w'.cell? (A_ H 2)=some (L_ q2 o.length c2)/\w'.cell? (A_ q2 b)=some (L_ q l k2)/\w'.cell? (A_ q k)=some (I_ (f:Nat))/\w'.cell? (A_ D (f*4))=some (.bool wd)/\w'.cell? (A_ D (f*4+1))=some (.slice J nb P)/\w'.cell? (A_ D (f*4+2))=some (.slice S nw L)/\w'.cell? (A_ D (f*4+3))=some (I_ (dd:Nat))) (first|exact⟨d1,Z,T,Q,f0,f1,f2,f3⟩|exact⟨Ac a d1,Ac a Z,Ac a T,Ac a Q,Ac a f0,Ac a f1,Ac a f2,Ac a f3⟩) (first|(go_at_call 189;refine(I _).mono ?_;rintro e w2 ⟨rfl,M⟩;have a:Below wr.heap.size _ _:=bz_.drew.trans M))
   have z2:=Ac a Z;have z3:=Ac a T;have z4:=Ac a Q
   by_cases hlt:v<mn
   ·have u:Hid (R=some (f,v)):=(by show _=_;rw[F,HT,if_pos hlt]);have U:v<(mn:Int):=o_;go_wp2;go_ret2
    exact⟨by rw[u];rfl,g.trans (a.mono g.size)⟩
   have u:Hid (R=syF c (fs.drop (k+1)) (v-mn)):=(by show _=_;rw[F,HT,if_neg hlt]);have U:¬v<(mn:Int):=o_;go_wp2;go_roundw;case rel=>exact⟨k+1,v-mn,g_,o_,g_,o_,u,g.trans (a.mono g.size)⟩
   case measure=>exact z_
  have g6:¬k<(l:Int):=o_;have u:Hid (R=none):=(by show _=_;rw[F,List.drop_of_length_le (by have:=HL.out;omega)];rfl);clear F;go_wp2;go_ret2
  exact⟨by rw[u];rfl,g⟩
def MaB(w:World)(mb db:Nat)(vb vo:Value):Prop:=w.heap[mb]? =some (.cells #[P_ db,vb,vo] 331 (0,0))
def MaB.ne{w mb db vb vo}(h:MaB w mb db vb vo){k ty:Nat}{cur}(hk:w.heap[k]? =some (.cells cur ty (0,0)))(hty:ty≠331):k≠mb:=λe=>by
 unfold MaB at h
 grind
structure rg(w)(base mb db n)(vF vB vC vX vb vo)(kvs)(bbs)(Ks)(Bb:List (List Nat))(outs):Prop where
 blk:MaB w mb db vb vo
 ds:Ty w db n vF vB vC vX
 fe:dx w base vF kvs Ks
 bb:Mg w base vb bbs (Bb.map Av)
 ou:Ag w base vo (Av outs)
 apb:∀i,i<Bb.length->Ch vo (bbs.getD i Cz)
 apf:∀i,i<Ks.length->Ch vo (kvs.getD i Oi).1
section
variable {w w':World} {base mb db n:Nat} {vF vB vC vX vb vo vF' vb' vo':Value} {kvs:List (Value×Value)} {bbs:List Value} {Ks:List KS} {Bb:List (List Nat)} {outs:List Nat}
def rg.below(h:rg w base mb db n vF vB vC vX vb vo kvs bbs Ks Bb outs)(a:Below w.heap.size w w'):rg w' base mb db n vF vB vC vX vb vo kvs bbs Ks Bb outs:=by have t:=Aa.of_below (S:=λ_=>False) a;exact⟨t.at_ h.blk id,t.at_ h.ds id,h.fe.below a,h.bb.below a,h.ou.below a,h.apb,h.apf⟩
def rg.whole(h:rg w base mb db n vF vB vC vX vb vo kvs bbs Ks Bb outs)(hl:Bb.length=Ks.length)(hr:∀i,i<Bb.length->(Bb.getD i []).length=n)(ho:∀i,i<Ks.length->od (Ks.getD i Ay)):MkX w base mb db n vF vB vC vX vb vo kvs bbs Ks Bb outs:=⟨h.blk,h.ds,h.fe,h.bb,h.ou,hl,hr,ho⟩
def rg.feat{k u}(h:rg w base mb db n vF vB vC vX vb vo kvs bbs Ks Bb outs)(s:Ag w base u.1 k.e.bs)(q:Cc w base u.2 k.e.ww)(v:Ch vo u.1)(g:w.grownBy w' vF.ownBlock)(r:w'.ownsRow base 227 4 vF' (Ks.length+1) ((List.zipWith Cf Ks kvs).flatten++Cf k u)):rg (w'.setCell (A_ db 1) vF') base mb db n vF' vB vC vX vb vo (kvs++[u]) bbs (Ks++[k]) Bb outs/\Ty w' db n vF vB vC vX/\MaB w' mb db vb vo:=by
 have t:=(Aa.refl _ w).grown g (λk hk _=>hk);have b:∀k,vF.ownBlock=some k->∃c,w.heap[k]? =some (.cells c 227 _):=λk hk=>Ad h.fe.row.row hk;have a:Ty _ _ n _ _ _ _:=t.at_ h.ds (λe=>by obtain⟨c,m⟩:=b _ e;exact h.ds.ne m d_ rfl);have d:MaB _ _ _ _ _:=t.at_ h.blk (λe=>by obtain⟨c,m⟩:=b _ e;exact h.blk.ne m d_ rfl);have l:Aa _ _ (w'.setCell _ vF'):=(Aa.refl (λk=>k=db) _).setCell (p:=(A_ db 1)) (λ_=>rfl) _;have j:=h.fe.more s q g r;have f:=h.bb.touch t (λk c ty hk hty2 _ e=>w_);have x:=h.fe.len
 refine⟨⟨l.at_ d (λe=>a.ne d d_ e),ht_ 1 _ _ _ a,j.touch l (λk c ty hk b _=>a.ne hk w_),f.touch l (λk c ty hk b _=>a.ne hk w_),As (Ag.kept h.ou g (An h.fe.row.row h.ou d_)) a d_,h.apb,λi hi=>?_⟩,a,d⟩;rw[Qe,List.length_singleton] at hi
 by_cases e:i<Ks.length
 have o:(kvs++[u]).getD i Oi=kvs.getD i Oi:=w_;rw[o];exact h.apf i e
 grind
def rg.bins{u B}(h:rg w base mb db n vF vB vC vX vb vo kvs bbs Ks Bb outs)(x:Ag w base u (Av B))(q:∀i,i<Bb.length->Ch (bbs.getD i Cz) u)(v:Ch vo u)(g:w.grownBy w' vb.ownBlock)(r:w'.ownsRow base 25 1 vb' (Bb.length+1) (bbs++[u])):rg (w'.setCell (A_ mb 1) vb') base mb db n vF vB vC vX vb' vo kvs (bbs++[u]) Ks (Bb++[B]) outs/\MaB w' mb db vb vo:=by
 have t:=(Aa.refl _ w).grown g (λk hk _=>hk);have b:∀k,_=some k->_:=λk hk=>Ad h.bb.row hk;have d:Ty _ _ n _ _ _ _:=t.at_ h.ds (λe=>by obtain⟨c,m⟩:=b _ e;exact h.ds.ne m d_ rfl);have a:MaB _ _ _ _ _:=t.at_ h.blk (λe=>by obtain⟨c,m⟩:=b _ e;exact h.blk.ne m d_ rfl);have l:Aa _ _ (w'.setCell _ vb'):=(Aa.refl (λk=>k=mb) _).setCell (p:=(A_ mb 1)) (λ_=>rfl) _;have j:=h.fe.touch t (λk c ty hk hty2 _ e=>w_);have f:=h.bb.more (L:=Av B) x (λi hi=>q i w_) g (by rw[List.length_map];exact r);have s:=h.bb.len;rw[List.length_map] at s
 refine⟨⟨ht_ 1 _ _ _ a,l.at_ d (λe=>a.ne d d_ e),j.touch l (λk c ty hk b _=>a.ne hk w_),?_,As (Ag.kept h.ou g (An h.bb.row h.ou d_)) a d_,λi hi=>?_,h.apf⟩,a⟩;rw[List.map_append];exact f.touch l (λk c ty hk b _=>a.ne hk w_);rw[Qe,List.length_singleton] at hi
 by_cases e:i<Bb.length
 have o:(bbs++[u]).getD i Cz=bbs.getD i Cz:=w_;rw[o];exact h.apb i e
 grind
def rg.outm{z:Nat}(h:rg w base mb db n vF vB vC vX vb vo kvs bbs Ks Bb outs)(g:w.grownBy w' vo.ownBlock)(o:Ag w' base vo' (Av outs++[(z:Int)]))(q:vo'.ownBlock=vo.ownBlock∨vo'.ownBlock=some w.heap.size):rg (w'.setCell (A_ mb 2) vo') base mb db n vF vB vC vX vb vo' kvs bbs Ks Bb (outs++[z])/\MaB w' mb db vb vo:=by
 have t:=(Aa.refl _ w).grown g (λk hk _=>hk);have b:∀k,_=some k->_:=λk hk=>Ad h.ou hk;have d:Ty _ _ n _ _ _ _:=t.at_ h.ds (λe=>by obtain⟨c,l⟩:=b _ e;exact h.ds.ne l d_ rfl);have a:MaB _ _ _ _ _:=t.at_ h.blk (λe=>by obtain⟨c,l⟩:=b _ e;exact h.blk.ne l d_ rfl);have f:Aa _ _ (w'.setCell _ vo'):=(Aa.refl (λk=>k=mb) _).setCell (p:=(A_ mb 2)) (λ_=>rfl) _;have m:dx _ _ _ _ _:=⟨⟨World.ownsRow.kept h.fe.row.row g (An h.ou h.fe.row.row d_),h.fe.row.wid⟩,h.fe.len,λi hi=>⟨Ag.kept (h.fe.each i hi).1 g (h.apf i hi).keeps,World.ownsRow.kept (h.fe.each i hi).2 g (An h.ou (h.fe.each i hi).2 d_)⟩⟩
 have j:Mg _ _ _ _ _:=⟨World.ownsRow.kept h.bb.row g (An h.ou h.bb.row d_),λi hi=>Ag.kept (h.bb.each i hi) g (h.apb i w_).keeps,h.bb.apart⟩;refine⟨⟨ht_ 2 _ _ _ a,f.at_ d (λe=>a.ne d d_ e),m.touch f (λk c ty hk b _=>a.ne hk w_),j.touch f (λk c ty hk b _=>a.ne hk w_),?_,λi hi=>Ch.moved (h.apb i hi) (h.bb.each i w_) q,λi hi=>Ch.moved (h.apf i hi) (h.fe.each i hi).1 q⟩,a⟩;have:Ag w' base vo' (Av (outs++[z])):=(by unfold Av at o ⊢;rw[List.map_append];exact o);exact As this a d_
end
structure RfX(w)(base db n)(vF vB vC vX)(kvs)(bvs cvs)(Ks)(Fs Cs:List (List Nat))(X:List XS):Prop where
 ds:Ty w db n vF vB vC vX
 fe:dx w base vF kvs Ks
 bu:Mg w base vB bvs (Fs.map Av)
 co:Mg w base vC cvs (Cs.map Av)
 xs:Yk w base 231 3 vX (X.map Dn)
 one:∀i,i<Ks.length->od (Ks.getD i Ay)
 lo:base<=db
section
variable {w w':World} {base db n:Nat} {vF vB vC vX vX':Value} {kvs:List (Value×Value)} {bvs cvs:List Value} {Ks:List KS} {Fs Cs:List (List Nat)} {X:List XS}
def RfX.keep(h:RfX w base db n vF vB vC vX kvs bvs cvs Ks Fs Cs X)(t:Aa (λk=>k<base) w w'):RfX w' base db n vF vB vC vX kvs bvs cvs Ks Fs Cs X:=by
 have a:∀{k ty:Nat} {c},w.heap[k]? =some (.cells c ty (0,0))->base<=k->¬k<base:=λ_ h=>o_
 exact⟨t.at_ h.ds (by have:=h.lo;omega),h.fe.touch t (λk c ty hk _ hb=>a hk hb),h.bu.touch t (λk c ty hk _ hb=>a hk hb),h.co.touch t (λk c ty hk _ hb=>a hk hb),h.xs.touch t (λq hq=>by have:=(rl_ h.xs.row q hq).1;omega),h.one,h.lo⟩
def XsV.of{v}(h:Yk w base 231 3 v (X.map Dn)):XsV w v X:=by obtain⟨a,c,e⟩:=h.shape;rw[List.length_map] at e;refine⟨⟨a,c,e⟩,λi hi=>?_⟩;obtain⟨q,g,d,_,_,_,_,b⟩:=h.at (i:=i) w_;rw[List.length_map] at d;have f:(X.map Dn).getD i []=Dn (X.getD i Fk):=w_;rw[f] at b;exact⟨q,g,d,b 0 o_ _ rfl,b 1 o_ _ rfl,b 2 o_ _ rfl⟩
def RfX.view(h:RfX w base db n vF vB vC vX kvs bvs cvs Ks Fs Cs X):DaV w db n Ks Fs Cs X:=
 ⟨⟨cq_ 0 _ 142 (0,0) h.ds,⟨vF,cq_ 1 _ 142 (0,0) h.ds,h.fe.view⟩,h.one⟩,⟨vB,cq_ 2 _ 142 (0,0) h.ds,h.bu.view⟩,⟨vC,cq_ 3 _ 142 (0,0) h.ds,h.co.view⟩,⟨vX,cq_ 4 _ 142 (0,0) h.ds,XsV.of h.xs⟩⟩
end
def Qn(f:Nat):Option (Nat×Nat)->Option Nat
 |some p=>if p.1=f then some p.2 else none
 |none=>none
def Jp(Ks:List KS)(Fs Cs:List (List Nat))(r f:Nat):Nat:=((List.range Fs.length).findSome? (λb=>Qn f (Pd Ks Fs Cs b r))).getD (Ks.getD f Ay).d
def Zky{o}{f:Nat}:((syI o).1=f->Qn f o=some (syI o).2.toNat/\(syI o).2=(syI o).2.toNat)/\((syI o).1≠f->Qn f o=none):=by
 cases o with
 |none=>exact⟨λh=>by simp[syI] at h,λ_=>rfl⟩
 | some p=>
  grind [syI,Qn]
def ZhC{X r f i d}(a:i<X.length)(h:rp r f (X.getD i Fk))(c:∀j,j<i->¬rp r f (X.getD j Fk)):xbF X f r d=(X.getD i Fk).bin:=by
 have b:∀k _,X.getD k Fk=X[k]:=λk hk=>w_
 have:X.find? (λy=>decide (rp r f y))=some X[i]:=(by rw[List.find?_eq_some_iff_getElem];refine⟨w_,i,a,rfl,λj hj=>?_⟩;have:=c j hj;rw[b j o_] at this;simp only[decide_eq_false this,Bool.not_false]);unfold xbF;rw[this,b i a]
def rx{X r f d}(e:∀j,j<X.length->¬rp r f (X.getD j Fk)):xbF X f r d=d:=by
 have b:∀k _,X.getD k Fk=X[k]:=λk hk=>w_
 have:X.find? (λy=>decide (rp r f y))=none:=by
  rw[List.find?_eq_none];intro x c;obtain⟨j,a,rfl⟩:=List.getElem_of_mem c;have:=e j a;rw[b j a] at this
  simpa using this
 unfold xbF;rw[this]
theorem Zb3{d a c r f b x}(g:b<a.length)(h:Qn f (Pd d a c b r)=some x)(e:∀j,j<b->Qn f (Pd d a c j r)=none):Jp d a c r f=x:=by unfold Jp;have:(List.range a.length).findSome? (λb=>Qn f (Pd d a c b r))=some x:=(by rw[List.findSome?_eq_some_iff];refine⟨List.range b,b,(List.range (a.length-(b+1))).map (b+1+ ·),?_,h,λj hj=>e j (by simpa using hj)⟩;rw[show a.length=(b+1)+(a.length-(b+1)) by omega,List.range_add,List.range_succ];simp);rw[this];rfl
theorem ut{b a c r f}(e:∀j,j<a.length->Qn f (Pd b a c j r)=none):Jp b a c r f=(b.getD f Ay).d:=by grind [Jp]
def jr I n r f g k m X w (h:DaV w I n g k m X)(F:ZkW n g k m)(hr:r<n)(Y:f<g.length)(hx:X.length<=1000000):C_ 138 #[.pointer (some ⟨I,0,none⟩),.int .i64 r,.int .i64 f] w λe w'=>e=.returned (.tuple #[.int .i64 (xbF X f r (Jp g k m r f):Nat),.int .i64 0])/\Below w.heap.size w w':=by
 obtain⟨R,D⟩:=ez_ (xbF X f r (Jp g k m r f));rw[D];obtain⟨v4,d4,L⟩:=h.d4;obtain⟨a4,c4,rfl⟩:=L.1;obtain⟨v2,V,B⟩:=h.d2;obtain⟨a2,c2,rfl⟩:=B.1;obtain⟨qf,cf,ab,cb,aw,cw,d1,_,_,_,f3⟩:=h.dk.feat Y;have d0:=h.dk.d0;have N:=x1_ L;have O:=x2_ h F;have T:=F.few;clear h F L B;have g1:¬(r:Int)<0:=o_;have g2:¬n<=(r:Int):=o_;have g3:¬(f:Int)<0:=o_;have g4:¬g.length<=(f:Int):=o_;have g5:0<=(f:Int):=o_;have g6:f<(g.length:Int):=o_;go_enter Tryz.func138,Tryz.ntmps138;go_wp2_with fail
 go_loopw [8] (λt8 wr=>∃i:Nat,t8=.int .i64 i/\i<=X.length/\Hid (∀j,j<i->¬rp r f (X.getD j Fk))/\wr=w) (λt8 _=>X.length-(intOf t8).toNat)
 case atStart=>exact⟨0,rfl,qg_,λj hj=>o_,rfl⟩
 case round=>
  obtain⟨i,rfl,hi,s,H⟩:=hrel;subst H
  by_cases hix:i<X.length
  ·obtain⟨q,c,e,x0,W,x2⟩:=N.2 i hix;injection e with y _ e3;subst y e3;have g7:i<(X.length:Int):=o_;have Q:0<=(i:Int):=o_
   by_cases hat:rp r f (X.getD i Fk)
   ·have C:Hid (R=(X.getD i Fk).bin):=(by show _=_;rw[<- D];exact ZhC hix hat s);obtain⟨A,v⟩:=hat;have y:(((X.getD i Fk).row:_)==(r:Int))=_:=beq_iff_eq.2 o_;have e2:(((X.getD i Fk).f:_)==(f:Int))=_:=beq_iff_eq.2 o_;generalize (X.getD i Fk).row=xr at *;generalize (X.getD i Fk).f=xf at *;generalize (X.getD i Fk).bin=xb at *;clear A v;go_wp2;go_ret2
    exact⟨by rw[C];rfl,bz_⟩
   have l:Hid (∀j,j<i+1->¬rp r f (X.getD j Fk)):=λj hj=>by
    by_cases e:j=i
    rw[e];exact hat;exact s j o_
   by_cases A:(X.getD i Fk).row=r
   ·have v:¬_:=λv=>hat ⟨A,v⟩;have y:(((X.getD i Fk).row:_)==(r:Int))=_:=beq_iff_eq.2 o_;have e2:(((X.getD i Fk).f:_)==(f:Int))=_:=beq_eq_false_iff_ne.2 o_;clear A v hat;generalize (X.getD i Fk).row=xr at *;generalize (X.getD i Fk).f=xf at *;go_wp2;go_roundw;case rel=>exact⟨i+1,g_,o_,l,trivial⟩
    case measure=>exact z_
   have y:(((X.getD i Fk).row:_)==(r:Int))=_:=beq_eq_false_iff_ne.2 o_;clear A hat;generalize (X.getD i Fk).row=xr at *;go_wp2;go_roundw;case rel=>exact⟨i+1,g_,o_,l,trivial⟩
   case measure=>exact z_
  have C:Hid (R=Jp g k m r f):=(by show _=_;rw[<- D];exact rx (λj hj=>s j o_));have g7:¬i<(X.length:Int):=o_;clear D N s;obtain⟨U,E⟩:=ex_ wr;subst E;go_wp2_with fail
  go_loopw [9] (λt9 wz=>∃b:Nat,t9=.int .i64 b/\b<=k.length/\Hid (∀j,j<b->Qn f (Pd g k m j r)=none)/\E_ U wz) (λt9 _=>k.length-(intOf t9).toNat)
  case atStart=>exact⟨0,rfl,qg_,λj hj=>o_,bz_⟩
  case round=>
   obtain⟨b,rfl,v,s,a⟩:=hrel;have x2:=Ac a V
   by_cases hbl:b<k.length
   ·have Q:b<(k.length:Int):=o_;go_wp2_with fail
    refine(Zf4 I n b r g k m X _ (O.1.below a) O.2 hbl hr).mono ?_;rintro e w1 ⟨rfl,G⟩;obtain⟨S,J⟩:=ey_ (Pd g k m b r);have x:=Zky (o:=S) (f:=f);rw[J];have M:=x1_ J;have z:=a.trans (G.mono a.size);clear J;obtain⟨Z,t⟩:=ey_ (syI S);rw[t] at x ⊢;obtain⟨s1,s2⟩:=Z;simp only at x ⊢
    by_cases hs:s1=(f:Int)
    ·obtain⟨P,B⟩:=x.1 hs;have u:Hid (R=s2):=(by show _=_;rw[C,Zb3 hbl (by rw[M];exact P) s,<- B]);have y:=beq_iff_eq.2 hs;clear x P B hs t;go_wp2;go_ret2
     exact⟨by rw[u];rfl,z⟩
    have l:Hid (∀j,j<b+1->Qn f (Pd g k m j r)=none):=λj hj=>by
     by_cases e:j=b
     rw[e,M];exact x.2 hs;exact s j o_
    have y:=beq_eq_false_iff_ne.2 hs;clear x hs t;go_wp2;go_roundw;case rel=>exact⟨b+1,g_,o_,l,z⟩
    case measure=>exact z_
   have Q:¬b<(k.length:Int):=o_;have u:Hid (R=(g.getD f Ay).d):=(by show _=_;rw[C,ut (λj hj=>s j o_)]);have W:=Ac a d1;have x3:=Ac a f3;generalize (g.getD f Ay).d=dd at *;go_wp2;go_ret2
   exact⟨by rw[u];rfl,a⟩
def ZbH b n r f a w (h:DkV w b n a)(k:¬(0<=r/\r<(n:Int)/\0<=f/\f<(a.length:Int))):C_ 138 #[.pointer (some ⟨b,0,none⟩),.int .i64 r,.int .i64 f] w λe w'=>e=.returned (.tuple #[.int .i64 0,.int .i64 1])/\w'=w:=by
 obtain⟨j,d,c⟩:=h.d1;obtain⟨i,m,rfl⟩:=c.1;have g:=h.d0;clear h c;go_enter Tryz.func138,Tryz.ntmps138
 by_cases g1:r<0
 ·go_wp2;go_ret2
  exact⟨rfl,rfl⟩
 by_cases g2:(n:Int)<=r
 ·go_wp2;go_ret2
  exact⟨rfl,rfl⟩
 by_cases g3:f<0
 ·go_wp2;go_ret2
  exact⟨rfl,rfl⟩
 have l:a.length<=f:=o_;go_wp2;go_ret2
 exact⟨rfl,rfl⟩
def Mg.dbw{w w' base db n v vF vB vC vX vs Ls}(h:Mg w base v vs Ls)(hd:Ty w db n vF vB vC vX)(t:Aa (λq=>q=db) w w'):Mg w' base v vs Ls:=h.touch t (λk c ty hk hty _=>hd.ne hk w_)
structure CoI(wL wr)(db n)(vF vB vC vX)(cvs)(Cs:List (List Nat)):Prop where
 tch:Aa (λq=>q=db) wL wr
 ds:Ty wr db n vF vB vC vX
 co:Mg wr wL.heap.size vC cvs (Cs.map Av)
 lt:db<wL.heap.size
section
variable {wL wr wr':World} {db n:Nat} {vF vB vC vX vC' vX':Value} {cvs:List Value} {Cs:List (List Nat)}
def CoI.below(h:CoI wL wr db n vF vB vC vX cvs Cs)(hb:Below wr.heap.size wr wr'):CoI wL wr' db n vF vB vC vX cvs Cs:=⟨h.tch.below hb,(hb.block _ h.ds.lt).trans h.ds,h.co.below hb,h.lt⟩
def CoI.more{u N}(h:CoI wL wr db n vF vB vC vX cvs Cs)(b:Ag wr wL.heap.size u (Av N))(f:∀i,i<Cs.length->Ch (cvs.getD i Cz) u)(g:wr.grownBy wr' vC.ownBlock)(r:wr'.ownsRow wL.heap.size 25 1 vC' (Cs.length+1) (cvs++[u])):CoI wL (wr'.setCell (A_ db 3) vC') db n vF vB vC' vX (cvs++[u]) (Cs++[N])/\Ty wr' db n vF vB vC vX:=by
 have t:=(Aa.refl _ _).grown g (λk hk _=>hk);have a:Ty _ _ n _ _ _ _:=t.at_ h.ds (λe=>by obtain⟨l,d⟩:=Ad h.co.row e;exact h.ds.ne d d_ rfl);have j:=h.co.more (L:=Av N) b (λi hi=>f i w_) g (by rw[List.length_map];exact r);have c:Aa _ _ (wr'.setCell _ vC'):=(Aa.refl (λk=>k=db) _).setCell (p:=(A_ db 3)) (λ_=>rfl) _;refine⟨⟨(h.tch.grown g (λk hk hlt=>by have:=(rl_ h.co.row k hk).1;omega)).setCell (p:=(A_ db 3)) (λ_=>rfl) _,ht_ 3 _ _ _ a,?_,h.lt⟩,a⟩;rw[List.map_append];exact j.touch c (λk l ty hk hty _=>a.ne hk w_)
end
def ZjR:(Tryz.prog.info? 231).map (λi=>(i.zero,i.size,i.bytes))=some (some (.agg #[I_ 0,I_ 0,I_ 0]),3,24):=k_
structure ExI(wL wr)(db n)(vF vB vC vX)(X:List XS):Prop where
 tch:Aa (λq=>q=db) wL wr
 ds:Ty wr db n vF vB vC vX
 xs:Yk wr wL.heap.size 231 3 vX (X.map Dn)
 lt:db<wL.heap.size
section
variable {wL wr wr':World} {db n:Nat} {vF vB vC vX vX':Value} {X:List XS}
def ExI.below(h:ExI wL wr db n vF vB vC vX X)(hb:Below wr.heap.size wr wr'):ExI wL wr' db n vF vB vC vX X:=⟨h.tch.below hb,(hb.block _ h.ds.lt).trans h.ds,h.xs.below hb,h.lt⟩
def ExI.more{x}(h:ExI wL wr db n vF vB vC vX X)(g:wr.grownBy wr' vX.ownBlock)(r:wr'.ownsRow wL.heap.size 231 3 vX' (X.length+1) ((X.map Dn).flatten++Dn x)):ExI wL (wr'.setCell (A_ db 4) vX') db n vF vB vC vX' (X++[x])/\Ty wr' db n vF vB vC vX:=by
 have t:=(Aa.refl _ _).grown g (λk hk _=>hk);have a:Ty _ _ n _ _ _ _:=t.at_ h.ds (λe=>by obtain⟨d,b⟩:=Ad h.xs.row e;exact h.ds.ne b d_ rfl);have f:Aa _ _ (wr'.setCell _ vX'):=(Aa.refl (λk=>k=db) _).setCell (p:=(A_ db 4)) (λ_=>rfl) _;have c:=h.xs.more (x:=Dn x) (by rw[List.length_map];exact r) rfl;refine⟨⟨(h.tch.grown g (λk hk hlt=>by have:=(rl_ h.xs.row k hk).1;omega)).setCell (p:=(A_ db 4)) (λ_=>rfl) _,ht_ 4 _ _ _ a,?_,h.lt⟩,a⟩;rw[List.map_append];exact c.touch f (λq hq e=>by obtain⟨d,b⟩:=Ad c.row hq;exact a.ne b d_ e)
end
def n1(z:Nat):Nat:=if z%2=1 then z/2^^^3988292384 else z/2
def nJ:Nat->Nat->Nat
 |0,z=>z
 |j+1,z=>nJ j (n1 z)
def Zdl i:∀j z,nJ (i+j) z=nJ i (nJ j z)
 |0,_=>rfl
 |j+1,z=>Zdl i j (n1 z)
def zb j z:nJ (j+1) z=n1 (nJ j z):=by rw[Nat.add_comm,Zdl];rfl
def Zlm a b:n1 (a^^^b)=n1 a^^^n1 b:=by
 have d:(a^^^b)%2=(a+b)%2:=by
  have h:=Nat.testBit_xor (x:=a) (y:=b) (i:=0)
  grind
 have c:(a^^^b)/2=_:=Nat.xor_div_two ..;unfold n1
 grind
def Zia:∀(j a b:Nat),nJ j (a^^^b)=nJ j a^^^nJ j b
 |0,_,_=>rfl
 |j+1,a,b=>by show nJ j (n1 (a^^^b))=nJ j (n1 a)^^^nJ j (n1 b);rw[Zlm,Zia]
def ZlV{z}(h:z<4294967296):n1 z<4294967296:=by unfold n1;split;exact Nat.xor_lt_two_pow (n:=32) o_ d_;omega
def Zln j h:nJ j (2^j*h)=h:=by
 induction j generalizing h with
 |zero=>simp[nJ]
 | succ j ih=>
  show nJ j (n1 (2^(j+1)*h))=h;have e:n1 (2^(j+1)*h)=2^j*h:=(by unfold n1;rw[Nat.pow_succ,Nat.mul_comm (2^j) 2,Nat.mul_assoc,if_neg o_];omega);rw[e,ih]
def Zb6:List Int->Nat
 |[]=>0
 |b::bs=>b.toNat+256*Zb6 bs
def Zjm{b h}(a:b<256):b+256*h=b^^^256*h:=by
 have e:=Nat.two_pow_add_eq_or_of_lt (i:=8) a h
 have c:b&&&256*h=0:=by
  apply Nat.eq_of_testBit_eq;intro i;rw[Nat.testBit_and,Nat.zero_testBit]
  by_cases hi:i<8
  rw[show 256*h=2^8*h from rfl,Nat.testBit_two_pow_mul,decide_eq_false o_];simp;rw[Nat.testBit_lt_two_pow (x:=b) (i:=i) (Qh a (Nat.pow_le_pow_right (n:=2) (i:=8) d_ o_))];simp
 apply Nat.eq_of_testBit_eq;intro i;have d:=congrArg (λx=>x.testBit i) c
 grind
def nF(z:Nat)(bs:List Int):Nat:=nJ (8*bs.length) (z^^^Zb6 bs)
theorem za z {b}(c:0<=b/\b<256) a:nF z (b::a)=nF (nJ 8 (z^^^b.toNat)) a:=by have e:nF z (b::a)=nJ (8*_+8) (z^^^(_+_)):=rfl;rw[e,Zjm (show b.toNat<256 by omega),<- Nat.xor_assoc,Zdl,Zia 8,show 256*Zb6 a=2^8*Zb6 a from rfl,Zln];rfl
theorem Uk(a b:Nat)(d:a<4294967296)(c:b<4294967296):bits .xor .u32 a b=(a^^^b:Nat):=by have e:=Nat.xor_lt_two_pow (n:=32) d c;simp only[bits,BitVec.ofInt_natCast,BitVec.toNat_xor,BitVec.toNat_ofNat];rw[show IntKind.u32.bits=32 from rfl,Nat.mod_eq_of_lt (show a<2^32 from d),Nat.mod_eq_of_lt (show b<2^32 from c)];simp only[IntKind.wrap,IntKind.bits,IntKind.signed];simp;omega
def ZgZ(a:Nat)(b:a<4294967296):bits .and .u32 a 1=(a%2:Nat):=by simp only[bits];rw[show(1:Int)=((1:Nat):Int) from rfl,BitVec.ofInt_natCast,BitVec.ofInt_natCast,BitVec.toNat_and,BitVec.toNat_ofNat,BitVec.toNat_ofNat];rw[show IntKind.u32.bits=32 from rfl,Nat.mod_eq_of_lt (show a<2^32 from b),Nat.mod_eq_of_lt (show 1<2^32 by decide),Nat.and_one_is_mod];simp only[IntKind.wrap,IntKind.bits,IntKind.signed];simp;omega
def Zk6{z}(h:z<4294967296):ZaK (z:Nat)=(n1 z:Nat):=by
 unfold ZaK n1;rw[ZgZ z h]
 rcases Nat.mod_two_eq_zero_or_one z with e|e
 ·grind
 rw[e,if_pos d_,if_pos rfl,show((z:Int)/2)=((z/2:Nat):Int) by omega,show(3988292384:Int)=((3988292384:Nat):Int) from rfl,Uk _ _ o_ d_]
def Zbk{z}(h:z<4294967296):∀j,nJ j z<4294967296
 |0=>h
 |j+1=>by rw[zb];exact ZlV (Zbk h j)
theorem Zhr{z}(h:z<4294967296):∀j,Zk j (z:Nat)=(nJ j z:Nat)
 |0=>rfl
 |j+1=>by show ZaK (Zk j z)=_;rw[Zhr h j,Zk6 (Zbk h j),zb]
def gq:∀(bs:List Int) {z:Nat},z<4294967296->(∀b∈bs,0<=b/\b<256)->bs.foldl pc (z:Nat)=(nF z bs:Nat)
 |[],z,_,_=>by simp[nF,nJ,Zb6]
 |b::bs,z,h,hb=>by have h1:=hb b s_;obtain⟨c,rfl⟩:=Int.eq_ofNat_of_zero_le h1.1;have hx:z^^^c<4294967296:=Nat.xor_lt_two_pow (n:=32) h o_;rw[za z h1,List.foldl_cons];have e:pc z c=(nJ 8 (z^^^c):Nat):=(by grind [pc,Uk,Zhr]);rw[e];exact gq _ (Zbk hx 8) (λx hx=>hb x (by simp[hx]))
def cK(z b k:Nat):Nat:=nJ k (z^^^b)^^^b/2^k
def Zkf a b:(a^^^b)%2=(a+b)%2:=by
 have h:=Nat.testBit_xor (x:=a) (y:=b) (i:=0)
 grind
def Zjx z b:cK z b 0=z:=by grind [cK,nJ]
def Zjw z b k:cK z b (k+1)=if cK z b k%2≠b/2^k%2 then cK z b k/2^^^3988292384 else cK z b k/2:=by
 unfold cK;rw[zb,Zkf,Nat.xor_div_two,Nat.div_div_eq_div_mul,<- Nat.pow_succ];generalize nJ k (z^^^b)=x;unfold n1
 grind
def Zk0 z b (a:b<256):cK z b 8=nJ 8 (z^^^b):=by unfold cK;rw[show b/2^8=0 from Nat.div_eq_of_lt a,Nat.xor_zero]
def ZkH{z b}(a:z<4294967296)(c:b<256) k:cK z b k<4294967296:=by unfold cK;exact Nat.xor_lt_two_pow (n:=32) (Zbk (Nat.xor_lt_two_pow (n:=32) a o_) k) (Nat.lt_of_le_of_lt (Nat.div_le_self _ _) o_)
def Zi8(a b:Nat)(d:a<4294967296)(c:b<4294967296):bits .xor .i64 a b=(a^^^b:Nat):=by have e:=Nat.xor_lt_two_pow (n:=32) d c;simp only[bits,BitVec.ofInt_natCast,BitVec.toNat_xor,BitVec.toNat_ofNat];rw[show IntKind.i64.bits=64 from rfl,Nat.mod_eq_of_lt (show a<2^64 by omega),Nat.mod_eq_of_lt (show b<2^64 by omega)];simp only[IntKind.wrap,IntKind.bits,IntKind.signed];simp;omega
def ZlQ(y b k:Nat):bits .xor .i64 (y%2) (((b:Int)/2^k).tmod 2)=if y%2≠b/2^k%2 then 1 else 0:=by
 have e:((b:Int)/2^k).tmod 2=(b/2^k%2:Nat):=w_;rw[e,show((y:Int)%2)=((y%2:Nat):Int) by omega,Zi8 _ _ o_ o_]
 grind [Nat.mod_two_eq_zero_or_one]
def zK(S:ByteArray)(k:Nat):Nat:=nF 4294967295 ((Aq S).take k)
def ru S:∀b∈Aq S,0<=b/\b<256:=λb hb=>by simp only[Aq,List.mem_map] at hb;obtain⟨u,_,rfl⟩:=hb;have:=u.toNat_lt;omega
def Zkh L b (c:b<256)(z:Nat:=4294967295)(a:∀x∈L,0<=x/\x<256:=by assumption):nJ 8 (nF z L^^^b)=nF z (L++[(b:Int)]):=by
 induction L generalizing z with
 |nil=>grind [nF,nJ,Zb6]
 | cons x L ih=>
  grind [za]
def Ziu S w (N:S.size<=1000000):C_ 180 #[.string S] w λe w'=>e=.returned (.int .i64 (Jt (Aq S)))/\w'=w:=by
 go_enter Tryz.func180,Tryz.ntmps180;go_upto_region 3 with fail;go_loopw [3,4] (λtc ti wr=>∃(z i:Nat),tc=.int .i64 z/\ti=.int .i64 i/\i<=S.size/\z<4294967296/\Hid (z=zK S i)/\Hid (w=wr)) (λ_ ti _=>S.size-(intOf ti).toNat)
 case atStart=>exact⟨4294967295,0,rfl,rfl,qg_,d_,by show _=_;simp[zK,nF,nJ,Zb6],rfl⟩
 case round=>
  obtain⟨z,i,rfl,rfl,J,l,m,j⟩:=hrel;have f:=j.out;subst f;clear j
  by_cases hin:i<S.size
  ·have O:0<=(i:Int):=o_;have I:i<(S.size:Int):=o_;obtain⟨b,v⟩:=ex_ ((S[i]'hin).toNat);have a:b<256:=(by rw[v];exact UInt8.toNat_lt _);have q:=x1_ v;clear v;go_upto_region 6 with fail;go_loopw [3,5] (λtc ti wr=>∃(y k:Nat),tc=.int .i64 y/\ti=.int .i64 k/\k<=8/\Hid (y=cK z b k)/\Hid (w=wr)) (λ_ ti _=>8-(intOf ti).toNat)
   case atStart=>exact⟨z,0,rfl,rfl,qg_,by show _=_;rw[Zjx],rfl⟩
   case round=>
    obtain⟨y,k,rfl,rfl,M,d,j⟩:=hrel;have f:=j.out;subst f;clear j
    by_cases hk8:k<8
    ·have G:0<=(k:Int):=o_;have E:(k:Int)<8:=o_;have L:y<4294967296:=(by rw[d];exact ZkH l a k);have C:=q.symm;go_upto_region 9 with fail;rw[ZlQ];have c:=Zjw z b k;rw[<- d] at c
     by_cases hx:y%2≠b/2^k%2
     ·rw[if_pos hx] at c ⊢;have t:Hid (bits .xor .i64 (y/2) 3988292384=(cK z b (k+1):Nat)):=by show _=_;rw[c,show((y:Int)/2)=((y/2:Nat):Int) by omega];exact Zi8 _ _ o_ d_
      clear c hx C d;go_wp2;go_roundw;case rel=>exact⟨cK z b _,k+1,by rw[t],g_,o_,rfl,True.intro⟩
      case measure=>exact z_
     rw[if_neg hx] at c ⊢;have t:Hid (y/2=((cK z b (k+1):Nat):Int)):=by show _=_;rw[c];omega
     clear c hx C d;go_wp2;go_roundw;case rel=>exact⟨cK z b _,k+1,by rw[t],g_,o_,rfl,True.intro⟩
     case measure=>exact z_
    have s:k=8:=o_;subst s;have B:¬((8:Nat):Int)<8:=o_
    have n:Hid (y=zK S (i+1)):=by show _=_;have g:(Aq S).length=S.size:=(by simp[Aq]);have A:(Aq S)[i]' o_=b:=(by rw[q];simp[Aq];rfl);rw[d,Zk0 z b a,m];unfold zK;rw[Qi o_,A];exact Zkh _ _ a _ (λx hx=>ru S x (List.mem_of_mem_take hx))
    have o:y<4294967296:=(by rw[d];exact ZkH l a 8);clear d q m;go_wp2;go_roundw;case rel=>exact⟨y,i+1,rfl,g_,o_,o,n,True.intro⟩
    case measure=>exact z_
  have r:i=S.size:=o_;subst r;have B:¬S.size<(S.size:Int):=o_
  have F:Hid (bits .xor .i64 z 4294967295=Jt (Aq S)):=by
   show _=_;have g:(Aq S).length=S.size:=(by simp[Aq]);have u:z=nF 4294967295 (Aq S):=(by rw[m];unfold zK;grind);have D:Zhs (Aq S)=z:=(by rw[u];exact gq _ (z:=4294967295) d_ (ru S));unfold Jt;rw[D];have H:=Zi8 z 4294967295 l d_;have P:=Uk 4294967295 z d_ l
   grind
  clear m;go_wp2;go_ret;exact⟨by rw[F];rfl,rfl⟩
def cfB(cs:List Int):Nat:=2+Vo (Xp cs 0) 15
def cfU(cs:List Int):Nat:=Vo (Xp cs 2) 21
def cfS(cs:List Int):Nat:=cfB cs+Vo (Xp cs 1) (33-cfB cs)
def cfM(cs:List Int):Nat:=Vo (Xp cs 3) 4
def cfW(cs:List Int)(i:Nat):Bool:=decide (Vo (Xp cs (8+i)) 3=0)
def cfC(cs:List Int)(i:Nat):Int:=if cfW cs i=true then 0 else(Vo (Xp cs (4+i)) 4:Nat)
def cfT(cs:List Int)(i:Nat):Int:=if cfW cs i=true then 1+(Vo (Xp cs (4+i)) 9:Nat) else 0
def ZmF a:2<=cfB a/\cfB a<=16/\cfB a<=cfS a/\cfS a<=32/\cfU a<=20/\cfM a<=3:=by
 have d:=Nj (Xp a 0) (show 0<15 by omega);have b:=Nj (Xp a 2) (show 0<21 by omega);have c:=Nj (Xp a 3) (show 0<4 by omega);have e0:cfB a=2+_:=rfl;have e:=Nj (Xp a 1) (show 0<33-cfB a by omega)
 grind [cfS,cfU,cfM]
def Zl6 a i:Lc (cfW a i) (cfC a i) (cfT a i)=true:=by
 have c:=Nj (Xp a (4+i)) (show 0<4 by omega);have b:=Nj (Xp a (4+i)) (show 0<9 by omega);unfold Lc cfC cfT
 grind
def Zhf(cs:List Int)(i:Nat):List Value:=[.bool (cfW cs i),I_ (cfC cs i),I_ (cfT cs i)]
def ZhE(cs:List Int):Nat->List Value
 |0=>[]
 |k+1=>ZhE cs k++Zhf cs k
def Zfu cs:∀k,(ZhE cs k).length=k*3
 |0=>rfl
 |k+1=>by rw[ZhE,Qe,Zfu cs k];simp[Zhf];omega
def Zlf:(Tryz.prog.info? 51).map (λi=>(i.zero,i.size,i.bytes))=some (some (.agg #[.bool false,I_ 0,I_ 0]),3,24):=k_
def ftC(wd:Nat->Bool)(sc ct:Nat->Int)(j:Nat):Value:=if j%3=0 then .bool (wd (j/3)) else if j%3=1 then I_ (sc (j/3)) else I_ (ct (j/3))
def ftL(wd:Nat->Bool)(sc ct:Nat->Int)(n:Nat):List Value:=(List.range (n*3)).map (ftC wd sc ct)
def ch{a b c n j}(h:j<n*3):(ftL a b c n)[j]? =some (ftC a b c j):=by simp[ftL,h]
def Zfz{w b off n wd sc ct}(h:Dd w b off n wd sc ct):∀j u,(ftL wd sc ct n)[j]? =some u->w.cell? (((A_ b off):Addr).add j)=some u:=λj u hu=>by
 have hj:j<n*3:=(by grind [ftL]);rw[ch hj] at hu;injection hu with hu;subst hu;rw[Addr.add_lit];have hi:j/3<n:=o_;unfold ftC
 by_cases h0:j%3=0
 rw[if_pos h0,<- h.c0 _ hi,show off+j/3*3=off+j by omega]
 by_cases h1:j%3=1
 rw[if_neg h0,if_pos h1,<- h.c1 _ hi,show off+j/3*3+1=off+j by omega];rw[if_neg h0,if_neg h1,<- h.c2 _ hi,show off+j/3*3+2=off+j by omega]
def ZfA{w a g n b j k d}(h:w.ownsRow a 51 3 (L_ g n b) n (ftL j k d n))(l:n<=maxLen):Dd w g 0 n j k d/\g<w.heap.size:=by
 have f:g<w.heap.size:=by
  rcases h.2 with⟨e,_⟩|⟨q,c,cur,e,_,hh,_⟩
  ·cases e
  grind
 refine⟨⟨l,λ_=>f,λi hi=>?_,λi hi=>?_,λi hi=>?_⟩,f⟩
 ·rw[Nat.zero_add,h.cellAt _ o_,ch o_]
  grind [ftC]
 ·rw[Nat.zero_add,h.cellAt _ o_,ch o_]
  grind [ftC]
 rw[Nat.zero_add,h.cellAt _ o_,ch o_]
 grind [ftC]
def Zdx a n j d c b l h k w (p:n<=maxLen)(m:Ej w a n l h k)(o:Hz n d c b l h k=false):C_ 123 #[.agg #[.slice a n j,.int .i64 d,.int .i64 c,.int .i64 b]] w λe w'=>e=.returned (.tuple #[.pointer none,.int .i64 1])/\Below w.heap.size w w':=by
 have f:Hid (Below _ w (w.alloc (.cells #[.slice a n j,I_ d,I_ c,I_ b] 37))):=bA_;have q:=x1_ (m.below f);have r:Hid (Zhx (Hz n d c b l h k)=1):=(by rw[o];rfl);clear m o;go_enter Tryz.func123,Tryz.ntmps123;go_wp2_with fail
 generalize w.alloc (.cells #[.slice a n j,I_ d,I_ c,I_ b] 37)=w0 at *;refine(Vt a n _ _ _ _ _ _ _ _ p q).mono ?_;rintro e s ⟨rfl,g⟩;rw[r];have i:=x1_ (f.trans (g.mono f.size));clear g;go_wp2;go_ret2
 exact⟨rfl,i⟩
def ZbK b f n I d c a M E J w (v:Dd w b f n M E J)(Y:Hz n d c a M E J=true):C_ 123 #[.agg #[.slice (some ⟨b,f,none⟩) n I,.int .i64 d,.int .i64 c,.int .i64 a]] w λe w'=>∃ib fk fc',e=.returned (.tuple #[.pointer (some ⟨ib,0,none⟩),.int .i64 0])/\mu w' ib fk n fc' d c a ⟨#[]⟩ 0 0 false/\Dd w' fk 0 n M E J/\fk≠ib/\w.heap.size<=fk/\w.heap.size<=ib/\fk<w'.heap.size/\Below w.heap.size w w':=by
 obtain⟨h1,h4,_,_,_,_,_,_,_⟩:=La Y;have X:=v.lt o_;have H:=v.le;have C:Hid (Below _ w (w.alloc (.cells #[.slice (some ⟨b,f,none⟩) n I,I_ d,I_ c,I_ a] 37))):=bA_;have A:Hid ((w.alloc (.cells #[.slice (some ⟨b,f,none⟩) n I,I_ d,I_ c,I_ a] 37)).heap[_]? =_):=ha_ w _
 have x:Hid (∀W,E_ w W->Dd W b f n M E J):=λW hb=>by have k:=λo=>hb.cell (p:=(A_ b o)) X;exact⟨v.le,λ_=>by have:=hb.size;omega,λi hi=>(k _).trans (v.c0 i hi),λi hi=>(k _).trans (v.c1 i hi),λi hi=>(k _).trans (v.c2 i hi)⟩
 have HC:Hid (Zhx (Hz n d c a M E J)=0):=(by rw[Y];rfl);obtain⟨i0,L,U,P,S⟩:=info_parts Zlf;clear v Y;go_enter Tryz.func123,Tryz.ntmps123;go_wp2_with fail
 generalize w.alloc (.cells #[.slice (some ⟨b,f,none⟩) n I,I_ d,I_ c,I_ a] 37)=w0 at *;refine(Vt _ n _ _ _ _ _ _ _ _ H (.inr ⟨b,f,rfl,x _ C⟩)).mono ?_;rintro e w1 ⟨rfl,y⟩;rw[HC];have F:=(Qb A).1;have B:=(y.block _ F).trans A;have d0:=cR_ 0 B;have t:=x1_ B;have r:=x1_ (C.trans (y.mono o_));have Q:=r.size;clear y B;go_wp2_with (at_builtin;refine wpList_append_own _ rfl _ _ _ rfl (w.heap.size+1) 51 i0 _ 3 24 Tryz.underlying35 L U P S rfl d_ (.slice _ 0 0) 0 [] rfl ⟨rfl,.inl ⟨rfl,rfl⟩⟩ _ n I _ rfl (by simp[ftL]) (Zfz (x _ r)) ?_ ?_ ?_ ?_ ?_)
 intro u hu;simp only[ftL,List.mem_map] at hu;obtain⟨j,_,rfl⟩:=hu;unfold ftC;split;rfl;split<;>rfl;omega;omega;have:=(Qb t).1;omega;intro v2 T h R Z;have T2:Aa (λ_=>False) _ _:=(Aa.refl _ _).grown R (λk hk _=>by cases hk);have s:=(T2.block _ (Qb t).1 id).trans t
 rcases h.2 with⟨_,e0⟩|⟨g,cap,cur,rfl,hg1,_⟩
 omega;have d2:=cR_ 0 s;have f2:=fq_ 0 _ _ s;have m:=ht_ 0 _ _ (L_ g n cap) s;have N:=r.grown R Q (λk hk=>by cases hk);have G:Below _ w (T.setCell (A_ w.heap.size 0) (L_ g n cap)):=N.setCell qa_ _;have t3:Aa _ _ (T.setCell _ (L_ g n cap)):=(Aa.refl (λq=>q=w.heap.size) _).setCell (p:=(A_ w.heap.size 0)) (λ_=>rfl) _;have l:=t3.row h (λq hq he=>by subst he;simp[Value.ownBlock] at hq;omega);clear t r d0 Z h R T2;go_upto_region 7 with fail;generalize T.setCell (A_ w.heap.size 0) (L_ g n cap)=w3 at *;have c0:=cR_ 0 m;have c1:=cR_ 1 m;have c2:=cR_ 2 m;have c3:=cR_ 3 m;obtain⟨D,O⟩:=ZfA l H;have HE:Hid (_/\_/\w.heap.size<=g/\_):=⟨D,O,o_,G⟩;clear d2 f2 s m N G t3 l D O x C A
 go_wp2;go_ret2
 have z:Below _ w3 (w3.alloc (.cells #[L_ g n cap,I_ d,I_ c,I_ a,.string ⟨#[]⟩,I_ 0,I_ 0,.bool false] 278)):=bA_;obtain⟨a1,a2,a3,V⟩:=HE;exact⟨w3.heap.size,g,cap,rfl,hn_,a1.below z,o_,a3,V.size,Qh a2 z.size,V.trans (z.mono V.size)⟩
end Go.Proofs.YtfcgnpchbcmdeaaGreat
