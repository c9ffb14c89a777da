import Derived.Test.YtfcgnpchbcmdeaaGreatZrbi
import Derived.Test.YtfcgnpchbcmdeaaGreatZrar
namespace Go.Proofs.YtfcgnpchbcmdeaaGreat
set_option linter.all false
set_option maxRecDepth 100000
set_option maxHeartbeats 8000000
open Go.RowKit
def Yz{n c b a}(d:c=min (b+a) n){z:List Int}(e:z.length=n):(z.drop b).take (c-b)=(z.drop b).take a:=by grind [List.take_of_length_le]
def ZbM va wa (n C B a:Nat) D r w (hv:Cq w va n D)(hw:Cq w wa n r)(hn:n<=1000)(bX:n<=C)(bW:n<=B)(hs:2<=a)(bM:a<=32):C_ 289 #[.slice va n C,.slice wa n B,.int .i64 a] w λe w'=>∃v,e=.returned v/\Aj w' w.heap.size v (Dm a D r)/\Below w.heap.size w w':=by
 have HV:=x1_ hv;have HW:=x1_ hw;have aI:=x2_ hv.1 hw.1;have aZ:Hid (Dm a D r=skF a [] (skB a n [] D r)):=(by show _=_;rw[<- Zgh hs D r (by rw[hv.1,hw.1]),hv.1]);rw[aZ];clear hv hw aZ;go_enter Tryz.func289,Tryz.ntmps289;go_wp2_with fail
 go_loopw [7,8] (λtl tf wr=>∃(b fu:Nat) (H:List Gu),tf=.int .i64 b/\b<=n+a/\Hid (aq wr w.heap.size tl H/\Ug b H/\Bh (H.map Gu.L)<=1000*(b:Int)/\H.length<=b/\n-b<=fu/\skB a fu (H.map Gu.pr).reverse (D.drop b) (r.drop b)=skB a n [] D r)/\E_ w wr) (λ_ tf _=>n+a-(intOf tf).toNat)
 case atStart=>exact⟨0,n,[],rfl,qg_,⟨aq.nil _ _,Ug.nil _,by simp[Bh],s_,o_,rfl⟩,bz_⟩
 case round=>
  obtain⟨b,fu,H,rfl,c4,HR,a4⟩:=hrel;have a8:=a4.size
  by_cases hkn:b<n
  ·rcases HV.out with⟨_,_,h0|⟨b1,o1,rfl,hb1,_⟩⟩;omega;rcases HW.out with⟨_,_,h0|⟨b2,o2,rfl,F,_⟩⟩;omega;obtain⟨te,S⟩:=ex_ (min (b+a) n);have c7:=x1_ S;have bT:b<(n:Int):=o_;go_upto_if 27 with fail
   go_cut [9] (λv wx=>v=.int .i64 te/\wx=wr)
   case first=>
    by_cases hc:b+a<=n
    ·have e1:te=b+a:=o_;have g:¬n<b+(a:Int):=o_;clear S;subst e1;go_wp2;go_meet
     exact⟨g_,rfl⟩
    have e1:te=n:=o_;have g:n<b+(a:Int):=o_;clear S;subst e1;go_wp2;go_meet
    exact⟨rfl,rfl⟩
   case rest =>
    obtain⟨rfl,b3⟩:=hcut;obtain rfl:=b3.symm;clear b3;have bS:b<=(te:Int):=o_;have bP:te<=(C:Int):=o_;have bU:te<=(B:Int):=o_;have bQ:¬C=b:=o_;have bR:¬B=b:=o_;have c5:te-b<=a:=o_
    have aB:Hid (∀W:World,E_ w W->C_ 115 #[.slice (some ⟨b1,o1+b,none⟩) (te-b) (C-b),.slice (some ⟨b2,o2+b,none⟩) (te-b) (B-b)] W λe w'=>∃v,e=.returned v/\Aj w' W.heap.size v (Ja ((D.drop b).take a) ((r.drop b).take a))/\E_ W w'):=by intro W hW;have q1:=(Rq HV hW hb1).part (b:=b) (m:=te-b) o_;have q2:=(Rq HW hW F).part (b:=b) (m:=te-b) o_;rw[Yz S aI.1] at q1;rw[Yz S aI.2] at q2;refine(Qx _ _ _ _ _ _ _ _ W q1 q2 o_ o_).mono ?_;rintro e w' ⟨v,M,rfl,hM,ho,hb⟩;refine⟨v,rfl,?_,hb⟩;unfold Ja;rw[ZbY hM];exact ho
    obtain⟨hL,X,Y,aO,aE,t⟩:=HR.out;have aJ:((D.drop b).take a).length<=a:=t_;have a5:=dj (vs:=(D.drop b).take a) (ws:=(r.drop b).take a) o_;have bK:=(Df a5.1).1;obtain⟨f',aR⟩:∃f',fu=f'+1:=⟨fu-1,o_⟩;obtain⟨R,hR⟩:=ex_ (skT a 0 (Ja ((D.drop b).take a) ((r.drop b).take a)) (H.map Gu.pr).reverse);have aS:Hid (skB a f' R (D.drop (b+a)) (r.drop (b+a))=skB a n [] D r/\n-(b+a)<=f'):=by refine⟨?_,o_⟩;rw[<- t,aR,hR];simp only[skB];rw[if_neg t_,List.drop_drop,List.drop_drop]
    obtain⟨aX,aD⟩:=ey_ (Bh (H.map Gu.L)+Ae (Ja ((D.drop b).take a) ((r.drop b).take a)));have bY:aX<=1000*(b+a:Nat):=o_;have aV:Hid (SkI _ _ R _ H _ 0 _):=⟨X,λ_ _=>qg_,a5.1,o_,aD,qa_,.inl ⟨rfl,hR⟩,o_⟩;obtain⟨ha,hc,rfl⟩:=hL.shape;have HL:=x1_ hL;clear hL X Y aE t aJ a5 bK aD aR hR HR S;generalize Ja ((D.drop b).take a) ((r.drop b).take a)=sE at *;go_upto_region 8 with fail;go_cut [10] (λv wx=>∃kb vv,v=.pointer (some ⟨kb,0,none⟩)/\wr.heap.size<=kb/\Hid (LvB wx kb 0 vv/\Aj wx wr.heap.size vv sE/\E_ wr wx))
    case first=>
     go_region_held3 (λ_=>True) (trivial) (first|(go_at_call 115;refine(aB.out _ (by repeat(first|assumption|with_reducible apply Below.drew|(refine Below.alloc ?_ o_ _)))).mono ?_;rintro e w1 ⟨vv,rfl,aM,z⟩;obtain⟨av,cv,rfl⟩:=aM.shape;(try(have hA:LvB _ _ 0 _:=(z.block _ s_).trans hn_;obtain⟨z0,z1,z2,z3,_⟩:=hA.cells))))
     all_goals go_wp2
     all_goals go_meet
     exact⟨_,_,rfl,by have:=z.size;simpa using this,hn_,aM.alloc _,(bz_.drew.trans z).alloc (by have:=z.size;simpa using this) _⟩;have hz:=z.size;simp at hz;refine⟨_,_,rfl,qa_,hA.fill (M:=0),hA.own (aM.mono s_) (LvB.touch2 _ _),?_⟩;exact((bA_.drew.trans (z.mono s_)).setCell qa_ _).setCell qa_ _
    case rest=>
     obtain⟨kb,v0,rfl,aF,HC⟩:=hcut;obtain⟨wo,bL⟩:∃wo,wo=wr:=⟨wr,rfl⟩;subst bL;have aQ:=x1_ HC.2.2;have a9:=x3_ (HL.below HC.2.2) HC.1 (HC.2.1.mono a8)
     have HQ:Hid (∀n q,(Value.slice ha n hc).ownBlock=some q->q≠kb):=λn q hq=>by have:=(rl_ HL.row.row q (by cases ha<;>exact hq)).2;omega
     have c6:=Nat.le_trans a8 aF;clear HC HL aB;go_wp2_with fail
     go_loopw [7,11] (λth ti r=>∃(E N:Nat) (s:List Gu) (l:List Ct) (vv:Value),ti=.int .i64 ((E:Int)-1)/\th=.slice ha s.length hc/\s.length<=b/\E<=s.length/\Hid (aq r w.heap.size (.slice ha s.length hc) s/\LvB r kb N vv/\Aj r w.heap.size vv l/\SkI a b R aX s E N l)/\Hid (E_ wo r)) (λ_ ti _=>(intOf ti+1).toNat)
     case atStart=>exact⟨H.length,0,H,sE,v0,g_,rfl,aO,qa_,⟨a9.1,a9.2.1,a9.2.2,aV⟩,aQ⟩
     case round=>
      clear a9 aV aQ;obtain⟨E,N,s,l,vv,rfl,rfl,b9,bH,J,I⟩:=hrel
      by_cases hin:E=0
      ·subst hin;obtain⟨hX,hB,hE,A⟩:=J.out;obtain⟨aT,hR⟩:=A.end_;obtain⟨j,cl,rfl⟩:=hE.shape;obtain⟨k0,k1,_,_,aA⟩:=hB.cells;obtain⟨i0,aW,bD,bA,bE⟩:=info_parts ZjY;have aK:=a4.trans (I.mono a8);have bO:=aK.size;have T:Hid (∀o,aq (wr.alloc o) _ _ _/\Aj (wr.alloc o) _ _ l):=λo=>⟨hX.below bA_,hE.alloc _⟩
       have Z:Hid (Ug (b+a) (s++[⟨N,l,.slice j l.length cl⟩])/\Bh ((s++[(⟨N,l,.slice j l.length cl⟩:Gu)]).map Gu.L)<=1000*(b+a:Nat)/\((s++[(⟨N,l,.slice j l.length cl⟩:Gu)]).map Gu.pr).reverse=R):=(by refine⟨A.ok.more A.good A.len aT o_ (by have:=A.top;simp only;omega),?_,?_⟩;have aD:=A.tt;rw[List.map_append,Jg];simp only[List.map_cons,List.map_nil,Bh];omega;rw[hR,List.map_append,List.reverse_append];rfl);clear J hX hB hE A aT hR I;generalize hll3:l.length=nl at *;go_wp2_with (at_builtin;refine Ab rfl (.tmp 72) (.tmp 74) 397 rfl w.heap.size 399 i0 _ 2 32 Tryz.underlying397 aW bD bA bE rfl d_ (.slice ha s.length hc) s.length _ rfl (T _).1.row2 _ 1 1 [I_ (N:Nat),.slice j nl cl] rfl rfl ?_ ?_ ?_ ?_ ?_ ?_ ?_)
       exact Am _ _ _
       ·intro u hu;simp at hu;rcases hu with rfl|rfl<;>rfl
       decide;unfold maxLen;omega;omega;simp;omega;intro v7 w7 H7;obtain⟨r7,g7,_,_,q7,p7,bB⟩:=H7;have G:=x2_ ((T _).1.more (p:=⟨N,l,.slice j nl cl⟩) (T _).2 g7 r7) (aK.trans ((bz_.alloc bO _).grown g7 t_ (λk hk=>(rl_ (T default).1.row.row k hk).1)));subst bB;clear r7 g7 T k0 k1 aK;refine rd_ ?_;exact⟨b+a,f',_,g_,o_,⟨G.1,Z.1,Z.2.1,t_,aS.2,by rw[Z.2.2];exact aS.1⟩,G.2⟩
      obtain⟨i,rfl⟩:∃i,E=i+1:=⟨E-1,o_⟩;obtain⟨q,cq,hq,bI,c0,c1,hm⟩:=J.1.at (i:=i) o_;injection hq with hq1 _ hq3;subst hq1 hq3;obtain⟨k0,k1,f0,f1,aA⟩:=J.2.1.cells;have A:=J.2.2.2;have ei:(i+1:Nat)-1=(i:Int):=o_;rw[ei];have g1:0<=(i:Int):=o_;have g2:i<(s.length:Int):=o_
      by_cases hne:(s.getD i Se).n=N
      ·have e1:(((s.getD i Se).n:_)==(N:Int))=_:=beq_iff_eq.2 o_;obtain⟨aP,gj⟩:=A.join hne hs bM o_;have hE:=J.1.each _ hm;have bC:=(A.ok.at hm).2;obtain⟨ao,co,a2,V,_,_⟩:=hE.seen o_;rw[a2] at c1;obtain⟨j,cl,b8,aU,_,_⟩:=J.2.2.1.seen (by have:=A.len;omega);subst b8;have c9:=A.len;have HJ:Hid (∀d,Calls _ _ _ _ λe w'=>∃v,_/\Aj _ wr.heap.size v _/\E_ wr _):=λd=>(Yw _ _ _ l co cl _ (V.drewN d) (aU.drewN d) (A.ok.at hm).1 A.good).mono (λe w' ⟨v,h1,h2,h3⟩=>⟨v,h1,h2,(below_drewN bz_ d).trans h3⟩);have lj:=Kp (s.getD i Se).L l;have c:Hid (_/\(Bq (s.getD i Se).L l).length<=64):=⟨gj,o_⟩;have aC:=x1_ aP;have bZ:=A.top;have c3:=HV.2.1;clear aP gj hE bC a2 V aU hm A lj hne
       generalize (s.getD i Se).n=x,(s.getD i Se).L=O at *;generalize hno:O.length=no,hnl:l.length=nl at *;go_upto_region 12 with fail;go_quiet (fail);go_upto_region 13 with fail;refine Al (λw'=>w'.cell? (A_ kb 0)=some (I_ (N:Nat))/\w'.cell? (A_ kb 1)=some (.slice j nl cl)/\w'.cell? (A_ q (i*2+1))=some (.slice ao no co)) 14 k_ ⟨k0,k1,c1⟩ (λhHeld=>?_);refine Ah 0 ?_;refine Ah 1 ?_;refine Ah 2 ?_;refine Ah 3 ?_;refine Ah 4 ?_;refine Ah 5 ?_;refine Ah 6 ?_;refine Ah 7 ?_;refine Ah 8 ?_;refine Ah 9 ?_;refine Ah 11 ?_;refine Af (i:=10) k_ rfl (λKK hK=>?_);go_simp;refine(HJ _).mono ?_;rintro e w1 ⟨vj,rfl,a3,y⟩;obtain⟨aj,cj,rfl,a1,a6,_⟩:=a3.seen (by have:=c.2;omega)
       have U:=x1_ (ju _ _ _ a _ a1 c.1 a6 (by have:=c.2;omega));have y0:=(y.cell (p:=(A_ kb 0)) aA).trans k0;have y1:=(y.cell (p:=(A_ kb 1)) aA).trans k1;have y2:=(y.cell (World.block_lt_of_cell? _ _ c1)).trans c1;have aG:=y.size;clear a3 a1 a6 HJ;generalize (Bq O l).length=nj at *;go_simp;refine hK _ _ ⟨y0,y1,y2⟩ (λhHeld=>?_);clear hK KK;try simp only[Act.put,tA,tB,tC]
       refine Af (i:=12) k_ rfl (λKK hK=>?_);go_simp;refine U.mono ?_;rintro e w2 ⟨vc,rfl,P,a0⟩;obtain⟨ac,cc,rfl⟩:=P.shape;have F:=y.trans (a0.mono aG);have aL:LvB _ _ N _:=(F.block _ aA).trans J.2.1;obtain⟨z0,z1,z2,z3,_⟩:=aL.cells;have z4:=(F.cell (World.block_lt_of_cell? _ _ c1)).trans c1;have G:Hid (_/\_/\Aj w2 w.heap.size _ _):=⟨J.1.below F,aL,P.mono o_⟩;have bN:=x1_ (I.trans (F.mono I.size));clear P a0 y F aL U c y0 y1 y2 J I;generalize (Dp (Bq O l) a).length=nc at *;go_simp;refine hK _ _ ⟨z0,z1,z4⟩ (λhHeld=>?_);clear hK KK;try simp only[Act.put,tA,tB,tC]
       refine Ah 13 ?_;refine Ai (i:=14) k_ rfl k_ (λKK hK=>?_);go_simp;refine hK _ _ ?_;clear hK KK;try simp only[Act.put,tA,tB,tC]
       refine Ak k_ ?_ _;have g3:i<=(hc:Int):=o_;have g4:¬hc=0:=o_;go_wp2;go_roundw
       case rel=>
        refine⟨i,N+1,s.take i,_,.slice ac nc cc,g_,by rw[List.length_take,Nat.min_eq_left o_],by rw[List.length_take];omega,by rw[List.length_take];omega,⟨?_,G.2.1.fill (M:=N+1),G.2.1.own G.2.2 (LvB.touch2 _ _),aC⟩,((bN.setCell aF _).setCell aF _)⟩;rw[List.length_take,Nat.min_eq_left o_];exact(G.1.box G.2.1 (LvB.touch2 _ _) (λx hx=>HQ _ x hx)).upto o_
       case measure=>exact z_
      have e1:(((s.getD i Se).n:_)==(N:Int))=_:=beq_eq_false_iff_ne.2 o_;have aC:=x1_ (A.stop hne);clear hne A ei;generalize (s.getD i Se).n=x at *;go_upto_region 12 with fail;go_quiet (fail);refine rd_ ?_;exact⟨i,N,s,l,vv,g_,rfl,b9,o_,⟨J.1.below (below_drewN bz_ _),J.2.1,J.2.2.1.below (below_drewN bz_ _),aC⟩,below_drewN I _⟩
  have c8:¬b<(n:Int):=o_;obtain⟨hL,X,Y,aO,aE,t⟩:=HR;obtain⟨ha,hc,rfl⟩:=hL.shape
  have b6:Hid (skF a [] (skB a n [] D r)=skF a [] (H.map Gu.pr).reverse):=by
   show _=_;rw[<- t]
   cases fu with
   |zero=>rfl
   |succ f=>simp only[skB];rw[if_pos (by simp;have:=aI.out;omega)]
  have HX:Hid (_/\_/\Bh (H.map Gu.L)<=2000000):=⟨hL,X,o_⟩;obtain⟨wl,b7⟩:∃wl,wl=wr:=⟨wr,rfl⟩;subst b7;clear hL X Y aE t HV HW;go_wp2_with fail
  go_loopw [12,13] (λtq ti r=>∃(E:Nat) (j:List Ct),ti=.int .i64 ((E:Int)-1)/\E<=H.length/\Hid (Aj r w.heap.size tq j/\Bo j/\j.length<=32/\Ae j+Bh ((H.take E).map Gu.L)<=2000000/\skF a j ((H.take E).map Gu.pr).reverse=skF a [] (H.map Gu.pr).reverse)/\E_ wl r) (λ_ ti _=>(intOf ti+1).toNat)
  case atStart=>exact⟨H.length,[],g_,qa_,⟨Aj.nil _ _,Bo.nil,s_,by rw[List.take_length];have:=HX.2.2;simpa [Ae] using this,by rw[List.take_length]⟩,bz_⟩
  case round=>
   obtain⟨E,j,rfl,bH,HR,Q⟩:=hrel;have b5:=Q.size
   by_cases hin:E=0
   ·subst hin;have G:Hid (Aj wr w.heap.size u12 (skF a [] (skB a n [] D r))/\E_ w wr):=(by obtain⟨h1,_,_,_,h5⟩:=HR.out;rw[b6,<- h5];exact⟨h1,a4.trans (Q.mono a8)⟩);clear HR Q;go_wp2;go_ret;exact⟨_,rfl,G.1,G.2⟩
   obtain⟨i,rfl⟩:∃i,E=i+1:=⟨E-1,o_⟩;obtain⟨q,cq,hq,bI,c0,c1,hm⟩:=(HX.1.below Q).at (i:=i) o_;injection hq with hq1 _ hq3;subst hq1 hq3;obtain⟨aN,aH,bV,a7,t⟩:=HR;obtain⟨gO,lO⟩:=HX.2.1.at hm;obtain⟨ao,co,a2,V,_,_⟩:=((HX.1.below Q).each _ hm).seen o_;rw[a2] at c1;obtain⟨aa,ca,bF,aY,_,_⟩:=aN.seen o_;subst bF;rw[Xz o_,List.map_append] at a7 t;rw[Jg] at a7;rw[List.reverse_append] at t;simp only[List.map_cons,List.map_nil,Bh,List.reverse_cons,List.reverse_nil,List.nil_append,List.singleton_append,skF] at a7 t;have tP:=Eh (Ls:=(H.take i).map _) (λx hx=>(HX.2.1.take i).ok.good x hx);have gj:=Gb aH gO o_;have gc:=gj.sub (Hf gj a)
   have bG:=Ia (Bq j (H.getD i Se).L) (a:=(a:Int)) o_;have lj:=Kp j (H.getD i Se).L;have tc:Ae (Dp (Bq j (H.getD i Se).L) a)=Ae j+Ae (H.getD i Se).L:=(by rw[Fm,Er]);have HJ:=x1_ (Yw _ _ _ _ ca co _ aY V aH gO);have c:Hid (Bo (Bq j (H.getD i Se).L)/\(Bq j (H.getD i Se).L).length<=64/\Bo (Dp (Bq j (H.getD i Se).L) a)/\(Dp (Bq j (H.getD i Se).L) a).length<=32/\Ae (Dp (Bq j (H.getD i Se).L) a)+Bh ((H.take i).map Gu.L)<=2000000/\skF a (Dp (Bq j (H.getD i Se).L) a) ((H.take i).map Gu.pr).reverse=skF a [] (H.map Gu.pr).reverse):=⟨gj,o_,gc,o_,o_,t⟩;have ei:(i+1:Nat)-1=(i:Int):=o_;rw[ei];have g1:0<=(i:Int):=o_
   have g2:i<(H.length:Int):=o_;clear aN aH a7 t a2 V aY gj gc bG lj tc c0 gO lO hm ei tP;generalize (H.getD i Se).L=O at *;generalize O.length=no at *;go_wp2_with fail
   refine HJ.mono ?_;rintro e w1 ⟨vj,rfl,a3,y⟩;have aG:=y.size;obtain⟨aj,cj,rfl,a1,a6,_⟩:=a3.seen (by have:=c.2.1;omega);have U:=x1_ (ju _ _ _ a _ a1 c.1 a6 (by have:=c.2.1;omega));clear a3 a1 a6 HJ;generalize (Bq j O).length=nj at *;go_wp2_with fail
   refine U.mono ?_;rintro e w2 ⟨vc,rfl,P,a0⟩;have G:Hid (Aj _ w.heap.size _ _/\_):=⟨P.mono o_,Q.trans ((y.trans (a0.mono aG)).mono b5)⟩;clear P a0 y U c1;refine rd_ ?_;exact⟨i,_,g_,o_,⟨G.1,c.2.2⟩,G.2⟩
end Go.Proofs.YtfcgnpchbcmdeaaGreat
