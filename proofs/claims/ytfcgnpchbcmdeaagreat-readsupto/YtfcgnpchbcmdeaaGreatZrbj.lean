import Derived.Test.YtfcgnpchbcmdeaaGreatZrbi
import Derived.Test.YtfcgnpchbcmdeaaGreatZrar
namespace Go.Proofs.YtfcgnpchbcmdeaaGreat
set_option linter.all false
set_option maxRecDepth 100000
set_option maxHeartbeats 8000000
open Go.RowKit
def Za{n c b a}(d:c=min (b+a) n){z:List Int}(e:z.length=n):(z.drop b).take (c-b)=(z.drop b).take a:=by grind [List.take_of_length_le]
def ZbM va wa (n B D a:Nat) C r w (hv:Cq w va n C)(hw:Cq w wa n r)(hn:n<=1000)(bZ:n<=B)(c4:n<=D)(hs:2<=a)(bC:a<=32):C_ 289 #[.slice va n B,.slice wa n D,.int .i64 a] w λe w'=>∃v,e=.returned v/\Aj w' w.heap.size v (Dl a C r)/\Below w.heap.size w w':=by
 have HV:=x1_ hv;have HW:=x1_ hw;have aK:=x2_ hv.1 hw.1;have b3:Hid (Dl a C r=skF a [] (skB a n [] C r)):=(by show _=_;rw[<- Zgi hs C r (by rw[hv.1,hw.1]),hv.1]);rw[b3];clear hv hw b3;go_enter Tryz.func289,Tryz.ntmps289;go_wp2_with fail
 go_loopw [7,8] (λtl tf wr=>∃(b fu:Nat) (H:List Gu),tf=.int .i64 b/\b<=n+a/\Hid (au wr w.heap.size tl H/\Ud b H/\Bh (H.map Gu.L)<=1000*(b:Int)/\H.length<=b/\n-b<=fu/\skB a fu (H.map Gu.pr).reverse (C.drop b) (r.drop b)=skB a n [] C r)/\E_ w wr) (λ_ tf _=>n+a-(intOf tf).toNat)
 case atStart=>exact⟨0,n,[],rfl,qg_,⟨au.nil _ _,Ud.nil _,by simp[Bh],s_,o_,rfl⟩,bz_⟩
 case round=>
  obtain⟨b,fu,H,rfl,c6,HR,a1⟩:=hrel;have a8:=a1.size
  by_cases hkn:b<n
  ·rcases HV.out with⟨_,_,h0|⟨b1,o1,rfl,hb1,_⟩⟩;omega;rcases HW.out with⟨_,_,h0|⟨b2,o2,rfl,F,_⟩⟩;omega;obtain⟨te,S⟩:=ex_ (min (b+a) n);have c8:=x1_ S;have bU:b<(n:Int):=o_;go_upto_if 27 with fail
   go_cut [9] (λv wx=>v=.int .i64 te/\wx=wr)
   case first=>
    by_cases hc:b+a<=n
    ·have e1:te=b+a:=o_;have g:¬n<b+(a:Int):=o_;clear S;subst e1;go_wp2;go_meet
     exact⟨g_,rfl⟩
    have e1:te=n:=o_;have g:n<b+(a:Int):=o_;clear S;subst e1;go_wp2;go_meet
    exact⟨rfl,rfl⟩
   case rest =>
    obtain⟨rfl,aO⟩:=hcut;obtain rfl:=aO.symm;clear aO;have bS:b<=(te:Int):=o_;have bR:te<=(B:Int):=o_;have bQ:te<=(D:Int):=o_;have bT:¬B=b:=o_;have bP:¬D=b:=o_;have bX:te-b<=a:=o_
    have aB:Hid (∀W:World,E_ w W->C_ 115 #[.slice (some ⟨b1,o1+b,none⟩) (te-b) (B-b),.slice (some ⟨b2,o2+b,none⟩) (te-b) (D-b)] W λe w'=>∃v,e=.returned v/\Aj w' W.heap.size v (Iz ((C.drop b).take a) ((r.drop b).take a))/\E_ W w'):=by intro W hW;have q1:=(Ro HV hW hb1).part (b:=b) (m:=te-b) o_;have q2:=(Ro HW hW F).part (b:=b) (m:=te-b) o_;rw[Za S aK.1] at q1;rw[Za S aK.2] at q2;refine(Qx _ _ _ _ _ _ _ _ W q1 q2 o_ o_).mono ?_;rintro e w' ⟨v,M,rfl,hM,ho,hb⟩;refine⟨v,rfl,?_,hb⟩;unfold Iz;rw[ZbY hM];exact ho
    obtain⟨hL,a4,a2,aP,aG,t⟩:=HR.out;have aI:((C.drop b).take a).length<=a:=t_;have X:=du (vs:=(C.drop b).take a) (ws:=(r.drop b).take a) o_;have bL:=(Df X.1).1;obtain⟨f',aN⟩:∃f',fu=f'+1:=⟨fu-1,o_⟩;obtain⟨R,hR⟩:=ex_ (skT a 0 (Iz ((C.drop b).take a) ((r.drop b).take a)) (H.map Gu.pr).reverse);have aZ:Hid (skB a f' R (C.drop (b+a)) (r.drop (b+a))=skB a n [] C r/\n-(b+a)<=f'):=by refine⟨?_,o_⟩;rw[<- t,aN,hR];simp only[skB];rw[if_neg t_,List.drop_drop,List.drop_drop]
    obtain⟨aW,aL⟩:=ey_ (Bh (H.map Gu.L)+Ae (Iz ((C.drop b).take a) ((r.drop b).take a)));have bY:aW<=1000*(b+a:Nat):=o_;have aT:Hid (SkI _ _ R _ H _ 0 _):=⟨a4,λ_ _=>qg_,X.1,o_,aL,qa_,.inl ⟨rfl,hR⟩,o_⟩;obtain⟨ha,hc,rfl⟩:=hL.shape;have HL:=x1_ hL;clear hL a4 a2 aG t aI X bL aL aN hR HR S;generalize Iz ((C.drop b).take a) ((r.drop b).take a)=sE at *;go_upto_region 8 with fail;go_cut [10] (λv wx=>∃kb vv,v=.pointer (some ⟨kb,0,none⟩)/\wr.heap.size<=kb/\Hid (LvB wx kb 0 vv/\Aj wx wr.heap.size vv sE/\E_ wr wx))
    case first=>
     go_region_held3 (λ_=>True) (trivial) (first|(go_at_call 115;refine(aB.out _ (by repeat(first|assumption|with_reducible apply Below.drew|(refine Below.alloc ?_ o_ _)))).mono ?_;rintro e w1 ⟨vv,rfl,aD,z⟩;obtain⟨av,cv,rfl⟩:=aD.shape;(try(have hA:LvB _ _ 0 _:=(z.block _ s_).trans hn_;obtain⟨z0,z1,z2,z3,_⟩:=hA.cells))))
     all_goals go_wp2
     all_goals go_meet
     exact⟨_,_,rfl,by have:=z.size;simpa using this,hn_,aD.alloc _,(bz_.drew.trans z).alloc (by have:=z.size;simpa using this) _⟩;have hz:=z.size;simp at hz;refine⟨_,_,rfl,qa_,hA.fill (M:=0),hA.own (aD.mono s_) (LvB.touch2 _ _),?_⟩;exact((bA_.drew.trans (z.mono s_)).setCell qa_ _).setCell qa_ _
    case rest=>
     obtain⟨kb,v0,rfl,aE,HC⟩:=hcut;obtain⟨wo,bA⟩:∃wo,wo=wr:=⟨wr,rfl⟩;subst bA;have aR:=x1_ HC.2.2;have a7:=x3_ (HL.below HC.2.2) HC.1 (HC.2.1.mono a8)
     have HQ:Hid (∀n q,(Value.slice ha n hc).ownBlock=some q->q≠kb):=λn q hq=>by have:=(rl_ HL.row.row q (by cases ha<;>exact hq)).2;omega
     have c5:=Nat.le_trans a8 aE;clear HC HL aB;go_wp2_with fail
     go_loopw [7,11] (λth ti r=>∃(E N:Nat) (s:List Gu) (l:List Ct) (vv:Value),ti=.int .i64 ((E:Int)-1)/\th=.slice ha s.length hc/\s.length<=b/\E<=s.length/\Hid (au r w.heap.size (.slice ha s.length hc) s/\LvB r kb N vv/\Aj r w.heap.size vv l/\SkI a b R aW s E N l)/\Hid (E_ wo r)) (λ_ ti _=>(intOf ti+1).toNat)
     case atStart=>exact⟨H.length,0,H,sE,v0,g_,rfl,aP,qa_,⟨a7.1,a7.2.1,a7.2.2,aT⟩,aR⟩
     case round=>
      clear a7 aT aR;obtain⟨E,N,s,l,vv,rfl,rfl,bE,bO,I,P⟩:=hrel
      by_cases hin:E=0
      ·subst hin;obtain⟨hX,hB,hE,A⟩:=I.out;obtain⟨aY,hR⟩:=A.end_;obtain⟨j,cl,rfl⟩:=hE.shape;obtain⟨k0,k1,_,_,a9⟩:=hB.cells;obtain⟨i0,aU,bG,b9,bF⟩:=info_parts Zj1;have aF:=a1.trans (P.mono a8);have b7:=aF.size;have a0:Hid (∀o,au (wr.alloc o) _ _ _/\Aj (wr.alloc o) _ _ l):=λo=>⟨hX.below bA_,hE.alloc _⟩
       have a6:Hid (Ud (b+a) (s++[⟨N,l,.slice j l.length cl⟩])/\Bh ((s++[(⟨N,l,.slice j l.length cl⟩:Gu)]).map Gu.L)<=1000*(b+a:Nat)/\((s++[(⟨N,l,.slice j l.length cl⟩:Gu)]).map Gu.pr).reverse=R):=(by refine⟨A.ok.more A.good A.len aY o_ (by have:=A.top;simp only;omega),?_,?_⟩;have aL:=A.tt;rw[List.map_append,Jf];simp only[List.map_cons,List.map_nil,Bh];omega;rw[hR,List.map_append,List.reverse_append];rfl);clear I hX hB hE A aY hR P;generalize hll3:l.length=nl at *;go_wp2_with (at_builtin;refine Ab rfl (.tmp 72) (.tmp 74) 397 rfl w.heap.size 399 i0 _ 2 32 Tryz.underlying397 aU bG b9 bF rfl d_ (.slice ha s.length hc) s.length _ rfl (a0 _).1.row2 _ 1 1 [I_ (N:Nat),.slice j nl cl] rfl rfl ?_ ?_ ?_ ?_ ?_ ?_ ?_)
       exact Am _ _ _
       ·intro u hu;simp at hu;rcases hu with rfl|rfl<;>rfl
       decide;unfold maxLen;omega;omega;simp;omega;intro v7 w7 H7;obtain⟨r7,g7,_,_,q7,p7,b5⟩:=H7;have G:=x2_ ((a0 _).1.more (p:=⟨N,l,.slice j nl cl⟩) (a0 _).2 g7 r7) (aF.trans ((bz_.alloc b7 _).grown g7 t_ (λk hk=>(rl_ (a0 default).1.row.row k hk).1)));subst b5;clear r7 g7 a0 k0 k1 aF;refine rd_ ?_;exact⟨b+a,f',_,g_,o_,⟨G.1,a6.1,a6.2.1,t_,aZ.2,by rw[a6.2.2];exact aZ.1⟩,G.2⟩
      obtain⟨i,rfl⟩:∃i,E=i+1:=⟨E-1,o_⟩;obtain⟨q,cq,hq,bB,c0,c1,hm⟩:=I.1.at (i:=i) o_;injection hq with hq1 _ hq3;subst hq1 hq3;obtain⟨k0,k1,f0,f1,a9⟩:=I.2.1.cells;have A:=I.2.2.2;have ei:(i+1:Nat)-1=(i:Int):=o_;rw[ei];have g1:0<=(i:Int):=o_;have g2:i<(s.length:Int):=o_
      by_cases hne:(s.getD i Sc).n=N
      ·have e1:(((s.getD i Sc).n:_)==(N:Int))=_:=beq_iff_eq.2 o_;obtain⟨aS,gj⟩:=A.join hne hs bC o_;have hE:=I.1.each _ hm;have b6:=(A.ok.at hm).2;obtain⟨ao,co,Z,a5,_,_⟩:=hE.seen o_;rw[Z] at c1;obtain⟨j,cl,b8,aX,_,_⟩:=I.2.2.1.seen (by have:=A.len;omega);subst b8;have c9:=A.len;have HJ:Hid (∀d,Calls _ _ _ _ λe w'=>∃v,_/\Aj _ wr.heap.size v _/\E_ wr _):=λd=>(Yx _ _ _ l co cl _ (a5.drewN d) (aX.drewN d) (A.ok.at hm).1 A.good).mono (λe w' ⟨v,h1,h2,h3⟩=>⟨v,h1,h2,(below_drewN bz_ d).trans h3⟩);have lj:=Km (s.getD i Sc).L l;have c:Hid (_/\(Bp (s.getD i Sc).L l).length<=64):=⟨gj,o_⟩;have aH:=x1_ aS;have bW:=A.top;have c7:=HV.2.1;clear aS gj hE b6 Z a5 aX hm A lj hne
       generalize (s.getD i Sc).n=x,(s.getD i Sc).L=O at *;generalize hno:O.length=no,hnl:l.length=nl at *;go_upto_region 12 with fail;go_quiet (fail);go_upto_region 13 with fail;refine Al (λw'=>w'.cell? (A_ kb 0)=some (I_ (N:Nat))/\w'.cell? (A_ kb 1)=some (.slice j nl cl)/\w'.cell? (A_ q (i*2+1))=some (.slice ao no co)) 14 k_ ⟨k0,k1,c1⟩ (λhHeld=>?_);refine Ah 0 ?_;refine Ah 1 ?_;refine Ah 2 ?_;refine Ah 3 ?_;refine Ah 4 ?_;refine Ah 5 ?_;refine Ah 6 ?_;refine Ah 7 ?_;refine Ah 8 ?_;refine Ah 9 ?_;refine Ah 11 ?_;refine Af (i:=10) k_ rfl (λKK hK=>?_);go_simp;refine(HJ _).mono ?_;rintro e w1 ⟨vj,rfl,Y,y⟩;obtain⟨aj,cj,rfl,U,a3,_⟩:=Y.seen (by have:=c.2;omega)
       have T:=x1_ (jv _ _ _ a _ U c.1 a3 (by have:=c.2;omega));have y0:=(y.cell (p:=(A_ kb 0)) a9).trans k0;have y1:=(y.cell (p:=(A_ kb 1)) a9).trans k1;have y2:=(y.cell (World.block_lt_of_cell? _ _ c1)).trans c1;have aC:=y.size;clear Y U a3 HJ;generalize (Bp O l).length=nj at *;go_simp;refine hK _ _ ⟨y0,y1,y2⟩ (λhHeld=>?_);clear hK KK;try simp only[Act.put,tA,tB,tC]
       refine Af (i:=12) k_ rfl (λKK hK=>?_);go_simp;refine T.mono ?_;rintro e w2 ⟨vc,rfl,J,V⟩;obtain⟨ac,cc,rfl⟩:=J.shape;have F:=y.trans (V.mono aC);have aM:LvB _ _ N _:=(F.block _ a9).trans I.2.1;obtain⟨z0,z1,z2,z3,_⟩:=aM.cells;have z4:=(F.cell (World.block_lt_of_cell? _ _ c1)).trans c1;have G:Hid (_/\_/\Aj w2 w.heap.size _ _):=⟨I.1.below F,aM,J.mono o_⟩;have bH:=x1_ (P.trans (F.mono P.size));clear J V y F aM T c y0 y1 y2 I P;generalize (Do (Bp O l) a).length=nc at *;go_simp;refine hK _ _ ⟨z0,z1,z4⟩ (λhHeld=>?_);clear hK KK;try simp only[Act.put,tA,tB,tC]
       refine Ah 13 ?_;refine Ai (i:=14) k_ rfl k_ (λKK hK=>?_);go_simp;refine hK _ _ ?_;clear hK KK;try simp only[Act.put,tA,tB,tC]
       refine Ak k_ ?_ _;have g3:i<=(hc:Int):=o_;have g4:¬hc=0:=o_;go_wp2;go_roundw
       case rel=>
        refine⟨i,N+1,s.take i,_,.slice ac nc cc,g_,by rw[List.length_take,Nat.min_eq_left o_],by rw[List.length_take];omega,by rw[List.length_take];omega,⟨?_,G.2.1.fill (M:=N+1),G.2.1.own G.2.2 (LvB.touch2 _ _),aH⟩,((bH.setCell aE _).setCell aE _)⟩;rw[List.length_take,Nat.min_eq_left o_];exact(G.1.box G.2.1 (LvB.touch2 _ _) (λx hx=>HQ _ x hx)).upto o_
       case measure=>exact z_
      have e1:(((s.getD i Sc).n:_)==(N:Int))=_:=beq_eq_false_iff_ne.2 o_;have aH:=x1_ (A.stop hne);clear hne A ei;generalize (s.getD i Sc).n=x at *;go_upto_region 12 with fail;go_quiet (fail);refine rd_ ?_;exact⟨i,N,s,l,vv,g_,rfl,bE,o_,⟨I.1.below (below_drewN bz_ _),I.2.1,I.2.2.1.below (below_drewN bz_ _),aH⟩,below_drewN P _⟩
  have c3:¬b<(n:Int):=o_;obtain⟨hL,a4,a2,aP,aG,t⟩:=HR;obtain⟨ha,hc,rfl⟩:=hL.shape
  have bM:Hid (skF a [] (skB a n [] C r)=skF a [] (H.map Gu.pr).reverse):=by
   show _=_;rw[<- t]
   cases fu with
   |zero=>rfl
   |succ f=>simp only[skB];rw[if_pos (by simp;have:=aK.out;omega)]
  have HX:Hid (_/\_/\Bh (H.map Gu.L)<=2000000):=⟨hL,a4,o_⟩;obtain⟨wl,bN⟩:∃wl,wl=wr:=⟨wr,rfl⟩;subst bN;clear hL a4 a2 aG t HV HW;go_wp2_with fail
  go_loopw [12,13] (λtq ti r=>∃(E:Nat) (j:List Ct),ti=.int .i64 ((E:Int)-1)/\E<=H.length/\Hid (Aj r w.heap.size tq j/\Bq j/\j.length<=32/\Ae j+Bh ((H.take E).map Gu.L)<=2000000/\skF a j ((H.take E).map Gu.pr).reverse=skF a [] (H.map Gu.pr).reverse)/\E_ wl r) (λ_ ti _=>(intOf ti+1).toNat)
  case atStart=>exact⟨H.length,[],g_,qa_,⟨Aj.nil _ _,Bq.nil,s_,by rw[List.take_length];have:=HX.2.2;simpa [Ae] using this,by rw[List.take_length]⟩,bz_⟩
  case round=>
   obtain⟨E,j,rfl,bO,HR,Q⟩:=hrel;have bD:=Q.size
   by_cases hin:E=0
   ·subst hin;have G:Hid (Aj wr w.heap.size u12 (skF a [] (skB a n [] C r))/\E_ w wr):=(by obtain⟨h1,_,_,_,h5⟩:=HR.out;rw[bM,<- h5];exact⟨h1,a1.trans (Q.mono a8)⟩);clear HR Q;go_wp2;go_ret;exact⟨_,rfl,G.1,G.2⟩
   obtain⟨i,rfl⟩:∃i,E=i+1:=⟨E-1,o_⟩;obtain⟨q,cq,hq,bB,c0,c1,hm⟩:=(HX.1.below Q).at (i:=i) o_;injection hq with hq1 _ hq3;subst hq1 hq3;obtain⟨aV,aJ,bV,aA,t⟩:=HR;obtain⟨gO,lO⟩:=HX.2.1.at hm;obtain⟨ao,co,Z,a5,_,_⟩:=((HX.1.below Q).each _ hm).seen o_;rw[Z] at c1;obtain⟨aa,ca,bK,aQ,_,_⟩:=aV.seen o_;subst bK;rw[Ya o_,List.map_append] at aA t;rw[Jf] at aA;rw[List.reverse_append] at t;simp only[List.map_cons,List.map_nil,Bh,List.reverse_cons,List.reverse_nil,List.nil_append,List.singleton_append,skF] at aA t;have tP:=Eh (Ls:=(H.take i).map _) (λx hx=>(HX.2.1.take i).ok.good x hx);have gj:=Gb aJ gO o_;have gc:=gj.sub (Hf gj a)
   have bI:=Ia (Bp j (H.getD i Sc).L) (a:=(a:Int)) o_;have lj:=Km j (H.getD i Sc).L;have tc:Ae (Do (Bp j (H.getD i Sc).L) a)=Ae j+Ae (H.getD i Sc).L:=(by rw[Fm,Er]);have HJ:=x1_ (Yx _ _ _ _ ca co _ aQ a5 aJ gO);have c:Hid (Bq (Bp j (H.getD i Sc).L)/\(Bp j (H.getD i Sc).L).length<=64/\Bq (Do (Bp j (H.getD i Sc).L) a)/\(Do (Bp j (H.getD i Sc).L) a).length<=32/\Ae (Do (Bp j (H.getD i Sc).L) a)+Bh ((H.take i).map Gu.L)<=2000000/\skF a (Do (Bp j (H.getD i Sc).L) a) ((H.take i).map Gu.pr).reverse=skF a [] (H.map Gu.pr).reverse):=⟨gj,o_,gc,o_,o_,t⟩;have ei:(i+1:Nat)-1=(i:Int):=o_;rw[ei];have g1:0<=(i:Int):=o_
   have g2:i<(H.length:Int):=o_;clear aV aJ aA t Z a5 aQ gj gc bI lj tc c0 gO lO hm ei tP;generalize (H.getD i Sc).L=O at *;generalize O.length=no at *;go_wp2_with fail
   refine HJ.mono ?_;rintro e w1 ⟨vj,rfl,Y,y⟩;have aC:=y.size;obtain⟨aj,cj,rfl,U,a3,_⟩:=Y.seen (by have:=c.2.1;omega);have T:=x1_ (jv _ _ _ a _ U c.1 a3 (by have:=c.2.1;omega));clear Y U a3 HJ;generalize (Bp j O).length=nj at *;go_wp2_with fail
   refine T.mono ?_;rintro e w2 ⟨vc,rfl,J,V⟩;have G:Hid (Aj _ w.heap.size _ _/\_):=⟨J.mono o_,Q.trans ((y.trans (V.mono aC)).mono bD)⟩;clear J V y T c1;refine rd_ ?_;exact⟨i,_,g_,o_,⟨G.1,c.2.2⟩,G.2⟩
end Go.Proofs.YtfcgnpchbcmdeaaGreat
