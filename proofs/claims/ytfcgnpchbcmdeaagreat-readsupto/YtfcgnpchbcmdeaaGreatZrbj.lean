import Derived.Test.YtfcgnpchbcmdeaaGreatZrbi
import Derived.Test.YtfcgnpchbcmdeaaGreatZrar
namespace Go.Proofs.YtfcgnpchbcmdeaaGreat
set_option linter.all false
set_option maxRecDepth 100000
set_option maxHeartbeats 8000000
open Go.RowKit
def Za{n c b a}(d:c=min (b+a) n){z:List Int}(e:z.length=n):(z.drop b).take (c-b)=(z.drop b).take a:=by grind [List.take_of_length_le]
def ZbM va wa (n C B a:Nat) D r w (hv:Cq w va n D)(hw:Cq w wa n r)(hn:n<=1000)(c6:n<=C)(c4:n<=B)(hs:2<=a)(bI:a<=32):C_ 289 #[.slice va n C,.slice wa n B,.int .i64 a] w λe w'=>∃v,e=.returned v/\Aj w' w.heap.size v (Dl a D r)/\Below w.heap.size w w':=by
 have HV:=x1_ hv;have HW:=x1_ hw;have aL:=x2_ hv.1 hw.1;have aN:Hid (Dl a D r=skF a [] (skB a n [] D r)):=(by show _=_;rw[<- Zgi hs D r (by rw[hv.1,hw.1]),hv.1]);rw[aN];clear hv hw aN;go_enter Tryz.func289,Tryz.ntmps289;go_wp2_with fail
 go_loopw [7,8] (λtl tf wr=>∃(b fu:Nat) (H:List Gu),tf=.int .i64 b/\b<=n+a/\Hid (au wr w.heap.size tl H/\Ud b H/\Bh (H.map Gu.L)<=1000*(b:Int)/\H.length<=b/\n-b<=fu/\skB a fu (H.map Gu.pr).reverse (D.drop b) (r.drop b)=skB a n [] D r)/\E_ w wr) (λ_ tf _=>n+a-(intOf tf).toNat)
 case atStart=>exact⟨0,n,[],rfl,qg_,⟨au.nil _ _,Ud.nil _,by simp[Bh],s_,o_,rfl⟩,bz_⟩
 case round=>
  obtain⟨b,fu,H,rfl,bZ,HR,a1⟩:=hrel;have a7:=a1.size
  by_cases hkn:b<n
  ·rcases HV.out with⟨_,_,h0|⟨b1,o1,rfl,hb1,_⟩⟩;omega;rcases HW.out with⟨_,_,h0|⟨b2,o2,rfl,F,_⟩⟩;omega;obtain⟨te,Q⟩:=ex_ (min (b+a) n);have c7:=x1_ Q;have bS:b<(n:Int):=o_;go_upto_if 27 with fail
   go_cut [9] (λv wx=>v=.int .i64 te/\wx=wr)
   case first=>
    by_cases hc:b+a<=n
    ·have e1:te=b+a:=o_;have g:¬n<b+(a:Int):=o_;clear Q;subst e1;go_wp2;go_meet
     exact⟨g_,rfl⟩
    have e1:te=n:=o_;have g:n<b+(a:Int):=o_;clear Q;subst e1;go_wp2;go_meet
    exact⟨rfl,rfl⟩
   case rest =>
    obtain⟨rfl,b3⟩:=hcut;obtain rfl:=b3.symm;clear b3;have bQ:b<=(te:Int):=o_;have bU:te<=(C:Int):=o_;have bP:te<=(B:Int):=o_;have bT:¬C=b:=o_;have bR:¬B=b:=o_;have bW:te-b<=a:=o_
    have aB:Hid (∀W:World,E_ w W->C_ 115 #[.slice (some ⟨b1,o1+b,none⟩) (te-b) (C-b),.slice (some ⟨b2,o2+b,none⟩) (te-b) (B-b)] W λe w'=>∃v,e=.returned v/\Aj w' W.heap.size v (Iz ((D.drop b).take a) ((r.drop b).take a))/\E_ W w'):=by intro W hW;have q1:=(Ro HV hW hb1).part (fr:=b) (m:=te-b) o_;have q2:=(Ro HW hW F).part (fr:=b) (m:=te-b) o_;rw[Za Q aL.1] at q1;rw[Za Q aL.2] at q2;refine(Qx _ _ _ _ _ _ _ _ W q1 q2 o_ o_).mono ?_;rintro e w' ⟨v,M,rfl,hM,ho,hb⟩;refine⟨v,rfl,?_,hb⟩;unfold Iz;rw[ZbY hM];exact ho
    obtain⟨hL,U,V,aV,aM,t⟩:=HR.out;have aD:((D.drop b).take a).length<=a:=t_;have a4:=du (vs:=(D.drop b).take a) (ws:=(r.drop b).take a) o_;have bA:=(Df a4.1).1;obtain⟨f',aT⟩:∃f',fu=f'+1:=⟨fu-1,o_⟩;obtain⟨R,hR⟩:=ex_ (skT a 0 (Iz ((D.drop b).take a) ((r.drop b).take a)) (H.map Gu.pr).reverse);have aY:Hid (skB a f' R (D.drop (b+a)) (r.drop (b+a))=skB a n [] D r/\n-(b+a)<=f'):=by refine⟨?_,o_⟩;rw[<- t,aT,hR];simp only[skB];rw[if_neg t_,List.drop_drop,List.drop_drop]
    obtain⟨aP,aH⟩:=ey_ (Bh (H.map Gu.L)+Ae (Iz ((D.drop b).take a) ((r.drop b).take a)));have c3:aP<=1000*(b+a:Nat):=o_;have aW:Hid (SkI _ _ R _ H _ 0 _):=⟨U,λ_ _=>qg_,a4.1,o_,aH,qa_,.inl ⟨rfl,hR⟩,o_⟩;obtain⟨ha,hc,rfl⟩:=hL.shape;have HL:=x1_ hL;clear hL U V aM t aD a4 bA aH aT hR HR Q;generalize Iz ((D.drop b).take a) ((r.drop b).take a)=sE at *;go_upto_region 8 with fail;go_cut [10] (λv wx=>∃kb vv,v=.pointer (some ⟨kb,0,none⟩)/\wr.heap.size<=kb/\Hid (LvB wx kb 0 vv/\Aj wx wr.heap.size vv sE/\E_ wr wx))
    case first=>
     go_region_held3 (λ_=>True) (trivial) (first|(go_at_call 115;refine(aB.out _ (by repeat(first|assumption|with_reducible apply Below.drew|(refine Below.alloc ?_ o_ _)))).mono ?_;rintro e w1 ⟨vv,rfl,aK,z⟩;obtain⟨av,cv,rfl⟩:=aK.shape;(try(have hA:LvB _ _ 0 _:=(z.block _ s_).trans hn_;obtain⟨z0,z1,z2,z3,_⟩:=hA.cells))))
     all_goals go_wp2
     all_goals go_meet
     exact⟨_,_,rfl,by have:=z.size;simpa using this,hn_,aK.alloc _,(bz_.drew.trans z).alloc (by have:=z.size;simpa using this) _⟩;have hz:=z.size;simp at hz;refine⟨_,_,rfl,qa_,hA.fill (M:=0),hA.own (aK.mono s_) (LvB.touch2 _ _),?_⟩;exact((bA_.drew.trans (z.mono s_)).setCell qa_ _).setCell qa_ _
    case rest=>
     obtain⟨kb,v0,rfl,aC,HC⟩:=hcut;obtain⟨wo,bF⟩:∃wo,wo=wr:=⟨wr,rfl⟩;subst bF;have aS:=x1_ HC.2.2;have a9:=x3_ (HL.below HC.2.2) HC.1 (HC.2.1.mono a7)
     have HQ:Hid (∀n q,(Value.slice ha n hc).ownBlock=some q->q≠kb):=λn q hq=>by have:=(rl_ HL.row.row q (by cases ha<;>exact hq)).2;omega
     have bV:=Nat.le_trans a7 aC;clear HC HL aB;go_wp2_with fail
     go_loopw [7,11] (λth ti r=>∃(E N:Nat) (s:List Gu) (l:List Ct) (vv:Value),ti=.int .i64 ((E:Int)-1)/\th=.slice ha s.length hc/\s.length<=b/\E<=s.length/\Hid (au r w.heap.size (.slice ha s.length hc) s/\LvB r kb N vv/\Aj r w.heap.size vv l/\SkI a b R aP s E N l)/\Hid (E_ wo r)) (λ_ ti _=>(intOf ti+1).toNat)
     case atStart=>exact⟨H.length,0,H,sE,v0,g_,rfl,aV,qa_,⟨a9.1,a9.2.1,a9.2.2,aW⟩,aS⟩
     case round=>
      clear a9 aW aS;obtain⟨E,N,s,l,vv,rfl,rfl,bM,bL,P,I⟩:=hrel
      by_cases hin:E=0
      ·subst hin;obtain⟨hX,hB,hE,A⟩:=P.out;obtain⟨aO,hR⟩:=A.end_;obtain⟨j,cl,rfl⟩:=hE.shape;obtain⟨k0,k1,_,_,aA⟩:=hB.cells;obtain⟨i0,aR,bO,bN,bB⟩:=info_parts Zj0;have aJ:=a1.trans (I.mono a7);have b8:=aJ.size;have X:Hid (∀o,au (wr.alloc o) _ _ _/\Aj (wr.alloc o) _ _ l):=λo=>⟨hX.below bA_,hE.alloc _⟩
       have T:Hid (Ud (b+a) (s++[⟨N,l,.slice j l.length cl⟩])/\Bh ((s++[(⟨N,l,.slice j l.length cl⟩:Gu)]).map Gu.L)<=1000*(b+a:Nat)/\((s++[(⟨N,l,.slice j l.length cl⟩:Gu)]).map Gu.pr).reverse=R):=(by refine⟨A.ok.more A.good A.len aO o_ (by have:=A.top;simp only;omega),?_,?_⟩;have aH:=A.tt;rw[List.map_append,Jf];simp only[List.map_cons,List.map_nil,Bh];omega;rw[hR,List.map_append,List.reverse_append];rfl);clear P hX hB hE A aO hR I;generalize hll3:l.length=nl at *;go_wp2_with (at_builtin;refine Ab rfl (.tmp 72) (.tmp 74) 397 rfl w.heap.size 399 i0 _ 2 32 Tryz.underlying397 aR bO bN bB rfl d_ (.slice ha s.length hc) s.length _ rfl (X _).1.row2 _ 1 1 [I_ (N:Nat),.slice j nl cl] rfl rfl ?_ ?_ ?_ ?_ ?_ ?_ ?_)
       exact Am _ _ _
       ·intro u hu;simp at hu;rcases hu with rfl|rfl<;>rfl
       decide;unfold maxLen;omega;omega;simp;omega;intro v7 w7 H7;obtain⟨r7,g7,_,_,q7,p7,b5⟩:=H7;have G:=x2_ ((X _).1.more (p:=⟨N,l,.slice j nl cl⟩) (X _).2 g7 r7) (aJ.trans ((bz_.alloc b8 _).grown g7 t_ (λk hk=>(rl_ (X default).1.row.row k hk).1)));subst b5;clear r7 g7 X k0 k1 aJ;refine rd_ ?_;exact⟨b+a,f',_,g_,o_,⟨G.1,T.1,T.2.1,t_,aY.2,by rw[T.2.2];exact aY.1⟩,G.2⟩
      obtain⟨i,rfl⟩:∃i,E=i+1:=⟨E-1,o_⟩;obtain⟨q,cq,hq,b9,c0,c1,hm⟩:=P.1.at (i:=i) o_;injection hq with hq1 _ hq3;subst hq1 hq3;obtain⟨k0,k1,f0,f1,aA⟩:=P.2.1.cells;have A:=P.2.2.2;have ei:(i+1:Nat)-1=(i:Int):=o_;rw[ei];have g1:0<=(i:Int):=o_;have g2:i<(s.length:Int):=o_
      by_cases hne:(s.getD i Sc).n=N
      ·have e1:(((s.getD i Sc).n:_)==(N:Int))=_:=beq_iff_eq.2 o_;obtain⟨aX,gj⟩:=A.join hne hs bI o_;have hE:=P.1.each _ hm;have bG:=(A.ok.at hm).2;obtain⟨ao,co,a3,Z,_,_⟩:=hE.seen o_;rw[a3] at c1;obtain⟨j,cl,b6,aQ,_,_⟩:=P.2.2.1.seen (by have:=A.len;omega);subst b6;have c8:=A.len;have HJ:Hid (∀d,Calls _ _ _ _ λe w'=>∃v,_/\Aj _ wr.heap.size v _/\E_ wr _):=λd=>(Yx _ _ _ l co cl _ (Z.drewN d) (aQ.drewN d) (A.ok.at hm).1 A.good).mono (λe w' ⟨v,h1,h2,h3⟩=>⟨v,h1,h2,(below_drewN bz_ d).trans h3⟩);have lj:=Km (s.getD i Sc).L l;have c:Hid (_/\(Bp (s.getD i Sc).L l).length<=64):=⟨gj,o_⟩;have aE:=x1_ aX;have c5:=A.top;have c9:=HV.2.1;clear aX gj hE bG a3 Z aQ hm A lj hne
       generalize (s.getD i Sc).n=x,(s.getD i Sc).L=O at *;generalize hno:O.length=no,hnl:l.length=nl at *;go_upto_region 12 with fail;go_quiet (fail);go_upto_region 13 with fail;refine Al (λw'=>w'.cell? (A_ kb 0)=some (I_ (N:Nat))/\w'.cell? (A_ kb 1)=some (.slice j nl cl)/\w'.cell? (A_ q (i*2+1))=some (.slice ao no co)) 14 k_ ⟨k0,k1,c1⟩ (λhHeld=>?_);refine Ah 0 ?_;refine Ah 1 ?_;refine Ah 2 ?_;refine Ah 3 ?_;refine Ah 4 ?_;refine Ah 5 ?_;refine Ah 6 ?_;refine Ah 7 ?_;refine Ah 8 ?_;refine Ah 9 ?_;refine Ah 11 ?_;refine Af (i:=10) k_ rfl (λKK hK=>?_);go_simp;refine(HJ _).mono ?_;rintro e w1 ⟨vj,rfl,a2,y⟩;obtain⟨aj,cj,rfl,Y,a5,_⟩:=a2.seen (by have:=c.2;omega)
       have a0:=x1_ (jv _ _ _ a _ Y c.1 a5 (by have:=c.2;omega));have y0:=(y.cell (p:=(A_ kb 0)) aA).trans k0;have y1:=(y.cell (p:=(A_ kb 1)) aA).trans k1;have y2:=(y.cell (World.block_lt_of_cell? _ _ c1)).trans c1;have aF:=y.size;clear a2 Y a5 HJ;generalize (Bp O l).length=nj at *;go_simp;refine hK _ _ ⟨y0,y1,y2⟩ (λhHeld=>?_);clear hK KK;try simp only[Act.put,tA,tB,tC]
       refine Af (i:=12) k_ rfl (λKK hK=>?_);go_simp;refine a0.mono ?_;rintro e w2 ⟨vc,rfl,J,a6⟩;obtain⟨ac,cc,rfl⟩:=J.shape;have F:=y.trans (a6.mono aF);have aG:LvB _ _ N _:=(F.block _ aA).trans P.2.1;obtain⟨z0,z1,z2,z3,_⟩:=aG.cells;have z4:=(F.cell (World.block_lt_of_cell? _ _ c1)).trans c1;have G:Hid (_/\_/\Aj w2 w.heap.size _ _):=⟨P.1.below F,aG,J.mono o_⟩;have bD:=x1_ (I.trans (F.mono I.size));clear J a6 y F aG a0 c y0 y1 y2 P I;generalize (Do (Bp O l) a).length=nc at *;go_simp;refine hK _ _ ⟨z0,z1,z4⟩ (λhHeld=>?_);clear hK KK;try simp only[Act.put,tA,tB,tC]
       refine Ah 13 ?_;refine Ai (i:=14) k_ rfl k_ (λKK hK=>?_);go_simp;refine hK _ _ ?_;clear hK KK;try simp only[Act.put,tA,tB,tC]
       refine Ak k_ ?_ _;have g3:i<=(hc:Int):=o_;have g4:¬hc=0:=o_;go_wp2;go_roundw
       case rel=>
        refine⟨i,N+1,s.take i,_,.slice ac nc cc,g_,by rw[List.length_take,Nat.min_eq_left o_],by rw[List.length_take];omega,by rw[List.length_take];omega,⟨?_,G.2.1.fill (M:=N+1),G.2.1.own G.2.2 (LvB.touch2 _ _),aE⟩,((bD.setCell aC _).setCell aC _)⟩;rw[List.length_take,Nat.min_eq_left o_];exact(G.1.box G.2.1 (LvB.touch2 _ _) (λx hx=>HQ _ x hx)).upto o_
       case measure=>exact z_
      have e1:(((s.getD i Sc).n:_)==(N:Int))=_:=beq_eq_false_iff_ne.2 o_;have aE:=x1_ (A.stop hne);clear hne A ei;generalize (s.getD i Sc).n=x at *;go_upto_region 12 with fail;go_quiet (fail);refine rd_ ?_;exact⟨i,N,s,l,vv,g_,rfl,bM,o_,⟨P.1.below (below_drewN bz_ _),P.2.1,P.2.2.1.below (below_drewN bz_ _),aE⟩,below_drewN I _⟩
  have bX:¬b<(n:Int):=o_;obtain⟨hL,U,V,aV,aM,t⟩:=HR;obtain⟨ha,hc,rfl⟩:=hL.shape
  have bH:Hid (skF a [] (skB a n [] D r)=skF a [] (H.map Gu.pr).reverse):=by
   show _=_;rw[<- t]
   cases fu with
   |zero=>rfl
   |succ f=>simp only[skB];rw[if_pos (by simp;have:=aL.out;omega)]
  have HX:Hid (_/\_/\Bh (H.map Gu.L)<=2000000):=⟨hL,U,o_⟩;obtain⟨wl,bK⟩:∃wl,wl=wr:=⟨wr,rfl⟩;subst bK;clear hL U V aM t HV HW;go_wp2_with fail
  go_loopw [12,13] (λtq ti r=>∃(E:Nat) (j:List Ct),ti=.int .i64 ((E:Int)-1)/\E<=H.length/\Hid (Aj r w.heap.size tq j/\Bq j/\j.length<=32/\Ae j+Bh ((H.take E).map Gu.L)<=2000000/\skF a j ((H.take E).map Gu.pr).reverse=skF a [] (H.map Gu.pr).reverse)/\E_ wl r) (λ_ ti _=>(intOf ti+1).toNat)
  case atStart=>exact⟨H.length,[],g_,qa_,⟨Aj.nil _ _,Bq.nil,s_,by rw[List.take_length];have:=HX.2.2;simpa [Ae] using this,by rw[List.take_length]⟩,bz_⟩
  case round=>
   obtain⟨E,j,rfl,bL,HR,S⟩:=hrel;have bE:=S.size
   by_cases hin:E=0
   ·subst hin;have G:Hid (Aj wr w.heap.size u12 (skF a [] (skB a n [] D r))/\E_ w wr):=(by obtain⟨h1,_,_,_,h5⟩:=HR.out;rw[bH,<- h5];exact⟨h1,a1.trans (S.mono a7)⟩);clear HR S;go_wp2;go_ret;exact⟨_,rfl,G.1,G.2⟩
   obtain⟨i,rfl⟩:∃i,E=i+1:=⟨E-1,o_⟩;obtain⟨q,cq,hq,b9,c0,c1,hm⟩:=(HX.1.below S).at (i:=i) o_;injection hq with hq1 _ hq3;subst hq1 hq3;obtain⟨aZ,aI,bY,a8,t⟩:=HR;obtain⟨gO,lO⟩:=HX.2.1.at hm;obtain⟨ao,co,a3,Z,_,_⟩:=((HX.1.below S).each _ hm).seen o_;rw[a3] at c1;obtain⟨aa,ca,b7,aU,_,_⟩:=aZ.seen o_;subst b7;rw[Ya o_,List.map_append] at a8 t;rw[Jf] at a8;rw[List.reverse_append] at t;simp only[List.map_cons,List.map_nil,Bh,List.reverse_cons,List.reverse_nil,List.nil_append,List.singleton_append,skF] at a8 t;have tP:=Eh (Ls:=(H.take i).map _) (λx hx=>(HX.2.1.take i).ok.good x hx);have gj:=Gb aI gO o_;have gc:=gj.sub (Hf gj a)
   have bC:=Ia (Bp j (H.getD i Sc).L) (size:=(a:Int)) o_;have lj:=Km j (H.getD i Sc).L;have tc:Ae (Do (Bp j (H.getD i Sc).L) a)=Ae j+Ae (H.getD i Sc).L:=(by rw[Fm,Er]);have HJ:=x1_ (Yx _ _ _ _ ca co _ aU Z aI gO);have c:Hid (Bq (Bp j (H.getD i Sc).L)/\(Bp j (H.getD i Sc).L).length<=64/\Bq (Do (Bp j (H.getD i Sc).L) a)/\(Do (Bp j (H.getD i Sc).L) a).length<=32/\Ae (Do (Bp j (H.getD i Sc).L) a)+Bh ((H.take i).map Gu.L)<=2000000/\skF a (Do (Bp j (H.getD i Sc).L) a) ((H.take i).map Gu.pr).reverse=skF a [] (H.map Gu.pr).reverse):=⟨gj,o_,gc,o_,o_,t⟩;have ei:(i+1:Nat)-1=(i:Int):=o_;rw[ei];have g1:0<=(i:Int):=o_
   have g2:i<(H.length:Int):=o_;clear aZ aI a8 t a3 Z aU gj gc bC lj tc c0 gO lO hm ei tP;generalize (H.getD i Sc).L=O at *;generalize O.length=no at *;go_wp2_with fail
   refine HJ.mono ?_;rintro e w1 ⟨vj,rfl,a2,y⟩;have aF:=y.size;obtain⟨aj,cj,rfl,Y,a5,_⟩:=a2.seen (by have:=c.2.1;omega);have a0:=x1_ (jv _ _ _ a _ Y c.1 a5 (by have:=c.2.1;omega));clear a2 Y a5 HJ;generalize (Bp j O).length=nj at *;go_wp2_with fail
   refine a0.mono ?_;rintro e w2 ⟨vc,rfl,J,a6⟩;have G:Hid (Aj _ w.heap.size _ _/\_):=⟨J.mono o_,S.trans ((y.trans (a6.mono aF)).mono bE)⟩;clear J a6 y a0 c1;refine rd_ ?_;exact⟨i,_,g_,o_,⟨G.1,c.2.2⟩,G.2⟩
end Go.Proofs.YtfcgnpchbcmdeaaGreat
