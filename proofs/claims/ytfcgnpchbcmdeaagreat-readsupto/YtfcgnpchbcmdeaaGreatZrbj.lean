import Derived.Test.YtfcgnpchbcmdeaaGreatZrbi
import Derived.Test.YtfcgnpchbcmdeaaGreatZrar
namespace Go.Proofs.YtfcgnpchbcmdeaaGreat
set_option linter.all false
set_option maxRecDepth 100000
set_option maxHeartbeats 8000000
open Go.RowKit
def Za{n c b a}(d:c=min (b+a) n){z:List Int}(e:z.length=n):(z.drop b).take (c-b)=(z.drop b).take a:=by grind [List.take_of_length_le]
def ZbM va wa (n D C a:Nat) B r w (hv:Cq w va n B)(hw:Cq w wa n r)(hn:n<=1000)(bX:n<=D)(c6:n<=C)(hs:2<=a)(bG:a<=32):C_ 289 #[.slice va n D,.slice wa n C,.int .i64 a] w λe w'=>∃v,e=.returned v/\Aj w' w.heap.size v (Dl a B r)/\Below w.heap.size w w':=by
 have HV:=x1_ hv;have HW:=x1_ hw;have aD:=x2_ hv.1 hw.1;have aX:Hid (Dl a B r=skF a [] (skB a n [] B r)):=(by show _=_;rw[<- Zgi hs B r (by rw[hv.1,hw.1]),hv.1]);rw[aX];clear hv hw aX;go_enter Tryz.func289,Tryz.ntmps289;go_wp2_with fail
 go_loopw [7,8] (λtl tf wr=>∃(b fu:Nat) (H:List Gu),tf=.int .i64 b/\b<=n+a/\Hid (au wr w.heap.size tl H/\Ud b H/\Bh (H.map Gu.L)<=1000*(b:Int)/\H.length<=b/\n-b<=fu/\skB a fu (H.map Gu.pr).reverse (B.drop b) (r.drop b)=skB a n [] B r)/\E_ w wr) (λ_ tf _=>n+a-(intOf tf).toNat)
 case atStart=>exact⟨0,n,[],rfl,qg_,⟨au.nil _ _,Ud.nil _,by simp[Bh],s_,o_,rfl⟩,bz_⟩
 case round=>
  obtain⟨b,fu,H,rfl,c8,HR,a2⟩:=hrel;have a8:=a2.size
  by_cases hkn:b<n
  ·rcases HV.out with⟨_,_,h0|⟨b1,o1,rfl,hb1,_⟩⟩;omega;rcases HW.out with⟨_,_,h0|⟨b2,o2,rfl,F,_⟩⟩;omega;obtain⟨X,J⟩:=ex_ (min (b+a) n);have c3:=x1_ J;have bR:b<(n:Int):=o_;go_upto_if 27 with fail
   go_cut [9] (λv wx=>v=.int .i64 X/\wx=wr)
   case first=>
    by_cases hc:b+a<=n
    ·have e1:X=b+a:=o_;have g:¬n<b+(a:Int):=o_;clear J;subst e1;go_wp2;go_meet
     exact⟨g_,rfl⟩
    have e1:X=n:=o_;have g:n<b+(a:Int):=o_;clear J;subst e1;go_wp2;go_meet
    exact⟨rfl,rfl⟩
   case rest =>
    obtain⟨rfl,aY⟩:=hcut;obtain rfl:=aY.symm;clear aY;have bS:b<=(X:Int):=o_;have bU:X<=(D:Int):=o_;have bV:X<=(C:Int):=o_;have bQ:¬D=b:=o_;have bT:¬C=b:=o_;have c9:X-b<=a:=o_
    have aC:Hid (∀W:World,E_ w W->C_ 115 #[.slice (some ⟨b1,o1+b,none⟩) (X-b) (D-b),.slice (some ⟨b2,o2+b,none⟩) (X-b) (C-b)] W λe w'=>∃v,e=.returned v/\Aj w' W.heap.size v (Iz ((B.drop b).take a) ((r.drop b).take a))/\E_ W w'):=by intro W hW;have q1:=(Ro HV hW hb1).part (b:=b) (m:=X-b) o_;have q2:=(Ro HW hW F).part (b:=b) (m:=X-b) o_;rw[Za J aD.1] at q1;rw[Za J aD.2] at q2;refine(Qx _ _ _ _ _ _ _ _ W q1 q2 o_ o_).mono ?_;rintro e w' ⟨v,M,rfl,hM,ho,hb⟩;refine⟨v,rfl,?_,hb⟩;unfold Iz;rw[ZbY hM];exact ho
    obtain⟨hL,a5,a0,aT,aI,s⟩:=HR.out;have aJ:((B.drop b).take a).length<=a:=t_;have U:=du (vs:=(B.drop b).take a) (ws:=(r.drop b).take a) o_;have bN:=(Df U.1).1;obtain⟨f',b5⟩:∃f',fu=f'+1:=⟨fu-1,o_⟩;obtain⟨R,hR⟩:=ex_ (skT a 0 (Iz ((B.drop b).take a) ((r.drop b).take a)) (H.map Gu.pr).reverse);have aQ:Hid (skB a f' R (B.drop (b+a)) (r.drop (b+a))=skB a n [] B r/\n-(b+a)<=f'):=by refine⟨?_,o_⟩;rw[<- s,b5,hR];simp only[skB];rw[if_neg t_,List.drop_drop,List.drop_drop]
    obtain⟨aZ,aK⟩:=ey_ (Bh (H.map Gu.L)+Ae (Iz ((B.drop b).take a) ((r.drop b).take a)));have c7:aZ<=1000*(b+a:Nat):=o_;have aR:Hid (SkI _ _ R _ H _ 0 _):=⟨a5,λ_ _=>qg_,U.1,o_,aK,qa_,.inl ⟨rfl,hR⟩,o_⟩;obtain⟨ha,hc,rfl⟩:=hL.shape;have HL:=x1_ hL;clear hL a5 a0 aI s aJ U bN aK b5 hR HR J;generalize Iz ((B.drop b).take a) ((r.drop b).take a)=sE at *;go_upto_region 8 with fail;go_cut [10] (λv wx=>∃kb vv,v=.pointer (some ⟨kb,0,none⟩)/\wr.heap.size<=kb/\Hid (LvB wx kb 0 vv/\Aj wx wr.heap.size vv sE/\E_ wr wx))
    case first=>
     go_region_held3 (λ_=>True) (trivial) (first|(go_at_call 115;refine(aC.out _ (by repeat(first|assumption|with_reducible apply Below.drew|(refine Below.alloc ?_ o_ _)))).mono ?_;rintro e w1 ⟨vv,rfl,aN,z⟩;obtain⟨av,cv,rfl⟩:=aN.shape;(try(have hA:LvB _ _ 0 _:=(z.block _ s_).trans hn_;obtain⟨z0,z1,z2,z3,_⟩:=hA.cells))))
     all_goals go_wp2
     all_goals go_meet
     exact⟨_,_,rfl,by have:=z.size;simpa using this,hn_,aN.alloc _,(bz_.drew.trans z).alloc (by have:=z.size;simpa using this) _⟩;have hz:=z.size;simp at hz;refine⟨_,_,rfl,qa_,hA.fill (M:=0),hA.own (aN.mono s_) (LvB.touch2 _ _),?_⟩;exact((bA_.drew.trans (z.mono s_)).setCell qa_ _).setCell qa_ _
    case rest=>
     obtain⟨kb,v0,rfl,aH,HC⟩:=hcut;obtain⟨wo,bO⟩:∃wo,wo=wr:=⟨wr,rfl⟩;subst bO;have aO:=x1_ HC.2.2;have aB:=x3_ (HL.below HC.2.2) HC.1 (HC.2.1.mono a8)
     have HQ:Hid (∀n q,(Value.slice ha n hc).ownBlock=some q->q≠kb):=λn q hq=>by have:=(rl_ HL.row.row q (by cases ha<;>exact hq)).2;omega
     have c4:=Nat.le_trans a8 aH;clear HC HL aC;go_wp2_with fail
     go_loopw [7,11] (λth ti r=>∃(E N:Nat) (t:List Gu) (l:List Ct) (vv:Value),ti=.int .i64 ((E:Int)-1)/\th=.slice ha t.length hc/\t.length<=b/\E<=t.length/\Hid (au r w.heap.size (.slice ha t.length hc) t/\LvB r kb N vv/\Aj r w.heap.size vv l/\SkI a b R aZ t E N l)/\Hid (E_ wo r)) (λ_ ti _=>(intOf ti+1).toNat)
     case atStart=>exact⟨H.length,0,H,sE,v0,g_,rfl,aT,qa_,⟨aB.1,aB.2.1,aB.2.2,aR⟩,aO⟩
     case round=>
      clear aB aR aO;obtain⟨E,N,t,l,vv,rfl,rfl,bK,bC,I,Q⟩:=hrel
      by_cases hin:E=0
      ·subst hin;obtain⟨hX,hB,hE,A⟩:=I.out;obtain⟨aU,hR⟩:=A.end_;obtain⟨j,cl,rfl⟩:=hE.shape;obtain⟨k0,k1,_,_,a9⟩:=hB.cells;obtain⟨i0,b3,bI,bD,bM⟩:=info_parts Zj1;have aG:=a2.trans (Q.mono a8);have b6:=aG.size;have a4:Hid (∀o,au (wr.alloc o) _ _ _/\Aj (wr.alloc o) _ _ l):=λo=>⟨hX.below bA_,hE.alloc _⟩
       have a1:Hid (Ud (b+a) (t++[⟨N,l,.slice j l.length cl⟩])/\Bh ((t++[(⟨N,l,.slice j l.length cl⟩:Gu)]).map Gu.L)<=1000*(b+a:Nat)/\((t++[(⟨N,l,.slice j l.length cl⟩:Gu)]).map Gu.pr).reverse=R):=(by refine⟨A.ok.more A.good A.len aU o_ (by have:=A.top;simp only;omega),?_,?_⟩;have aK:=A.tt;rw[List.map_append,Jf];simp only[List.map_cons,List.map_nil,Bh];omega;rw[hR,List.map_append,List.reverse_append];rfl);clear I hX hB hE A aU hR Q;generalize hll3:l.length=nl at *;go_wp2_with (at_builtin;refine Ab rfl (.tmp 72) (.tmp 74) 397 rfl w.heap.size 399 i0 _ 2 32 Tryz.underlying397 b3 bI bD bM rfl d_ (.slice ha t.length hc) t.length _ rfl (a4 _).1.row2 _ 1 1 [I_ (N:Nat),.slice j nl cl] rfl rfl ?_ ?_ ?_ ?_ ?_ ?_ ?_)
       exact Am _ _ _
       ·intro u hu;simp at hu;rcases hu with rfl|rfl<;>rfl
       decide;unfold maxLen;omega;omega;simp;omega;intro v7 w7 H7;obtain⟨r7,g7,_,_,q7,p7,b8⟩:=H7;have G:=x2_ ((a4 _).1.more (p:=⟨N,l,.slice j nl cl⟩) (a4 _).2 g7 r7) (aG.trans ((bz_.alloc b6 _).grown g7 t_ (λk hk=>(rl_ (a4 default).1.row.row k hk).1)));subst b8;clear r7 g7 a4 k0 k1 aG;refine rd_ ?_;exact⟨b+a,f',_,g_,o_,⟨G.1,a1.1,a1.2.1,t_,aQ.2,by rw[a1.2.2];exact aQ.1⟩,G.2⟩
      obtain⟨i,rfl⟩:∃i,E=i+1:=⟨E-1,o_⟩;obtain⟨q,cq,hq,bA,c0,c1,hm⟩:=I.1.at (i:=i) o_;injection hq with hq1 _ hq3;subst hq1 hq3;obtain⟨k0,k1,f0,f1,a9⟩:=I.2.1.cells;have A:=I.2.2.2;have ei:(i+1:Nat)-1=(i:Int):=o_;rw[ei];have g1:0<=(i:Int):=o_;have g2:i<(t.length:Int):=o_
      by_cases hne:(t.getD i Sc).n=N
      ·have e1:(((t.getD i Sc).n:_)==(N:Int))=_:=beq_iff_eq.2 o_;obtain⟨aV,gj⟩:=A.join hne hs bG o_;have hE:=I.1.each _ hm;have bB:=(A.ok.at hm).2;obtain⟨ao,co,a3,V,_,_⟩:=hE.seen o_;rw[a3] at c1;obtain⟨j,cl,b7,aP,_,_⟩:=I.2.2.1.seen (by have:=A.len;omega);subst b7;have bW:=A.len;have HJ:Hid (∀d,Calls _ _ _ _ λe w'=>∃v,_/\Aj _ wr.heap.size v _/\E_ wr _):=λd=>(Yx _ _ _ l co cl _ (V.drewN d) (aP.drewN d) (A.ok.at hm).1 A.good).mono (λe w' ⟨v,h1,h2,h3⟩=>⟨v,h1,h2,(below_drewN bz_ d).trans h3⟩);have lj:=Km (t.getD i Sc).L l;have c:Hid (_/\(Bp (t.getD i Sc).L l).length<=64):=⟨gj,o_⟩;have aE:=x1_ aV;have c5:=A.top;have cA:=HV.2.1;clear aV gj hE bB a3 V aP hm A lj hne
       generalize (t.getD i Sc).n=x,(t.getD i Sc).L=O at *;generalize hno:O.length=no,hnl:l.length=nl at *;go_upto_region 12 with fail;go_quiet (fail);go_upto_region 13 with fail;refine Al (λw'=>w'.cell? (A_ kb 0)=some (I_ (N:Nat))/\w'.cell? (A_ kb 1)=some (.slice j nl cl)/\w'.cell? (A_ q (i*2+1))=some (.slice ao no co)) 14 k_ ⟨k0,k1,c1⟩ (λhHeld=>?_);refine Ah 0 ?_;refine Ah 1 ?_;refine Ah 2 ?_;refine Ah 3 ?_;refine Ah 4 ?_;refine Ah 5 ?_;refine Ah 6 ?_;refine Ah 7 ?_;refine Ah 8 ?_;refine Ah 9 ?_;refine Ah 11 ?_;refine Af (i:=10) k_ rfl (λKK hK=>?_);go_simp;refine(HJ _).mono ?_;rintro e w1 ⟨vj,rfl,T,y⟩;obtain⟨aj,cj,rfl,Y,Z,_⟩:=T.seen (by have:=c.2;omega)
       have a6:=x1_ (jv _ _ _ a _ Y c.1 Z (by have:=c.2;omega));have y0:=(y.cell (p:=(A_ kb 0)) a9).trans k0;have y1:=(y.cell (p:=(A_ kb 1)) a9).trans k1;have y2:=(y.cell (World.block_lt_of_cell? _ _ c1)).trans c1;have aF:=y.size;clear T Y Z HJ;generalize (Bp O l).length=nj at *;go_simp;refine hK _ _ ⟨y0,y1,y2⟩ (λhHeld=>?_);clear hK KK;try simp only[Act.put,tA,tB,tC]
       refine Af (i:=12) k_ rfl (λKK hK=>?_);go_simp;refine a6.mono ?_;rintro e w2 ⟨vc,rfl,P,a7⟩;obtain⟨ac,cc,rfl⟩:=P.shape;have F:=y.trans (a7.mono aF);have aM:LvB _ _ N _:=(F.block _ a9).trans I.2.1;obtain⟨z0,z1,z2,z3,_⟩:=aM.cells;have z4:=(F.cell (World.block_lt_of_cell? _ _ c1)).trans c1;have G:Hid (_/\_/\Aj w2 w.heap.size _ _):=⟨I.1.below F,aM,P.mono o_⟩;have bL:=x1_ (Q.trans (F.mono Q.size));clear P a7 y F aM a6 c y0 y1 y2 I Q;generalize (Do (Bp O l) a).length=nc at *;go_simp;refine hK _ _ ⟨z0,z1,z4⟩ (λhHeld=>?_);clear hK KK;try simp only[Act.put,tA,tB,tC]
       refine Ah 13 ?_;refine Ai (i:=14) k_ rfl k_ (λKK hK=>?_);go_simp;refine hK _ _ ?_;clear hK KK;try simp only[Act.put,tA,tB,tC]
       refine Ak k_ ?_ _;have g3:i<=(hc:Int):=o_;have g4:¬hc=0:=o_;go_wp2;go_roundw
       case rel=>
        refine⟨i,N+1,t.take i,_,.slice ac nc cc,g_,by rw[List.length_take,Nat.min_eq_left o_],by rw[List.length_take];omega,by rw[List.length_take];omega,⟨?_,G.2.1.fill (M:=N+1),G.2.1.own G.2.2 (LvB.touch2 _ _),aE⟩,((bL.setCell aH _).setCell aH _)⟩;rw[List.length_take,Nat.min_eq_left o_];exact(G.1.box G.2.1 (LvB.touch2 _ _) (λx hx=>HQ _ x hx)).upto o_
       case measure=>exact z_
      have e1:(((t.getD i Sc).n:_)==(N:Int))=_:=beq_eq_false_iff_ne.2 o_;have aE:=x1_ (A.stop hne);clear hne A ei;generalize (t.getD i Sc).n=x at *;go_upto_region 12 with fail;go_quiet (fail);refine rd_ ?_;exact⟨i,N,t,l,vv,g_,rfl,bK,o_,⟨I.1.below (below_drewN bz_ _),I.2.1,I.2.2.1.below (below_drewN bz_ _),aE⟩,below_drewN Q _⟩
  have bZ:¬b<(n:Int):=o_;obtain⟨hL,a5,a0,aT,aI,s⟩:=HR;obtain⟨ha,hc,rfl⟩:=hL.shape
  have bP:Hid (skF a [] (skB a n [] B r)=skF a [] (H.map Gu.pr).reverse):=by
   show _=_;rw[<- s]
   cases fu with
   |zero=>rfl
   |succ f=>simp only[skB];rw[if_pos (by simp;have:=aD.out;omega)]
  have HX:Hid (_/\_/\Bh (H.map Gu.L)<=2000000):=⟨hL,a5,o_⟩;obtain⟨wl,bF⟩:∃wl,wl=wr:=⟨wr,rfl⟩;subst bF;clear hL a5 a0 aI s HV HW;go_wp2_with fail
  go_loopw [12,13] (λtq ti r=>∃(E:Nat) (j:List Ct),ti=.int .i64 ((E:Int)-1)/\E<=H.length/\Hid (Aj r w.heap.size tq j/\Bq j/\j.length<=32/\Ae j+Bh ((H.take E).map Gu.L)<=2000000/\skF a j ((H.take E).map Gu.pr).reverse=skF a [] (H.map Gu.pr).reverse)/\E_ wl r) (λ_ ti _=>(intOf ti+1).toNat)
  case atStart=>exact⟨H.length,[],g_,qa_,⟨Aj.nil _ _,Bq.nil,s_,by rw[List.take_length];have:=HX.2.2;simpa [Ae] using this,by rw[List.take_length]⟩,bz_⟩
  case round=>
   obtain⟨E,j,rfl,bC,HR,S⟩:=hrel;have bH:=S.size
   by_cases hin:E=0
   ·subst hin;have G:Hid (Aj wr w.heap.size u12 (skF a [] (skB a n [] B r))/\E_ w wr):=(by obtain⟨h1,_,_,_,h5⟩:=HR.out;rw[bP,<- h5];exact⟨h1,a2.trans (S.mono a8)⟩);clear HR S;go_wp2;go_ret;exact⟨_,rfl,G.1,G.2⟩
   obtain⟨i,rfl⟩:∃i,E=i+1:=⟨E-1,o_⟩;obtain⟨q,cq,hq,bA,c0,c1,hm⟩:=(HX.1.below S).at (i:=i) o_;injection hq with hq1 _ hq3;subst hq1 hq3;obtain⟨aS,aL,bY,aA,s⟩:=HR;obtain⟨gO,lO⟩:=HX.2.1.at hm;obtain⟨ao,co,a3,V,_,_⟩:=((HX.1.below S).each _ hm).seen o_;rw[a3] at c1;obtain⟨aa,ca,bE,aW,_,_⟩:=aS.seen o_;subst bE;rw[Ya o_,List.map_append] at aA s;rw[Jf] at aA;rw[List.reverse_append] at s;simp only[List.map_cons,List.map_nil,Bh,List.reverse_cons,List.reverse_nil,List.nil_append,List.singleton_append,skF] at aA s;have tP:=Eh (Ls:=(H.take i).map _) (λx hx=>(HX.2.1.take i).ok.good x hx);have gj:=Gb aL gO o_;have gc:=gj.sub (Hf gj a)
   have b9:=Ia (Bp j (H.getD i Sc).L) (a:=(a:Int)) o_;have lj:=Km j (H.getD i Sc).L;have tc:Ae (Do (Bp j (H.getD i Sc).L) a)=Ae j+Ae (H.getD i Sc).L:=(by rw[Fm,Er]);have HJ:=x1_ (Yx _ _ _ _ ca co _ aW V aL gO);have c:Hid (Bq (Bp j (H.getD i Sc).L)/\(Bp j (H.getD i Sc).L).length<=64/\Bq (Do (Bp j (H.getD i Sc).L) a)/\(Do (Bp j (H.getD i Sc).L) a).length<=32/\Ae (Do (Bp j (H.getD i Sc).L) a)+Bh ((H.take i).map Gu.L)<=2000000/\skF a (Do (Bp j (H.getD i Sc).L) a) ((H.take i).map Gu.pr).reverse=skF a [] (H.map Gu.pr).reverse):=⟨gj,o_,gc,o_,o_,s⟩;have ei:(i+1:Nat)-1=(i:Int):=o_;rw[ei];have g1:0<=(i:Int):=o_
   have g2:i<(H.length:Int):=o_;clear aS aL aA s a3 V aW gj gc b9 lj tc c0 gO lO hm ei tP;generalize (H.getD i Sc).L=O at *;generalize O.length=no at *;go_wp2_with fail
   refine HJ.mono ?_;rintro e w1 ⟨vj,rfl,T,y⟩;have aF:=y.size;obtain⟨aj,cj,rfl,Y,Z,_⟩:=T.seen (by have:=c.2.1;omega);have a6:=x1_ (jv _ _ _ a _ Y c.1 Z (by have:=c.2.1;omega));clear T Y Z HJ;generalize (Bp j O).length=nj at *;go_wp2_with fail
   refine a6.mono ?_;rintro e w2 ⟨vc,rfl,P,a7⟩;have G:Hid (Aj _ w.heap.size _ _/\_):=⟨P.mono o_,S.trans ((y.trans (a7.mono aF)).mono bH)⟩;clear P a7 y a6 c1;refine rd_ ?_;exact⟨i,_,g_,o_,⟨G.1,c.2.2⟩,G.2⟩
end Go.Proofs.YtfcgnpchbcmdeaaGreat
