import Derived.Test.YtfcgnpchbcmdeaaGreatZlaf
import Derived.Test.YtfcgnpchbcmdeaaGreatZlbq
namespace Go.Proofs.YtfcgnpchbcmdeaaGreat
set_option maxRecDepth 100000
set_option maxHeartbeats 32000000
open Go.RowKit
theorem Y5.first{w W0:World}{sb db R:Nat}(t1 t2:ByteArray)(h:DkS w (fun k=>W0.heap.size<=k) sb db R false none none)(hb:Below W0.heap.size W0 w):Y5 (w.alloc (.cells #[.string ⟨#[]⟩] 9)) W0 sb db R t1 t2 (.slice (some ⟨w.heap.size,0,none⟩) 1 1) [⟨#[]⟩] none:=by have hb2:Below w.heap.size w (w.alloc (.cells #[.string ⟨#[]⟩] 9)):=(Below.refl _ _).alloc (Qa _) _;have hB:=hb.size;have hd:DkA w (fun k=>W0.heap.size<=k) sb db R none:=⟨_,_,h⟩;refine⟨(hd.re (G':=GQ W0.heap.size (.slice (some ⟨w.heap.size,0,none⟩) 1 1)) (fun k hk hg=>⟨hg,fun e=>by simp[Value.ownBlock] at e;omega⟩)).below hb2,?_,hb.trans (hb2.mono hB),by simp[ZlH],.inl rfl⟩;refine⟨by simp,.inr ⟨w.heap.size,1,#[.string ⟨#[]⟩],rfl,hB,heap_alloc_new _ _,by simp,by decide,by simp,by simp⟩⟩
theorem Y5.made{w W0:World}{sb db R q:Nat}{t1 t2 s:ByteArray}{v:Value}{o:Option ByteArray}(hd:DkA w (GQ W0.heap.size v) sb db R o)(hb:Below W0.heap.size W0 w)(hi:o=none∨o=some t1∨o=some t2)(hs:ZlH o=s)(hq:q=w.heap.size):Y5 (w.alloc (.cells #[.string s] 9)) W0 sb db R t1 t2 (.slice (some ⟨q,0,none⟩) 1 1) [s] o:=by have hb2:Below w.heap.size w (w.alloc (.cells #[.string s] 9)):=(Below.refl _ _).alloc (Qa _) _;have hB:=hb.size;subst hq;refine⟨(hd.re (G':=GQ W0.heap.size (.slice (some ⟨w.heap.size,0,none⟩) 1 1)) (fun k hk hg=>⟨hg.1,fun e=>by simp[Value.ownBlock] at e;omega⟩)).below hb2,?_,hb.trans (hb2.mono hB),by rw[hs];simp,hi⟩;refine⟨by simp,.inr ⟨w.heap.size,1,#[.string s],rfl,hB,heap_alloc_new _ _,by simp,by decide,by simp,by simp⟩⟩
theorem ZiY.at_{W0 W V:World}{g:Nat}{t:ByteArray}(h:ZiY W0 g t)(hb:Below W0.heap.size W0 V)(hW:Below V.heap.size V W):Calls Tryz.prog 34 #[.pointer (some ⟨g,0,none⟩)] W fun e w'=>e=.returned (.string t)/\Below V.heap.size V w':=
 (h.by_ W (hb.trans (hW.mono hb.size))).mono (fun _ _ h=>⟨h.1,hW.trans (h.2.mono hW.size)⟩)
theorem ZD.atT{w:World}{base c:Nat}{a:Option Addr}{L:List ByteArray}(h:ZD w base (.slice a L.length c) L){k:Nat}(hk:k<L.length):∃q,a=some ⟨q,0,none⟩/\w.cell? ⟨q,k,none⟩=some (.string (L.getD k ⟨#[]⟩)):=by
 have h':=h
 rcases h'.2 with⟨e,h0⟩|⟨g,cap,cur,e,_,hh,hnc,_⟩
 omega;injection e with e1 e2 e3;subst e1;refine⟨g,rfl,?_⟩;have hr:w.ownsRow base 9 1 (.slice (some ⟨g,0,none⟩) L.length c) L.length (L.map Value.string):=h;rw[World.ownsRow.cellAt hr k (by omega)];simp[List.getD,hk]
theorem ZqT{M:List ByteArray}{s:ByteArray}(h:s∈M):Lib.containsS M s=true:=(Lib.containsS_iff M s).2 h
theorem ZrM{M:List ByteArray}{s:ByteArray}(h:¬s∈M):Lib.containsS M s=false:=by rw[<- Bool.not_eq_true,Lib.containsS_iff];exact h
theorem ZrW:(Tryz.prog.info? 9).map (fun i=>(i.zero,i.size,i.bytes))=some (some (.string ⟨#[]⟩),1,16):=by kernel_rfl
theorem ZeQ{w:World}{ops:Array Oper}{rest:List Oper}{o:Oper}{a:Act}{Q:Exit->Act->World->Prop}(hgd:o.guard=none)(s x:Operand)(ho:o.op=.call {callee:=.builtin .append,args:=#[s,x],argTypes:=#[47,47]})(base:Nat)(v:Value)(zs:List ByteArray)(z:ByteArray)(hs:a.eval s=v)(hown:ZD w base v zs)(g c:Nat)(hx:a.eval x=.slice (some ⟨g,0,none⟩) 1 c)(hg:w.cell? ⟨g,0,none⟩=some (.string z))(hl:zs.length<=8000000000001)(hbase:base<=w.heap.size)(h:∀v' w',Hid (ZD w' base v' (zs++[z])/\w.grownBy w' v.ownBlock/\(v'.ownBlock=v.ownBlock∨v'.ownBlock=some w.heap.size/\Below w.heap.size w w'))->wpList Tryz.prog ops Q rest (a.put o.dst v') w'):wpList Tryz.prog ops Q (o::rest) a w:=by
 obtain⟨i0,hinf,hz0,hz1,hz2⟩:=info_parts ZrW;refine Zf hgd s x 47 ho base 9 i0 (.string ⟨#[]⟩) 1 16 Tryz.underlying47 hinf hz0 hz1 hz2 rfl (by decide) v zs.length (zs.map Value.string) hs hown ⟨g,0,none⟩ 1 c [.string z] hx rfl ?_ ?_ (by decide) (by unfold maxLen;omega) (by omega) hbase ?_
 ·intro j u hj
  cases j with
  |zero=>simp at hj;subst hj;simpa [Addr.add] using hg
  |succ j=>simp at hj
 intro u hu;simp at hu;subst hu;rfl;intro v' w' H;obtain⟨h1,h2,h3,_,_⟩:=H.out;refine h v' w' ⟨?_,h2,h3⟩;unfold ZD;rw[Qe,List.map_append];exact h1
theorem Y5.more{w w' W0:World}{sb db R:Nat}{t1 t2 s:ByteArray}{v v':Value}{M:List ByteArray}{o:Option ByteArray}(h:Y5 w W0 sb db R t1 t2 v M o)(ho:ZD w' W0.heap.size v' (M++[s]))(hg:w.grownBy w' v.ownBlock)(hd:v'.ownBlock=v.ownBlock∨v'.ownBlock=some w.heap.size/\Below w.heap.size w w'):Y5 w' W0 sb db R t1 t2 v' (M++[s]) o:=by
 have hB:=h.low.size;have hlow:Below W0.heap.size W0 w':=h.low.trans ((Below.refl _ _).grown hg hB (fun k hk=>(World.ownsRow.lt h.own k hk).1));have ht:Za (fun k=>v.ownBlock=some k) w w':=(Za.refl _ w).grown hg (fun k hk _=>hk);obtain⟨dn,f,fr,sc,fl,h1,h2,h3,h4,h5,h6,h7⟩:=h.dk
 have hv:∀k,k<w.heap.size->GQ W0.heap.size v k->GQ W0.heap.size v' k:=fun k hk hq=>⟨hq.1,fun e=>by
  rcases hd with hd|⟨hd,_⟩
  rw[hd] at e;exact hq.2 e
  rw[hd] at e;injection e with e;omega⟩
 have hst:ZaG w' sb db:=h7.touch ht (fun e=>by
  obtain⟨cur,hc⟩:=Zg h.own e;unfold ZaG at h7;rw[h7] at hc
  simp at hc)
 exact⟨⟨dn,f,fr,sc,fl,h1.touch ht (fun e=>h4.2 e),h2.touch ht (fun fb e e2=>(h5 fb e).1.2 e2),h3.touch ht (fun fp e e2=>(h6 fp e).1.2 e2),hv _ h1.lt h4,fun k e=>⟨hv k (h5 k e).2 (h5 k e).1,Qh (h5 k e).2 ht.size⟩,fun k e=>⟨hv k (h6 k e).2 (h6 k e).1,Qh (h6 k e).2 ht.size⟩,hst⟩,ho,hlow,List.mem_append_left _ h.con,h.is_⟩
theorem ZfT (ca la ra aa:Option Addr) (cn cc ln lc rn rc an ac:Nat) (cs l r:List Int) (room:Int) (A:Nat->Int×Int×Int) (w:World) (hcs:ZT w ca cn cs) (hl:ZT w la ln l) (hr:ZT w ra rn r) (hA:Zgd w aa an A) (hcn:cn<=9223372036854775807) (hln:ln<=9223372036854775807) (hrn:rn<=9223372036854775807) (hroom:(Lit.int .i64 room).wf=true) (han:an<=8000000000000):Calls Tryz.prog 13 #[.slice ca cn cc,.slice la ln lc,.slice ra rn rc,.int .i64 room,.slice aa an ac] w fun e w'=>e=.returned (.bool true)/\Below w.heap.size w w':=by
  have HCS:=fun W (hW:Below w.heap.size w W)=>ZgT ca cn cc cs W (hcs.below hW) hcn;have HHD:Hid ZjM:=ZpZ;have HRL:Hid (∀W fk fc,Below w.heap.size w W->Qr W fk 0 (YK cs+1) (cfW cs) (cfC cs) (cfT cs)->Calls Tryz.prog 24 #[.agg #[.slice (some ⟨fk,0,none⟩) (YK cs+1) fc,.int .i64 (cfB cs:Nat),.int .i64 (cfS cs:Nat),.int .i64 (cfU cs:Nat)],.slice la ln lc] W fun e w'=>∃v,e=.returned (.tuple #[v,.string (Qx cs l (QC cs l))])/\Below W.heap.size W w'):=fun W fk fc hW hF=>(Zez fk fc ln lc la cs l W hF (hl.below hW) hln).mono (fun _ _ h=>by obtain⟨v,h1,_,h3⟩:=h;exact⟨v,h1,h3⟩)
  have HRR:Hid (∀W fk fc,Below w.heap.size w W->Qr W fk 0 (YK cs+1) (cfW cs) (cfC cs) (cfT cs)->Calls Tryz.prog 24 #[.agg #[.slice (some ⟨fk,0,none⟩) (YK cs+1) fc,.int .i64 (cfB cs:Nat),.int .i64 (cfS cs:Nat),.int .i64 (cfU cs:Nat)],.slice ra rn rc] W fun e w'=>∃v,e=.returned (.tuple #[v,.string (Qx cs r (QC cs r))])/\Below W.heap.size W w'):=fun W fk fc hW hF=>(Zez fk fc rn rc ra cs r W hF (hr.below hW) hrn).mono (fun _ _ h=>by obtain⟨v,h1,_,h3⟩:=h;exact⟨v,h1,h3⟩);have HFL:=fun W fk fc hF=>Zrv cs l W fk fc hF;have HFR:=fun W fk fc hF=>Zrv cs r W fk fc hF;have HHL:Hid (∀(W:World) (g d:Nat),Zba W g d (Zjc cs l)->∃t,ZiY W g t):=fun W g d ho=>Zp0 cs l ho;have HHR:Hid (∀(W:World) (g d:Nat),Zba W g d (Zjc cs r)->∃t,ZiY W g t):=fun W g d ho=>Zp0 cs r ho
  have HAC:Hid (∀W,Below w.heap.size w W->Zgd W aa an A):=fun W hW=>hA.below hW;have HPK:Hid (∀W:World,Calls Tryz.prog 17 #[.int .i64 room,.int .i64 6000] W fun e w'=>e=.returned (.int .i64 (Zr room 6000:Nat))/\w'=W):=fun W=>ZR room 6000 W hroom (by omega) (by omega);have hpk:=Z2 room (n:=6000) (by omega);clear hcs hl hr hA;generalize Zjc cs l=D1 at *;generalize Zjc cs r=D2 at *;generalize Qx cs l (QC cs l)=tx at *;generalize Qx cs r (QC cs r)=ty at *;generalize YK cs=m at *;generalize cfW cs=wd at *;generalize cfC cs=sc at *;generalize cfT cs=ct at *;generalize cfB cs=B at *;generalize cfS cs=S at *;generalize cfU cs=U at *;generalize Zr room 6000=rp at *;go_enter Tryz.func13,Tryz.ntmps13;go_wp2_with fail
  refine(HHD.out _).mono ?_;rintro e w1 ⟨rfl,hb1⟩;have HB1:Hid (Below w.heap.size w w1):=hb1;have HC1:=HCS w1 hb1;clear hb1 HCS;go_wp2_with fail
  refine HC1.mono ?_;rintro e w2 ⟨fk,fc,rfl,hfk,hF2,hb2⟩;have HB2:Hid (Below w.heap.size w w2/\Qr w2 fk 0 (m+1) wd sc ct):=⟨HB1.out.trans (hb2.mono HB1.out.size),hF2⟩;have hs2:=HB2.out.1.size;clear hb2 hF2 HC1 hfk;go_upto_region 3 with fail;generalize hW3:w2.alloc (.cells #[.slice (some ⟨fk,0,none⟩) (m+1) fc,.int .i64 (B:Nat),.int .i64 (S:Nat),.int .i64 (U:Nat)] 37)=w3;have hX3:w3.heap[w2.heap.size]? =some (.cells #[.slice (some ⟨fk,0,none⟩) (m+1) fc,.int .i64 (B:Nat),.int .i64 (S:Nat),.int .i64 (U:Nat)] 37 (0,0)):=(by rw[<- hW3];exact heap_alloc_new _ _);have hb3:Below w2.heap.size w2 w3:=(by rw[<- hW3];exact(Below.refl _ _).alloc (Qa _) _);have hkl:w2.heap.size<w3.heap.size:=(Qb hX3).1
  have HW:Hid (∀W,Below w3.heap.size w3 W->Below w.heap.size w W/\Qr W fk 0 (m+1) wd sc ct/\W.cell? ⟨w2.heap.size,0,none⟩=some (.slice (some ⟨fk,0,none⟩) (m+1) fc)/\W.cell? ⟨w2.heap.size,1,none⟩=some (.int .i64 (B:Nat))/\W.cell? ⟨w2.heap.size,2,none⟩=some (.int .i64 (S:Nat))/\W.cell? ⟨w2.heap.size,3,none⟩=some (.int .i64 (U:Nat))):=fun W hW=>by
    have hb:Below w2.heap.size w2 W:=hb3.trans (hW.mono hb3.size);refine⟨HB2.out.1.trans (hb.mono hs2),HB2.out.2.below hb,?_,?_,?_,?_⟩;exact(hW.cell (p:=⟨w2.heap.size,0,none⟩) hkl).trans (cell_of_row _ _ 0 _ 37 (0,0) hX3);exact(hW.cell (p:=⟨w2.heap.size,1,none⟩) hkl).trans (cell_of_row _ _ 1 _ 37 (0,0) hX3);exact(hW.cell (p:=⟨w2.heap.size,2,none⟩) hkl).trans (cell_of_row _ _ 2 _ 37 (0,0) hX3);exact(hW.cell (p:=⟨w2.heap.size,3,none⟩) hkl).trans (cell_of_row _ _ 3 _ 37 (0,0) hX3)
  clear hW3 hX3 hb3 HB2 HB1 hs2;obtain⟨_,_,e0,e1,e2,e3⟩:=HW.out w3 (Below.refl _ _);go_wp2_with fail
  refine(HRL.out _ _ _ (HW.out w3 (Below.refl _ _)).1 (HW.out w3 (Below.refl _ _)).2.1).mono ?_;rintro e w4 ⟨vr,rfl,hb4⟩;have HB4:Hid (Below w3.heap.size w3 w4):=hb4;clear hb4 e0 e1 e2 e3 HRL;obtain⟨_,_,e0,e1,e2,e3⟩:=HW.out w4 HB4.out;go_wp2_with fail
  refine(HRR.out _ _ _ (HW.out w4 HB4.out).1 (HW.out w4 HB4.out).2.1).mono ?_;rintro e w5 ⟨vs,rfl,hb5⟩;have HB5:Hid (Below w3.heap.size w3 w5):=HB4.out.trans (hb5.mono HB4.out.size);clear hb5 e0 e1 e2 e3 HRR HB4;obtain⟨_,_,e0,e1,e2,e3⟩:=HW.out w5 HB5.out;go_wp2_with fail
  refine(HFL w5 fk fc (HW.out w5 HB5.out).2.1).mono ?_;rintro e w6 ⟨ga,da,rfl,hO6,hb6⟩;have HB6:Hid (Below w3.heap.size w3 w6/\Zba w6 ga da D1):=⟨HB5.out.trans (hb6.mono HB5.out.size),hO6⟩;clear hb6 hO6 e0 e1 e2 e3 HFL HB5;obtain⟨_,_,e0,e1,e2,e3⟩:=HW.out w6 HB6.out.1;go_wp2_with fail
  refine(HFR w6 fk fc (HW.out w6 HB6.out.1).2.1).mono ?_;rintro e w7 ⟨gb,d2,rfl,hO7,hb7⟩;have HW7:Hid (Below w.heap.size w w7):=(HW.out w7 (HB6.out.1.trans (hb7.mono HB6.out.1.size))).1;obtain⟨t1,hh1⟩:=HHL.out w7 ga da (HB6.out.2.below hb7);obtain⟨t2,hh2⟩:=HHR.out w7 gb d2 hO7;have H1:Hid (ZiY w7 ga t1):=hh1;have H2:Hid (ZiY w7 gb t2):=hh2;clear hb7 hO7 e0 e1 e2 e3 HFR HB6 HW hkl hh1 hh2 HHL HHR;have hz1:=H1.out.sz;have hz2:=H2.out.sz;go_wp2_with fail
  refine(HPK.out _).mono ?_;rintro e w8 ⟨rfl,hw8⟩;obtain rfl:=hw8.symm;clear hw8 HPK;obtain⟨R,hR⟩:∃R:Nat,R=4000+rp:=⟨_,rfl⟩;have hrp:(4000:Int)+(rp:Int)<=10000:=(by omega);have hR1:4000<=R:=(by omega);have hDK:=Zod R w7 (by omega);rw[show((R:Nat):Int)=4000+(rp:Int) by omega] at hDK;go_wp2_with fail
  refine hDK.mono ?_;rintro e w8 ⟨sb,db,rfl,hD8,hb8⟩;have HD8:Hid (DkS w8 (fun k=>w7.heap.size<=k) sb db R false none none/\Below w7.heap.size w7 w8):=⟨hD8,hb8⟩;clear hDK hD8 hb8 hrp hR;go_wp2_with fail
  have HI:Hid (Y5 (w8.alloc (.cells #[.string ⟨#[]⟩] 9)) w7 sb db R t1 t2 (.slice (some ⟨w8.heap.size,0,none⟩) 1 1) [⟨#[]⟩] none):=Y5.first t1 t2 HD8.out.1 HD8.out.2;generalize w8.alloc (.cells #[.string ⟨#[]⟩] 9)=w9 at *;clear HD8 hpk;generalize w8.heap.size=q8 at *;go_loopw [26,25] (fun ti tm wr=>∃(i:Nat) (M:List ByteArray) (a:Option Addr) (c:Nat) (o:Option ByteArray),ti=.int .i64 i/\i<=an/\M.length<=i+1/\tm=.slice a M.length c/\Hid (Y5 wr w7 sb db R t1 t2 (.slice a M.length c) M o)) (fun ti _ _=>an-(intOf ti).toNat)
  case atStart=>exact⟨0,[⟨#[]⟩],some ⟨q8,0,none⟩,1,none,rfl,Qg _,by simp,rfl,HI.out⟩
  case round=>
    clear HI;obtain⟨i,M,a,c,o,rfl,hi,hM,rfl,HR⟩:=hrel
    by_cases hin:i<an
    · have hac:=HAC.out wr (HW7.out.trans (HR.out.low.mono HW7.out.size));obtain⟨hwf1,hwf2,hwf3⟩:=hac.1 i hin
      rcases hac.2 with h0|⟨b,off,hab,hbl,hc⟩
      omega;obtain⟨k0,k1,k2⟩:=hc i hin;subst hab;clear hac hc;generalize (A i).1=K at *;generalize (A i).2.1=Xi at *;generalize (A i).2.2=Yi at *;have hP:=ZR Xi 2 wr hwf2 (by omega) (by omega);have b1:(0:Int)<=(i:Int):=(by omega);have b2:(i:Int)<(an:Int):=(by omega);generalize hp:Zr Xi 2=px at *;clear hp;go_wp2_with fail
      refine hP.mono ?_;rintro e w10 ⟨rfl,hw10⟩;obtain rfl:=hw10.symm;clear hw10 hP
      by_cases hpx:px=1
      subst hpx;obtain⟨tt,htt⟩:∃tt,tt=t2:=⟨_,rfl⟩;have HG:Hid (ZiY w7 gb tt):=(by rw[htt];exact H2);have HI2:Hid (some tt=none∨some tt=some t1∨some tt=some t2):=.inr (.inr (congrArg some htt))
      rotate_left
      have hpx1:((px:Int)==1)=false:=beq_eq_false_iff_ne.2 (by omega);obtain⟨tt,htt⟩:∃tt,tt=t1:=⟨_,rfl⟩;have HG:Hid (ZiY w7 ga tt):=(by rw[htt];exact H1);have HI2:Hid (some tt=none∨some tt=some t1∨some tt=some t2):=.inr (.inl (congrArg some htt))
      all_goals
        have hzt:=HG.out.sz;clear htt;go_wp2_with fail
        · as_aux_lemma=>
            obtain⟨dn,f,hdk⟩:=HR.out.dk;have hS:=Zoh (GQ w7.heap.size (.slice a M.length c)) sb db _ R dn o f tt wr hdk (fun W hW=>HG.out.at_ HR.out.low hW) HR.out.new (by have:=HR.out.len hz1 hz2;omega) (by omega);clear hdk;refine hS.mono ?_;clear hS;intro e w11 hS
            rcases hS with⟨_,rfl,hd',hb'⟩|⟨_,rfl,⟨f',hd'⟩,hb'⟩|⟨_,rfl,hd',hb'⟩|⟨_,rfl,hlt,⟨f',hd'⟩,hb'⟩
            · have HN:Hid (Y5 w11 w7 sb db R t1 t2 (.slice a M.length c) M o):=HR.out.touch ⟨_,_,hd'⟩ hb' HR.out.con HR.out.is_;clear hd' hb' HR k0 k1 k2;go_wp2;go_roundw;case rel=>exact⟨i+1,M,a,c,o,by go_num,by omega,by omega,rfl,HN⟩
              case measure=>simp[intOf];omega
            · have hlow:Below w7.heap.size w7 w11:=HR.out.low.trans (GQ.low hb' HR.out.low.size);have hBY:=HG.out.at_ hlow (Below.refl _ _);have HD:Hid (∀W,Below w11.heap.size w11 W->Y5 (W.alloc (.cells #[.string tt] 9)) w7 sb db R t1 t2 (.slice (some ⟨W.heap.size,0,none⟩) 1 1) [tt] (some tt)):=fun W hW=>Y5.made ⟨_,_,hd'.below hW⟩ (hlow.trans (hW.mono hlow.size)) HI2.out rfl rfl;clear hd' hb' HR k0 k1 k2 hlow;go_wp2_with fail
              refine hBY.mono ?_;rintro e w12 ⟨rfl,hb12⟩;have HN:=HD.out w12 hb12;clear hb12 hBY HD;have HN2:Hid (Y5 (w12.alloc (.cells #[.string tt] 9)) w7 sb db R t1 t2 (.slice (some ⟨w12.heap.size,0,none⟩) 1 1) [tt] (some tt)):=HN;clear HN;go_wp2;go_roundw;case rel=>exact⟨i+1,[tt],some ⟨w12.heap.size,0,none⟩,1,some tt,by go_num,by omega,by simp,rfl,HN2⟩
              case measure=>simp[intOf];omega
            · have HN:Hid (Y5 w11 w7 sb db R t1 t2 (.slice a M.length c) M o):=HR.out.touch ⟨_,_,hd'⟩ hb' HR.out.con HR.out.is_;have hBY:=HG.out.at_ HN.out.low (Below.refl _ _);clear hd' hb' HR k0 k1 k2;go_wp2_with fail
              refine hBY.mono ?_;rintro e w12 ⟨rfl,hb12⟩;have hb13:Below w12.heap.size w12 (w12.alloc (.cells #[.string tt] 9)):=(Below.refl _ _).alloc (Qa _) _;have HN2:Hid (Y5 (w12.alloc (.cells #[.string tt] 9)) w7 sb db R t1 t2 (.slice a M.length c) M o):=(HN.out.below hb12).below hb13;clear hb12 hb13 hBY HN;go_wp2_with (at_builtin;refine ZeQ rfl (.tmp 128) (.tmp 131) rfl w7.heap.size _ M tt rfl HN2.out.own w12.heap.size 1 rfl ?_ ?_ ?_ ?_)
              · simp[go_sem]
              omega;exact HN2.out.low.size;intro v' w14 H14;have hL:=HN2.out.more H14.out.1 H14.out.2.1 (by rcases H14.out.2.2 with h|⟨h,h2⟩;exact .inl h;exact .inr ⟨by rw[h];simp,by simpa using h2⟩);obtain⟨a',c',hv'⟩:=hL.own.form;subst hv';have HN3:Hid (Y5 w14 w7 sb db R t1 t2 (.slice a' (M++[tt]).length c') (M++[tt]) o):=hL;clear hL H14 HN2;go_wp2;go_roundw;case rel=>exact⟨i+1,M++[tt],a',c',o,by go_num,by omega,by simp;omega,rfl,HN3⟩
              case measure=>simp[intOf];omega
            have HN:Hid (Y5 w11 w7 sb db R t1 t2 (.slice a M.length c) M o):=HR.out.touch ⟨_,_,hd'⟩ hb' HR.out.con HR.out.is_;have hB1:=H1.out.at_ HN.out.low (Below.refl _ _)
            have hno:¬(t1.size<2000/\t2.size<2000):=fun ⟨h1,h2⟩=>by
              have hq:∀p,p=none∨p=some t1∨p=some t2->Zcn p<2000:=fun p hp=>by
                rcases hp with e|e|e<;>rw[e]
                show 0<2000;omega;exact h1;exact h2
              have q1:=hq o HR.out.is_;have q2:tt.size<2000:=hq _ HI2.out;omega
            have HB2:Hid (∀W,Below w11.heap.size w11 W->Calls Tryz.prog 34 #[.pointer (some ⟨gb,0,none⟩)] W fun e w'=>e=.returned (.string t2)/\Below w11.heap.size w11 w'):=fun W hW=>H2.out.at_ HN.out.low hW;clear hd' hb' HR k0 k1 k2 hlt;go_wp2_with fail
            refine hB1.mono ?_;rintro e w12 ⟨rfl,hb12⟩;have HBB:Hid (Below w11.heap.size w11 w12):=hb12;clear hb12 hB1
            by_cases hs1:t1.size<2000
            · have g1:(t1.size:Int)<2000:=(by omega);have g2:¬(t2.size:Int)<2000:=(by omega);go_wp2_with fail
              refine(HB2.out w12 HBB.out).mono ?_;rintro e w13 ⟨rfl,hb13⟩;have HN2:Hid (Y5 w13 w7 sb db R t1 t2 (.slice a M.length c) M o):=HN.out.below hb13;clear hb13 HN HBB HB2;go_wp2;go_roundw;case rel=>exact⟨i+1,M,a,c,o,by go_num,by omega,by omega,rfl,HN2⟩
              case measure=>simp[intOf];omega
            have g1:¬(t1.size:Int)<2000:=(by omega);have HN2:Hid (Y5 w12 w7 sb db R t1 t2 (.slice a M.length c) M o):=HN.out.below HBB.out;clear HN HBB HB2;go_wp2;go_roundw;case rel=>exact⟨i+1,M,a,c,o,by go_num,by omega,by omega,rfl,HN2⟩
            case measure=>simp[intOf];omega
        · as_aux_lemma=>
            obtain⟨dn,f,hdk⟩:=HR.out.dk;have hL:=Zof (GQ w7.heap.size (.slice a M.length c)) sb db R dn o f wr hdk (by have:=HR.out.len hz1 hz2;omega);clear hdk;refine hL.mono ?_;clear hL;rintro e wq ⟨_,hb',hcase⟩;have HN:Hid (Y5 wq w7 sb db R t1 t2 (.slice a M.length c) M o):=HR.out.below hb';clear hb' HR k0 k1 k2 HI2;have hM2:M.length<=8000000000001:=by omega
            rcases hcase with⟨_,rfl⟩|⟨_,ho,rfl⟩|⟨t,_,ho,hG⟩
            have HDN:Hid (1=1):=rfl;obtain⟨st,hst⟩:∃st:ByteArray,st=⟨#[]⟩:=⟨_,rfl⟩
            rotate_left
            obtain⟨st,hst⟩:∃st:ByteArray,st=⟨#[]⟩:=⟨_,rfl⟩;have HO:Hid (ZlH o=st):=(by show _=_;rw[ho,hst];rfl);clear ho
            rotate_left
            obtain⟨E,hE⟩:∃E,opD (Zb t)=some E:=by
              rcases HN.out.is_ with e|e|e
              rw[ho] at e;cases e;rw[ho] at e;injection e with e;rw[e];exact H1.out.op;rw[ho] at e;injection e with e;rw[e];exact H2.out.op
            obtain⟨st,hst⟩:∃st:ByteArray,st=t:=⟨_,rfl⟩;subst hst;have HO:Hid (ZlH o=st):=(by show _=_;rw[ho];rfl);rw[hE] at hG;obtain⟨g4,d4,rfl,hO,_⟩:=hG;have hBY:=Zi7 hO hE;clear hO hE ho;go_wp2_with fail
            refine hBY.mono ?_;rintro e wq ⟨rfl,hb12⟩;have HN1:Hid (Y5 wq w7 sb db R t1 t2 (.slice a M.length c) M o):=HN.out.below hb12;clear HN hb12 hBY;have HN:=HN1;clear HN1
            all_goals
              have HOW:Hid (∀k,k<M.length->∃g,a=some ⟨g,0,none⟩/\wq.cell? ⟨g,k,none⟩=some (.string (M.getD k ⟨#[]⟩))):=fun k hk=>HN.out.own.atT hk;go_wp2_with fail
              go_loopw [32,31] (fun tk tf wz=>∃k:Nat,tk=.int .i64 k/\k<=M.length/\tf=.bool (Lib.containsS (M.take k) st)/\Hid (wq=wz)) (fun tk _ _=>M.length-(intOf tk).toNat)
              case atStart=>exact⟨0,rfl,Qg _,by rw[List.take_zero,ZrM (by simp)],rfl⟩
              case round=>
                obtain⟨k,rfl,hk,rfl,hw⟩:=hrel;have hw2:=hw.out;subst hw2;clear hw
                by_cases hkm:k<M.length
                · obtain⟨g,rfl,d0⟩:=HOW.out k hkm;have HX:Hid (M.take (k+1)=M.take k++[M.getD k ⟨#[]⟩]):=(by show _=_;rw[Qi hkm,Qc,Qd hkm];rfl);have c1:(0:Int)<=(k:Int):=(by omega);have c2:(k:Int)<(M.length:Int):=by omega
                  by_cases hin2:st∈M.take k
                  · have e1:Lib.containsS (M.take k) st=true:=ZqT hin2;rw[e1];have HY:Hid (Lib.containsS (M.take (k+1)) st=true):=ZqT (by rw[HX.out];exact List.mem_append_left _ hin2);clear e1 hin2 d0;go_wp2;go_roundw;case rel=>exact⟨k+1,by go_num,by omega,by rw[HY.out],True.intro⟩
                    case measure=>simp[intOf];omega
                  have e1:Lib.containsS (M.take k) st=false:=ZrM hin2;rw[e1];clear e1
                  obtain⟨bo,HY,e2,E3⟩:∃bo,Hid (Lib.containsS (M.take (k+1)) st=bo)/\((M.getD k ⟨#[]⟩).toList==st.toList)=bo/\Hid (st=⟨#[]⟩->(M.getD k ⟨#[]⟩).toList.isEmpty=bo):=by
                    by_cases heq:M.getD k ⟨#[]⟩=st
                    exact⟨true,ZqT (by rw[HX.out,heq];simp),by rw[heq];simp,fun e=>by rw[heq,e,Lib.toList_data];rfl⟩;have e2:=ZrC heq;exact⟨false,ZrM (by rw[HX.out];intro hm;rcases List.mem_append.1 hm with h|h;exact hin2 h;exact heq (List.mem_singleton.1 h).symm),e2,fun e=>by rw[e] at e2;simpa using e2⟩
                  try rw[hst] at e2
                  generalize M.getD k ⟨#[]⟩=mk at *;clear hin2 HX;go_wp2;go_roundw;case rel=>exact⟨k+1,by go_num,by omega,by first|(rw[HY.out];done)|rw[HY.out,E3.out hst],True.intro⟩
                  case measure=>simp[intOf];omega
                have hnk:¬(k:Int)<(M.length:Int):=(by omega);have hke:k=M.length:=(by omega);subst hke;rw[List.take_length];clear HOW
                first
                | have:=HDN.out
                  generalize Lib.containsS M st=fd;clear hnk HDN hst;go_wp2;go_roundw;case rel=>exact⟨i+1,M,a,c,o,by go_num,by omega,by omega,rfl,HN⟩
                  case measure=>simp[intOf];omega
                | have e1:Lib.containsS M st=true:=ZqT (HO.out ▸ HN.out.con)
                  rw[e1];have HN2:Hid (Y5 (wq.alloc (.cells #[.string st] 9)) w7 sb db R t1 t2 (.slice (some ⟨wq.heap.size,0,none⟩) 1 1) [st] o):=HN.out.one rfl HO.out;try rw[hst] at HN2
                  clear hnk e1 HN HO;go_wp2;go_roundw;case rel=>exact⟨i+1,[_],_,1,o,by go_num,by omega,by simp,rfl,HN2⟩
                  case measure=>simp[intOf];omega
        · as_aux_lemma=>
            have hX:=ZR Xi 8;have hY:=ZR Yi 300;have hx8:=Z2 Xi (n:=8) (by omega);have hy3:=Z2 Yi (n:=300) (by omega);have HPX:Hid (∀W:World,Calls Tryz.prog 17 #[.int .i64 Xi,.int .i64 8] W fun e w'=>e=.returned (.int .i64 (Zr Xi 8:Nat))/\w'=W):=fun W=>ZR Xi 8 W hwf2 (by omega) (by omega);have HPY:Hid (∀W:World,Calls Tryz.prog 17 #[.int .i64 Yi,.int .i64 300] W fun e w'=>e=.returned (.int .i64 (Zr Yi 300:Nat))/\w'=W):=fun W=>ZR Yi 300 W hwf3 (by omega) (by omega);clear hX hY;generalize Zr Xi 8=px8 at *;generalize Zr Yi 300=py3 at *;have HRd:Hid (Y5 wr.drew w7 sb db R t1 t2 (.slice a M.length c) M o):=HR.out.below (Below.refl _ _).drew
            refine Zo (fun w'=>w'.cell? ⟨b,off+i*3+1,none⟩=some (.int .i64 Xi)/\w'.cell? ⟨b,off+i*3+2,none⟩=some (.int .i64 Yi)) 13 (by kernel_rfl) ⟨k1,k2⟩ (fun hHeld=>?_);refine Zm 0 ?_;refine Zm 1 ?_;refine Zm 2 ?_;refine Zm 3 ?_;refine Zm 4 ?_;refine Zm 5 ?_;refine Zm 7 ?_;refine Zm 8 ?_;refine Zm 9 ?_;refine Zm 10 ?_;refine Zm 11 ?_;refine Zc (i:=6) (by kernel_rfl) rfl (fun KK hK=>?_);go_simp;refine(HPX.out _).mono ?_;rintro e wX ⟨rfl,hwX⟩;obtain rfl:=hwX.symm;clear hwX;go_simp;refine hK.out _ _ hHeld (fun hHeld=>?_);clear hK KK;try simp only[Act.put,tA,tB,tC]
            refine Zc (i:=12) (by kernel_rfl) rfl (fun KK hK=>?_);go_simp;refine(HPY.out _).mono ?_;rintro e wX ⟨rfl,hwX⟩;obtain rfl:=hwX.symm;clear hwX;go_simp;refine hK.out _ _ hHeld (fun hHeld=>?_);clear hK KK;try simp only[Act.put,tA,tB,tC]
            refine Zh (i:=13) (by kernel_rfl) rfl (by kernel_rfl) (fun KK hK=>?_);go_simp;refine(Zoe (GQ w7.heap.size (.slice a M.length c)) sb db R px8 py3 o wr.drew HRd.out.dk HRd.out.new (by have:=HRd.out.len hz1 hz2;omega) (by omega) (by omega)).mono ?_;rintro e w11 ⟨z,rfl,hd',hb'⟩;have HN:Hid (Y5 w11 w7 sb db R t1 t2 (.slice a M.length c) M o):=HRd.out.touch hd' hb' HRd.out.con HRd.out.is_;clear hd' hb';go_simp;refine hK.out _ _ ?_;clear hK KK;try simp only[Act.put,tA,tB,tC]
            refine Zj (by kernel_rfl) ?_ _;clear HR HRd k0 k1 k2 hHeld;go_wp2;go_roundw;case rel=>exact⟨i+1,M,a,c,o,by go_num,by omega,by omega,rfl,HN⟩
            case measure=>simp[intOf];omega
        · as_aux_lemma=>
            have hS:=ZlW (GQ w7.heap.size (.slice a M.length c)) sb db R o wr HR.out.dk;refine hS.mono ?_;clear hS;rintro e w11 ⟨z,rfl,hd',hb'⟩;have HN:Hid (Y5 w11 w7 sb db R t1 t2 (.slice a M.length c) M o):=HR.out.touch hd' hb' HR.out.con HR.out.is_;clear hd' hb' HR k0 k1 k2;go_wp2;go_roundw;case rel=>exact⟨i+1,M,a,c,o,by go_num,by omega,by omega,rfl,HN⟩
            case measure=>simp[intOf];omega
        as_aux_lemma=>
          exact⟨⟨i+1,M,a,c,o,by go_num,by omega,by omega,rfl,HR⟩,by simp[intOf];omega⟩
    have hni:¬(i:Int)<(an:Int):=(by omega);have HF:Hid (Below w.heap.size w wr):=HW7.out.trans (HR.out.low.mono HW7.out.size);clear HR;go_wp2;go_ret;exact⟨rfl,HF.out⟩
end Go.Proofs.YtfcgnpchbcmdeaaGreat
