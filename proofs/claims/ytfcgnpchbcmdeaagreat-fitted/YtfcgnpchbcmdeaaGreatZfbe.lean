import Derived.Test.YtfcgnpchbcmdeaaGreatZfaf
import Derived.Test.YtfcgnpchbcmdeaaGreatZfbd
import Derived.Test.YtfcgnpchbcmdeaaGreatZfas
import Derived.Lib.AppendStr
namespace Go.Proofs.YtfcgnpchbcmdeaaGreat
set_option linter.unusedSimpArgs false
set_option maxRecDepth 100000
set_option maxHeartbeats 8000000
open Go.RowKit
def Zf0(ss:List ByteArray):List Int:=ss.flatMap (fun s=>((s.size:Nat):Int)%256::Zb s)
theorem Zmr{L:List ByteArray}{k:Nat}(h:k<L.length)(d:ByteArray):Zf0 (L.take (k+1))=Zf0 (L.take k)++(((L.getD k d).size:Nat):Int)%256::Zb (L.getD k d):=by unfold Zf0;rw[Qi h,List.flatMap_append];simp[List.getD,h]
def Ziz(k:KS):List Int:=[119,((k.d:Nat):Int)%256,((k.e.cnt:Nat):Int)%256]++Zf0 k.e.ww
theorem Ya.own{W0 w:World}{v:Value}{bs:List Int}(h:Ya W0 w v bs):Zo w W0.heap.size v bs:=by
 refine⟨h.ow.1,?_⟩
 rcases h.ow.2 with hn|⟨g,cap,cur,e,_,r⟩
 exact .inl hn;exact .inr ⟨g,cap,cur,e,h.nw g (by rw[e];rfl),r⟩
theorem Ya.of_own{W0 w:World}{v:Value}{bs:List Int}(hb:Below W0.heap.size W0 w)(h:Zo w W0.heap.size v bs):Ya W0 w v bs:=by
 refine⟨hb,⟨h.1,?_⟩,fun k hk=>(World.ownsRow.lt h k hk).1⟩
 rcases h.2 with hn|⟨g,cap,cur,e,_,r⟩
 exact .inl hn;exact .inr ⟨g,cap,cur,e,Qg _,r⟩
theorem ZR.atW{w:World}{base:Nat}{a:Option Addr}{n c:Nat}{L:List ByteArray}(h:ZR w base (.slice a n c) L)(hn:L.length=n){k:Nat}(hk:k<n)(d:ByteArray):∃q,a=some ⟨q,0,none⟩/\q<w.heap.size/\w.cell? ⟨q,k,none⟩=some (.string (L.getD k d)):=by
 have h':=h;subst hn
 rcases h.2 with⟨e,h0⟩|⟨g,cap,cur,e,_,hh,_⟩
 omega;simp only[Value.slice.injEq,true_and] at e;obtain⟨rfl,rfl⟩:=e;refine⟨g,rfl,(Qb hh).1,?_⟩;rw[World.ownsRow.cellAt h' k (by omega)];simp[List.getD,hk]
theorem ZbZ(b:ByteArray):(Zb b).length=b.size:=by unfold Zb;rw[List.length_map];rfl
theorem ZfK(s:ByteArray):Go.Lib.strCells s=(Zb s).map (Value.int .u8):=by unfold Go.Lib.strCells Zb;rw[List.map_map];rfl
theorem ZdV(W0:World)(ab aw:Option Addr)(cb cw:Nat)(k:KS)(a:Option Addr)(c:Nat)(bs:List Int)(w:World)(hwd:k.e.wd=true)(hI:ZR W0 0 (.slice aw k.e.ww.length cw) k.e.ww)(ho:Ya W0 w (.slice a bs.length c) bs)(hbl1:k.e.ww.length<=1000)(hr:∀x∈k.e.ww,x.size<=8)(hl:bs.length<=900000):Calls Tryz.prog 100 #[.agg #[.bool k.e.wd,.slice ab 0 cb,.slice aw k.e.ww.length cw,.int .i64 (k.d:Nat)],.slice a bs.length c] w fun e w'=>Zeq W0 (bs++Ziz k) e w':=by
 rw[hwd];have H0:Hid (Ya W0 w (.slice a bs.length c) bs):=ho;have HI:Hid (ZR W0 0 (.slice aw k.e.ww.length cw) k.e.ww):=hI;have HRg:Hid (∀x∈k.e.ww,x.size<=8):=hr;have hcnt:k.e.cnt=k.e.ww.length:=by unfold ES.cnt ZaR;rw[hwd];rfl
 have HKB:Hid (Ziz k=[119,((k.d:Nat):Int)%256,((k.e.ww.length:Nat):Int)%256]++Zf0 k.e.ww):=by show _=_;unfold Ziz;rw[hcnt]
 have HCT:Hid (∀W:World,Calls Tryz.prog 169 #[.agg #[.bool true,.slice ab 0 cb,.slice aw k.e.ww.length cw]] W fun e w'=>e=.returned (.int .i64 ((k.e.ww.length:Nat):Int))/\Below W.heap.size W w'):=fun W=>ZdN true ab aw 0 cb _ cw W;obtain⟨i0,hinf,hz0,hz1,hz2⟩:=info_parts Zbm;have HR0:Hid (w.ownsRow 0 5 1 (.slice a bs.length c) bs.length (bs.map (Value.int .u8))):=ho.ow;clear hI ho hr hwd hcnt;generalize k.d=d at *;generalize hbl:bs.length=bl at *;generalize hnb:k.e.ww.length=nb at *;have HBL:Hid (bs.length=bl/\k.e.ww.length=nb):=⟨hbl,hnb⟩;clear hbl hnb;go_enter Tryz.func100,Tryz.ntmps100;go_upto_region 4 with fail;generalize hW1:w.alloc (.cells #[.bool true,.slice ab 0 cb,.slice aw nb cw,.int .i64 (d:Nat)] 172)=w1;have hB1:Below w.heap.size w w1:=by rw[<- hW1];exact(Below.refl _ _).alloc (Qa _) _
 have hX1:w1.heap[w.heap.size]? =some (.cells #[.bool true,.slice ab 0 cb,.slice aw nb cw,.int .i64 (d:Nat)] 172 (0,0)):=(by rw[<- hW1];exact heap_alloc_new _ _);have hwl:w.heap.size<w1.heap.size:=(Qb hX1).1;have x0:w1.drew.cell? ⟨w.heap.size,0,none⟩=some (.bool true):=cell_of_row _ _ 0 _ 172 (0,0) hX1;have x1:w1.drew.cell? ⟨w.heap.size,1,none⟩=some (.slice ab 0 cb):=cell_of_row _ _ 1 _ 172 (0,0) hX1;have x2:w1.drew.cell? ⟨w.heap.size,2,none⟩=some (.slice aw nb cw):=cell_of_row _ _ 2 _ 172 (0,0) hX1;have x3:w1.drew.cell? ⟨w.heap.size,3,none⟩=some (.int .i64 (d:Nat)):=cell_of_row _ _ 3 _ 172 (0,0) hX1;have HX1:Hid (w1.heap[w.heap.size]? =some (.cells #[.bool true,.slice ab 0 cb,.slice aw nb cw,.int .i64 (d:Nat)] 172 (0,0))/\Below w.heap.size w w1):=⟨hX1,hB1⟩;clear hW1 hB1 hX1
 refine ZJ (fun w'=>w'.cell? ⟨w.heap.size,0,none⟩=some (.bool true)/\w'.cell? ⟨w.heap.size,1,none⟩=some (.slice ab 0 cb)/\w'.cell? ⟨w.heap.size,2,none⟩=some (.slice aw nb cw)/\w'.cell? ⟨w.heap.size,3,none⟩=some (.int .i64 (d:Nat))) 11 (by kernel_rfl) ⟨x0,x1,x2,x3⟩ (fun hHeld=>?_);refine ZL 0 ?_;try simp only[Act.put,sA,sB,sC]
 refine ZL 1 ?_;try simp only[Act.put,sA,sB,sC]
 refine ZL 2 ?_;try simp only[Act.put,sA,sB,sC]
 refine tkM [4,9,10,11] 3 (v:=?_) ?_ ?_
 rotate_left
 ·intro w hSw;try obtain⟨_,_,_,_⟩:=hSw
  go_simp;try with_reducible rfl
 try simp only[Act.put,sA,sB,sC]
 refine ZL 4 ?_;try simp only[Act.put,sA,sB,sC]
 refine ZL 5 ?_;try simp only[Act.put,sA,sB,sC]
 refine tkM [7,8,9,10,11] 6 (v:=?_) ?_ ?_
 rotate_left
 ·intro w hSw;try obtain⟨_,_,_,_⟩:=hSw
  go_simp;try with_reducible rfl
 try simp only[Act.put,sA,sB,sC]
 refine Zk (i:=7) (by kernel_rfl) rfl (fun KK hK=>?_);go_simp;refine(HCT.out _).mono ?_;rintro e w2 ⟨rfl,hb2⟩;have hb12:Below w1.heap.size w1 w2:=(Below.refl w1.heap.size w1).drew.trans hb2;have y0:=(hb12.cell (p:=⟨w.heap.size,0,none⟩) hwl).trans x0;have y1:=(hb12.cell (p:=⟨w.heap.size,1,none⟩) hwl).trans x1;have y2:=(hb12.cell (p:=⟨w.heap.size,2,none⟩) hwl).trans x2;have y3:=(hb12.cell (p:=⟨w.heap.size,3,none⟩) hwl).trans x3;have hwl2:w.heap.size<w2.heap.size:=Qh hwl hb12.size;go_simp;refine hK.out _ _ ⟨y0,y1,y2,y3⟩ (fun hHeld=>?_);clear hK KK hb2;try simp only[Act.put,sA,sB,sC]
 refine ZL 8 ?_;try simp only[Act.put,sA,sB,sC]
 refine Zk (i:=9) (by kernel_rfl) rfl (fun KK hK=>?_);go_simp;refine hK.out _ _ ⟨(Below.cell (B:=w2.heap.size) (p:=⟨w.heap.size,0,none⟩) ((Below.refl _ _).alloc (Qa _) _) hwl2).trans y0,(Below.cell (B:=w2.heap.size) (p:=⟨w.heap.size,1,none⟩) ((Below.refl _ _).alloc (Qa _) _) hwl2).trans y1,(Below.cell (B:=w2.heap.size) (p:=⟨w.heap.size,2,none⟩) ((Below.refl _ _).alloc (Qa _) _) hwl2).trans y2,(Below.cell (B:=w2.heap.size) (p:=⟨w.heap.size,3,none⟩) ((Below.refl _ _).alloc (Qa _) _) hwl2).trans y3⟩ (fun hHeld=>?_);clear hK KK;try simp only[Act.put,sA,sB,sC]
 refine Zk (i:=10) (by kernel_rfl) rfl (fun KK hK=>?_);have hbw2:Below w.heap.size w w2:=HX1.out.2.trans (hb12.mono (Nat.le_of_lt hwl));refine ZI rfl (.tmp 13) (.tmp 22) 66 rfl 0 5 i0 (.int .u8 0) 1 1 Tryz.underlying66 hinf hz0 hz1 hz2 rfl (by decide) (.slice a bl c) bl (bs.map (Value.int .u8)) (by simp[Act.eval]) (World.ownsRow.alloc (w:=w2) ((Za.of_below (S:=fun _=>False) hbw2).row HR0.out (fun _ _=>id)) _) ⟨w2.heap.size,0,none⟩ 3 3 [.int .u8 119,.int .u8 ((d:Int)%256),.int .u8 ((nb:Int)%256)] (by simp[Act.eval]) rfl (Zu w2 #[.int .u8 119,.int .u8 ((d:Int)%256),.int .u8 ((nb:Int)%256)] 5) (by intro u hu;simp at hu;rcases hu with rfl|rfl|rfl<;>rfl) (by decide) (by unfold maxLen;omega) (by omega) (by simp) ?_;intro v6 w6 H6;obtain⟨r6,g6,dd6,_,q6,p6,hv6⟩:=H6.out
 have hb26:Below w.heap.size w (w2.alloc (.cells #[.int .u8 119,.int .u8 ((d:Int)%256),.int .u8 ((nb:Int)%256)] 5)):=hbw2.alloc hbw2.size _;have hA6:Z8 w (.slice a bl c) w6 v6:=Z8.pre hb26 (Z8.of_mark g6 dd6 (Qa _));have hO6:Zo w6 0 v6 (bs++[119,(d:Int)%256,(nb:Int)%256]):=Zo.more (n:=3) (by rw[HBL.out.1];exact r6) rfl
 have hX6:w6.heap[w.heap.size]? =some (.cells #[.bool true,.slice ab 0 cb,.slice aw nb cw,.int .i64 (d:Nat)] 172 (0,0)):=(g6.block w.heap.size (by simp;omega) (fun e=>by
  have:=(World.ownsRow.lt HR0.out _ e.symm).2
  omega)).trans ((Below.heap_alloc _ _ _ hwl2).trans ((hb12.block _ hwl).trans HX1.out.1))
 have h0:=H0.out;have HA6:Hid (Ya W0 w6 v6 (bs++[119,(d:Int)%256,(nb:Int)%256])/\w6.heap[w.heap.size]? =some (.cells #[.bool true,.slice ab 0 cb,.slice aw nb cw,.int .i64 (d:Nat)] 172 (0,0))):=⟨h0.app hO6 hA6,hX6⟩;have z0:w6.cell? ⟨w.heap.size,0,none⟩=some (.bool true):=cell_of_row _ _ 0 _ 172 (0,0) hX6;have z1:w6.cell? ⟨w.heap.size,1,none⟩=some (.slice ab 0 cb):=cell_of_row _ _ 1 _ 172 (0,0) hX6;have z2:w6.cell? ⟨w.heap.size,2,none⟩=some (.slice aw nb cw):=cell_of_row _ _ 2 _ 172 (0,0) hX6;have z3:w6.cell? ⟨w.heap.size,3,none⟩=some (.int .i64 (d:Nat)):=cell_of_row _ _ 3 _ 172 (0,0) hX6;subst hv6;clear H6 r6 g6 dd6 hb26 hA6 hO6 hX6 h0 y0 y1 y2 y3 hbw2;refine hK.out _ _ ⟨z0,z1,z2,z3⟩ (fun hHeld=>?_);clear hK KK;try simp only[Act.put,sA,sB,sC]
 refine Zx (i:=11) (by kernel_rfl) rfl (by kernel_rfl) (fun KK hK=>?_);go_simp;refine hK.out _ _ ?_;clear hK KK;try simp only[Act.put,sA,sB,sC]
 refine Zz (by kernel_rfl) ?_ _;clear x0 x1 x2 x3 hHeld;have e1:w6.cell? ⟨w.heap.size,1,none⟩=some (.slice ab 0 cb):=cell_of_row _ _ 1 _ 172 (0,0) HA6.out.2;clear z0 z1 z2 z3 hHeld;go_wp2_with fail
 go_loopw [1,28] (fun tv ti wr=>tv=.slice (some ⟨q6,0,none⟩) (bl+3) p6/\ti=.int .i64 0/\Hid (w6=wr)) (fun _ _ _=>0)
 case atStart=>exact⟨rfl,rfl,rfl⟩
 case round=>
  obtain⟨rfl,rfl,hw⟩:=hrel;have hw2:=hw.out;subst hw2;clear hw;have e2:w6.cell? ⟨w.heap.size,2,none⟩=some (.slice aw nb cw):=cell_of_row _ _ 2 _ 172 (0,0) HA6.out.2;go_wp2_with fail
  go_loopw [1,40] (fun tv ti wr=>∃(j:Nat) (aj:Option Addr) (cj:Nat) (Lj:List Int),tv=.slice aj Lj.length cj/\ti=.int .i64 j/\j<=nb/\Hid (Lj=bs++[119,(d:Int)%256,(nb:Int)%256]++Zf0 (k.e.ww.take j))/\Lj.length<=bl+3+9*j/\Hid (Ya W0 wr (.slice aj Lj.length cj) Lj/\wr.heap[w.heap.size]? =some (.cells #[.bool true,.slice ab 0 cb,.slice aw nb cw,.int .i64 (d:Nat)] 172 (0,0)))) (fun _ ti _=>nb-(intOf ti).toNat)
  case atStart=>
   have hl6:(bs++[119,(d:Int)%256,(nb:Int)%256]).length=bl+3:=(by rw[Qe,HBL.out.1];rfl);refine⟨0,some ⟨q6,0,none⟩,p6,bs++[119,(d:Int)%256,(nb:Int)%256],by rw[hl6],rfl,Qg _,?_,by omega,?_⟩;show _=_;rw[List.take_zero];simp[Zf0];rw[hl6];exact HA6.out
  case round=>
   clear HA6 e2 e1;obtain⟨j,aj,cj,Lj,rfl,rfl,hj,HLJ,hlj,HR⟩:=hrel;have hwr:w.heap.size<wr.heap.size:=(Qb HR.out.2).1
   by_cases hjl:j<nb
   ·have hjL:j<k.e.ww.length:=(by rw[HBL.out.2];exact hjl);have hIw:ZR wr 0 (.slice aw nb cw) k.e.ww:=HI.out.below HR.out.1.bl;obtain⟨q,hq,hql,y0⟩:=hIw.atW HBL.out.2 hjl ⟨#[]⟩;subst hq;have hrg:(k.e.ww.getD j ⟨#[]⟩).size<=8:=HRg.out _ (by simp[List.getD,hjL]);have HX:Hid (bs++[119,(d:Int)%256,(nb:Int)%256]++Zf0 (k.e.ww.take (j+1))=(Lj++[(((k.e.ww.getD j ⟨#[]⟩).size:Nat):Int)%256])++Zb (k.e.ww.getD j ⟨#[]⟩)):=by show _=_;rw[Zmr hjL ⟨#[]⟩,HLJ.out];simp
    clear hIw;generalize k.e.ww.getD j ⟨#[]⟩=x at *;obtain⟨ll,hll⟩:∃ll,ll=Lj.length:=⟨_,rfl⟩;have HLL:Hid (ll=Lj.length):=hll;rw[<- hll] at HR hlj ⊢;clear hll;have HROW:Hid (wr.ownsRow 0 5 1 (.slice aj ll cj) ll (Lj.map (Value.int .u8))):=(by have h1:=HR.out.1.ow;unfold Zo at h1;rw[<- HLL.out] at h1;exact h1);have bk1:(0:Int)<=(j:Int):=(by omega);have bk2:(j:Int)<(nb:Int):=(by omega);have HRX:Hid (x.size<=8):=hrg;clear hrg;obtain⟨sx,hsx⟩:∃sx,sx=x.size:=⟨_,rfl⟩;have HSX:Hid (sx=x.size):=hsx;clear hsx
    go_wp2_with (at_builtin;refine Zd rfl (.tmp 44) (.tmp 48) 66 rfl 0 5 i0 (.int .u8 0) 1 1 Tryz.underlying66 hinf hz0 hz1 hz2 rfl (by decide) _ ll (Lj.map (Value.int .u8)) rfl (HROW.out.alloc _) ⟨wr.heap.size,0,none⟩ 1 1 [.int .u8 (((x.size:Nat):Int)%256)] rfl rfl (Zu wr #[.int .u8 (((x.size:Nat):Int)%256)] 5) (by intro u hu;simp at hu;subst hu;rfl) (by decide) (by unfold maxLen;omega) (by omega) (by simp) ?_)
    intro v4 w4 H4;obtain⟨r4,g4,d4,_,q4,p4,hv4⟩:=H4.out;have hO4:Zo w4 0 v4 (Lj++[((x.size:Nat):Int)%256]):=Zo.more (n:=1) (by rw[<- HLL.out];exact r4) rfl;have hA4:Z8 wr (.slice aj ll cj) w4 v4:=Z8.pre ((Below.refl _ _).alloc (Qa _) _) (Z8.of_mark g4 d4 (by simp));have hX4:=hA4.1.at_ HR.out.2 (fun e=>Zv HROW.out e HR.out.2 (by decide) rfl);have hout4:=HR.out.1.app hO4 hA4;subst hv4;have HO4:Hid (Ya W0 w4 (.slice (some ⟨q4,0,none⟩) (ll+1) p4) (Lj++[((x.size:Nat):Int)%256])/\w4.heap[w.heap.size]? =some (.cells #[.bool true,.slice ab 0 cb,.slice (some ⟨q,0,none⟩) nb cw,.int .i64 (d:Nat)] 172 (0,0))):=⟨hout4,hX4⟩
    have HRW4:Hid (w4.ownsRow W0.heap.size 5 1 (.slice (some ⟨q4,0,none⟩) (ll+1) p4) (ll+1) ((Lj++[((x.size:Nat):Int)%256]).map (Value.int .u8))):=by have h1:=hout4.own;unfold Zo at h1;rw[Qe,<- HLL.out] at h1;exact h1
    have hs4:W0.heap.size<=w4.heap.size:=hout4.bl.size;have hb0:x.size<=8->True:=fun _=>trivial;clear H4 r4 g4 d4 hO4 hA4 hX4 hout4 HROW HR y0 hb0;obtain⟨L4,hL4⟩:∃L4,L4=Lj++[((x.size:Nat):Int)%256]:=⟨_,rfl⟩;rw[<- hL4] at HO4 HRW4 HX;have HL4:Hid (L4.length=ll+1):=(by show _=_;rw[hL4,Qe,HLL.out];rfl);clear hL4;go_wp2_with (at_builtin;refine Go.Lib.wpList_append_own_string _ rfl (.tmp 50) (.tmp 51) 66 9 rfl W0.heap.size 5 i0 Tryz.underlying66 Tryz.underlying9 hinf hz0 hz1 hz2 _ (ll+1) (L4.map (Value.int .u8)) rfl HRW4.out x rfl (by have:=HRX.out;unfold maxLen;omega) (by have:=HRX.out;omega) hs4 ?_)
    intro v5 w5 r5 g5 d5;have hO5:Zo w5 W0.heap.size v5 (L4++Zb x):=by unfold Zo;rw[Qe,HL4.out,ZbZ,List.map_append,<- ZfK];exact r5
    obtain⟨a5,c5,rfl⟩:=hO5.form;have T:Za (fun z=>(Value.slice (some ⟨q4,0,none⟩) (ll+1) p4).ownBlock=some z) w4 w5:=(Za.refl _ w4).grown g5 (fun k hk _=>hk);have hX5:=T.at_ HO4.out.2 (fun e=>Zv HRW4.out e HO4.out.2 (by decide) rfl);have hB5:Below W0.heap.size W0 w5:=HO4.out.1.bl.trans (T.to_below hs4 (fun z hz=>HO4.out.1.nw z hz));have HN:Hid (Ya W0 w5 (.slice a5 (L4++Zb x).length c5) (L4++Zb x)/\w5.heap[w.heap.size]? =some (.cells #[.bool true,.slice ab 0 cb,.slice (some ⟨q,0,none⟩) nb cw,.int .i64 (d:Nat)] 172 (0,0))):=⟨Ya.of_own hB5 hO5,hX5⟩;have HLN:Hid ((L4++Zb x).length<=bl+3+9*(j+1)):=(by show _<=_;rw[Qe,HL4.out,ZbZ];have:=HRX.out;omega);clear r5 g5 d5 hO5 T hX5 hB5 HO4 HRW4;generalize L4++Zb x=L5 at *;go_wp2;go_roundw
    case rel=>exact⟨j+1,a5,c5,L5,rfl,by go_num,by omega,HX.out.symm,HLN.out,HN.out⟩
    case measure=>simp[intOf];omega
   have hnj:¬(j:Int)<(nb:Int):=(by omega);have hjk:k.e.ww.take j=k.e.ww:=List.take_of_length_le (by have:=HBL.out.2;omega);have hLe:Lj=bs++Ziz k:=(by rw[HLJ.out,hjk,HKB.out,List.append_assoc]);have HF:Hid (Ya W0 wr (.slice aj Lj.length cj) Lj/\Lj=bs++Ziz k):=⟨HR.out.1,hLe⟩;clear hjk hLe HLJ HR;go_wp2;go_ret;refine⟨aj,cj,?_,?_⟩;rw[<- HF.out.2];rfl;rw[<- HF.out.2];exact HF.out.1
end Go.Proofs.YtfcgnpchbcmdeaaGreat
