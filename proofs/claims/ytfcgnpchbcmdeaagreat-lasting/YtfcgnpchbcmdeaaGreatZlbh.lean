import Derived.Test.YtfcgnpchbcmdeaaGreatZlbg
import Derived.Deep.RegionHeld3
import Derived.Test.YtfcgnpchbcmdeaaGreatZlas
import Derived.Test.YtfcgnpchbcmdeaaGreatZlau
namespace Go.Proofs.YtfcgnpchbcmdeaaGreat
set_option maxRecDepth 100000
set_option maxHeartbeats 8000000
open Go.RowKit
def cfB(cs:List Int):Nat:=2+Zr (Yc cs 0) 15
def cfU(cs:List Int):Nat:=Zr (Yc cs 2) 21
def cfS(cs:List Int):Nat:=cfB cs+Zr (Yc cs 1) (33-cfB cs)
def YK(cs:List Int):Nat:=Zr (Yc cs 3) 4
def cfW(cs:List Int)(i:Nat):Bool:=decide (Zr (Yc cs (8+i)) 3=0)
def cfC(cs:List Int)(i:Nat):Int:=if cfW cs i=true then 0 else(Zr (Yc cs (4+i)) 4:Nat)
def cfT(cs:List Int)(i:Nat):Int:=if cfW cs i=true then 1+(Zr (Yc cs (4+i)) 9:Nat) else 0
theorem Zik(cs:List Int):2<=cfB cs/\cfB cs<=16/\cfB cs<=cfS cs/\cfS cs<=32/\cfU cs<=20/\YK cs<=3:=by have h0:=Z2 (Yc cs 0) (show 0<15 by omega);have h2:=Z2 (Yc cs 2) (show 0<21 by omega);have h3:=Z2 (Yc cs 3) (show 0<4 by omega);have e0:cfB cs=2+Zr (Yc cs 0) 15:=rfl;have h1:=Z2 (Yc cs 1) (show 0<33-cfB cs by omega);have e1:cfS cs=cfB cs+Zr (Yc cs 1) (33-cfB cs):=rfl;have e2:cfU cs=Zr (Yc cs 2) 21:=rfl;have e3:YK cs=Zr (Yc cs 3) 4:=rfl;omega
theorem Zm6(cs:List Int)(i:Nat):ZaJ (cfW cs i) (cfC cs i) (cfT cs i)=true:=by
 have h0:=Z2 (Yc cs (4+i)) (show 0<4 by omega);have h1:=Z2 (Yc cs (4+i)) (show 0<9 by omega);unfold ZaJ cfC cfT
 cases cfW cs i
 simp;omega;simp;omega
theorem Zf4(cs:List Int):ZcP (YK cs+1) (cfB cs:Nat) (cfS cs:Nat) (cfU cs:Nat) (cfW cs) (cfC cs) (cfT cs)=true:=by have h:=Zik cs;unfold ZcP Zgo;rw[Bool.and_eq_true,decide_eq_true_eq,List.all_eq_true];exact⟨by omega,fun i _=>Zm6 cs i⟩
def ZlC(cs:List Int)(i:Nat):List Value:=[.bool (cfW cs i),.int .i64 (cfC cs i),.int .i64 (cfT cs i)]
def ZcR(cs:List Int):Nat->List Value
 |0=>[]
 |k+1=>ZcR cs k++ZlC cs k
theorem Zdd(cs:List Int):∀k,(ZcR cs k).length=k*3
 |0=>rfl
 |k+1=>by rw[ZcR,Qe,Zdd cs k];simp[ZlC];omega
theorem Zdc(cs:List Int):∀k i c,i<k->c<3->(ZcR cs k)[i*3+c]? =(ZlC cs i)[c]?
 |0,i,c,h,_=>by omega
 | k+1,i,c,h,hc=>by
  rw[ZcR]
  by_cases hk:i<k
  rw[List.getElem?_append_left (by rw[Zdd];omega)];exact Zdc cs k i c hk hc;have e:i=k:=(by omega);subst e;rw[List.getElem?_append_right (by rw[Zdd];omega),Zdd];congr 1;omega
def ZbX(w:World)(base:Nat)(v:Value)(cs:List Int)(k:Nat):Prop:=w.ownsRow base 51 3 v k (ZcR cs k)
theorem ZbX.feats{w:World}{base k:Nat}{v:Value}{cs:List Int}(h:ZbX w base v cs k)(hk:0<k)(hk2:k<=1000):∃fk fc,v=.slice (some ⟨fk,0,none⟩) k fc/\base<=fk/\Qr w fk 0 k (cfW cs) (cfC cs) (cfT cs):=by
 have h':=h
 rcases h.2 with⟨rfl,h0⟩|⟨g,cap,cur,rfl,hb,hh,_⟩
 omega;refine⟨g,cap,rfl,hb,⟨by unfold maxLen;omega,fun _=>(Qb hh).1,fun i hi=>?_,fun i hi=>?_,fun i hi=>?_⟩⟩;rw[Nat.zero_add,World.ownsRow.cellAt h' (i*3) (by omega)];exact Zdc cs k i 0 hi (by omega);rw[Nat.zero_add,World.ownsRow.cellAt h' (i*3+1) (by omega)];exact Zdc cs k i 1 hi (by omega);rw[Nat.zero_add,World.ownsRow.cellAt h' (i*3+2) (by omega)];exact Zdc cs k i 2 hi (by omega)
theorem ZbX.shape{w:World}{base k:Nat}{v:Value}{cs:List Int}(h:ZbX w base v cs k):∃a c,v=.slice a k c:=by
 rcases h.2 with⟨rfl,h0⟩|⟨g,cap,cur,rfl,_⟩
 exact⟨none,0,by rw[h0]⟩;exact⟨_,cap,rfl⟩
theorem ZrV:(Tryz.prog.info? 51).map (fun i=>(i.zero,i.size,i.bytes))=some (some (.agg #[.bool false,.int .i64 0,.int .i64 0]),3,24):=by kernel_rfl
theorem Zqh{w:World}{a:Option Addr}{n:Nat}{zs:List Int}(h:ZT w a n zs)(i:Nat):(Lit.int .i64 (Yc zs i)).wf=true:=by unfold Yc;split;decide;rename_i h0;have hl:i%zs.length<zs.length:=Nat.mod_lt _ (by omega);rw[Qc,Qd hl];exact h.2.1 _ (Qf _)
theorem ZgT(ca:Option Addr)(cn cc:Nat)(cs:List Int)(w:World)(hc:ZT w ca cn cs)(hcn:cn<=9223372036854775807):Calls Tryz.prog 23 #[.slice ca cn cc] w fun e w'=>∃fk fc,e=.returned (.agg #[.slice (some ⟨fk,0,none⟩) (YK cs+1) fc,.int .i64 (cfB cs:Nat),.int .i64 (cfS cs:Nat),.int .i64 (cfU cs:Nat)])/\w.heap.size<=fk/\Qr w' fk 0 (YK cs+1) (cfW cs) (cfC cs) (cfT cs)/\Below w.heap.size w w':=by
 have HR:Hid (∀(W:World) (i:Nat),i<=1000->Below w.heap.size w W->Calls Tryz.prog 18 #[.slice ca cn cc,.int .i64 (i:Nat)] W fun e w'=>e=.returned (.int .i64 (Yc cs i))/\w'=W):=fun W i hi hW=>Zfz ca cn cc i cs W (hc.below hW) (by omega) hcn;have HP:Hid (∀(W:World) (i n:Nat),0<n->n<=1000->Calls Tryz.prog 17 #[.int .i64 (Yc cs i),.int .i64 (n:Nat)] W fun e w'=>e=.returned (.int .i64 (Zr (Yc cs i) n:Nat))/\w'=W):=fun W i n h0 h1=>ZR _ n W (Zqh hc i) h0 (by omega);have hcf:=Zik cs;have HB:Hid (cfB cs=2+Zr (Yc cs 0) 15):=rfl;have HU:Hid (cfU cs=Zr (Yc cs 2) 21):=rfl;have HS:Hid (cfS cs=cfB cs+Zr (Yc cs 1) (33-cfB cs)):=rfl;have hp0:=Z2 (Yc cs 0) (show 0<15 by omega)
 have q1:IntKind.i64.wrap (2+((Zr (Yc cs 0) 15:Nat):Int))=((cfB cs:Nat):Int):=(by rw[Zz (by omega) (by omega)];have:=HB.out;omega);obtain⟨w0,hw0⟩:∃w0,w0=w.alloc (.cells #[.slice none 0 0,.int .i64 0,.int .i64 0,.int .i64 0] 37):=⟨_,rfl⟩;have hb0:Below w.heap.size w w0:=(by rw[hw0];exact(Below.refl _ _).alloc (Qa _) _);have HB0:Hid (Below w.heap.size w w0):=hb0;have HR0:Hid (w0.heap[w.heap.size]? =some (.cells #[.slice none 0 0,.int .i64 0,.int .i64 0,.int .i64 0] 37 (0,0))/\w0.heap.size=w.heap.size+1):=(by refine⟨?_,?_⟩;rw[hw0];exact heap_alloc_new w _;rw[hw0];simp);clear hb0 hc;go_enter Tryz.func23,Tryz.ntmps23;go_wp2_with fail
 rw[<- hw0];clear hw0;refine(HR.out w0 0 (by omega) HB0.out).mono ?_;rintro e w1 ⟨rfl,h1⟩;obtain rfl:=h1.symm;go_wp2_with fail
 refine(HP.out w0 0 15 (by omega) (by omega)).mono ?_;rintro e w1 ⟨rfl,h1⟩;obtain rfl:=h1.symm;go_wp2_with fail
 refine(HR.out w0 2 (by omega) HB0.out).mono ?_;rintro e w1 ⟨rfl,h1⟩;obtain rfl:=h1.symm;go_wp2_with fail
 refine(HP.out w0 2 21 (by omega) (by omega)).mono ?_;rintro e w1 ⟨rfl,h1⟩;obtain rfl:=h1.symm;rw[<- HU.out];have hp1:=Z2 (Yc cs 1) (show 0<33-cfB cs by omega);obtain⟨pn,hpn⟩:∃pn,pn=33-cfB cs:=⟨_,rfl⟩;have q2:IntKind.i64.wrap (33-((cfB cs:Nat):Int))=(pn:Int):=by rw[Zz (by omega) (by omega)];omega
 have q3:IntKind.i64.wrap (((cfB cs:Nat):Int)+((Zr (Yc cs 1) pn:Nat):Int))=((cfS cs:Nat):Int):=by rw[hpn,Zz (by omega) (by omega)];have:=HS.out;omega
 have hpn0:0<pn/\pn<=1000:=(by omega);have HP1:Hid (∀W:World,Calls Tryz.prog 17 #[.int .i64 (Yc cs 1),.int .i64 (pn:Nat)] W fun e w'=>e=.returned (.int .i64 (Zr (Yc cs 1) pn:Nat))/\w'=W):=fun W=>HP.out W 1 pn hpn0.1 hpn0.2;clear hpn hp1 hp0 hpn0 q1;obtain⟨cb,hcb⟩:∃cb,cb=w0.heap.size:=⟨_,rfl⟩;obtain⟨w2,hw2⟩:∃w2,w2=w0.alloc (.cells #[.slice none 0 0,.int .i64 (cfB cs:Nat),.int .i64 0,.int .i64 (cfU cs:Nat)] 37):=⟨_,rfl⟩;have hrow2:w2.heap[cb]? =some (.cells #[.slice none 0 0,.int .i64 (cfB cs:Nat),.int .i64 0,.int .i64 (cfU cs:Nat)] 37 (0,0)):=(by rw[hw2,hcb];exact heap_alloc_new w0 _);have hb2:Below w.heap.size w w2:=by rw[hw2];exact HB0.out.alloc HB0.out.size _
 have HR2:Hid (w2.heap[w.heap.size]? =some (.cells #[.slice none 0 0,.int .i64 0,.int .i64 0,.int .i64 0] 37 (0,0))):=by show _=_;rw[hw2];exact(Below.heap_alloc _ _ _ (by have:=HR0.out.2;omega)).trans HR0.out.1
 have hcw:w.heap.size<cb:=(by have:=HR0.out.2;omega);have e1:w2.cell? ⟨cb,1,none⟩=some (.int .i64 (cfB cs:Nat)):=cell_of_row _ _ 1 _ 37 (0,0) hrow2;have e2:w2.cell? ⟨cb,2,none⟩=some (.int .i64 0):=cell_of_row _ _ 2 _ 37 (0,0) hrow2;have z2:w2.frozen? ⟨cb,2,none⟩=false:=frozen_of_row _ _ 2 _ 37 hrow2;have HB2:Hid (Below w.heap.size w w2):=hb2;have HW2:Hid (w2.heap[cb]? =some (.cells #[.slice none 0 0,.int .i64 (cfB cs:Nat),.int .i64 0,.int .i64 (cfU cs:Nat)] 37 (0,0))):=hrow2;go_upto_region 2 with fail;rw[<- hw2,<- hcb];clear hw2 hcb hb2 hrow2;have hrow3:(w2.setCell ⟨cb,2,none⟩ (.int .i64 (cfS cs:Nat))).heap[cb]? =some (.cells #[.slice none 0 0,.int .i64 (cfB cs:Nat),.int .i64 (cfS cs:Nat),.int .i64 (cfU cs:Nat)] 37 (0,0)):=heap_setCell_same _ cb 2 _ 37 _ HW2.out
 have e3:(w2.setCell ⟨cb,2,none⟩ (.int .i64 (cfS cs:Nat))).cell? ⟨cb,1,none⟩=some (.int .i64 (cfB cs:Nat)):=cell_of_row _ _ 1 _ 37 (0,0) hrow3;have HW3:Hid ((w2.setCell ⟨cb,2,none⟩ (.int .i64 (cfS cs:Nat))).heap[cb]? =some (.cells #[.slice none 0 0,.int .i64 (cfB cs:Nat),.int .i64 (cfS cs:Nat),.int .i64 (cfU cs:Nat)] 37 (0,0))):=hrow3;clear hrow3;go_region_held3 (fun w'=>w'.cell? ⟨cb,1,none⟩=some (.int .i64 (cfB cs:Nat))) (first|with_reducible exact e1|exact e3|exact e1) (first|(go_at_call 18;refine(HR.out _ 1 (by omega) HB2.out.drew).mono ?_;rintro e w' ⟨rfl,rfl⟩)|(go_at_call 17;refine(HP1.out _).mono ?_;rintro e w' ⟨rfl,rfl⟩))
 have HB3:Hid (Below w.heap.size w (w2.setCell ⟨cb,2,none⟩ (.int .i64 (cfS cs:Nat))).drew):=(HB2.out.setCell (show w.heap.size<=cb by omega) _).drew;have HR3:Hid ((w2.setCell ⟨cb,2,none⟩ (.int .i64 (cfS cs:Nat))).drew.heap[w.heap.size]? =some (.cells #[.slice none 0 0,.int .i64 0,.int .i64 0,.int .i64 0] 37 (0,0))):=by have t1:Za (fun q=>q=cb) w2 (w2.setCell ⟨cb,2,none⟩ (.int .i64 (cfS cs:Nat))):=(Za.refl (fun q=>q=cb) w2).setCell (p:=⟨cb,2,none⟩) (fun _=>rfl) _;exact t1.at_ HR2.out (by omega)
 have HW3':Hid ((w2.setCell ⟨cb,2,none⟩ (.int .i64 (cfS cs:Nat))).drew.heap[cb]? =some (.cells #[.slice none 0 0,.int .i64 (cfB cs:Nat),.int .i64 (cfS cs:Nat),.int .i64 (cfU cs:Nat)] 37 (0,0))):=HW3.out;generalize (w2.setCell ⟨cb,2,none⟩ (.int .i64 (cfS cs:Nat))).drew=w3 at *;clear HW3 HW2 HR2 HB2 HP1 HR0 HB0 e1 e2 e3 z2 q2 q3 HB HU HS;have hcm:YK cs<=3:=hcf.2.2.2.2.2;have HCM:Hid (YK cs=Zr (Yc cs 3) 4):=rfl;obtain⟨m,hm⟩:∃m,m=YK cs:=⟨_,rfl⟩;rw[<- hm] at hcm HCM;have HMM:Hid (m=YK cs):=hm;clear hm hcf;obtain⟨i0,hinf,hz0,hz1,hz2⟩:=info_parts ZrV;go_wp2_with fail
 go_loopw [4] (fun ti wr=>∃(k:Nat) (vF:Value),ti=.int .i64 k/\k<=m+1/\Hid (wr.heap[cb]? =some (.cells #[vF,.int .i64 (cfB cs:Nat),.int .i64 (cfS cs:Nat),.int .i64 (cfU cs:Nat)] 37 (0,0)))/\Hid (ZbX wr w.heap.size vF cs k)/\Hid (wr.heap[w.heap.size]? =some (.cells #[.slice none 0 0,.int .i64 0,.int .i64 0,.int .i64 0] 37 (0,0)))/\Hid (Below w.heap.size w wr)) (fun ti _=>m+1-(intOf ti).toNat)
 case atStart=>exact⟨0,_,rfl,by omega,HW3'.out,World.ownsRow_nil _ _ _ _,HR3.out,HB3.out⟩
 case round=>
  clear HW3' HR3 HB3;obtain⟨k,vF,rfl,hk,HC,HO,HZ,HB⟩:=hrel;have hsz:=HB.out.size;have hcl:cb<wr.heap.size:=(Qb HC.out).1;go_wp2_with fail
  refine(HR.out wr 3 (by omega) HB.out).mono ?_;rintro e w4 ⟨rfl,h4⟩;obtain rfl:=h4.symm;go_wp2_with fail
  refine(HP.out wr 3 4 (by omega) (by omega)).mono ?_;rintro e w4 ⟨rfl,h4⟩;obtain rfl:=h4.symm;rw[<- HCM.out]
  by_cases hkm:k<=m
  ·have bk:(k:Int)<=(m:Int):=(by omega);have q4:IntKind.i64.wrap (4+(k:Int))=((4+k:Nat):Int):=(by rw[Zz (by omega) (by omega)];omega);have q8:IntKind.i64.wrap (8+(k:Int))=((8+k:Nat):Int):=(by rw[Zz (by omega) (by omega)];omega);go_wp2_with fail
   refine(HR.out wr (4+k) (by omega) HB.out).mono ?_;rintro e w4 ⟨rfl,h4⟩;obtain rfl:=h4.symm;go_wp2_with fail
   refine(HP.out wr (4+k) 4 (by omega) (by omega)).mono ?_;rintro e w4 ⟨rfl,h4⟩;obtain rfl:=h4.symm;obtain⟨w6,hw6⟩:∃w6,w6=wr.alloc (.cells #[.bool false,.int .i64 (Zr (Yc cs (4+k)) 4:Nat),.int .i64 0] 51):=⟨_,rfl⟩;have hb6:Below wr.heap.size wr w6:=(by rw[hw6];exact(Below.refl _ _).alloc (Qa _) _);have hr6:w6.heap[wr.heap.size]? =some (.cells #[.bool false,.int .i64 (Zr (Yc cs (4+k)) 4:Nat),.int .i64 0] 51 (0,0)):=(by rw[hw6];exact heap_alloc_new wr _);have HB6:Hid (Below w.heap.size w w6):=HB.out.trans (hb6.mono hsz);have HC6:Hid (w6.heap[cb]? =some (.cells #[vF,.int .i64 (cfB cs:Nat),.int .i64 (cfS cs:Nat),.int .i64 (cfU cs:Nat)] 37 (0,0))):=(hb6.block cb hcl).trans HC.out;have HO6:Hid (ZbX w6 w.heap.size vF cs k):=(Za.of_below (S:=fun _=>False) hb6).row HO.out (fun _ _=>id)
   have hwl:w.heap.size<wr.heap.size:=(Qb HZ.out).1;have HZ6:Hid (w6.heap[w.heap.size]? =some (.cells #[.slice none 0 0,.int .i64 0,.int .i64 0,.int .i64 0] 37 (0,0))):=(hb6.block _ hwl).trans HZ.out;have HOL:Hid (∀q,vF.ownBlock=some q->q<wr.heap.size):=fun q hq=>(World.ownsRow.lt HO.out q hq).2;have HR6:Hid (w6.heap[wr.heap.size]? =some (.cells #[.bool false,.int .i64 (Zr (Yc cs (4+k)) 4:Nat),.int .i64 0] 51 (0,0))):=hr6;go_wp2_with fail
   rw[<- hw6];clear hw6 hb6 HC HO HZ HB;refine(HR.out w6 (8+k) (by omega) HB6.out).mono ?_;rintro e w4 ⟨rfl,h4⟩;obtain rfl:=h4.symm;go_wp2_with fail
   refine(HP.out w6 (8+k) 3 (by omega) (by omega)).mono ?_;rintro e w4 ⟨rfl,h4⟩;obtain rfl:=h4.symm;have f0:=frozen_of_row _ _ 0 _ 51 hr6;have f1:=frozen_of_row _ _ 1 _ 51 hr6;have f2:=frozen_of_row _ _ 2 _ 51 hr6;have g0:=cell_of_row _ _ 0 _ 51 (0,0) hr6;have g1:=cell_of_row _ _ 1 _ 51 (0,0) hr6;have g2:=cell_of_row _ _ 2 _ 51 (0,0) hr6;clear hr6;go_upto_if 42 with fail
   go_cut [5] (fun v wx=>v=.pointer (some ⟨wr.heap.size,0,none⟩)/\Hid (wx.heap[wr.heap.size]? =some (.cells #[.bool (cfW cs k),.int .i64 (cfC cs k),.int .i64 (cfT cs k)] 51 (0,0)))/\Hid (Za (fun q=>q=wr.heap.size) w6 wx))
   case first=>
    have HCW:Hid (cfW cs k=decide (Zr (Yc cs (8+k)) 3=0)):=rfl;have HCC:Hid (cfC cs k=if cfW cs k=true then(0:Int) else((Zr (Yc cs (4+k)) 4:Nat):Int)):=rfl;have HCT:Hid (cfT cs k=if cfW cs k=true then 1+((Zr (Yc cs (4+k)) 9:Nat):Int) else(0:Int)):=rfl
    by_cases hp:Zr (Yc cs (8+k)) 3=0
    ·have q5:(((Zr (Yc cs (8+k)) 3:Nat):Int)==0)=true:=(by rw[hp];rfl);have HV:Hid (cfW cs k=true/\cfC cs k=0/\cfT cs k=1+(Zr (Yc cs (4+k)) 9:Nat)):=(by have hw:cfW cs k=true:=(by rw[HCW.out];exact decide_eq_true hp);exact⟨hw,by rw[HCC.out,if_pos hw],by rw[HCT.out,if_pos hw]⟩);have h9:=Z2 (Yc cs (4+k)) (show 0<9 by omega);obtain⟨p9,hp9⟩:∃p9,p9=Zr (Yc cs (4+k)) 9:=⟨_,rfl⟩;have HP9:Hid (p9=Zr (Yc cs (4+k)) 9):=hp9;have q6:IntKind.i64.wrap (1+(p9:Int))=1+(p9:Int):=Zz (by omega) (by omega);clear hp hp9 h9;generalize Zr (Yc cs (8+k)) 3=p3 at *;go_wp2_with fail
     refine(HR.out w6 (4+k) (by omega) HB6.out).mono ?_;rintro e w4 ⟨rfl,h4⟩;obtain rfl:=h4.symm;go_wp2_with fail
     refine(HP.out w6 (4+k) 9 (by omega) (by omega)).mono ?_;rintro e w4 ⟨rfl,h4⟩;obtain rfl:=h4.symm;rw[<- HP9.out];go_wp2;go_meet
     refine⟨rfl,?_,?_⟩;show _=_;rw[HV.out.1,HV.out.2.1,HV.out.2.2,<- HP9.out];exact heap_setCell_same _ _ 2 _ 51 _ (heap_setCell_same _ _ 1 _ 51 _ (heap_setCell_same _ _ 0 _ 51 _ HR6.out));exact(((Za.refl (fun q=>q=wr.heap.size) w6).setCell (p:=⟨wr.heap.size,0,none⟩) (fun _=>rfl) _).setCell (p:=⟨wr.heap.size,1,none⟩) (fun _=>rfl) _).setCell (p:=⟨wr.heap.size,2,none⟩) (fun _=>rfl) _
    have q5:(((Zr (Yc cs (8+k)) 3:Nat):Int)==0)=false:=(by rw[beq_eq_false_iff_ne];omega);have HV:Hid (cfW cs k=false/\cfC cs k=(Zr (Yc cs (4+k)) 4:Nat)/\cfT cs k=0):=(by have hw:cfW cs k=false:=(by rw[HCW.out];exact decide_eq_false hp);have hw2:¬cfW cs k=true:=(by rw[hw];decide);exact⟨hw,by rw[HCC.out,if_neg hw2],by rw[HCT.out,if_neg hw2]⟩);go_wp2;go_meet
    refine⟨rfl,?_,Za.refl _ _⟩;show _=_;rw[HV.out.1,HV.out.2.1,HV.out.2.2];exact HR6.out
   case rest=>
    obtain⟨rfl,HRW,HTT⟩:=hcut;clear f0 f1 f2 g0 g1 g2 HR6;obtain⟨av,cv,rfl⟩:=HO6.out.shape;have hne1:cb≠wr.heap.size:=(by omega);have HCc:Hid (wc.heap[cb]? =some (.cells #[.slice av k cv,.int .i64 (cfB cs:Nat),.int .i64 (cfS cs:Nat),.int .i64 (cfU cs:Nat)] 37 (0,0))):=HTT.out.at_ HC6.out hne1;have HZc:Hid (wc.heap[w.heap.size]? =some (.cells #[.slice none 0 0,.int .i64 0,.int .i64 0,.int .i64 0] 37 (0,0))):=HTT.out.at_ HZ6.out (by omega)
    have HOc:Hid (ZbX wc w.heap.size (.slice av k cv) cs k):=HTT.out.row HO6.out (fun q hq e=>by
     have h1:=HOL.out q hq
     omega)
    have HBc:Hid (Below w.heap.size w wc):=HB6.out.trans (HTT.out.to_below HB6.out.size (fun q hq=>by rw[hq];exact hsz));have hcs:=HBc.out.size;have hcb:cb<wc.heap.size:=(Qb HCc.out).1;have g0:=cell_of_row _ _ 0 _ 51 (0,0) HRW.out;have g1:=cell_of_row _ _ 1 _ 51 (0,0) HRW.out;have g2:=cell_of_row _ _ 2 _ 51 (0,0) HRW.out;have g3:=cell_of_row _ _ 0 _ 37 (0,0) HCc.out;have HFS:Hid (ZcR cs (k+1)=ZcR cs k++[.bool (cfW cs k),.int .i64 (cfC cs k),.int .i64 (cfT cs k)]):=rfl;clear HTT HC6 HZ6 HO6 HB6 HRW;generalize cfW cs k=xW at *;generalize cfC cs k=xC at *;generalize cfT cs k=xT at *;have HROW:Hid (wc.ownsRow w.heap.size 51 3 (.slice av k cv) k (ZcR cs k)):=HOc.out
    go_wp2_with (at_builtin;refine Zf rfl (.tmp 51) (.tmp 53) 35 rfl w.heap.size 51 i0 (.agg #[.bool false,.int .i64 0,.int .i64 0]) 3 24 Tryz.underlying35 hinf hz0 hz1 hz2 rfl (by decide) (.slice av k cv) k (ZcR cs k) rfl (World.ownsRow.alloc HROW.out _) ⟨wc.heap.size,0,none⟩ 1 1 [.bool xW,.int .i64 xC,.int .i64 xT] rfl rfl ?_ ?_ ?_ ?_ ?_ ?_ ?_)
    exact Zu wc #[.bool xW,.int .i64 xC,.int .i64 xT] 51
    ·intro u hu;simp at hu;rcases hu with rfl|rfl|rfl<;>rfl
    decide;unfold maxLen;omega;omega;simp;omega;intro v4 w4 H4;obtain⟨r4,g4,d4,_,_⟩:=H4.out;have h2S:ZbX w4 w.heap.size v4 cs (k+1):=by unfold ZbX;rw[HFS.out];exact r4
    obtain⟨a4,c4,rfl⟩:=h2S.shape;obtain⟨w8,hw8⟩:∃w8,w8=wc.alloc (.cells #[.bool xW,.int .i64 xC,.int .i64 xT] 51):=⟨_,rfl⟩;rw[<- hw8] at g4 d4;have hb8:Below wc.heap.size wc w8:=(by rw[hw8];exact(Below.refl _ _).alloc (Qa _) _);have h8b:=hb8.size;have T:Za (fun q=>(Value.slice av k cv).ownBlock=some q) w8 w4:=(Za.refl _ w8).grown g4 (fun k hk _=>hk);have hR8:w8.ownsRow w.heap.size 51 3 (.slice av k cv) k (ZcR cs k):=(Za.of_below (S:=fun _=>False) hb8).row HROW.out (fun _ _=>id);have hE8:=(hb8.block cb hcb).trans HCc.out;have hZ8:=(hb8.block w.heap.size (by omega)).trans HZc.out;have hE4:w4.heap[cb]? =some (.cells #[.slice av k cv,.int .i64 (cfB cs:Nat),.int .i64 (cfS cs:Nat),.int .i64 (cfU cs:Nat)] 37 (0,0)):=T.at_ hE8 (fun e=>Zq hR8 e hE8 (by decide) rfl)
    have hZ4:w4.heap[w.heap.size]? =some (.cells #[.slice none 0 0,.int .i64 0,.int .i64 0,.int .i64 0] 37 (0,0)):=T.at_ hZ8 (fun e=>Zq hR8 e hZ8 (by decide) rfl);have f4:w4.cell? ⟨cb,0,none⟩=some (.slice av k cv):=cell_of_row _ _ 0 _ 37 (0,0) hE4;have z4:w4.frozen? ⟨cb,0,none⟩=false:=frozen_of_row _ _ 0 _ 37 hE4;have HE5:Hid ((w4.setCell ⟨cb,0,none⟩ (.slice a4 (k+1) c4)).heap[cb]? =some (.cells #[.slice a4 (k+1) c4,.int .i64 (cfB cs:Nat),.int .i64 (cfS cs:Nat),.int .i64 (cfU cs:Nat)] 37 (0,0))):=heap_setCell_same _ cb 0 _ 37 _ hE4;have HO5:Hid (ZbX (w4.setCell ⟨cb,0,none⟩ (.slice a4 (k+1) c4)) w.heap.size (.slice a4 (k+1) c4) cs (k+1)):=Zp h2S hE4 (by decide)
    have HZ5:Hid ((w4.setCell ⟨cb,0,none⟩ (.slice a4 (k+1) c4)).heap[w.heap.size]? =some (.cells #[.slice none 0 0,.int .i64 0,.int .i64 0,.int .i64 0] 37 (0,0))):=(by have t1:Za (fun q=>q=cb) w4 (w4.setCell ⟨cb,0,none⟩ (.slice a4 (k+1) c4)):=(Za.refl (fun q=>q=cb) w4).setCell (p:=⟨cb,0,none⟩) (fun _=>rfl) _;exact t1.at_ hZ4 (by omega));have HB5:Hid (Below w.heap.size w (w4.setCell ⟨cb,0,none⟩ (.slice a4 (k+1) c4))):=by have h1:Below w.heap.size w w8:=HBc.out.trans (hb8.mono hcs);exact(h1.grown g4 h1.size (fun q hq=>(World.ownsRow.lt hR8 q hq).1)).setCell (show w.heap.size<=cb by omega) _
    clear H4 r4 g4 d4 hw8 hb8 h8b T hR8 hE8 hZ8 hE4 hZ4 h2S HCc HZc HOc HBc HROW g0 g1 g2 g3;go_wp2;go_roundw;case rel=>exact⟨k+1,_,by go_num,by omega,HE5.out,HO5.out,HZ5.out,HB5.out⟩
    case measure=>simp[intOf];omega
  have hkm2:k=m+1:=(by omega);subst hkm2;have bk:¬((m+1:Nat):Int)<=(m:Int):=(by omega);have bk2:¬(m:Int)+1<=(m:Int):=(by omega);obtain⟨fk,fc,rfl,hfk,hft⟩:=HO.out.feats (by omega) (by omega);have hE:=HC.out;have e0:=cell_of_row _ _ 0 _ 37 (0,0) hE;have e1:=cell_of_row _ _ 1 _ 37 (0,0) hE;have e2:=cell_of_row _ _ 2 _ 37 (0,0) hE;have e3:=cell_of_row _ _ 3 _ 37 (0,0) hE;have hr0:=HZ.out;have r0:=cell_of_row _ _ 0 _ 37 (0,0) hr0;have r1:=cell_of_row _ _ 1 _ 37 (0,0) hr0;have r2:=cell_of_row _ _ 2 _ 37 (0,0) hr0;have r3:=cell_of_row _ _ 3 _ 37 (0,0) hr0;have z0:=frozen_of_row _ _ 0 _ 37 hr0;have z1:=frozen_of_row _ _ 1 _ 37 hr0;have z2:=frozen_of_row _ _ 2 _ 37 hr0;have z3:=frozen_of_row _ _ 3 _ 37 hr0;have HFT:Hid (ZbX wr w.heap.size (.slice (some ⟨fk,0,none⟩) (m+1) fc) cs (m+1)):=HO.out
  clear hE hr0 hft HO;go_wp2;refine bodyPost_ret (v:=.agg #[.slice (some ⟨fk,0,none⟩) (m+1) fc,.int .i64 (cfB cs:Nat),.int .i64 (cfS cs:Nat),.int .i64 (cfU cs:Nat)]) (by simp[results,Tryz.results23,go_sem, *]) rfl ?_;rw[<- HMM.out];have h1:=Zp HFT.out HZ.out (j:=0) (u:=.slice (some ⟨fk,0,none⟩) (m+1) fc) (by decide);have h2:=Zp h1 (by exact heap_setCell_same _ _ 0 _ 37 _ HZ.out) (j:=1) (u:=.int .i64 (cfB cs:Nat)) (by decide);have h3:=Zp h2 (by exact heap_setCell_same _ _ 1 _ 37 _ (heap_setCell_same _ _ 0 _ 37 _ HZ.out)) (j:=2) (u:=.int .i64 (cfS cs:Nat)) (by decide);have h4:=Zp h3 (by exact heap_setCell_same _ _ 2 _ 37 _ (heap_setCell_same _ _ 1 _ 37 _ (heap_setCell_same _ _ 0 _ 37 _ HZ.out))) (j:=3) (u:=.int .i64 (cfU cs:Nat)) (by decide)
  obtain⟨fk',fc',e,_,hf⟩:=ZbX.feats (show ZbX _ _ _ cs (m+1) from h4) (by omega) (by omega);simp only[Value.slice.injEq,Option.some.injEq,Addr.mk.injEq,and_true,true_and] at e;obtain⟨rfl,rfl⟩:=e;exact⟨fk,fc,rfl,hfk,hf,(((HB.out.setCell (Qa _) _).setCell (Qa _) _).setCell (Qa _) _).setCell (Qa _) _⟩
def ten:ByteArray:=⟨#[48,49,50,51,52,53,54,55,56,57]⟩
def ZhM(n:Nat):ByteArray:=ten.extract n (n+1)
def Zjf(n:Nat):ByteArray:=if n<10 then ZhM n else ZhM (n/10)++ZhM (n%10)
def QI(z:Int):ByteArray:=if z<0 then⟨#[45]⟩++Zjf (-z).toNat else Zjf z.toNat
theorem Zqx:ten.size=10:=rfl
theorem Zac{n:Nat}(h:n<10):(ZhM n).size=1:=by unfold ZhM;rw[ByteArray.size_extract,Zqx];omega
theorem Zgz(n:Nat)(hn:n<10)(w:World):Calls Tryz.prog 48 #[.int .i64 (n:Nat)] w fun e w'=>e=.returned (.string (ZhM n))/\Below w.heap.size w w':=by have b0:¬(n:Int)<0:=(by omega);have b1:(n:Int)<10:=(by omega);have b2:(0:Int)<=(n:Int):=(by omega);have b3:(n:Int)<=(n:Int)+1:=(by omega);have b4:(n:Int)+1<=10:=(by omega);have q:IntKind.i64.wrap ((n:Int)+1)=((n+1:Nat):Int):=(by rw[Zz (by omega) (by omega)];omega);go_enter Tryz.func48,Tryz.ntmps48;go_wp2;go_ret;exact⟨rfl,Below.refl _ _⟩
theorem ZgA(n:Nat)(hn:n<100)(w:World):Calls Tryz.prog 48 #[.int .i64 (n:Nat)] w fun e w'=>e=.returned (.string (Zjf n))/\Below w.heap.size w w':=by
 unfold Zjf
 by_cases h10:n<10
 rw[if_pos h10];exact Zgz n h10 w;rw[if_neg h10];obtain⟨a,ha⟩:∃a,a=n/10:=⟨_,rfl⟩;obtain⟨b,hb⟩:∃b,b=n%10:=⟨_,rfl⟩;rw[<- ha,<- hb];have b0:¬(n:Int)<0:=(by omega);have b1:¬(n:Int)<10:=by omega
 have q1:(n:Int).tdiv 10=(a:Int):=(by rw[Int.tdiv_eq_ediv_of_nonneg (by omega)];omega);have q2:(n:Int).tmod 10=(b:Int):=by rw[Int.tmod_eq_emod_of_nonneg (by omega)];omega
 have q4:IntKind.i64.wrap (a:Int)=(a:Int):=Zz (by omega) (by omega);have q5:IntKind.i64.wrap ((n:Int).tdiv 10)=(a:Int):=(by rw[q1];exact q4);have q3:IntKind.i64.wrap ((b:Int)+1)=((b+1:Nat):Int):=(by rw[Zz (by omega) (by omega)];omega);have c2:(0:Int)<=(b:Int):=(by omega);have c3:(b:Int)<=(b:Int)+1:=(by omega);have c4:(b:Int)+1<=10:=(by omega);have HD:Hid (∀W:World,Calls Tryz.prog 48 #[.int .i64 (a:Nat)] W fun e w'=>e=.returned (.string (ZhM a))/\Below W.heap.size W w'):=fun W=>Zgz a (by omega) W;have HS:Hid ((ZhM a).size=1/\(ten.extract b (b+1)).size=1):=⟨Zac (by omega),Zac (n:=b) (by omega)⟩;obtain⟨s1,s2⟩:=HS.out;have HT:Hid (ZhM b=ten.extract b (b+1)):=rfl;unfold ten at s2 HT;generalize ZhM a=A at *;clear ha hb h10
 go_enter Tryz.func48,Tryz.ntmps48;go_wp2_with fail
 go_region_held3 (fun _=>True) (trivial) (first|(go_at_call 48;refine(HD.out _).mono ?_;rintro e w1 ⟨rfl,hb1⟩))
 have HB:Hid (Below w.heap.size w w1):=(Below.refl _ _).drew.trans (hb1.mono (by simp));clear hb1;go_wp2;go_ret;exact⟨by rw[HT.out];rfl,HB.out⟩
theorem Zgy(z:Int)(h1: -99<=z)(h2:z<=99)(w:World):Calls Tryz.prog 48 #[.int .i64 z] w fun e w'=>e=.returned (.string (QI z))/\Below w.heap.size w w':=by
 unfold QI
 by_cases h0:z<0
 ·rw[if_pos h0];have HD:=ZgA (-z).toNat (by omega) w;rw[show(((-z).toNat:Nat):Int)= -z by omega] at HD;have q1:IntKind.i64.wrap (-z)= -z:=Zz (by omega) (by omega);have hs:(Zjf (-z).toNat).size<=2:=(by unfold Zjf;split;rw[Zac (by omega)];omega;rw[ByteArray.size_append,Zac (by omega),Zac (by omega)];omega);generalize Zjf (-z).toNat=A at *;go_enter Tryz.func48,Tryz.ntmps48;go_wp2_with fail
  refine HD.mono ?_;rintro e w1 ⟨rfl,hb1⟩;have HB:Hid (Below w.heap.size w w1):=hb1;clear hb1;go_wp2;go_ret;exact⟨rfl,HB.out⟩
 rw[if_neg h0];have HD:=ZgA z.toNat (by omega) w
 rwa [show((z.toNat:Nat):Int)=z by omega] at HD
def Zlf(p:Nat):ByteArray:=[(⟨#[97]⟩:ByteArray),⟨#[98]⟩,⟨#[34,97,32,98,34]⟩,⟨#[34,34]⟩,⟨#[122,122]⟩,⟨#[34,120,34,34,121,34]⟩].getD p ⟨#[]⟩
def ZqB(p:Nat):ByteArray:=[(⟨#[97]⟩:ByteArray),⟨#[98]⟩,⟨#[97,32,98]⟩,⟨#[]⟩,⟨#[122,122]⟩,⟨#[120,34,121]⟩].getD p ⟨#[]⟩
def kN(n:Int):Int:=((Zr n 61:Nat):Int)-30
def Zfv(sc n:Int):Bool:=decide (0<sc/\Zr n 4=0/\0<=kN n)
def fdT(wd:Bool)(sc n:Int):ByteArray:=if wd=true then Zlf (Zr n 6) else if Zfv sc n=true then QI (kN n)++⟨#[46,53]⟩ else QI (kN n)
def fdV(wd:Bool)(sc n:Int):Int:=if wd=true then 0 else if Zfv sc n=true then kN n*ZH sc.toNat+ZH sc.toNat/2 else kN n*ZH sc.toNat
def fdS(wd:Bool)(n:Int):ByteArray:=if wd=true then ZqB (Zr n 6) else⟨#[]⟩
theorem Zda{z:Int}(h1: -99<=z)(h2:z<=99):(QI z).size<=3:=by
 have hp:∀n,n<100->(Zjf n).size<=2:=fun n hn=>by unfold Zjf;split;rw[Zac (by omega)];omega;rw[ByteArray.size_append,Zac (by omega),Zac (by omega)];omega
 unfold QI;split;rw[ByteArray.size_append];have:=hp (-z).toNat (by omega);have e:(⟨#[45]⟩:ByteArray).size=1:=rfl;omega;have:=hp z.toNat (by omega);omega
theorem ZlR(sc ct n:Int)(hn:(Lit.int .i64 n).wf=true)(w:World):Calls Tryz.prog 49 #[.agg #[.bool true,.int .i64 sc,.int .i64 ct],.int .i64 n] w fun e w'=>e=.returned (.tuple #[.string (Zlf (Zr n 6)),.int .i64 0,.string (ZqB (Zr n 6))])/\Below w.heap.size w w':=by
 have HP:Hid (∀W:World,Calls Tryz.prog 17 #[.int .i64 n,.int .i64 6] W fun e w'=>e=.returned (.int .i64 (Zr n 6:Nat))/\w'=W):=fun W=>ZR n 6 W hn (by omega) (by omega);have hp:=Z2 n (show 0<6 by omega);generalize Zr n 6=p at *;clear hn;go_enter Tryz.func49,Tryz.ntmps49;go_wp2_with fail
 refine(HP.out _).mono ?_;rintro e w1 ⟨rfl,h1⟩;obtain rfl:=h1.symm
 rcases(show p=0∨p=1∨p=2∨p=3∨p=4∨p=5 by omega) with rfl|rfl|rfl|rfl|rfl|rfl
 ·go_wp2_with fail
  refine(HP.out _).mono ?_;rintro e w2 ⟨rfl,h2⟩;obtain rfl:=h2.symm;go_wp2;refine bodyPost_ret (v:=.tuple #[.string ⟨#[97]⟩,.int .i64 0,.string ⟨#[97]⟩]) (by simp[results,Tryz.results49,go_sem]) rfl ?_;exact⟨rfl,(((Below.refl _ _).alloc (Qa _) _).alloc (by simp) _).alloc (by simp;omega) _⟩
 ·go_wp2_with fail
  refine(HP.out _).mono ?_;rintro e w2 ⟨rfl,h2⟩;obtain rfl:=h2.symm;go_wp2;refine bodyPost_ret (v:=.tuple #[.string ⟨#[98]⟩,.int .i64 0,.string ⟨#[98]⟩]) (by simp[results,Tryz.results49,go_sem]) rfl ?_;exact⟨rfl,(((Below.refl _ _).alloc (Qa _) _).alloc (by simp) _).alloc (by simp;omega) _⟩
 ·go_wp2_with fail
  refine(HP.out _).mono ?_;rintro e w2 ⟨rfl,h2⟩;obtain rfl:=h2.symm;go_wp2;refine bodyPost_ret (v:=.tuple #[.string ⟨#[34,97,32,98,34]⟩,.int .i64 0,.string ⟨#[97,32,98]⟩]) (by simp[results,Tryz.results49,go_sem]) rfl ?_;exact⟨rfl,(((Below.refl _ _).alloc (Qa _) _).alloc (by simp) _).alloc (by simp;omega) _⟩
 ·go_wp2_with fail
  refine(HP.out _).mono ?_;rintro e w2 ⟨rfl,h2⟩;obtain rfl:=h2.symm;go_wp2;refine bodyPost_ret (v:=.tuple #[.string ⟨#[34,34]⟩,.int .i64 0,.string ⟨#[]⟩]) (by simp[results,Tryz.results49,go_sem]) rfl ?_;exact⟨rfl,(((Below.refl _ _).alloc (Qa _) _).alloc (by simp) _).alloc (by simp;omega) _⟩
 ·go_wp2_with fail
  refine(HP.out _).mono ?_;rintro e w2 ⟨rfl,h2⟩;obtain rfl:=h2.symm;go_wp2;refine bodyPost_ret (v:=.tuple #[.string ⟨#[122,122]⟩,.int .i64 0,.string ⟨#[122,122]⟩]) (by simp[results,Tryz.results49,go_sem]) rfl ?_;exact⟨rfl,(((Below.refl _ _).alloc (Qa _) _).alloc (by simp) _).alloc (by simp;omega) _⟩
 go_wp2_with fail
 refine(HP.out _).mono ?_;rintro e w2 ⟨rfl,h2⟩;obtain rfl:=h2.symm;go_wp2;refine bodyPost_ret (v:=.tuple #[.string ⟨#[34,120,34,34,121,34]⟩,.int .i64 0,.string ⟨#[120,34,121]⟩]) (by simp[results,Tryz.results49,go_sem]) rfl ?_;exact⟨rfl,(((Below.refl _ _).alloc (Qa _) _).alloc (by simp) _).alloc (by simp;omega) _⟩
theorem Zn5(sc ct n:Int)(hn:(Lit.int .i64 n).wf=true)(h0:0<=sc)(h3:sc<=3)(w:World):Calls Tryz.prog 49 #[.agg #[.bool false,.int .i64 sc,.int .i64 ct],.int .i64 n] w fun e w'=>e=.returned (.tuple #[.string (fdT false sc n),.int .i64 (fdV false sc n),.string ⟨#[]⟩])/\Below w.heap.size w w':=by
 have HP61:Hid (∀W:World,Calls Tryz.prog 17 #[.int .i64 n,.int .i64 61] W fun e w'=>e=.returned (.int .i64 (Zr n 61:Nat))/\w'=W):=fun W=>ZR n 61 W hn (by omega) (by omega);have HP4:Hid (∀W:World,Calls Tryz.prog 17 #[.int .i64 n,.int .i64 4] W fun e w'=>e=.returned (.int .i64 (Zr n 4:Nat))/\w'=W):=fun W=>ZR n 4 W hn (by omega) (by omega);have hp:=Z2 n (show 0<61 by omega);have hk1: -30<=kN n/\kN n<=30:=(by unfold kN;omega);have qk:IntKind.i64.wrap (((Zr n 61:Nat):Int)-30)=kN n:=(by rw[Zz (by omega) (by omega)];rfl);have HD:Hid (∀W:World,Calls Tryz.prog 48 #[.int .i64 (kN n)] W fun e w'=>e=.returned (.string (QI (kN n)))/\Below W.heap.size W w'):=fun W=>Zgy (kN n) (by omega) (by omega) W;have hds:(QI (kN n)).size<=3:=Zda (by omega) (by omega)
 have HT:Hid (fdT false sc n=if Zfv sc n=true then QI (kN n)++⟨#[46,53]⟩ else QI (kN n)):=rfl;have HV:Hid (fdV false sc n=if Zfv sc n=true then kN n*ZH sc.toNat+ZH sc.toNat/2 else kN n*ZH sc.toNat):=rfl;have HH:Hid (Zfv sc n=decide (0<sc/\Zr n 4=0/\0<=kN n)):=rfl;generalize fdT false sc n=fT at *;generalize fdV false sc n=fV at *;generalize Zfv sc n=hN at *;generalize Zr n 61=p61 at *;generalize Zr n 4=p4 at *;generalize kN n=kk at *;clear hn hp
 rcases(show sc=0∨sc=1∨sc=2∨sc=3 by omega) with rfl|rfl|rfl|rfl
 ·have HF:Hid (hN=false):=(by show _=_;rw[HH.out];exact decide_eq_false (by omega));have q1:IntKind.i64.wrap (kk*1)=kk*1:=Zz (by omega) (by omega);go_enter Tryz.func49,Tryz.ntmps49;go_wp2_with fail
  refine(HP61.out _).mono ?_;rintro e w1 ⟨rfl,h1⟩;obtain rfl:=h1.symm;go_wp2_with fail
  refine(HD.out _).mono ?_;rintro e w3 ⟨rfl,hb3⟩;have HB:Hid (Below w.heap.size w w3):=(((Below.refl _ _).alloc (Qa _) _).alloc (by simp) _).trans (hb3.mono (by simp;omega));clear hb3;go_wp2;refine bodyPost_ret (v:=.tuple #[.string (QI kk),.int .i64 (kk*1),.string ⟨#[]⟩]) (by simp[results,Tryz.results49,go_sem]) rfl ?_;exact⟨by rw[HT.out,HV.out,HF.out];rfl,HB.out⟩
 ·have q1:IntKind.i64.wrap (kk*10)=kk*10:=Zz (by omega) (by omega);go_enter Tryz.func49,Tryz.ntmps49;go_wp2_with fail
  refine(HP61.out _).mono ?_;rintro e w1 ⟨rfl,h1⟩;obtain rfl:=h1.symm;go_wp2_with fail
  refine(HP4.out _).mono ?_;rintro e w2 ⟨rfl,h2⟩;obtain rfl:=h2.symm
  by_cases hc:p4=0/\0<=kk
  ·have HF:Hid (hN=true):=(by show _=_;rw[HH.out];exact decide_eq_true (by omega));have q4:((p4:Int)==0)=true:=(by rw[hc.1];rfl);have q5:0<=kk:=hc.2;have q6:IntKind.i64.wrap (kk*10+5)=kk*10+5:=Zz (by omega) (by omega);clear hc;go_wp2_with fail
   refine(HD.out _).mono ?_;rintro e w3 ⟨rfl,hb3⟩;have HB:Hid (Below w.heap.size w w3):=(((Below.refl _ _).alloc (Qa _) _).alloc (by simp) _).trans (hb3.mono (by simp;omega));clear hb3;go_wp2;refine bodyPost_ret (v:=.tuple #[.string (QI kk++⟨#[46,53]⟩),.int .i64 (kk*10+5),.string ⟨#[]⟩]) (by simp[results,Tryz.results49,go_sem]) rfl ?_;exact⟨by rw[HT.out,HV.out,HF.out];rfl,HB.out⟩
  have HF:Hid (hN=false):=by show _=_;rw[HH.out];exact decide_eq_false (by omega)
  by_cases hp4:p4=0
  ·have q4:((p4:Int)==0)=true:=(by rw[hp4];rfl);have q5:¬0<=kk:=(by omega);clear hc hp4;go_wp2_with fail
   refine(HD.out _).mono ?_;rintro e w3 ⟨rfl,hb3⟩;have HB:Hid (Below w.heap.size w w3):=(((Below.refl _ _).alloc (Qa _) _).alloc (by simp) _).trans (hb3.mono (by simp;omega));clear hb3;go_wp2;refine bodyPost_ret (v:=.tuple #[.string (QI kk),.int .i64 (kk*10),.string ⟨#[]⟩]) (by simp[results,Tryz.results49,go_sem]) rfl ?_;exact⟨by rw[HT.out,HV.out,HF.out];rfl,HB.out⟩
  have q4:((p4:Int)==0)=false:=(by rw[beq_eq_false_iff_ne];omega);clear hc;go_wp2_with fail
  refine(HD.out _).mono ?_;rintro e w3 ⟨rfl,hb3⟩;have HB:Hid (Below w.heap.size w w3):=(((Below.refl _ _).alloc (Qa _) _).alloc (by simp) _).trans (hb3.mono (by simp;omega));clear hb3;go_wp2;refine bodyPost_ret (v:=.tuple #[.string (QI kk),.int .i64 (kk*10),.string ⟨#[]⟩]) (by simp[results,Tryz.results49,go_sem]) rfl ?_;exact⟨by rw[HT.out,HV.out,HF.out];rfl,HB.out⟩
 ·have q1:IntKind.i64.wrap (kk*100)=kk*100:=Zz (by omega) (by omega);go_enter Tryz.func49,Tryz.ntmps49;go_wp2_with fail
  refine(HP61.out _).mono ?_;rintro e w1 ⟨rfl,h1⟩;obtain rfl:=h1.symm;go_wp2_with fail
  refine(HP4.out _).mono ?_;rintro e w2 ⟨rfl,h2⟩;obtain rfl:=h2.symm
  by_cases hc:p4=0/\0<=kk
  ·have HF:Hid (hN=true):=(by show _=_;rw[HH.out];exact decide_eq_true (by omega));have q4:((p4:Int)==0)=true:=(by rw[hc.1];rfl);have q5:0<=kk:=hc.2;have q6:IntKind.i64.wrap (kk*100+50)=kk*100+50:=Zz (by omega) (by omega);clear hc;go_wp2_with fail
   refine(HD.out _).mono ?_;rintro e w3 ⟨rfl,hb3⟩;have HB:Hid (Below w.heap.size w w3):=(((Below.refl _ _).alloc (Qa _) _).alloc (by simp) _).trans (hb3.mono (by simp;omega));clear hb3;go_wp2;refine bodyPost_ret (v:=.tuple #[.string (QI kk++⟨#[46,53]⟩),.int .i64 (kk*100+50),.string ⟨#[]⟩]) (by simp[results,Tryz.results49,go_sem]) rfl ?_;exact⟨by rw[HT.out,HV.out,HF.out];rfl,HB.out⟩
  have HF:Hid (hN=false):=by show _=_;rw[HH.out];exact decide_eq_false (by omega)
  by_cases hp4:p4=0
  ·have q4:((p4:Int)==0)=true:=(by rw[hp4];rfl);have q5:¬0<=kk:=(by omega);clear hc hp4;go_wp2_with fail
   refine(HD.out _).mono ?_;rintro e w3 ⟨rfl,hb3⟩;have HB:Hid (Below w.heap.size w w3):=(((Below.refl _ _).alloc (Qa _) _).alloc (by simp) _).trans (hb3.mono (by simp;omega));clear hb3;go_wp2;refine bodyPost_ret (v:=.tuple #[.string (QI kk),.int .i64 (kk*100),.string ⟨#[]⟩]) (by simp[results,Tryz.results49,go_sem]) rfl ?_;exact⟨by rw[HT.out,HV.out,HF.out];rfl,HB.out⟩
  have q4:((p4:Int)==0)=false:=(by rw[beq_eq_false_iff_ne];omega);clear hc;go_wp2_with fail
  refine(HD.out _).mono ?_;rintro e w3 ⟨rfl,hb3⟩;have HB:Hid (Below w.heap.size w w3):=(((Below.refl _ _).alloc (Qa _) _).alloc (by simp) _).trans (hb3.mono (by simp;omega));clear hb3;go_wp2;refine bodyPost_ret (v:=.tuple #[.string (QI kk),.int .i64 (kk*100),.string ⟨#[]⟩]) (by simp[results,Tryz.results49,go_sem]) rfl ?_;exact⟨by rw[HT.out,HV.out,HF.out];rfl,HB.out⟩
 have q1:IntKind.i64.wrap (kk*1000)=kk*1000:=Zz (by omega) (by omega);go_enter Tryz.func49,Tryz.ntmps49;go_wp2_with fail
 refine(HP61.out _).mono ?_;rintro e w1 ⟨rfl,h1⟩;obtain rfl:=h1.symm;go_wp2_with fail
 refine(HP4.out _).mono ?_;rintro e w2 ⟨rfl,h2⟩;obtain rfl:=h2.symm
 by_cases hc:p4=0/\0<=kk
 ·have HF:Hid (hN=true):=(by show _=_;rw[HH.out];exact decide_eq_true (by omega));have q4:((p4:Int)==0)=true:=(by rw[hc.1];rfl);have q5:0<=kk:=hc.2;have q6:IntKind.i64.wrap (kk*1000+500)=kk*1000+500:=Zz (by omega) (by omega);clear hc;go_wp2_with fail
  refine(HD.out _).mono ?_;rintro e w3 ⟨rfl,hb3⟩;have HB:Hid (Below w.heap.size w w3):=(((Below.refl _ _).alloc (Qa _) _).alloc (by simp) _).trans (hb3.mono (by simp;omega));clear hb3;go_wp2;refine bodyPost_ret (v:=.tuple #[.string (QI kk++⟨#[46,53]⟩),.int .i64 (kk*1000+500),.string ⟨#[]⟩]) (by simp[results,Tryz.results49,go_sem]) rfl ?_;exact⟨by rw[HT.out,HV.out,HF.out];rfl,HB.out⟩
 have HF:Hid (hN=false):=by show _=_;rw[HH.out];exact decide_eq_false (by omega)
 by_cases hp4:p4=0
 ·have q4:((p4:Int)==0)=true:=(by rw[hp4];rfl);have q5:¬0<=kk:=(by omega);clear hc hp4;go_wp2_with fail
  refine(HD.out _).mono ?_;rintro e w3 ⟨rfl,hb3⟩;have HB:Hid (Below w.heap.size w w3):=(((Below.refl _ _).alloc (Qa _) _).alloc (by simp) _).trans (hb3.mono (by simp;omega));clear hb3;go_wp2;refine bodyPost_ret (v:=.tuple #[.string (QI kk),.int .i64 (kk*1000),.string ⟨#[]⟩]) (by simp[results,Tryz.results49,go_sem]) rfl ?_;exact⟨by rw[HT.out,HV.out,HF.out];rfl,HB.out⟩
 have q4:((p4:Int)==0)=false:=(by rw[beq_eq_false_iff_ne];omega);clear hc;go_wp2_with fail
 refine(HD.out _).mono ?_;rintro e w3 ⟨rfl,hb3⟩;have HB:Hid (Below w.heap.size w w3):=(((Below.refl _ _).alloc (Qa _) _).alloc (by simp) _).trans (hb3.mono (by simp;omega));clear hb3;go_wp2;refine bodyPost_ret (v:=.tuple #[.string (QI kk),.int .i64 (kk*1000),.string ⟨#[]⟩]) (by simp[results,Tryz.results49,go_sem]) rfl ?_;exact⟨by rw[HT.out,HV.out,HF.out];rfl,HB.out⟩
theorem Zn4(wd:Bool)(sc ct n:Int)(hn:(Lit.int .i64 n).wf=true)(hsc:wd=false->0<=sc/\sc<=3)(w:World):Calls Tryz.prog 49 #[.agg #[.bool wd,.int .i64 sc,.int .i64 ct],.int .i64 n] w fun e w'=>e=.returned (.tuple #[.string (fdT wd sc n),.int .i64 (fdV wd sc n),.string (fdS wd n)])/\Below w.heap.size w w':=by
 cases wd
 exact Zn5 sc ct n hn (hsc rfl).1 (hsc rfl).2 w;exact ZlR sc ct n hn w
theorem Zj1(x y r:Nat)(W:World):Calls Tryz.prog 373 #[.agg #[.int .i64 (x:Nat),.int .i64 (y:Nat)],.int .i64 (r:Nat)] W fun e w'=>e=.returned (.int .i64 (Lib.compareInt (x:Nat) (r:Nat)))/\Below W.heap.size W w':=by
 have H1:Hid (∀w:World,Calls Tryz.prog 151 #[.int .i64 (x:Nat),.int .i64 (r:Nat)] w fun e w'=>e=.returned (.int .i64 (Lib.compareInt (x:Nat) (r:Nat)))/\w'=w):=fun w=>Tryz.cmp_Compare_int _ _ w;generalize Lib.compareInt (x:Nat) (r:Nat)=c1 at *;go_enter Tryz.func373,Tryz.ntmps373;go_wp2_with fail
 refine(H1.out _).mono ?_;rintro e w3 ⟨rfl,hw3⟩;obtain rfl:=hw3.symm;go_wp2;go_ret;exact⟨rfl,(Below.refl _ _).alloc (Qa _) _⟩
theorem Zm9(x r:Nat):Lib.compareInt (x:Nat) (r:Nat)<0↔x<r:=by unfold Lib.compareInt;split<;>(try split)<;>omega
theorem Zm8(x r:Nat):Lib.compareInt (x:Nat) (r:Nat)=0↔x=r:=by unfold Lib.compareInt;split<;>(try split)<;>omega
structure ZmS(L:List (Nat×Nat))(r i:Nat):Prop where
 le:i<=L.length
 lo:∀k,k<i->(L.getD k (0,0)).1<r
 hi:∀k,i<=k->k<L.length->r<=(L.getD k (0,0)).1
def Zbi(L:List (Nat×Nat))(r i:Nat):Bool:=decide (i<L.length/\(L.getD i (0,0)).1=r)
def Zsk(W:World)(L:List (Nat×Nat))(r:Nat)(e:Ending)(w':World):Prop:=∃i,e=.returned (.tuple #[.int .i64 (i:Nat),.bool (Zbi L r i)])/\ZmS L r i/\Below W.heap.size W w'
theorem Zoa(a:Option Addr)(c r:Nat)(L:List (Nat×Nat))(w:World)(h:Zdw w 0 (.slice a L.length c) L)(hs:L.Pairwise (fun x y=>x.1<y.1))(hl:L.length<=1000000):Calls Tryz.prog 372 #[.slice a L.length c,.int .i64 (r:Nat),.func (.func 373) #[] #[]] w fun e w'=>Zsk w L r e w':=by
 have H0:Hid (Zdw w 0 (.slice a L.length c) L):=h
 have HS:Hid (∀i j,i<j->j<L.length->(L.getD i (0,0)).1<(L.getD j (0,0)).1):=fun i j hij hj=>by
  have:=List.pairwise_iff_getElem.1 hs i j (by omega) hj hij
  simpa [Qc,Qd hj,Qd (show i<L.length by omega)] using this
 have HC:Hid (∀(x y:Nat) (W:World),Calls Tryz.prog 373 #[.agg #[.int .i64 (x:Nat),.int .i64 (y:Nat)],.int .i64 (r:Nat)] W fun e w'=>e=.returned (.int .i64 (Lib.compareInt (x:Nat) (r:Nat)))/\Below W.heap.size W w'):=fun x y W=>Zj1 x y r W;clear h hs;generalize hnl:L.length=n at *;have HN:Hid (L.length=n):=hnl;clear hnl;go_enter Tryz.func372,Tryz.ntmps372;go_wp2_with fail
 go_loopw [9,10] (fun ti tj wr=>∃(i j:Nat),ti=.int .i64 i/\tj=.int .i64 j/\i<=j/\j<=n/\Hid ((∀k,k<i->(L.getD k (0,0)).1<r)/\(∀k,j<=k->k<n->r<=(L.getD k (0,0)).1)/\Below w.heap.size w wr)) (fun ti tj _=>(intOf tj).toNat-(intOf ti).toNat)
 case atStart=>exact⟨0,n,rfl,rfl,Qg _,Qa _,fun k hk=>by omega,fun k h1 h2=>by omega,Below.refl _ _⟩
 case round=>
  obtain⟨i,j,rfl,rfl,hij,hjn,HR⟩:=hrel
  by_cases hlt:i<j
  ·have b1:(i:Int)<(j:Int):=(by omega);have hm:(i+j)/2<n:=(by omega);obtain⟨q,hq,hql,y0,y1⟩:=(show Zdw w 0 (.slice a L.length c) L by rw[HN.out];exact H0.out).atK (k:=(i+j)/2) (by rw[HN.out];exact hm);have e0:=(HR.out.2.2.cell (p:=⟨q,(i+j)/2*2,none⟩) hql).trans y0;have e1:=(HR.out.2.2.cell (p:=⟨q,(i+j)/2*2+1,none⟩) hql).trans y1;clear y0 y1;subst hq;generalize hmm:(i+j)/2=m at *;have hmi:((i:Int)+(j:Int))/2=(m:Int):=(by omega);have bm1:(0:Int)<=(m:Int):=(by omega);have bm2:(m:Int)<(n:Int):=(by omega);have HM:Hid ((i+j)/2=m):=hmm;clear hmm
   have HX:Hid ((∀k,k<=m->(L.getD k (0,0)).1<=(L.getD m (0,0)).1)/\(∀k,m<=k->k<n->(L.getD m (0,0)).1<=(L.getD k (0,0)).1)):=⟨fun k hk=>by
    rcases Nat.lt_or_ge k m with h1|h1
    exact Nat.le_of_lt (HS.out k m h1 hm)
    ·rw[show k=m by omega];exact Qa _,fun k hk hkn=>by
    rcases Nat.lt_or_ge m k with h1|h1
    exact Nat.le_of_lt (HS.out m k h1 hkn)
    rw[show k=m by omega];exact Qa _⟩
   generalize (L.getD m (0,0)).1=xr at *;generalize (L.getD m (0,0)).2=xn at *;go_wp2_with fail
   refine(HC.out _ _ _).mono ?_;rintro e w3 ⟨rfl,hb3⟩;have HB3:Hid (Below w.heap.size w w3):=HR.out.2.2.trans (hb3.mono HR.out.2.2.size);clear hb3 e0 e1
   by_cases hx:xr<r
   ·have hc:=(Zm9 xr r).2 hx;generalize Lib.compareInt (xr:Nat) (r:Nat)=c1 at *;go_wp2;go_roundw;case rel=>exact⟨m+1,j,by go_num,rfl,by omega,hjn,fun k hk=>by have:=HX.out.1 k (by omega);omega,HR.out.2.1,HB3.out⟩
    case measure=>simp[intOf];omega
   have hc:¬Lib.compareInt (xr:Nat) (r:Nat)<0:=fun h=>hx ((Zm9 xr r).1 h);generalize Lib.compareInt (xr:Nat) (r:Nat)=c1 at *;go_wp2;go_roundw;case rel=>exact⟨i,m,rfl,rfl,by omega,by omega,HR.out.1,fun k h1 h2=>by have:=HX.out.2 k h1 h2;omega,HB3.out⟩
   case measure=>simp[intOf];omega
  have hni:¬(i:Int)<(j:Int):=(by omega);have hie:i=j:=(by omega);subst hie
  by_cases hin:i<n
  ·have b2:(i:Int)<(n:Int):=(by omega);have b3:(0:Int)<=(i:Int):=(by omega);obtain⟨q,hq,hql,y0,y1⟩:=(show Zdw w 0 (.slice a L.length c) L by rw[HN.out];exact H0.out).atK (k:=i) (by rw[HN.out];exact hin);have e0:=(HR.out.2.2.cell (p:=⟨q,i*2,none⟩) hql).trans y0;have e1:=(HR.out.2.2.cell (p:=⟨q,i*2+1,none⟩) hql).trans y1;clear y0 y1;subst hq;have HFO:Hid (Zbi L r i=decide ((L.getD i (0,0)).1=r)):=(by show _=_;unfold Zbi;rw[HN.out];simp[hin]);generalize (L.getD i (0,0)).1=xr at *;generalize (L.getD i (0,0)).2=xn at *;go_wp2_with fail
   refine(HC.out _ _ _).mono ?_;rintro e w3 ⟨rfl,hb3⟩;have HB3:Hid (Below w.heap.size w w3):=HR.out.2.2.trans (hb3.mono HR.out.2.2.size);clear hb3 e0 e1
   by_cases hx:xr=r
   ·have hc:=(Zm8 xr r).2 hx;rw[hc];go_wp2;go_ret2
    exact⟨i,by rw[HFO.out];simp[hx],⟨by rw[HN.out];exact hjn,HR.out.1,by rw[HN.out];exact HR.out.2.1⟩,HB3.out⟩
   have hc:¬Lib.compareInt (xr:Nat) (r:Nat)=0:=fun h=>hx ((Zm8 xr r).1 h);generalize Lib.compareInt (xr:Nat) (r:Nat)=c1 at *;go_wp2;go_ret2
   exact⟨i,by rw[HFO.out];simp[hx,hc],⟨by rw[HN.out];exact hjn,HR.out.1,by rw[HN.out];exact HR.out.2.1⟩,HB3.out⟩
  have b2:¬(i:Int)<(n:Int):=(by omega);have HFO:Hid (Zbi L r i=false):=(by show _=_;unfold Zbi;rw[HN.out];simp[hin]);go_wp2;go_ret2
  exact⟨i,by rw[HFO.out];rfl,⟨by rw[HN.out];exact hjn,HR.out.1,by rw[HN.out];exact HR.out.2.1⟩,HR.out.2.2⟩
theorem Zco(N:List Nat):∀(k:Nat) (x:Nat×Nat),x∈Yl N k↔x.1<k/\x.2=N.getD x.1 0/\x.2≠0
 |0,x=>by simp[Yl]
 | k +1,x=>by
  obtain⟨x1,x2⟩:=x;rw[Yl,List.mem_append,Zco N k]
  by_cases h0:N.getD k 0=0
  ·rw[if_pos h0];simp only[List.not_mem_nil,or_false];constructor;rintro⟨h1,h2,h3⟩;exact⟨by omega,h2,h3⟩;rintro⟨h1,h2,h3⟩;refine⟨?_,h2,h3⟩
   rcases Nat.lt_or_ge x1 k with h4|h4
   exact h4;have e:x1=k:=(by omega);subst e;exact absurd (h2.trans h0) h3
  rw[if_neg h0];simp only[List.mem_singleton,Prod.mk.injEq];constructor;rintro(⟨h1,h2,h3⟩|⟨h1,h2⟩);exact⟨by omega,h2,h3⟩;subst h1;exact⟨by omega,h2,by rw[h2];exact h0⟩;rintro⟨h1,h2,h3⟩
  rcases Nat.lt_or_ge x1 k with h4|h4
  exact .inl ⟨h4,h2,h3⟩;have e:x1=k:=(by omega);subst e;exact .inr ⟨rfl,h2⟩
theorem ZeM(N:List Nat):∀k,(Yl N k).Pairwise (fun x y=>x.1<y.1)
 |0=>by simp[Yl]
 |k+1=>by rw[Yl,List.pairwise_append];refine⟨ZeM N k,by split<;>simp,fun x hx y hy=>?_⟩;have h1:=((Zco N k x).1 hx).1;split at hy;simp at hy;rw[List.mem_singleton] at hy;subst hy;exact h1
theorem ZpR{N:List Nat}{k r i:Nat}(hr:r<k)(h:ZmS (Yl N k) r i):(if Zbi (Yl N k) r i=true then((Yl N k).getD i (0,0)).2 else 0)=N.getD r 0:=by
 have hp:=ZeM N k;have hm:=Zco N k;generalize Yl N k=L at *
 by_cases h0:N.getD r 0=0
 rw[h0,if_neg];intro hf;simp only[Zbi,decide_eq_true_eq] at hf;have hin:L.getD i (0,0)∈L:=(by rw[Qc,Qd hf.1];exact Qf _);have:=(hm _).1 hin;rw[hf.2,h0] at this;exact this.2.2 this.2.1
 have hin:(r,N.getD r 0)∈L:=(hm _).2 ⟨hr,rfl,h0⟩;obtain⟨p,hpl,hpe⟩:=List.getElem_of_mem hin;have hpg:L.getD p (0,0)=(r,N.getD r 0):=by rw[Qc,Qd hpl];exact hpe
 have hpi:p=i:=by
  rcases Nat.lt_trichotomy p i with h1|h1|h1
  have:=h.lo p h1;rw[hpg] at this;simp at this;exact h1;have h2:=h.hi i (Qa _) (by omega);have h3:=List.pairwise_iff_getElem.1 hp i p (by omega) hpl h1;rw[hpe] at h3;rw[Qc,Qd (show i<L.length by omega)] at h2;simp only[Option.getD_some] at h2;omega
 subst hpi;rw[if_pos,hpg];simp only[Zbi,decide_eq_true_eq];exact⟨hpl,by rw[hpg]⟩
theorem ZeN(sb n d row:Nat)(vc:Value)(N:List Nat)(w:World)(h:Zgn w 0 sb n d vc (Yl N N.length))(hr:row<N.length)(hl:N.length<=1000000):Calls Tryz.prog 371 #[.pointer (some ⟨sb,0,none⟩),.int .i64 (row:Nat)] w fun e w'=>e=.returned (.int .i64 (N.getD row 0:Nat))/\Below w.heap.size w w':=by
 obtain⟨a,c,rfl⟩:=h.row.shape;have s2:w.cell? ⟨sb,2,none⟩=some (.slice a (Yl N N.length).length c):=cell_of_row _ _ 2 _ 403 (0,0) h.blk;have hsl:sb<w.heap.size:=(Qb h.blk).1;have HO:Hid (Zdw w 0 (.slice a (Yl N N.length).length c) (Yl N N.length)):=h.row;have HF:=Zoa a c row (Yl N N.length) w h.row (ZeM N _) (by have:=Zdp N N.length;omega);have HX:Hid (∀i,ZmS (Yl N N.length) row i->(if Zbi (Yl N N.length) row i=true then((Yl N N.length).getD i (0,0)).2 else 0)=N.getD row 0):=fun i hi=>ZpR hr hi;clear h hr hl;generalize Yl N N.length=L at *;generalize N.getD row 0=res at *;go_enter Tryz.func371,Tryz.ntmps371;go_wp2_with fail
 refine HF.mono ?_;rintro e w2 ⟨i,rfl,hi,hb⟩;have hx:=HX.out i hi;have HB:Hid (Below w.heap.size w w2):=hb;have z2:=(hb.cell (p:=⟨sb,2,none⟩) hsl).trans s2;have HI:Hid (ZmS L row i):=hi;clear hb hi s2
 cases hf:Zbi L row i
 ·have HE:Hid (res=0):=(by rw[hf] at hx;exact hx.symm);clear hx hf;generalize L.length=ll at *;go_wp2;go_ret;exact⟨by rw[HE.out];rfl,HB.out⟩
 have HE:Hid (res=(L.getD i (0,0)).2):=(by rw[hf] at hx;exact hx.symm);have hil:i<L.length:=(by simp only[Zbi,decide_eq_true_eq] at hf;exact hf.1);obtain⟨q,rfl,hql,y0,y1⟩:=HO.out.atK hil;have e1:=(HB.out.cell (p:=⟨q,i*2+1,none⟩) hql).trans y1;clear hx hf y0 y1;have b1:(0:Int)<=(i:Int):=(by omega);have b2:(i:Int)<(L.length:Int):=(by omega);generalize (L.getD i (0,0)).2=x at *;generalize L.length=ll at *;go_wp2;go_ret;exact⟨by rw[HE.out];rfl,HB.out⟩
theorem ZcK(tot bins:Int):∀(M:List Zt) (share:Int),(Y6 tot bins share M).Sublist (M.map fun e=>e.v)
 |[],_=>by simp[Y6]
 |e::r,share=>by unfold Y6;split;exact List.Sublist.cons_cons _ (ZcK tot bins r _);exact(ZcK tot bins r _).cons _
theorem ZcJ{tot bins B:Int}:∀(M:List Zt) (share:Int),(∀e∈M,ZaC bins tot e.hi<=B)->share<=B+1->((Y6 tot bins share M).length:Int)<=B+1-share
 |[],share,_,h=>by simp[Y6];omega
 |e::r,share,hB,h=>by have h1:=hB e (by simp);have hr:=fun x hx=>hB x (List.mem_cons_of_mem e hx);unfold Y6;split;have:=ZcJ r (ZaC bins tot e.hi+1) hr (by omega);simp only[List.length_cons];omega;exact ZcJ r share hr h
theorem Zfq(L:List Zt)(bins:Int):(Z5 L bins).Sublist ((L.take (L.length-1)).map fun e=>e.v):=by unfold Z5;split;simp;split;exact List.Sublist.refl _;exact ZcK _ _ _ _
theorem Zi6{L:List Zt}(g:ZE L)(bins:Int):(Z5 L bins).Pairwise (· < ·):=by refine List.Pairwise.sublist ((Zfq L bins).trans ((List.take_sublist _ _).map _)) ?_;rw[List.pairwise_map];exact g.step.imp fun h=>h.1
theorem ZjY{L:List Zt}(g:ZE L){bins:Int}(hb:2<=bins):((Z5 L bins).length:Int)<bins:=by
 unfold Z5;split;simp;omega;rename_i h0;split;rename_i hle;simp;omega;have hl:=g.at (i:=L.length-1) (by omega);have htot:Zd L=(L.getD (L.length-1) e0).hi:=(by unfold Zd;rw[if_neg h0]);have:=ZcJ (tot:=Zd L) (bins:=bins) (B:=bins-1) (L.take (L.length-1)) 1 (fun e he=>?_) (by omega);omega;obtain⟨k,hk,rfl⟩:=Zp5 he;rw[List.length_take] at hk;have hk2:k<L.length-1:=(by omega);have ek:(L.take (L.length-1)).getD k e0=L.getD k e0:=(by simp[List.getD,hk2,show k<L.length by omega]);rw[ek];have hs:=(g.lt (i:=k) (j:=L.length-1) hk2 (by omega)).2.2;unfold ZaC;have h1:bins*(L.getD k e0).hi<bins*Zd L:=Int.mul_lt_mul_of_pos_left (by omega) (by omega);have h2:bins*(L.getD k e0).hi/Zd L<bins:=Int.ediv_lt_of_lt_mul (by omega) h1;omega
theorem Zfb(L:List VS)(ws:List Int){bins:Int}{size:Nat}(hL:L.length<=200)(hs:2<=size)(hs2:size<=32)(hb:2<=bins):(Yr L ws bins size).Pairwise (· < ·)/\((Yr L ws bins size).length:Int)<bins:=by have hl:((ZJ L ws).map Prod.fst).length<=2097152:=(by have:=Zb6 L ws;simp;omega);have g:=(Zfw hs hs2 ((ZJ L ws).map Prod.fst) ((ZJ L ws).map Prod.snd) hl).1;exact⟨Zi6 g bins,ZjY g hb⟩
structure Zek(n:Nat)(s:RS):Prop where
 ws:∀z∈s.ws,0<=z/\z<=99
 row:∀v∈s.row,(-1000000000<=v.num/\v.num<=1000000000)/\v.word.size<=8
 col:∀i,i<n->∀v∈s.cols i,(-1000000000<=v.num/\v.num<=1000000000)/\v.word.size<=8
theorem Zek.start(n:Nat):Zek n RS.start:=⟨by simp[RS.start],by simp[RS.start],by simp[RS.start]⟩
theorem Qz.of{p:Zy}(h:Qz p){bs:List Int}(hb:bs.length<=8):(-1000000000<=(Y1 p bs).num/\(Y1 p bs).num<=1000000000)/\(Y1 p bs).word.size<=8:=by have h1:=h.le;have h2:=h.n0;refine⟨?_,?_⟩;show -1000000000<=ZcX p/\ZcX p<=1000000000;unfold ZcX;split<;>omega;show(strOfNums bs).size<=8;have:(strOfNums bs).size=bs.length:=(by simp[strOfNums,ByteArray.size]);omega
theorem Zek.take{n:Nat}{wd:Nat->Bool}{sc:Nat->Int}{s s':RS}{c:Int}(h:Zek n s)(hI:Q4 n s)(ht:Yv n wd sc s c=.ok s'):Zek n s':=by
 unfold Yv at ht;split at ht
 ·cases ht
 split at ht
 ·split at ht
  ·cases ht
  injection ht with ht;subst ht;exact⟨h.ws,h.row,h.col⟩;injection ht with ht;subst ht;exact⟨h.ws,h.row,h.col⟩
 split at ht;injection ht with ht;subst ht;exact⟨h.ws,h.row,h.col⟩;split at ht
 ·injection ht with ht;subst ht
  have hrow:∀v∈s.row++[Y1 s.p s.bs],(-1000000000<=v.num/\v.num<=1000000000)/\v.word.size<=8:=fun v hv=>by
   rcases List.mem_append.1 hv with e|e
   exact h.row v e;simp only[List.mem_singleton] at e;rw[e];exact hI.num.of hI.bs
  unfold Qq;split
  ·refine⟨fun z hz=>?_,by simp,fun i hi v hv=>?_⟩
   ·rcases List.mem_append.1 hz with e|e
    exact h.ws z e;simp only[List.mem_singleton] at e;rw[e];exact⟨hI.wt0,hI.wt1⟩
   simp only[hi,if_true] at hv
   rcases List.mem_append.1 hv with e|e
   exact h.col i hi v e;simp only[List.mem_singleton] at e;rw[e];rename_i hl;have hil:i<(s.row++[Y1 s.p s.bs]).length:=(by rw[hl];exact hi);rw[Qc,Qd hil];exact hrow _ (Qf _)
  exact⟨h.ws,hrow,h.col⟩
 cases ht
theorem Zek.takes{n:Nat}{wd:Nat->Bool}{sc:Nat->Int}(hn:1<=n)(hsc:∀i,i<n->wd i=false->0<=sc i/\sc i<=3):∀(l:List Int) {s s':RS} {k:Nat},Zek n s->Q4 n s->Zk n wd sc s l k=.ok s'->Zek n s'
 |[],s,s',k,h,_,e=>by injection e with e;subst e;exact h
 | c::l,s,s',k,h,hI,e=>by
  simp only[Zk] at e
  cases ht:Yv n wd sc s c with
  |error z=>rw[ht] at e;cases e
  |ok s1=>rw[ht] at e;exact Zek.takes hn hsc l (h.take hI ht) (hI.take hn hsc ht) e
structure Zpl(lw:List VS->List Int->Int->Int->ES):Prop where
 ok:Zpm lw
 fine:∀(L:List VS) (ws:List Int) (ct bins:Int),L.length<=200->2<=bins->bins<=16->ZdI (lw L ws ct bins)/\(lw L ws ct bins).wd=true/\(lw L ws ct bins).cnt<=16
theorem Zj2{lw:List VS->List Int->Int->Int->ES}{m:Nat}{wd:Nat->Bool}{sc ct:Nat->Int}{bins:Int}{size:Nat}{l:List Int}{s:RS}(hlw:(∃i,i<m+1/\wd i=true)->Zpl lw)(hsc:∀i,i<m+1->wd i=false->0<=sc i/\sc i<=3)(hb:2<=bins)(hb2:bins<=16)(hs:2<=size)(hs2:size<=32)(h:Zk (m+1) wd sc RS.start l 0=.ok s):ZaZ lw m wd ct bins size s:=by
 have hI:=Q4.takes (by omega) hsc l (Q4.start (show 1<=m+1 by omega)) h;have hV:=Zek.takes (by omega) hsc l (Zek.start (m+1)) (Q4.start (show 1<=m+1 by omega)) h;refine⟨fun hw=>(hlw hw).ok,fun i hi=>?_,hV.col,hV.ws⟩;have hl:(s.cols i).length<=200:=by rw[hI.col i hi];exact hI.ws
 cases hw:wd i with
 | true=>
  have e:ZQ lw true (ct i) bins size (s.cols i) s.ws=lw (s.cols i) s.ws (ct i) bins:=(by simp[ZQ]);rw[e];exact(hlw ⟨i,hi,hw⟩).fine _ _ _ _ hl hb hb2
 | false=>
  have e:ZQ lw false (ct i) bins size (s.cols i) s.ws=⟨false,Yr (s.cols i) s.ws bins size,[]⟩:=(by simp[ZQ]);rw[e];obtain⟨h1,h2⟩:=Zfb (s.cols i) s.ws hl hs hs2 hb;refine⟨⟨h1.imp fun h=>by omega,?_,by simp⟩,rfl,?_⟩;show(Yr (s.cols i) s.ws bins size).length<=1000;omega;show Za1 false (Yr (s.cols i) s.ws bins size).length 0<=16;simp[Za1];omega
def bH:ByteArray:=⟨#[49,44,49,10,49,44,50,10]⟩
def noW:Nat->Bool:=fun _=>false
def no0:Nat->Int:=fun _=>0
def lwH:List VS->List Int->Int->Int->ES:=fun _ _ _ _=>⟨false,[],[]⟩
def sH:RS:=match Zk 1 noW no0 RS.start (Zb bH) 0 with
 |.ok s=>s
 |.error _=>RS.start
def eH:ES:=⟨false,[1],[]⟩
def dH:QP:=⟨[⟨eH,0⟩],[⟨[0],[0,2],3⟩],[]⟩
def ZsA:List Int:=[71,82,2,1,110,0,1,1,0,0,0,1,1,0,100,8,0,0]
theorem ZrA:Zk 1 noW no0 RS.start (Zb bH) 0=.ok sH:=by kernel_rfl
theorem ZsE:sH.wt=0:=by kernel_rfl
theorem ZrB:sH.ws=[1,1]:=by kernel_rfl
theorem ZsD:(sH.cols 0).map (fun v=>v.word.size)=[0,0]:=by kernel_rfl
theorem Zr8:(sH.cols 0).map VS.num=[1,2]:=by kernel_rfl
theorem Zl2:ZQ lwH false 0 2 2 (sH.cols 0) sH.ws=eH:=by kernel_rfl
theorem Zs3:(sH.cols 0).map (YJ eH)=[0,1]:=by kernel_rfl
theorem Zsz:YD 0 2 0 [eH] [[0,1]]=dH:=by kernel_rfl
theorem Zrm:Zag dH []=ZsA:=by kernel_rfl
theorem ZrJ:Z6 dH []=ZsA++[119,135,217,86]:=by kernel_rfl
theorem Ztb:(strOfNums (Z6 dH [])).size=22/\(strOfNums (Z6 dH [])).extract 0 18=⟨#[71,82,2,1,110,0,1,1,0,0,0,1,1,0,100,8,0,0]⟩:=by rw[ZrJ];exact⟨by kernel_rfl,by kernel_rfl⟩
theorem ZsK:ZS 0 (ZdU (Zn [5,3,5] [1,2,4]))=[⟨3,0,2,2⟩,⟨5,2,7,5⟩]:=by kernel_rfl
theorem ZsL:ZS 0 (ZdU (Zn [4] [1]))=[⟨4,0,1,1⟩]:=by kernel_rfl
theorem Zsv:ZA [⟨3,0,2,2⟩,⟨5,2,7,5⟩] [⟨4,0,1,1⟩]=[⟨3,0,2,2⟩,⟨4,2,3,1⟩,⟨5,3,8,5⟩]:=by kernel_rfl
theorem ZrL:ZaZ lwH 0 noW no0 2 2 sH:=by refine⟨(fun ⟨i,_,h⟩=>absurd h (by simp[noW])),fun i hi=>?_,fun i hi v hv=>?_,fun z hz=>?_⟩;obtain rfl:i=0:=(by omega);rw[show ZQ lwH (noW 0) (no0 0) 2 2 (sH.cols 0) sH.ws=eH from Zl2];exact⟨⟨by decide,by decide,by decide⟩,rfl,by decide⟩;obtain rfl:i=0:=(by omega);have hm:v.num∈(sH.cols 0).map VS.num:=List.mem_map.2 ⟨v,hv,rfl⟩;have hm2:v.word.size∈(sH.cols 0).map (fun v=>v.word.size):=List.mem_map.2 ⟨v,hv,rfl⟩;rw[Zr8] at hm;rw[ZsD] at hm2;simp only[List.mem_cons,List.not_mem_nil,or_false,or_self] at hm hm2;omega;rw[ZrB] at hz;simp at hz;omega
theorem knH:∀K∈dH.ks,Zd1 K:=by intro K hK;simp[dH] at hK;subst hK;exact .inl ⟨rfl,rfl,by decide,by decide⟩
theorem Zs4:∀b∈dH.bs,Zgf b:=by intro b hb;simp[dH] at hb;subst hb;refine⟨by decide,by decide,⟨by decide,by decide⟩,by decide,by decide⟩
theorem byH:∀b∈Zag dH [],0<=b/\b<256:=by rw[Zrm];decide
theorem ZsF:Zcb dH 0 0 0:=by refine⟨by decide,by decide,by decide,fun i j hi hj h=>?_,fun i hi=>?_,fun i j hi hj=>?_,fun i hi=>?_⟩;omega;obtain rfl:i=0:=(by omega);decide;obtain rfl:i=0:=(by omega);obtain rfl:j=0:=(by have:(dH.bs.getD 0 Z0).fs.length=1:=rfl;omega);decide;obtain rfl:i=0:=(by have:dH.ks.length=1:=rfl;omega);decide
theorem Zs6(w:World)(fk fc:Nat)(hF:Qr w fk 0 1 noW no0 no0):Calls Tryz.prog 25 #[.agg #[.slice (some ⟨fk,0,none⟩) 1 fc,.int .i64 2,.int .i64 2,.int .i64 0],.string bH,.slice none 0 0] w fun e w'=>∃gb db,e=.returned (.tuple #[.pointer (some ⟨gb,0,none⟩),.int .i64 0,.int .i64 0])/\Zba w' gb db dH/\Below w.heap.size w w':=by
 refine(Zfy lwH bH fk 0 0 fc 0 0 none [] 2 2 0 noW no0 no0 w hF (by decide) ⟨rfl,by simp,.inl rfl⟩ (by omega) (by decide) (fun s hs _=>?_)).mono ?_;rw[ZrA] at hs;injection hs with hs;rw[<- hs];exact ZrL;rintro e w' ⟨hR,hb⟩;rw[ZrA] at hR
 rcases hR with⟨h,_⟩|⟨_,gb,db,rfl,hO⟩
 exact absurd ZsE h;refine⟨gb,db,rfl,?_,hb⟩;have e1:(List.range (0+1)).map (fun i=>ZQ lwH (noW i) (no0 i) 2 2 (sH.cols i) sH.ws)=[eH]:=(by show[ZQ lwH false 0 2 2 (sH.cols 0) sH.ws]=_;rw[Zl2]);have e2:(List.range (0+1)).map (fun i=>(sH.cols i).map (YJ (ZQ lwH (noW i) (no0 i) 2 2 (sH.cols i) sH.ws)))=[[0,1]]:=(by show[(sH.cols 0).map (YJ (ZQ lwH false 0 2 2 (sH.cols 0) sH.ws))]=_;rw[Zl2,Zs3]);have e3:sH.ws.length=2:=(by rw[ZrB];rfl);rw[e1,e2,e3,Zsz] at hO;exact hO
theorem ZrI(w:World)(gb db:Nat)(h:Zba w gb db dH):Calls Tryz.prog 34 #[.pointer (some ⟨gb,0,none⟩)] w fun e w'=>e=.returned (.string (strOfNums (Z6 dH [])))/\Below w.heap.size w w':=by obtain⟨vK,vB,vX,kvs,bvs,X,hX⟩:=h.md;have hp:=hX.perm;have hX0:X=[]:=List.Perm.eq_nil (by exact hp);subst hX0;exact Zd8 gb db vK vB vX kvs bvs [] dH w h.gp hX (by decide) knH (by decide) Zs4 (by decide) (by decide) byH
theorem Zsx(w:World)(gb db:Nat)(h:Zba w gb db dH):Calls Tryz.prog 44 #[.pointer (some ⟨gb,0,none⟩),.int .i64 1,.int .i64 0] w fun e w'=>e=.returned (.tuple #[.int .i64 1,.int .i64 0])/\Below w.heap.size w w':=by refine Zkh gb db 0 1 dH 1 w h (by decide) (by decide) (by decide) (by decide) (by decide) (fun W hW=>?_);obtain⟨vK,vB,vX,kvs,bvs,X,hX⟩:=hW.md;exact Zon db 0 0 0 1 vK vB vX kvs bvs X dH W hX ZsF (by decide) (by decide) (by decide) (by decide) (by decide) (by decide) (by decide) (by decide)
theorem Zhw(W:World)(b:Nat)(x y z:Int)(hx:(Lit.int .i64 x).wf=true/\(Lit.int .i64 y).wf=true/\(Lit.int .i64 z).wf=true)(h:W.heap[b]? =some (.cells #[.int .i64 x,.int .i64 y,.int .i64 z] 3 (0,0))):ZT W (some ⟨b,0,none⟩) 3 [x,y,z]:=by
 refine⟨rfl,fun q hq=>?_,.inr ⟨b,0,rfl,(Qb h).1,fun i hi=>?_⟩⟩
 ·simp at hq
  rcases hq with e|e|e
  rw[e];exact hx.1;rw[e];exact hx.2.1;rw[e];exact hx.2.2
 rw[Nat.zero_add,cell_of_row _ _ i _ 3 (0,0) h]
 match i,hi with
 |0,_=>rfl
 |1,_=>rfl
 |2,_=>rfl
theorem ZkJ(W:World)(b:Nat)(x:Int)(hx:(Lit.int .i64 x).wf=true)(h:W.heap[b]? =some (.cells #[.int .i64 x] 3 (0,0))):ZT W (some ⟨b,0,none⟩) 1 [x]:=by
 refine⟨rfl,fun q hq=>?_,.inr ⟨b,0,rfl,(Qb h).1,fun i hi=>?_⟩⟩;simp at hq;rw[hq];exact hx;rw[Nat.zero_add,cell_of_row _ _ i _ 3 (0,0) h]
 match i,hi with
 |0,_=>rfl
theorem ZsI(W:World)(b1 b2 c1 c2:Nat)(h1:W.heap[b1]? =some (.cells #[.int .i64 5,.int .i64 3,.int .i64 5] 3 (0,0)))(h2:W.heap[b2]? =some (.cells #[.int .i64 1,.int .i64 2,.int .i64 4] 3 (0,0))):Calls Tryz.prog 19 #[.slice (some ⟨b1,0,none⟩) 3 c1,.slice (some ⟨b2,0,none⟩) 3 c2] W fun e w'=>∃v,e=.returned v/\Zl w' W.heap.size v [⟨3,0,2,2⟩,⟨5,2,7,5⟩]/\Below W.heap.size W w':=by refine(ZfH _ _ 3 c1 3 c2 [5,3,5] [1,2,4] W (Zhw W b1 5 3 5 (by decide) h1) (Zhw W b2 1 2 4 (by decide) h2) (by decide) (by decide)).mono ?_;rintro e w' ⟨v,M,rfl,hM,ho,hb⟩;refine⟨v,rfl,?_,hb⟩;rw[<- Zhn hM,ZsK] at ho;exact ho
theorem ZsJ(W:World)(b1 b2 c1 c2:Nat)(h1:W.heap[b1]? =some (.cells #[.int .i64 4] 3 (0,0)))(h2:W.heap[b2]? =some (.cells #[.int .i64 1] 3 (0,0))):Calls Tryz.prog 19 #[.slice (some ⟨b1,0,none⟩) 1 c1,.slice (some ⟨b2,0,none⟩) 1 c2] W fun e w'=>∃v,e=.returned v/\Zl w' W.heap.size v [⟨4,0,1,1⟩]/\Below W.heap.size W w':=by refine(ZfH _ _ 1 c1 1 c2 [4] [1] W (ZkJ W b1 4 (by decide) h1) (ZkJ W b2 1 (by decide) h2) (by decide) (by decide)).mono ?_;rintro e w' ⟨v,M,rfl,hM,ho,hb⟩;refine⟨v,rfl,?_,hb⟩;rw[<- Zhn hM,ZsL] at ho;exact ho
theorem ZrS:ZE [⟨3,0,2,2⟩,⟨5,2,7,5⟩]:=⟨by decide,by decide⟩
theorem ZrT:ZE [⟨4,0,1,1⟩]:=⟨by decide,by decide⟩
theorem ZpZ:ZjM:=by
 intro w;obtain⟨w1,hw1⟩:∃w1,w1=(w.alloc (.cells #[.int .i64 5,.int .i64 3,.int .i64 5] 3)).alloc (.cells #[.int .i64 1,.int .i64 2,.int .i64 4] 3):=⟨_,rfl⟩;have hb1:Below w.heap.size w w1:=(by rw[hw1];exact((Below.refl _ _).alloc (Qa _) _).alloc (by simp) _);have h1a:w1.heap[w.heap.size]? =some (.cells #[.int .i64 5,.int .i64 3,.int .i64 5] 3 (0,0)):=by rw[hw1];exact(Below.heap_alloc _ _ _ (by simp)).trans (heap_alloc_new w _)
 have h1b:w1.heap[w.heap.size+1]? =some (.cells #[.int .i64 1,.int .i64 2,.int .i64 4] 3 (0,0)):=(by have:=heap_alloc_new (w.alloc (.cells #[.int .i64 5,.int .i64 3,.int .i64 5] 3)) (.cells #[.int .i64 1,.int .i64 2,.int .i64 4] 3);rw[show(w.alloc (.cells #[.int .i64 5,.int .i64 3,.int .i64 5] 3)).heap.size=w.heap.size+1 by simp] at this;rw[hw1];exact this);have HS1:=ZsI w1 _ _ 3 3 h1a h1b;have HB1:Hid (Below w.heap.size w w1):=hb1;clear hb1 h1a h1b;go_enter Tryz.func16,Tryz.ntmps16;go_wp2_with fail
 rw[<- hw1];clear hw1;refine HS1.mono ?_;rintro e w2 ⟨v1,rfl,ho1,hb2⟩;obtain⟨a1,c1,e1,hE1,_,_⟩:=ho1.seen (by decide);obtain rfl:v1=.slice a1 2 c1:=e1
 obtain⟨b1,o1,rfl,hA1⟩:∃b off,a1=some ⟨b,off,none⟩/\Q3 w2 b off [⟨3,0,2,2⟩,⟨5,2,7,5⟩]:=by
  rcases hE1.2 with h0|h
  ·cases h0
  exact h
 have HB2:Hid (Below w.heap.size w w2):=HB1.out.trans (hb2.mono HB1.out.size);have HA1:Hid (Q3 w2 b1 o1 [⟨3,0,2,2⟩,⟨5,2,7,5⟩]):=hA1;clear ho1 hb2 hE1 hA1 HS1 HB1;obtain⟨w3,hw3⟩:∃w3,w3=(w2.alloc (.cells #[.int .i64 4] 3)).alloc (.cells #[.int .i64 1] 3):=⟨_,rfl⟩;have hb3:Below w2.heap.size w2 w3:=(by rw[hw3];exact((Below.refl _ _).alloc (Qa _) _).alloc (by simp) _);have h3a:w3.heap[w2.heap.size]? =some (.cells #[.int .i64 4] 3 (0,0)):=by rw[hw3];exact(Below.heap_alloc _ _ _ (by simp)).trans (heap_alloc_new w2 _)
 have h3b:w3.heap[w2.heap.size+1]? =some (.cells #[.int .i64 1] 3 (0,0)):=(by have:=heap_alloc_new (w2.alloc (.cells #[.int .i64 4] 3)) (.cells #[.int .i64 1] 3);rw[show(w2.alloc (.cells #[.int .i64 4] 3)).heap.size=w2.heap.size+1 by simp] at this;rw[hw3];exact this);have HS2:=ZsJ w3 _ _ 1 1 h3a h3b;have HB3:Hid (Below w2.heap.size w2 w3):=hb3;clear hb3 h3a h3b;go_wp2_with fail
 rw[<- hw3];clear hw3;refine HS2.mono ?_;rintro e w4 ⟨v2,rfl,ho2,hb4⟩;obtain⟨a2,c2,e2,hE2,_,_⟩:=ho2.seen (by decide);obtain rfl:v2=.slice a2 1 c2:=e2;have HB4:Hid (Below w2.heap.size w2 w4):=HB3.out.trans (hb4.mono HB3.out.size);have HJ:=Zjk (some ⟨b1,o1,none⟩) a2 [⟨3,0,2,2⟩,⟨5,2,7,5⟩] [⟨4,0,1,1⟩] c1 c2 w4 ⟨by decide,.inr ⟨b1,o1,rfl,HA1.out.below HB4.out⟩⟩ hE2 ZrS ZrT;rw[Zsv] at HJ;clear ho2 hb4 hE2 HS2 HB3;go_wp2_with fail
 refine HJ.mono ?_;rintro e w5 ⟨v3,rfl,ho3,hb5⟩;obtain⟨a3,c3,e3,hE3,_,_⟩:=ho3.seen (by decide);obtain rfl:v3=.slice a3 3 c3:=e3
 obtain⟨b3,o3,rfl,hA3⟩:∃b off,a3=some ⟨b,off,none⟩/\Q3 w5 b off [⟨3,0,2,2⟩,⟨4,2,3,1⟩,⟨5,3,8,5⟩]:=by
  rcases hE3.2 with h0|h
  ·cases h0
  exact h
 have HB5:Hid (Below w2.heap.size w2 w5):=HB4.out.trans (hb5.mono HB4.out.size);have hA1:=HA1.out.below HB5.out;have x0:w5.cell? ⟨b1,o1+4,none⟩=some (.int .i64 5):=hA1.v 1 (by decide);have x1:w5.cell? ⟨b1,o1+4+1,none⟩=some (.int .i64 2):=hA1.lo 1 (by decide);have x2:w5.cell? ⟨b1,o1+4+2,none⟩=some (.int .i64 7):=hA1.hi 1 (by decide);have x3:w5.cell? ⟨b1,o1+4+3,none⟩=some (.int .i64 5):=hA1.wt 1 (by decide);have y0:w5.cell? ⟨b3,o3+4,none⟩=some (.int .i64 4):=hA3.v 1 (by decide);have y1:w5.cell? ⟨b3,o3+4+1,none⟩=some (.int .i64 2):=hA3.lo 1 (by decide);have y2:w5.cell? ⟨b3,o3+4+2,none⟩=some (.int .i64 3):=hA3.hi 1 (by decide);have y3:w5.cell? ⟨b3,o3+4+3,none⟩=some (.int .i64 1):=hA3.wt 1 (by decide);have HB5w:Hid (Below w.heap.size w w5):=HB2.out.trans (HB5.out.mono HB2.out.size)
 clear ho3 hb5 hE3 HJ HB4 hA1 hA3 HA1 HB2 HB5;go_upto_region 5 with fail;clear x0 x1 x2 x3 y0 y1 y2 y3;obtain⟨w6,hw6⟩:∃w6,w6=w5.alloc (.cells #[.bool false,.int .i64 0,.int .i64 0] 51):=⟨_,rfl⟩;have hb6:Below w5.heap.size w5 w6:=(by rw[hw6];exact(Below.refl _ _).alloc (Qa _) _);have h6:w6.heap[w5.heap.size]? =some (.cells #[.bool false,.int .i64 0,.int .i64 0] 51 (0,0)):=by rw[hw6];exact heap_alloc_new w5 _
 have hft:Qr w6 w5.heap.size 0 1 noW no0 no0:=(by refine⟨by decide,fun _=>(Qb h6).1,fun i hi=>?_,fun i hi=>?_,fun i hi=>?_⟩;obtain rfl:i=0:=(by omega);exact cell_of_row _ _ 0 _ 51 (0,0) h6;obtain rfl:i=0:=(by omega);exact cell_of_row _ _ 1 _ 51 (0,0) h6;obtain rfl:i=0:=(by omega);exact cell_of_row _ _ 2 _ 51 (0,0) h6);have HFD:=Zs6 w6 w5.heap.size 1 hft;unfold bH at HFD;have HB6:Hid (Below w.heap.size w w6):=HB5w.out.trans (hb6.mono HB5w.out.size);clear hft h6 hb6 HB5w;go_wp2_with fail
 rw[<- hw6];clear hw6;refine HFD.mono ?_;rintro e w7 ⟨gb,db,rfl,hO7,hb7⟩;have HO7:Hid (Zba w7 gb db dH):=hO7;have HB7:Hid (Below w.heap.size w w7):=HB6.out.trans (hb7.mono HB6.out.size);clear hO7 hb7 HFD HB6;have HBY:=ZrI w7 gb db HO7.out;obtain⟨hs1,hs2⟩:=Ztb;generalize strOfNums (Z6 dH [])=S at *;have HS2:Hid (S.extract 0 18=⟨#[71,82,2,1,110,0,1,1,0,0,0,1,1,0,100,8,0,0]⟩):=hs2;clear hs2;go_wp2_with fail
 refine HBY.mono ?_;rintro e w8 ⟨rfl,hb8⟩;have HLK:=Zsx w8 gb db (HO7.out.below hb8);have HB8:Hid (Below w.heap.size w w8):=HB7.out.trans (hb8.mono HB7.out.size);clear hb8 HBY HB7 HO7;go_wp2_with fail
 refine HLK.mono ?_;rintro e w9 ⟨rfl,hb9⟩;have HB9:Hid (Below w.heap.size w w9):=HB8.out.trans (hb9.mono HB8.out.size);clear hb9 HLK HB8;have hs2:=HS2.out;have l1:(S.size:Int)=22:=(by rw[hs1];rfl);have l2:(18:Int)<=(S.size:Int):=(by omega);clear hs1;go_wp2;go_ret;exact⟨rfl,HB9.out⟩
end Go.Proofs.YtfcgnpchbcmdeaaGreat
