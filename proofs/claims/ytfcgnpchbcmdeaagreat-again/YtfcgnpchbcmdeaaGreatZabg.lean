import Derived.Test.YtfcgnpchbcmdeaaGreatZabf
import Derived.Deep.RegionHeld3
namespace Go.Proofs.YtfcgnpchbcmdeaaGreat
set_option linter.unusedSimpArgs false
set_option maxRecDepth 100000
set_option maxHeartbeats 8000000
open Go.RowKit
def cfB(cs:List Int):Nat:=2+Zz (Yb cs 0) 15
def cfU(cs:List Int):Nat:=Zz (Yb cs 2) 21
def cfS(cs:List Int):Nat:=cfB cs+Zz (Yb cs 1) (33-cfB cs)
def YH(cs:List Int):Nat:=Zz (Yb cs 3) 4
def cfW(cs:List Int)(i:Nat):Bool:=decide (Zz (Yb cs (8+i)) 3=0)
def cfC(cs:List Int)(i:Nat):Int:=if cfW cs i=true then 0 else(Zz (Yb cs (4+i)) 4:Nat)
def cfT(cs:List Int)(i:Nat):Int:=if cfW cs i=true then 1+(Zz (Yb cs (4+i)) 9:Nat) else 0
theorem ZjS(cs:List Int):2<=cfB cs/\cfB cs<=16/\cfB cs<=cfS cs/\cfS cs<=32/\cfU cs<=20/\YH cs<=3:=by have h0:=Yr (Yb cs 0) (show 0<15 by omega);have h2:=Yr (Yb cs 2) (show 0<21 by omega);have h3:=Yr (Yb cs 3) (show 0<4 by omega);have e0:cfB cs=2+Zz (Yb cs 0) 15:=rfl;have h1:=Yr (Yb cs 1) (show 0<33-cfB cs by omega);have e1:cfS cs=cfB cs+Zz (Yb cs 1) (33-cfB cs):=rfl;have e2:cfU cs=Zz (Yb cs 2) 21:=rfl;have e3:YH cs=Zz (Yb cs 3) 4:=rfl;omega
theorem ZmQ(cs:List Int)(i:Nat):ZaO (cfW cs i) (cfC cs i) (cfT cs i)=true:=by
 have h0:=Yr (Yb cs (4+i)) (show 0<4 by omega);have h1:=Yr (Yb cs (4+i)) (show 0<9 by omega);unfold ZaO cfC cfT
 cases cfW cs i
 simp;omega;simp;omega
theorem Zqr(cs:List Int):ZcI (YH cs+1) (cfB cs:Nat) (cfS cs:Nat) (cfU cs:Nat) (cfW cs) (cfC cs) (cfT cs)=true:=by have h:=ZjS cs;unfold ZcI Zgf;rw[Bool.and_eq_true,decide_eq_true_eq,List.all_eq_true];exact⟨by omega,fun i _=>ZmQ cs i⟩
def Zlt(cs:List Int)(i:Nat):List Value:=[.bool (cfW cs i),.int .i64 (cfC cs i),.int .i64 (cfT cs i)]
def ZcK(cs:List Int):Nat->List Value
 |0=>[]
 |k+1=>ZcK cs k++Zlt cs k
theorem Zc8(cs:List Int):∀k,(ZcK cs k).length=k*3
 |0=>rfl
 |k+1=>by rw[ZcK,Qe,Zc8 cs k];simp[Zlt];omega
theorem Zc7(cs:List Int):∀k i c,i<k->c<3->(ZcK cs k)[i*3+c]? =(Zlt cs i)[c]?
 |0,i,c,h,_=>by omega
 | k+1,i,c,h,hc=>by
  rw[ZcK]
  by_cases hk:i<k
  rw[List.getElem?_append_left (by rw[Zc8];omega)];exact Zc7 cs k i c hk hc;have e:i=k:=(by omega);subst e;rw[List.getElem?_append_right (by rw[Zc8];omega),Zc8];congr 1;omega
def ZbX(w:World)(base:Nat)(v:Value)(cs:List Int)(k:Nat):Prop:=w.ownsRow base 51 3 v k (ZcK cs k)
theorem ZbX.feats{w:World}{base k:Nat}{v:Value}{cs:List Int}(h:ZbX w base v cs k)(hk:0<k)(hk2:k<=1000):∃fk fc,v=.slice (some ⟨fk,0,none⟩) k fc/\base<=fk/\QE w fk 0 k (cfW cs) (cfC cs) (cfT cs):=by
 have h':=h
 rcases h.2 with⟨rfl,h0⟩|⟨g,cap,cur,rfl,hb,hh,_⟩
 omega;refine⟨g,cap,rfl,hb,⟨by unfold maxLen;omega,fun _=>(Qb hh).1,fun i hi=>?_,fun i hi=>?_,fun i hi=>?_⟩⟩;rw[Nat.zero_add,World.ownsRow.cellAt h' (i*3) (by omega)];exact Zc7 cs k i 0 hi (by omega);rw[Nat.zero_add,World.ownsRow.cellAt h' (i*3+1) (by omega)];exact Zc7 cs k i 1 hi (by omega);rw[Nat.zero_add,World.ownsRow.cellAt h' (i*3+2) (by omega)];exact Zc7 cs k i 2 hi (by omega)
theorem ZbX.shape{w:World}{base k:Nat}{v:Value}{cs:List Int}(h:ZbX w base v cs k):∃a c,v=.slice a k c:=by
 rcases h.2 with⟨rfl,h0⟩|⟨g,cap,cur,rfl,_⟩
 exact⟨none,0,by rw[h0]⟩;exact⟨_,cap,rfl⟩
theorem Zrv:(Tryz.prog.info? 51).map (fun i=>(i.zero,i.size,i.bytes))=some (some (.agg #[.bool false,.int .i64 0,.int .i64 0]),3,24):=by kernel_rfl
theorem ZpM{w:World}{a:Option Addr}{n:Nat}{zs:List Int}(h:ZX w a n zs)(i:Nat):(Lit.int .i64 (Yb zs i)).wf=true:=by unfold Yb;split;decide;rename_i h0;have hl:i%zs.length<zs.length:=Nat.mod_lt _ (by omega);rw[Qc,Qd hl];exact h.2.1 _ (Qf _)
theorem ZgI(ca:Option Addr)(cn cc:Nat)(cs:List Int)(w:World)(hc:ZX w ca cn cs)(hcn:cn<=9223372036854775807):Calls Tryz.prog 23 #[.slice ca cn cc] w fun e w'=>∃fk fc,e=.returned (.agg #[.slice (some ⟨fk,0,none⟩) (YH cs+1) fc,.int .i64 (cfB cs:Nat),.int .i64 (cfS cs:Nat),.int .i64 (cfU cs:Nat)])/\w.heap.size<=fk/\QE w' fk 0 (YH cs+1) (cfW cs) (cfC cs) (cfT cs)/\Below w.heap.size w w':=by
 have HR:Hid (∀(W:World) (i:Nat),i<=1000->Below w.heap.size w W->Calls Tryz.prog 18 #[.slice ca cn cc,.int .i64 (i:Nat)] W fun e w'=>e=.returned (.int .i64 (Yb cs i))/\w'=W):=fun W i hi hW=>Zft ca cn cc i cs W (hc.below hW) (by omega) hcn;have HP:Hid (∀(W:World) (i n:Nat),0<n->n<=1000->Calls Tryz.prog 17 #[.int .i64 (Yb cs i),.int .i64 (n:Nat)] W fun e w'=>e=.returned (.int .i64 (Zz (Yb cs i) n:Nat))/\w'=W):=fun W i n h0 h1=>YR _ n W (ZpM hc i) h0 (by omega);have hcf:=ZjS cs;have HB:Hid (cfB cs=2+Zz (Yb cs 0) 15):=rfl;have HU:Hid (cfU cs=Zz (Yb cs 2) 21):=rfl;have HS:Hid (cfS cs=cfB cs+Zz (Yb cs 1) (33-cfB cs)):=rfl;have hp0:=Yr (Yb cs 0) (show 0<15 by omega)
 have q1:IntKind.i64.wrap (2+((Zz (Yb cs 0) 15:Nat):Int))=((cfB cs:Nat):Int):=(by rw[ZA (by omega) (by omega)];have:=HB.out;omega);obtain⟨w0,hw0⟩:∃w0,w0=w.alloc (.cells #[.slice none 0 0,.int .i64 0,.int .i64 0,.int .i64 0] 37):=⟨_,rfl⟩;have hb0:Below w.heap.size w w0:=(by rw[hw0];exact(Below.refl _ _).alloc (Qa _) _);have HB0:Hid (Below w.heap.size w w0):=hb0;have HR0:Hid (w0.heap[w.heap.size]? =some (.cells #[.slice none 0 0,.int .i64 0,.int .i64 0,.int .i64 0] 37 (0,0))/\w0.heap.size=w.heap.size+1):=(by refine⟨?_,?_⟩;rw[hw0];exact heap_alloc_new w _;rw[hw0];simp);clear hb0 hc;go_enter Tryz.func23,Tryz.ntmps23;go_wp2_with fail
 rw[<- hw0];clear hw0;refine(HR.out w0 0 (by omega) HB0.out).mono ?_;rintro e w1 ⟨rfl,h1⟩;obtain rfl:=h1.symm;go_wp2_with fail
 refine(HP.out w0 0 15 (by omega) (by omega)).mono ?_;rintro e w1 ⟨rfl,h1⟩;obtain rfl:=h1.symm;go_wp2_with fail
 refine(HR.out w0 2 (by omega) HB0.out).mono ?_;rintro e w1 ⟨rfl,h1⟩;obtain rfl:=h1.symm;go_wp2_with fail
 refine(HP.out w0 2 21 (by omega) (by omega)).mono ?_;rintro e w1 ⟨rfl,h1⟩;obtain rfl:=h1.symm;rw[<- HU.out];have hp1:=Yr (Yb cs 1) (show 0<33-cfB cs by omega);obtain⟨pn,hpn⟩:∃pn,pn=33-cfB cs:=⟨_,rfl⟩;have q2:IntKind.i64.wrap (33-((cfB cs:Nat):Int))=(pn:Int):=by rw[ZA (by omega) (by omega)];omega
 have q3:IntKind.i64.wrap (((cfB cs:Nat):Int)+((Zz (Yb cs 1) pn:Nat):Int))=((cfS cs:Nat):Int):=by rw[hpn,ZA (by omega) (by omega)];have:=HS.out;omega
 have hpn0:0<pn/\pn<=1000:=(by omega);have HP1:Hid (∀W:World,Calls Tryz.prog 17 #[.int .i64 (Yb cs 1),.int .i64 (pn:Nat)] W fun e w'=>e=.returned (.int .i64 (Zz (Yb cs 1) pn:Nat))/\w'=W):=fun W=>HP.out W 1 pn hpn0.1 hpn0.2;clear hpn hp1 hp0 hpn0 q1;obtain⟨cb,hcb⟩:∃cb,cb=w0.heap.size:=⟨_,rfl⟩;obtain⟨w2,hw2⟩:∃w2,w2=w0.alloc (.cells #[.slice none 0 0,.int .i64 (cfB cs:Nat),.int .i64 0,.int .i64 (cfU cs:Nat)] 37):=⟨_,rfl⟩;have hrow2:w2.heap[cb]? =some (.cells #[.slice none 0 0,.int .i64 (cfB cs:Nat),.int .i64 0,.int .i64 (cfU cs:Nat)] 37 (0,0)):=(by rw[hw2,hcb];exact heap_alloc_new w0 _);have hb2:Below w.heap.size w w2:=by rw[hw2];exact HB0.out.alloc HB0.out.size _
 have HR2:Hid (w2.heap[w.heap.size]? =some (.cells #[.slice none 0 0,.int .i64 0,.int .i64 0,.int .i64 0] 37 (0,0))):=by show _=_;rw[hw2];exact(Below.heap_alloc _ _ _ (by have:=HR0.out.2;omega)).trans HR0.out.1
 have hcw:w.heap.size<cb:=(by have:=HR0.out.2;omega);have e1:w2.cell? ⟨cb,1,none⟩=some (.int .i64 (cfB cs:Nat)):=cell_of_row _ _ 1 _ 37 (0,0) hrow2;have e2:w2.cell? ⟨cb,2,none⟩=some (.int .i64 0):=cell_of_row _ _ 2 _ 37 (0,0) hrow2;have z2:w2.frozen? ⟨cb,2,none⟩=false:=frozen_of_row _ _ 2 _ 37 hrow2;have HB2:Hid (Below w.heap.size w w2):=hb2;have HW2:Hid (w2.heap[cb]? =some (.cells #[.slice none 0 0,.int .i64 (cfB cs:Nat),.int .i64 0,.int .i64 (cfU cs:Nat)] 37 (0,0))):=hrow2;go_upto_region 2 with fail;rw[<- hw2,<- hcb];clear hw2 hcb hb2 hrow2;have hrow3:(w2.setCell ⟨cb,2,none⟩ (.int .i64 (cfS cs:Nat))).heap[cb]? =some (.cells #[.slice none 0 0,.int .i64 (cfB cs:Nat),.int .i64 (cfS cs:Nat),.int .i64 (cfU cs:Nat)] 37 (0,0)):=heap_setCell_same _ cb 2 _ 37 _ HW2.out
 have e3:(w2.setCell ⟨cb,2,none⟩ (.int .i64 (cfS cs:Nat))).cell? ⟨cb,1,none⟩=some (.int .i64 (cfB cs:Nat)):=cell_of_row _ _ 1 _ 37 (0,0) hrow3;have HW3:Hid ((w2.setCell ⟨cb,2,none⟩ (.int .i64 (cfS cs:Nat))).heap[cb]? =some (.cells #[.slice none 0 0,.int .i64 (cfB cs:Nat),.int .i64 (cfS cs:Nat),.int .i64 (cfU cs:Nat)] 37 (0,0))):=hrow3;clear hrow3;go_region_held3 (fun w'=>w'.cell? ⟨cb,1,none⟩=some (.int .i64 (cfB cs:Nat))) (first|with_reducible exact e1|exact e3|exact e1) (first|(go_at_call 18;refine(HR.out _ 1 (by omega) HB2.out.drew).mono ?_;rintro e w' ⟨rfl,rfl⟩)|(go_at_call 17;refine(HP1.out _).mono ?_;rintro e w' ⟨rfl,rfl⟩))
 have HB3:Hid (Below w.heap.size w (w2.setCell ⟨cb,2,none⟩ (.int .i64 (cfS cs:Nat))).drew):=(HB2.out.setCell (show w.heap.size<=cb by omega) _).drew;have HR3:Hid ((w2.setCell ⟨cb,2,none⟩ (.int .i64 (cfS cs:Nat))).drew.heap[w.heap.size]? =some (.cells #[.slice none 0 0,.int .i64 0,.int .i64 0,.int .i64 0] 37 (0,0))):=by have t1:Za (fun q=>q=cb) w2 (w2.setCell ⟨cb,2,none⟩ (.int .i64 (cfS cs:Nat))):=(Za.refl (fun q=>q=cb) w2).setCell (p:=⟨cb,2,none⟩) (fun _=>rfl) _;exact t1.at_ HR2.out (by omega)
 have HW3':Hid ((w2.setCell ⟨cb,2,none⟩ (.int .i64 (cfS cs:Nat))).drew.heap[cb]? =some (.cells #[.slice none 0 0,.int .i64 (cfB cs:Nat),.int .i64 (cfS cs:Nat),.int .i64 (cfU cs:Nat)] 37 (0,0))):=HW3.out;generalize (w2.setCell ⟨cb,2,none⟩ (.int .i64 (cfS cs:Nat))).drew=w3 at *;clear HW3 HW2 HR2 HB2 HP1 HR0 HB0 e1 e2 e3 z2 q2 q3 HB HU HS;have hcm:YH cs<=3:=hcf.2.2.2.2.2;have HCM:Hid (YH cs=Zz (Yb cs 3) 4):=rfl;obtain⟨m,hm⟩:∃m,m=YH cs:=⟨_,rfl⟩;rw[<- hm] at hcm HCM;have HMM:Hid (m=YH cs):=hm;clear hm hcf;obtain⟨i0,hinf,hz0,hz1,hz2⟩:=info_parts Zrv;go_wp2_with fail
 go_loopw [4] (fun ti wr=>∃(k:Nat) (vF:Value),ti=.int .i64 k/\k<=m+1/\Hid (wr.heap[cb]? =some (.cells #[vF,.int .i64 (cfB cs:Nat),.int .i64 (cfS cs:Nat),.int .i64 (cfU cs:Nat)] 37 (0,0)))/\Hid (ZbX wr w.heap.size vF cs k)/\Hid (wr.heap[w.heap.size]? =some (.cells #[.slice none 0 0,.int .i64 0,.int .i64 0,.int .i64 0] 37 (0,0)))/\Hid (Below w.heap.size w wr)) (fun ti _=>m+1-(intOf ti).toNat)
 case atStart=>exact⟨0,_,rfl,by omega,HW3'.out,World.ownsRow_nil _ _ _ _,HR3.out,HB3.out⟩
 case round=>
  clear HW3' HR3 HB3;obtain⟨k,vF,rfl,hk,HC,HO,HZ,HB⟩:=hrel;have hsz:=HB.out.size;have hcl:cb<wr.heap.size:=(Qb HC.out).1;go_wp2_with fail
  refine(HR.out wr 3 (by omega) HB.out).mono ?_;rintro e w4 ⟨rfl,h4⟩;obtain rfl:=h4.symm;go_wp2_with fail
  refine(HP.out wr 3 4 (by omega) (by omega)).mono ?_;rintro e w4 ⟨rfl,h4⟩;obtain rfl:=h4.symm;rw[<- HCM.out]
  by_cases hkm:k<=m
  ·have bk:(k:Int)<=(m:Int):=(by omega);have q4:IntKind.i64.wrap (4+(k:Int))=((4+k:Nat):Int):=(by rw[ZA (by omega) (by omega)];omega);have q8:IntKind.i64.wrap (8+(k:Int))=((8+k:Nat):Int):=(by rw[ZA (by omega) (by omega)];omega);go_wp2_with fail
   refine(HR.out wr (4+k) (by omega) HB.out).mono ?_;rintro e w4 ⟨rfl,h4⟩;obtain rfl:=h4.symm;go_wp2_with fail
   refine(HP.out wr (4+k) 4 (by omega) (by omega)).mono ?_;rintro e w4 ⟨rfl,h4⟩;obtain rfl:=h4.symm;obtain⟨w6,hw6⟩:∃w6,w6=wr.alloc (.cells #[.bool false,.int .i64 (Zz (Yb cs (4+k)) 4:Nat),.int .i64 0] 51):=⟨_,rfl⟩;have hb6:Below wr.heap.size wr w6:=(by rw[hw6];exact(Below.refl _ _).alloc (Qa _) _);have hr6:w6.heap[wr.heap.size]? =some (.cells #[.bool false,.int .i64 (Zz (Yb cs (4+k)) 4:Nat),.int .i64 0] 51 (0,0)):=(by rw[hw6];exact heap_alloc_new wr _);have HB6:Hid (Below w.heap.size w w6):=HB.out.trans (hb6.mono hsz);have HC6:Hid (w6.heap[cb]? =some (.cells #[vF,.int .i64 (cfB cs:Nat),.int .i64 (cfS cs:Nat),.int .i64 (cfU cs:Nat)] 37 (0,0))):=(hb6.block cb hcl).trans HC.out;have HO6:Hid (ZbX w6 w.heap.size vF cs k):=(Za.of_below (S:=fun _=>False) hb6).row HO.out (fun _ _=>id)
   have hwl:w.heap.size<wr.heap.size:=(Qb HZ.out).1;have HZ6:Hid (w6.heap[w.heap.size]? =some (.cells #[.slice none 0 0,.int .i64 0,.int .i64 0,.int .i64 0] 37 (0,0))):=(hb6.block _ hwl).trans HZ.out;have HOL:Hid (∀q,vF.ownBlock=some q->q<wr.heap.size):=fun q hq=>(World.ownsRow.lt HO.out q hq).2;have HR6:Hid (w6.heap[wr.heap.size]? =some (.cells #[.bool false,.int .i64 (Zz (Yb cs (4+k)) 4:Nat),.int .i64 0] 51 (0,0))):=hr6;go_wp2_with fail
   rw[<- hw6];clear hw6 hb6 HC HO HZ HB;refine(HR.out w6 (8+k) (by omega) HB6.out).mono ?_;rintro e w4 ⟨rfl,h4⟩;obtain rfl:=h4.symm;go_wp2_with fail
   refine(HP.out w6 (8+k) 3 (by omega) (by omega)).mono ?_;rintro e w4 ⟨rfl,h4⟩;obtain rfl:=h4.symm;have f0:=frozen_of_row _ _ 0 _ 51 hr6;have f1:=frozen_of_row _ _ 1 _ 51 hr6;have f2:=frozen_of_row _ _ 2 _ 51 hr6;have g0:=cell_of_row _ _ 0 _ 51 (0,0) hr6;have g1:=cell_of_row _ _ 1 _ 51 (0,0) hr6;have g2:=cell_of_row _ _ 2 _ 51 (0,0) hr6;clear hr6;go_upto_if 42 with fail
   go_cut [5] (fun v wx=>v=.pointer (some ⟨wr.heap.size,0,none⟩)/\Hid (wx.heap[wr.heap.size]? =some (.cells #[.bool (cfW cs k),.int .i64 (cfC cs k),.int .i64 (cfT cs k)] 51 (0,0)))/\Hid (Za (fun q=>q=wr.heap.size) w6 wx))
   case first=>
    have HCW:Hid (cfW cs k=decide (Zz (Yb cs (8+k)) 3=0)):=rfl;have HCC:Hid (cfC cs k=if cfW cs k=true then(0:Int) else((Zz (Yb cs (4+k)) 4:Nat):Int)):=rfl;have HCT:Hid (cfT cs k=if cfW cs k=true then 1+((Zz (Yb cs (4+k)) 9:Nat):Int) else(0:Int)):=rfl
    by_cases hp:Zz (Yb cs (8+k)) 3=0
    ·have q5:(((Zz (Yb cs (8+k)) 3:Nat):Int)==0)=true:=(by rw[hp];rfl);have HV:Hid (cfW cs k=true/\cfC cs k=0/\cfT cs k=1+(Zz (Yb cs (4+k)) 9:Nat)):=(by have hw:cfW cs k=true:=(by rw[HCW.out];exact decide_eq_true hp);exact⟨hw,by rw[HCC.out,if_pos hw],by rw[HCT.out,if_pos hw]⟩);have h9:=Yr (Yb cs (4+k)) (show 0<9 by omega);obtain⟨p9,hp9⟩:∃p9,p9=Zz (Yb cs (4+k)) 9:=⟨_,rfl⟩;have HP9:Hid (p9=Zz (Yb cs (4+k)) 9):=hp9;have q6:IntKind.i64.wrap (1+(p9:Int))=1+(p9:Int):=ZA (by omega) (by omega);clear hp hp9 h9;generalize Zz (Yb cs (8+k)) 3=p3 at *;go_wp2_with fail
     refine(HR.out w6 (4+k) (by omega) HB6.out).mono ?_;rintro e w4 ⟨rfl,h4⟩;obtain rfl:=h4.symm;go_wp2_with fail
     refine(HP.out w6 (4+k) 9 (by omega) (by omega)).mono ?_;rintro e w4 ⟨rfl,h4⟩;obtain rfl:=h4.symm;rw[<- HP9.out];go_wp2;go_meet
     refine⟨rfl,?_,?_⟩;show _=_;rw[HV.out.1,HV.out.2.1,HV.out.2.2,<- HP9.out];exact heap_setCell_same _ _ 2 _ 51 _ (heap_setCell_same _ _ 1 _ 51 _ (heap_setCell_same _ _ 0 _ 51 _ HR6.out));exact(((Za.refl (fun q=>q=wr.heap.size) w6).setCell (p:=⟨wr.heap.size,0,none⟩) (fun _=>rfl) _).setCell (p:=⟨wr.heap.size,1,none⟩) (fun _=>rfl) _).setCell (p:=⟨wr.heap.size,2,none⟩) (fun _=>rfl) _
    have q5:(((Zz (Yb cs (8+k)) 3:Nat):Int)==0)=false:=(by rw[beq_eq_false_iff_ne];omega);have HV:Hid (cfW cs k=false/\cfC cs k=(Zz (Yb cs (4+k)) 4:Nat)/\cfT cs k=0):=(by have hw:cfW cs k=false:=(by rw[HCW.out];exact decide_eq_false hp);have hw2:¬cfW cs k=true:=(by rw[hw];decide);exact⟨hw,by rw[HCC.out,if_neg hw2],by rw[HCT.out,if_neg hw2]⟩);go_wp2;go_meet
    refine⟨rfl,?_,Za.refl _ _⟩;show _=_;rw[HV.out.1,HV.out.2.1,HV.out.2.2];exact HR6.out
   case rest=>
    obtain⟨rfl,HRW,HTT⟩:=hcut;clear f0 f1 f2 g0 g1 g2 HR6;obtain⟨av,cv,rfl⟩:=HO6.out.shape;have hne1:cb≠wr.heap.size:=(by omega);have HCc:Hid (wc.heap[cb]? =some (.cells #[.slice av k cv,.int .i64 (cfB cs:Nat),.int .i64 (cfS cs:Nat),.int .i64 (cfU cs:Nat)] 37 (0,0))):=HTT.out.at_ HC6.out hne1;have HZc:Hid (wc.heap[w.heap.size]? =some (.cells #[.slice none 0 0,.int .i64 0,.int .i64 0,.int .i64 0] 37 (0,0))):=HTT.out.at_ HZ6.out (by omega)
    have HOc:Hid (ZbX wc w.heap.size (.slice av k cv) cs k):=HTT.out.row HO6.out (fun q hq e=>by
     have h1:=HOL.out q hq
     omega)
    have HBc:Hid (Below w.heap.size w wc):=HB6.out.trans (HTT.out.to_below HB6.out.size (fun q hq=>by rw[hq];exact hsz));have hcs:=HBc.out.size;have hcb:cb<wc.heap.size:=(Qb HCc.out).1;have g0:=cell_of_row _ _ 0 _ 51 (0,0) HRW.out;have g1:=cell_of_row _ _ 1 _ 51 (0,0) HRW.out;have g2:=cell_of_row _ _ 2 _ 51 (0,0) HRW.out;have g3:=cell_of_row _ _ 0 _ 37 (0,0) HCc.out;have HFS:Hid (ZcK cs (k+1)=ZcK cs k++[.bool (cfW cs k),.int .i64 (cfC cs k),.int .i64 (cfT cs k)]):=rfl;clear HTT HC6 HZ6 HO6 HB6 HRW;generalize cfW cs k=xW at *;generalize cfC cs k=xC at *;generalize cfT cs k=xT at *;have HROW:Hid (wc.ownsRow w.heap.size 51 3 (.slice av k cv) k (ZcK cs k)):=HOc.out
    go_wp2_with (at_builtin;refine Zf rfl (.tmp 51) (.tmp 53) 35 rfl w.heap.size 51 i0 (.agg #[.bool false,.int .i64 0,.int .i64 0]) 3 24 Tryz.underlying35 hinf hz0 hz1 hz2 rfl (by decide) (.slice av k cv) k (ZcK cs k) rfl (World.ownsRow.alloc HROW.out _) ⟨wc.heap.size,0,none⟩ 1 1 [.bool xW,.int .i64 xC,.int .i64 xT] rfl rfl ?_ ?_ ?_ ?_ ?_ ?_ ?_)
    exact Zu wc #[.bool xW,.int .i64 xC,.int .i64 xT] 51
    ·intro u hu;simp at hu;rcases hu with rfl|rfl|rfl<;>rfl
    decide;unfold maxLen;omega;omega;simp;omega;intro v4 w4 H4;obtain⟨r4,g4,d4,_,_⟩:=H4.out;have h2S:ZbX w4 w.heap.size v4 cs (k+1):=by unfold ZbX;rw[HFS.out];exact r4
    obtain⟨a4,c4,rfl⟩:=h2S.shape;obtain⟨w8,hw8⟩:∃w8,w8=wc.alloc (.cells #[.bool xW,.int .i64 xC,.int .i64 xT] 51):=⟨_,rfl⟩;rw[<- hw8] at g4 d4;have hb8:Below wc.heap.size wc w8:=(by rw[hw8];exact(Below.refl _ _).alloc (Qa _) _);have h8b:=hb8.size;have T:Za (fun q=>(Value.slice av k cv).ownBlock=some q) w8 w4:=(Za.refl _ w8).grown g4 (fun k hk _=>hk);have hR8:w8.ownsRow w.heap.size 51 3 (.slice av k cv) k (ZcK cs k):=(Za.of_below (S:=fun _=>False) hb8).row HROW.out (fun _ _=>id);have hE8:=(hb8.block cb hcb).trans HCc.out;have hZ8:=(hb8.block w.heap.size (by omega)).trans HZc.out;have hE4:w4.heap[cb]? =some (.cells #[.slice av k cv,.int .i64 (cfB cs:Nat),.int .i64 (cfS cs:Nat),.int .i64 (cfU cs:Nat)] 37 (0,0)):=T.at_ hE8 (fun e=>Zp hR8 e hE8 (by decide) rfl)
    have hZ4:w4.heap[w.heap.size]? =some (.cells #[.slice none 0 0,.int .i64 0,.int .i64 0,.int .i64 0] 37 (0,0)):=T.at_ hZ8 (fun e=>Zp hR8 e hZ8 (by decide) rfl);have f4:w4.cell? ⟨cb,0,none⟩=some (.slice av k cv):=cell_of_row _ _ 0 _ 37 (0,0) hE4;have z4:w4.frozen? ⟨cb,0,none⟩=false:=frozen_of_row _ _ 0 _ 37 hE4;have HE5:Hid ((w4.setCell ⟨cb,0,none⟩ (.slice a4 (k+1) c4)).heap[cb]? =some (.cells #[.slice a4 (k+1) c4,.int .i64 (cfB cs:Nat),.int .i64 (cfS cs:Nat),.int .i64 (cfU cs:Nat)] 37 (0,0))):=heap_setCell_same _ cb 0 _ 37 _ hE4;have HO5:Hid (ZbX (w4.setCell ⟨cb,0,none⟩ (.slice a4 (k+1) c4)) w.heap.size (.slice a4 (k+1) c4) cs (k+1)):=Zm h2S hE4 (by decide)
    have HZ5:Hid ((w4.setCell ⟨cb,0,none⟩ (.slice a4 (k+1) c4)).heap[w.heap.size]? =some (.cells #[.slice none 0 0,.int .i64 0,.int .i64 0,.int .i64 0] 37 (0,0))):=(by have t1:Za (fun q=>q=cb) w4 (w4.setCell ⟨cb,0,none⟩ (.slice a4 (k+1) c4)):=(Za.refl (fun q=>q=cb) w4).setCell (p:=⟨cb,0,none⟩) (fun _=>rfl) _;exact t1.at_ hZ4 (by omega));have HB5:Hid (Below w.heap.size w (w4.setCell ⟨cb,0,none⟩ (.slice a4 (k+1) c4))):=by have h1:Below w.heap.size w w8:=HBc.out.trans (hb8.mono hcs);exact(h1.grown g4 h1.size (fun q hq=>(World.ownsRow.lt hR8 q hq).1)).setCell (show w.heap.size<=cb by omega) _
    clear H4 r4 g4 d4 hw8 hb8 h8b T hR8 hE8 hZ8 hE4 hZ4 h2S HCc HZc HOc HBc HROW g0 g1 g2 g3;go_wp2;go_roundw;case rel=>exact⟨k+1,_,by go_num,by omega,HE5.out,HO5.out,HZ5.out,HB5.out⟩
    case measure=>simp[intOf];omega
  have hkm2:k=m+1:=(by omega);subst hkm2;have bk:¬((m+1:Nat):Int)<=(m:Int):=(by omega);have bk2:¬(m:Int)+1<=(m:Int):=(by omega);obtain⟨fk,fc,rfl,hfk,hft⟩:=HO.out.feats (by omega) (by omega);have hE:=HC.out;have e0:=cell_of_row _ _ 0 _ 37 (0,0) hE;have e1:=cell_of_row _ _ 1 _ 37 (0,0) hE;have e2:=cell_of_row _ _ 2 _ 37 (0,0) hE;have e3:=cell_of_row _ _ 3 _ 37 (0,0) hE;have hr0:=HZ.out;have r0:=cell_of_row _ _ 0 _ 37 (0,0) hr0;have r1:=cell_of_row _ _ 1 _ 37 (0,0) hr0;have r2:=cell_of_row _ _ 2 _ 37 (0,0) hr0;have r3:=cell_of_row _ _ 3 _ 37 (0,0) hr0;have z0:=frozen_of_row _ _ 0 _ 37 hr0;have z1:=frozen_of_row _ _ 1 _ 37 hr0;have z2:=frozen_of_row _ _ 2 _ 37 hr0;have z3:=frozen_of_row _ _ 3 _ 37 hr0;have HFT:Hid (ZbX wr w.heap.size (.slice (some ⟨fk,0,none⟩) (m+1) fc) cs (m+1)):=HO.out
  clear hE hr0 hft HO;go_wp2;refine bodyPost_ret (v:=.agg #[.slice (some ⟨fk,0,none⟩) (m+1) fc,.int .i64 (cfB cs:Nat),.int .i64 (cfS cs:Nat),.int .i64 (cfU cs:Nat)]) (by simp[results,Tryz.results23,go_sem, *]) rfl ?_;rw[<- HMM.out];have h1:=Zm HFT.out HZ.out (j:=0) (u:=.slice (some ⟨fk,0,none⟩) (m+1) fc) (by decide);have h2:=Zm h1 (by exact heap_setCell_same _ _ 0 _ 37 _ HZ.out) (j:=1) (u:=.int .i64 (cfB cs:Nat)) (by decide);have h3:=Zm h2 (by exact heap_setCell_same _ _ 1 _ 37 _ (heap_setCell_same _ _ 0 _ 37 _ HZ.out)) (j:=2) (u:=.int .i64 (cfS cs:Nat)) (by decide);have h4:=Zm h3 (by exact heap_setCell_same _ _ 2 _ 37 _ (heap_setCell_same _ _ 1 _ 37 _ (heap_setCell_same _ _ 0 _ 37 _ HZ.out))) (j:=3) (u:=.int .i64 (cfU cs:Nat)) (by decide)
  obtain⟨fk',fc',e,_,hf⟩:=ZbX.feats (show ZbX _ _ _ cs (m+1) from h4) (by omega) (by omega);simp only[Value.slice.injEq,Option.some.injEq,Addr.mk.injEq,and_true,true_and] at e;obtain⟨rfl,rfl⟩:=e;exact⟨fk,fc,rfl,hfk,hf,(((HB.out.setCell (Qa _) _).setCell (Qa _) _).setCell (Qa _) _).setCell (Qa _) _⟩
def ten:ByteArray:=⟨#[48,49,50,51,52,53,54,55,56,57]⟩
def Zhw(n:Nat):ByteArray:=ten.extract n (n+1)
def ZiZ(n:Nat):ByteArray:=if n<10 then Zhw n else Zhw (n/10)++Zhw (n%10)
def QP(z:Int):ByteArray:=if z<0 then⟨#[45]⟩++ZiZ (-z).toNat else ZiZ z.toNat
theorem Zp5:ten.size=10:=rfl
theorem Zak{n:Nat}(h:n<10):(Zhw n).size=1:=by unfold Zhw;rw[ByteArray.size_extract,Zp5];omega
theorem Zgp(n:Nat)(hn:n<10)(w:World):Calls Tryz.prog 48 #[.int .i64 (n:Nat)] w fun e w'=>e=.returned (.string (Zhw n))/\Below w.heap.size w w':=by have b0:¬(n:Int)<0:=(by omega);have b1:(n:Int)<10:=(by omega);have b2:(0:Int)<=(n:Int):=(by omega);have b3:(n:Int)<=(n:Int)+1:=(by omega);have b4:(n:Int)+1<=10:=(by omega);have q:IntKind.i64.wrap ((n:Int)+1)=((n+1:Nat):Int):=(by rw[ZA (by omega) (by omega)];omega);go_enter Tryz.func48,Tryz.ntmps48;go_wp2;go_ret;exact⟨rfl,Below.refl _ _⟩
theorem Zgq(n:Nat)(hn:n<100)(w:World):Calls Tryz.prog 48 #[.int .i64 (n:Nat)] w fun e w'=>e=.returned (.string (ZiZ n))/\Below w.heap.size w w':=by
 unfold ZiZ
 by_cases h10:n<10
 rw[if_pos h10];exact Zgp n h10 w;rw[if_neg h10];obtain⟨a,ha⟩:∃a,a=n/10:=⟨_,rfl⟩;obtain⟨b,hb⟩:∃b,b=n%10:=⟨_,rfl⟩;rw[<- ha,<- hb];have b0:¬(n:Int)<0:=(by omega);have b1:¬(n:Int)<10:=by omega
 have q1:(n:Int).tdiv 10=(a:Int):=(by rw[Int.tdiv_eq_ediv_of_nonneg (by omega)];omega);have q2:(n:Int).tmod 10=(b:Int):=by rw[Int.tmod_eq_emod_of_nonneg (by omega)];omega
 have q4:IntKind.i64.wrap (a:Int)=(a:Int):=ZA (by omega) (by omega);have q5:IntKind.i64.wrap ((n:Int).tdiv 10)=(a:Int):=(by rw[q1];exact q4);have q3:IntKind.i64.wrap ((b:Int)+1)=((b+1:Nat):Int):=(by rw[ZA (by omega) (by omega)];omega);have c2:(0:Int)<=(b:Int):=(by omega);have c3:(b:Int)<=(b:Int)+1:=(by omega);have c4:(b:Int)+1<=10:=(by omega);have HD:Hid (∀W:World,Calls Tryz.prog 48 #[.int .i64 (a:Nat)] W fun e w'=>e=.returned (.string (Zhw a))/\Below W.heap.size W w'):=fun W=>Zgp a (by omega) W;have HS:Hid ((Zhw a).size=1/\(ten.extract b (b+1)).size=1):=⟨Zak (by omega),Zak (n:=b) (by omega)⟩;obtain⟨s1,s2⟩:=HS.out;have HT:Hid (Zhw b=ten.extract b (b+1)):=rfl;unfold ten at s2 HT;generalize Zhw a=A at *;clear ha hb h10
 go_enter Tryz.func48,Tryz.ntmps48;go_wp2_with fail
 go_region_held3 (fun _=>True) (trivial) (first|(go_at_call 48;refine(HD.out _).mono ?_;rintro e w1 ⟨rfl,hb1⟩))
 have HB:Hid (Below w.heap.size w w1):=(Below.refl _ _).drew.trans (hb1.mono (by simp));clear hb1;go_wp2;go_ret;exact⟨by rw[HT.out];rfl,HB.out⟩
theorem Zgo(z:Int)(h1: -99<=z)(h2:z<=99)(w:World):Calls Tryz.prog 48 #[.int .i64 z] w fun e w'=>e=.returned (.string (QP z))/\Below w.heap.size w w':=by
 unfold QP
 by_cases h0:z<0
 ·rw[if_pos h0];have HD:=Zgq (-z).toNat (by omega) w;rw[show(((-z).toNat:Nat):Int)= -z by omega] at HD;have q1:IntKind.i64.wrap (-z)= -z:=ZA (by omega) (by omega);have hs:(ZiZ (-z).toNat).size<=2:=(by unfold ZiZ;split;rw[Zak (by omega)];omega;rw[ByteArray.size_append,Zak (by omega),Zak (by omega)];omega);generalize ZiZ (-z).toNat=A at *;go_enter Tryz.func48,Tryz.ntmps48;go_wp2_with fail
  refine HD.mono ?_;rintro e w1 ⟨rfl,hb1⟩;have HB:Hid (Below w.heap.size w w1):=hb1;clear hb1;go_wp2;go_ret;exact⟨rfl,HB.out⟩
 rw[if_neg h0];have HD:=Zgq z.toNat (by omega) w
 rwa [show((z.toNat:Nat):Int)=z by omega] at HD
def Zk0(p:Nat):ByteArray:=[(⟨#[97]⟩:ByteArray),⟨#[98]⟩,⟨#[34,97,32,98,34]⟩,⟨#[34,34]⟩,⟨#[122,122]⟩,⟨#[34,120,34,34,121,34]⟩].getD p ⟨#[]⟩
def Zp9(p:Nat):ByteArray:=[(⟨#[97]⟩:ByteArray),⟨#[98]⟩,⟨#[97,32,98]⟩,⟨#[]⟩,⟨#[122,122]⟩,⟨#[120,34,121]⟩].getD p ⟨#[]⟩
def kN(n:Int):Int:=((Zz n 61:Nat):Int)-30
def Zfp(sc n:Int):Bool:=decide (0<sc/\Zz n 4=0/\0<=kN n)
def fdT(wd:Bool)(sc n:Int):ByteArray:=if wd=true then Zk0 (Zz n 6) else if Zfp sc n=true then QP (kN n)++⟨#[46,53]⟩ else QP (kN n)
def fdV(wd:Bool)(sc n:Int):Int:=if wd=true then 0 else if Zfp sc n=true then kN n*ZL sc.toNat+ZL sc.toNat/2 else kN n*ZL sc.toNat
def fdS(wd:Bool)(n:Int):ByteArray:=if wd=true then Zp9 (Zz n 6) else⟨#[]⟩
theorem Zc5{z:Int}(h1: -99<=z)(h2:z<=99):(QP z).size<=3:=by
 have hp:∀n,n<100->(ZiZ n).size<=2:=fun n hn=>by unfold ZiZ;split;rw[Zak (by omega)];omega;rw[ByteArray.size_append,Zak (by omega),Zak (by omega)];omega
 unfold QP;split;rw[ByteArray.size_append];have:=hp (-z).toNat (by omega);have e:(⟨#[45]⟩:ByteArray).size=1:=rfl;omega;have:=hp z.toNat (by omega);omega
theorem ZlF(sc ct n:Int)(hn:(Lit.int .i64 n).wf=true)(w:World):Calls Tryz.prog 49 #[.agg #[.bool true,.int .i64 sc,.int .i64 ct],.int .i64 n] w fun e w'=>e=.returned (.tuple #[.string (Zk0 (Zz n 6)),.int .i64 0,.string (Zp9 (Zz n 6))])/\Below w.heap.size w w':=by
 have HP:Hid (∀W:World,Calls Tryz.prog 17 #[.int .i64 n,.int .i64 6] W fun e w'=>e=.returned (.int .i64 (Zz n 6:Nat))/\w'=W):=fun W=>YR n 6 W hn (by omega) (by omega);have hp:=Yr n (show 0<6 by omega);generalize Zz n 6=p at *;clear hn;go_enter Tryz.func49,Tryz.ntmps49;go_wp2_with fail
 refine(HP.out _).mono ?_;rintro e w1 ⟨rfl,h1⟩;obtain rfl:=h1.symm
 rcases(show p=0∨p=1∨p=2∨p=3∨p=4∨p=5 by omega) with rfl|rfl|rfl|rfl|rfl|rfl
 ·go_wp2_with fail
  refine(HP.out _).mono ?_;rintro e w2 ⟨rfl,h2⟩;obtain rfl:=h2.symm;go_wp2;refine bodyPost_ret (v:=.tuple #[.string ⟨#[97]⟩,.int .i64 0,.string ⟨#[97]⟩]) (by simp[results,Tryz.results49,go_sem]) rfl ?_;exact⟨rfl,(((Below.refl _ _).alloc (Qa _) _).alloc (by simp) _).alloc (by simp;omega) _⟩
 ·go_wp2_with fail
  refine(HP.out _).mono ?_;rintro e w2 ⟨rfl,h2⟩;obtain rfl:=h2.symm;go_wp2;refine bodyPost_ret (v:=.tuple #[.string ⟨#[98]⟩,.int .i64 0,.string ⟨#[98]⟩]) (by simp[results,Tryz.results49,go_sem]) rfl ?_;exact⟨rfl,(((Below.refl _ _).alloc (Qa _) _).alloc (by simp) _).alloc (by simp;omega) _⟩
 ·go_wp2_with fail
  refine(HP.out _).mono ?_;rintro e w2 ⟨rfl,h2⟩;obtain rfl:=h2.symm;go_wp2;refine bodyPost_ret (v:=.tuple #[.string ⟨#[34,97,32,98,34]⟩,.int .i64 0,.string ⟨#[97,32,98]⟩]) (by simp[results,Tryz.results49,go_sem]) rfl ?_;exact⟨rfl,(((Below.refl _ _).alloc (Qa _) _).alloc (by simp) _).alloc (by simp;omega) _⟩
 ·go_wp2_with fail
  refine(HP.out _).mono ?_;rintro e w2 ⟨rfl,h2⟩;obtain rfl:=h2.symm;go_wp2;refine bodyPost_ret (v:=.tuple #[.string ⟨#[34,34]⟩,.int .i64 0,.string ⟨#[]⟩]) (by simp[results,Tryz.results49,go_sem]) rfl ?_;exact⟨rfl,(((Below.refl _ _).alloc (Qa _) _).alloc (by simp) _).alloc (by simp;omega) _⟩
 ·go_wp2_with fail
  refine(HP.out _).mono ?_;rintro e w2 ⟨rfl,h2⟩;obtain rfl:=h2.symm;go_wp2;refine bodyPost_ret (v:=.tuple #[.string ⟨#[122,122]⟩,.int .i64 0,.string ⟨#[122,122]⟩]) (by simp[results,Tryz.results49,go_sem]) rfl ?_;exact⟨rfl,(((Below.refl _ _).alloc (Qa _) _).alloc (by simp) _).alloc (by simp;omega) _⟩
 go_wp2_with fail
 refine(HP.out _).mono ?_;rintro e w2 ⟨rfl,h2⟩;obtain rfl:=h2.symm;go_wp2;refine bodyPost_ret (v:=.tuple #[.string ⟨#[34,120,34,34,121,34]⟩,.int .i64 0,.string ⟨#[120,34,121]⟩]) (by simp[results,Tryz.results49,go_sem]) rfl ?_;exact⟨rfl,(((Below.refl _ _).alloc (Qa _) _).alloc (by simp) _).alloc (by simp;omega) _⟩
theorem ZnH(sc ct n:Int)(hn:(Lit.int .i64 n).wf=true)(h0:0<=sc)(h3:sc<=3)(w:World):Calls Tryz.prog 49 #[.agg #[.bool false,.int .i64 sc,.int .i64 ct],.int .i64 n] w fun e w'=>e=.returned (.tuple #[.string (fdT false sc n),.int .i64 (fdV false sc n),.string ⟨#[]⟩])/\Below w.heap.size w w':=by
 have HP61:Hid (∀W:World,Calls Tryz.prog 17 #[.int .i64 n,.int .i64 61] W fun e w'=>e=.returned (.int .i64 (Zz n 61:Nat))/\w'=W):=fun W=>YR n 61 W hn (by omega) (by omega);have HP4:Hid (∀W:World,Calls Tryz.prog 17 #[.int .i64 n,.int .i64 4] W fun e w'=>e=.returned (.int .i64 (Zz n 4:Nat))/\w'=W):=fun W=>YR n 4 W hn (by omega) (by omega);have hp:=Yr n (show 0<61 by omega);have hk1: -30<=kN n/\kN n<=30:=(by unfold kN;omega);have qk:IntKind.i64.wrap (((Zz n 61:Nat):Int)-30)=kN n:=(by rw[ZA (by omega) (by omega)];rfl);have HD:Hid (∀W:World,Calls Tryz.prog 48 #[.int .i64 (kN n)] W fun e w'=>e=.returned (.string (QP (kN n)))/\Below W.heap.size W w'):=fun W=>Zgo (kN n) (by omega) (by omega) W;have hds:(QP (kN n)).size<=3:=Zc5 (by omega) (by omega)
 have HT:Hid (fdT false sc n=if Zfp sc n=true then QP (kN n)++⟨#[46,53]⟩ else QP (kN n)):=rfl;have HV:Hid (fdV false sc n=if Zfp sc n=true then kN n*ZL sc.toNat+ZL sc.toNat/2 else kN n*ZL sc.toNat):=rfl;have HH:Hid (Zfp sc n=decide (0<sc/\Zz n 4=0/\0<=kN n)):=rfl;generalize fdT false sc n=fT at *;generalize fdV false sc n=fV at *;generalize Zfp sc n=hN at *;generalize Zz n 61=p61 at *;generalize Zz n 4=p4 at *;generalize kN n=kk at *;clear hn hp
 rcases(show sc=0∨sc=1∨sc=2∨sc=3 by omega) with rfl|rfl|rfl|rfl
 ·have HF:Hid (hN=false):=(by show _=_;rw[HH.out];exact decide_eq_false (by omega));have q1:IntKind.i64.wrap (kk*1)=kk*1:=ZA (by omega) (by omega);go_enter Tryz.func49,Tryz.ntmps49;go_wp2_with fail
  refine(HP61.out _).mono ?_;rintro e w1 ⟨rfl,h1⟩;obtain rfl:=h1.symm;go_wp2_with fail
  refine(HD.out _).mono ?_;rintro e w3 ⟨rfl,hb3⟩;have HB:Hid (Below w.heap.size w w3):=(((Below.refl _ _).alloc (Qa _) _).alloc (by simp) _).trans (hb3.mono (by simp;omega));clear hb3;go_wp2;refine bodyPost_ret (v:=.tuple #[.string (QP kk),.int .i64 (kk*1),.string ⟨#[]⟩]) (by simp[results,Tryz.results49,go_sem]) rfl ?_;exact⟨by rw[HT.out,HV.out,HF.out];rfl,HB.out⟩
 ·have q1:IntKind.i64.wrap (kk*10)=kk*10:=ZA (by omega) (by omega);go_enter Tryz.func49,Tryz.ntmps49;go_wp2_with fail
  refine(HP61.out _).mono ?_;rintro e w1 ⟨rfl,h1⟩;obtain rfl:=h1.symm;go_wp2_with fail
  refine(HP4.out _).mono ?_;rintro e w2 ⟨rfl,h2⟩;obtain rfl:=h2.symm
  by_cases hc:p4=0/\0<=kk
  ·have HF:Hid (hN=true):=(by show _=_;rw[HH.out];exact decide_eq_true (by omega));have q4:((p4:Int)==0)=true:=(by rw[hc.1];rfl);have q5:0<=kk:=hc.2;have q6:IntKind.i64.wrap (kk*10+5)=kk*10+5:=ZA (by omega) (by omega);clear hc;go_wp2_with fail
   refine(HD.out _).mono ?_;rintro e w3 ⟨rfl,hb3⟩;have HB:Hid (Below w.heap.size w w3):=(((Below.refl _ _).alloc (Qa _) _).alloc (by simp) _).trans (hb3.mono (by simp;omega));clear hb3;go_wp2;refine bodyPost_ret (v:=.tuple #[.string (QP kk++⟨#[46,53]⟩),.int .i64 (kk*10+5),.string ⟨#[]⟩]) (by simp[results,Tryz.results49,go_sem]) rfl ?_;exact⟨by rw[HT.out,HV.out,HF.out];rfl,HB.out⟩
  have HF:Hid (hN=false):=by show _=_;rw[HH.out];exact decide_eq_false (by omega)
  by_cases hp4:p4=0
  ·have q4:((p4:Int)==0)=true:=(by rw[hp4];rfl);have q5:¬0<=kk:=(by omega);clear hc hp4;go_wp2_with fail
   refine(HD.out _).mono ?_;rintro e w3 ⟨rfl,hb3⟩;have HB:Hid (Below w.heap.size w w3):=(((Below.refl _ _).alloc (Qa _) _).alloc (by simp) _).trans (hb3.mono (by simp;omega));clear hb3;go_wp2;refine bodyPost_ret (v:=.tuple #[.string (QP kk),.int .i64 (kk*10),.string ⟨#[]⟩]) (by simp[results,Tryz.results49,go_sem]) rfl ?_;exact⟨by rw[HT.out,HV.out,HF.out];rfl,HB.out⟩
  have q4:((p4:Int)==0)=false:=(by rw[beq_eq_false_iff_ne];omega);clear hc;go_wp2_with fail
  refine(HD.out _).mono ?_;rintro e w3 ⟨rfl,hb3⟩;have HB:Hid (Below w.heap.size w w3):=(((Below.refl _ _).alloc (Qa _) _).alloc (by simp) _).trans (hb3.mono (by simp;omega));clear hb3;go_wp2;refine bodyPost_ret (v:=.tuple #[.string (QP kk),.int .i64 (kk*10),.string ⟨#[]⟩]) (by simp[results,Tryz.results49,go_sem]) rfl ?_;exact⟨by rw[HT.out,HV.out,HF.out];rfl,HB.out⟩
 ·have q1:IntKind.i64.wrap (kk*100)=kk*100:=ZA (by omega) (by omega);go_enter Tryz.func49,Tryz.ntmps49;go_wp2_with fail
  refine(HP61.out _).mono ?_;rintro e w1 ⟨rfl,h1⟩;obtain rfl:=h1.symm;go_wp2_with fail
  refine(HP4.out _).mono ?_;rintro e w2 ⟨rfl,h2⟩;obtain rfl:=h2.symm
  by_cases hc:p4=0/\0<=kk
  ·have HF:Hid (hN=true):=(by show _=_;rw[HH.out];exact decide_eq_true (by omega));have q4:((p4:Int)==0)=true:=(by rw[hc.1];rfl);have q5:0<=kk:=hc.2;have q6:IntKind.i64.wrap (kk*100+50)=kk*100+50:=ZA (by omega) (by omega);clear hc;go_wp2_with fail
   refine(HD.out _).mono ?_;rintro e w3 ⟨rfl,hb3⟩;have HB:Hid (Below w.heap.size w w3):=(((Below.refl _ _).alloc (Qa _) _).alloc (by simp) _).trans (hb3.mono (by simp;omega));clear hb3;go_wp2;refine bodyPost_ret (v:=.tuple #[.string (QP kk++⟨#[46,53]⟩),.int .i64 (kk*100+50),.string ⟨#[]⟩]) (by simp[results,Tryz.results49,go_sem]) rfl ?_;exact⟨by rw[HT.out,HV.out,HF.out];rfl,HB.out⟩
  have HF:Hid (hN=false):=by show _=_;rw[HH.out];exact decide_eq_false (by omega)
  by_cases hp4:p4=0
  ·have q4:((p4:Int)==0)=true:=(by rw[hp4];rfl);have q5:¬0<=kk:=(by omega);clear hc hp4;go_wp2_with fail
   refine(HD.out _).mono ?_;rintro e w3 ⟨rfl,hb3⟩;have HB:Hid (Below w.heap.size w w3):=(((Below.refl _ _).alloc (Qa _) _).alloc (by simp) _).trans (hb3.mono (by simp;omega));clear hb3;go_wp2;refine bodyPost_ret (v:=.tuple #[.string (QP kk),.int .i64 (kk*100),.string ⟨#[]⟩]) (by simp[results,Tryz.results49,go_sem]) rfl ?_;exact⟨by rw[HT.out,HV.out,HF.out];rfl,HB.out⟩
  have q4:((p4:Int)==0)=false:=(by rw[beq_eq_false_iff_ne];omega);clear hc;go_wp2_with fail
  refine(HD.out _).mono ?_;rintro e w3 ⟨rfl,hb3⟩;have HB:Hid (Below w.heap.size w w3):=(((Below.refl _ _).alloc (Qa _) _).alloc (by simp) _).trans (hb3.mono (by simp;omega));clear hb3;go_wp2;refine bodyPost_ret (v:=.tuple #[.string (QP kk),.int .i64 (kk*100),.string ⟨#[]⟩]) (by simp[results,Tryz.results49,go_sem]) rfl ?_;exact⟨by rw[HT.out,HV.out,HF.out];rfl,HB.out⟩
 have q1:IntKind.i64.wrap (kk*1000)=kk*1000:=ZA (by omega) (by omega);go_enter Tryz.func49,Tryz.ntmps49;go_wp2_with fail
 refine(HP61.out _).mono ?_;rintro e w1 ⟨rfl,h1⟩;obtain rfl:=h1.symm;go_wp2_with fail
 refine(HP4.out _).mono ?_;rintro e w2 ⟨rfl,h2⟩;obtain rfl:=h2.symm
 by_cases hc:p4=0/\0<=kk
 ·have HF:Hid (hN=true):=(by show _=_;rw[HH.out];exact decide_eq_true (by omega));have q4:((p4:Int)==0)=true:=(by rw[hc.1];rfl);have q5:0<=kk:=hc.2;have q6:IntKind.i64.wrap (kk*1000+500)=kk*1000+500:=ZA (by omega) (by omega);clear hc;go_wp2_with fail
  refine(HD.out _).mono ?_;rintro e w3 ⟨rfl,hb3⟩;have HB:Hid (Below w.heap.size w w3):=(((Below.refl _ _).alloc (Qa _) _).alloc (by simp) _).trans (hb3.mono (by simp;omega));clear hb3;go_wp2;refine bodyPost_ret (v:=.tuple #[.string (QP kk++⟨#[46,53]⟩),.int .i64 (kk*1000+500),.string ⟨#[]⟩]) (by simp[results,Tryz.results49,go_sem]) rfl ?_;exact⟨by rw[HT.out,HV.out,HF.out];rfl,HB.out⟩
 have HF:Hid (hN=false):=by show _=_;rw[HH.out];exact decide_eq_false (by omega)
 by_cases hp4:p4=0
 ·have q4:((p4:Int)==0)=true:=(by rw[hp4];rfl);have q5:¬0<=kk:=(by omega);clear hc hp4;go_wp2_with fail
  refine(HD.out _).mono ?_;rintro e w3 ⟨rfl,hb3⟩;have HB:Hid (Below w.heap.size w w3):=(((Below.refl _ _).alloc (Qa _) _).alloc (by simp) _).trans (hb3.mono (by simp;omega));clear hb3;go_wp2;refine bodyPost_ret (v:=.tuple #[.string (QP kk),.int .i64 (kk*1000),.string ⟨#[]⟩]) (by simp[results,Tryz.results49,go_sem]) rfl ?_;exact⟨by rw[HT.out,HV.out,HF.out];rfl,HB.out⟩
 have q4:((p4:Int)==0)=false:=(by rw[beq_eq_false_iff_ne];omega);clear hc;go_wp2_with fail
 refine(HD.out _).mono ?_;rintro e w3 ⟨rfl,hb3⟩;have HB:Hid (Below w.heap.size w w3):=(((Below.refl _ _).alloc (Qa _) _).alloc (by simp) _).trans (hb3.mono (by simp;omega));clear hb3;go_wp2;refine bodyPost_ret (v:=.tuple #[.string (QP kk),.int .i64 (kk*1000),.string ⟨#[]⟩]) (by simp[results,Tryz.results49,go_sem]) rfl ?_;exact⟨by rw[HT.out,HV.out,HF.out];rfl,HB.out⟩
theorem ZnG(wd:Bool)(sc ct n:Int)(hn:(Lit.int .i64 n).wf=true)(hsc:wd=false->0<=sc/\sc<=3)(w:World):Calls Tryz.prog 49 #[.agg #[.bool wd,.int .i64 sc,.int .i64 ct],.int .i64 n] w fun e w'=>e=.returned (.tuple #[.string (fdT wd sc n),.int .i64 (fdV wd sc n),.string (fdS wd n)])/\Below w.heap.size w w':=by
 cases wd
 exact ZnH sc ct n hn (hsc rfl).1 (hsc rfl).2 w;exact ZlF sc ct n hn w
theorem ZjR(x y r:Nat)(W:World):Calls Tryz.prog 373 #[.agg #[.int .i64 (x:Nat),.int .i64 (y:Nat)],.int .i64 (r:Nat)] W fun e w'=>e=.returned (.int .i64 (Lib.compareInt (x:Nat) (r:Nat)))/\Below W.heap.size W w':=by
 have H1:Hid (∀w:World,Calls Tryz.prog 151 #[.int .i64 (x:Nat),.int .i64 (r:Nat)] w fun e w'=>e=.returned (.int .i64 (Lib.compareInt (x:Nat) (r:Nat)))/\w'=w):=fun w=>Tryz.cmp_Compare_int _ _ w;generalize Lib.compareInt (x:Nat) (r:Nat)=c1 at *;go_enter Tryz.func373,Tryz.ntmps373;go_wp2_with fail
 refine(H1.out _).mono ?_;rintro e w3 ⟨rfl,hw3⟩;obtain rfl:=hw3.symm;go_wp2;go_ret;exact⟨rfl,(Below.refl _ _).alloc (Qa _) _⟩
theorem ZmS(x r:Nat):Lib.compareInt (x:Nat) (r:Nat)<0↔x<r:=by unfold Lib.compareInt;split<;>(try split)<;>omega
theorem ZmR(x r:Nat):Lib.compareInt (x:Nat) (r:Nat)=0↔x=r:=by unfold Lib.compareInt;split<;>(try split)<;>omega
structure ZmE(L:List (Nat×Nat))(r i:Nat):Prop where
 le:i<=L.length
 lo:∀k,k<i->(L.getD k (0,0)).1<r
 hi:∀k,i<=k->k<L.length->r<=(L.getD k (0,0)).1
def Zbn(L:List (Nat×Nat))(r i:Nat):Bool:=decide (i<L.length/\(L.getD i (0,0)).1=r)
def ZrU(W:World)(L:List (Nat×Nat))(r:Nat)(e:Ending)(w':World):Prop:=∃i,e=.returned (.tuple #[.int .i64 (i:Nat),.bool (Zbn L r i)])/\ZmE L r i/\Below W.heap.size W w'
theorem ZnM(a:Option Addr)(c r:Nat)(L:List (Nat×Nat))(w:World)(h:Zdr w 0 (.slice a L.length c) L)(hs:L.Pairwise (fun x y=>x.1<y.1))(hl:L.length<=1000000):Calls Tryz.prog 372 #[.slice a L.length c,.int .i64 (r:Nat),.func (.func 373) #[] #[]] w fun e w'=>ZrU w L r e w':=by
 have H0:Hid (Zdr w 0 (.slice a L.length c) L):=h
 have HS:Hid (∀i j,i<j->j<L.length->(L.getD i (0,0)).1<(L.getD j (0,0)).1):=fun i j hij hj=>by
  have:=List.pairwise_iff_getElem.1 hs i j (by omega) hj hij
  simpa [Qc,Qd hj,Qd (show i<L.length by omega)] using this
 have HC:Hid (∀(x y:Nat) (W:World),Calls Tryz.prog 373 #[.agg #[.int .i64 (x:Nat),.int .i64 (y:Nat)],.int .i64 (r:Nat)] W fun e w'=>e=.returned (.int .i64 (Lib.compareInt (x:Nat) (r:Nat)))/\Below W.heap.size W w'):=fun x y W=>ZjR x y r W;clear h hs;generalize hnl:L.length=n at *;have HN:Hid (L.length=n):=hnl;clear hnl;go_enter Tryz.func372,Tryz.ntmps372;go_wp2_with fail
 go_loopw [9,10] (fun ti tj wr=>∃(i j:Nat),ti=.int .i64 i/\tj=.int .i64 j/\i<=j/\j<=n/\Hid ((∀k,k<i->(L.getD k (0,0)).1<r)/\(∀k,j<=k->k<n->r<=(L.getD k (0,0)).1)/\Below w.heap.size w wr)) (fun ti tj _=>(intOf tj).toNat-(intOf ti).toNat)
 case atStart=>exact⟨0,n,rfl,rfl,Qg _,Qa _,fun k hk=>by omega,fun k h1 h2=>by omega,Below.refl _ _⟩
 case round=>
  obtain⟨i,j,rfl,rfl,hij,hjn,HR⟩:=hrel
  by_cases hlt:i<j
  ·have b1:(i:Int)<(j:Int):=(by omega);have hm:(i+j)/2<n:=(by omega);obtain⟨q,hq,hql,y0,y1⟩:=(show Zdr w 0 (.slice a L.length c) L by rw[HN.out];exact H0.out).atK (k:=(i+j)/2) (by rw[HN.out];exact hm);have e0:=(HR.out.2.2.cell (p:=⟨q,(i+j)/2*2,none⟩) hql).trans y0;have e1:=(HR.out.2.2.cell (p:=⟨q,(i+j)/2*2+1,none⟩) hql).trans y1;clear y0 y1;subst hq;generalize hmm:(i+j)/2=m at *;have hmi:((i:Int)+(j:Int))/2=(m:Int):=(by omega);have bm1:(0:Int)<=(m:Int):=(by omega);have bm2:(m:Int)<(n:Int):=(by omega);have HM:Hid ((i+j)/2=m):=hmm;clear hmm
   have HX:Hid ((∀k,k<=m->(L.getD k (0,0)).1<=(L.getD m (0,0)).1)/\(∀k,m<=k->k<n->(L.getD m (0,0)).1<=(L.getD k (0,0)).1)):=⟨fun k hk=>by
    rcases Nat.lt_or_ge k m with h1|h1
    exact Nat.le_of_lt (HS.out k m h1 hm)
    ·rw[show k=m by omega];exact Qa _,fun k hk hkn=>by
    rcases Nat.lt_or_ge m k with h1|h1
    exact Nat.le_of_lt (HS.out m k h1 hkn)
    rw[show k=m by omega];exact Qa _⟩
   generalize (L.getD m (0,0)).1=xr at *;generalize (L.getD m (0,0)).2=xn at *;go_wp2_with fail
   refine(HC.out _ _ _).mono ?_;rintro e w3 ⟨rfl,hb3⟩;have HB3:Hid (Below w.heap.size w w3):=HR.out.2.2.trans (hb3.mono HR.out.2.2.size);clear hb3 e0 e1
   by_cases hx:xr<r
   ·have hc:=(ZmS xr r).2 hx;generalize Lib.compareInt (xr:Nat) (r:Nat)=c1 at *;go_wp2;go_roundw;case rel=>exact⟨m+1,j,by go_num,rfl,by omega,hjn,fun k hk=>by have:=HX.out.1 k (by omega);omega,HR.out.2.1,HB3.out⟩
    case measure=>simp[intOf];omega
   have hc:¬Lib.compareInt (xr:Nat) (r:Nat)<0:=fun h=>hx ((ZmS xr r).1 h);generalize Lib.compareInt (xr:Nat) (r:Nat)=c1 at *;go_wp2;go_roundw;case rel=>exact⟨i,m,rfl,rfl,by omega,by omega,HR.out.1,fun k h1 h2=>by have:=HX.out.2 k h1 h2;omega,HB3.out⟩
   case measure=>simp[intOf];omega
  have hni:¬(i:Int)<(j:Int):=(by omega);have hie:i=j:=(by omega);subst hie
  by_cases hin:i<n
  ·have b2:(i:Int)<(n:Int):=(by omega);have b3:(0:Int)<=(i:Int):=(by omega);obtain⟨q,hq,hql,y0,y1⟩:=(show Zdr w 0 (.slice a L.length c) L by rw[HN.out];exact H0.out).atK (k:=i) (by rw[HN.out];exact hin);have e0:=(HR.out.2.2.cell (p:=⟨q,i*2,none⟩) hql).trans y0;have e1:=(HR.out.2.2.cell (p:=⟨q,i*2+1,none⟩) hql).trans y1;clear y0 y1;subst hq;have HFO:Hid (Zbn L r i=decide ((L.getD i (0,0)).1=r)):=(by show _=_;unfold Zbn;rw[HN.out];simp[hin]);generalize (L.getD i (0,0)).1=xr at *;generalize (L.getD i (0,0)).2=xn at *;go_wp2_with fail
   refine(HC.out _ _ _).mono ?_;rintro e w3 ⟨rfl,hb3⟩;have HB3:Hid (Below w.heap.size w w3):=HR.out.2.2.trans (hb3.mono HR.out.2.2.size);clear hb3 e0 e1
   by_cases hx:xr=r
   ·have hc:=(ZmR xr r).2 hx;rw[hc];go_wp2;go_ret2
    exact⟨i,by rw[HFO.out];simp[hx],⟨by rw[HN.out];exact hjn,HR.out.1,by rw[HN.out];exact HR.out.2.1⟩,HB3.out⟩
   have hc:¬Lib.compareInt (xr:Nat) (r:Nat)=0:=fun h=>hx ((ZmR xr r).1 h);generalize Lib.compareInt (xr:Nat) (r:Nat)=c1 at *;go_wp2;go_ret2
   exact⟨i,by rw[HFO.out];simp[hx,hc],⟨by rw[HN.out];exact hjn,HR.out.1,by rw[HN.out];exact HR.out.2.1⟩,HB3.out⟩
  have b2:¬(i:Int)<(n:Int):=(by omega);have HFO:Hid (Zbn L r i=false):=(by show _=_;unfold Zbn;rw[HN.out];simp[hin]);go_wp2;go_ret2
  exact⟨i,by rw[HFO.out];rfl,⟨by rw[HN.out];exact hjn,HR.out.1,by rw[HN.out];exact HR.out.2.1⟩,HR.out.2.2⟩
theorem Zcl(N:List Nat):∀(k:Nat) (x:Nat×Nat),x∈Yh N k↔x.1<k/\x.2=N.getD x.1 0/\x.2≠0
 |0,x=>by simp[Yh]
 | k +1,x=>by
  obtain⟨x1,x2⟩:=x;rw[Yh,List.mem_append,Zcl N k]
  by_cases h0:N.getD k 0=0
  ·rw[if_pos h0];simp only[List.not_mem_nil,or_false];constructor;rintro⟨h1,h2,h3⟩;exact⟨by omega,h2,h3⟩;rintro⟨h1,h2,h3⟩;refine⟨?_,h2,h3⟩
   rcases Nat.lt_or_ge x1 k with h4|h4
   exact h4;have e:x1=k:=(by omega);subst e;exact absurd (h2.trans h0) h3
  rw[if_neg h0];simp only[List.mem_singleton,Prod.mk.injEq];constructor;rintro(⟨h1,h2,h3⟩|⟨h1,h2⟩);exact⟨by omega,h2,h3⟩;subst h1;exact⟨by omega,h2,by rw[h2];exact h0⟩;rintro⟨h1,h2,h3⟩
  rcases Nat.lt_or_ge x1 k with h4|h4
  exact .inl ⟨h4,h2,h3⟩;have e:x1=k:=(by omega);subst e;exact .inr ⟨rfl,h2⟩
theorem ZeK(N:List Nat):∀k,(Yh N k).Pairwise (fun x y=>x.1<y.1)
 |0=>by simp[Yh]
 |k+1=>by rw[Yh,List.pairwise_append];refine⟨ZeK N k,by split<;>simp,fun x hx y hy=>?_⟩;have h1:=((Zcl N k x).1 hx).1;split at hy;simp at hy;rw[List.mem_singleton] at hy;subst hy;exact h1
theorem Zpk{N:List Nat}{k r i:Nat}(hr:r<k)(h:ZmE (Yh N k) r i):(if Zbn (Yh N k) r i=true then((Yh N k).getD i (0,0)).2 else 0)=N.getD r 0:=by
 have hp:=ZeK N k;have hm:=Zcl N k;generalize Yh N k=L at *
 by_cases h0:N.getD r 0=0
 rw[h0,if_neg];intro hf;simp only[Zbn,decide_eq_true_eq] at hf;have hin:L.getD i (0,0)∈L:=(by rw[Qc,Qd hf.1];exact Qf _);have:=(hm _).1 hin;rw[hf.2,h0] at this;exact this.2.2 this.2.1
 have hin:(r,N.getD r 0)∈L:=(hm _).2 ⟨hr,rfl,h0⟩;obtain⟨p,hpl,hpe⟩:=List.getElem_of_mem hin;have hpg:L.getD p (0,0)=(r,N.getD r 0):=by rw[Qc,Qd hpl];exact hpe
 have hpi:p=i:=by
  rcases Nat.lt_trichotomy p i with h1|h1|h1
  have:=h.lo p h1;rw[hpg] at this;simp at this;exact h1;have h2:=h.hi i (Qa _) (by omega);have h3:=List.pairwise_iff_getElem.1 hp i p (by omega) hpl h1;rw[hpe] at h3;rw[Qc,Qd (show i<L.length by omega)] at h2;simp only[Option.getD_some] at h2;omega
 subst hpi;rw[if_pos,hpg];simp only[Zbn,decide_eq_true_eq];exact⟨hpl,by rw[hpg]⟩
theorem Zcn(sb n d row:Nat)(vc:Value)(N:List Nat)(w:World)(h:ZfJ w 0 sb n d vc (Yh N N.length))(hr:row<N.length)(hl:N.length<=1000000):Calls Tryz.prog 371 #[.pointer (some ⟨sb,0,none⟩),.int .i64 (row:Nat)] w fun e w'=>e=.returned (.int .i64 (N.getD row 0:Nat))/\Below w.heap.size w w':=by
 obtain⟨a,c,rfl⟩:=h.row.shape;have s2:w.cell? ⟨sb,2,none⟩=some (.slice a (Yh N N.length).length c):=cell_of_row _ _ 2 _ 403 (0,0) h.blk;have hsl:sb<w.heap.size:=(Qb h.blk).1;have HO:Hid (Zdr w 0 (.slice a (Yh N N.length).length c) (Yh N N.length)):=h.row;have HF:=ZnM a c row (Yh N N.length) w h.row (ZeK N _) (by have:=Zdk N N.length;omega);have HX:Hid (∀i,ZmE (Yh N N.length) row i->(if Zbn (Yh N N.length) row i=true then((Yh N N.length).getD i (0,0)).2 else 0)=N.getD row 0):=fun i hi=>Zpk hr hi;clear h hr hl;generalize Yh N N.length=L at *;generalize N.getD row 0=res at *;go_enter Tryz.func371,Tryz.ntmps371;go_wp2_with fail
 refine HF.mono ?_;rintro e w2 ⟨i,rfl,hi,hb⟩;have hx:=HX.out i hi;have HB:Hid (Below w.heap.size w w2):=hb;have z2:=(hb.cell (p:=⟨sb,2,none⟩) hsl).trans s2;have HI:Hid (ZmE L row i):=hi;clear hb hi s2
 cases hf:Zbn L row i
 ·have HE:Hid (res=0):=(by rw[hf] at hx;exact hx.symm);clear hx hf;generalize L.length=ll at *;go_wp2;go_ret;exact⟨by rw[HE.out];rfl,HB.out⟩
 have HE:Hid (res=(L.getD i (0,0)).2):=(by rw[hf] at hx;exact hx.symm);have hil:i<L.length:=(by simp only[Zbn,decide_eq_true_eq] at hf;exact hf.1);obtain⟨q,rfl,hql,y0,y1⟩:=HO.out.atK hil;have e1:=(HB.out.cell (p:=⟨q,i*2+1,none⟩) hql).trans y1;clear hx hf y0 y1;have b1:(0:Int)<=(i:Int):=(by omega);have b2:(i:Int)<(L.length:Int):=(by omega);generalize (L.getD i (0,0)).2=x at *;generalize L.length=ll at *;go_wp2;go_ret;exact⟨by rw[HE.out];rfl,HB.out⟩
abbrev Zds(r f:Nat)(x:XS):Prop:=x.row<r∨x.row=r/\x.f<f
abbrev atX(r f:Nat)(x:XS):Prop:=x.row=r/\x.f=f
theorem Zqt(x:XS)(r f:Nat):Za5 x ⟨r,f,0⟩<0↔Zds r f x:=by
 unfold Za5 orI Zds Lib.compareInt;simp only
 repeat' split
 all_goals omega
theorem Zqs(x:XS)(r f:Nat):Za5 x ⟨r,f,0⟩=0↔atX r f x:=by
 unfold Za5 orI atX Lib.compareInt;simp only
 repeat' split
 all_goals omega
structure ZmF(L:List XS)(r f i:Nat):Prop where
 le:i<=L.length
 lo:∀k,k<i->Zds r f (L.getD k QD)
 hi:∀k,i<=k->k<L.length->¬Zds r f (L.getD k QD)
def Qo(L:List XS)(r f i:Nat):Bool:=decide (i<L.length/\atX r f (L.getD i QD))
def ZoQ(W:World)(L:List XS)(r f:Nat)(e:Ending)(w':World):Prop:=∃i,e=.returned (.tuple #[.int .i64 (i:Nat),.bool (Qo L r f i)])/\ZmF L r f i/\Below W.heap.size W w'
theorem Zh8(a:Option Addr)(c r f:Nat)(L:List XS)(w:World)(h:ZaT w 0 (.slice a L.length c) L)(hs:Qj L)(hl:L.length<=1000000):Calls Tryz.prog 147 #[.slice a L.length c,.agg #[.int .i64 (r:Nat),.int .i64 (f:Nat),.int .i64 0],.func (.func 148) #[] #[]] w fun e w'=>ZoQ w L r f e w':=by
 have H0:Hid (ZaT w 0 (.slice a L.length c) L):=h
 have HS:Hid (∀i j,i<j->j<L.length->(L.getD i QD).row<(L.getD j QD).row∨(L.getD i QD).row=(L.getD j QD).row/\(L.getD i QD).f<=(L.getD j QD).f):=fun i j hij hj=>by
  have:=List.pairwise_iff_getElem.1 hs i j (by omega) hj hij
  simpa [Qc,Qd hj,Qd (show i<L.length by omega)] using this
 have HC:Hid (∀(x:XS) (W:World),Calls Tryz.prog 148 #[.agg #[.int .i64 (x.row:Nat),.int .i64 (x.f:Nat),.int .i64 (x.bin:Nat)],.agg #[.int .i64 (r:Nat),.int .i64 (f:Nat),.int .i64 0]] W fun e w'=>e=.returned (.int .i64 (Za5 x ⟨r,f,0⟩))/\Below W.heap.size W w'):=fun x W=>(Q1 x ⟨r,f,0⟩ W).mono (fun _ _ h=>⟨h.1,h.2.below⟩);clear h hs;generalize hnl:L.length=n at *;have HN:Hid (L.length=n):=hnl;clear hnl;go_enter Tryz.func147,Tryz.ntmps147;go_upto_region 1 with fail;generalize hW1:w.alloc (.cells #[.int .i64 (r:Nat),.int .i64 (f:Nat),.int .i64 0] 184)=w1;have hB1:Below w.heap.size w w1:=(by rw[<- hW1];exact(Below.refl _ _).alloc (Qa _) _);have hX1:w1.heap[w.heap.size]? =some (.cells #[.int .i64 (r:Nat),.int .i64 (f:Nat),.int .i64 0] 184 (0,0)):=by rw[<- hW1];exact heap_alloc_new _ _
 have hwl:w.heap.size<w1.heap.size:=(Qb hX1).1;have x0:w1.cell? ⟨w.heap.size,0,none⟩=some (.int .i64 (r:Nat)):=cell_of_row _ _ 0 _ 184 (0,0) hX1;have x1:w1.cell? ⟨w.heap.size,1,none⟩=some (.int .i64 (f:Nat)):=cell_of_row _ _ 1 _ 184 (0,0) hX1;have x2:w1.cell? ⟨w.heap.size,2,none⟩=some (.int .i64 0):=cell_of_row _ _ 2 _ 184 (0,0) hX1;have HB1:Hid (Below w.heap.size w w1/\w1.cell? ⟨w.heap.size,0,none⟩=some (.int .i64 (r:Nat))/\w1.cell? ⟨w.heap.size,1,none⟩=some (.int .i64 (f:Nat))/\w1.cell? ⟨w.heap.size,2,none⟩=some (.int .i64 0)):=⟨hB1,x0,x1,x2⟩;clear hW1 hB1 hX1 x0 x1 x2;go_wp2_with fail
 go_loopw [9,10] (fun ti tj wr=>∃(i j:Nat),ti=.int .i64 i/\tj=.int .i64 j/\i<=j/\j<=n/\Hid ((∀k,k<i->Zds r f (L.getD k QD))/\(∀k,j<=k->k<n->¬Zds r f (L.getD k QD))/\Below w1.heap.size w1 wr)) (fun ti tj _=>(intOf tj).toNat-(intOf ti).toNat)
 case atStart=>exact⟨0,n,rfl,rfl,Qg _,Qa _,fun k hk=>by omega,fun k h1 h2=>by omega,Below.refl _ _⟩
 case round=>
  obtain⟨i,j,rfl,rfl,hij,hjn,HR⟩:=hrel;have t0:=(HR.out.2.2.cell (p:=⟨w.heap.size,0,none⟩) hwl).trans HB1.out.2.1;have t1:=(HR.out.2.2.cell (p:=⟨w.heap.size,1,none⟩) hwl).trans HB1.out.2.2.1;have t2:=(HR.out.2.2.cell (p:=⟨w.heap.size,2,none⟩) hwl).trans HB1.out.2.2.2;have hwr:=HR.out.2.2.size;have HBW:Hid (Below w.heap.size w wr):=HB1.out.1.trans (HR.out.2.2.mono HB1.out.1.size)
  by_cases hlt:i<j
  ·have b1:(i:Int)<(j:Int):=(by omega);have hm:(i+j)/2<n:=(by omega);obtain⟨q,hq,hql,y0,y1,y2⟩:=H0.out.atK HN.out (k:=(i+j)/2) hm;have e0:=(HBW.out.cell (p:=⟨q,(i+j)/2*3,none⟩) hql).trans y0;have e1:=(HBW.out.cell (p:=⟨q,(i+j)/2*3+1,none⟩) hql).trans y1;have e2:=(HBW.out.cell (p:=⟨q,(i+j)/2*3+2,none⟩) hql).trans y2;clear y0 y1 y2;subst hq;have hqr:q<wr.heap.size:=Qh hql HBW.out.size;have htr:w.heap.size<wr.heap.size:=Qh hwl hwr;generalize hmm:(i+j)/2=m at *;have hmi:((i:Int)+(j:Int))/2=(m:Int):=(by omega);have bm1:(0:Int)<=(m:Int):=(by omega);have bm2:(m:Int)<(n:Int):=(by omega);have HM:Hid ((i+j)/2=m):=hmm;clear hmm
   have HX:Hid ((∀k,k<=m->Zds r f (L.getD m QD)->Zds r f (L.getD k QD))/\(∀k,m<=k->k<n->¬Zds r f (L.getD m QD)->¬Zds r f (L.getD k QD))):=⟨fun k hk hb=>by
    rcases Nat.lt_or_ge k m with h1|h1
    have:=HS.out k m h1 hm;unfold Zds at hb ⊢;omega
    ·rw[show k=m by omega];exact hb,fun k hk hkn hb=>by
    rcases Nat.lt_or_ge m k with h1|h1
    have:=HS.out m k h1 hkn;unfold Zds at hb ⊢;omega
    rw[show k=m by omega];exact hb⟩
   have HCx:=HC.out (L.getD m QD);have hlt2:=Zqt (L.getD m QD) r f;generalize hx:Zds r f (L.getD m QD)=P at *;generalize Za5 (L.getD m QD) ⟨r,f,0⟩=c1 at *;generalize (L.getD m QD).row=xr at *;generalize (L.getD m QD).f=xf at *;generalize (L.getD m QD).bin=xb at *;have HCY:Hid (∀W:World,Below wr.heap.size wr W->Calls Tryz.prog 148 #[.agg #[.int .i64 (xr:Nat),.int .i64 (xf:Nat),.int .i64 (xb:Nat)],.agg #[.int .i64 (r:Nat),.int .i64 (f:Nat),.int .i64 0]] W fun e w'=>e=.returned (.int .i64 c1)/\Below wr.heap.size wr w'):=fun W hW=>(HCx W).mono (fun _ _ h=>⟨h.1,hW.trans (h.2.mono hW.size)⟩);clear HCx hx;go_upto_region 5 with fail
   go_region_held3 (fun w'=>w'.cell? ⟨q,m*3,none⟩=some (.int .i64 (xr:Nat))/\w'.cell? ⟨q,m*3+1,none⟩=some (.int .i64 (xf:Nat))/\w'.cell? ⟨q,m*3+2,none⟩=some (.int .i64 (xb:Nat))/\w'.cell? ⟨w.heap.size,0,none⟩=some (.int .i64 (r:Nat))/\w'.cell? ⟨w.heap.size,1,none⟩=some (.int .i64 (f:Nat))/\w'.cell? ⟨w.heap.size,2,none⟩=some (.int .i64 0)) (first|exact⟨e0,e1,e2,t0,t1,t2⟩|exact⟨(Below.cell (B:=wr.heap.size) (w:=wr) (p:=⟨q,m*3,none⟩) hb3 hqr).trans e0,(Below.cell (B:=wr.heap.size) (w:=wr) (p:=⟨q,m*3+1,none⟩) hb3 hqr).trans e1,(Below.cell (B:=wr.heap.size) (w:=wr) (p:=⟨q,m*3+2,none⟩) hb3 hqr).trans e2,(Below.cell (B:=wr.heap.size) (w:=wr) (p:=⟨w.heap.size,0,none⟩) hb3 htr).trans t0,(Below.cell (B:=wr.heap.size) (w:=wr) (p:=⟨w.heap.size,1,none⟩) hb3 htr).trans t1,(Below.cell (B:=wr.heap.size) (w:=wr) (p:=⟨w.heap.size,2,none⟩) hb3 htr).trans t2⟩) (first|(go_at_call 148;refine(HCY.out _ (Below.refl _ _).drew).mono ?_;rintro e w3 ⟨rfl,hb3⟩))
   have HB3:Hid (Below w1.heap.size w1 w3):=HR.out.2.2.trans (hb3.mono HR.out.2.2.size);clear hb3 e0 e1 e2 t0 t1 t2
   by_cases hc:c1<0
   ·have hP:=hlt2.1 hc;have hd:decide (c1<0)=true:=decide_eq_true hc;go_wp2;go_roundw;case rel=>exact⟨m+1,j,by go_num,rfl,by omega,hjn,fun k hk=>HX.out.1 k (by omega) hP,HR.out.2.1,HB3.out⟩
    case measure=>simp[intOf];omega
   have hP:¬P:=fun h=>hc (hlt2.2 h);have hd:decide (c1<0)=false:=decide_eq_false hc;go_wp2;go_roundw;case rel=>exact⟨i,m,rfl,rfl,by omega,by omega,HR.out.1,fun k h1 h2=>HX.out.2 k h1 h2 hP,HB3.out⟩
   case measure=>simp[intOf];omega
  have hni:¬(i:Int)<(j:Int):=(by omega);have hie:i=j:=(by omega);subst hie
  by_cases hin:i<n
  ·have b2:(i:Int)<(n:Int):=(by omega);have hd:decide ((i:Int)<(n:Int))=true:=decide_eq_true b2;have b3:(0:Int)<=(i:Int):=(by omega);obtain⟨q,hq,hql,y0,y1,y2⟩:=H0.out.atK HN.out (k:=i) hin;have e0:=(HBW.out.cell (p:=⟨q,i*3,none⟩) hql).trans y0;have e1:=(HBW.out.cell (p:=⟨q,i*3+1,none⟩) hql).trans y1;have e2:=(HBW.out.cell (p:=⟨q,i*3+2,none⟩) hql).trans y2;clear y0 y1 y2;subst hq;have hqr:q<wr.heap.size:=Qh hql HBW.out.size;have htr:w.heap.size<wr.heap.size:=Qh hwl hwr;have HFO:Hid (Qo L r f i=decide (Za5 (L.getD i QD) ⟨r,f,0⟩=0)):=by show _=_;unfold Qo;rw[HN.out];simp only[hin,true_and,Zqs]
   have HCx:=HC.out (L.getD i QD);generalize Za5 (L.getD i QD) ⟨r,f,0⟩=c1 at *;generalize (L.getD i QD).row=xr at *;generalize (L.getD i QD).f=xf at *;generalize (L.getD i QD).bin=xb at *;have HCY:Hid (∀W:World,Below wr.heap.size wr W->Calls Tryz.prog 148 #[.agg #[.int .i64 (xr:Nat),.int .i64 (xf:Nat),.int .i64 (xb:Nat)],.agg #[.int .i64 (r:Nat),.int .i64 (f:Nat),.int .i64 0]] W fun e w'=>e=.returned (.int .i64 c1)/\Below wr.heap.size wr w'):=fun W hW=>(HCx W).mono (fun _ _ h=>⟨h.1,hW.trans (h.2.mono hW.size)⟩);clear HCx;go_upto_region 8 with fail
   go_region_held3 (fun w'=>w'.cell? ⟨q,i*3,none⟩=some (.int .i64 (xr:Nat))/\w'.cell? ⟨q,i*3+1,none⟩=some (.int .i64 (xf:Nat))/\w'.cell? ⟨q,i*3+2,none⟩=some (.int .i64 (xb:Nat))/\w'.cell? ⟨w.heap.size,0,none⟩=some (.int .i64 (r:Nat))/\w'.cell? ⟨w.heap.size,1,none⟩=some (.int .i64 (f:Nat))/\w'.cell? ⟨w.heap.size,2,none⟩=some (.int .i64 0)) (first|exact⟨e0,e1,e2,t0,t1,t2⟩|exact⟨(Below.cell (B:=wr.heap.size) (w:=wr) (p:=⟨q,i*3,none⟩) hb3 hqr).trans e0,(Below.cell (B:=wr.heap.size) (w:=wr) (p:=⟨q,i*3+1,none⟩) hb3 hqr).trans e1,(Below.cell (B:=wr.heap.size) (w:=wr) (p:=⟨q,i*3+2,none⟩) hb3 hqr).trans e2,(Below.cell (B:=wr.heap.size) (w:=wr) (p:=⟨w.heap.size,0,none⟩) hb3 htr).trans t0,(Below.cell (B:=wr.heap.size) (w:=wr) (p:=⟨w.heap.size,1,none⟩) hb3 htr).trans t1,(Below.cell (B:=wr.heap.size) (w:=wr) (p:=⟨w.heap.size,2,none⟩) hb3 htr).trans t2⟩) (first|(go_at_call 148;refine(HCY.out _ (Below.refl _ _).drew).mono ?_;rintro e w3 ⟨rfl,hb3⟩))
   have HB3:Hid (Below w.heap.size w w3):=HBW.out.trans (hb3.mono HBW.out.size);clear hb3 e0 e1 e2 t0 t1 t2;go_wp2;go_ret2
   exact⟨i,by rw[HFO.out];rfl,⟨by rw[HN.out];exact hjn,HR.out.1,by rw[HN.out];exact HR.out.2.1⟩,HB3.out⟩
  have b2:¬(i:Int)<(n:Int):=(by omega);have hd:decide ((i:Int)<(n:Int))=false:=decide_eq_false b2;have HFO:Hid (Qo L r f i=false):=(by show _=_;unfold Qo;rw[HN.out];simp[hin]);clear t0 t1 t2;go_upto_region 8 with fail;go_quiet (fail);go_wp2;go_ret2
  exact⟨i,by rw[HFO.out];rfl,⟨by rw[HN.out];exact hjn,HR.out.1,by rw[HN.out];exact HR.out.2.1⟩,below_drewN HBW.out _⟩
def xbF(X:List XS)(f row d:Nat):Nat:=
 match X.find? (fun y=>decide (atX row f y)) with
 |some y=>y.bin
 |none=>d
def Zey(D:YY)(X:List XS)(f bi p row:Nat):Nat:=
 if Y6 D bi p<=(D.bs.getD bi ZB).N.getD row 0/\(D.bs.getD bi ZB).N.getD row 0<Y6 D bi p+(D.ks.getD f Zq).many then(D.bs.getD bi ZB).N.getD row 0-Y6 D bi p
 else xbF X f row (D.ks.getD f Zq).d
theorem Zk4{X:List XS}{r f i d:Nat}(hs:Qj X)(h:ZmF X r f i):xbF X f r d=if Qo X r f i=true then(X.getD i QD).bin else d:=by
 unfold xbF
 have hg:∀k (hk:k<X.length),X.getD k QD=X[k]:=fun k hk=>by rw[Qc,Qd hk];rfl
 by_cases hf:Qo X r f i=true
 rw[if_pos hf];simp only[Qo,decide_eq_true_eq] at hf;have:X.find? (fun y=>decide (atX r f y))=some X[i]:=(by rw[List.find?_eq_some_iff_getElem];refine⟨by rw[<- hg i hf.1];exact decide_eq_true hf.2,i,hf.1,rfl,fun j hj=>?_⟩;have:=h.lo j hj;rw[hg j (by omega)] at this;unfold Zds at this;rw[Bool.not_eq_true',decide_eq_false_iff_not];unfold atX;omega);rw[this,hg i hf.1];rw[if_neg hf]
 have:X.find? (fun y=>decide (atX r f y))=none:=by
  rw[List.find?_eq_none];intro y hy;obtain⟨k,hk,rfl⟩:=List.getElem_of_mem hy;simp only[decide_eq_true_eq];intro ha
  rcases Nat.lt_or_ge k i with h1|h1
  have:=h.lo k h1;rw[hg k hk] at this;unfold Zds at this;unfold atX at ha;omega;apply hf;simp only[Qo,decide_eq_true_eq];have hi:i<X.length:=(by omega);refine⟨hi,?_⟩;have h2:=h.hi i (Qa _) hi;rw[hg i hi] at h2 ⊢
  rcases Nat.lt_or_ge i k with h3|h3
  have:=List.pairwise_iff_getElem.1 hs i k hi hk h3;unfold Zds at h2;unfold atX at ha ⊢;omega;have e:k=i:=(by omega);subst e;exact ha
 rw[this]
theorem Zjf(db f bi p row cp:Nat)(vK vB vX:Value)(kvs bvs:List (Value×Value))(X:List XS)(D:YY)(w:World)(h:Y7 w db vK vB vX kvs bvs X D)(hs:Zbf D f bi p)(hbl:D.bs.length<=1000)(hxl:X.length<=1000000)(hN:(D.bs.getD bi ZB).N.getD row 0<64)(hoff:Y6 D bi p<=100000)(hvc:(bvs.getD bi vv0).2=.iface 382 (.pointer (some ⟨cp,0,none⟩)))(hat:∀W:World,Below w.heap.size w W->Calls Tryz.prog 323 #[.pointer (some ⟨cp,0,none⟩),.int .i64 (row:Nat)] W fun e w'=>e=.returned (.int .i64 ((D.bs.getD bi ZB).N.getD row 0:Nat))/\Below W.heap.size W w'):Calls Tryz.prog 78 #[.pointer (some ⟨db,0,none⟩),.int .i64 (row:Nat),.int .i64 (f:Nat)] w fun e w'=>e=.returned (.int .i64 (Zey D X f bi p row:Nat))/\Below w.heap.size w w':=by
 have HSE:=ZeI db f bi p vK vB vX kvs bvs X D w h hs hbl;obtain⟨hI,_⟩:=h.ds.bn.each bi hs.hb;obtain⟨fa,fcc,hvf⟩:=hI.shape;have hfk:=hs.fk bi p (Qa _) hs.hp;rw[hs.at_] at hfk;have hmn:=hs.mn f hfk;obtain⟨qk,cK,ab,cb,aw,cw,hvK,hqkl,k0,k1,k2,k3,_⟩:=h.kn.at hfk;subst hvK;obtain⟨xa,xc,hvX⟩:=h.ds.xn.shape;subst hvX;have d0:w.cell? ⟨db,0,none⟩=some (.slice (some ⟨qk,0,none⟩) D.ks.length cK):=cell_of_row _ _ 0 _ 168 (0,0) h.ds.blk;have d2:w.cell? ⟨db,2,none⟩=some (.slice xa X.length xc):=cell_of_row _ _ 2 _ 168 (0,0) h.ds.blk;have hdl:db<w.heap.size:=(Qb h.ds.blk).1;rw[hvf,hvc] at HSE
 have HAT:Hid (∀W:World,Below w.heap.size w W->Calls Tryz.prog 323 #[.pointer (some ⟨cp,0,none⟩),.int .i64 (row:Nat)] W fun e w'=>e=.returned (.int .i64 ((D.bs.getD bi ZB).N.getD row 0:Nat))/\Below W.heap.size W w'):=hat;have HMN:=KS.many_eq (D.ks.getD f Zq)
 have HHM:Hid (∀W:World,Calls Tryz.prog 146 #[.agg #[.bool (D.ks.getD f Zq).e.wd,.slice ab (D.ks.getD f Zq).e.bs.length cb,.slice aw (D.ks.getD f Zq).e.ww.length cw]] W fun e w'=>e=.returned (.int .i64 (((D.ks.getD f Zq).many:Nat):Int))/\Below W.heap.size W w'):=fun W=>by rw[<- HMN];exact YE _ ab aw _ cb _ cw W (by unfold KS.many ES.cnt at hmn;omega)
 have HXW:Hid (∀W:World,Below w.heap.size w W->ZaT W 0 (.slice xa X.length xc) X):=fun W hW=>(Za.of_below (S:=fun _=>False) hW).row h.ds.xn (fun _ _=>id);have HFX:Hid (∀W:World,Below w.heap.size w W->Calls Tryz.prog 147 #[.slice xa X.length xc,.agg #[.int .i64 (row:Nat),.int .i64 (f:Nat),.int .i64 0],.func (.func 148) #[] #[]] W fun e w'=>ZoQ W X row f e w'):=fun W hW=>Zh8 xa xc row f X W (HXW.out W hW) h.sorted hxl;have HLF:Hid (Zey D X f bi p row=if Y6 D bi p<=(D.bs.getD bi ZB).N.getD row 0/\(D.bs.getD bi ZB).N.getD row 0<Y6 D bi p+(D.ks.getD f Zq).many then(D.bs.getD bi ZB).N.getD row 0-Y6 D bi p else xbF X f row (D.ks.getD f Zq).d):=rfl
 have HXB:Hid (∀i,ZmF X row f i->xbF X f row (D.ks.getD f Zq).d=if Qo X row f i=true then(X.getD i QD).bin else(D.ks.getD f Zq).d):=fun i hi=>Zk4 h.sorted hi;clear HMN hvf hvc hI hs h hat hbl;generalize Zey D X f bi p row=res at *;generalize (D.bs.getD bi ZB).N.getD row 0=x at *;generalize Y6 D bi p=off at *;generalize (ZD (D.bs.getD bi ZB).fs).length=nf at *;generalize D.ks.getD f Zq=Kf at *;generalize xbF X f row Kf.d=xres at *;generalize Kf.e.wd=kwd at *;generalize Kf.e.bs.length=knb at *;generalize Kf.e.ww.length=knw at *;generalize Kf.many=km at *;generalize Kf.d=kd at *;generalize hnk:D.ks.length=nk at *;clear hnk;generalize hnx:X.length=nx at *;have HNX:Hid (X.length=nx):=hnx;clear hnx;have bf1:(0:Int)<=(f:Int):=(by omega);have bf2:(f:Int)<(nk:Int):=by omega
 have hme:∀W:World,(method 535 382 (.pointer (some ⟨cp,0,none⟩)) "At").run Tryz.prog W=.ok (323,.pointer (some ⟨cp,0,none⟩)) W:=fun W=>by kernel_rfl
 go_enter Tryz.func78,Tryz.ntmps78;go_wp2_with fail
 refine HSE.mono ?_;rintro e w2 ⟨rfl,hb2⟩;have HB2:Hid (Below w.heap.size w w2):=hb2;clear hb2 HSE;go_wp2_with fail
 refine(HAT.out _ (HB2.out.alloc HB2.out.size _)).mono ?_;rintro e w3 ⟨rfl,hb3⟩;have HB3:Hid (Below w.heap.size w w3):=(HB2.out.alloc HB2.out.size _).trans (hb3.mono (by have:=HB2.out.size;simp;omega));have d0w:=(HB3.out.cell (p:=⟨db,0,none⟩) hdl).trans d0;have d2w:=(HB3.out.cell (p:=⟨db,2,none⟩) hdl).trans d2;have e0:=(HB3.out.cell (p:=⟨qk,f*4,none⟩) hqkl).trans k0;have e1:=(HB3.out.cell (p:=⟨qk,f*4+1,none⟩) hqkl).trans k1;have e2:=(HB3.out.cell (p:=⟨qk,f*4+2,none⟩) hqkl).trans k2;clear hb3 HB2
 by_cases hlo:off<=x
 ·obtain⟨bn,hbn⟩:∃bn,bn=x-off:=⟨_,rfl⟩;have q1:(x:Int)-(off:Int)=(bn:Int):=(by omega);have q2:IntKind.i64.wrap (bn:Int)=(bn:Int):=ZA (by omega) (by omega);have q3:(0:Int)<=(bn:Int):=(by omega);have HBN:Hid (bn=x-off):=hbn;clear hbn;go_wp2_with fail
  refine(HHM.out _).mono ?_;rintro e w4 ⟨rfl,hb4⟩;have HB4:Hid (Below w.heap.size w w4):=HB3.out.trans (hb4.mono HB3.out.size);clear hb4
  by_cases hhi:x<off+km
  ·have q4:(bn:Int)<(km:Int):=(by have:=HBN.out;omega);have HE:Hid (res=bn):=(by have:=HLF.out;rw[if_pos ⟨hlo,hhi⟩] at this;exact this.trans HBN.out.symm);go_wp2;go_ret;exact⟨by rw[HE.out];rfl,HB4.out⟩
  have q4:¬(bn:Int)<(km:Int):=(by have:=HBN.out;omega);have HE:Hid (res=xres):=(by have:=HLF.out;rw[if_neg (fun h=>hhi h.2)] at this;exact this);have d2x:=(HB4.out.cell (p:=⟨db,2,none⟩) hdl).trans d2;clear d0w d2w e0 e1 e2;go_wp2_with fail
  refine(HFX.out _ HB4.out).mono ?_;rintro e w5 ⟨i,rfl,hi,hb5⟩;have HB5:Hid (Below w.heap.size w w5):=HB4.out.trans (hb5.mono HB4.out.size);have hxb:=HXB.out i hi;have d0y:=(HB5.out.cell (p:=⟨db,0,none⟩) hdl).trans d0;have d2y:=(HB5.out.cell (p:=⟨db,2,none⟩) hdl).trans d2;have e3:=(HB5.out.cell (p:=⟨qk,f*4+3,none⟩) hqkl).trans k3;clear hb5
  cases hf:Qo X row f i
  ·have HR:Hid (res=kd):=(by rw[hf] at hxb;exact HE.out.trans hxb);clear hxb hf hi;go_wp2;go_ret;exact⟨by rw[HR.out];rfl,HB5.out⟩
  have HR:Hid (res=(X.getD i QD).bin):=(by rw[hf] at hxb;exact HE.out.trans hxb);have hil:i<nx:=(by simp only[Qo,decide_eq_true_eq] at hf;have:=hf.1;rw[HNX.out] at this;exact this);obtain⟨q,hq,hql,_,_,y2⟩:=(HXW.out _ HB5.out).atK HNX.out hil;subst hq;have b1:(0:Int)<=(i:Int):=(by omega);have b2:(i:Int)<(nx:Int):=(by omega);clear hxb hf hi;generalize (X.getD i QD).bin=xb at *;go_wp2;go_ret;exact⟨by rw[HR.out];rfl,HB5.out⟩
 have q1:IntKind.i64.wrap ((x:Int)-(off:Int))=(x:Int)-(off:Int):=ZA (by omega) (by omega);have q3:¬(0:Int)<=(x:Int)-(off:Int):=(by omega);have HE:Hid (res=xres):=(by have:=HLF.out;rw[if_neg (fun h=>hlo h.1)] at this;exact this);have HB4:Hid (Below w.heap.size w w3):=HB3.out;go_wp2_with fail
 refine(HFX.out _ HB4.out).mono ?_;rintro e w5 ⟨i,rfl,hi,hb5⟩;have HB5:Hid (Below w.heap.size w w5):=HB4.out.trans (hb5.mono HB4.out.size);have hxb:=HXB.out i hi;have d0y:=(HB5.out.cell (p:=⟨db,0,none⟩) hdl).trans d0;have d2y:=(HB5.out.cell (p:=⟨db,2,none⟩) hdl).trans d2;have e3:=(HB5.out.cell (p:=⟨qk,f*4+3,none⟩) hqkl).trans k3;clear hb5
 cases hf:Qo X row f i
 ·have HR:Hid (res=kd):=(by rw[hf] at hxb;exact HE.out.trans hxb);clear hxb hf hi;go_wp2;go_ret;exact⟨by rw[HR.out];rfl,HB5.out⟩
 have HR:Hid (res=(X.getD i QD).bin):=(by rw[hf] at hxb;exact HE.out.trans hxb);have hil:i<nx:=(by simp only[Qo,decide_eq_true_eq] at hf;have:=hf.1;rw[HNX.out] at this;exact this);obtain⟨q,hq,hql,_,_,y2⟩:=(HXW.out _ HB5.out).atK HNX.out hil;subst hq;have b1:(0:Int)<=(i:Int):=(by omega);have b2:(i:Int)<(nx:Int):=(by omega);clear hxb hf hi;generalize (X.getD i QD).bin=xb at *;go_wp2;go_ret;exact⟨by rw[HR.out];rfl,HB5.out⟩
theorem ZhG(db f bi p row cp:Nat)(vK vB vX:Value)(kvs bvs:List (Value×Value))(X:List XS)(D:YY)(w:World)(h:Y7 w db vK vB vX kvs bvs X D)(hs:Zbf D f bi p)(hbl:D.bs.length<=1000)(hxl:X.length<=1000000)(hN:(D.bs.getD bi ZB).N.getD row 0<64)(hoff:Y6 D bi p<=100000)(hvc:(bvs.getD bi vv0).2=.iface 380 (.pointer (some ⟨cp,0,none⟩)))(hat:∀W:World,Below w.heap.size w W->Calls Tryz.prog 371 #[.pointer (some ⟨cp,0,none⟩),.int .i64 (row:Nat)] W fun e w'=>e=.returned (.int .i64 ((D.bs.getD bi ZB).N.getD row 0:Nat))/\Below W.heap.size W w'):Calls Tryz.prog 78 #[.pointer (some ⟨db,0,none⟩),.int .i64 (row:Nat),.int .i64 (f:Nat)] w fun e w'=>e=.returned (.int .i64 (Zey D X f bi p row:Nat))/\Below w.heap.size w w':=by
 have HSE:=ZeI db f bi p vK vB vX kvs bvs X D w h hs hbl;obtain⟨hI,_⟩:=h.ds.bn.each bi hs.hb;obtain⟨fa,fcc,hvf⟩:=hI.shape;have hfk:=hs.fk bi p (Qa _) hs.hp;rw[hs.at_] at hfk;have hmn:=hs.mn f hfk;obtain⟨qk,cK,ab,cb,aw,cw,hvK,hqkl,k0,k1,k2,k3,_⟩:=h.kn.at hfk;subst hvK;obtain⟨xa,xc,hvX⟩:=h.ds.xn.shape;subst hvX;have d0:w.cell? ⟨db,0,none⟩=some (.slice (some ⟨qk,0,none⟩) D.ks.length cK):=cell_of_row _ _ 0 _ 168 (0,0) h.ds.blk;have d2:w.cell? ⟨db,2,none⟩=some (.slice xa X.length xc):=cell_of_row _ _ 2 _ 168 (0,0) h.ds.blk;have hdl:db<w.heap.size:=(Qb h.ds.blk).1;rw[hvf,hvc] at HSE
 have HAT:Hid (∀W:World,Below w.heap.size w W->Calls Tryz.prog 371 #[.pointer (some ⟨cp,0,none⟩),.int .i64 (row:Nat)] W fun e w'=>e=.returned (.int .i64 ((D.bs.getD bi ZB).N.getD row 0:Nat))/\Below W.heap.size W w'):=hat;have HMN:=KS.many_eq (D.ks.getD f Zq)
 have HHM:Hid (∀W:World,Calls Tryz.prog 146 #[.agg #[.bool (D.ks.getD f Zq).e.wd,.slice ab (D.ks.getD f Zq).e.bs.length cb,.slice aw (D.ks.getD f Zq).e.ww.length cw]] W fun e w'=>e=.returned (.int .i64 (((D.ks.getD f Zq).many:Nat):Int))/\Below W.heap.size W w'):=fun W=>by rw[<- HMN];exact YE _ ab aw _ cb _ cw W (by unfold KS.many ES.cnt at hmn;omega)
 have HXW:Hid (∀W:World,Below w.heap.size w W->ZaT W 0 (.slice xa X.length xc) X):=fun W hW=>(Za.of_below (S:=fun _=>False) hW).row h.ds.xn (fun _ _=>id);have HFX:Hid (∀W:World,Below w.heap.size w W->Calls Tryz.prog 147 #[.slice xa X.length xc,.agg #[.int .i64 (row:Nat),.int .i64 (f:Nat),.int .i64 0],.func (.func 148) #[] #[]] W fun e w'=>ZoQ W X row f e w'):=fun W hW=>Zh8 xa xc row f X W (HXW.out W hW) h.sorted hxl;have HLF:Hid (Zey D X f bi p row=if Y6 D bi p<=(D.bs.getD bi ZB).N.getD row 0/\(D.bs.getD bi ZB).N.getD row 0<Y6 D bi p+(D.ks.getD f Zq).many then(D.bs.getD bi ZB).N.getD row 0-Y6 D bi p else xbF X f row (D.ks.getD f Zq).d):=rfl
 have HXB:Hid (∀i,ZmF X row f i->xbF X f row (D.ks.getD f Zq).d=if Qo X row f i=true then(X.getD i QD).bin else(D.ks.getD f Zq).d):=fun i hi=>Zk4 h.sorted hi;clear HMN hvf hvc hI hs h hat hbl;generalize Zey D X f bi p row=res at *;generalize (D.bs.getD bi ZB).N.getD row 0=x at *;generalize Y6 D bi p=off at *;generalize (ZD (D.bs.getD bi ZB).fs).length=nf at *;generalize D.ks.getD f Zq=Kf at *;generalize xbF X f row Kf.d=xres at *;generalize Kf.e.wd=kwd at *;generalize Kf.e.bs.length=knb at *;generalize Kf.e.ww.length=knw at *;generalize Kf.many=km at *;generalize Kf.d=kd at *;generalize hnk:D.ks.length=nk at *;clear hnk;generalize hnx:X.length=nx at *;have HNX:Hid (X.length=nx):=hnx;clear hnx;have bf1:(0:Int)<=(f:Int):=(by omega);have bf2:(f:Int)<(nk:Int):=by omega
 have hme:∀W:World,(method 535 380 (.pointer (some ⟨cp,0,none⟩)) "At").run Tryz.prog W=.ok (371,.pointer (some ⟨cp,0,none⟩)) W:=fun W=>by kernel_rfl
 go_enter Tryz.func78,Tryz.ntmps78;go_wp2_with fail
 refine HSE.mono ?_;rintro e w2 ⟨rfl,hb2⟩;have HB2:Hid (Below w.heap.size w w2):=hb2;clear hb2 HSE;go_wp2_with fail
 refine(HAT.out _ (HB2.out.alloc HB2.out.size _)).mono ?_;rintro e w3 ⟨rfl,hb3⟩;have HB3:Hid (Below w.heap.size w w3):=(HB2.out.alloc HB2.out.size _).trans (hb3.mono (by have:=HB2.out.size;simp;omega));have d0w:=(HB3.out.cell (p:=⟨db,0,none⟩) hdl).trans d0;have d2w:=(HB3.out.cell (p:=⟨db,2,none⟩) hdl).trans d2;have e0:=(HB3.out.cell (p:=⟨qk,f*4,none⟩) hqkl).trans k0;have e1:=(HB3.out.cell (p:=⟨qk,f*4+1,none⟩) hqkl).trans k1;have e2:=(HB3.out.cell (p:=⟨qk,f*4+2,none⟩) hqkl).trans k2;clear hb3 HB2
 by_cases hlo:off<=x
 ·obtain⟨bn,hbn⟩:∃bn,bn=x-off:=⟨_,rfl⟩;have q1:(x:Int)-(off:Int)=(bn:Int):=(by omega);have q2:IntKind.i64.wrap (bn:Int)=(bn:Int):=ZA (by omega) (by omega);have q3:(0:Int)<=(bn:Int):=(by omega);have HBN:Hid (bn=x-off):=hbn;clear hbn;go_wp2_with fail
  refine(HHM.out _).mono ?_;rintro e w4 ⟨rfl,hb4⟩;have HB4:Hid (Below w.heap.size w w4):=HB3.out.trans (hb4.mono HB3.out.size);clear hb4
  by_cases hhi:x<off+km
  ·have q4:(bn:Int)<(km:Int):=(by have:=HBN.out;omega);have HE:Hid (res=bn):=(by have:=HLF.out;rw[if_pos ⟨hlo,hhi⟩] at this;exact this.trans HBN.out.symm);go_wp2;go_ret;exact⟨by rw[HE.out];rfl,HB4.out⟩
  have q4:¬(bn:Int)<(km:Int):=(by have:=HBN.out;omega);have HE:Hid (res=xres):=(by have:=HLF.out;rw[if_neg (fun h=>hhi h.2)] at this;exact this);have d2x:=(HB4.out.cell (p:=⟨db,2,none⟩) hdl).trans d2;clear d0w d2w e0 e1 e2;go_wp2_with fail
  refine(HFX.out _ HB4.out).mono ?_;rintro e w5 ⟨i,rfl,hi,hb5⟩;have HB5:Hid (Below w.heap.size w w5):=HB4.out.trans (hb5.mono HB4.out.size);have hxb:=HXB.out i hi;have d0y:=(HB5.out.cell (p:=⟨db,0,none⟩) hdl).trans d0;have d2y:=(HB5.out.cell (p:=⟨db,2,none⟩) hdl).trans d2;have e3:=(HB5.out.cell (p:=⟨qk,f*4+3,none⟩) hqkl).trans k3;clear hb5
  cases hf:Qo X row f i
  ·have HR:Hid (res=kd):=(by rw[hf] at hxb;exact HE.out.trans hxb);clear hxb hf hi;go_wp2;go_ret;exact⟨by rw[HR.out];rfl,HB5.out⟩
  have HR:Hid (res=(X.getD i QD).bin):=(by rw[hf] at hxb;exact HE.out.trans hxb);have hil:i<nx:=(by simp only[Qo,decide_eq_true_eq] at hf;have:=hf.1;rw[HNX.out] at this;exact this);obtain⟨q,hq,hql,_,_,y2⟩:=(HXW.out _ HB5.out).atK HNX.out hil;subst hq;have b1:(0:Int)<=(i:Int):=(by omega);have b2:(i:Int)<(nx:Int):=(by omega);clear hxb hf hi;generalize (X.getD i QD).bin=xb at *;go_wp2;go_ret;exact⟨by rw[HR.out];rfl,HB5.out⟩
 have q1:IntKind.i64.wrap ((x:Int)-(off:Int))=(x:Int)-(off:Int):=ZA (by omega) (by omega);have q3:¬(0:Int)<=(x:Int)-(off:Int):=(by omega);have HE:Hid (res=xres):=(by have:=HLF.out;rw[if_neg (fun h=>hlo h.1)] at this;exact this);have HB4:Hid (Below w.heap.size w w3):=HB3.out;go_wp2_with fail
 refine(HFX.out _ HB4.out).mono ?_;rintro e w5 ⟨i,rfl,hi,hb5⟩;have HB5:Hid (Below w.heap.size w w5):=HB4.out.trans (hb5.mono HB4.out.size);have hxb:=HXB.out i hi;have d0y:=(HB5.out.cell (p:=⟨db,0,none⟩) hdl).trans d0;have d2y:=(HB5.out.cell (p:=⟨db,2,none⟩) hdl).trans d2;have e3:=(HB5.out.cell (p:=⟨qk,f*4+3,none⟩) hqkl).trans k3;clear hb5
 cases hf:Qo X row f i
 ·have HR:Hid (res=kd):=(by rw[hf] at hxb;exact HE.out.trans hxb);clear hxb hf hi;go_wp2;go_ret;exact⟨by rw[HR.out];rfl,HB5.out⟩
 have HR:Hid (res=(X.getD i QD).bin):=(by rw[hf] at hxb;exact HE.out.trans hxb);have hil:i<nx:=(by simp only[Qo,decide_eq_true_eq] at hf;have:=hf.1;rw[HNX.out] at this;exact this);obtain⟨q,hq,hql,_,_,y2⟩:=(HXW.out _ HB5.out).atK HNX.out hil;subst hq;have b1:(0:Int)<=(i:Int):=(by omega);have b2:(i:Int)<(nx:Int):=(by omega);clear hxb hf hi;generalize (X.getD i QD).bin=xb at *;go_wp2;go_ret;exact⟨by rw[HR.out];rfl,HB5.out⟩
theorem ZqB:(Tryz.prog.info? 25).map (fun i=>(i.zero,i.size,i.bytes))=some (some (.slice none 0 0),1,24):=by kernel_rfl
theorem ZlT(n:Nat)(hn:n<=1000000)(W:World):(Instr.makeSlice 84 (.int .i64 (n:Int)) (.int .i64 (n:Int))).run Tryz.prog W=.ok (.slice (some ⟨W.heap.size,0,none⟩) n n) (W.alloc (.cells (madeCells #[.slice none 0 0] n) 25)):=by obtain⟨i0,hinf,hz0,hz1,hz2⟩:=info_parts ZqB;have:=run_make (P:=Tryz.prog) W 84 25 i0 _ Tryz.underlying84 hinf hz0 .i64 .i64 (n:Int) (n:Int) (by omega) (by omega) (by rw[hz2];omega) (by omega);rw[hz1] at this;rw[this,Int.toNat_natCast,Nat.mul_one];rfl
structure Yk(w:World)(base q n i:Nat)(Ls:List (List Int)):Prop where
 cur:∃c:Array Value,w.heap[q]? =some (.cells c 25 (0,0))/\c.size=n/\∀j,j<i->∃v,c[j]? =some v/\Zc w base v (Ls.getD j [])
theorem Yk.below{w w':World}{base q n i:Nat}{Ls:List (List Int)}(h:Yk w base q n i Ls)(hb:Below w.heap.size w w'):Yk w' base q n i Ls:=by
 obtain⟨c,h1,h2,h3⟩:=h.cur
 exact⟨c,(hb.block q (Qb h1).1).trans h1,h2,fun j hj=>by
  obtain⟨v,hv,ho⟩:=h3 j hj
  exact⟨v,hv,ho.below hb⟩⟩
theorem Yk.put{w:World}{base q n i:Nat}{Ls:List (List Int)}{v:Value}(h:Yk w base q n i Ls)(hi:i<n)(hv:Zc w base v (Ls.getD i [])):Yk (w.setCell ⟨q,i,none⟩ v) base q n (i+1) Ls:=by
 obtain⟨c,h1,h2,h3⟩:=h.cur;refine⟨c.setIfInBounds i v,heap_setCell_same w q i c 25 v h1,by simp[h2],fun j hj=>?_⟩
 by_cases hji:j=i
 subst hji;exact⟨v,by simp[h2,hi],Zm hv h1 (by decide)⟩;obtain⟨u,hu,ho⟩:=h3 j (by omega);exact⟨u,by rw[Array.getElem?_setIfInBounds_ne (fun e=>hji e.symm)];exact hu,Zm ho h1 (by decide)⟩
theorem Yk.at{w:World}{base q n i:Nat}{Ls:List (List Int)}(h:Yk w base q n i Ls){j:Nat}(hj:j<i):∃a c,w.cell? ⟨q,j,none⟩=some (.slice a (Ls.getD j []).length c)/\q<w.heap.size/\Zc w base (.slice a (Ls.getD j []).length c) (Ls.getD j []):=by obtain⟨c,h1,h2,h3⟩:=h.cur;obtain⟨u,hu,ho⟩:=h3 j hj;obtain⟨a,cc,rfl⟩:=ho.shape;refine⟨a,cc,?_,(Qb h1).1,ho⟩;rw[cell_of_row w q j c 25 (0,0) h1];exact hu
def Zdx(D:YY):List (List Int):=D.bs.map (fun b=>ZD b.fs)
theorem Zpw{D:YY}{i:Nat}(h:i<D.bs.length):(Zdx D).getD i []=ZD (D.bs.getD i ZB).fs:=by unfold Zdx;rw[Qc,List.getElem?_map,Qd h];simp[Qc,Qd h]
def Zre(w:World)(D:YY)(x:Ending)(w':World):Prop:=∃q,x=.returned (.slice (some ⟨q,0,none⟩) D.bs.length D.bs.length)/\w.heap.size<=q/\Yk w' w.heap.size q D.bs.length D.bs.length (Zdx D)/\Below w.heap.size w w'
theorem Zhx(db:Nat)(vK vB vX:Value)(kvs bvs:List (Value×Value))(X:List XS)(D:YY)(w:World)(h:Y7 w db vK vB vX kvs bvs X D)(h0:0<D.bs.length)(hbl:D.bs.length<=1000)(hfs:∀i,i<D.bs.length->0<(D.bs.getD i ZB).fs.length/\(D.bs.getD i ZB).fs.length<=1000):Calls Tryz.prog 94 #[.pointer (some ⟨db,0,none⟩)] w fun e w'=>Zre w D e w':=by
 have HM:Hid (Y7 w db vK vB vX kvs bvs X D):=h;have HF:Hid (∀i,i<D.bs.length->0<(D.bs.getD i ZB).fs.length/\(D.bs.getD i ZB).fs.length<=1000):=hfs;obtain⟨qb,cB,hvB,hqbl,_,_⟩:=h.ds.bn.at (i:=0) h0;subst hvB;have d1:w.cell? ⟨db,1,none⟩=some (.slice (some ⟨qb,0,none⟩) D.bs.length cB):=cell_of_row _ _ 1 _ 168 (0,0) h.ds.blk;have hdl:db<w.heap.size:=(Qb h.ds.blk).1;have hmk:∀W:World,(Instr.makeSlice 84 (.int .i64 (D.bs.length:Int)) (.int .i64 (D.bs.length:Int))).run Tryz.prog W=.ok (.slice (some ⟨W.heap.size,0,none⟩) D.bs.length D.bs.length) (W.alloc (.cells (madeCells #[.slice none 0 0] D.bs.length) 25)):=ZlT _ (by omega);clear h hfs;generalize hnb:D.bs.length=nb at *;have HN:Hid (D.bs.length=nb):=hnb;clear hnb;go_enter Tryz.func94,Tryz.ntmps94;go_upto_region 2 with fail
 generalize hW1:w.alloc (.cells (madeCells #[.slice none 0 0] nb) 25)=w1;have hB1:Below w.heap.size w w1:=by rw[<- hW1];exact(Below.refl _ _).alloc (Qa _) _
 have HL1:Hid (Yk w1 w.heap.size w.heap.size nb 0 (Zdx D)/\Below w.heap.size w w1):=(by refine⟨⟨_,by rw[<- hW1];exact heap_alloc_new _ _,by simp[madeCells],fun j hj=>by omega⟩,hB1⟩);have d1':=(hB1.cell (p:=⟨db,1,none⟩) hdl).trans d1;clear hW1 hB1 hmk d1;go_wp2_with fail
 go_loopw [17] (fun ti wr=>∃(i:Nat),ti=.int .i64 i/\i<=nb/\Hid (Yk wr w.heap.size w.heap.size nb i (Zdx D)/\Below w.heap.size w wr)) (fun ti _=>nb-(intOf ti).toNat)
 case atStart=>exact⟨0,rfl,Qg _,HL1.out⟩
 case round=>
  obtain⟨i,rfl,hib,HR⟩:=hrel
  by_cases hin:i<nb
  ·have hiL:i<D.bs.length:=(by rw[HN.out];exact hin);obtain⟨q',c',hv',hql,k0,k1⟩:=HM.out.ds.bn.at hiL;have hqq:q'=qb:=(by injection hv' with h1;injection h1 with h1;injection h1 with h1 _;exact h1.symm);subst hqq;obtain⟨hI,hcol⟩:=HM.out.ds.bn.each i hiL;obtain⟨fa,fcc,hvf⟩:=hI.shape;obtain⟨ct,cp,hvc⟩:=hcol.iface;rw[ZI] at hvf;rw[hvf] at k0 hI;rw[hvc] at k1;obtain⟨hf1,hf2⟩:=HF.out i hin;have e0:=(HR.out.2.cell (p:=⟨q',i*2,none⟩) hql).trans k0;have e1:=(HR.out.2.cell (p:=⟨q',i*2+1,none⟩) hql).trans k1;have HLI:Hid ((Zdx D).getD i []=ZD (D.bs.getD i ZB).fs):=Zpw hiL;have HI:Hid (Zc w 0 (.slice fa (D.bs.getD i ZB).fs.length fcc) (ZD (D.bs.getD i ZB).fs)):=hI
   have hq:∃qf,fa=some ⟨qf,0,none⟩:=by
    rcases hI.2 with⟨e,h1⟩|⟨g,cap,cur,e,_⟩
    rw[ZI] at h1;omega;injection e with e1;exact⟨g,e1⟩
   obtain⟨qf,rfl⟩:=hq;have bi1:(0:Int)<=(i:Int):=(by omega);have bi2:(i:Int)<(nb:Int):=(by omega);clear hvf hvc hI hcol k0 k1 hv';generalize hnf:(D.bs.getD i ZB).fs.length=nf at *;have HNF:Hid ((ZD (D.bs.getD i ZB).fs).length=nf):=(by show _=_;rw[ZI];exact hnf);clear hnf;go_upto_region 5 with fail;generalize hW2:wr.alloc (.cells #[.slice (some ⟨qf,0,none⟩) nf fcc,.iface ct (.pointer (some ⟨cp,0,none⟩))] 163)=w2;have hB2:Below wr.heap.size wr w2:=(by rw[<- hW2];exact(Below.refl _ _).alloc (Qa _) _);have hX2:w2.heap[wr.heap.size]? =some (.cells #[.slice (some ⟨qf,0,none⟩) nf fcc,.iface ct (.pointer (some ⟨cp,0,none⟩))] 163 (0,0)):=(by rw[<- hW2];exact heap_alloc_new _ _);have x0:w2.cell? ⟨wr.heap.size,0,none⟩=some (.slice (some ⟨qf,0,none⟩) nf fcc):=cell_of_row _ _ 0 _ 163 (0,0) hX2
   have HR2:Hid (Yk w2 w.heap.size w.heap.size nb i (Zdx D)/\Below w.heap.size w w2):=⟨HR.out.1.below hB2,HR.out.2.trans (hB2.mono HR.out.2.size)⟩;clear hW2 hX2 e0 e1 hB2 HR;have hIw:Zc w2 0 (.slice (some ⟨qf,0,none⟩) nf fcc) (ZD (D.bs.getD i ZB).fs):=HI.out.below HR2.out.2
   have HC:=Tryz.slices_Clone_int qf 0 nf fcc (ZD (D.bs.getD i ZB).fs) w2 (by rw[HNF.out];exact Qa _) (by omega) (fun j hj=>by
    obtain⟨q3,hq3,_,_,y0,_⟩:=hIw.atK HNF.out (k:=j) (by rw[<- HNF.out];exact hj);injection hq3 with hq3;injection hq3 with hq3 _;subst hq3;rw[Nat.zero_add]
    exact y0)
   clear hIw;go_wp2_with fail
   refine HC.mono ?_;clear HC;rintro e w3 ⟨v3,rfl,hr3,_,hb3⟩;have hL3:Yk w3 w.heap.size w.heap.size nb i (Zdx D):=HR2.out.1.below hb3;have hsz2:w.heap.size<=w2.heap.size:=HR2.out.2.size;have hb3':Below w.heap.size w w3:=HR2.out.2.trans (hb3.mono hsz2);have hO3:Zc w3 w.heap.size v3 ((Zdx D).getD i []):=(by rw[HLI.out];rw[<- HNF.out,List.take_length] at hr3;exact Zc.mono (b':=w2.heap.size) hr3 hsz2);obtain⟨cu,hc1,hc2,_⟩:=hL3.cur;have y0:w3.cell? ⟨w.heap.size,i,none⟩=some (cu[i]'(by rw[hc2];exact hin)):=by rw[cell_of_row _ _ i _ 25 (0,0) hc1];exact Array.getElem?_eq_getElem _
   have f0:w3.frozen? ⟨w.heap.size,i,none⟩=false:=frozen_of_row _ _ i _ 25 hc1;generalize (cu[i]'(by rw[hc2];exact hin))=u0 at y0;have HP:Hid (Yk (w3.setCell ⟨w.heap.size,i,none⟩ v3) w.heap.size w.heap.size nb (i+1) (Zdx D)/\Below w.heap.size w (w3.setCell ⟨w.heap.size,i,none⟩ v3)):=⟨hL3.put hin hO3,hb3'.setCell (Qa w.heap.size) _⟩
   obtain⟨a3,n3,c3,rfl⟩:∃a n c,v3=.slice a n c:=by
    rcases hr3.2 with⟨rfl,_⟩|⟨g,cap,cur,rfl,_⟩
    exact⟨_,_,_,rfl⟩;exact⟨_,_,_,rfl⟩
   clear hL3 hb3' hO3 hc1 hc2 hb3 hr3;go_wp2;go_roundw;case rel=>exact⟨i+1,by go_num,by omega,HP⟩
   case measure=>simp[intOf];omega
  have hni:¬(i:Int)<(nb:Int):=(by omega);have hie:i=nb:=(by omega);subst hie;go_wp2;go_ret;refine⟨w.heap.size,by rw[HN.out];rfl,Qa _,?_,HR.out.2⟩;rw[HN.out];exact HR.out.1
theorem Zi7(gb db:Nat)(D:YY)(w:World)(h:YL w gb db D)(h0:0<D.bs.length)(hbl:D.bs.length<=1000)(hfs:∀i,i<D.bs.length->0<(D.bs.getD i ZB).fs.length/\(D.bs.getD i ZB).fs.length<=1000):Calls Tryz.prog 55 #[.pointer (some ⟨gb,0,none⟩)] w fun e w'=>Zre w D e w':=by
 have g0:w.cell? ⟨gb,0,none⟩=some (.pointer (some ⟨db,0,none⟩)):=cell_of_row _ _ 0 _ 110 (0,0) h.gp;obtain⟨vK,vB,vX,kvs,bvs,X,hX⟩:=h.md;have HB:=Zhx db vK vB vX kvs bvs X D w hX h0 hbl hfs;clear h hX hfs h0 hbl;go_enter Tryz.func55,Tryz.ntmps55;go_wp2_with fail
 refine HB.mono ?_;rintro e w4 ⟨q,rfl,h4⟩;have H4:Hid (w.heap.size<=q/\Yk w4 w.heap.size q D.bs.length D.bs.length (Zdx D)/\Below w.heap.size w w4):=h4;clear h4;generalize hnb:D.bs.length=nb at *;go_wp2;go_ret;exact⟨q,by rw[hnb];rfl,by rw[hnb];exact H4.out⟩
theorem ZcD(tot bins:Int):∀(M:List Zt) (share:Int),(Qk tot bins share M).Sublist (M.map fun e=>e.v)
 |[],_=>by simp[Qk]
 |e::r,share=>by unfold Qk;split;exact List.Sublist.cons_cons _ (ZcD tot bins r _);exact(ZcD tot bins r _).cons _
theorem ZcC{tot bins B:Int}:∀(M:List Zt) (share:Int),(∀e∈M,ZaI bins tot e.hi<=B)->share<=B+1->((Qk tot bins share M).length:Int)<=B+1-share
 |[],share,_,h=>by simp[Qk];omega
 |e::r,share,hB,h=>by have h1:=hB e (by simp);have hr:=fun x hx=>hB x (List.mem_cons_of_mem e hx);unfold Qk;split;have:=ZcC r (ZaI bins tot e.hi+1) hr (by omega);simp only[List.length_cons];omega;exact ZcC r share hr h
theorem Zfi(L:List Zt)(bins:Int):(Z5 L bins).Sublist ((L.take (L.length-1)).map fun e=>e.v):=by unfold Z5;split;simp;split;exact List.Sublist.refl _;exact ZcD _ _ _ _
theorem ZiR{L:List Zt}(g:ZJ L)(bins:Int):(Z5 L bins).Pairwise (· < ·):=by refine List.Pairwise.sublist ((Zfi L bins).trans ((List.take_sublist _ _).map _)) ?_;rw[List.pairwise_map];exact g.step.imp fun h=>h.1
theorem ZjO{L:List Zt}(g:ZJ L){bins:Int}(hb:2<=bins):((Z5 L bins).length:Int)<bins:=by
 unfold Z5;split;simp;omega;rename_i h0;split;rename_i hle;simp;omega;have hl:=g.at (i:=L.length-1) (by omega);have htot:Zd L=(L.getD (L.length-1) e0).hi:=(by unfold Zd;rw[if_neg h0]);have:=ZcC (tot:=Zd L) (bins:=bins) (B:=bins-1) (L.take (L.length-1)) 1 (fun e he=>?_) (by omega);omega;obtain⟨k,hk,rfl⟩:=Zpz he;rw[List.length_take] at hk;have hk2:k<L.length-1:=(by omega);have ek:(L.take (L.length-1)).getD k e0=L.getD k e0:=(by simp[List.getD,hk2,show k<L.length by omega]);rw[ek];have hs:=(g.lt (i:=k) (j:=L.length-1) hk2 (by omega)).2.2;unfold ZaI;have h1:bins*(L.getD k e0).hi<bins*Zd L:=Int.mul_lt_mul_of_pos_left (by omega) (by omega);have h2:bins*(L.getD k e0).hi/Zd L<bins:=Int.ediv_lt_of_lt_mul (by omega) h1;omega
theorem Ze4(L:List VS)(ws:List Int){bins:Int}{size:Nat}(hL:L.length<=200)(hs:2<=size)(hs2:size<=32)(hb:2<=bins):(Yq L ws bins size).Pairwise (· < ·)/\((Yq L ws bins size).length:Int)<bins:=by have hl:((ZN L ws).map Prod.fst).length<=2097152:=(by have:=Zb4 L ws;simp;omega);have g:=(Zfq hs hs2 ((ZN L ws).map Prod.fst) ((ZN L ws).map Prod.snd) hl).1;exact⟨ZiR g bins,ZjO g hb⟩
structure Zeg(n:Nat)(s:RS):Prop where
 ws:∀z∈s.ws,0<=z/\z<=99
 row:∀v∈s.row,(-1000000000<=v.num/\v.num<=1000000000)/\v.word.size<=8
 col:∀i,i<n->∀v∈s.cols i,(-1000000000<=v.num/\v.num<=1000000000)/\v.word.size<=8
theorem Zeg.start(n:Nat):Zeg n RS.start:=⟨by simp[RS.start],by simp[RS.start],by simp[RS.start]⟩
theorem QG.of{p:ZC}(h:QG p){bs:List Int}(hb:bs.length<=8):(-1000000000<=(Y4 p bs).num/\(Y4 p bs).num<=1000000000)/\(Y4 p bs).word.size<=8:=by have h1:=h.le;have h2:=h.n0;refine⟨?_,?_⟩;show -1000000000<=ZcQ p/\ZcQ p<=1000000000;unfold ZcQ;split<;>omega;show(strOfNums bs).size<=8;have:(strOfNums bs).size=bs.length:=(by simp[strOfNums,ByteArray.size]);omega
theorem Zeg.take{n:Nat}{wd:Nat->Bool}{sc:Nat->Int}{s s':RS}{c:Int}(h:Zeg n s)(hI:Zac n s)(ht:Yv n wd sc s c=.ok s'):Zeg n s':=by
 unfold Yv at ht;split at ht
 ·cases ht
 split at ht
 ·split at ht
  ·cases ht
  injection ht with ht;subst ht;exact⟨h.ws,h.row,h.col⟩;injection ht with ht;subst ht;exact⟨h.ws,h.row,h.col⟩
 split at ht;injection ht with ht;subst ht;exact⟨h.ws,h.row,h.col⟩;split at ht
 ·injection ht with ht;subst ht
  have hrow:∀v∈s.row++[Y4 s.p s.bs],(-1000000000<=v.num/\v.num<=1000000000)/\v.word.size<=8:=fun v hv=>by
   rcases List.mem_append.1 hv with e|e
   exact h.row v e;simp only[List.mem_singleton] at e;rw[e];exact hI.num.of hI.bs
  unfold Qx;split
  ·refine⟨fun z hz=>?_,by simp,fun i hi v hv=>?_⟩
   ·rcases List.mem_append.1 hz with e|e
    exact h.ws z e;simp only[List.mem_singleton] at e;rw[e];exact⟨hI.wt0,hI.wt1⟩
   simp only[hi,if_true] at hv
   rcases List.mem_append.1 hv with e|e
   exact h.col i hi v e;simp only[List.mem_singleton] at e;rw[e];rename_i hl;have hil:i<(s.row++[Y4 s.p s.bs]).length:=(by rw[hl];exact hi);rw[Qc,Qd hil];exact hrow _ (Qf _)
  exact⟨h.ws,hrow,h.col⟩
 cases ht
theorem Zeg.takes{n:Nat}{wd:Nat->Bool}{sc:Nat->Int}(hn:1<=n)(hsc:∀i,i<n->wd i=false->0<=sc i/\sc i<=3):∀(l:List Int) {s s':RS} {k:Nat},Zeg n s->Zac n s->Zi n wd sc s l k=.ok s'->Zeg n s'
 |[],s,s',k,h,_,e=>by injection e with e;subst e;exact h
 | c::l,s,s',k,h,hI,e=>by
  simp only[Zi] at e
  cases ht:Yv n wd sc s c with
  |error z=>rw[ht] at e;cases e
  |ok s1=>rw[ht] at e;exact Zeg.takes hn hsc l (h.take hI ht) (hI.take hn hsc ht) e
structure ZoR(lw:List VS->List Int->Int->Int->ES):Prop where
 ok:ZoS lw
 fine:∀(L:List VS) (ws:List Int) (ct bins:Int),L.length<=200->2<=bins->bins<=16->ZdF (lw L ws ct bins)/\(lw L ws ct bins).wd=true/\(lw L ws ct bins).cnt<=16
theorem ZjT{lw:List VS->List Int->Int->Int->ES}{m:Nat}{wd:Nat->Bool}{sc ct:Nat->Int}{bins:Int}{size:Nat}{l:List Int}{s:RS}(hlw:(∃i,i<m+1/\wd i=true)->ZoR lw)(hsc:∀i,i<m+1->wd i=false->0<=sc i/\sc i<=3)(hb:2<=bins)(hb2:bins<=16)(hs:2<=size)(hs2:size<=32)(h:Zi (m+1) wd sc RS.start l 0=.ok s):Q6 lw m wd ct bins size s:=by
 have hI:=Zac.takes (by omega) hsc l (Zac.start (show 1<=m+1 by omega)) h;have hV:=Zeg.takes (by omega) hsc l (Zeg.start (m+1)) (Zac.start (show 1<=m+1 by omega)) h;refine⟨fun hw=>(hlw hw).ok,fun i hi=>?_,hV.col,hV.ws⟩;have hl:(s.cols i).length<=200:=by rw[hI.col i hi];exact hI.ws
 cases hw:wd i with
 | true=>
  have e:ZT lw true (ct i) bins size (s.cols i) s.ws=lw (s.cols i) s.ws (ct i) bins:=(by simp[ZT]);rw[e];exact(hlw ⟨i,hi,hw⟩).fine _ _ _ _ hl hb hb2
 | false=>
  have e:ZT lw false (ct i) bins size (s.cols i) s.ws=⟨false,Yq (s.cols i) s.ws bins size,[]⟩:=(by simp[ZT]);rw[e];obtain⟨h1,h2⟩:=Ze4 (s.cols i) s.ws hl hs hs2 hb;refine⟨⟨h1.imp fun h=>by omega,?_,by simp⟩,rfl,?_⟩;show(Yq (s.cols i) s.ws bins size).length<=1000;omega;show Za6 false (Yq (s.cols i) s.ws bins size).length 0<=16;simp[Za6];omega
end Go.Proofs.YtfcgnpchbcmdeaaGreat
