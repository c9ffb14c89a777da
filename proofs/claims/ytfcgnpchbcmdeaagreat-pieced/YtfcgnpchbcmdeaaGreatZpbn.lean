import Derived.Test.YtfcgnpchbcmdeaaGreatZpbh
namespace Go.Proofs.YtfcgnpchbcmdeaaGreat
set_option linter.unusedSimpArgs false
set_option maxRecDepth 100000
set_option maxHeartbeats 8000000
open Go.RowKit
def ZiI(p:Nat):ByteArray:=[(⟨#[97]⟩:ByteArray),⟨#[98]⟩,⟨#[34,97,32,98,34]⟩,⟨#[34,34]⟩,⟨#[122,122]⟩,⟨#[34,120,34,34,121,34]⟩].getD p ⟨#[]⟩
def Zm1(p:Nat):ByteArray:=[(⟨#[97]⟩:ByteArray),⟨#[98]⟩,⟨#[97,32,98]⟩,⟨#[]⟩,⟨#[122,122]⟩,⟨#[120,34,121]⟩].getD p ⟨#[]⟩
def kN(n:Int):Int:=((Zq n 61:Nat):Int)-30
def ZdU(sc n:Int):Bool:=decide (0<sc/\Zq n 4=0/\0<=kN n)
def fdT(wd:Bool)(sc n:Int):ByteArray:=if wd=true then ZiI (Zq n 6) else if ZdU sc n=true then Y8 (kN n)++⟨#[46,53]⟩ else Y8 (kN n)
def fdV(wd:Bool)(sc n:Int):Int:=if wd=true then 0 else if ZdU sc n=true then kN n*ZA sc.toNat+ZA sc.toNat/2 else kN n*ZA sc.toNat
def fdS(wd:Bool)(n:Int):ByteArray:=if wd=true then Zm1 (Zq n 6) else⟨#[]⟩
theorem Zb3{z:Int}(h1: -99<=z)(h2:z<=99):(Y8 z).size<=3:=by
 have hp:∀n,n<100->(ZgU n).size<=2:=fun n hn=>by unfold ZgU;split;rw[QD (by omega)];omega;rw[ByteArray.size_append,QD (by omega),QD (by omega)];omega
 unfold Y8;split;rw[ByteArray.size_append];have:=hp (-z).toNat (by omega);have e:(⟨#[45]⟩:ByteArray).size=1:=rfl;omega;have:=hp z.toNat (by omega);omega
theorem Zjd(sc ct n:Int)(hn:(Lit.int .i64 n).wf=true)(w:World):Calls Tryz.prog 49 #[.agg #[.bool true,.int .i64 sc,.int .i64 ct],.int .i64 n] w fun e w'=>e=.returned (.tuple #[.string (ZiI (Zq n 6)),.int .i64 0,.string (Zm1 (Zq n 6))])/\Below w.heap.size w w':=by
 have HP:Hid (∀W:World,Calls Tryz.prog 17 #[.int .i64 n,.int .i64 6] W fun e w'=>e=.returned (.int .i64 (Zq n 6:Nat))/\w'=W):=fun W=>Yy n 6 W hn (by omega) (by omega);have hp:=Yf n (show 0<6 by omega);generalize Zq n 6=p at *;clear hn;go_enter Tryz.func49,Tryz.ntmps49;go_wp2_with fail
 refine(HP.out _).mono ?_;rintro e w1 ⟨rfl,h1⟩;obtain rfl:=h1.symm
 rcases(show p=0∨p=1∨p=2∨p=3∨p=4∨p=5 by omega) with rfl|rfl|rfl|rfl|rfl|rfl
 ·go_wp2_with fail
  refine(HP.out _).mono ?_;rintro e w2 ⟨rfl,h2⟩;obtain rfl:=h2.symm;go_wp2;refine bodyPost_ret (v:=.tuple #[.string ⟨#[97]⟩,.int .i64 0,.string ⟨#[97]⟩]) (by simp[results,Tryz.results49,go_sem]) rfl ?_;exact⟨rfl,(((Below.refl _ _).alloc (Qa _) _).alloc (by simp) _).alloc (by simp;omega) _⟩
 ·go_wp2_with fail
  refine(HP.out _).mono ?_;rintro e w2 ⟨rfl,h2⟩;obtain rfl:=h2.symm;go_wp2;refine bodyPost_ret (v:=.tuple #[.string ⟨#[98]⟩,.int .i64 0,.string ⟨#[98]⟩]) (by simp[results,Tryz.results49,go_sem]) rfl ?_;exact⟨rfl,(((Below.refl _ _).alloc (Qa _) _).alloc (by simp) _).alloc (by simp;omega) _⟩
 ·go_wp2_with fail
  refine(HP.out _).mono ?_;rintro e w2 ⟨rfl,h2⟩;obtain rfl:=h2.symm;go_wp2;refine bodyPost_ret (v:=.tuple #[.string ⟨#[34,97,32,98,34]⟩,.int .i64 0,.string ⟨#[97,32,98]⟩]) (by simp[results,Tryz.results49,go_sem]) rfl ?_;exact⟨rfl,(((Below.refl _ _).alloc (Qa _) _).alloc (by simp) _).alloc (by simp;omega) _⟩
 ·go_wp2_with fail
  refine(HP.out _).mono ?_;rintro e w2 ⟨rfl,h2⟩;obtain rfl:=h2.symm;go_wp2;refine bodyPost_ret (v:=.tuple #[.string ⟨#[34,34]⟩,.int .i64 0,.string ⟨#[]⟩]) (by simp[results,Tryz.results49,go_sem]) rfl ?_;exact⟨rfl,(((Below.refl _ _).alloc (Qa _) _).alloc (by simp) _).alloc (by simp;omega) _⟩
 ·go_wp2_with fail
  refine(HP.out _).mono ?_;rintro e w2 ⟨rfl,h2⟩;obtain rfl:=h2.symm;go_wp2;refine bodyPost_ret (v:=.tuple #[.string ⟨#[122,122]⟩,.int .i64 0,.string ⟨#[122,122]⟩]) (by simp[results,Tryz.results49,go_sem]) rfl ?_;exact⟨rfl,(((Below.refl _ _).alloc (Qa _) _).alloc (by simp) _).alloc (by simp;omega) _⟩
 go_wp2_with fail
 refine(HP.out _).mono ?_;rintro e w2 ⟨rfl,h2⟩;obtain rfl:=h2.symm;go_wp2;refine bodyPost_ret (v:=.tuple #[.string ⟨#[34,120,34,34,121,34]⟩,.int .i64 0,.string ⟨#[120,34,121]⟩]) (by simp[results,Tryz.results49,go_sem]) rfl ?_;exact⟨rfl,(((Below.refl _ _).alloc (Qa _) _).alloc (by simp) _).alloc (by simp;omega) _⟩
theorem ZkZ(sc ct n:Int)(hn:(Lit.int .i64 n).wf=true)(h0:0<=sc)(h3:sc<=3)(w:World):Calls Tryz.prog 49 #[.agg #[.bool false,.int .i64 sc,.int .i64 ct],.int .i64 n] w fun e w'=>e=.returned (.tuple #[.string (fdT false sc n),.int .i64 (fdV false sc n),.string ⟨#[]⟩])/\Below w.heap.size w w':=by
 have HP61:Hid (∀W:World,Calls Tryz.prog 17 #[.int .i64 n,.int .i64 61] W fun e w'=>e=.returned (.int .i64 (Zq n 61:Nat))/\w'=W):=fun W=>Yy n 61 W hn (by omega) (by omega);have HP4:Hid (∀W:World,Calls Tryz.prog 17 #[.int .i64 n,.int .i64 4] W fun e w'=>e=.returned (.int .i64 (Zq n 4:Nat))/\w'=W):=fun W=>Yy n 4 W hn (by omega) (by omega);have hp:=Yf n (show 0<61 by omega);have hk1: -30<=kN n/\kN n<=30:=(by unfold kN;omega);have qk:IntKind.i64.wrap (((Zq n 61:Nat):Int)-30)=kN n:=(by rw[ZB (by omega) (by omega)];rfl);have HD:Hid (∀W:World,Calls Tryz.prog 48 #[.int .i64 (kN n)] W fun e w'=>e=.returned (.string (Y8 (kN n)))/\Below W.heap.size W w'):=fun W=>ZeO (kN n) (by omega) (by omega) W;have hds:(Y8 (kN n)).size<=3:=Zb3 (by omega) (by omega)
 have HT:Hid (fdT false sc n=if ZdU sc n=true then Y8 (kN n)++⟨#[46,53]⟩ else Y8 (kN n)):=rfl;have HV:Hid (fdV false sc n=if ZdU sc n=true then kN n*ZA sc.toNat+ZA sc.toNat/2 else kN n*ZA sc.toNat):=rfl;have HH:Hid (ZdU sc n=decide (0<sc/\Zq n 4=0/\0<=kN n)):=rfl;generalize fdT false sc n=fT at *;generalize fdV false sc n=fV at *;generalize ZdU sc n=hN at *;generalize Zq n 61=p61 at *;generalize Zq n 4=p4 at *;generalize kN n=kk at *;clear hn hp
 rcases(show sc=0∨sc=1∨sc=2∨sc=3 by omega) with rfl|rfl|rfl|rfl
 ·have HF:Hid (hN=false):=(by show _=_;rw[HH.out];exact decide_eq_false (by omega));have q1:IntKind.i64.wrap (kk*1)=kk*1:=ZB (by omega) (by omega);go_enter Tryz.func49,Tryz.ntmps49;go_wp2_with fail
  refine(HP61.out _).mono ?_;rintro e w1 ⟨rfl,h1⟩;obtain rfl:=h1.symm;go_wp2_with fail
  refine(HD.out _).mono ?_;rintro e w3 ⟨rfl,hb3⟩;have HB:Hid (Below w.heap.size w w3):=(((Below.refl _ _).alloc (Qa _) _).alloc (by simp) _).trans (hb3.mono (by simp;omega));clear hb3;go_wp2;refine bodyPost_ret (v:=.tuple #[.string (Y8 kk),.int .i64 (kk*1),.string ⟨#[]⟩]) (by simp[results,Tryz.results49,go_sem]) rfl ?_;exact⟨by rw[HT.out,HV.out,HF.out];rfl,HB.out⟩
 ·have q1:IntKind.i64.wrap (kk*10)=kk*10:=ZB (by omega) (by omega);go_enter Tryz.func49,Tryz.ntmps49;go_wp2_with fail
  refine(HP61.out _).mono ?_;rintro e w1 ⟨rfl,h1⟩;obtain rfl:=h1.symm;go_wp2_with fail
  refine(HP4.out _).mono ?_;rintro e w2 ⟨rfl,h2⟩;obtain rfl:=h2.symm
  by_cases hc:p4=0/\0<=kk
  ·have HF:Hid (hN=true):=(by show _=_;rw[HH.out];exact decide_eq_true (by omega));have q4:((p4:Int)==0)=true:=(by rw[hc.1];rfl);have q5:0<=kk:=hc.2;have q6:IntKind.i64.wrap (kk*10+5)=kk*10+5:=ZB (by omega) (by omega);clear hc;go_wp2_with fail
   refine(HD.out _).mono ?_;rintro e w3 ⟨rfl,hb3⟩;have HB:Hid (Below w.heap.size w w3):=(((Below.refl _ _).alloc (Qa _) _).alloc (by simp) _).trans (hb3.mono (by simp;omega));clear hb3;go_wp2;refine bodyPost_ret (v:=.tuple #[.string (Y8 kk++⟨#[46,53]⟩),.int .i64 (kk*10+5),.string ⟨#[]⟩]) (by simp[results,Tryz.results49,go_sem]) rfl ?_;exact⟨by rw[HT.out,HV.out,HF.out];rfl,HB.out⟩
  have HF:Hid (hN=false):=by show _=_;rw[HH.out];exact decide_eq_false (by omega)
  by_cases hp4:p4=0
  ·have q4:((p4:Int)==0)=true:=(by rw[hp4];rfl);have q5:¬0<=kk:=(by omega);clear hc hp4;go_wp2_with fail
   refine(HD.out _).mono ?_;rintro e w3 ⟨rfl,hb3⟩;have HB:Hid (Below w.heap.size w w3):=(((Below.refl _ _).alloc (Qa _) _).alloc (by simp) _).trans (hb3.mono (by simp;omega));clear hb3;go_wp2;refine bodyPost_ret (v:=.tuple #[.string (Y8 kk),.int .i64 (kk*10),.string ⟨#[]⟩]) (by simp[results,Tryz.results49,go_sem]) rfl ?_;exact⟨by rw[HT.out,HV.out,HF.out];rfl,HB.out⟩
  have q4:((p4:Int)==0)=false:=(by rw[beq_eq_false_iff_ne];omega);clear hc;go_wp2_with fail
  refine(HD.out _).mono ?_;rintro e w3 ⟨rfl,hb3⟩;have HB:Hid (Below w.heap.size w w3):=(((Below.refl _ _).alloc (Qa _) _).alloc (by simp) _).trans (hb3.mono (by simp;omega));clear hb3;go_wp2;refine bodyPost_ret (v:=.tuple #[.string (Y8 kk),.int .i64 (kk*10),.string ⟨#[]⟩]) (by simp[results,Tryz.results49,go_sem]) rfl ?_;exact⟨by rw[HT.out,HV.out,HF.out];rfl,HB.out⟩
 ·have q1:IntKind.i64.wrap (kk*100)=kk*100:=ZB (by omega) (by omega);go_enter Tryz.func49,Tryz.ntmps49;go_wp2_with fail
  refine(HP61.out _).mono ?_;rintro e w1 ⟨rfl,h1⟩;obtain rfl:=h1.symm;go_wp2_with fail
  refine(HP4.out _).mono ?_;rintro e w2 ⟨rfl,h2⟩;obtain rfl:=h2.symm
  by_cases hc:p4=0/\0<=kk
  ·have HF:Hid (hN=true):=(by show _=_;rw[HH.out];exact decide_eq_true (by omega));have q4:((p4:Int)==0)=true:=(by rw[hc.1];rfl);have q5:0<=kk:=hc.2;have q6:IntKind.i64.wrap (kk*100+50)=kk*100+50:=ZB (by omega) (by omega);clear hc;go_wp2_with fail
   refine(HD.out _).mono ?_;rintro e w3 ⟨rfl,hb3⟩;have HB:Hid (Below w.heap.size w w3):=(((Below.refl _ _).alloc (Qa _) _).alloc (by simp) _).trans (hb3.mono (by simp;omega));clear hb3;go_wp2;refine bodyPost_ret (v:=.tuple #[.string (Y8 kk++⟨#[46,53]⟩),.int .i64 (kk*100+50),.string ⟨#[]⟩]) (by simp[results,Tryz.results49,go_sem]) rfl ?_;exact⟨by rw[HT.out,HV.out,HF.out];rfl,HB.out⟩
  have HF:Hid (hN=false):=by show _=_;rw[HH.out];exact decide_eq_false (by omega)
  by_cases hp4:p4=0
  ·have q4:((p4:Int)==0)=true:=(by rw[hp4];rfl);have q5:¬0<=kk:=(by omega);clear hc hp4;go_wp2_with fail
   refine(HD.out _).mono ?_;rintro e w3 ⟨rfl,hb3⟩;have HB:Hid (Below w.heap.size w w3):=(((Below.refl _ _).alloc (Qa _) _).alloc (by simp) _).trans (hb3.mono (by simp;omega));clear hb3;go_wp2;refine bodyPost_ret (v:=.tuple #[.string (Y8 kk),.int .i64 (kk*100),.string ⟨#[]⟩]) (by simp[results,Tryz.results49,go_sem]) rfl ?_;exact⟨by rw[HT.out,HV.out,HF.out];rfl,HB.out⟩
  have q4:((p4:Int)==0)=false:=(by rw[beq_eq_false_iff_ne];omega);clear hc;go_wp2_with fail
  refine(HD.out _).mono ?_;rintro e w3 ⟨rfl,hb3⟩;have HB:Hid (Below w.heap.size w w3):=(((Below.refl _ _).alloc (Qa _) _).alloc (by simp) _).trans (hb3.mono (by simp;omega));clear hb3;go_wp2;refine bodyPost_ret (v:=.tuple #[.string (Y8 kk),.int .i64 (kk*100),.string ⟨#[]⟩]) (by simp[results,Tryz.results49,go_sem]) rfl ?_;exact⟨by rw[HT.out,HV.out,HF.out];rfl,HB.out⟩
 have q1:IntKind.i64.wrap (kk*1000)=kk*1000:=ZB (by omega) (by omega);go_enter Tryz.func49,Tryz.ntmps49;go_wp2_with fail
 refine(HP61.out _).mono ?_;rintro e w1 ⟨rfl,h1⟩;obtain rfl:=h1.symm;go_wp2_with fail
 refine(HP4.out _).mono ?_;rintro e w2 ⟨rfl,h2⟩;obtain rfl:=h2.symm
 by_cases hc:p4=0/\0<=kk
 ·have HF:Hid (hN=true):=(by show _=_;rw[HH.out];exact decide_eq_true (by omega));have q4:((p4:Int)==0)=true:=(by rw[hc.1];rfl);have q5:0<=kk:=hc.2;have q6:IntKind.i64.wrap (kk*1000+500)=kk*1000+500:=ZB (by omega) (by omega);clear hc;go_wp2_with fail
  refine(HD.out _).mono ?_;rintro e w3 ⟨rfl,hb3⟩;have HB:Hid (Below w.heap.size w w3):=(((Below.refl _ _).alloc (Qa _) _).alloc (by simp) _).trans (hb3.mono (by simp;omega));clear hb3;go_wp2;refine bodyPost_ret (v:=.tuple #[.string (Y8 kk++⟨#[46,53]⟩),.int .i64 (kk*1000+500),.string ⟨#[]⟩]) (by simp[results,Tryz.results49,go_sem]) rfl ?_;exact⟨by rw[HT.out,HV.out,HF.out];rfl,HB.out⟩
 have HF:Hid (hN=false):=by show _=_;rw[HH.out];exact decide_eq_false (by omega)
 by_cases hp4:p4=0
 ·have q4:((p4:Int)==0)=true:=(by rw[hp4];rfl);have q5:¬0<=kk:=(by omega);clear hc hp4;go_wp2_with fail
  refine(HD.out _).mono ?_;rintro e w3 ⟨rfl,hb3⟩;have HB:Hid (Below w.heap.size w w3):=(((Below.refl _ _).alloc (Qa _) _).alloc (by simp) _).trans (hb3.mono (by simp;omega));clear hb3;go_wp2;refine bodyPost_ret (v:=.tuple #[.string (Y8 kk),.int .i64 (kk*1000),.string ⟨#[]⟩]) (by simp[results,Tryz.results49,go_sem]) rfl ?_;exact⟨by rw[HT.out,HV.out,HF.out];rfl,HB.out⟩
 have q4:((p4:Int)==0)=false:=(by rw[beq_eq_false_iff_ne];omega);clear hc;go_wp2_with fail
 refine(HD.out _).mono ?_;rintro e w3 ⟨rfl,hb3⟩;have HB:Hid (Below w.heap.size w w3):=(((Below.refl _ _).alloc (Qa _) _).alloc (by simp) _).trans (hb3.mono (by simp;omega));clear hb3;go_wp2;refine bodyPost_ret (v:=.tuple #[.string (Y8 kk),.int .i64 (kk*1000),.string ⟨#[]⟩]) (by simp[results,Tryz.results49,go_sem]) rfl ?_;exact⟨by rw[HT.out,HV.out,HF.out];rfl,HB.out⟩
theorem ZkY(wd:Bool)(sc ct n:Int)(hn:(Lit.int .i64 n).wf=true)(hsc:wd=false->0<=sc/\sc<=3)(w:World):Calls Tryz.prog 49 #[.agg #[.bool wd,.int .i64 sc,.int .i64 ct],.int .i64 n] w fun e w'=>e=.returned (.tuple #[.string (fdT wd sc n),.int .i64 (fdV wd sc n),.string (fdS wd n)])/\Below w.heap.size w w':=by
 cases wd
 exact ZkZ sc ct n hn (hsc rfl).1 (hsc rfl).2 w;exact Zjd sc ct n hn w
end Go.Proofs.YtfcgnpchbcmdeaaGreat
