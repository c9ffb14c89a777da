import Derived.Test.YtfcgnpchbcmdeaaGreatZfam
import Derived.Test.YtfcgnpchbcmdeaaGreatZfal
import Derived.Laws.BytesArg
namespace Go.Proofs.YtfcgnpchbcmdeaaGreat
set_option linter.unusedSimpArgs false
set_option maxRecDepth 100000
set_option maxHeartbeats 2000000
open Go.RowKit
def QX(nr nf:Nat):Int:=if nr+1=nf then 10 else 44
theorem Zgm(b:Nat)(af:Option Addr)(nf cf:Nat)(vW vC:Value)(wt:Int)(fl:Bool)(ar:Option Addr)(nr cr:Nat)(p:ZA)(w:World)(h:RB w b (.slice af nf cf) vW vC wt fl (.slice ar nr cr) p)(hnf:nf<=1000)(hnr:nr<=1000):Calls Tryz.prog 219 #[.pointer (some ⟨b,0,none⟩)] w fun e w'=>e=.returned (.int .u8 (QX nr nf))/\∃n,w'=w.drewN n:=by
 obtain⟨c0,_,_,_,_,c5⟩:=h.head;clear h
 by_cases s:nr+1=nf
 ·have HO:Hid (QX nr nf=10):=if_pos s;have hw:IntKind.i64.wrap ((nf:Int)-1)=(nf:Int)-1:=ZD (by omega) (by omega);have e1:((nr:Int)==(nf:Int)-1)=true:=(by simp;omega);clear s;go_enter Tryz.func219,Tryz.ntmps219;go_wp2_with fail
  go_big_quiet (fail);go_wp2;go_ret;rw[HO.out];exact⟨rfl,_,rfl⟩
 have HO:Hid (QX nr nf=44):=if_neg s;have hw:IntKind.i64.wrap ((nf:Int)-1)=(nf:Int)-1:=ZD (by omega) (by omega);have e1:((nr:Int)==(nf:Int)-1)=false:=beq_eq_false_iff_ne.2 (by omega);clear s;go_enter Tryz.func219,Tryz.ntmps219;go_wp2_with fail
 go_big_quiet (fail);go_wp2;go_ret;rw[HO.out];exact⟨rfl,_,rfl⟩
theorem Zil(w:World)(base:Nat)(v:Value)(bs:List Int)(h:Zo w base v bs):(convert 66 9 v).run Tryz.prog w=.ok (.string (strOfNums bs)) w:=by
 rcases h.2 with⟨rfl,h0⟩|⟨q,cp,cur,rfl,_,hh,_⟩
 have hb:bs=[]:=List.eq_nil_of_length_eq_zero h0;subst hb;rw[run_convert_bytes_nil w 66 5 Tryz.underlying66 Tryz.underlying5 0 0 9 Tryz.underlying9];rfl;refine run_convert_bytes_arg w 66 5 Tryz.underlying66 Tryz.underlying5 q 0 bs.length cp bs rfl (fun i hi=>?_) 9 Tryz.underlying9;have:=World.ownsRow.cells h (g:=q) rfl i (.int .u8 (bs.getD i 0)) (by rw[List.getElem?_map,Qd hi,List.getD,Qd hi];rfl);have hadd:(⟨q,0,none⟩:Addr).add i=⟨q,i,none⟩:=(by unfold Addr.add;split<;>simp_all);rw[hadd] at this;rw[Nat.zero_add];exact this
def Zcc(p:ZA):Int:=if p.neg=true then -p.num else p.num
theorem Zmo(b base:Nat)(vf vW vC:Value)(wt:Int)(fl:Bool)(vr:Value)(p:ZA)(bs:List Int)(w:World)(h:RW w b base vf vW vC wt fl vr p bs)(hn1: -1000000000000<=p.num)(hn2:p.num<=1000000000000):Calls Tryz.prog 221 #[.pointer (some ⟨b,6,none⟩)] w fun e w'=>e=.returned (.agg #[.bool (decide (p.st=0)),.int .i64 (Zcc p),.string (strOfNums bs)])/\Below w.heap.size w w':=by
 obtain⟨c6,c7,_,_,c10,c11,_⟩:=h.1.part;have hbl:=h.1.lt;obtain⟨a,cp,hv⟩:=h.2.form;have hcv:∀W,Below w.heap.size w W->(convert 66 9 p.wv).run Tryz.prog W=.ok (.string (strOfNums bs)) W:=fun W hb=>Zil W base p.wv bs ((Za.of_below (S:=fun _=>False) hb).row h.2 (fun _ _=>id));have hb0:Below w.heap.size w (w.alloc (.cells #[.bool false,.int .i64 0,.string ⟨#[]⟩] 308)):=(Below.refl _ _).alloc (Qa _) _;have hcv1:(convert 66 9 p.wv).run Tryz.prog (w.alloc (.cells #[.bool false,.int .i64 0,.string ⟨#[]⟩] 308)).drew=.ok (.string (strOfNums bs)) (w.alloc (.cells #[.bool false,.int .i64 0,.string ⟨#[]⟩] 308)).drew:=hcv _ hb0.drew
 have hcv2:(convert 66 9 p.wv).run Tryz.prog ((w.alloc (.cells #[.bool false,.int .i64 0,.string ⟨#[]⟩] 308)).alloc (.cells #[.bool false,.int .i64 0,.string ⟨#[]⟩] 308)).drew=.ok (.string (strOfNums bs)) ((w.alloc (.cells #[.bool false,.int .i64 0,.string ⟨#[]⟩] 308)).alloc (.cells #[.bool false,.int .i64 0,.string ⟨#[]⟩] 308)).drew:=hcv _ (hb0.alloc (by simp) _).drew;have d6:(w.alloc (.cells #[.bool false,.int .i64 0,.string ⟨#[]⟩] 308)).cell? ⟨b,6,none⟩=some (.int .i64 p.st):=(hb0.cell (p:=⟨b,6,none⟩) hbl).trans c6;have d7:(w.alloc (.cells #[.bool false,.int .i64 0,.string ⟨#[]⟩] 308)).cell? ⟨b,7,none⟩=some (.bool p.neg):=(hb0.cell (p:=⟨b,7,none⟩) hbl).trans c7;have d10:(w.alloc (.cells #[.bool false,.int .i64 0,.string ⟨#[]⟩] 308)).cell? ⟨b,10,none⟩=some (.int .i64 p.num):=(hb0.cell (p:=⟨b,10,none⟩) hbl).trans c10
 have d11:(w.alloc (.cells #[.bool false,.int .i64 0,.string ⟨#[]⟩] 308)).cell? ⟨b,11,none⟩=some p.wv:=(hb0.cell (p:=⟨b,11,none⟩) hbl).trans c11;have HCV:Hid (∀W,Below w.heap.size w W->(convert 66 9 (.slice a bs.length cp)).run Tryz.prog W=.ok (.string (strOfNums bs)) W):=(by rw[<- hv];exact hcv);have HB0:Hid (Below w.heap.size w (w.alloc (.cells #[.bool false,.int .i64 0,.string ⟨#[]⟩] 308))):=hb0;have hs0:(w.alloc (.cells #[.bool false,.int .i64 0,.string ⟨#[]⟩] 308)).heap.size=w.heap.size+1:=(by simp);have t0:(w.alloc (.cells #[.bool false,.int .i64 0,.string ⟨#[]⟩] 308)).cell? ⟨w.heap.size,0,none⟩=some (.bool false):=(by simp);have t1:(w.alloc (.cells #[.bool false,.int .i64 0,.string ⟨#[]⟩] 308)).cell? ⟨w.heap.size,1,none⟩=some (.int .i64 0):=by simp
 have t2:(w.alloc (.cells #[.bool false,.int .i64 0,.string ⟨#[]⟩] 308)).cell? ⟨w.heap.size,2,none⟩=some (.string ⟨#[]⟩):=(by simp);have HBK:Hid ((w.alloc (.cells #[.bool false,.int .i64 0,.string ⟨#[]⟩] 308)).heap[w.heap.size]? =some (.cells #[.bool false,.int .i64 0,.string ⟨#[]⟩] 308 (0,0))):=heap_alloc_new w _;have tf:∀o,(w.alloc (.cells #[.bool false,.int .i64 0,.string ⟨#[]⟩] 308)).frozen? ⟨w.heap.size,o,none⟩=false:=fun o=>frozen_of_row _ _ o _ 308 (heap_alloc_new w _);clear h hcv hb0 c6 c7 c10 c11;rw[hv] at d11 hcv1 hcv2;go_enter Tryz.func221,Tryz.ntmps221;go_wp2_with fail
 generalize w.alloc (.cells #[.bool false,.int .i64 0,.string ⟨#[]⟩] 308)=wb at *;have n1:=World.new_ne wb _ d6;have n2:=World.new_ne wb _ d10;have n3:=World.new_ne wb _ d11;clear hcv1 hcv2;go_region_held3 (fun w'=>(w'.cell? ⟨b,6,none⟩=some (.int .i64 p.st)/\w'.cell? ⟨b,10,none⟩=some (.int .i64 p.num)/\w'.cell? ⟨b,11,none⟩=some (.slice a bs.length cp))/\(convert 66 9 (.slice a bs.length cp)).run Tryz.prog w'=.ok (.string (strOfNums bs)) w') (exact⟨by go_keep,HCV.out _ (by repeat(first|with_reducible exact HB0.out|with_reducible apply Below.drew|(refine Below.alloc ?_ (by first|omega|(simp;omega)) _)|(refine Below.setCell ?_ (by first|omega|(simp;omega)) _)))⟩) (fail)
 have HBF:Hid (Below w.heap.size w (wb.alloc (.cells #[.bool (p.st==0),.int .i64 p.num,.string (strOfNums bs)] 308)).drew):=(HB0.out.alloc (by omega) _).drew;have hst:(p.st==0)=decide (p.st=0):=(by by_cases h0:p.st=0<;>simp[h0]);have HST:Hid ((p.st==0)=decide (p.st=0)):=hst;clear hst;have hwn:IntKind.i64.wrap (-p.num)= -p.num:=ZD (by omega) (by omega)
 by_cases hneg:p.neg=true
 ·have HO:Hid (Zcc p= -p.num):=if_pos hneg;rw[hneg] at d7;clear hneg;have hfin:(((((wb.setCell ⟨w.heap.size,0,none⟩ (.bool (p.st==0))).setCell ⟨w.heap.size,1,none⟩ (.int .i64 (-p.num))).setCell ⟨w.heap.size,2,none⟩ (.string (strOfNums bs))).alloc (.cells #[.bool (p.st==0),.int .i64 (-p.num),.string (strOfNums bs)] 308)).drew).heap[w.heap.size]? =some (.cells #[.bool (p.st==0),.int .i64 (-p.num),.string (strOfNums bs)] 308 (0,0)):=by have k1:=heap_setCell_same wb w.heap.size 0 _ 308 (.bool (p.st==0)) HBK.out;have k2:=heap_setCell_same _ w.heap.size 1 _ 308 (.int .i64 (-p.num)) k1;have k3:=heap_setCell_same _ w.heap.size 2 _ 308 (.string (strOfNums bs)) k2;exact(Below.heap_alloc _ _ w.heap.size (Qb k3).1).trans k3
  have q0:=cell_of_row _ w.heap.size 0 _ 308 (0,0) hfin;have q1:=cell_of_row _ w.heap.size 1 _ 308 (0,0) hfin;have q2:=cell_of_row _ w.heap.size 2 _ 308 (0,0) hfin;have HBF2:Hid (Below w.heap.size w ((((wb.setCell ⟨w.heap.size,0,none⟩ (.bool (p.st==0))).setCell ⟨w.heap.size,1,none⟩ (.int .i64 (-p.num))).setCell ⟨w.heap.size,2,none⟩ (.string (strOfNums bs))).alloc (.cells #[.bool (p.st==0),.int .i64 (-p.num),.string (strOfNums bs)] 308)).drew):=((((HB0.out.setCell (p:=⟨w.heap.size,0,none⟩) (Qa _) _).setCell (p:=⟨w.heap.size,1,none⟩) (Qa _) _).setCell (p:=⟨w.heap.size,2,none⟩) (Qa _) _).alloc (by simp[World.setCell];omega) _).drew;clear hfin;go_wp2
  exact bodyPost_ret (v:=.agg #[.bool (p.st==0),.int .i64 (-p.num),.string (strOfNums bs)]) (by simp at q0 q1 q2;simp[results,Tryz.results221,go_sem,q0,q1,q2]) rfl ⟨by rw[HO.out,HST.out],HBF2.out⟩
 have hnf:p.neg=false:=by simpa using hneg
 have HO:Hid (Zcc p=p.num):=if_neg hneg;rw[hnf] at d7;clear hneg hnf;have hfin:(((((wb.setCell ⟨w.heap.size,0,none⟩ (.bool (p.st==0))).setCell ⟨w.heap.size,1,none⟩ (.int .i64 (p.num))).setCell ⟨w.heap.size,2,none⟩ (.string (strOfNums bs))).alloc (.cells #[.bool (p.st==0),.int .i64 (p.num),.string (strOfNums bs)] 308)).drew).heap[w.heap.size]? =some (.cells #[.bool (p.st==0),.int .i64 (p.num),.string (strOfNums bs)] 308 (0,0)):=by have k1:=heap_setCell_same wb w.heap.size 0 _ 308 (.bool (p.st==0)) HBK.out;have k2:=heap_setCell_same _ w.heap.size 1 _ 308 (.int .i64 (p.num)) k1;have k3:=heap_setCell_same _ w.heap.size 2 _ 308 (.string (strOfNums bs)) k2;exact(Below.heap_alloc _ _ w.heap.size (Qb k3).1).trans k3
 have q0:=cell_of_row _ w.heap.size 0 _ 308 (0,0) hfin;have q1:=cell_of_row _ w.heap.size 1 _ 308 (0,0) hfin;have q2:=cell_of_row _ w.heap.size 2 _ 308 (0,0) hfin;have HBF2:Hid (Below w.heap.size w ((((wb.setCell ⟨w.heap.size,0,none⟩ (.bool (p.st==0))).setCell ⟨w.heap.size,1,none⟩ (.int .i64 (p.num))).setCell ⟨w.heap.size,2,none⟩ (.string (strOfNums bs))).alloc (.cells #[.bool (p.st==0),.int .i64 (p.num),.string (strOfNums bs)] 308)).drew):=((((HB0.out.setCell (p:=⟨w.heap.size,0,none⟩) (Qa _) _).setCell (p:=⟨w.heap.size,1,none⟩) (Qa _) _).setCell (p:=⟨w.heap.size,2,none⟩) (Qa _) _).alloc (by simp[World.setCell];omega) _).drew;clear hfin;go_wp2
 exact bodyPost_ret (v:=.agg #[.bool (p.st==0),.int .i64 (p.num),.string (strOfNums bs)]) (by simp at q0 q1 q2;simp[results,Tryz.results221,go_sem,q0,q1,q2]) rfl ⟨by rw[HO.out,HST.out],HBF2.out⟩
structure VS where
 miss:Bool
 num:Int
 word:ByteArray
def Zai(v:VS):List Value:=[.bool v.miss,.int .i64 v.num,.string v.word]
def Zbk:List VS->List Value
 |[]=>[]
 |e::L=>Zai e++Zbk L
theorem Zhr(a b:List VS):Zbk (a++b)=Zbk a++Zbk b:=by
 induction a with
 |nil=>rfl
 |cons e L ih=>simp[Zbk,ih]
theorem Zk0:(Tryz.prog.info? 308).map (fun i=>(i.zero,i.size,i.bytes))=some (some (.agg #[.bool false,.int .i64 0,.string ⟨#[]⟩]),3,32):=by kernel_rfl
def Qr(w:World)(base:Nat)(v:Value)(L:List VS):Prop:=w.ownsRow base 308 3 v L.length (Zbk L)
theorem Qr.nil(w:World)(base:Nat):Qr w base (.slice none 0 0) []:=World.ownsRow_nil w base 308 3
end Go.Proofs.YtfcgnpchbcmdeaaGreat
