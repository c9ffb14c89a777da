import Derived.Test.YtfcgnpchbcmdeaaGreatZpbg
import Derived.Test.YtfcgnpchbcmdeaaGreatZpal
import Derived.Test.YtfcgnpchbcmdeaaGreatZpao
import Derived.Test.YtfcgnpchbcmdeaaGreatZpaq
import Derived.Deep.RegionHeld3
namespace Go.Proofs.YtfcgnpchbcmdeaaGreat
set_option linter.unusedSimpArgs false
set_option maxRecDepth 100000
set_option maxHeartbeats 8000000
open Go.RowKit
def xbF(X:List XS)(f row d:Nat):Nat:=
 match X.find? (fun y=>decide (atX row f y)) with
 |some y=>y.bin
 |none=>d
def Zc6(D:QX)(X:List XS)(f bi p row:Nat):Nat:=
 if Qy D bi p<=(D.bs.getD bi ZE).N.getD row 0/\(D.bs.getD bi ZE).N.getD row 0<Qy D bi p+(D.ks.getD f ZN).many then(D.bs.getD bi ZE).N.getD row 0-Qy D bi p
 else xbF X f row (D.ks.getD f ZN).d
theorem ZiL{X:List XS}{r f i d:Nat}(hs:Zaj X)(h:Zj4 X r f i):xbF X f r d=if YQ X r f i=true then(X.getD i Q6).bin else d:=by
 unfold xbF
 have hg:∀k (hk:k<X.length),X.getD k Q6=X[k]:=fun k hk=>by rw[Qc,Qd hk];rfl
 by_cases hf:YQ X r f i=true
 rw[if_pos hf];simp only[YQ,decide_eq_true_eq] at hf;have:X.find? (fun y=>decide (atX r f y))=some X[i]:=(by rw[List.find?_eq_some_iff_getElem];refine⟨by rw[<- hg i hf.1];exact decide_eq_true hf.2,i,hf.1,rfl,fun j hj=>?_⟩;have:=h.lo j hj;rw[hg j (by omega)] at this;unfold Zci at this;rw[Bool.not_eq_true',decide_eq_false_iff_not];unfold atX;omega);rw[this,hg i hf.1];rw[if_neg hf]
 have:X.find? (fun y=>decide (atX r f y))=none:=by
  rw[List.find?_eq_none];intro y hy;obtain⟨k,hk,rfl⟩:=List.getElem_of_mem hy;simp only[decide_eq_true_eq];intro ha
  rcases Nat.lt_or_ge k i with h1|h1
  have:=h.lo k h1;rw[hg k hk] at this;unfold Zci at this;unfold atX at ha;omega;apply hf;simp only[YQ,decide_eq_true_eq];have hi:i<X.length:=(by omega);refine⟨hi,?_⟩;have h2:=h.hi i (Qa _) hi;rw[hg i hi] at h2 ⊢
  rcases Nat.lt_or_ge i k with h3|h3
  have:=List.pairwise_iff_getElem.1 hs i k hi hk h3;unfold Zci at h2;unfold atX at ha ⊢;omega;have e:k=i:=(by omega);subst e;exact ha
 rw[this]
theorem Zhc(db f bi p row cp:Nat)(vK vB vX:Value)(kvs bvs:List (Value×Value))(X:List XS)(D:QX)(w:World)(h:Zas w db vK vB vX kvs bvs X D)(hs:ZbE D f bi p)(hbl:D.bs.length<=1000)(hxl:X.length<=1000000)(hN:(D.bs.getD bi ZE).N.getD row 0<64)(hoff:Qy D bi p<=100000)(hvc:(bvs.getD bi vv0).2=.iface 382 (.pointer (some ⟨cp,0,none⟩)))(hat:∀W:World,Below w.heap.size w W->Calls Tryz.prog 323 #[.pointer (some ⟨cp,0,none⟩),.int .i64 (row:Nat)] W fun e w'=>e=.returned (.int .i64 ((D.bs.getD bi ZE).N.getD row 0:Nat))/\Below W.heap.size W w'):Calls Tryz.prog 78 #[.pointer (some ⟨db,0,none⟩),.int .i64 (row:Nat),.int .i64 (f:Nat)] w fun e w'=>e=.returned (.int .i64 (Zc6 D X f bi p row:Nat))/\Below w.heap.size w w':=by
 have HSE:=Zfr db f bi p vK vB vX kvs bvs X D w h hs hbl;obtain⟨hI,_⟩:=h.ds.bn.each bi hs.hb;obtain⟨fa,fcc,hvf⟩:=hI.shape;have hfk:=hs.fk bi p (Qa _) hs.hp;rw[hs.at_] at hfk;have hmn:=hs.mn f hfk;obtain⟨qk,cK,ab,cb,aw,cw,hvK,hqkl,k0,k1,k2,k3,_⟩:=h.kn.at hfk;subst hvK;obtain⟨xa,xc,hvX⟩:=h.ds.xn.shape;subst hvX;have d0:w.cell? ⟨db,0,none⟩=some (.slice (some ⟨qk,0,none⟩) D.ks.length cK):=cell_of_row _ _ 0 _ 168 (0,0) h.ds.blk;have d2:w.cell? ⟨db,2,none⟩=some (.slice xa X.length xc):=cell_of_row _ _ 2 _ 168 (0,0) h.ds.blk;have hdl:db<w.heap.size:=(Qb h.ds.blk).1;rw[hvf,hvc] at HSE
 have HAT:Hid (∀W:World,Below w.heap.size w W->Calls Tryz.prog 323 #[.pointer (some ⟨cp,0,none⟩),.int .i64 (row:Nat)] W fun e w'=>e=.returned (.int .i64 ((D.bs.getD bi ZE).N.getD row 0:Nat))/\Below W.heap.size W w'):=hat;have HMN:=KS.many_eq (D.ks.getD f ZN)
 have HHM:Hid (∀W:World,Calls Tryz.prog 146 #[.agg #[.bool (D.ks.getD f ZN).e.wd,.slice ab (D.ks.getD f ZN).e.bs.length cb,.slice aw (D.ks.getD f ZN).e.ww.length cw]] W fun e w'=>e=.returned (.int .i64 (((D.ks.getD f ZN).many:Nat):Int))/\Below W.heap.size W w'):=fun W=>by rw[<- HMN];exact Y3 _ ab aw _ cb _ cw W (by unfold KS.many ES.cnt at hmn;omega)
 have HXW:Hid (∀W:World,Below w.heap.size w W->Zau W 0 (.slice xa X.length xc) X):=fun W hW=>(Za.of_below (S:=fun _=>False) hW).row h.ds.xn (fun _ _=>id);have HFX:Hid (∀W:World,Below w.heap.size w W->Calls Tryz.prog 147 #[.slice xa X.length xc,.agg #[.int .i64 (row:Nat),.int .i64 (f:Nat),.int .i64 0],.func (.func 148) #[] #[]] W fun e w'=>ZlW W X row f e w'):=fun W hW=>Zgj xa xc row f X W (HXW.out W hW) h.sorted hxl;have HLF:Hid (Zc6 D X f bi p row=if Qy D bi p<=(D.bs.getD bi ZE).N.getD row 0/\(D.bs.getD bi ZE).N.getD row 0<Qy D bi p+(D.ks.getD f ZN).many then(D.bs.getD bi ZE).N.getD row 0-Qy D bi p else xbF X f row (D.ks.getD f ZN).d):=rfl
 have HXB:Hid (∀i,Zj4 X row f i->xbF X f row (D.ks.getD f ZN).d=if YQ X row f i=true then(X.getD i Q6).bin else(D.ks.getD f ZN).d):=fun i hi=>ZiL h.sorted hi;clear HMN hvf hvc hI hs h hat hbl;generalize Zc6 D X f bi p row=res at *;generalize (D.bs.getD bi ZE).N.getD row 0=x at *;generalize Qy D bi p=off at *;generalize (ZK (D.bs.getD bi ZE).fs).length=nf at *;generalize D.ks.getD f ZN=Kf at *;generalize xbF X f row Kf.d=xres at *;generalize Kf.e.wd=kwd at *;generalize Kf.e.bs.length=knb at *;generalize Kf.e.ww.length=knw at *;generalize Kf.many=km at *;generalize Kf.d=kd at *;generalize hnk:D.ks.length=nk at *;clear hnk;generalize hnx:X.length=nx at *;have HNX:Hid (X.length=nx):=hnx;clear hnx;have bf1:(0:Int)<=(f:Int):=(by omega);have bf2:(f:Int)<(nk:Int):=by omega
 have hme:∀W:World,(method 535 382 (.pointer (some ⟨cp,0,none⟩)) "At").run Tryz.prog W=.ok (323,.pointer (some ⟨cp,0,none⟩)) W:=fun W=>by kernel_rfl
 go_enter Tryz.func78,Tryz.ntmps78;go_wp2_with fail
 refine HSE.mono ?_;rintro e w2 ⟨rfl,hb2⟩;have HB2:Hid (Below w.heap.size w w2):=hb2;clear hb2 HSE;go_wp2_with fail
 refine(HAT.out _ (HB2.out.alloc HB2.out.size _)).mono ?_;rintro e w3 ⟨rfl,hb3⟩;have HB3:Hid (Below w.heap.size w w3):=(HB2.out.alloc HB2.out.size _).trans (hb3.mono (by have:=HB2.out.size;simp;omega));have d0w:=(HB3.out.cell (p:=⟨db,0,none⟩) hdl).trans d0;have d2w:=(HB3.out.cell (p:=⟨db,2,none⟩) hdl).trans d2;have e0:=(HB3.out.cell (p:=⟨qk,f*4,none⟩) hqkl).trans k0;have e1:=(HB3.out.cell (p:=⟨qk,f*4+1,none⟩) hqkl).trans k1;have e2:=(HB3.out.cell (p:=⟨qk,f*4+2,none⟩) hqkl).trans k2;clear hb3 HB2
 by_cases hlo:off<=x
 ·obtain⟨bn,hbn⟩:∃bn,bn=x-off:=⟨_,rfl⟩;have q1:(x:Int)-(off:Int)=(bn:Int):=(by omega);have q2:IntKind.i64.wrap (bn:Int)=(bn:Int):=ZB (by omega) (by omega);have q3:(0:Int)<=(bn:Int):=(by omega);have HBN:Hid (bn=x-off):=hbn;clear hbn;go_wp2_with fail
  refine(HHM.out _).mono ?_;rintro e w4 ⟨rfl,hb4⟩;have HB4:Hid (Below w.heap.size w w4):=HB3.out.trans (hb4.mono HB3.out.size);clear hb4
  by_cases hhi:x<off+km
  ·have q4:(bn:Int)<(km:Int):=(by have:=HBN.out;omega);have HE:Hid (res=bn):=(by have:=HLF.out;rw[if_pos ⟨hlo,hhi⟩] at this;exact this.trans HBN.out.symm);go_wp2;go_ret;exact⟨by rw[HE.out];rfl,HB4.out⟩
  have q4:¬(bn:Int)<(km:Int):=(by have:=HBN.out;omega);have HE:Hid (res=xres):=(by have:=HLF.out;rw[if_neg (fun h=>hhi h.2)] at this;exact this);have d2x:=(HB4.out.cell (p:=⟨db,2,none⟩) hdl).trans d2;clear d0w d2w e0 e1 e2;go_wp2_with fail
  refine(HFX.out _ HB4.out).mono ?_;rintro e w5 ⟨i,rfl,hi,hb5⟩;have HB5:Hid (Below w.heap.size w w5):=HB4.out.trans (hb5.mono HB4.out.size);have hxb:=HXB.out i hi;have d0y:=(HB5.out.cell (p:=⟨db,0,none⟩) hdl).trans d0;have d2y:=(HB5.out.cell (p:=⟨db,2,none⟩) hdl).trans d2;have e3:=(HB5.out.cell (p:=⟨qk,f*4+3,none⟩) hqkl).trans k3;clear hb5
  cases hf:YQ X row f i
  ·have HR:Hid (res=kd):=(by rw[hf] at hxb;exact HE.out.trans hxb);clear hxb hf hi;go_wp2;go_ret;exact⟨by rw[HR.out];rfl,HB5.out⟩
  have HR:Hid (res=(X.getD i Q6).bin):=(by rw[hf] at hxb;exact HE.out.trans hxb);have hil:i<nx:=(by simp only[YQ,decide_eq_true_eq] at hf;have:=hf.1;rw[HNX.out] at this;exact this);obtain⟨q,hq,hql,_,_,y2⟩:=(HXW.out _ HB5.out).atK HNX.out hil;subst hq;have b1:(0:Int)<=(i:Int):=(by omega);have b2:(i:Int)<(nx:Int):=(by omega);clear hxb hf hi;generalize (X.getD i Q6).bin=xb at *;go_wp2;go_ret;exact⟨by rw[HR.out];rfl,HB5.out⟩
 have q1:IntKind.i64.wrap ((x:Int)-(off:Int))=(x:Int)-(off:Int):=ZB (by omega) (by omega);have q3:¬(0:Int)<=(x:Int)-(off:Int):=(by omega);have HE:Hid (res=xres):=(by have:=HLF.out;rw[if_neg (fun h=>hlo h.1)] at this;exact this);have HB4:Hid (Below w.heap.size w w3):=HB3.out;go_wp2_with fail
 refine(HFX.out _ HB4.out).mono ?_;rintro e w5 ⟨i,rfl,hi,hb5⟩;have HB5:Hid (Below w.heap.size w w5):=HB4.out.trans (hb5.mono HB4.out.size);have hxb:=HXB.out i hi;have d0y:=(HB5.out.cell (p:=⟨db,0,none⟩) hdl).trans d0;have d2y:=(HB5.out.cell (p:=⟨db,2,none⟩) hdl).trans d2;have e3:=(HB5.out.cell (p:=⟨qk,f*4+3,none⟩) hqkl).trans k3;clear hb5
 cases hf:YQ X row f i
 ·have HR:Hid (res=kd):=(by rw[hf] at hxb;exact HE.out.trans hxb);clear hxb hf hi;go_wp2;go_ret;exact⟨by rw[HR.out];rfl,HB5.out⟩
 have HR:Hid (res=(X.getD i Q6).bin):=(by rw[hf] at hxb;exact HE.out.trans hxb);have hil:i<nx:=(by simp only[YQ,decide_eq_true_eq] at hf;have:=hf.1;rw[HNX.out] at this;exact this);obtain⟨q,hq,hql,_,_,y2⟩:=(HXW.out _ HB5.out).atK HNX.out hil;subst hq;have b1:(0:Int)<=(i:Int):=(by omega);have b2:(i:Int)<(nx:Int):=(by omega);clear hxb hf hi;generalize (X.getD i Q6).bin=xb at *;go_wp2;go_ret;exact⟨by rw[HR.out];rfl,HB5.out⟩
theorem Zf0(db f bi p row cp:Nat)(vK vB vX:Value)(kvs bvs:List (Value×Value))(X:List XS)(D:QX)(w:World)(h:Zas w db vK vB vX kvs bvs X D)(hs:ZbE D f bi p)(hbl:D.bs.length<=1000)(hxl:X.length<=1000000)(hN:(D.bs.getD bi ZE).N.getD row 0<64)(hoff:Qy D bi p<=100000)(hvc:(bvs.getD bi vv0).2=.iface 380 (.pointer (some ⟨cp,0,none⟩)))(hat:∀W:World,Below w.heap.size w W->Calls Tryz.prog 371 #[.pointer (some ⟨cp,0,none⟩),.int .i64 (row:Nat)] W fun e w'=>e=.returned (.int .i64 ((D.bs.getD bi ZE).N.getD row 0:Nat))/\Below W.heap.size W w'):Calls Tryz.prog 78 #[.pointer (some ⟨db,0,none⟩),.int .i64 (row:Nat),.int .i64 (f:Nat)] w fun e w'=>e=.returned (.int .i64 (Zc6 D X f bi p row:Nat))/\Below w.heap.size w w':=by
 have HSE:=Zfr db f bi p vK vB vX kvs bvs X D w h hs hbl;obtain⟨hI,_⟩:=h.ds.bn.each bi hs.hb;obtain⟨fa,fcc,hvf⟩:=hI.shape;have hfk:=hs.fk bi p (Qa _) hs.hp;rw[hs.at_] at hfk;have hmn:=hs.mn f hfk;obtain⟨qk,cK,ab,cb,aw,cw,hvK,hqkl,k0,k1,k2,k3,_⟩:=h.kn.at hfk;subst hvK;obtain⟨xa,xc,hvX⟩:=h.ds.xn.shape;subst hvX;have d0:w.cell? ⟨db,0,none⟩=some (.slice (some ⟨qk,0,none⟩) D.ks.length cK):=cell_of_row _ _ 0 _ 168 (0,0) h.ds.blk;have d2:w.cell? ⟨db,2,none⟩=some (.slice xa X.length xc):=cell_of_row _ _ 2 _ 168 (0,0) h.ds.blk;have hdl:db<w.heap.size:=(Qb h.ds.blk).1;rw[hvf,hvc] at HSE
 have HAT:Hid (∀W:World,Below w.heap.size w W->Calls Tryz.prog 371 #[.pointer (some ⟨cp,0,none⟩),.int .i64 (row:Nat)] W fun e w'=>e=.returned (.int .i64 ((D.bs.getD bi ZE).N.getD row 0:Nat))/\Below W.heap.size W w'):=hat;have HMN:=KS.many_eq (D.ks.getD f ZN)
 have HHM:Hid (∀W:World,Calls Tryz.prog 146 #[.agg #[.bool (D.ks.getD f ZN).e.wd,.slice ab (D.ks.getD f ZN).e.bs.length cb,.slice aw (D.ks.getD f ZN).e.ww.length cw]] W fun e w'=>e=.returned (.int .i64 (((D.ks.getD f ZN).many:Nat):Int))/\Below W.heap.size W w'):=fun W=>by rw[<- HMN];exact Y3 _ ab aw _ cb _ cw W (by unfold KS.many ES.cnt at hmn;omega)
 have HXW:Hid (∀W:World,Below w.heap.size w W->Zau W 0 (.slice xa X.length xc) X):=fun W hW=>(Za.of_below (S:=fun _=>False) hW).row h.ds.xn (fun _ _=>id);have HFX:Hid (∀W:World,Below w.heap.size w W->Calls Tryz.prog 147 #[.slice xa X.length xc,.agg #[.int .i64 (row:Nat),.int .i64 (f:Nat),.int .i64 0],.func (.func 148) #[] #[]] W fun e w'=>ZlW W X row f e w'):=fun W hW=>Zgj xa xc row f X W (HXW.out W hW) h.sorted hxl;have HLF:Hid (Zc6 D X f bi p row=if Qy D bi p<=(D.bs.getD bi ZE).N.getD row 0/\(D.bs.getD bi ZE).N.getD row 0<Qy D bi p+(D.ks.getD f ZN).many then(D.bs.getD bi ZE).N.getD row 0-Qy D bi p else xbF X f row (D.ks.getD f ZN).d):=rfl
 have HXB:Hid (∀i,Zj4 X row f i->xbF X f row (D.ks.getD f ZN).d=if YQ X row f i=true then(X.getD i Q6).bin else(D.ks.getD f ZN).d):=fun i hi=>ZiL h.sorted hi;clear HMN hvf hvc hI hs h hat hbl;generalize Zc6 D X f bi p row=res at *;generalize (D.bs.getD bi ZE).N.getD row 0=x at *;generalize Qy D bi p=off at *;generalize (ZK (D.bs.getD bi ZE).fs).length=nf at *;generalize D.ks.getD f ZN=Kf at *;generalize xbF X f row Kf.d=xres at *;generalize Kf.e.wd=kwd at *;generalize Kf.e.bs.length=knb at *;generalize Kf.e.ww.length=knw at *;generalize Kf.many=km at *;generalize Kf.d=kd at *;generalize hnk:D.ks.length=nk at *;clear hnk;generalize hnx:X.length=nx at *;have HNX:Hid (X.length=nx):=hnx;clear hnx;have bf1:(0:Int)<=(f:Int):=(by omega);have bf2:(f:Int)<(nk:Int):=by omega
 have hme:∀W:World,(method 535 380 (.pointer (some ⟨cp,0,none⟩)) "At").run Tryz.prog W=.ok (371,.pointer (some ⟨cp,0,none⟩)) W:=fun W=>by kernel_rfl
 go_enter Tryz.func78,Tryz.ntmps78;go_wp2_with fail
 refine HSE.mono ?_;rintro e w2 ⟨rfl,hb2⟩;have HB2:Hid (Below w.heap.size w w2):=hb2;clear hb2 HSE;go_wp2_with fail
 refine(HAT.out _ (HB2.out.alloc HB2.out.size _)).mono ?_;rintro e w3 ⟨rfl,hb3⟩;have HB3:Hid (Below w.heap.size w w3):=(HB2.out.alloc HB2.out.size _).trans (hb3.mono (by have:=HB2.out.size;simp;omega));have d0w:=(HB3.out.cell (p:=⟨db,0,none⟩) hdl).trans d0;have d2w:=(HB3.out.cell (p:=⟨db,2,none⟩) hdl).trans d2;have e0:=(HB3.out.cell (p:=⟨qk,f*4,none⟩) hqkl).trans k0;have e1:=(HB3.out.cell (p:=⟨qk,f*4+1,none⟩) hqkl).trans k1;have e2:=(HB3.out.cell (p:=⟨qk,f*4+2,none⟩) hqkl).trans k2;clear hb3 HB2
 by_cases hlo:off<=x
 ·obtain⟨bn,hbn⟩:∃bn,bn=x-off:=⟨_,rfl⟩;have q1:(x:Int)-(off:Int)=(bn:Int):=(by omega);have q2:IntKind.i64.wrap (bn:Int)=(bn:Int):=ZB (by omega) (by omega);have q3:(0:Int)<=(bn:Int):=(by omega);have HBN:Hid (bn=x-off):=hbn;clear hbn;go_wp2_with fail
  refine(HHM.out _).mono ?_;rintro e w4 ⟨rfl,hb4⟩;have HB4:Hid (Below w.heap.size w w4):=HB3.out.trans (hb4.mono HB3.out.size);clear hb4
  by_cases hhi:x<off+km
  ·have q4:(bn:Int)<(km:Int):=(by have:=HBN.out;omega);have HE:Hid (res=bn):=(by have:=HLF.out;rw[if_pos ⟨hlo,hhi⟩] at this;exact this.trans HBN.out.symm);go_wp2;go_ret;exact⟨by rw[HE.out];rfl,HB4.out⟩
  have q4:¬(bn:Int)<(km:Int):=(by have:=HBN.out;omega);have HE:Hid (res=xres):=(by have:=HLF.out;rw[if_neg (fun h=>hhi h.2)] at this;exact this);have d2x:=(HB4.out.cell (p:=⟨db,2,none⟩) hdl).trans d2;clear d0w d2w e0 e1 e2;go_wp2_with fail
  refine(HFX.out _ HB4.out).mono ?_;rintro e w5 ⟨i,rfl,hi,hb5⟩;have HB5:Hid (Below w.heap.size w w5):=HB4.out.trans (hb5.mono HB4.out.size);have hxb:=HXB.out i hi;have d0y:=(HB5.out.cell (p:=⟨db,0,none⟩) hdl).trans d0;have d2y:=(HB5.out.cell (p:=⟨db,2,none⟩) hdl).trans d2;have e3:=(HB5.out.cell (p:=⟨qk,f*4+3,none⟩) hqkl).trans k3;clear hb5
  cases hf:YQ X row f i
  ·have HR:Hid (res=kd):=(by rw[hf] at hxb;exact HE.out.trans hxb);clear hxb hf hi;go_wp2;go_ret;exact⟨by rw[HR.out];rfl,HB5.out⟩
  have HR:Hid (res=(X.getD i Q6).bin):=(by rw[hf] at hxb;exact HE.out.trans hxb);have hil:i<nx:=(by simp only[YQ,decide_eq_true_eq] at hf;have:=hf.1;rw[HNX.out] at this;exact this);obtain⟨q,hq,hql,_,_,y2⟩:=(HXW.out _ HB5.out).atK HNX.out hil;subst hq;have b1:(0:Int)<=(i:Int):=(by omega);have b2:(i:Int)<(nx:Int):=(by omega);clear hxb hf hi;generalize (X.getD i Q6).bin=xb at *;go_wp2;go_ret;exact⟨by rw[HR.out];rfl,HB5.out⟩
 have q1:IntKind.i64.wrap ((x:Int)-(off:Int))=(x:Int)-(off:Int):=ZB (by omega) (by omega);have q3:¬(0:Int)<=(x:Int)-(off:Int):=(by omega);have HE:Hid (res=xres):=(by have:=HLF.out;rw[if_neg (fun h=>hlo h.1)] at this;exact this);have HB4:Hid (Below w.heap.size w w3):=HB3.out;go_wp2_with fail
 refine(HFX.out _ HB4.out).mono ?_;rintro e w5 ⟨i,rfl,hi,hb5⟩;have HB5:Hid (Below w.heap.size w w5):=HB4.out.trans (hb5.mono HB4.out.size);have hxb:=HXB.out i hi;have d0y:=(HB5.out.cell (p:=⟨db,0,none⟩) hdl).trans d0;have d2y:=(HB5.out.cell (p:=⟨db,2,none⟩) hdl).trans d2;have e3:=(HB5.out.cell (p:=⟨qk,f*4+3,none⟩) hqkl).trans k3;clear hb5
 cases hf:YQ X row f i
 ·have HR:Hid (res=kd):=(by rw[hf] at hxb;exact HE.out.trans hxb);clear hxb hf hi;go_wp2;go_ret;exact⟨by rw[HR.out];rfl,HB5.out⟩
 have HR:Hid (res=(X.getD i Q6).bin):=(by rw[hf] at hxb;exact HE.out.trans hxb);have hil:i<nx:=(by simp only[YQ,decide_eq_true_eq] at hf;have:=hf.1;rw[HNX.out] at this;exact this);obtain⟨q,hq,hql,_,_,y2⟩:=(HXW.out _ HB5.out).atK HNX.out hil;subst hq;have b1:(0:Int)<=(i:Int):=(by omega);have b2:(i:Int)<(nx:Int):=(by omega);clear hxb hf hi;generalize (X.getD i Q6).bin=xb at *;go_wp2;go_ret;exact⟨by rw[HR.out];rfl,HB5.out⟩
theorem Znp:(Tryz.prog.info? 25).map (fun i=>(i.zero,i.size,i.bytes))=some (some (.slice none 0 0),1,24):=by kernel_rfl
theorem Zjs(n:Nat)(hn:n<=1000000)(W:World):(Instr.makeSlice 84 (.int .i64 (n:Int)) (.int .i64 (n:Int))).run Tryz.prog W=.ok (.slice (some ⟨W.heap.size,0,none⟩) n n) (W.alloc (.cells (madeCells #[.slice none 0 0] n) 25)):=by obtain⟨i0,hinf,hz0,hz1,hz2⟩:=info_parts Znp;have:=run_make (P:=Tryz.prog) W 84 25 i0 _ Tryz.underlying84 hinf hz0 .i64 .i64 (n:Int) (n:Int) (by omega) (by omega) (by rw[hz2];omega) (by omega);rw[hz1] at this;rw[this,Int.toNat_natCast,Nat.mul_one];rfl
structure Ya(w:World)(base q n i:Nat)(Ls:List (List Int)):Prop where
 cur:∃c:Array Value,w.heap[q]? =some (.cells c 25 (0,0))/\c.size=n/\∀j,j<i->∃v,c[j]? =some v/\Ze w base v (Ls.getD j [])
theorem Ya.below{w w':World}{base q n i:Nat}{Ls:List (List Int)}(h:Ya w base q n i Ls)(hb:Below w.heap.size w w'):Ya w' base q n i Ls:=by
 obtain⟨c,h1,h2,h3⟩:=h.cur
 exact⟨c,(hb.block q (Qb h1).1).trans h1,h2,fun j hj=>by
  obtain⟨v,hv,ho⟩:=h3 j hj
  exact⟨v,hv,ho.below hb⟩⟩
theorem Ya.put{w:World}{base q n i:Nat}{Ls:List (List Int)}{v:Value}(h:Ya w base q n i Ls)(hi:i<n)(hv:Ze w base v (Ls.getD i [])):Ya (w.setCell ⟨q,i,none⟩ v) base q n (i+1) Ls:=by
 obtain⟨c,h1,h2,h3⟩:=h.cur;refine⟨c.setIfInBounds i v,heap_setCell_same w q i c 25 v h1,by simp[h2],fun j hj=>?_⟩
 by_cases hji:j=i
 subst hji;exact⟨v,by simp[h2,hi],Zl hv h1 (by decide)⟩;obtain⟨u,hu,ho⟩:=h3 j (by omega);exact⟨u,by rw[Array.getElem?_setIfInBounds_ne (fun e=>hji e.symm)];exact hu,Zl ho h1 (by decide)⟩
theorem Ya.at{w:World}{base q n i:Nat}{Ls:List (List Int)}(h:Ya w base q n i Ls){j:Nat}(hj:j<i):∃a c,w.cell? ⟨q,j,none⟩=some (.slice a (Ls.getD j []).length c)/\q<w.heap.size/\Ze w base (.slice a (Ls.getD j []).length c) (Ls.getD j []):=by obtain⟨c,h1,h2,h3⟩:=h.cur;obtain⟨u,hu,ho⟩:=h3 j hj;obtain⟨a,cc,rfl⟩:=ho.shape;refine⟨a,cc,?_,(Qb h1).1,ho⟩;rw[cell_of_row w q j c 25 (0,0) h1];exact hu
def Zcl(D:QX):List (List Int):=D.bs.map (fun b=>ZK b.fs)
theorem Zmw{D:QX}{i:Nat}(h:i<D.bs.length):(Zcl D).getD i []=ZK (D.bs.getD i ZE).fs:=by unfold Zcl;rw[Qc,List.getElem?_map,Qd h];simp[Qc,Qd h]
def Zn1(w:World)(D:QX)(x:Ending)(w':World):Prop:=∃q,x=.returned (.slice (some ⟨q,0,none⟩) D.bs.length D.bs.length)/\w.heap.size<=q/\Ya w' w.heap.size q D.bs.length D.bs.length (Zcl D)/\Below w.heap.size w w'
theorem ZfS(db:Nat)(vK vB vX:Value)(kvs bvs:List (Value×Value))(X:List XS)(D:QX)(w:World)(h:Zas w db vK vB vX kvs bvs X D)(h0:0<D.bs.length)(hbl:D.bs.length<=1000)(hfs:∀i,i<D.bs.length->0<(D.bs.getD i ZE).fs.length/\(D.bs.getD i ZE).fs.length<=1000):Calls Tryz.prog 94 #[.pointer (some ⟨db,0,none⟩)] w fun e w'=>Zn1 w D e w':=by
 have HM:Hid (Zas w db vK vB vX kvs bvs X D):=h;have HF:Hid (∀i,i<D.bs.length->0<(D.bs.getD i ZE).fs.length/\(D.bs.getD i ZE).fs.length<=1000):=hfs;obtain⟨qb,cB,hvB,hqbl,_,_⟩:=h.ds.bn.at (i:=0) h0;subst hvB;have d1:w.cell? ⟨db,1,none⟩=some (.slice (some ⟨qb,0,none⟩) D.bs.length cB):=cell_of_row _ _ 1 _ 168 (0,0) h.ds.blk;have hdl:db<w.heap.size:=(Qb h.ds.blk).1;have hmk:∀W:World,(Instr.makeSlice 84 (.int .i64 (D.bs.length:Int)) (.int .i64 (D.bs.length:Int))).run Tryz.prog W=.ok (.slice (some ⟨W.heap.size,0,none⟩) D.bs.length D.bs.length) (W.alloc (.cells (madeCells #[.slice none 0 0] D.bs.length) 25)):=Zjs _ (by omega);clear h hfs;generalize hnb:D.bs.length=nb at *;have HN:Hid (D.bs.length=nb):=hnb;clear hnb;go_enter Tryz.func94,Tryz.ntmps94;go_upto_region 2 with fail
 generalize hW1:w.alloc (.cells (madeCells #[.slice none 0 0] nb) 25)=w1;have hB1:Below w.heap.size w w1:=by rw[<- hW1];exact(Below.refl _ _).alloc (Qa _) _
 have HL1:Hid (Ya w1 w.heap.size w.heap.size nb 0 (Zcl D)/\Below w.heap.size w w1):=(by refine⟨⟨_,by rw[<- hW1];exact heap_alloc_new _ _,by simp[madeCells],fun j hj=>by omega⟩,hB1⟩);have d1':=(hB1.cell (p:=⟨db,1,none⟩) hdl).trans d1;clear hW1 hB1 hmk d1;go_wp2_with fail
 go_loopw [17] (fun ti wr=>∃(i:Nat),ti=.int .i64 i/\i<=nb/\Hid (Ya wr w.heap.size w.heap.size nb i (Zcl D)/\Below w.heap.size w wr)) (fun ti _=>nb-(intOf ti).toNat)
 case atStart=>exact⟨0,rfl,Qg _,HL1.out⟩
 case round=>
  obtain⟨i,rfl,hib,HR⟩:=hrel
  by_cases hin:i<nb
  ·have hiL:i<D.bs.length:=(by rw[HN.out];exact hin);obtain⟨q',c',hv',hql,k0,k1⟩:=HM.out.ds.bn.at hiL;have hqq:q'=qb:=(by injection hv' with h1;injection h1 with h1;injection h1 with h1 _;exact h1.symm);subst hqq;obtain⟨hI,hcol⟩:=HM.out.ds.bn.each i hiL;obtain⟨fa,fcc,hvf⟩:=hI.shape;obtain⟨ct,cp,hvc⟩:=hcol.iface;rw[ZG] at hvf;rw[hvf] at k0 hI;rw[hvc] at k1;obtain⟨hf1,hf2⟩:=HF.out i hin;have e0:=(HR.out.2.cell (p:=⟨q',i*2,none⟩) hql).trans k0;have e1:=(HR.out.2.cell (p:=⟨q',i*2+1,none⟩) hql).trans k1;have HLI:Hid ((Zcl D).getD i []=ZK (D.bs.getD i ZE).fs):=Zmw hiL;have HI:Hid (Ze w 0 (.slice fa (D.bs.getD i ZE).fs.length fcc) (ZK (D.bs.getD i ZE).fs)):=hI
   have hq:∃qf,fa=some ⟨qf,0,none⟩:=by
    rcases hI.2 with⟨e,h1⟩|⟨g,cap,cur,e,_⟩
    rw[ZG] at h1;omega;injection e with e1;exact⟨g,e1⟩
   obtain⟨qf,rfl⟩:=hq;have bi1:(0:Int)<=(i:Int):=(by omega);have bi2:(i:Int)<(nb:Int):=(by omega);clear hvf hvc hI hcol k0 k1 hv';generalize hnf:(D.bs.getD i ZE).fs.length=nf at *;have HNF:Hid ((ZK (D.bs.getD i ZE).fs).length=nf):=(by show _=_;rw[ZG];exact hnf);clear hnf;go_upto_region 5 with fail;generalize hW2:wr.alloc (.cells #[.slice (some ⟨qf,0,none⟩) nf fcc,.iface ct (.pointer (some ⟨cp,0,none⟩))] 163)=w2;have hB2:Below wr.heap.size wr w2:=(by rw[<- hW2];exact(Below.refl _ _).alloc (Qa _) _);have hX2:w2.heap[wr.heap.size]? =some (.cells #[.slice (some ⟨qf,0,none⟩) nf fcc,.iface ct (.pointer (some ⟨cp,0,none⟩))] 163 (0,0)):=(by rw[<- hW2];exact heap_alloc_new _ _);have x0:w2.cell? ⟨wr.heap.size,0,none⟩=some (.slice (some ⟨qf,0,none⟩) nf fcc):=cell_of_row _ _ 0 _ 163 (0,0) hX2
   have HR2:Hid (Ya w2 w.heap.size w.heap.size nb i (Zcl D)/\Below w.heap.size w w2):=⟨HR.out.1.below hB2,HR.out.2.trans (hB2.mono HR.out.2.size)⟩;clear hW2 hX2 e0 e1 hB2 HR;have hIw:Ze w2 0 (.slice (some ⟨qf,0,none⟩) nf fcc) (ZK (D.bs.getD i ZE).fs):=HI.out.below HR2.out.2
   have HC:=Tryz.slices_Clone_int qf 0 nf fcc (ZK (D.bs.getD i ZE).fs) w2 (by rw[HNF.out];exact Qa _) (by omega) (fun j hj=>by
    obtain⟨q3,hq3,_,_,y0,_⟩:=hIw.atK HNF.out (k:=j) (by rw[<- HNF.out];exact hj);injection hq3 with hq3;injection hq3 with hq3 _;subst hq3;rw[Nat.zero_add]
    exact y0)
   clear hIw;go_wp2_with fail
   refine HC.mono ?_;clear HC;rintro e w3 ⟨v3,rfl,hr3,_,hb3⟩;have hL3:Ya w3 w.heap.size w.heap.size nb i (Zcl D):=HR2.out.1.below hb3;have hsz2:w.heap.size<=w2.heap.size:=HR2.out.2.size;have hb3':Below w.heap.size w w3:=HR2.out.2.trans (hb3.mono hsz2);have hO3:Ze w3 w.heap.size v3 ((Zcl D).getD i []):=(by rw[HLI.out];rw[<- HNF.out,List.take_length] at hr3;exact Ze.mono (b':=w2.heap.size) hr3 hsz2);obtain⟨cu,hc1,hc2,_⟩:=hL3.cur;have y0:w3.cell? ⟨w.heap.size,i,none⟩=some (cu[i]'(by rw[hc2];exact hin)):=by rw[cell_of_row _ _ i _ 25 (0,0) hc1];exact Array.getElem?_eq_getElem _
   have f0:w3.frozen? ⟨w.heap.size,i,none⟩=false:=frozen_of_row _ _ i _ 25 hc1;generalize (cu[i]'(by rw[hc2];exact hin))=u0 at y0;have HP:Hid (Ya (w3.setCell ⟨w.heap.size,i,none⟩ v3) w.heap.size w.heap.size nb (i+1) (Zcl D)/\Below w.heap.size w (w3.setCell ⟨w.heap.size,i,none⟩ v3)):=⟨hL3.put hin hO3,hb3'.setCell (Qa w.heap.size) _⟩
   obtain⟨a3,n3,c3,rfl⟩:∃a n c,v3=.slice a n c:=by
    rcases hr3.2 with⟨rfl,_⟩|⟨g,cap,cur,rfl,_⟩
    exact⟨_,_,_,rfl⟩;exact⟨_,_,_,rfl⟩
   clear hL3 hb3' hO3 hc1 hc2 hb3 hr3;go_wp2;go_roundw;case rel=>exact⟨i+1,by go_num,by omega,HP⟩
   case measure=>simp[intOf];omega
  have hni:¬(i:Int)<(nb:Int):=(by omega);have hie:i=nb:=(by omega);subst hie;go_wp2;go_ret;refine⟨w.heap.size,by rw[HN.out];rfl,Qa _,?_,HR.out.2⟩;rw[HN.out];exact HR.out.1
theorem Zg2(gb db:Nat)(D:QX)(w:World)(h:YU w gb db D)(h0:0<D.bs.length)(hbl:D.bs.length<=1000)(hfs:∀i,i<D.bs.length->0<(D.bs.getD i ZE).fs.length/\(D.bs.getD i ZE).fs.length<=1000):Calls Tryz.prog 55 #[.pointer (some ⟨gb,0,none⟩)] w fun e w'=>Zn1 w D e w':=by
 have g0:w.cell? ⟨gb,0,none⟩=some (.pointer (some ⟨db,0,none⟩)):=cell_of_row _ _ 0 _ 110 (0,0) h.gp;obtain⟨vK,vB,vX,kvs,bvs,X,hX⟩:=h.md;have HB:=ZfS db vK vB vX kvs bvs X D w hX h0 hbl hfs;clear h hX hfs h0 hbl;go_enter Tryz.func55,Tryz.ntmps55;go_wp2_with fail
 refine HB.mono ?_;rintro e w4 ⟨q,rfl,h4⟩;have H4:Hid (w.heap.size<=q/\Ya w4 w.heap.size q D.bs.length D.bs.length (Zcl D)/\Below w.heap.size w w4):=h4;clear h4;generalize hnb:D.bs.length=nb at *;go_wp2;go_ret;exact⟨q,by rw[hnb];rfl,by rw[hnb];exact H4.out⟩
theorem Zeo.start{w:World}{base ib tb fb rb cb n:Nat}{wd:Nat->Bool}{sc ct:Nat->Int}{bins size budget:Int}(h:Zeo w base ib tb fb rb cb n wd sc ct bins size budget):∃K M,InX w K M ib tb rb fb cb n wd sc ct bins size budget RS.start 0/\(∀k,M k->base<=k)/\base<=ib/\base<=tb:=by
 have hrb:=h.tx.rd;unfold RB at hrb;refine⟨fun k=>base<=k/\∃cur ty,w.heap[k]? =some (.cells cur ty (0,0))/\(ty=3∨ty=261∨ty=263),fun k=>k=rb∨k=cb,⟨h.ik,h.tx.tx,⟨.slice none 0 0,.slice none 0 0,.slice none 0 0,fun _=>.slice none 0 0,?_⟩,?_,?_⟩,?_,h.lo,h.tx.lo.1⟩
 ·refine⟨h.tx.rd,World.ownsRow_nil _ _ _ _,World.ownsRow_nil _ _ _ _,World.ownsRow_nil _ _ _ _,⟨_,h.tx.cl,?_,fun i hi=>?_⟩,fun _ _=>World.ownsRow_nil _ _ _ _,ZcC.of_made _ h.tx.fs ⟨h.tx.lo.2.1,?_⟩ (fun k cur ty hk hc ht=>⟨hk,cur,ty,hc,by rcases ht with e|e;exact .inl e;exact .inr (.inl e)⟩),fun _ _ _ _ _=>.inl rfl,fun _ _=>.inl rfl,.inl rfl,.inr rfl,?_,?_,?_,?_,?_,?_⟩;simp[madeCells];rw[<- Array.getElem?_toList,ZbU];exact List.getElem?_replicate_of_lt hi;obtain⟨cur,h1,_⟩:=h.tx.fs;exact⟨cur,263,h1,.inr (.inr rfl)⟩;intro k hk;simp[Value.ownBlock] at hk;intro k hk;simp[Value.ownBlock] at hk;intro k hk;simp[Value.ownBlock] at hk;intro i k _ hk;simp[Value.ownBlock] at hk
  ·rintro k ⟨_,cur,ty,hc,ht⟩;refine⟨(Qb hc).1,?_⟩;rintro(e|e)
   ·rw[e,hrb] at hc;rcases ht with e2|e2|e2<;>(subst e2;simp at hc)
   rw[e,h.tx.cl] at hc;rcases ht with e2|e2|e2<;>(subst e2;simp at hc)
  rintro k (e|e);rw[e];exact(Qb hrb).1;rw[e];exact(Qb h.tx.cl).1
 ·refine⟨?_,?_⟩
  ·rintro⟨_,cur,ty,hc,ht⟩
   rw[h.ik] at hc;rcases ht with e2|e2|e2<;>(subst e2;simp at hc)
  rintro(e|e);have:=h.ik;rw[e,hrb] at this;simp at this;have:=h.ik;rw[e,h.tx.cl] at this;simp at this
 ·refine⟨?_,?_⟩
  ·rintro⟨_,cur,ty,hc,ht⟩
   rw[h.tx.tx] at hc;rcases ht with e2|e2|e2<;>(subst e2;simp at hc)
  rintro(e|e);have:=h.tx.tx;rw[e,hrb] at this;simp at this;have:=h.tx.tx;rw[e,h.tx.cl] at this;simp at this
 rintro k (e|e);rw[e];exact h.tx.lo.2.2.1;rw[e];exact h.tx.lo.2.2.2
theorem Zbs{n:Nat}{wd:Nat->Bool}{sc:Nat->Int}:∀(l:List Int) (s:RS) (k:Nat) {z:Int} {p:Nat},Zf n wd sc s l k=.error (z,p)->z=2∨z=3
 |[],s,k,z,p,h=>by cases h
 | c::r,s,k,z,p,h=>by
  unfold Zf at h
  cases ht:Yp n wd sc s c with
  |error y=>rw[ht] at h;injection h with h;injection h with h1 h2;rw[<- h1];exact ZgC ht
  |ok s1=>rw[ht] at h;exact Zbs r s1 (k+1) h
theorem Yi(b:ByteArray):(Zb b).length=b.size:=by unfold Zb;rw[List.length_map];rfl
theorem Z0(b:ByteArray)(i j:Nat):Zb (b.extract i j)=((Zb b).take j).drop i:=by unfold Zb;rw[ByteArray.data_extract,Array.toList_extract,<- List.map_take,<- List.map_drop];congr 1;rw[List.extract_eq_take_drop,List.drop_take]
structure ZaM(lw:List VS->List Int->Int->Int->ES)(m:Nat)(wd:Nat->Bool)(ct:Nat->Int)(bins:Int)(size:Nat)(s:RS):Prop where
 wok:(∃i,i<m+1/\wd i=true)->ZlY lw
 ok:∀i,i<m+1->Zco (ZV lw (wd i) (ct i) bins size (s.cols i) s.ws)/\(ZV lw (wd i) (ct i) bins size (s.cols i) s.ws).wd=wd i/\(ZV lw (wd i) (ct i) bins size (s.cols i) s.ws).cnt<=16
 num:∀i,i<m+1->∀v∈s.cols i,(-1000000000<=v.num/\v.num<=1000000000)/\v.word.size<=8
 ws:∀z∈s.ws,0<=z/\z<=99
def Zn2(lw:List VS->List Int->Int->Int->ES)(m:Nat)(wd:Nat->Bool)(ct:Nat->Int)(bins:Int)(size budget len:Nat)(o:Except (Int×Nat) RS)(e:Ending)(w':World):Prop:=
 match o with
 |.error (z,p)=>e=.returned (.tuple #[.pointer none,.int .i64 z,.int .i64 (p:Nat)])
 |.ok s=>(s.wt≠0/\e=.returned (.tuple #[.pointer none,.int .i64 2,.int .i64 (len:Nat)]))∨
   (s.wt=0/\∃gb db,e=.returned (.tuple #[.pointer (some ⟨gb,0,none⟩),.int .i64 0,.int .i64 0])/\YU w' gb db (ZJ m s.ws.length budget ((List.range (m+1)).map (fun i=>ZV lw (wd i) (ct i) bins size (s.cols i) s.ws)) ((List.range (m+1)).map (fun i=>(s.cols i).map (Yu (ZV lw (wd i) (ct i) bins size (s.cols i) s.ws))))))
def ZgJ(base:Nat)(K:Nat->Prop)(ib tb rb fb cb n:Nat)(wd:Nat->Bool)(sc ct:Nat->Int)(bins size budget:Int)(len:Nat)(o:Except (Int×Nat) RS)(w:World):Prop:=
 match o with
 |.error (z,p)=>Zhv w ib false z (p:Nat)/\(z=2∨z=3)
 |.ok s=>∃M,InX w K M ib tb rb fb cb n wd sc ct bins size budget s len/\∀q,M q->base<=q
def ZoG:Value->Nat
 |.string b=>b.size
 |_=>0
section
variable {w wr:World} {K:Nat->Prop} {ib tb rb fb cb m:Nat} {wd:Nat->Bool} {sc ct:Nat->Int} {bins:Int} {size budget:Nat}
theorem Zgh(b r:ByteArray)(k n base:Nat)(hr:Zb r=(Zb b).drop k)(hrs:r.size=b.size-k)(hk:k<=b.size)(hn:n<=r.size)(hb:b.size<=200000000000000)(hm:m+1<=4)(hsc:∀i,i<m+1->wd i=false->0<=sc i/\sc i<=3)(hbs:base<=wr.heap.size)(hib:base<=ib/\base<=tb)(hF:ZgJ base K ib tb rb fb cb (m+1) wd sc ct bins size budget k (Zf (m+1) wd sc RS.start ((Zb b).take k) 0) wr):Calls Tryz.prog 32 #[.pointer (some ⟨ib,0,none⟩),.string (r.extract 0 n)] wr fun e w'=>e=.returned (.tuple #[.int .i64 (Z6 (Zf (m+1) wd sc RS.start ((Zb b).take (k+n)) 0)).1,.int .i64 (Z6 (Zf (m+1) wd sc RS.start ((Zb b).take (k+n)) 0)).2])/\ZgJ base K ib tb rb fb cb (m+1) wd sc ct bins size budget (k+n) (Zf (m+1) wd sc RS.start ((Zb b).take (k+n)) 0) w'/\Below base wr w':=by
 have hp:Zb (r.extract 0 n)=((Zb b).drop k).take n:=(by rw[Z0,List.drop_zero,hr]);have ht:(Zb b).take (k+n)=(Zb b).take k++Zb (r.extract 0 n):=(by rw[hp,List.take_add]);have hl:((Zb b).take k).length=k:=(by rw[List.length_take,Yi];omega);have hes:(r.extract 0 n).size=n:=(by rw[<- Yi,hp,List.length_take,List.length_drop,Yi];omega);have ha:=ZZ (m+1) wd sc ((Zb b).take k) (Zb (r.extract 0 n)) RS.start 0;rw[<- ht,hl] at ha
 cases ho:Zf (m+1) wd sc RS.start ((Zb b).take k) 0 with
 | error q=>
  obtain⟨z,p⟩:=q;rw[ho] at ha hF;rw[ha];refine(Zjc (r.extract 0 n) ib z p wr hF.1 hF.2).mono ?_;rintro e w' ⟨rfl,x,rfl⟩;exact⟨rfl,⟨hF.1,hF.2⟩,below_drewN (Below.refl _ _) _⟩
 | ok s=>
  rw[ho] at ha hF;simp only at ha;obtain⟨M,hX,hM⟩:=hF;rw[ha,Nat.zero_add];refine(Zmj (r.extract 0 n) hX (Qw.takes (by omega) hsc _ (Qw.start (by omega)) ho) (by omega) hm hsc (by rw[hes];omega)).mono ?_;rintro e w' ⟨rfl,h1,h2⟩;refine⟨rfl,?_,h2.to_below hbs (fun q hq=>?_)⟩
  ·cases hq:Zf (m+1) wd sc s (Zb (r.extract 0 n)) k with
   | error q=>
    obtain⟨z,p⟩:=q;rw[hq] at h1;exact⟨h1,Zbs _ _ _ hq⟩
   | ok s'=>
    rw[hq,hes] at h1;obtain⟨M',hX',hM'⟩:=h1;exact⟨M',hX',fun q hq=>by rcases hM' q hq with h|h;exact hM q h;omega⟩
  rcases hq with h|h|h
  exact hM q h;rw[h];exact hib.1;rw[h];exact hib.2
theorem ZkU(lw:List VS->List Int->Int->Int->ES)(b:ByteArray)(base:Nat)(hm:m+1<=4)(hsc:∀i,i<m+1->wd i=false->0<=sc i/\sc i<=3)(hc:2<=bins/\bins<=16/\bins<=size/\size<=32/\budget<=20)(hbs:base<=wr.heap.size)(hib:base<=ib)(hcl:∀s,Zf (m+1) wd sc RS.start (Zb b) 0=.ok s->s.wt=0->ZaM lw m wd ct bins size s)(hF:ZgJ base K ib tb rb fb cb (m+1) wd sc ct bins size budget b.size (Zf (m+1) wd sc RS.start (Zb b) 0) wr):Calls Tryz.prog 50 #[.pointer (some ⟨ib,0,none⟩)] wr fun e w'=>∃(d:Option Addr) (z p:Int),e=.returned (.tuple #[.pointer d,.int .i64 z,.int .i64 p])/\Zn2 lw m wd ct bins size budget b.size (Zf (m+1) wd sc RS.start (Zb b) 0) e w'/\Below base wr w'/\((Z6 (Zf (m+1) wd sc RS.start (Zb b) 0)).1=0∨(Z6 (Zf (m+1) wd sc RS.start (Zb b) 0)).1≠0/\d=none/\z=(Z6 (Zf (m+1) wd sc RS.start (Zb b) 0)).1/\p=(Z6 (Zf (m+1) wd sc RS.start (Zb b) 0)).2):=by
 cases ho:Zf (m+1) wd sc RS.start (Zb b) 0 with
 | error q=>
  obtain⟨z,p⟩:=q;rw[ho] at hF;refine(ZhM ib z p wr hF.1 hF.2).mono ?_;rintro e w' ⟨rfl,x,rfl⟩;exact⟨none,z,p,rfl,rfl,below_drewN (Below.refl _ _) _,.inr ⟨by show z≠0;rcases hF.2 with e|e<;>omega,rfl,rfl,rfl⟩⟩
 | ok s=>
  rw[ho] at hF;obtain⟨M,hX,hM⟩:=hF;have hI:Qw (m+1) s:=Qw.takes (by omega) hsc _ (Qw.start (by omega)) ho
  by_cases hwt:s.wt=0
  have hK:=hcl s ho hwt;refine(ZhN lw (fun i=>ZV lw (wd i) (ct i) bins size (s.cols i) s.ws) hX hwt hI hm hc.2.2.2.2 hK.wok (fun _=>rfl) hK.ok hK.num hK.ws (by omega) hc.2.2.2.1 hc.1 hc.2.1).mono ?_;rintro e w' ⟨gb,db,rfl,h1,h2,h3,h4⟩;exact⟨_,0,0,rfl,.inr ⟨hwt,gb,db,rfl,h3⟩,h4.2.to_below hbs (fun q hq=>by rw[hq];exact hib),.inl rfl⟩;refine(Zi6 hX hwt).mono ?_;rintro e w' ⟨rfl,h4⟩;exact⟨none,2,_,rfl,.inl ⟨hwt,rfl⟩,h4.2.to_below hbs (fun q hq=>by rw[hq];exact hib),.inl rfl⟩
end
theorem ZdX(lw:List VS->List Int->Int->Int->ES)(b:ByteArray)(fk off m fc cn cc:Nat)(ca:Option Addr)(cz:List Int)(bins:Int)(size budget:Nat)(wd:Nat->Bool)(sc ct:Nat->Int)(w:World)(hF:YW w fk off (m+1) wd sc ct)(hc:ZbM (m+1) bins size budget wd sc ct=true)(hcut:ZI w ca cn cz)(hcn:cn<=9223372036854775807)(hb:b.size<=200000000000000)(hcl:∀s,Zf (m+1) wd sc RS.start (Zb b) 0=.ok s->s.wt=0->ZaM lw m wd ct bins size s):Calls Tryz.prog 25 #[.agg #[.slice (some ⟨fk,off,none⟩) (m+1) fc,.int .i64 bins,.int .i64 (size:Nat),.int .i64 (budget:Nat)],.string b,.slice ca cn cc] w fun e w'=>Zn2 lw m wd ct bins size budget b.size (Zf (m+1) wd sc RS.start (Zb b) 0) e w'/\Below w.heap.size w w':=by
 obtain⟨h1,h4,c1,c2,c3,c4,c5,c6,hfe⟩:=Zbk hc
 have HSC:Hid (∀i,i<m+1->wd i=false->0<=sc i/\sc i<=3):=fun i hi hw=>by have:=hfe i hi;unfold Q0 at this;rw[hw] at this;simp at this;omega
 have hbl:=hF.lt (by omega);obtain⟨w0,hw0⟩:∃w0,w0=w.alloc (.cells #[.slice (some ⟨fk,off,none⟩) (m+1) fc,.int .i64 bins,.int .i64 (size:Nat),.int .i64 (budget:Nat)] 37):=⟨_,rfl⟩;have hb0:Below w.heap.size w w0:=(by rw[hw0];exact(Below.refl _ _).alloc (Qa _) _);have hrow:w0.heap[w.heap.size]? =some (.cells #[.slice (some ⟨fk,off,none⟩) (m+1) fc,.int .i64 bins,.int .i64 (size:Nat),.int .i64 (budget:Nat)] 37 (0,0)):=(by rw[hw0];exact heap_alloc_new w _);have k:∀o,w0.cell? ⟨fk,o,none⟩=w.cell? ⟨fk,o,none⟩:=fun o=>hb0.cell (p:=⟨fk,o,none⟩) hbl;have HR:=Zfp fk off (m+1) fc bins size budget wd sc ct w0 ⟨hF.le,fun _=>by have:=hb0.size;omega,fun i hi=>(k _).trans (hF.c0 i hi),fun i hi=>(k _).trans (hF.c1 i hi),fun i hi=>(k _).trans (hF.c2 i hi)⟩ hc;have d0:=cell_of_row _ _ 0 _ 37 (0,0) hrow
 have d1:=cell_of_row _ _ 1 _ 37 (0,0) hrow;have d2:=cell_of_row _ _ 2 _ 37 (0,0) hrow;have d3:=cell_of_row _ _ 3 _ 37 (0,0) hrow;have HB0:Hid (Below w.heap.size w w0):=hb0;have HCUT:Hid (ZI w ca cn cz):=hcut;have HCL:Hid (∀s,Zf (m+1) wd sc RS.start (Zb b) 0=.ok s->s.wt=0->ZaM lw m wd ct bins size s):=hcl;clear hF hc hfe hb0 k hrow hcut hcl;have HN:Hid (m+1<=4/\2<=bins/\bins<=16/\bins<=size/\size<=32/\budget<=20):=⟨h4,c1,c2,c3,by omega,by omega⟩;clear h1 h4 c1 c2 c3 c4 c5 c6;go_enter Tryz.func25,Tryz.ntmps25;go_upto_region 1 with fail;rw[<- hw0];clear hw0;go_wp2_with fail
 refine HR.mono ?_;rintro e w1 ⟨ib,tb,fb,rb,cb,rfl,hI,hb1⟩;have hs0:=HB0.out.size;obtain⟨K,M0,hX0,hM0,hib,htb⟩:=hI.start;have HX0:Hid (InX w1 K M0 ib tb rb fb cb (m+1) wd sc ct bins size budget RS.start 0/\(∀q,M0 q->w.heap.size<=q)):=⟨hX0,fun q hq=>by have:=hM0 q hq;omega⟩;have HB1:Hid (Below w.heap.size w w1):=HB0.out.trans (hb1.mono hs0);have HIB:Hid (w.heap.size<=ib/\w.heap.size<=tb):=⟨by omega,by omega⟩;clear hI hb1 hX0 hM0 hib htb d0 d1 d2 d3 HR;go_wp2_with fail
 go_loopw [1,10,11,12] (fun ts te tp ti wr=>∃(k i:Nat) (r:ByteArray),ts=.string r/\te=.int .i64 (Z6 (Zf (m+1) wd sc RS.start ((Zb b).take k) 0)).1/\tp=.int .i64 (Z6 (Zf (m+1) wd sc RS.start ((Zb b).take k) 0)).2/\ti=.int .i64 i/\i<=k/\k<=b.size/\r.size=b.size-k/\Hid (Zb r=(Zb b).drop k)/\Hid (ZgJ w.heap.size K ib tb rb fb cb (m+1) wd sc ct bins size budget k (Zf (m+1) wd sc RS.start ((Zb b).take k) 0) wr)/\Hid (Below w.heap.size w wr)) (fun ts _ _ _ _=>ZoG ts)
 case atStart=>exact⟨0,0,b,rfl,rfl,rfl,rfl,Qa _,Qg _,by omega,rfl,⟨M0,HX0.out⟩,HB1.out⟩
 case round=>
  obtain⟨k,i,r,rfl,rfl,rfl,rfl,hik,hk,hrs,HR,HF,HB⟩:=hrel
  by_cases hr0:0<r.size
  ·have br:(0:Int)<(r.size:Int):=(by omega);obtain⟨n,hn⟩:∃n:Nat,n=1+Zq (Z7 cz i) r.size:=⟨_,rfl⟩;have hp:=Yf (Z7 cz i) hr0;have hn1:1<=n:=(by omega);have hn2:n<=r.size:=(by omega);have q1:IntKind.i64.wrap (1+((Zq (Z7 cz i) r.size:Nat):Int))=(n:Int):=(by rw[ZB (by omega) (by omega)];omega);have b1:(0:Int)<=(n:Int):=(by omega);have b2:(n:Int)<=(r.size:Int):=(by omega);have HFD:=Zgh (size:=size) (budget:=budget) (bins:=bins) (ct:=ct) (rb:=rb) (fb:=fb) (cb:=cb) (K:=K) b r k n w.heap.size HR.out hrs hk hn2 hb HN.out.1 HSC.out HB.out.size HIB.out HF.out;have HRW:=ZdY ca cn cc i cz wr (HCUT.out.below HB.out) (by omega) hcn
   have HRF:Hid ((Lit.int .i64 (Z7 cz i)).wf=true):=(by show _=_;unfold Z7;split;decide;rename_i h0;have hl:i%cz.length<cz.length:=Nat.mod_lt _ (by omega);rw[Qc,Qd hl];exact HCUT.out.2.1 _ (Qf _));clear hn hp
   have HA:Hid ((Z6 (Zf (m+1) wd sc RS.start ((Zb b).take k) 0)).1=0∨(Z6 (Zf (m+1) wd sc RS.start ((Zb b).take k) 0)).1≠0/\(Z6 (Zf (m+1) wd sc RS.start ((Zb b).take (k+n)) 0)).1=(Z6 (Zf (m+1) wd sc RS.start ((Zb b).take k) 0)).1/\(Z6 (Zf (m+1) wd sc RS.start ((Zb b).take (k+n)) 0)).2=(Z6 (Zf (m+1) wd sc RS.start ((Zb b).take k) 0)).2):=by
    cases ho:Zf (m+1) wd sc RS.start ((Zb b).take k) 0 with
    | error q=>
     have ha:=ZZ (m+1) wd sc ((Zb b).take k) (((Zb b).drop k).take n) RS.start 0;rw[<- List.take_add,ho] at ha;rw[ha];obtain⟨z,p⟩:=q;refine .inr ⟨?_,rfl,rfl⟩;show z≠0
     rcases Zbs _ _ _ ho with e|e<;>omega
    |ok s=>exact .inl rfl
   have HR2:Hid (Zb (r.extract n r.size)=(Zb b).drop (k+n)/\(r.extract n r.size).size=b.size-(k+n)):=by have e:Zb (r.extract n r.size)=(Zb b).drop (k+n):=(by rw[Z0,List.take_of_length_le (by rw[Yi];exact Qa _),HR.out,List.drop_drop]);refine⟨e,?_⟩;rw[<- Yi,e,List.length_drop,Yi]
   obtain⟨o2,ho2⟩:∃o2,o2=Zf (m+1) wd sc RS.start ((Zb b).take (k+n)) 0:=⟨_,rfl⟩;have HO2:Hid (o2=Zf (m+1) wd sc RS.start ((Zb b).take (k+n)) 0):=ho2;rw[<- ho2] at HFD HA;clear ho2;obtain⟨A1,hA1⟩:∃A1,A1=(Z6 (Zf (m+1) wd sc RS.start ((Zb b).take k) 0)).1:=⟨_,rfl⟩;obtain⟨A2,hA2⟩:∃A2,A2=(Z6 (Zf (m+1) wd sc RS.start ((Zb b).take k) 0)).2:=⟨_,rfl⟩;rw[<- hA1,<- hA2] at HA ⊢;clear hA1 hA2 HF;obtain⟨B1,hB1⟩:∃B1,B1=(Z6 o2).1:=⟨_,rfl⟩;obtain⟨B2,hB2⟩:∃B2,B2=(Z6 o2).2:=⟨_,rfl⟩;rw[<- hB1,<- hB2] at HFD HA;have HBB:Hid (B1=(Z6 o2).1/\B2=(Z6 o2).2):=⟨hB1,hB2⟩;clear hB1 hB2;generalize Z7 cz i=y at *;have HPK:=Yy y r.size wr HRF.out (by omega) (by omega);generalize Zq y r.size=px at *;have HRS:Hid (r.size=b.size-k):=hrs
   clear hrs;go_wp2_with fail
   refine HRW.mono ?_;rintro e w2 ⟨rfl,hw2⟩;obtain rfl:=hw2.symm;go_wp2_with fail
   refine HPK.mono ?_;rintro e w3 ⟨rfl,hw3⟩;obtain rfl:=hw3.symm;go_wp2_with fail
   refine HFD.mono ?_;rintro e w4 ⟨rfl,hF4,hb4⟩;have HF4:Hid (ZgJ w.heap.size K ib tb rb fb cb (m+1) wd sc ct bins size budget (k+n) o2 w4):=hF4;have HB4:Hid (Below w.heap.size w w4):=HB.out.trans hb4;clear hF4 hb4 HFD HRW HB;go_upto_region 11 with fail;go_cut [61] (fun v wx=>v=.bool false/\wx=w4)
   case first=>
    rcases HA.out with h0|⟨h0,h1,h2⟩
    ·subst h0;go_wp2;go_meet
     exact⟨rfl,rfl⟩
    subst h1 h2;have q2:(B1==0)=false:=(by rw[beq_eq_false_iff_ne];exact h0);go_wp2;go_meet
    exact⟨rfl,rfl⟩
   case rest=>
    obtain⟨rfl,hwx⟩:=hcut;obtain rfl:=hwx.symm;clear hwx;go_wp2;go_roundw;case rel=>exact⟨k+n,i+1,r.extract n r.size,rfl,by rw[<- HO2.out,<- HBB.out.1],by rw[<- HO2.out,<- HBB.out.2],by go_num,by omega,by have:=HRS.out;omega,HR2.out.2,HR2.out.1,by rw[<- HO2.out];exact HF4.out,HB4.out⟩
    case measure=>
     show(r.extract n r.size).size<r.size;have:=HRS.out;rw[HR2.out.2];omega
  have hk2:k=b.size:=(by omega);subst hk2;have et:(Zb b).take b.size=Zb b:=List.take_of_length_le (by rw[Yi];exact Qa _);have hF:=HF.out;rw[et] at hF ⊢;have HCE:=ZkU lw b w.heap.size HN.out.1 HSC.out HN.out.2 HB.out.size HIB.out.1 HCL.out hF;have r0:¬(0:Int)<(r.size:Int):=(by omega);obtain⟨o,ho⟩:∃o,o=Zf (m+1) wd sc RS.start (Zb b) 0:=⟨_,rfl⟩;rw[<- ho] at HCE ⊢;have HO:Hid (o=Zf (m+1) wd sc RS.start (Zb b) 0):=ho;clear ho hF et HF HCL hrs hr0;obtain⟨A1,hA1⟩:∃A1,A1=(Z6 o).1:=⟨_,rfl⟩;obtain⟨A2,hA2⟩:∃A2,A2=(Z6 o).2:=⟨_,rfl⟩;rw[<- hA1,<- hA2] at HCE ⊢;clear hA1 hA2;go_wp2_with fail
  refine HCE.mono ?_;rintro e w4 ⟨d,z,p,rfl,hR4,hb4,hz⟩;have HR4:Hid (Zn2 lw m wd ct bins size budget b.size o (.returned (.tuple #[.pointer d,.int .i64 z,.int .i64 p])) w4):=hR4;have HB4:Hid (Below w.heap.size w w4):=HB.out.trans hb4;have HZ:Hid (A1=0∨A1≠0/\d=none/\z=A1/\p=A2):=hz;clear hR4 hb4 hz HCE HB;go_upto_region 17 with fail;go_cut [88] (fun v wx=>v=.bool false/\wx=w4)
  case first=>
   rcases HZ.out with h0|⟨h0,h1,h2,h3⟩
   ·subst h0;go_wp2;go_meet
    exact⟨rfl,rfl⟩
   subst h1 h2 h3;have q2:(z==0)=false:=(by rw[beq_eq_false_iff_ne];exact h0);go_wp2;go_meet
   exact⟨rfl,rfl⟩
  case rest=>
   obtain⟨rfl,hwx⟩:=hcut;obtain rfl:=hwx.symm;clear hwx;go_wp2;refine bodyPost_ret (v:=.tuple #[.pointer d,.int .i64 z,.int .i64 p]) (by simp[results,Tryz.results25,go_sem]) rfl ?_;rw[<- HO.out];exact⟨HR4.out,HB4.out⟩
theorem ZbG(tot bins:Int):∀(M:List Zm) (share:Int),(YN tot bins share M).Sublist (M.map fun e=>e.v)
 |[],_=>by simp[YN]
 |e::r,share=>by unfold YN;split;exact List.Sublist.cons_cons _ (ZbG tot bins r _);exact(ZbG tot bins r _).cons _
theorem ZbF{tot bins B:Int}:∀(M:List Zm) (share:Int),(∀e∈M,QV bins tot e.hi<=B)->share<=B+1->((YN tot bins share M).length:Int)<=B+1-share
 |[],share,_,h=>by simp[YN];omega
 |e::r,share,hB,h=>by have h1:=hB e (by simp);have hr:=fun x hx=>hB x (List.mem_cons_of_mem e hx);unfold YN;split;have:=ZbF r (QV bins tot e.hi+1) hr (by omega);simp only[List.length_cons];omega;exact ZbF r share hr h
theorem ZdO(L:List Zm)(bins:Int):(ZY L bins).Sublist ((L.take (L.length-1)).map fun e=>e.v):=by unfold ZY;split;simp;split;exact List.Sublist.refl _;exact ZbG _ _ _ _
theorem ZgO{L:List Zm}(g:Zy L)(bins:Int):(ZY L bins).Pairwise (· < ·):=by refine List.Pairwise.sublist ((ZdO L bins).trans ((List.take_sublist _ _).map _)) ?_;rw[List.pairwise_map];exact g.step.imp fun h=>h.1
theorem ZhG{L:List Zm}(g:Zy L){bins:Int}(hb:2<=bins):((ZY L bins).length:Int)<bins:=by
 unfold ZY;split;simp;omega;rename_i h0;split;rename_i hle;simp;omega;have hl:=g.at (i:=L.length-1) (by omega);have htot:Zc L=(L.getD (L.length-1) e0).hi:=(by unfold Zc;rw[if_neg h0]);have:=ZbF (tot:=Zc L) (bins:=bins) (B:=bins-1) (L.take (L.length-1)) 1 (fun e he=>?_) (by omega);omega;obtain⟨k,hk,rfl⟩:=ZmB he;rw[List.length_take] at hk;have hk2:k<L.length-1:=(by omega);have ek:(L.take (L.length-1)).getD k e0=L.getD k e0:=(by simp[List.getD,hk2,show k<L.length by omega]);rw[ek];have hs:=(g.lt (i:=k) (j:=L.length-1) hk2 (by omega)).2.2;unfold QV;have h1:bins*(L.getD k e0).hi<bins*Zc L:=Int.mul_lt_mul_of_pos_left (by omega) (by omega);have h2:bins*(L.getD k e0).hi/Zc L<bins:=Int.ediv_lt_of_lt_mul (by omega) h1;omega
theorem Zgv(L:List VS)(ws:List Int){bins:Int}{size:Nat}(hL:L.length<=200)(hs:2<=size)(hs2:size<=32)(hb:2<=bins):(YJ L ws bins size).Pairwise (· < ·)/\((YJ L ws bins size).length:Int)<bins:=by have hl:((ZC L ws).map Prod.fst).length<=2097152:=(by have:=Zbg L ws;simp;omega);have g:=(ZdV hs hs2 ((ZC L ws).map Prod.fst) ((ZC L ws).map Prod.snd) hl).1;exact⟨ZgO g bins,ZhG g hb⟩
structure ZcQ(n:Nat)(s:RS):Prop where
 ws:∀z∈s.ws,0<=z/\z<=99
 row:∀v∈s.row,(-1000000000<=v.num/\v.num<=1000000000)/\v.word.size<=8
 col:∀i,i<n->∀v∈s.cols i,(-1000000000<=v.num/\v.num<=1000000000)/\v.word.size<=8
theorem ZcQ.start(n:Nat):ZcQ n RS.start:=⟨by simp[RS.start],by simp[RS.start],by simp[RS.start]⟩
theorem Y1.of{p:Zw}(h:Y1 p){bs:List Int}(hb:bs.length<=8):(-1000000000<=(Y0 p bs).num/\(Y0 p bs).num<=1000000000)/\(Y0 p bs).word.size<=8:=by have h1:=h.le;have h2:=h.n0;refine⟨?_,?_⟩;show -1000000000<=ZbV p/\ZbV p<=1000000000;unfold ZbV;split<;>omega;show(strOfNums bs).size<=8;have:(strOfNums bs).size=bs.length:=(by simp[strOfNums,ByteArray.size]);omega
theorem ZcQ.take{n:Nat}{wd:Nat->Bool}{sc:Nat->Int}{s s':RS}{c:Int}(h:ZcQ n s)(hI:Qw n s)(ht:Yp n wd sc s c=.ok s'):ZcQ n s':=by
 unfold Yp at ht;split at ht
 ·cases ht
 split at ht
 ·split at ht
  ·cases ht
  injection ht with ht;subst ht;exact⟨h.ws,h.row,h.col⟩;injection ht with ht;subst ht;exact⟨h.ws,h.row,h.col⟩
 split at ht;injection ht with ht;subst ht;exact⟨h.ws,h.row,h.col⟩;split at ht
 ·injection ht with ht;subst ht
  have hrow:∀v∈s.row++[Y0 s.p s.bs],(-1000000000<=v.num/\v.num<=1000000000)/\v.word.size<=8:=fun v hv=>by
   rcases List.mem_append.1 hv with e|e
   exact h.row v e;simp only[List.mem_singleton] at e;rw[e];exact hI.num.of hI.bs
  unfold Y6;split
  ·refine⟨fun z hz=>?_,by simp,fun i hi v hv=>?_⟩
   ·rcases List.mem_append.1 hz with e|e
    exact h.ws z e;simp only[List.mem_singleton] at e;rw[e];exact⟨hI.wt0,hI.wt1⟩
   simp only[hi,if_true] at hv
   rcases List.mem_append.1 hv with e|e
   exact h.col i hi v e;simp only[List.mem_singleton] at e;rw[e];rename_i hl;have hil:i<(s.row++[Y0 s.p s.bs]).length:=(by rw[hl];exact hi);rw[Qc,Qd hil];exact hrow _ (Qf _)
  exact⟨h.ws,hrow,h.col⟩
 cases ht
theorem ZcQ.takes{n:Nat}{wd:Nat->Bool}{sc:Nat->Int}(hn:1<=n)(hsc:∀i,i<n->wd i=false->0<=sc i/\sc i<=3):∀(l:List Int) {s s':RS} {k:Nat},ZcQ n s->Qw n s->Zf n wd sc s l k=.ok s'->ZcQ n s'
 |[],s,s',k,h,_,e=>by injection e with e;subst e;exact h
 | c::l,s,s',k,h,hI,e=>by
  simp only[Zf] at e
  cases ht:Yp n wd sc s c with
  |error z=>rw[ht] at e;cases e
  |ok s1=>rw[ht] at e;exact ZcQ.takes hn hsc l (h.take hI ht) (hI.take hn hsc ht) e
structure ZlX(lw:List VS->List Int->Int->Int->ES):Prop where
 ok:ZlY lw
 fine:∀(L:List VS) (ws:List Int) (ct bins:Int),L.length<=200->2<=bins->bins<=16->Zco (lw L ws ct bins)/\(lw L ws ct bins).wd=true/\(lw L ws ct bins).cnt<=16
theorem ZhL{lw:List VS->List Int->Int->Int->ES}{m:Nat}{wd:Nat->Bool}{sc ct:Nat->Int}{bins:Int}{size:Nat}{l:List Int}{s:RS}(hlw:(∃i,i<m+1/\wd i=true)->ZlX lw)(hsc:∀i,i<m+1->wd i=false->0<=sc i/\sc i<=3)(hb:2<=bins)(hb2:bins<=16)(hs:2<=size)(hs2:size<=32)(h:Zf (m+1) wd sc RS.start l 0=.ok s):ZaM lw m wd ct bins size s:=by
 have hI:=Qw.takes (by omega) hsc l (Qw.start (show 1<=m+1 by omega)) h;have hV:=ZcQ.takes (by omega) hsc l (ZcQ.start (m+1)) (Qw.start (show 1<=m+1 by omega)) h;refine⟨fun hw=>(hlw hw).ok,fun i hi=>?_,hV.col,hV.ws⟩;have hl:(s.cols i).length<=200:=by rw[hI.col i hi];exact hI.ws
 cases hw:wd i with
 | true=>
  have e:ZV lw true (ct i) bins size (s.cols i) s.ws=lw (s.cols i) s.ws (ct i) bins:=(by simp[ZV]);rw[e];exact(hlw ⟨i,hi,hw⟩).fine _ _ _ _ hl hb hb2
 | false=>
  have e:ZV lw false (ct i) bins size (s.cols i) s.ws=⟨false,YJ (s.cols i) s.ws bins size,[]⟩:=(by simp[ZV]);rw[e];obtain⟨h1,h2⟩:=Zgv (s.cols i) s.ws hl hs hs2 hb;refine⟨⟨h1.imp fun h=>by omega,?_,by simp⟩,rfl,?_⟩;show(YJ (s.cols i) s.ws bins size).length<=1000;omega;show ZaK false (YJ (s.cols i) s.ws bins size).length 0<=16;simp[ZaK];omega
def bH:ByteArray:=⟨#[49,44,49,10,49,44,50,10]⟩
def noW:Nat->Bool:=fun _=>false
def no0:Nat->Int:=fun _=>0
def lwH:List VS->List Int->Int->Int->ES:=fun _ _ _ _=>⟨false,[],[]⟩
def sH:RS:=match Zf 1 noW no0 RS.start (Zb bH) 0 with
 |.ok s=>s
 |.error _=>RS.start
def eH:ES:=⟨false,[1],[]⟩
def dH:QX:=⟨[⟨eH,0⟩],[⟨[0],[0,2],3⟩],[]⟩
def ZoC:List Int:=[71,82,2,1,110,0,1,1,0,0,0,1,1,0,100,8,0,0]
theorem ZnX:Zf 1 noW no0 RS.start (Zb bH) 0=.ok sH:=by kernel_rfl
theorem ZoE:sH.wt=0:=by kernel_rfl
theorem ZnY:sH.ws=[1,1]:=by kernel_rfl
theorem ZoD:(sH.cols 0).map (fun v=>v.word.size)=[0,0]:=by kernel_rfl
theorem Zol:(sH.cols 0).map VS.num=[1,2]:=by kernel_rfl
theorem Zjn:ZV lwH false 0 2 2 (sH.cols 0) sH.ws=eH:=by kernel_rfl
theorem ZoY:(sH.cols 0).map (Yu eH)=[0,1]:=by kernel_rfl
theorem ZoB:ZJ 0 2 0 [eH] [[0,1]]=dH:=by kernel_rfl
theorem ZnM:Q9 dH []=ZoC:=by kernel_rfl
theorem Zn6:QH dH []=ZoC++[119,135,217,86]:=by kernel_rfl
theorem Zo4:(strOfNums (QH dH [])).size=22/\(strOfNums (QH dH [])).extract 0 18=⟨#[71,82,2,1,110,0,1,1,0,0,0,1,1,0,100,8,0,0]⟩:=by rw[Zn6];exact⟨by kernel_rfl,by kernel_rfl⟩
theorem ZoK:ZP 0 (Zcy (Zj [5,3,5] [1,2,4]))=[⟨3,0,2,2⟩,⟨5,2,7,5⟩]:=by kernel_rfl
theorem ZoL:ZP 0 (Zcy (Zj [4] [1]))=[⟨4,0,1,1⟩]:=by kernel_rfl
theorem Zoz:Zv [⟨3,0,2,2⟩,⟨5,2,7,5⟩] [⟨4,0,1,1⟩]=[⟨3,0,2,2⟩,⟨4,2,3,1⟩,⟨5,3,8,5⟩]:=by kernel_rfl
theorem Zn9:ZaM lwH 0 noW no0 2 2 sH:=by refine⟨(fun ⟨i,_,h⟩=>absurd h (by simp[noW])),fun i hi=>?_,fun i hi v hv=>?_,fun z hz=>?_⟩;obtain rfl:i=0:=(by omega);rw[show ZV lwH (noW 0) (no0 0) 2 2 (sH.cols 0) sH.ws=eH from Zjn];exact⟨⟨by decide,by decide,by decide⟩,rfl,by decide⟩;obtain rfl:i=0:=(by omega);have hm:v.num∈(sH.cols 0).map VS.num:=List.mem_map.2 ⟨v,hv,rfl⟩;have hm2:v.word.size∈(sH.cols 0).map (fun v=>v.word.size):=List.mem_map.2 ⟨v,hv,rfl⟩;rw[Zol] at hm;rw[ZoD] at hm2;simp only[List.mem_cons,List.not_mem_nil,or_false,or_self] at hm hm2;omega;rw[ZnY] at hz;simp at hz;omega
theorem knH:∀K∈dH.ks,Zd6 K:=by intro K hK;simp[dH] at hK;subst hK;exact .inl ⟨rfl,rfl,by decide,by decide⟩
theorem ZoZ:∀b∈dH.bs,Zgd b:=by intro b hb;simp[dH] at hb;subst hb;refine⟨by decide,by decide,⟨by decide,by decide⟩,by decide,by decide⟩
theorem byH:∀b∈Q9 dH [],0<=b/\b<256:=by rw[ZnM];decide
theorem ZoF:ZbE dH 0 0 0:=by refine⟨by decide,by decide,by decide,fun i j hi hj h=>?_,fun i hi=>?_,fun i j hi hj=>?_,fun i hi=>?_⟩;omega;obtain rfl:i=0:=(by omega);decide;obtain rfl:i=0:=(by omega);obtain rfl:j=0:=(by have:(dH.bs.getD 0 ZE).fs.length=1:=rfl;omega);decide;obtain rfl:i=0:=(by have:dH.ks.length=1:=rfl;omega);decide
theorem Zo0(w:World)(fk fc:Nat)(hF:YW w fk 0 1 noW no0 no0):Calls Tryz.prog 25 #[.agg #[.slice (some ⟨fk,0,none⟩) 1 fc,.int .i64 2,.int .i64 2,.int .i64 0],.string bH,.slice none 0 0] w fun e w'=>∃gb db,e=.returned (.tuple #[.pointer (some ⟨gb,0,none⟩),.int .i64 0,.int .i64 0])/\YU w' gb db dH/\Below w.heap.size w w':=by
 refine(ZdX lwH bH fk 0 0 fc 0 0 none [] 2 2 0 noW no0 no0 w hF (by decide) ⟨rfl,by simp,.inl rfl⟩ (by omega) (by decide) (fun s hs _=>?_)).mono ?_;rw[ZnX] at hs;injection hs with hs;rw[<- hs];exact Zn9;rintro e w' ⟨hR,hb⟩;rw[ZnX] at hR
 rcases hR with⟨h,_⟩|⟨_,gb,db,rfl,hO⟩
 exact absurd ZoE h;refine⟨gb,db,rfl,?_,hb⟩;have e1:(List.range (0+1)).map (fun i=>ZV lwH (noW i) (no0 i) 2 2 (sH.cols i) sH.ws)=[eH]:=(by show[ZV lwH false 0 2 2 (sH.cols 0) sH.ws]=_;rw[Zjn]);have e2:(List.range (0+1)).map (fun i=>(sH.cols i).map (Yu (ZV lwH (noW i) (no0 i) 2 2 (sH.cols i) sH.ws)))=[[0,1]]:=(by show[(sH.cols 0).map (Yu (ZV lwH false 0 2 2 (sH.cols 0) sH.ws))]=_;rw[Zjn,ZoY]);have e3:sH.ws.length=2:=(by rw[ZnY];rfl);rw[e1,e2,e3,ZoB] at hO;exact hO
theorem Zn5(w:World)(gb db:Nat)(h:YU w gb db dH):Calls Tryz.prog 34 #[.pointer (some ⟨gb,0,none⟩)] w fun e w'=>e=.returned (.string (strOfNums (QH dH [])))/\Below w.heap.size w w':=by obtain⟨vK,vB,vX,kvs,bvs,X,hX⟩:=h.md;have hp:=hX.perm;have hX0:X=[]:=List.Perm.eq_nil (by exact hp);subst hX0;exact Ze2 gb db vK vB vX kvs bvs [] dH w h.gp hX (by decide) knH (by decide) ZoZ (by decide) (by decide) byH
theorem ZoA(w:World)(gb db:Nat)(h:YU w gb db dH):Calls Tryz.prog 44 #[.pointer (some ⟨gb,0,none⟩),.int .i64 1,.int .i64 0] w fun e w'=>e=.returned (.tuple #[.int .i64 1,.int .i64 0])/\Below w.heap.size w w':=by refine ZdT gb db 0 1 dH 1 w h (by decide) (by decide) (by decide) (by decide) (by decide) (fun W hW=>?_);obtain⟨vK,vB,vX,kvs,bvs,X,hX⟩:=hW.md;exact Zld db 0 0 0 1 vK vB vX kvs bvs X dH W hX ZoF (by decide) (by decide) (by decide) (by decide) (by decide) (by decide) (by decide) (by decide)
theorem ZfE(W:World)(b:Nat)(x y z:Int)(hx:(Lit.int .i64 x).wf=true/\(Lit.int .i64 y).wf=true/\(Lit.int .i64 z).wf=true)(h:W.heap[b]? =some (.cells #[.int .i64 x,.int .i64 y,.int .i64 z] 3 (0,0))):ZI W (some ⟨b,0,none⟩) 3 [x,y,z]:=by
 refine⟨rfl,fun q hq=>?_,.inr ⟨b,0,rfl,(Qb h).1,fun i hi=>?_⟩⟩
 ·simp at hq
  rcases hq with e|e|e
  rw[e];exact hx.1;rw[e];exact hx.2.1;rw[e];exact hx.2.2
 rw[Nat.zero_add,cell_of_row _ _ i _ 3 (0,0) h]
 match i,hi with
 |0,_=>rfl
 |1,_=>rfl
 |2,_=>rfl
theorem Zil(W:World)(b:Nat)(x:Int)(hx:(Lit.int .i64 x).wf=true)(h:W.heap[b]? =some (.cells #[.int .i64 x] 3 (0,0))):ZI W (some ⟨b,0,none⟩) 1 [x]:=by
 refine⟨rfl,fun q hq=>?_,.inr ⟨b,0,rfl,(Qb h).1,fun i hi=>?_⟩⟩;simp at hq;rw[hq];exact hx;rw[Nat.zero_add,cell_of_row _ _ i _ 3 (0,0) h]
 match i,hi with
 |0,_=>rfl
theorem ZoI(W:World)(b1 b2 c1 c2:Nat)(h1:W.heap[b1]? =some (.cells #[.int .i64 5,.int .i64 3,.int .i64 5] 3 (0,0)))(h2:W.heap[b2]? =some (.cells #[.int .i64 1,.int .i64 2,.int .i64 4] 3 (0,0))):Calls Tryz.prog 19 #[.slice (some ⟨b1,0,none⟩) 3 c1,.slice (some ⟨b2,0,none⟩) 3 c2] W fun e w'=>∃v,e=.returned v/\Zh w' W.heap.size v [⟨3,0,2,2⟩,⟨5,2,7,5⟩]/\Below W.heap.size W w':=by refine(Zd2 _ _ 3 c1 3 c2 [5,3,5] [1,2,4] W (ZfE W b1 5 3 5 (by decide) h1) (ZfE W b2 1 2 4 (by decide) h2) (by decide) (by decide)).mono ?_;rintro e w' ⟨v,M,rfl,hM,ho,hb⟩;refine⟨v,rfl,?_,hb⟩;rw[<- Zfv hM,ZoK] at ho;exact ho
theorem ZoJ(W:World)(b1 b2 c1 c2:Nat)(h1:W.heap[b1]? =some (.cells #[.int .i64 4] 3 (0,0)))(h2:W.heap[b2]? =some (.cells #[.int .i64 1] 3 (0,0))):Calls Tryz.prog 19 #[.slice (some ⟨b1,0,none⟩) 1 c1,.slice (some ⟨b2,0,none⟩) 1 c2] W fun e w'=>∃v,e=.returned v/\Zh w' W.heap.size v [⟨4,0,1,1⟩]/\Below W.heap.size W w':=by refine(Zd2 _ _ 1 c1 1 c2 [4] [1] W (Zil W b1 4 (by decide) h1) (Zil W b2 1 (by decide) h2) (by decide) (by decide)).mono ?_;rintro e w' ⟨v,M,rfl,hM,ho,hb⟩;refine⟨v,rfl,?_,hb⟩;rw[<- Zfv hM,ZoL] at ho;exact ho
theorem Zob:Zy [⟨3,0,2,2⟩,⟨5,2,7,5⟩]:=⟨by decide,by decide⟩
theorem Zoc:Zy [⟨4,0,1,1⟩]:=⟨by decide,by decide⟩
theorem Zmr:Zhy:=by
 intro w;obtain⟨w1,hw1⟩:∃w1,w1=(w.alloc (.cells #[.int .i64 5,.int .i64 3,.int .i64 5] 3)).alloc (.cells #[.int .i64 1,.int .i64 2,.int .i64 4] 3):=⟨_,rfl⟩;have hb1:Below w.heap.size w w1:=(by rw[hw1];exact((Below.refl _ _).alloc (Qa _) _).alloc (by simp) _);have h1a:w1.heap[w.heap.size]? =some (.cells #[.int .i64 5,.int .i64 3,.int .i64 5] 3 (0,0)):=by rw[hw1];exact(Below.heap_alloc _ _ _ (by simp)).trans (heap_alloc_new w _)
 have h1b:w1.heap[w.heap.size+1]? =some (.cells #[.int .i64 1,.int .i64 2,.int .i64 4] 3 (0,0)):=(by have:=heap_alloc_new (w.alloc (.cells #[.int .i64 5,.int .i64 3,.int .i64 5] 3)) (.cells #[.int .i64 1,.int .i64 2,.int .i64 4] 3);rw[show(w.alloc (.cells #[.int .i64 5,.int .i64 3,.int .i64 5] 3)).heap.size=w.heap.size+1 by simp] at this;rw[hw1];exact this);have HS1:=ZoI w1 _ _ 3 3 h1a h1b;have HB1:Hid (Below w.heap.size w w1):=hb1;clear hb1 h1a h1b;go_enter Tryz.func16,Tryz.ntmps16;go_wp2_with fail
 rw[<- hw1];clear hw1;refine HS1.mono ?_;rintro e w2 ⟨v1,rfl,ho1,hb2⟩;obtain⟨a1,c1,e1,hE1,_,_⟩:=ho1.seen (by decide);obtain rfl:v1=.slice a1 2 c1:=e1
 obtain⟨b1,o1,rfl,hA1⟩:∃b off,a1=some ⟨b,off,none⟩/\Qv w2 b off [⟨3,0,2,2⟩,⟨5,2,7,5⟩]:=by
  rcases hE1.2 with h0|h
  ·cases h0
  exact h
 have HB2:Hid (Below w.heap.size w w2):=HB1.out.trans (hb2.mono HB1.out.size);have HA1:Hid (Qv w2 b1 o1 [⟨3,0,2,2⟩,⟨5,2,7,5⟩]):=hA1;clear ho1 hb2 hE1 hA1 HS1 HB1;obtain⟨w3,hw3⟩:∃w3,w3=(w2.alloc (.cells #[.int .i64 4] 3)).alloc (.cells #[.int .i64 1] 3):=⟨_,rfl⟩;have hb3:Below w2.heap.size w2 w3:=(by rw[hw3];exact((Below.refl _ _).alloc (Qa _) _).alloc (by simp) _);have h3a:w3.heap[w2.heap.size]? =some (.cells #[.int .i64 4] 3 (0,0)):=by rw[hw3];exact(Below.heap_alloc _ _ _ (by simp)).trans (heap_alloc_new w2 _)
 have h3b:w3.heap[w2.heap.size+1]? =some (.cells #[.int .i64 1] 3 (0,0)):=(by have:=heap_alloc_new (w2.alloc (.cells #[.int .i64 4] 3)) (.cells #[.int .i64 1] 3);rw[show(w2.alloc (.cells #[.int .i64 4] 3)).heap.size=w2.heap.size+1 by simp] at this;rw[hw3];exact this);have HS2:=ZoJ w3 _ _ 1 1 h3a h3b;have HB3:Hid (Below w2.heap.size w2 w3):=hb3;clear hb3 h3a h3b;go_wp2_with fail
 rw[<- hw3];clear hw3;refine HS2.mono ?_;rintro e w4 ⟨v2,rfl,ho2,hb4⟩;obtain⟨a2,c2,e2,hE2,_,_⟩:=ho2.seen (by decide);obtain rfl:v2=.slice a2 1 c2:=e2;have HB4:Hid (Below w2.heap.size w2 w4):=HB3.out.trans (hb4.mono HB3.out.size);have HJ:=Zg3 (some ⟨b1,o1,none⟩) a2 [⟨3,0,2,2⟩,⟨5,2,7,5⟩] [⟨4,0,1,1⟩] c1 c2 w4 ⟨by decide,.inr ⟨b1,o1,rfl,HA1.out.below HB4.out⟩⟩ hE2 Zob Zoc;rw[Zoz] at HJ;clear ho2 hb4 hE2 HS2 HB3;go_wp2_with fail
 refine HJ.mono ?_;rintro e w5 ⟨v3,rfl,ho3,hb5⟩;obtain⟨a3,c3,e3,hE3,_,_⟩:=ho3.seen (by decide);obtain rfl:v3=.slice a3 3 c3:=e3
 obtain⟨b3,o3,rfl,hA3⟩:∃b off,a3=some ⟨b,off,none⟩/\Qv w5 b off [⟨3,0,2,2⟩,⟨4,2,3,1⟩,⟨5,3,8,5⟩]:=by
  rcases hE3.2 with h0|h
  ·cases h0
  exact h
 have HB5:Hid (Below w2.heap.size w2 w5):=HB4.out.trans (hb5.mono HB4.out.size);have hA1:=HA1.out.below HB5.out;have x0:w5.cell? ⟨b1,o1+4,none⟩=some (.int .i64 5):=hA1.v 1 (by decide);have x1:w5.cell? ⟨b1,o1+4+1,none⟩=some (.int .i64 2):=hA1.lo 1 (by decide);have x2:w5.cell? ⟨b1,o1+4+2,none⟩=some (.int .i64 7):=hA1.hi 1 (by decide);have x3:w5.cell? ⟨b1,o1+4+3,none⟩=some (.int .i64 5):=hA1.wt 1 (by decide);have y0:w5.cell? ⟨b3,o3+4,none⟩=some (.int .i64 4):=hA3.v 1 (by decide);have y1:w5.cell? ⟨b3,o3+4+1,none⟩=some (.int .i64 2):=hA3.lo 1 (by decide);have y2:w5.cell? ⟨b3,o3+4+2,none⟩=some (.int .i64 3):=hA3.hi 1 (by decide);have y3:w5.cell? ⟨b3,o3+4+3,none⟩=some (.int .i64 1):=hA3.wt 1 (by decide);have HB5w:Hid (Below w.heap.size w w5):=HB2.out.trans (HB5.out.mono HB2.out.size)
 clear ho3 hb5 hE3 HJ HB4 hA1 hA3 HA1 HB2 HB5;go_upto_region 5 with fail;clear x0 x1 x2 x3 y0 y1 y2 y3;obtain⟨w6,hw6⟩:∃w6,w6=w5.alloc (.cells #[.bool false,.int .i64 0,.int .i64 0] 51):=⟨_,rfl⟩;have hb6:Below w5.heap.size w5 w6:=(by rw[hw6];exact(Below.refl _ _).alloc (Qa _) _);have h6:w6.heap[w5.heap.size]? =some (.cells #[.bool false,.int .i64 0,.int .i64 0] 51 (0,0)):=by rw[hw6];exact heap_alloc_new w5 _
 have hft:YW w6 w5.heap.size 0 1 noW no0 no0:=(by refine⟨by decide,fun _=>(Qb h6).1,fun i hi=>?_,fun i hi=>?_,fun i hi=>?_⟩;obtain rfl:i=0:=(by omega);exact cell_of_row _ _ 0 _ 51 (0,0) h6;obtain rfl:i=0:=(by omega);exact cell_of_row _ _ 1 _ 51 (0,0) h6;obtain rfl:i=0:=(by omega);exact cell_of_row _ _ 2 _ 51 (0,0) h6);have HFD:=Zo0 w6 w5.heap.size 1 hft;unfold bH at HFD;have HB6:Hid (Below w.heap.size w w6):=HB5w.out.trans (hb6.mono HB5w.out.size);clear hft h6 hb6 HB5w;go_wp2_with fail
 rw[<- hw6];clear hw6;refine HFD.mono ?_;rintro e w7 ⟨gb,db,rfl,hO7,hb7⟩;have HO7:Hid (YU w7 gb db dH):=hO7;have HB7:Hid (Below w.heap.size w w7):=HB6.out.trans (hb7.mono HB6.out.size);clear hO7 hb7 HFD HB6;have HBY:=Zn5 w7 gb db HO7.out;obtain⟨hs1,hs2⟩:=Zo4;generalize strOfNums (QH dH [])=S at *;have HS2:Hid (S.extract 0 18=⟨#[71,82,2,1,110,0,1,1,0,0,0,1,1,0,100,8,0,0]⟩):=hs2;clear hs2;go_wp2_with fail
 refine HBY.mono ?_;rintro e w8 ⟨rfl,hb8⟩;have HLK:=ZoA w8 gb db (HO7.out.below hb8);have HB8:Hid (Below w.heap.size w w8):=HB7.out.trans (hb8.mono HB7.out.size);clear hb8 HBY HB7 HO7;go_wp2_with fail
 refine HLK.mono ?_;rintro e w9 ⟨rfl,hb9⟩;have HB9:Hid (Below w.heap.size w w9):=HB8.out.trans (hb9.mono HB8.out.size);clear hb9 HLK HB8;have hs2:=HS2.out;have l1:(S.size:Int)=22:=(by rw[hs1];rfl);have l2:(18:Int)<=(S.size:Int):=(by omega);clear hs1;go_wp2;go_ret;exact⟨rfl,HB9.out⟩
def cfB(cs:List Int):Nat:=2+Zq (Z7 cs 0) 15
def cfU(cs:List Int):Nat:=Zq (Z7 cs 2) 21
def cfS(cs:List Int):Nat:=cfB cs+Zq (Z7 cs 1) (33-cfB cs)
def Yr(cs:List Int):Nat:=Zq (Z7 cs 3) 4
def QK(cs:List Int)(i:Nat):Bool:=decide (Zq (Z7 cs (8+i)) 3=0)
def Q5(cs:List Int)(i:Nat):Int:=if QK cs i=true then 0 else(Zq (Z7 cs (4+i)) 4:Nat)
def cfT(cs:List Int)(i:Nat):Int:=if QK cs i=true then 1+(Zq (Z7 cs (4+i)) 9:Nat) else 0
theorem ZhK(cs:List Int):2<=cfB cs/\cfB cs<=16/\cfB cs<=cfS cs/\cfS cs<=32/\cfU cs<=20/\Yr cs<=3:=by have h0:=Yf (Z7 cs 0) (show 0<15 by omega);have h2:=Yf (Z7 cs 2) (show 0<21 by omega);have h3:=Yf (Z7 cs 3) (show 0<4 by omega);have e0:cfB cs=2+Zq (Z7 cs 0) 15:=rfl;have h1:=Yf (Z7 cs 1) (show 0<33-cfB cs by omega);have e1:cfS cs=cfB cs+Zq (Z7 cs 1) (33-cfB cs):=rfl;have e2:cfU cs=Zq (Z7 cs 2) 21:=rfl;have e3:Yr cs=Zq (Z7 cs 3) 4:=rfl;omega
theorem Zke(cs:List Int)(i:Nat):Q0 (QK cs i) (Q5 cs i) (cfT cs i)=true:=by
 have h0:=Yf (Z7 cs (4+i)) (show 0<4 by omega);have h1:=Yf (Z7 cs (4+i)) (show 0<9 by omega);unfold Q0 Q5 cfT
 cases QK cs i
 simp;omega;simp;omega
theorem Znd(cs:List Int):ZbM (Yr cs+1) (cfB cs:Nat) (cfS cs:Nat) (cfU cs:Nat) (QK cs) (Q5 cs) (cfT cs)=true:=by have h:=ZhK cs;unfold ZbM ZeF;rw[Bool.and_eq_true,decide_eq_true_eq,List.all_eq_true];exact⟨by omega,fun i _=>Zke cs i⟩
def Zi5(cs:List Int)(i:Nat):List Value:=[.bool (QK cs i),.int .i64 (Q5 cs i),.int .i64 (cfT cs i)]
def ZbO(cs:List Int):Nat->List Value
 |0=>[]
 |k+1=>ZbO cs k++Zi5 cs k
theorem Zb5(cs:List Int):∀k,(ZbO cs k).length=k*3
 |0=>rfl
 |k+1=>by rw[ZbO,Qe,Zb5 cs k];simp[Zi5];omega
theorem Zb4(cs:List Int):∀k i c,i<k->c<3->(ZbO cs k)[i*3+c]? =(Zi5 cs i)[c]?
 |0,i,c,h,_=>by omega
 | k+1,i,c,h,hc=>by
  rw[ZbO]
  by_cases hk:i<k
  rw[List.getElem?_append_left (by rw[Zb5];omega)];exact Zb4 cs k i c hk hc;have e:i=k:=(by omega);subst e;rw[List.getElem?_append_right (by rw[Zb5];omega),Zb5];congr 1;omega
def Zba(w:World)(base:Nat)(v:Value)(cs:List Int)(k:Nat):Prop:=w.ownsRow base 51 3 v k (ZbO cs k)
theorem Zba.feats{w:World}{base k:Nat}{v:Value}{cs:List Int}(h:Zba w base v cs k)(hk:0<k)(hk2:k<=1000):∃fk fc,v=.slice (some ⟨fk,0,none⟩) k fc/\base<=fk/\YW w fk 0 k (QK cs) (Q5 cs) (cfT cs):=by
 have h':=h
 rcases h.2 with⟨rfl,h0⟩|⟨g,cap,cur,rfl,hb,hh,_⟩
 omega;refine⟨g,cap,rfl,hb,⟨by unfold maxLen;omega,fun _=>(Qb hh).1,fun i hi=>?_,fun i hi=>?_,fun i hi=>?_⟩⟩;rw[Nat.zero_add,World.ownsRow.cellAt h' (i*3) (by omega)];exact Zb4 cs k i 0 hi (by omega);rw[Nat.zero_add,World.ownsRow.cellAt h' (i*3+1) (by omega)];exact Zb4 cs k i 1 hi (by omega);rw[Nat.zero_add,World.ownsRow.cellAt h' (i*3+2) (by omega)];exact Zb4 cs k i 2 hi (by omega)
theorem Zba.shape{w:World}{base k:Nat}{v:Value}{cs:List Int}(h:Zba w base v cs k):∃a c,v=.slice a k c:=by
 rcases h.2 with⟨rfl,h0⟩|⟨g,cap,cur,rfl,_⟩
 exact⟨none,0,by rw[h0]⟩;exact⟨_,cap,rfl⟩
theorem Zod:(Tryz.prog.info? 51).map (fun i=>(i.zero,i.size,i.bytes))=some (some (.agg #[.bool false,.int .i64 0,.int .i64 0]),3,24):=by kernel_rfl
theorem ZmM{w:World}{a:Option Addr}{n:Nat}{zs:List Int}(h:ZI w a n zs)(i:Nat):(Lit.int .i64 (Z7 zs i)).wf=true:=by unfold Z7;split;decide;rename_i h0;have hl:i%zs.length<zs.length:=Nat.mod_lt _ (by omega);rw[Qc,Qd hl];exact h.2.1 _ (Qf _)
theorem Ze6(ca:Option Addr)(cn cc:Nat)(cs:List Int)(w:World)(hc:ZI w ca cn cs)(hcn:cn<=9223372036854775807):Calls Tryz.prog 23 #[.slice ca cn cc] w fun e w'=>∃fk fc,e=.returned (.agg #[.slice (some ⟨fk,0,none⟩) (Yr cs+1) fc,.int .i64 (cfB cs:Nat),.int .i64 (cfS cs:Nat),.int .i64 (cfU cs:Nat)])/\w.heap.size<=fk/\YW w' fk 0 (Yr cs+1) (QK cs) (Q5 cs) (cfT cs)/\Below w.heap.size w w':=by
 have HR:Hid (∀(W:World) (i:Nat),i<=1000->Below w.heap.size w W->Calls Tryz.prog 18 #[.slice ca cn cc,.int .i64 (i:Nat)] W fun e w'=>e=.returned (.int .i64 (Z7 cs i))/\w'=W):=fun W i hi hW=>ZdY ca cn cc i cs W (hc.below hW) (by omega) hcn;have HP:Hid (∀(W:World) (i n:Nat),0<n->n<=1000->Calls Tryz.prog 17 #[.int .i64 (Z7 cs i),.int .i64 (n:Nat)] W fun e w'=>e=.returned (.int .i64 (Zq (Z7 cs i) n:Nat))/\w'=W):=fun W i n h0 h1=>Yy _ n W (ZmM hc i) h0 (by omega);have hcf:=ZhK cs;have HB:Hid (cfB cs=2+Zq (Z7 cs 0) 15):=rfl;have HU:Hid (cfU cs=Zq (Z7 cs 2) 21):=rfl;have HS:Hid (cfS cs=cfB cs+Zq (Z7 cs 1) (33-cfB cs)):=rfl;have hp0:=Yf (Z7 cs 0) (show 0<15 by omega)
 have q1:IntKind.i64.wrap (2+((Zq (Z7 cs 0) 15:Nat):Int))=((cfB cs:Nat):Int):=(by rw[ZB (by omega) (by omega)];have:=HB.out;omega);obtain⟨w0,hw0⟩:∃w0,w0=w.alloc (.cells #[.slice none 0 0,.int .i64 0,.int .i64 0,.int .i64 0] 37):=⟨_,rfl⟩;have hb0:Below w.heap.size w w0:=(by rw[hw0];exact(Below.refl _ _).alloc (Qa _) _);have HB0:Hid (Below w.heap.size w w0):=hb0;have HR0:Hid (w0.heap[w.heap.size]? =some (.cells #[.slice none 0 0,.int .i64 0,.int .i64 0,.int .i64 0] 37 (0,0))/\w0.heap.size=w.heap.size+1):=(by refine⟨?_,?_⟩;rw[hw0];exact heap_alloc_new w _;rw[hw0];simp);clear hb0 hc;go_enter Tryz.func23,Tryz.ntmps23;go_wp2_with fail
 rw[<- hw0];clear hw0;refine(HR.out w0 0 (by omega) HB0.out).mono ?_;rintro e w1 ⟨rfl,h1⟩;obtain rfl:=h1.symm;go_wp2_with fail
 refine(HP.out w0 0 15 (by omega) (by omega)).mono ?_;rintro e w1 ⟨rfl,h1⟩;obtain rfl:=h1.symm;go_wp2_with fail
 refine(HR.out w0 2 (by omega) HB0.out).mono ?_;rintro e w1 ⟨rfl,h1⟩;obtain rfl:=h1.symm;go_wp2_with fail
 refine(HP.out w0 2 21 (by omega) (by omega)).mono ?_;rintro e w1 ⟨rfl,h1⟩;obtain rfl:=h1.symm;rw[<- HU.out];have hp1:=Yf (Z7 cs 1) (show 0<33-cfB cs by omega);obtain⟨pn,hpn⟩:∃pn,pn=33-cfB cs:=⟨_,rfl⟩;have q2:IntKind.i64.wrap (33-((cfB cs:Nat):Int))=(pn:Int):=by rw[ZB (by omega) (by omega)];omega
 have q3:IntKind.i64.wrap (((cfB cs:Nat):Int)+((Zq (Z7 cs 1) pn:Nat):Int))=((cfS cs:Nat):Int):=by rw[hpn,ZB (by omega) (by omega)];have:=HS.out;omega
 have hpn0:0<pn/\pn<=1000:=(by omega);have HP1:Hid (∀W:World,Calls Tryz.prog 17 #[.int .i64 (Z7 cs 1),.int .i64 (pn:Nat)] W fun e w'=>e=.returned (.int .i64 (Zq (Z7 cs 1) pn:Nat))/\w'=W):=fun W=>HP.out W 1 pn hpn0.1 hpn0.2;clear hpn hp1 hp0 hpn0 q1;obtain⟨cb,hcb⟩:∃cb,cb=w0.heap.size:=⟨_,rfl⟩;obtain⟨w2,hw2⟩:∃w2,w2=w0.alloc (.cells #[.slice none 0 0,.int .i64 (cfB cs:Nat),.int .i64 0,.int .i64 (cfU cs:Nat)] 37):=⟨_,rfl⟩;have hrow2:w2.heap[cb]? =some (.cells #[.slice none 0 0,.int .i64 (cfB cs:Nat),.int .i64 0,.int .i64 (cfU cs:Nat)] 37 (0,0)):=(by rw[hw2,hcb];exact heap_alloc_new w0 _);have hb2:Below w.heap.size w w2:=by rw[hw2];exact HB0.out.alloc HB0.out.size _
 have HR2:Hid (w2.heap[w.heap.size]? =some (.cells #[.slice none 0 0,.int .i64 0,.int .i64 0,.int .i64 0] 37 (0,0))):=by show _=_;rw[hw2];exact(Below.heap_alloc _ _ _ (by have:=HR0.out.2;omega)).trans HR0.out.1
 have hcw:w.heap.size<cb:=(by have:=HR0.out.2;omega);have e1:w2.cell? ⟨cb,1,none⟩=some (.int .i64 (cfB cs:Nat)):=cell_of_row _ _ 1 _ 37 (0,0) hrow2;have e2:w2.cell? ⟨cb,2,none⟩=some (.int .i64 0):=cell_of_row _ _ 2 _ 37 (0,0) hrow2;have z2:w2.frozen? ⟨cb,2,none⟩=false:=frozen_of_row _ _ 2 _ 37 hrow2;have HB2:Hid (Below w.heap.size w w2):=hb2;have HW2:Hid (w2.heap[cb]? =some (.cells #[.slice none 0 0,.int .i64 (cfB cs:Nat),.int .i64 0,.int .i64 (cfU cs:Nat)] 37 (0,0))):=hrow2;go_upto_region 2 with fail;rw[<- hw2,<- hcb];clear hw2 hcb hb2 hrow2;have hrow3:(w2.setCell ⟨cb,2,none⟩ (.int .i64 (cfS cs:Nat))).heap[cb]? =some (.cells #[.slice none 0 0,.int .i64 (cfB cs:Nat),.int .i64 (cfS cs:Nat),.int .i64 (cfU cs:Nat)] 37 (0,0)):=heap_setCell_same _ cb 2 _ 37 _ HW2.out
 have e3:(w2.setCell ⟨cb,2,none⟩ (.int .i64 (cfS cs:Nat))).cell? ⟨cb,1,none⟩=some (.int .i64 (cfB cs:Nat)):=cell_of_row _ _ 1 _ 37 (0,0) hrow3;have HW3:Hid ((w2.setCell ⟨cb,2,none⟩ (.int .i64 (cfS cs:Nat))).heap[cb]? =some (.cells #[.slice none 0 0,.int .i64 (cfB cs:Nat),.int .i64 (cfS cs:Nat),.int .i64 (cfU cs:Nat)] 37 (0,0))):=hrow3;clear hrow3;go_region_held3 (fun w'=>w'.cell? ⟨cb,1,none⟩=some (.int .i64 (cfB cs:Nat))) (first|with_reducible exact e1|exact e3|exact e1) (first|(go_at_call 18;refine(HR.out _ 1 (by omega) HB2.out.drew).mono ?_;rintro e w' ⟨rfl,rfl⟩)|(go_at_call 17;refine(HP1.out _).mono ?_;rintro e w' ⟨rfl,rfl⟩))
 have HB3:Hid (Below w.heap.size w (w2.setCell ⟨cb,2,none⟩ (.int .i64 (cfS cs:Nat))).drew):=(HB2.out.setCell (show w.heap.size<=cb by omega) _).drew;have HR3:Hid ((w2.setCell ⟨cb,2,none⟩ (.int .i64 (cfS cs:Nat))).drew.heap[w.heap.size]? =some (.cells #[.slice none 0 0,.int .i64 0,.int .i64 0,.int .i64 0] 37 (0,0))):=by have t1:Za (fun q=>q=cb) w2 (w2.setCell ⟨cb,2,none⟩ (.int .i64 (cfS cs:Nat))):=(Za.refl (fun q=>q=cb) w2).setCell (p:=⟨cb,2,none⟩) (fun _=>rfl) _;exact t1.at_ HR2.out (by omega)
 have HW3':Hid ((w2.setCell ⟨cb,2,none⟩ (.int .i64 (cfS cs:Nat))).drew.heap[cb]? =some (.cells #[.slice none 0 0,.int .i64 (cfB cs:Nat),.int .i64 (cfS cs:Nat),.int .i64 (cfU cs:Nat)] 37 (0,0))):=HW3.out;generalize (w2.setCell ⟨cb,2,none⟩ (.int .i64 (cfS cs:Nat))).drew=w3 at *;clear HW3 HW2 HR2 HB2 HP1 HR0 HB0 e1 e2 e3 z2 q2 q3 HB HU HS;have hcm:Yr cs<=3:=hcf.2.2.2.2.2;have HCM:Hid (Yr cs=Zq (Z7 cs 3) 4):=rfl;obtain⟨m,hm⟩:∃m,m=Yr cs:=⟨_,rfl⟩;rw[<- hm] at hcm HCM;have HMM:Hid (m=Yr cs):=hm;clear hm hcf;obtain⟨i0,hinf,hz0,hz1,hz2⟩:=info_parts Zod;go_wp2_with fail
 go_loopw [4] (fun ti wr=>∃(k:Nat) (vF:Value),ti=.int .i64 k/\k<=m+1/\Hid (wr.heap[cb]? =some (.cells #[vF,.int .i64 (cfB cs:Nat),.int .i64 (cfS cs:Nat),.int .i64 (cfU cs:Nat)] 37 (0,0)))/\Hid (Zba wr w.heap.size vF cs k)/\Hid (wr.heap[w.heap.size]? =some (.cells #[.slice none 0 0,.int .i64 0,.int .i64 0,.int .i64 0] 37 (0,0)))/\Hid (Below w.heap.size w wr)) (fun ti _=>m+1-(intOf ti).toNat)
 case atStart=>exact⟨0,_,rfl,by omega,HW3'.out,World.ownsRow_nil _ _ _ _,HR3.out,HB3.out⟩
 case round=>
  clear HW3' HR3 HB3;obtain⟨k,vF,rfl,hk,HC,HO,HZ,HB⟩:=hrel;have hsz:=HB.out.size;have hcl:cb<wr.heap.size:=(Qb HC.out).1;go_wp2_with fail
  refine(HR.out wr 3 (by omega) HB.out).mono ?_;rintro e w4 ⟨rfl,h4⟩;obtain rfl:=h4.symm;go_wp2_with fail
  refine(HP.out wr 3 4 (by omega) (by omega)).mono ?_;rintro e w4 ⟨rfl,h4⟩;obtain rfl:=h4.symm;rw[<- HCM.out]
  by_cases hkm:k<=m
  ·have bk:(k:Int)<=(m:Int):=(by omega);have q4:IntKind.i64.wrap (4+(k:Int))=((4+k:Nat):Int):=(by rw[ZB (by omega) (by omega)];omega);have q8:IntKind.i64.wrap (8+(k:Int))=((8+k:Nat):Int):=(by rw[ZB (by omega) (by omega)];omega);go_wp2_with fail
   refine(HR.out wr (4+k) (by omega) HB.out).mono ?_;rintro e w4 ⟨rfl,h4⟩;obtain rfl:=h4.symm;go_wp2_with fail
   refine(HP.out wr (4+k) 4 (by omega) (by omega)).mono ?_;rintro e w4 ⟨rfl,h4⟩;obtain rfl:=h4.symm;obtain⟨w6,hw6⟩:∃w6,w6=wr.alloc (.cells #[.bool false,.int .i64 (Zq (Z7 cs (4+k)) 4:Nat),.int .i64 0] 51):=⟨_,rfl⟩;have hb6:Below wr.heap.size wr w6:=(by rw[hw6];exact(Below.refl _ _).alloc (Qa _) _);have hr6:w6.heap[wr.heap.size]? =some (.cells #[.bool false,.int .i64 (Zq (Z7 cs (4+k)) 4:Nat),.int .i64 0] 51 (0,0)):=(by rw[hw6];exact heap_alloc_new wr _);have HB6:Hid (Below w.heap.size w w6):=HB.out.trans (hb6.mono hsz);have HC6:Hid (w6.heap[cb]? =some (.cells #[vF,.int .i64 (cfB cs:Nat),.int .i64 (cfS cs:Nat),.int .i64 (cfU cs:Nat)] 37 (0,0))):=(hb6.block cb hcl).trans HC.out;have HO6:Hid (Zba w6 w.heap.size vF cs k):=(Za.of_below (S:=fun _=>False) hb6).row HO.out (fun _ _=>id)
   have hwl:w.heap.size<wr.heap.size:=(Qb HZ.out).1;have HZ6:Hid (w6.heap[w.heap.size]? =some (.cells #[.slice none 0 0,.int .i64 0,.int .i64 0,.int .i64 0] 37 (0,0))):=(hb6.block _ hwl).trans HZ.out;have HOL:Hid (∀q,vF.ownBlock=some q->q<wr.heap.size):=fun q hq=>(World.ownsRow.lt HO.out q hq).2;have HR6:Hid (w6.heap[wr.heap.size]? =some (.cells #[.bool false,.int .i64 (Zq (Z7 cs (4+k)) 4:Nat),.int .i64 0] 51 (0,0))):=hr6;go_wp2_with fail
   rw[<- hw6];clear hw6 hb6 HC HO HZ HB;refine(HR.out w6 (8+k) (by omega) HB6.out).mono ?_;rintro e w4 ⟨rfl,h4⟩;obtain rfl:=h4.symm;go_wp2_with fail
   refine(HP.out w6 (8+k) 3 (by omega) (by omega)).mono ?_;rintro e w4 ⟨rfl,h4⟩;obtain rfl:=h4.symm;have f0:=frozen_of_row _ _ 0 _ 51 hr6;have f1:=frozen_of_row _ _ 1 _ 51 hr6;have f2:=frozen_of_row _ _ 2 _ 51 hr6;have g0:=cell_of_row _ _ 0 _ 51 (0,0) hr6;have g1:=cell_of_row _ _ 1 _ 51 (0,0) hr6;have g2:=cell_of_row _ _ 2 _ 51 (0,0) hr6;clear hr6;go_upto_if 42 with fail
   go_cut [5] (fun v wx=>v=.pointer (some ⟨wr.heap.size,0,none⟩)/\Hid (wx.heap[wr.heap.size]? =some (.cells #[.bool (QK cs k),.int .i64 (Q5 cs k),.int .i64 (cfT cs k)] 51 (0,0)))/\Hid (Za (fun q=>q=wr.heap.size) w6 wx))
   case first=>
    have HCW:Hid (QK cs k=decide (Zq (Z7 cs (8+k)) 3=0)):=rfl;have HCC:Hid (Q5 cs k=if QK cs k=true then(0:Int) else((Zq (Z7 cs (4+k)) 4:Nat):Int)):=rfl;have HCT:Hid (cfT cs k=if QK cs k=true then 1+((Zq (Z7 cs (4+k)) 9:Nat):Int) else(0:Int)):=rfl
    by_cases hp:Zq (Z7 cs (8+k)) 3=0
    ·have q5:(((Zq (Z7 cs (8+k)) 3:Nat):Int)==0)=true:=(by rw[hp];rfl);have HV:Hid (QK cs k=true/\Q5 cs k=0/\cfT cs k=1+(Zq (Z7 cs (4+k)) 9:Nat)):=(by have hw:QK cs k=true:=(by rw[HCW.out];exact decide_eq_true hp);exact⟨hw,by rw[HCC.out,if_pos hw],by rw[HCT.out,if_pos hw]⟩);have h9:=Yf (Z7 cs (4+k)) (show 0<9 by omega);obtain⟨p9,hp9⟩:∃p9,p9=Zq (Z7 cs (4+k)) 9:=⟨_,rfl⟩;have HP9:Hid (p9=Zq (Z7 cs (4+k)) 9):=hp9;have q6:IntKind.i64.wrap (1+(p9:Int))=1+(p9:Int):=ZB (by omega) (by omega);clear hp hp9 h9;generalize Zq (Z7 cs (8+k)) 3=p3 at *;go_wp2_with fail
     refine(HR.out w6 (4+k) (by omega) HB6.out).mono ?_;rintro e w4 ⟨rfl,h4⟩;obtain rfl:=h4.symm;go_wp2_with fail
     refine(HP.out w6 (4+k) 9 (by omega) (by omega)).mono ?_;rintro e w4 ⟨rfl,h4⟩;obtain rfl:=h4.symm;rw[<- HP9.out];go_wp2;go_meet
     refine⟨rfl,?_,?_⟩;show _=_;rw[HV.out.1,HV.out.2.1,HV.out.2.2,<- HP9.out];exact heap_setCell_same _ _ 2 _ 51 _ (heap_setCell_same _ _ 1 _ 51 _ (heap_setCell_same _ _ 0 _ 51 _ HR6.out));exact(((Za.refl (fun q=>q=wr.heap.size) w6).setCell (p:=⟨wr.heap.size,0,none⟩) (fun _=>rfl) _).setCell (p:=⟨wr.heap.size,1,none⟩) (fun _=>rfl) _).setCell (p:=⟨wr.heap.size,2,none⟩) (fun _=>rfl) _
    have q5:(((Zq (Z7 cs (8+k)) 3:Nat):Int)==0)=false:=(by rw[beq_eq_false_iff_ne];omega);have HV:Hid (QK cs k=false/\Q5 cs k=(Zq (Z7 cs (4+k)) 4:Nat)/\cfT cs k=0):=(by have hw:QK cs k=false:=(by rw[HCW.out];exact decide_eq_false hp);have hw2:¬QK cs k=true:=(by rw[hw];decide);exact⟨hw,by rw[HCC.out,if_neg hw2],by rw[HCT.out,if_neg hw2]⟩);go_wp2;go_meet
    refine⟨rfl,?_,Za.refl _ _⟩;show _=_;rw[HV.out.1,HV.out.2.1,HV.out.2.2];exact HR6.out
   case rest=>
    obtain⟨rfl,HRW,HTT⟩:=hcut;clear f0 f1 f2 g0 g1 g2 HR6;obtain⟨av,cv,rfl⟩:=HO6.out.shape;have hne1:cb≠wr.heap.size:=(by omega);have HCc:Hid (wc.heap[cb]? =some (.cells #[.slice av k cv,.int .i64 (cfB cs:Nat),.int .i64 (cfS cs:Nat),.int .i64 (cfU cs:Nat)] 37 (0,0))):=HTT.out.at_ HC6.out hne1;have HZc:Hid (wc.heap[w.heap.size]? =some (.cells #[.slice none 0 0,.int .i64 0,.int .i64 0,.int .i64 0] 37 (0,0))):=HTT.out.at_ HZ6.out (by omega)
    have HOc:Hid (Zba wc w.heap.size (.slice av k cv) cs k):=HTT.out.row HO6.out (fun q hq e=>by
     have h1:=HOL.out q hq
     omega)
    have HBc:Hid (Below w.heap.size w wc):=HB6.out.trans (HTT.out.to_below HB6.out.size (fun q hq=>by rw[hq];exact hsz));have hcs:=HBc.out.size;have hcb:cb<wc.heap.size:=(Qb HCc.out).1;have g0:=cell_of_row _ _ 0 _ 51 (0,0) HRW.out;have g1:=cell_of_row _ _ 1 _ 51 (0,0) HRW.out;have g2:=cell_of_row _ _ 2 _ 51 (0,0) HRW.out;have g3:=cell_of_row _ _ 0 _ 37 (0,0) HCc.out;have HFS:Hid (ZbO cs (k+1)=ZbO cs k++[.bool (QK cs k),.int .i64 (Q5 cs k),.int .i64 (cfT cs k)]):=rfl;clear HTT HC6 HZ6 HO6 HB6 HRW;generalize QK cs k=xW at *;generalize Q5 cs k=xC at *;generalize cfT cs k=xT at *;have HROW:Hid (wc.ownsRow w.heap.size 51 3 (.slice av k cv) k (ZbO cs k)):=HOc.out
    go_wp2_with (at_builtin;refine Zd rfl (.tmp 51) (.tmp 53) 35 rfl w.heap.size 51 i0 (.agg #[.bool false,.int .i64 0,.int .i64 0]) 3 24 Tryz.underlying35 hinf hz0 hz1 hz2 rfl (by decide) (.slice av k cv) k (ZbO cs k) rfl (World.ownsRow.alloc HROW.out _) ⟨wc.heap.size,0,none⟩ 1 1 [.bool xW,.int .i64 xC,.int .i64 xT] rfl rfl ?_ ?_ ?_ ?_ ?_ ?_ ?_)
    exact Zr wc #[.bool xW,.int .i64 xC,.int .i64 xT] 51
    ·intro u hu;simp at hu;rcases hu with rfl|rfl|rfl<;>rfl
    decide;unfold maxLen;omega;omega;simp;omega;intro v4 w4 H4;obtain⟨r4,g4,d4,_,_⟩:=H4.out;have h2S:Zba w4 w.heap.size v4 cs (k+1):=by unfold Zba;rw[HFS.out];exact r4
    obtain⟨a4,c4,rfl⟩:=h2S.shape;obtain⟨w8,hw8⟩:∃w8,w8=wc.alloc (.cells #[.bool xW,.int .i64 xC,.int .i64 xT] 51):=⟨_,rfl⟩;rw[<- hw8] at g4 d4;have hb8:Below wc.heap.size wc w8:=(by rw[hw8];exact(Below.refl _ _).alloc (Qa _) _);have h8b:=hb8.size;have T:Za (fun q=>(Value.slice av k cv).ownBlock=some q) w8 w4:=(Za.refl _ w8).grown g4 (fun k hk _=>hk);have hR8:w8.ownsRow w.heap.size 51 3 (.slice av k cv) k (ZbO cs k):=(Za.of_below (S:=fun _=>False) hb8).row HROW.out (fun _ _=>id);have hE8:=(hb8.block cb hcb).trans HCc.out;have hZ8:=(hb8.block w.heap.size (by omega)).trans HZc.out;have hE4:w4.heap[cb]? =some (.cells #[.slice av k cv,.int .i64 (cfB cs:Nat),.int .i64 (cfS cs:Nat),.int .i64 (cfU cs:Nat)] 37 (0,0)):=T.at_ hE8 (fun e=>Zs hR8 e hE8 (by decide) rfl)
    have hZ4:w4.heap[w.heap.size]? =some (.cells #[.slice none 0 0,.int .i64 0,.int .i64 0,.int .i64 0] 37 (0,0)):=T.at_ hZ8 (fun e=>Zs hR8 e hZ8 (by decide) rfl);have f4:w4.cell? ⟨cb,0,none⟩=some (.slice av k cv):=cell_of_row _ _ 0 _ 37 (0,0) hE4;have z4:w4.frozen? ⟨cb,0,none⟩=false:=frozen_of_row _ _ 0 _ 37 hE4;have HE5:Hid ((w4.setCell ⟨cb,0,none⟩ (.slice a4 (k+1) c4)).heap[cb]? =some (.cells #[.slice a4 (k+1) c4,.int .i64 (cfB cs:Nat),.int .i64 (cfS cs:Nat),.int .i64 (cfU cs:Nat)] 37 (0,0))):=heap_setCell_same _ cb 0 _ 37 _ hE4;have HO5:Hid (Zba (w4.setCell ⟨cb,0,none⟩ (.slice a4 (k+1) c4)) w.heap.size (.slice a4 (k+1) c4) cs (k+1)):=Zl h2S hE4 (by decide)
    have HZ5:Hid ((w4.setCell ⟨cb,0,none⟩ (.slice a4 (k+1) c4)).heap[w.heap.size]? =some (.cells #[.slice none 0 0,.int .i64 0,.int .i64 0,.int .i64 0] 37 (0,0))):=(by have t1:Za (fun q=>q=cb) w4 (w4.setCell ⟨cb,0,none⟩ (.slice a4 (k+1) c4)):=(Za.refl (fun q=>q=cb) w4).setCell (p:=⟨cb,0,none⟩) (fun _=>rfl) _;exact t1.at_ hZ4 (by omega));have HB5:Hid (Below w.heap.size w (w4.setCell ⟨cb,0,none⟩ (.slice a4 (k+1) c4))):=by have h1:Below w.heap.size w w8:=HBc.out.trans (hb8.mono hcs);exact(h1.grown g4 h1.size (fun q hq=>(World.ownsRow.lt hR8 q hq).1)).setCell (show w.heap.size<=cb by omega) _
    clear H4 r4 g4 d4 hw8 hb8 h8b T hR8 hE8 hZ8 hE4 hZ4 h2S HCc HZc HOc HBc HROW g0 g1 g2 g3;go_wp2;go_roundw;case rel=>exact⟨k+1,_,by go_num,by omega,HE5.out,HO5.out,HZ5.out,HB5.out⟩
    case measure=>simp[intOf];omega
  have hkm2:k=m+1:=(by omega);subst hkm2;have bk:¬((m+1:Nat):Int)<=(m:Int):=(by omega);have bk2:¬(m:Int)+1<=(m:Int):=(by omega);obtain⟨fk,fc,rfl,hfk,hft⟩:=HO.out.feats (by omega) (by omega);have hE:=HC.out;have e0:=cell_of_row _ _ 0 _ 37 (0,0) hE;have e1:=cell_of_row _ _ 1 _ 37 (0,0) hE;have e2:=cell_of_row _ _ 2 _ 37 (0,0) hE;have e3:=cell_of_row _ _ 3 _ 37 (0,0) hE;have hr0:=HZ.out;have r0:=cell_of_row _ _ 0 _ 37 (0,0) hr0;have r1:=cell_of_row _ _ 1 _ 37 (0,0) hr0;have r2:=cell_of_row _ _ 2 _ 37 (0,0) hr0;have r3:=cell_of_row _ _ 3 _ 37 (0,0) hr0;have z0:=frozen_of_row _ _ 0 _ 37 hr0;have z1:=frozen_of_row _ _ 1 _ 37 hr0;have z2:=frozen_of_row _ _ 2 _ 37 hr0;have z3:=frozen_of_row _ _ 3 _ 37 hr0;have HFT:Hid (Zba wr w.heap.size (.slice (some ⟨fk,0,none⟩) (m+1) fc) cs (m+1)):=HO.out
  clear hE hr0 hft HO;go_wp2;refine bodyPost_ret (v:=.agg #[.slice (some ⟨fk,0,none⟩) (m+1) fc,.int .i64 (cfB cs:Nat),.int .i64 (cfS cs:Nat),.int .i64 (cfU cs:Nat)]) (by simp[results,Tryz.results23,go_sem, *]) rfl ?_;rw[<- HMM.out];have h1:=Zl HFT.out HZ.out (j:=0) (u:=.slice (some ⟨fk,0,none⟩) (m+1) fc) (by decide);have h2:=Zl h1 (by exact heap_setCell_same _ _ 0 _ 37 _ HZ.out) (j:=1) (u:=.int .i64 (cfB cs:Nat)) (by decide);have h3:=Zl h2 (by exact heap_setCell_same _ _ 1 _ 37 _ (heap_setCell_same _ _ 0 _ 37 _ HZ.out)) (j:=2) (u:=.int .i64 (cfS cs:Nat)) (by decide);have h4:=Zl h3 (by exact heap_setCell_same _ _ 2 _ 37 _ (heap_setCell_same _ _ 1 _ 37 _ (heap_setCell_same _ _ 0 _ 37 _ HZ.out))) (j:=3) (u:=.int .i64 (cfU cs:Nat)) (by decide)
  obtain⟨fk',fc',e,_,hf⟩:=Zba.feats (show Zba _ _ _ cs (m+1) from h4) (by omega) (by omega);simp only[Value.slice.injEq,Option.some.injEq,Addr.mk.injEq,and_true,true_and] at e;obtain⟨rfl,rfl⟩:=e;exact⟨fk,fc,rfl,hfk,hf,(((HB.out.setCell (Qa _) _).setCell (Qa _) _).setCell (Qa _) _).setCell (Qa _) _⟩
def ten:ByteArray:=⟨#[48,49,50,51,52,53,54,55,56,57]⟩
def ZfR(n:Nat):ByteArray:=ten.extract n (n+1)
def ZgU(n:Nat):ByteArray:=if n<10 then ZfR n else ZfR (n/10)++ZfR (n%10)
def Y8(z:Int):ByteArray:=if z<0 then⟨#[45]⟩++ZgU (-z).toNat else ZgU z.toNat
theorem ZmX:ten.size=10:=rfl
theorem QD{n:Nat}(h:n<10):(ZfR n).size=1:=by unfold ZfR;rw[ByteArray.size_extract,ZmX];omega
theorem ZeP(n:Nat)(hn:n<10)(w:World):Calls Tryz.prog 48 #[.int .i64 (n:Nat)] w fun e w'=>e=.returned (.string (ZfR n))/\Below w.heap.size w w':=by have b0:¬(n:Int)<0:=(by omega);have b1:(n:Int)<10:=(by omega);have b2:(0:Int)<=(n:Int):=(by omega);have b3:(n:Int)<=(n:Int)+1:=(by omega);have b4:(n:Int)+1<=10:=(by omega);have q:IntKind.i64.wrap ((n:Int)+1)=((n+1:Nat):Int):=(by rw[ZB (by omega) (by omega)];omega);go_enter Tryz.func48,Tryz.ntmps48;go_wp2;go_ret;exact⟨rfl,Below.refl _ _⟩
theorem ZeQ(n:Nat)(hn:n<100)(w:World):Calls Tryz.prog 48 #[.int .i64 (n:Nat)] w fun e w'=>e=.returned (.string (ZgU n))/\Below w.heap.size w w':=by
 unfold ZgU
 by_cases h10:n<10
 rw[if_pos h10];exact ZeP n h10 w;rw[if_neg h10];obtain⟨a,ha⟩:∃a,a=n/10:=⟨_,rfl⟩;obtain⟨b,hb⟩:∃b,b=n%10:=⟨_,rfl⟩;rw[<- ha,<- hb];have b0:¬(n:Int)<0:=(by omega);have b1:¬(n:Int)<10:=by omega
 have q1:(n:Int).tdiv 10=(a:Int):=(by rw[Int.tdiv_eq_ediv_of_nonneg (by omega)];omega);have q2:(n:Int).tmod 10=(b:Int):=by rw[Int.tmod_eq_emod_of_nonneg (by omega)];omega
 have q4:IntKind.i64.wrap (a:Int)=(a:Int):=ZB (by omega) (by omega);have q5:IntKind.i64.wrap ((n:Int).tdiv 10)=(a:Int):=(by rw[q1];exact q4);have q3:IntKind.i64.wrap ((b:Int)+1)=((b+1:Nat):Int):=(by rw[ZB (by omega) (by omega)];omega);have c2:(0:Int)<=(b:Int):=(by omega);have c3:(b:Int)<=(b:Int)+1:=(by omega);have c4:(b:Int)+1<=10:=(by omega);have HD:Hid (∀W:World,Calls Tryz.prog 48 #[.int .i64 (a:Nat)] W fun e w'=>e=.returned (.string (ZfR a))/\Below W.heap.size W w'):=fun W=>ZeP a (by omega) W;have HS:Hid ((ZfR a).size=1/\(ten.extract b (b+1)).size=1):=⟨QD (by omega),QD (n:=b) (by omega)⟩;obtain⟨s1,s2⟩:=HS.out;have HT:Hid (ZfR b=ten.extract b (b+1)):=rfl;unfold ten at s2 HT;generalize ZfR a=A at *;clear ha hb h10
 go_enter Tryz.func48,Tryz.ntmps48;go_wp2_with fail
 go_region_held3 (fun _=>True) (trivial) (first|(go_at_call 48;refine(HD.out _).mono ?_;rintro e w1 ⟨rfl,hb1⟩))
 have HB:Hid (Below w.heap.size w w1):=(Below.refl _ _).drew.trans (hb1.mono (by simp));clear hb1;go_wp2;go_ret;exact⟨by rw[HT.out];rfl,HB.out⟩
theorem ZeO(z:Int)(h1: -99<=z)(h2:z<=99)(w:World):Calls Tryz.prog 48 #[.int .i64 z] w fun e w'=>e=.returned (.string (Y8 z))/\Below w.heap.size w w':=by
 unfold Y8
 by_cases h0:z<0
 ·rw[if_pos h0];have HD:=ZeQ (-z).toNat (by omega) w;rw[show(((-z).toNat:Nat):Int)= -z by omega] at HD;have q1:IntKind.i64.wrap (-z)= -z:=ZB (by omega) (by omega);have hs:(ZgU (-z).toNat).size<=2:=(by unfold ZgU;split;rw[QD (by omega)];omega;rw[ByteArray.size_append,QD (by omega),QD (by omega)];omega);generalize ZgU (-z).toNat=A at *;go_enter Tryz.func48,Tryz.ntmps48;go_wp2_with fail
  refine HD.mono ?_;rintro e w1 ⟨rfl,hb1⟩;have HB:Hid (Below w.heap.size w w1):=hb1;clear hb1;go_wp2;go_ret;exact⟨rfl,HB.out⟩
 rw[if_neg h0];have HD:=ZeQ z.toNat (by omega) w
 rwa [show((z.toNat:Nat):Int)=z by omega] at HD
end Go.Proofs.YtfcgnpchbcmdeaaGreat
