import Derived.Test.YtfcgnpchbcmdeaaGreatZabk
import Derived.Test.YtfcgnpchbcmdeaaGreatZabl
import Derived.Test.YtfcgnpchbcmdeaaGreatZaaf
import Derived.Test.YtfcgnpchbcmdeaaGreatZabn
import Derived.Test.YtfcgnpchbcmdeaaGreatZabg
import Derived.Test.YtfcgnpchbcmdeaaGreatZabf
namespace Go.Proofs.YtfcgnpchbcmdeaaGreat
set_option linter.unusedSimpArgs false
set_option maxRecDepth 100000
set_option maxHeartbeats 16000000
open Go.RowKit
def Zae(X:List XS)(x:XS):Bool:=decide (X.length=0)||decide (Za5 (X.getD (X.length-1) QD) x<0)
theorem ZhJ(db:Nat)(vK vB vX:Value)(bvs:List (Value×Value))(bs:List BS)(X:List XS)(x:XS)(w:World)(h:DsX w db vK vB vX bvs bs X)(hl:X.length<=1000000):Calls Tryz.prog 234 #[.pointer (some ⟨db,0,none⟩),.agg #[.int .i64 (x.row:Nat),.int .i64 (x.f:Nat),.int .i64 (x.bin:Nat)]] w fun e w'=>e=.returned (.bool (Zae X x))/\Below w.heap.size w w':=by
 obtain⟨xa,xc,hvX⟩:=h.xn.shape;subst hvX;have d2:w.cell? ⟨db,2,none⟩=some (.slice xa X.length xc):=cell_of_row _ _ 2 _ 168 (0,0) h.blk;have hdl:db<w.heap.size:=(Qb h.blk).1;have HXN:Hid (ZaT w 0 (.slice xa X.length xc) X):=h.xn;have HC:Hid (∀(y:XS) (W:World),Calls Tryz.prog 148 #[.agg #[.int .i64 (y.row:Nat),.int .i64 (y.f:Nat),.int .i64 (y.bin:Nat)],.agg #[.int .i64 (x.row:Nat),.int .i64 (x.f:Nat),.int .i64 (x.bin:Nat)]] W fun e w'=>e=.returned (.int .i64 (Za5 y x))/\Below W.heap.size W w'):=fun y W=>(Q1 y x W).mono (fun _ _ h=>⟨h.1,h.2.below⟩);have HM:Hid (Zae X x=(decide (X.length=0)||decide (Za5 (X.getD (X.length-1) QD) x<0))):=rfl;clear h;generalize Zae X x=R at *
 obtain⟨w0,hw0⟩:∃w0,w0=w.alloc (.cells #[.int .i64 (x.row:Nat),.int .i64 (x.f:Nat),.int .i64 (x.bin:Nat)] 184):=⟨_,rfl⟩;have hX0:w0.heap[w.heap.size]? =some (.cells #[.int .i64 (x.row:Nat),.int .i64 (x.f:Nat),.int .i64 (x.bin:Nat)] 184 (0,0)):=(by rw[hw0];exact heap_alloc_new w _);have HB0:Hid (Below w.heap.size w w0):=(by show Below _ _ _;rw[hw0];exact(Below.refl _ _).alloc (Qa _) _);have htr:w.heap.size<w0.heap.size:=(Qb hX0).1;have t0:w0.cell? ⟨w.heap.size,0,none⟩=some (.int .i64 (x.row:Nat)):=cell_of_row _ _ 0 _ 184 (0,0) hX0;have t1:w0.cell? ⟨w.heap.size,1,none⟩=some (.int .i64 (x.f:Nat)):=cell_of_row _ _ 1 _ 184 (0,0) hX0;have t2:w0.cell? ⟨w.heap.size,2,none⟩=some (.int .i64 (x.bin:Nat)):=cell_of_row _ _ 2 _ 184 (0,0) hX0
 have d2w:=(HB0.out.cell (p:=⟨db,2,none⟩) hdl).trans d2;clear hX0 d2;have HCx:=HC.out;clear HC;generalize hnl:X.length=n at *;have HN:Hid (X.length=n):=hnl;clear hnl
 by_cases h0:n=0
 ·subst h0;have HR:Hid (R=true):=(by show _=_;rw[HM.out];rfl);clear HM HCx;generalize x.row=xr at *;generalize x.f=xf at *;generalize x.bin=xb at *;go_enter Tryz.func234,Tryz.ntmps234;go_upto_region 1 with fail;rw[<- hw0];clear hw0;go_upto_region 2 with fail;generalize hz:(-1:Int)=z;have hd:decide (z<0)=true:=(by rw[<- hz];rfl);clear hz;go_quiet (fail);go_wp2;go_ret;exact⟨by rw[HR.out];rfl,below_drewN HB0.out _⟩
 obtain⟨m,rfl⟩:∃m,n=m+1:=⟨n-1,by omega⟩;have hm:(((m+1:Nat):Int)-1)=(m:Int):=(by omega);have hw:IntKind.i64.wrap (m:Int)=(m:Int):=ZA (by omega) (by omega);have hg:decide ((m:Int)<0)=false:=decide_eq_false (by omega);have b1:(0:Int)<=(m:Int):=(by omega);have b2:(m:Int)<((m+1:Nat):Int):=(by omega);obtain⟨q,hq,hql,y0,y1,y2⟩:=HXN.out.atK HN.out (k:=m) (by omega);have e0:=(HB0.out.cell (p:=⟨q,m*3,none⟩) hql).trans y0;have e1:=(HB0.out.cell (p:=⟨q,m*3+1,none⟩) hql).trans y1;have e2:=(HB0.out.cell (p:=⟨q,m*3+2,none⟩) hql).trans y2;subst hq;clear y0 y1 y2;have hdr:db<w0.heap.size:=Qh hdl HB0.out.size;have hqr:q<w0.heap.size:=Qh hql HB0.out.size
 have HR:Hid (R=decide (Za5 (X.getD m QD) x<0)):=(by show _=_;rw[HM.out,Nat.add_sub_cancel];simp);have HCy:=HCx (X.getD m QD);clear HM HCx HXN HN;generalize Za5 (X.getD m QD) x=c1 at *;generalize (X.getD m QD).row=yr at *;generalize (X.getD m QD).f=yf at *;generalize (X.getD m QD).bin=yb at *;generalize x.row=xr at *;generalize x.f=xf at *;generalize x.bin=xb at *;have HCY:Hid (∀W:World,Below w0.heap.size w0 W->Calls Tryz.prog 148 #[.agg #[.int .i64 (yr:Nat),.int .i64 (yf:Nat),.int .i64 (yb:Nat)],.agg #[.int .i64 (xr:Nat),.int .i64 (xf:Nat),.int .i64 (xb:Nat)]] W fun e w'=>e=.returned (.int .i64 c1)/\Below w0.heap.size w0 w'):=fun W hW=>(HCy W).mono (fun _ _ h=>⟨h.1,hW.trans (h.2.mono hW.size)⟩);clear HCy;generalize hmm:m+1=m1 at *;have HMM:Hid (m+1=m1):=hmm;clear hmm
 go_enter Tryz.func234,Tryz.ntmps234;go_upto_region 1 with fail;rw[<- hw0];clear hw0;go_upto_region 2 with fail
 go_region_held3 (fun w'=>w'.cell? ⟨db,2,none⟩=some (.slice (some ⟨q,0,none⟩) m1 xc)/\w'.cell? ⟨q,m*3,none⟩=some (.int .i64 (yr:Nat))/\w'.cell? ⟨q,m*3+1,none⟩=some (.int .i64 (yf:Nat))/\w'.cell? ⟨q,m*3+2,none⟩=some (.int .i64 (yb:Nat))/\w'.cell? ⟨w.heap.size,0,none⟩=some (.int .i64 (xr:Nat))/\w'.cell? ⟨w.heap.size,1,none⟩=some (.int .i64 (xf:Nat))/\w'.cell? ⟨w.heap.size,2,none⟩=some (.int .i64 (xb:Nat))) (first|exact⟨d2w,e0,e1,e2,t0,t1,t2⟩|exact⟨(Below.cell (B:=w0.heap.size) (w:=w0) (p:=⟨db,2,none⟩) hb3 hdr).trans d2w,(Below.cell (B:=w0.heap.size) (w:=w0) (p:=⟨q,m*3,none⟩) hb3 hqr).trans e0,(Below.cell (B:=w0.heap.size) (w:=w0) (p:=⟨q,m*3+1,none⟩) hb3 hqr).trans e1,(Below.cell (B:=w0.heap.size) (w:=w0) (p:=⟨q,m*3+2,none⟩) hb3 hqr).trans e2,(Below.cell (B:=w0.heap.size) (w:=w0) (p:=⟨w.heap.size,0,none⟩) hb3 htr).trans t0,(Below.cell (B:=w0.heap.size) (w:=w0) (p:=⟨w.heap.size,1,none⟩) hb3 htr).trans t1,(Below.cell (B:=w0.heap.size) (w:=w0) (p:=⟨w.heap.size,2,none⟩) hb3 htr).trans t2⟩) (first|(go_at_call 148;refine(HCY.out _ (Below.refl _ _).drew).mono ?_;rintro e w3 ⟨rfl,hb3⟩))
 have HB3:Hid (Below w.heap.size w w3):=HB0.out.trans (hb3.mono HB0.out.size);clear hb3 e0 e1 e2 t0 t1 t2;go_wp2;go_ret;exact⟨by rw[HR.out];rfl,HB3.out⟩
def Y2(D:YY)(n:Nat)(x:XS):Bool:=
 decide (x.row<n)&&(decide (x.f<D.ks.length)&&(Zdy (D.ks.getD x.f Zq).e (D.ks.getD x.f Zq).d (x.bin:Nat)&&(decide (0<(atN (D.bs.getD (Zv D x.f) ZB).N (D.bs.getD (Zv D x.f) ZB).g).getD x.row 0)&&decide ((atN (D.bs.getD (Zv D x.f) ZB).N (D.bs.getD (Zv D x.f) ZB).g).getD x.row 0<Y6 D (Zv D x.f) (QX D x.f)))))
theorem Zr0{w:World}{v:Value}{N:List Nat}{g:Nat}(hN:N.length<=200)(hg:g<64)(hv:QN w 0 v N g):∃ty fat cp,v=.iface ty (.pointer (some ⟨cp,0,none⟩))/\(ty=382/\fat=323∨ty=380/\fat=371)/\(∀W:World,(method 535 ty (.pointer (some ⟨cp,0,none⟩)) "At").run Tryz.prog W=.ok (fat,.pointer (some ⟨cp,0,none⟩)) W)/\∀W:World,Below w.heap.size w W->∀r,r<N.length->Calls Tryz.prog fat #[.pointer (some ⟨cp,0,none⟩),.int .i64 (r:Nat)] W fun e w'=>e=.returned (.int .i64 ((atN N g).getD r 0:Nat))/\Below W.heap.size W w':=by
 rcases hv with⟨a1,p,rfl,sp,vc,rfl,hb,hX⟩|⟨a1,p,rfl,dd,q,rfl,hb,hX⟩
 have hX':∀W,Below w.heap.size w W->ZfJ W 0 sp N.length (Lib.bitLen g) vc (Yh N N.length):=fun W hW=>⟨(hW.block _ (Qb hX.blk).1).trans hX.blk,(Za.of_below (S:=fun _=>False) hW).row hX.row (fun _ _=>id)⟩;unfold atN;rw[if_pos a1];exact⟨380,371,sp,rfl,.inr ⟨rfl,rfl⟩,fun W=>by kernel_rfl,fun W hW r hr=>Zcn sp _ _ r vc N W (hX' W hW) hr (by omega)⟩;have hb6:Lib.bitLen g<=6:=Zaj hg;have hX':∀W,Below w.heap.size w W->Zal W 0 dd q N.length (Lib.bitLen g) (ZO (YD N (Lib.bitLen g)) ((N.length*Lib.bitLen g+7)/8) (N.length*Lib.bitLen g)):=fun W hW=>hX.below hW;have hmul2:N.length*Lib.bitLen g<=200*6:=Nat.mul_le_mul hN hb6;unfold atN;rw[if_neg a1];refine⟨382,323,dd,rfl,.inl ⟨rfl,rfl⟩,fun W=>by kernel_rfl,fun W hW r hr=>?_⟩
 have hmul:r*Lib.bitLen g+Lib.bitLen g<=N.length*Lib.bitLen g:=(by rw[<- Nat.succ_mul];exact Nat.mul_le_mul_right _ hr);have h1:=ZaN dd q _ _ _ _ r _ W (hX' W hW) (fun t=>Zbi _ _ t) hb6 hmul (by omega) (by omega);rw[ZcO (N.getD r 0) (r*Lib.bitLen g) (Lib.bitLen g) (fun i hi=>Zei N hi)] at h1;have e:(N.map (· %2^Lib.bitLen g)).getD r 0=N.getD r 0%2^Lib.bitLen g:=(by rw[Qc,Qc,List.getElem?_map,Qd hr];rfl);rw[e];exact h1
section
variable {P:Program} {ops:Array Oper} {Q:Exit->Act->World->Prop} {md:Region.Mode} {S:World->Prop} {stop:Nat}
theorem tkU{oi:Oper}{fuel:Nat}{listed:Array Bool}{a:Act}{w:World}(W:List Nat)(i:Nat)(h:Z7 P md ops Q S stop fuel (listed.setIfInBounds i true) (a.put oi.dst undef) w)(hi:ops.toList[i]? =some oi:=by rfl)(hs:Region.noSelect ops=true:=by kernel_rfl)(hf:Region.free md ops listed i=true:=by kernel_rfl)(hr:(Region.ready md ops listed).contains i=true:=by kernel_rfl)(hstop:W.contains stop=true:=by kernel_rfl)(hL:Zfu md ops listed i W=true:=by kernel_rfl)(hQ:∀c a w,Q (.panic c) (a.put oi.dst undef) w->Q (.panic c) a w:=by exact fun _ _ _ h=>h)(hg:Region.wanted oi (yielded ops a.tmps)=false:=by rfl)(hS:S w:=by assumption):Z7 P md ops Q S stop (fuel+1) listed a w:=Zay W hi hs hf hr hstop hL hQ (Or.inr ⟨hg,rfl⟩) hS h
end
structure XbX(w w0:World)(xr xf xb:Nat):Prop where
 lt:w.heap.size<w0.heap.size
 c0:w0.cell? ⟨w.heap.size,0,none⟩=some (.int .i64 (xr:Nat))
 c1:w0.cell? ⟨w.heap.size,1,none⟩=some (.int .i64 (xf:Nat))
 c2:w0.cell? ⟨w.heap.size,2,none⟩=some (.int .i64 (xb:Nat))
 b:Below w.heap.size w w0
theorem XbX.below{w w0 w2:World}{xr xf xb:Nat}(h:XbX w w0 xr xf xb)(hb:Below w0.heap.size w0 w2):XbX w w2 xr xf xb:=
 ⟨Qh h.lt hb.size,(hb.cell (p:=⟨w.heap.size,0,none⟩) h.lt).trans h.c0,(hb.cell (p:=⟨w.heap.size,1,none⟩) h.lt).trans h.c1,(hb.cell (p:=⟨w.heap.size,2,none⟩) h.lt).trans h.c2,h.b.trans (hb.mono h.b.size)⟩
theorem ZhH(db n:Nat)(vK vB vX:Value)(kvs bvs:List (Value×Value))(X:List XS)(D:YY)(x:XS)(w:World)(h:Y7 w db vK vB vX kvs bvs X D)(hb0:0<D.bs.length)(hbl:D.bs.length<=1000)(hn:n<=200)(hN:∀b∈D.bs,b.N.length=n)(hg:∀b∈D.bs,b.g<64)(hc:∀K∈D.ks,K.e.cnt<=16)(hk0:0<D.ks.length)(hs:∀f,f<D.ks.length->Zbf D f (Zv D f) (QX D f)):Calls Tryz.prog 235 #[.pointer (some ⟨db,0,none⟩),.agg #[.int .i64 (x.row:Nat),.int .i64 (x.f:Nat),.int .i64 (x.bin:Nat)]] w fun e w'=>e=.returned (.bool (Y2 D n x))/\Below w.heap.size w w':=by
 obtain⟨qk,cK,_,_,_,_,hvK,hqkl,_⟩:=h.kn.at (i:=0) hk0;subst hvK;have d0:w.cell? ⟨db,0,none⟩=some (.slice (some ⟨qk,0,none⟩) D.ks.length cK):=cell_of_row _ _ 0 _ 168 (0,0) h.ds.blk;have hdl:db<w.heap.size:=(Qb h.ds.blk).1;have HM:Hid (∀W,Below w.heap.size w W->Y7 W db (.slice (some ⟨qk,0,none⟩) D.ks.length cK) vB vX kvs bvs X D):=fun W hW=>⟨h.ds.below hW,h.kn.touch (S:=fun _=>False) (Za.of_below hW) (fun _ _ _ _ _=>id),h.perm,h.sorted⟩;have hn0:(D.bs.getD 0 ZB).N.length=n:=hN _ (by rw[Qc,Qd hb0];exact Qf _)
 have HRW:Hid (∀W,Below w.heap.size w W->Calls Tryz.prog 51 #[.pointer (some ⟨db,0,none⟩)] W fun e w'=>e=.returned (.int .i64 (n:Nat))/\Below w.heap.size w w'):=fun W hW=>(Zbl db _ _ _ _ _ _ W (HM.out W hW).ds hb0).mono (fun _ _ h=>⟨by rw[h.1,hn0],hW.trans (h.2.mono hW.size)⟩);obtain⟨w0,hw0⟩:∃w0,w0=w.alloc (.cells #[.int .i64 (x.row:Nat),.int .i64 (x.f:Nat),.int .i64 (x.bin:Nat)] 184):=⟨_,rfl⟩;have hX0:w0.heap[w.heap.size]? =some (.cells #[.int .i64 (x.row:Nat),.int .i64 (x.f:Nat),.int .i64 (x.bin:Nat)] 184 (0,0)):=(by rw[hw0];exact heap_alloc_new w _);have HB0:Hid (Below w.heap.size w w0):=by show Below _ _ _;rw[hw0];exact(Below.refl _ _).alloc (Qa _) _
 have HXB:Hid (XbX w w0 x.row x.f x.bin):=⟨(Qb hX0).1,cell_of_row _ _ 0 _ 184 (0,0) hX0,cell_of_row _ _ 1 _ 184 (0,0) hX0,cell_of_row _ _ 2 _ 184 (0,0) hX0,HB0.out⟩;have HNE:Hid (Y2 D n x=(decide (x.row<n)&&(decide (x.f<D.ks.length)&&(Zdy (D.ks.getD x.f Zq).e (D.ks.getD x.f Zq).d (x.bin:Nat)&&(decide (0<(atN (D.bs.getD (Zv D x.f) ZB).N (D.bs.getD (Zv D x.f) ZB).g).getD x.row 0)&&decide ((atN (D.bs.getD (Zv D x.f) ZB).N (D.bs.getD (Zv D x.f) ZB).g).getD x.row 0<Y6 D (Zv D x.f) (QX D x.f))))))):=rfl;have HS:Hid (∀f,f<D.ks.length->Zbf D f (Zv D f) (QX D f)):=hs;have HNN:Hid (∀b∈D.bs,b.N.length=n):=hN;have HG:Hid (∀b∈D.bs,b.g<64):=hg;have HC:Hid (∀K∈D.ks,K.e.cnt<=16):=hc
 have HRX:Hid (∀W,Below w0.heap.size w0 W->Calls Tryz.prog 51 #[.pointer (some ⟨db,0,none⟩)] W fun e w'=>e=.returned (.int .i64 (n:Nat))/\Below w0.heap.size w0 w'):=fun W hW=>(Zbl db _ _ _ _ _ _ W (HM.out W (HB0.out.trans (hW.mono HB0.out.size))).ds hb0).mono (fun _ _ h=>⟨by rw[h.1,hn0],hW.trans (h.2.mono hW.size)⟩);clear h hX0 hn0 hN hg hc hs HRW;obtain⟨xr,xf,xb⟩:=x;simp only at *;have d0w:=(HB0.out.cell (p:=⟨db,0,none⟩) hdl).trans d0;have hdr:db<w0.heap.size:=Qh hdl HB0.out.size;have t0:=HXB.out.c0;have t1:=HXB.out.c1;have t2:=HXB.out.c2;have htr:=HXB.out.lt;clear d0
 by_cases hr:xr<n
 ·by_cases hf:xf<D.ks.length
  ·obtain⟨kq2,kc2,ab,cb,aw,cw,hv2,hkq,e0,e1,e2,e3,_,_⟩:=(HM.out w (Below.refl _ _)).kn.at hf;have hqq:kq2=qk:=(by injection hv2 with h1;injection h1 with h1;injection h1 with h1 _;exact h1.symm);subst hqq;clear hv2;have e0w:=(HB0.out.cell (p:=⟨kq2,xf*4,none⟩) hkq).trans e0;have e1w:=(HB0.out.cell (p:=⟨kq2,xf*4+1,none⟩) hkq).trans e1;have e2w:=(HB0.out.cell (p:=⟨kq2,xf*4+2,none⟩) hkq).trans e2;have e3w:=(HB0.out.cell (p:=⟨kq2,xf*4+3,none⟩) hkq).trans e3;have hkr:kq2<w0.heap.size:=Qh hkq HB0.out.size;clear e0 e1 e2 e3;have hc16:=HC.out (D.ks.getD xf Zq) (by rw[Qc,Qd hf];exact Qf _)
   have HSO:Hid (∀W,Below w0.heap.size w0 W->Calls Tryz.prog 284 #[.agg #[.bool (D.ks.getD xf Zq).e.wd,.slice ab (D.ks.getD xf Zq).e.bs.length cb,.slice aw (D.ks.getD xf Zq).e.ww.length cw,.int .i64 ((D.ks.getD xf Zq).d:Nat)],.int .i64 (xb:Nat)] W fun x w'=>x=.returned (.bool (Zdy (D.ks.getD xf Zq).e (D.ks.getD xf Zq).d (xb:Nat)))/\Below w0.heap.size w0 w'):=fun W hW=>(ZdP _ ab aw _ cb _ cw _ _ W rfl rfl (by omega)).mono (fun _ _ h=>⟨h.1,hW.trans (h.2.mono hW.size)⟩);have hso:=HS.out xf hf;obtain⟨hI,hcol⟩:=(HM.out w (Below.refl _ _)).ds.bn.each (Zv D xf) hso.hb;have hbm:D.bs.getD (Zv D xf) ZB∈D.bs:=(by rw[Qc,Qd hso.hb];exact Qf _);have hNl:=HNN.out _ hbm;obtain⟨ty,fat,cp,hvc,hty,hme,hat⟩:=Zr0 (by rw[hNl];exact hn) (HG.out _ hbm) hcol
   obtain⟨fa,fcc,hvf⟩:=hI.shape
   have HSE:Hid (∀W,Below w.heap.size w W->Calls Tryz.prog 145 #[.pointer (some ⟨db,0,none⟩),.int .i64 (xf:Nat)] W fun e w'=>e=.returned (.tuple #[.agg #[.slice fa (ZD (D.bs.getD (Zv D xf) ZB).fs).length fcc,.iface ty (.pointer (some ⟨cp,0,none⟩))],.int .i64 (Y6 D (Zv D xf) (QX D xf):Nat)])/\Below W.heap.size W w'):=fun W hW=>by have:=ZeI db xf _ _ _ _ _ _ _ _ D W (HM.out W hW) hso hbl;rw[hvf,hvc] at this;exact this
   have HAT:Hid (∀W:World,Below w.heap.size w W->Calls Tryz.prog fat #[.pointer (some ⟨cp,0,none⟩),.int .i64 (xr:Nat)] W fun e w'=>e=.returned (.int .i64 ((atN (D.bs.getD (Zv D xf) ZB).N (D.bs.getD (Zv D xf) ZB).g).getD xr 0:Nat))/\Below w.heap.size w w'):=fun W hW=>(hat W hW xr (by rw[hNl];exact hr)).mono (fun _ _ h=>⟨h.1,hW.trans (h.2.mono hW.size)⟩);have HRR:Hid (Y2 D n ⟨xr,xf,xb⟩=(Zdy (D.ks.getD xf Zq).e (D.ks.getD xf Zq).d (xb:Nat)&&(decide (0<(atN (D.bs.getD (Zv D xf) ZB).N (D.bs.getD (Zv D xf) ZB).g).getD xr 0)&&decide ((atN (D.bs.getD (Zv D xf) ZB).N (D.bs.getD (Zv D xf) ZB).g).getD xr 0<Y6 D (Zv D xf) (QX D xf))))):=(by show _=_;rw[HNE.out,decide_eq_true hr,decide_eq_true hf];rfl);clear HNE hso hI hcol hbm hNl hvc hat hvf HM HC HS HNN HG
   generalize Y2 D n ⟨xr,xf,xb⟩=R at *;generalize Zdy (D.ks.getD xf Zq).e (D.ks.getD xf Zq).d (xb:Nat)=ob at *;generalize (D.ks.getD xf Zq).e.bs.length=nb at *;generalize (D.ks.getD xf Zq).e.ww.length=nw at *;generalize (D.ks.getD xf Zq).e.wd=wd at *;generalize (D.ks.getD xf Zq).d=dd at *;generalize (atN (D.bs.getD (Zv D xf) ZB).N (D.bs.getD (Zv D xf) ZB).g).getD xr 0=y at *;generalize Y6 D (Zv D xf) (QX D xf)=off at *;generalize (ZD (D.bs.getD (Zv D xf) ZB).fs).length=nf at *;generalize hnk:D.ks.length=nk at *;clear hnk;have g1:¬(n:Int)<=(xr:Int):=(by omega);have g2:decide ((xr:Int)≥(n:Int))=false:=decide_eq_false g1;have g3:¬(nk:Int)<=(xf:Int):=(by omega);have g4:decide ((xf:Int)≥(nk:Int))=false:=decide_eq_false g3;have b1:(0:Int)<=(xf:Int):=by omega
   have b2:(xf:Int)<(nk:Int):=(by omega);have HF0:Hid (∀W,Below w0.heap.size w0 W->W.cell? ⟨db,0,none⟩=some (.slice (some ⟨kq2,0,none⟩) nk cK)/\W.cell? ⟨kq2,xf*4,none⟩=some (.bool wd)/\W.cell? ⟨kq2,xf*4+1,none⟩=some (.slice ab nb cb)/\W.cell? ⟨kq2,xf*4+2,none⟩=some (.slice aw nw cw)/\W.cell? ⟨kq2,xf*4+3,none⟩=some (.int .i64 (dd:Nat))):=fun W hb3=>⟨(hb3.cell (p:=⟨db,0,none⟩) hdr).trans d0w,(hb3.cell (p:=⟨kq2,xf*4,none⟩) hkr).trans e0w,(hb3.cell (p:=⟨kq2,xf*4+1,none⟩) hkr).trans e1w,(hb3.cell (p:=⟨kq2,xf*4+2,none⟩) hkr).trans e2w,(hb3.cell (p:=⟨kq2,xf*4+3,none⟩) hkr).trans e3w⟩;go_enter Tryz.func235,Tryz.ntmps235;go_upto_region 1 with fail;rw[<- hw0];clear hw0
   refine Zr (fun w'=>w'.cell? ⟨w.heap.size,0,none⟩=some (.int .i64 (xr:Nat))/\w'.cell? ⟨w.heap.size,1,none⟩=some (.int .i64 (xf:Nat))/\w'.cell? ⟨w.heap.size,2,none⟩=some (.int .i64 (xb:Nat))/\w'.cell? ⟨db,0,none⟩=some (.slice (some ⟨kq2,0,none⟩) nk cK)/\w'.cell? ⟨kq2,xf*4,none⟩=some (.bool wd)/\w'.cell? ⟨kq2,xf*4+1,none⟩=some (.slice ab nb cb)/\w'.cell? ⟨kq2,xf*4+2,none⟩=some (.slice aw nw cw)/\w'.cell? ⟨kq2,xf*4+3,none⟩=some (.int .i64 (dd:Nat))) 28 (by kernel_rfl) ⟨t0,t1,t2,d0w,e0w,e1w,e2w,e3w⟩ (fun hHeld=>?_);refine Zo 0 ?_;refine Zo 1 ?_;refine Zo 2 ?_;refine Ze (i:=3) (by kernel_rfl) rfl (fun KK hK=>?_);go_simp;refine(HRX.out _ (Below.refl _ _).drew).mono ?_;rintro e w3 ⟨rfl,hb3⟩;have HX3:Hid (XbX w w3 xr xf xb):=HXB.out.below hb3
   have HB3:Hid (Below w0.heap.size w0 w3):=hb3;have ht3:w3.cell? ⟨w.heap.size,0,none⟩=some (.int .i64 (xr:Nat))/\w3.cell? ⟨w.heap.size,1,none⟩=some (.int .i64 (xf:Nat))/\w3.cell? ⟨w.heap.size,2,none⟩=some (.int .i64 (xb:Nat))/\w3.cell? ⟨db,0,none⟩=some (.slice (some ⟨kq2,0,none⟩) nk cK)/\w3.cell? ⟨kq2,xf*4,none⟩=some (.bool wd)/\w3.cell? ⟨kq2,xf*4+1,none⟩=some (.slice ab nb cb)/\w3.cell? ⟨kq2,xf*4+2,none⟩=some (.slice aw nw cw)/\w3.cell? ⟨kq2,xf*4+3,none⟩=some (.int .i64 (dd:Nat)):=⟨HX3.out.c0,HX3.out.c1,HX3.out.c2,(hb3.cell (p:=⟨db,0,none⟩) hdr).trans d0w,(hb3.cell (p:=⟨kq2,xf*4,none⟩) hkr).trans e0w,(hb3.cell (p:=⟨kq2,xf*4+1,none⟩) hkr).trans e1w,(hb3.cell (p:=⟨kq2,xf*4+2,none⟩) hkr).trans e2w,(hb3.cell (p:=⟨kq2,xf*4+3,none⟩) hkr).trans e3w⟩
   clear hb3 t0 t1 t2 d0w e0w e1w e2w e3w;go_simp;refine hK.out _ _ ht3 (fun hHeld=>?_);clear hK KK;try simp only[Act.put,tA,tB,tC]
   refine Zo 4 ?_;refine Zo 5 ?_;refine Zo 6 ?_;refine Zo 7 ?_;refine Zo 8 ?_;refine Zo 9 ?_;refine Zo 10 ?_;refine Zo 11 ?_;refine Zo 12 ?_;refine Zo 13 ?_;refine Zo 14 ?_;refine Zo 15 ?_;refine Zo 16 ?_;refine Zo 17 ?_;refine Zo 18 ?_;refine Zo 19 ?_;refine Zo 20 ?_;refine Zo 21 ?_;refine Zo 22 ?_;refine Zo 23 ?_;refine Zo 24 ?_;refine Zo 25 ?_;refine Ze (i:=26) (by kernel_rfl) rfl (fun KK hK=>?_);go_simp;refine(HSO.out _ HB3.out).mono ?_;rintro e w4 ⟨rfl,hb4⟩;have HX4:Hid (XbX w w4 xr xf xb):=HXB.out.below hb4
   have ht4:w4.cell? ⟨w.heap.size,0,none⟩=some (.int .i64 (xr:Nat))/\w4.cell? ⟨w.heap.size,1,none⟩=some (.int .i64 (xf:Nat))/\w4.cell? ⟨w.heap.size,2,none⟩=some (.int .i64 (xb:Nat))/\w4.cell? ⟨db,0,none⟩=some (.slice (some ⟨kq2,0,none⟩) nk cK)/\w4.cell? ⟨kq2,xf*4,none⟩=some (.bool wd)/\w4.cell? ⟨kq2,xf*4+1,none⟩=some (.slice ab nb cb)/\w4.cell? ⟨kq2,xf*4+2,none⟩=some (.slice aw nw cw)/\w4.cell? ⟨kq2,xf*4+3,none⟩=some (.int .i64 (dd:Nat)):=⟨HX4.out.c0,HX4.out.c1,HX4.out.c2,HF0.out w4 hb4⟩;clear hb4 ht3;go_simp;refine hK.out _ _ ht4 (fun hHeld=>?_);clear hK KK ht4;try simp only[Act.put,tA,tB,tC]
   refine Zo 27 ?_;refine Zl (i:=28) (by kernel_rfl) rfl (by kernel_rfl) (fun KK hK=>?_);go_simp;refine hK.out _ _ ?_;clear hK KK;try simp only[Act.put,tA,tB,tC]
   refine Zn (by kernel_rfl) ?_ _
   cases ob with
   | false=>
    have HR:Hid (R=false):=HRR.out;clear HRR;go_wp2;go_ret;exact⟨by rw[HR.out];rfl,HX4.out.b⟩
   | true=>
    have HR:Hid (R=(decide (0<y)&&decide (y<off))):=HRR.out;clear HRR;have u1:=HX4.out.c1;go_wp2_with fail
    refine(HSE.out _ HX4.out.b).mono ?_;rintro e w5 ⟨rfl,hb5⟩;have HX5:Hid (XbX w w5 xr xf xb):=HX4.out.below hb5;clear hb5 u1 HX4;go_upto_region 4 with fail;generalize hW6:w5.alloc (.cells #[.slice fa nf fcc,.iface ty (.pointer (some ⟨cp,0,none⟩))] 163)=w6;have hK6:w6.heap[w5.heap.size]? =some (.cells #[.slice fa nf fcc,.iface ty (.pointer (some ⟨cp,0,none⟩))] 163 (0,0)):=(by rw[<- hW6];exact heap_alloc_new _ _);have HX6:Hid (XbX w w6 xr xf xb):=HX5.out.below (by rw[<- hW6];exact(Below.refl _ _).alloc (Qa _) _);clear hW6;have k1:w6.cell? ⟨w5.heap.size,1,none⟩=some (.iface ty (.pointer (some ⟨cp,0,none⟩))):=cell_of_row _ _ 1 _ 163 (0,0) hK6;have u0:=HX6.out.c0;clear hK6;have HTY:Hid (ty=382/\fat=323∨ty=380/\fat=371):=hty;clear hty
    rcases HTY.out with⟨rfl,rfl⟩|⟨rfl,rfl⟩
    all_goals
     go_wp2_with fail
     refine(HAT.out _ HX6.out.b).mono ?_;rintro e w7 ⟨rfl,hb7⟩;have HB7:Hid (Below w.heap.size w w7):=hb7;clear hb7 u0 k1
     by_cases hy:0<y
     ·have hy1:(0:Int)<(y:Int):=by omega
      by_cases ho:y<off
      ·have ho1:(y:Int)<(off:Int):=(by omega);have HR2:Hid (R=true):=(by show _=_;rw[HR.out,decide_eq_true hy,decide_eq_true ho];rfl);go_wp2;go_ret;exact⟨by rw[HR2.out];rfl,HB7.out⟩
      have ho1:¬(y:Int)<(off:Int):=(by omega);have HR2:Hid (R=false):=(by show _=_;rw[HR.out,decide_eq_false ho];simp);go_wp2;go_ret;exact⟨by rw[HR2.out];rfl,HB7.out⟩
     have hy1:¬(0:Int)<(y:Int):=(by omega);have HR2:Hid (R=false):=(by show _=_;rw[HR.out,decide_eq_false hy];rfl);go_wp2;go_ret;exact⟨by rw[HR2.out];rfl,HB7.out⟩
  have g1:¬(n:Int)<=(xr:Int):=(by omega);have g2:decide ((xr:Int)≥(n:Int))=false:=decide_eq_false g1;have HR:Hid (Y2 D n ⟨xr,xf,xb⟩=false):=(by show _=_;rw[HNE.out,decide_eq_true hr,decide_eq_false hf];rfl);clear HNE;generalize Y2 D n ⟨xr,xf,xb⟩=R at *;generalize D.ks.length=nk at *;have g3:(nk:Int)<=(xf:Int):=(by omega);have g4:decide ((xf:Int)≥(nk:Int))=true:=decide_eq_true g3;go_enter Tryz.func235,Tryz.ntmps235;go_upto_region 1 with fail;rw[<- hw0];clear hw0;refine Zr (fun w'=>w'.cell? ⟨w.heap.size,0,none⟩=some (.int .i64 (xr:Nat))/\w'.cell? ⟨w.heap.size,1,none⟩=some (.int .i64 (xf:Nat))/\w'.cell? ⟨db,0,none⟩=some (.slice (some ⟨qk,0,none⟩) nk cK)) 28 (by kernel_rfl) ⟨t0,t1,d0w⟩ (fun hHeld=>?_);refine Zo 0 ?_;refine Zo 1 ?_;refine Zo 2 ?_
  refine Ze (i:=3) (by kernel_rfl) rfl (fun KK hK=>?_);go_simp;refine(HRX.out _ (Below.refl _ _).drew).mono ?_;rintro e w3 ⟨rfl,hb3⟩;have HX3:Hid (XbX w w3 xr xf xb):=HXB.out.below hb3;have t3:=HX3.out.c0;have t4:=HX3.out.c1;have d3:=(hb3.cell (p:=⟨db,0,none⟩) hdr).trans d0w;clear hb3 t0 t1 t2 d0w;go_simp;refine hK.out _ _ ⟨t3,t4,d3⟩ (fun hHeld=>?_);clear hK KK;try simp only[Act.put,tA,tB,tC]
  refine Zo 4 ?_;refine Zo 5 ?_;refine Zo 6 ?_;refine Zo 7 ?_;refine Zo 8 ?_;refine Zo 9 ?_;refine Zo 10 ?_;refine Zo 11 ?_;refine Zo 12 ?_;refine Zo 13 ?_;refine Zo 14 ?_;refine Zo 15 ?_;refine tkU [17,18,19,22,23,26,27,28] 16 ?_;try simp only[Act.put,tA,tB,tC]
  refine tkU [18,19,22,23,26,27,28] 17 ?_;try simp only[Act.put,tA,tB,tC]
  refine tkU [19,22,23,26,27,28] 18 ?_;try simp only[Act.put,tA,tB,tC]
  refine tkU [22,23,26,27,28] 19 ?_;try simp only[Act.put,tA,tB,tC]
  refine tkU [21,22,23,26,27,28] 20 ?_;try simp only[Act.put,tA,tB,tC]
  refine tkU [22,23,26,27,28] 21 ?_;try simp only[Act.put,tA,tB,tC]
  refine tkU [23,26,27,28] 22 ?_;try simp only[Act.put,tA,tB,tC]
  refine tkU [26,27,28] 23 ?_;try simp only[Act.put,tA,tB,tC]
  refine tkU [25,26,27,28] 24 ?_;try simp only[Act.put,tA,tB,tC]
  refine tkU [26,27,28] 25 ?_;try simp only[Act.put,tA,tB,tC]
  refine tkU [27,28] 26 ?_;try simp only[Act.put,tA,tB,tC]
  refine tkU [28] 27 ?_;try simp only[Act.put,tA,tB,tC]
  refine Zl (i:=28) (by kernel_rfl) rfl (by kernel_rfl) (fun KK hK=>?_);go_simp;refine hK.out _ _ ?_;clear hK KK;try simp only[Act.put,tA,tB,tC]
  refine Zn (by kernel_rfl) ?_ _;go_wp2;go_ret;exact⟨by rw[HR.out];rfl,HX3.out.b⟩
 have g1:(n:Int)<=(xr:Int):=(by omega);have g2:decide ((xr:Int)≥(n:Int))=true:=decide_eq_true g1;have HR:Hid (Y2 D n ⟨xr,xf,xb⟩=false):=(by show _=_;rw[HNE.out,decide_eq_false hr];rfl);clear HNE;generalize Y2 D n ⟨xr,xf,xb⟩=R at *;generalize D.ks.length=nk at *;go_enter Tryz.func235,Tryz.ntmps235;go_upto_region 1 with fail;rw[<- hw0];clear hw0;refine Zr (fun w'=>w'.cell? ⟨w.heap.size,0,none⟩=some (.int .i64 (xr:Nat))) 28 (by kernel_rfl) t0 (fun hHeld=>?_);refine Zo 0 ?_;refine Zo 1 ?_;refine Zo 2 ?_;refine Ze (i:=3) (by kernel_rfl) rfl (fun KK hK=>?_);go_simp;refine(HRX.out _ (Below.refl _ _).drew).mono ?_;rintro e w3 ⟨rfl,hb3⟩;have HX3:Hid (XbX w w3 xr xf xb):=HXB.out.below hb3;have t3:=HX3.out.c0;clear hb3 t0 t1 t2 d0w;go_simp;refine hK.out _ _ t3 (fun hHeld=>?_);clear hK KK
 try simp only[Act.put,tA,tB,tC]
 refine Zo 4 ?_;refine Zo 5 ?_;refine tkU [7,13,14,15,16,17,18,19,20,21,22,23,24,25,26,27,28] 6 ?_;try simp only[Act.put,tA,tB,tC]
 refine tkU [13,14,15,16,17,18,19,20,21,22,23,24,25,26,27,28] 7 ?_;try simp only[Act.put,tA,tB,tC]
 refine tkU [9,10,11,12,13,14,15,16,17,18,19,20,21,22,23,24,25,26,27,28] 8 ?_;try simp only[Act.put,tA,tB,tC]
 refine tkU [10,11,12,13,14,15,16,17,18,19,20,21,22,23,24,25,26,27,28] 9 ?_;try simp only[Act.put,tA,tB,tC]
 refine tkU [11,12,13,14,15,16,17,18,19,20,21,22,23,24,25,26,27,28] 10 ?_;try simp only[Act.put,tA,tB,tC]
 refine tkU [12,13,14,15,16,17,18,19,20,21,22,23,24,25,26,27,28] 11 ?_;try simp only[Act.put,tA,tB,tC]
 refine tkU [13,14,15,16,17,18,19,20,21,22,23,24,25,26,27,28] 12 ?_;try simp only[Act.put,tA,tB,tC]
 refine tkU [14,15,16,17,18,19,20,21,22,23,24,25,26,27,28] 13 ?_;try simp only[Act.put,tA,tB,tC]
 refine Zo 14 ?_;refine Zo 15 ?_;refine tkU [17,18,19,22,23,26,27,28] 16 ?_;try simp only[Act.put,tA,tB,tC]
 refine tkU [18,19,22,23,26,27,28] 17 ?_;try simp only[Act.put,tA,tB,tC]
 refine tkU [19,22,23,26,27,28] 18 ?_;try simp only[Act.put,tA,tB,tC]
 refine tkU [22,23,26,27,28] 19 ?_;try simp only[Act.put,tA,tB,tC]
 refine tkU [21,22,23,26,27,28] 20 ?_;try simp only[Act.put,tA,tB,tC]
 refine tkU [22,23,26,27,28] 21 ?_;try simp only[Act.put,tA,tB,tC]
 refine tkU [23,26,27,28] 22 ?_;try simp only[Act.put,tA,tB,tC]
 refine tkU [26,27,28] 23 ?_;try simp only[Act.put,tA,tB,tC]
 refine tkU [25,26,27,28] 24 ?_;try simp only[Act.put,tA,tB,tC]
 refine tkU [26,27,28] 25 ?_;try simp only[Act.put,tA,tB,tC]
 refine tkU [27,28] 26 ?_;try simp only[Act.put,tA,tB,tC]
 refine tkU [28] 27 ?_;try simp only[Act.put,tA,tB,tC]
 refine Zl (i:=28) (by kernel_rfl) rfl (by kernel_rfl) (fun KK hK=>?_);go_simp;refine hK.out _ _ ?_;clear hK KK;try simp only[Act.put,tA,tB,tC]
 refine Zn (by kernel_rfl) ?_ _;go_wp2;go_ret;exact⟨by rw[HR.out];rfl,HX3.out.b⟩
end Go.Proofs.YtfcgnpchbcmdeaaGreat
namespace Go.Proofs.YtfcgnpchbcmdeaaGreat
set_option linter.unusedSimpArgs false
set_option maxRecDepth 100000
set_option maxHeartbeats 16000000
open Go.RowKit Go.Lib Go.Sort
def rdX(r:List Int):XS:=⟨(r.getD 0 0).toNat,(r.getD 1 0).toNat,(r.getD 2 0).toNat⟩
def exK(D:YY)(n:Nat)(l:List Int):Nat->Option (List XS×List Int)
 |0=>some ([],l)
 | k+1=>match exK D n l k with
  |none=>none
  |some (X,r)=>if(Zae X (rdX r)&&Y2 D n (rdX r))=true then some (X++[rdX r],r.drop 3) else none
theorem Zpf (D:YY) (n:Nat) (l:List Int) {k m:Nat} (h:exK D n l k=none) (hk:k<=m):exK D n l m=none:=by
  induction m with
  | zero => have:k=0:=by omega
            rw[<- this];exact h
  | succ m ih=>
    by_cases e:k=m+1
    rw[<- e];exact h;simp only[exK,ih (by omega)]
theorem ZhI{X:List XS}{x:XS}(hs:Qj X)(h:Zae X x=true):Qj (X++[x]):=by
 refine List.pairwise_append.2 ⟨hs,by simp,fun y hy z hz=>?_⟩;simp only[List.mem_cons,List.not_mem_nil,or_false] at hz;subst hz;have hp:0<X.length:=List.length_pos_of_mem hy;unfold Zae at h;rw[decide_eq_false (by omega),Bool.false_or,decide_eq_true_eq] at h;have hl:=ltX (X.getD (X.length-1) QD) z
 have h1:(X.getD (X.length-1) QD).row<z.row∨(X.getD (X.length-1) QD).row=z.row/\(X.getD (X.length-1) QD).f<z.f:=by
  have:ltOf Za5 (X.getD (X.length-1) QD) z=true:=by unfold ltOf;simpa using h
  rw[hl] at this
  simpa using this
 obtain⟨i,hi,rfl⟩:=List.getElem_of_mem hy
 rcases Nat.lt_or_ge i (X.length-1) with h2|h2
 have h3:=List.pairwise_iff_getElem.1 hs i (X.length-1) hi (by omega) h2;have e:X.getD (X.length-1) QD=X[X.length-1]'(by omega):=(by simp[Qc,Qd (show X.length-1<X.length by omega)]);rw[e] at h1;omega;have e:X.getD (X.length-1) QD=X[i]:=(by have:X.length-1=i:=(by omega);rw[this];simp[Qc,Qd hi]);rw[e] at h1;omega
structure ExS(w wr:World)(db sb:Nat)(l:List Int)(vK vB vX:Value)(kvs bvs:List (Value×Value))(Ks:List KS)(bs:List BS)(X:List XS):Prop where
 made:Y7 wr db vK vB vX kvs bvs X ⟨Ks,bs,X⟩
 src:ZM wr sb l
 t:Za (fun k=>k=sb∨k=db) w wr
 nw:∀k,vX.ownBlock=some k->w.heap.size<=k
section
variable {w wr w2:World} {db sb:Nat} {l l2:List Int} {vK vB vX:Value} {kvs bvs:List (Value×Value)} {Ks:List KS} {bs:List BS} {X:List XS}
theorem Y7.touchT{S:Nat->Prop}{T:Nat}{D:YY}(h:Y7 wr db vK vB vX kvs bvs X D)(t:Za S wr w2)(ty:TyS S wr T)(h0:168≠T)(h1:403≠T)(h2:396≠T)(h3:405≠T)(h4:5≠T)(h5:163≠T)(h6:184≠T)(h7:172≠T)(h8:9≠T)(h9:3≠T):Y7 w2 db vK vB vX kvs bvs X D:=
 ⟨⟨t.at_ h.ds.blk (ty.at h.ds.blk h0),h.ds.bn.touchT t ty h1 h2 h3 h4 (ty.row h.ds.bn.row h5) (fun i hi=>ty.row (h.ds.bn.each i hi).1 h9),t.row h.ds.xn (ty.row h.ds.xn h6)⟩,h.kn.touchT t ty h7 h8 (fun i hi=>ty.row (h.kn.each i hi).1 h9),h.perm,h.sorted⟩
theorem ExS.step(h:ExS w wr db sb l vK vB vX kvs bvs Ks bs X)(hs:ZM w2 sb l2)(t:Za (fun k=>k=sb) wr w2):ExS w w2 db sb l2 vK vB vX kvs bvs Ks bs X:=by obtain⟨S,s1,_⟩:=h.src.ex;have ty:TyS (fun k=>k=sb) wr 180:=TyS.one s1;exact⟨h.made.touchT t ty (by decide) (by decide) (by decide) (by decide) (by decide) (by decide) (by decide) (by decide) (by decide) (by decide),hs,h.t.trans (t.mono (fun k _ e=>.inl e)),h.nw⟩
theorem ExS.below(h:ExS w wr db sb l vK vB vX kvs bvs Ks bs X)(hb:Below wr.heap.size wr w2):ExS w w2 db sb l vK vB vX kvs bvs Ks bs X:=h.step (h.src.below hb) (.of_below hb)
theorem ExS.c2(h:ExS w wr db sb l vK vB vX kvs bvs Ks bs X):wr.cell? ⟨db,2,none⟩=some vX:=cell_of_row _ _ 2 _ 168 (0,0) h.made.ds.blk
theorem ExS.more{w3:World}{v6:Value}{x:XS}(h:ExS w wr db sb l vK vB vX kvs bvs Ks bs X)(hm:Zae X x=true)(g:wr.grownBy w3 vX.ownBlock)(r:w3.ownsRow 0 184 3 v6 (X.length+1) (QW X++Ql x))(d:v6.ownBlock=vX.ownBlock∨v6.ownBlock=some wr.heap.size):ExS w (w3.setCell ⟨db,2,none⟩ v6) db sb l vK vB v6 kvs bvs Ks bs (X++[x]):=by
 have t:Za (fun k=>vX.ownBlock=some k) wr w3:=(Za.refl _ wr).grown g (fun k hk _=>hk);have ty:TyS (fun k=>vX.ownBlock=some k) wr 184:=TyS.own h.made.ds.xn;obtain⟨S,s1,s2,s3⟩:=h.src.ex;have blk3:=t.at_ h.made.ds.blk (ty.at h.made.ds.blk (by decide));have t7:Za (fun k=>k=db) w3 (w3.setCell ⟨db,2,none⟩ v6):=(Za.refl (fun k=>k=db) w3).setCell (p:=⟨db,2,none⟩) (fun _=>rfl) _;have ty7:TyS (fun k=>k=db) w3 168:=TyS.one blk3;have kn3:=h.made.kn.touchT t ty (by decide) (by decide) (fun i hi=>ty.row (h.made.kn.each i hi).1 (by decide))
 refine⟨⟨h.made.ds.more g (ZaT.more r),kn3.touchT t7 ty7 (by decide) (by decide) (fun i hi=>ty7.row (kn3.each i hi).1 (by decide)),List.Perm.refl _,ZhI h.made.sorted hm⟩,⟨S,t7.at_ (t.at_ s1 (ty.at s1 (by decide))) (ty7.at (t.at_ s1 (ty.at s1 (by decide))) (by decide)),s2,s3⟩,(h.t.grown g (fun k hk hkl=>absurd (h.nw k hk) (by omega))).setCell (p:=⟨db,2,none⟩) (fun _=>.inr rfl) _,fun k hk=>?_⟩
 rcases d with e|e
 rw[e] at hk;exact h.nw k hk;rw[e] at hk;injection hk with hk;have:=h.t.size;omega
end
def ExE(w w':World)(db sb:Nat)(vK vB:Value)(kvs bvs:List (Value×Value))(Ks:List KS)(bs:List BS)(o:Option (List XS×List Int))(e:Ending):Prop:=match o with
 |none=>e=.returned (.bool false)/\Za (fun k=>k=sb∨k=db) w w'
 |some (X,r)=>e=.returned (.bool true)/\∃vX,ExS w w' db sb r vK vB vX kvs bvs Ks bs X
theorem Zea(db sb n:Nat)(l:List Int)(vK vB:Value)(kvs bvs:List (Value×Value))(Ks:List KS)(bs:List BS)(w:World)(h:ZM w sb l)(hd:Y7 w db vK vB (.slice none 0 0) kvs bvs [] ⟨Ks,bs,[]⟩)(hb0:0<bs.length)(hbl:bs.length<=1000)(hn:n<=200)(hN:∀b∈bs,b.N.length=n)(hg:∀b∈bs,b.g<64)(hc:∀K∈Ks,K.e.cnt<=16)(hk0:0<Ks.length)(hs:∀f,f<Ks.length->Zbf ⟨Ks,bs,[]⟩ f (Zv ⟨Ks,bs,[]⟩ f) (QX ⟨Ks,bs,[]⟩ f)):Calls Tryz.prog 168 #[.pointer (some ⟨db,0,none⟩),.pointer (some ⟨sb,0,none⟩)] w fun e w'=>ExE w w' db sb vK vB kvs bvs Ks bs (exK ⟨Ks,bs,[]⟩ n (l.drop 2) (ZaW l 2)) e:=by
 have HL:Hid (Calls Tryz.prog 233 #[.pointer (some ⟨sb,0,none⟩),.int .i64 2] w fun e w'=>e=.returned (.int .i64 (ZaW l 2:Nat))/\ZM w' sb (l.drop 2)/\Za (fun k=>k=sb) w w'):=Zg8 sb 2 l w h (by omega);have hm2:=Zjg h.byte 2;have HS0:Hid (ExS w w db sb l vK vB (.slice none 0 0) kvs bvs Ks bs []):=⟨hd,h,Za.refl _ _,by simp[Value.ownBlock]⟩;have HNX:Hid (∀(W:World) (l:List Int),ZM W sb l->Calls Tryz.prog 165 #[.pointer (some ⟨sb,0,none⟩)] W fun e w'=>e=.returned (.int .i64 (l.headD 0))/\ZM w' sb l.tail/\Za (fun k=>k=sb) W w'):=fun W l hS=>YF sb l W hS
 have HMF:Hid (∀(W:World) (r:List Int) (vX:Value) (X:List XS) (x:XS),ExS w W db sb r vK vB vX kvs bvs Ks bs X->X.length<=1000000->Calls Tryz.prog 234 #[.pointer (some ⟨db,0,none⟩),.agg #[.int .i64 (x.row:Nat),.int .i64 (x.f:Nat),.int .i64 (x.bin:Nat)]] W fun e w'=>e=.returned (.bool (Zae X x))/\Below W.heap.size W w'):=fun W r vX X x hX hl=>ZhJ db _ _ _ _ _ X x W hX.made.ds hl
 have HME:Hid (∀(W:World) (r:List Int) (vX:Value) (X:List XS) (x:XS),ExS w W db sb r vK vB vX kvs bvs Ks bs X->Calls Tryz.prog 235 #[.pointer (some ⟨db,0,none⟩),.agg #[.int .i64 (x.row:Nat),.int .i64 (x.f:Nat),.int .i64 (x.bin:Nat)]] W fun e w'=>e=.returned (.bool (Y2 ⟨Ks,bs,[]⟩ n x))/\Below W.heap.size W w'):=fun W r vX X x hX=>ZhH db n _ _ _ _ _ X ⟨Ks,bs,X⟩ x W hX.made hb0 hbl hn hN hg hc hk0 (fun f hf=>by have:=hs f hf;exact⟨this.hb,this.hp,this.at_,this.no,this.fl,this.fk,this.mn⟩);obtain⟨i0,hinf,hz0,hz1,hz2⟩:=info_parts Zm1;generalize (⟨Ks,bs,[]⟩:YY)=D0 at *;clear h hd hb0 hbl hn hN hg hc hk0 hs;generalize hmm:ZaW l 2=m at *;clear hmm;generalize hl2:l.drop 2=l2 at *;clear hl2;go_enter Tryz.func168,Tryz.ntmps168;go_wp2_with fail
 refine HL.out.mono ?_;rintro e w2 ⟨rfl,hs2,ht2⟩;have HS2:Hid (ExS w w2 db sb l2 vK vB (.slice none 0 0) kvs bvs Ks bs []):=HS0.out.step hs2 ht2;clear hs2 ht2 HS0 HL;go_wp2_with fail
 go_loopw [8] (fun ti wr=>∃(i:Nat) (X:List XS) (r:List Int) (vX:Value),ti=.int .i64 i/\i<=m/\X.length<=i/\Hid (exK D0 n l2 i=some (X,r))/\Hid (ExS w wr db sb r vK vB vX kvs bvs Ks bs X)) (fun ti _=>m-(intOf ti).toNat)
 case atStart=>exact⟨0,[],l2,_,rfl,Qg _,Qa _,rfl,HS2.out⟩
 case round=>
  clear HS2;obtain⟨i,X,r,vX,rfl,hi,hxl,HEK,HEX⟩:=hrel
  by_cases him:i<m
  ·have bi:(i:Int)<(m:Int):=(by omega);have hrb:=HEX.out.src.byte;have y0:=Qu hrb 0;have y1:=Qu hrb 1;have y2:=Qu hrb 2;obtain⟨x,hx⟩:∃x,rdX r=x:=⟨_,rfl⟩;have x0:r.headD 0=(x.row:Int):=(by rw[<- hx,show r.headD 0=r.getD 0 0 by have:=ZS r 0;rwa [List.drop_zero] at this];unfold rdX;simp only;omega);have x1:r.tail.headD 0=(x.f:Int):=(by rw[<- hx,show r.tail.headD 0=r.getD 1 0 by have:=ZS r 1;rwa [List.drop_one] at this];unfold rdX;simp only;omega);have x2:r.tail.tail.headD 0=(x.bin:Int):=by rw[<- hx,show r.tail.tail.headD 0=r.getD 2 0 by have:=ZS r 2;rwa [show r.drop 2=r.tail.tail by cases r with|nil=>rfl|cons a t=>cases t<;>rfl] at this];unfold rdX;simp only;omega
   have x3:r.tail.tail.tail=r.drop 3:=by cases r with|nil=>rfl|cons a t=>cases t with|nil=>rfl|cons b u=>cases u<;>rfl
   have HNE:Hid (exK D0 n l2 (i+1)=if(Zae X x&&Y2 D0 n x)=true then some (X++[x],r.drop 3) else none):=(by show _=_;simp only[exK,HEK.out,hx]);have HNO:Hid (exK D0 n l2 (i+1)=none->exK D0 n l2 m=none):=fun hx=>Zpf D0 n l2 hx (by omega);have h1:=HNX.out wr r HEX.out.src;rw[x0] at h1;have HX1:Hid (r.tail.headD 0=(x.f:Int)):=x1;have HX2:Hid (r.tail.tail.headD 0=(x.bin:Int)):=x2;have HX3:Hid (r.tail.tail.tail=r.drop 3):=x3;clear hrb y0 y1 y2 hx x0 x1 x2 x3 HEK;go_wp2_with fail
   refine h1.mono ?_;clear h1;rintro e w3 ⟨rfl,hs3,ht3⟩;have HE3:Hid (ExS w w3 db sb r.tail vK vB vX kvs bvs Ks bs X):=HEX.out.step hs3 ht3;clear hs3 ht3 HEX;have h1:=HNX.out w3 _ HE3.out.src;rw[HX1.out] at h1;go_wp2_with fail
   refine h1.mono ?_;clear h1;rintro e w4 ⟨rfl,hs4,ht4⟩;have HE4:Hid (ExS w w4 db sb r.tail.tail vK vB vX kvs bvs Ks bs X):=HE3.out.step hs4 ht4;clear hs4 ht4 HE3;have h1:=HNX.out w4 _ HE4.out.src;rw[HX2.out,HX3.out] at h1;go_wp2_with fail
   refine h1.mono ?_;clear h1;rintro e w5 ⟨rfl,hs5,ht5⟩;have HE5:Hid (ExS w w5 db sb (r.drop 3) vK vB vX kvs bvs Ks bs X):=HE4.out.step hs5 ht5;clear hs5 ht5 HE4 HX1 HX2 HX3;generalize r.drop 3=r3 at *;go_upto_region 4 with fail;obtain⟨bb,hbb⟩:∃bb,bb=w5.heap.size:=⟨_,rfl⟩;rw[<- hbb];generalize hW6:w5.alloc (.cells #[.int .i64 (x.row:Nat),.int .i64 (x.f:Nat),.int .i64 (x.bin:Nat)] 184)=w6;have hb6:Below w5.heap.size w5 w6:=(by rw[<- hW6];exact(Below.refl _ _).alloc (Qa _) _);have HBB:Hid (vX.ownBlock≠some bb/\w.heap.size<=bb):=⟨fun e=>by have:=(World.ownsRow.lt HE5.out.made.ds.xn bb e).2;omega,by have:=HE5.out.t.size;omega⟩;have HE6:Hid (ExS w w6 db sb r3 vK vB vX kvs bvs Ks bs X):=HE5.out.below hb6
   have HQ6:Hid (w6.heap[bb]? =some (.cells #[.int .i64 (x.row:Nat),.int .i64 (x.f:Nat),.int .i64 (x.bin:Nat)] 184 (0,0))):=(by show _=_;rw[<- hW6,hbb];exact heap_alloc_new _ _);clear hb6 hW6 hbb HE5;have q0:w6.cell? ⟨bb,0,none⟩=some (.int .i64 (x.row:Nat)):=cell_of_row _ _ 0 _ 184 (0,0) HQ6.out;have q1:w6.cell? ⟨bb,1,none⟩=some (.int .i64 (x.f:Nat)):=cell_of_row _ _ 1 _ 184 (0,0) HQ6.out;have q2:w6.cell? ⟨bb,2,none⟩=some (.int .i64 (x.bin:Nat)):=cell_of_row _ _ 2 _ 184 (0,0) HQ6.out;have h1:=HMF.out w6 _ _ X x HE6.out (by omega);go_wp2_with fail
   refine h1.mono ?_;clear h1;rintro e w7 ⟨rfl,hb7⟩;have HE7:Hid (ExS w w7 db sb r3 vK vB vX kvs bvs Ks bs X):=HE6.out.below hb7;have HQ7:Hid (w7.heap[bb]? =some (.cells #[.int .i64 (x.row:Nat),.int .i64 (x.f:Nat),.int .i64 (x.bin:Nat)] 184 (0,0))):=(hb7.block _ (Qb HQ6.out).1).trans HQ6.out;clear hb7 HE6 HQ6 q0 q1 q2
   cases hmf:Zae X x with
   | false=>
    have HE:Hid (exK D0 n l2 m=none):=HNO.out (by rw[HNE.out,hmf];rfl);have HT:Hid (Za (fun k=>k=sb∨k=db) w w7):=HE7.out.t;clear HNE HNO HE7 HQ7 hmf;go_wp2;go_ret;show ExE _ _ _ _ _ _ _ _ _ _ (exK D0 n l2 m) _;rw[HE.out];exact⟨rfl,HT.out⟩
   |true=>
   have HMT:Hid (Zae X x=true):=hmf;have HNE2:Hid (exK D0 n l2 (i+1)=if Y2 D0 n x=true then some (X++[x],r3) else none):=(by show _=_;rw[HNE.out,hmf];rfl);clear HNE hmf;have q0:w7.cell? ⟨bb,0,none⟩=some (.int .i64 (x.row:Nat)):=cell_of_row _ _ 0 _ 184 (0,0) HQ7.out;have q1:w7.cell? ⟨bb,1,none⟩=some (.int .i64 (x.f:Nat)):=cell_of_row _ _ 1 _ 184 (0,0) HQ7.out;have q2:w7.cell? ⟨bb,2,none⟩=some (.int .i64 (x.bin:Nat)):=cell_of_row _ _ 2 _ 184 (0,0) HQ7.out;have h1:=HME.out w7 _ _ X x HE7.out;go_wp2_with fail
   refine h1.mono ?_;clear h1;rintro e w8 ⟨rfl,hb8⟩;have HE8:Hid (ExS w w8 db sb r3 vK vB vX kvs bvs Ks bs X):=HE7.out.below hb8;have HQ8:Hid (w8.heap[bb]? =some (.cells #[.int .i64 (x.row:Nat),.int .i64 (x.f:Nat),.int .i64 (x.bin:Nat)] 184 (0,0))):=(hb8.block _ (Qb HQ7.out).1).trans HQ7.out;clear hb8 HE7 HQ7 q0 q1 q2;generalize Y2 D0 n x=mx at *
   cases mx with
   | false=>
    have HE:Hid (exK D0 n l2 m=none):=HNO.out (by rw[HNE2.out];rfl);have HT:Hid (Za (fun k=>k=sb∨k=db) w w8):=HE8.out.t;clear HNE2 HNO HE8 HQ8;go_wp2;go_ret;show ExE _ _ _ _ _ _ _ _ _ _ (exK D0 n l2 m) _;rw[HE.out];exact⟨rfl,HT.out⟩
   |true=>
   have HE:Hid (exK D0 n l2 (i+1)=some (X++[x],r3)):=(by show _=_;rw[HNE2.out];rfl);clear HNE2 HNO;have q0:w8.cell? ⟨bb,0,none⟩=some (.int .i64 (x.row:Nat)):=cell_of_row _ _ 0 _ 184 (0,0) HQ8.out;have q1:w8.cell? ⟨bb,1,none⟩=some (.int .i64 (x.f:Nat)):=cell_of_row _ _ 1 _ 184 (0,0) HQ8.out;have q2:w8.cell? ⟨bb,2,none⟩=some (.int .i64 (x.bin:Nat)):=cell_of_row _ _ 2 _ 184 (0,0) HQ8.out;obtain⟨ba,bc,hvX⟩:=HE8.out.made.ds.xn.shape;subst hvX;have d2:=HE8.out.c2;go_upto_region 6 with fail;refine Zr (fun w'=>w'.cell? ⟨db,2,none⟩=some (.slice ba X.length bc)/\w'.cell? ⟨bb,0,none⟩=some (.int .i64 (x.row:Nat))/\w'.cell? ⟨bb,1,none⟩=some (.int .i64 (x.f:Nat))/\w'.cell? ⟨bb,2,none⟩=some (.int .i64 (x.bin:Nat))) 10 (by kernel_rfl) ⟨d2,q0,q1,q2⟩ (fun hHeld=>?_);refine Zo 0 ?_;refine Zo 1 ?_
   refine Zo 2 ?_;refine Zo 3 ?_;refine Zo 4 ?_;refine Zo 5 ?_;refine Ze (i:=6) (by kernel_rfl) rfl (fun KK hK=>?_);go_simp;have HB9:Hid (∀o,ExS w (w8.alloc o) db sb r3 vK vB (.slice ba X.length bc) kvs bvs Ks bs X/\(w8.alloc o).heap[bb]? =some (.cells #[.int .i64 (x.row:Nat),.int .i64 (x.f:Nat),.int .i64 (x.bin:Nat)] 184 (0,0))):=fun o=>⟨HE8.out.below ((Below.refl _ _).alloc (Qa _) _),(((Below.refl _ _).alloc (Qa _) _).block _ (Qb HQ8.out).1).trans HQ8.out⟩;refine hK.out _ _ ⟨(HB9.out _).1.c2,cell_of_row _ _ 0 _ 184 (0,0) (HB9.out _).2,cell_of_row _ _ 1 _ 184 (0,0) (HB9.out _).2,cell_of_row _ _ 2 _ 184 (0,0) (HB9.out _).2⟩ (fun hHeld=>?_);clear hK KK;try simp only[Act.put,tA,tB,tC]
   refine Ze (i:=7) (by kernel_rfl) rfl (fun KK hK=>?_);have hB9:=(HB9.out (.cells #[.int .i64 (x.row:Nat),.int .i64 (x.f:Nat),.int .i64 (x.bin:Nat)] 184)).1.below (Below.refl _ _).drew;refine Zw rfl (.tmp 31) (.tmp 33) 166 rfl 0 184 i0 (.agg #[.int .i64 0,.int .i64 0,.int .i64 0]) 3 24 Tryz.underlying166 hinf hz0 hz1 hz2 rfl (by decide) (.slice ba X.length bc) X.length (QW X) (by simp[Act.eval]) hB9.made.ds.xn ⟨w8.heap.size,0,none⟩ 1 1 (Ql x) (by simp[Act.eval]) rfl ?_ ?_ (by decide) (by unfold maxLen;omega) (by omega) (Qg _) ?_;exact Zu w8 #[.int .i64 (x.row:Nat),.int .i64 (x.f:Nat),.int .i64 (x.bin:Nat)] 184
   ·intro u hu;simp[Ql] at hu;rcases hu with rfl|rfl|rfl<;>rfl
   intro v6 w6 H6;obtain⟨r6,g6,d6,_,q6,p6,hv6⟩:=H6.out
   have HBN:Hid (ExS w (w6.setCell ⟨db,2,none⟩ v6) db sb r3 vK vB v6 kvs bvs Ks bs (X++[x])):=hB9.more HMT.out g6 r6 (by
    rcases d6 with e|e
    exact .inl e
    exact .inr e.1)
   have t6:Za (fun k=>(Value.slice ba X.length bc).ownBlock=some k) (w8.alloc (.cells #[.int .i64 (x.row:Nat),.int .i64 (x.f:Nat),.int .i64 (x.bin:Nat)] 184)).drew w6:=(Za.refl _ _).grown g6 (fun k hx _=>hx);have hblk6:=t6.at_ hB9.made.ds.blk ((TyS.own hB9.made.ds.xn).at hB9.made.ds.blk (by decide));have c6:w6.cell? ⟨db,2,none⟩=some (.slice ba X.length bc):=cell_of_row _ _ 2 _ 168 (0,0) hblk6;have f6:w6.frozen? ⟨db,2,none⟩=false:=frozen_of_row _ _ 2 _ 168 hblk6;have hQ6:w6.heap[bb]? =some (.cells #[.int .i64 (x.row:Nat),.int .i64 (x.f:Nat),.int .i64 (x.bin:Nat)] 184 (0,0)):=t6.at_ (show(w8.alloc (.cells #[.int .i64 (x.row:Nat),.int .i64 (x.f:Nat),.int .i64 (x.bin:Nat)] 184)).drew.heap[bb]? =_ from(HB9.out (.cells #[.int .i64 (x.row:Nat),.int .i64 (x.f:Nat),.int .i64 (x.bin:Nat)] 184)).2) HBB.out.1
   have s0:w6.cell? ⟨bb,0,none⟩=some (.int .i64 (x.row:Nat)):=cell_of_row _ _ 0 _ 184 (0,0) hQ6;have s1:w6.cell? ⟨bb,1,none⟩=some (.int .i64 (x.f:Nat)):=cell_of_row _ _ 1 _ 184 (0,0) hQ6;have s2:w6.cell? ⟨bb,2,none⟩=some (.int .i64 (x.bin:Nat)):=cell_of_row _ _ 2 _ 184 (0,0) hQ6;subst hv6;clear H6 r6 g6 d6 hB9 t6 hblk6 hQ6 HB9 HE8 HQ8;refine hK.out _ _ ⟨c6,s0,s1,s2⟩ (fun hHeld=>?_);clear hK KK;try simp only[Act.put,tA,tB,tC]
   refine Zo 8 ?_;refine Zo 9 ?_;refine Zl (i:=10) (by kernel_rfl) rfl (by kernel_rfl) (fun KK hK=>?_);go_simp;refine hK.out _ _ ?_;clear hK KK;try simp only[Act.put,tA,tB,tC]
   refine Zn (by kernel_rfl) ?_ _;go_wp2;go_roundw;case rel=>exact⟨i+1,_,_,_,by go_num,by omega,by simp;omega,HE,HBN⟩
   case measure=>simp[intOf];omega
  have hni:¬(i:Int)<(m:Int):=(by omega);have hii:i=m:=(by omega);subst hii;go_wp2;go_ret;show ExE _ _ _ _ _ _ _ _ _ _ (exK D0 n l2 i) _;rw[HEK.out];exact⟨rfl,vX,HEX.out⟩
end Go.Proofs.YtfcgnpchbcmdeaaGreat
namespace Go.Proofs.YtfcgnpchbcmdeaaGreat
set_option linter.unusedSimpArgs false
set_option maxRecDepth 100000
set_option maxHeartbeats 16000000
open Go.RowKit
theorem Zbw.mem{n:Nat}{D:YY}(_:Zbw n D){i:Nat}(hi:i<D.bs.length):D.bs.getD i ZB∈D.bs:=by rw[Qc,Qd hi];exact Qf _
theorem Zi1(db f row n:Nat)(vK vB vX:Value)(kvs bvs:List (Value×Value))(X:List XS)(D:YY)(w:World)(h:Y7 w db vK vB vX kvs bvs X D)(hd:Zbw n D)(hf:f<D.ks.length)(hr:row<n):Calls Tryz.prog 78 #[.pointer (some ⟨db,0,none⟩),.int .i64 (row:Nat),.int .i64 (f:Nat)] w fun e w'=>e=.returned (.int .i64 (Zey D X f (Zv D f) (QX D f) row:Nat))/\Below w.heap.size w w':=by
 have hs:=hd.seat hf;have hbm:=hd.mem hs.hb;have hbo:=hd.bok _ hbm;have hg:=hd.g40 _ hbm;have hrl:row<(D.bs.getD (Zv D f) ZB).N.length:=by rw[hbo.len];exact hr
 have hNg:(D.bs.getD (Zv D f) ZB).N.getD row 0<=(D.bs.getD (Zv D f) ZB).g:=(by rw[Qc,Qd hrl];exact hbo.le _ (Qf _));have hxl:X.length<=1000000:=(by rw[h.perm.length_eq];have:=hd.xl;omega);have hoff:Y6 D (Zv D f) (QX D f)<=100000:=(by have h1:=Zjq D.ks ((D.bs.getD (Zv D f) ZB).fs.take (QX D f)) (fun x hx=>Nat.le_trans (hd.mn x (hd.fk _ hbm x (List.mem_of_mem_take hx))) (by decide));have h2:=hd.f4 _ hbm;have h3:((D.bs.getD (Zv D f) ZB).fs.take (QX D f)).length<=(D.bs.getD (Zv D f) ZB).fs.length:=(by rw[List.length_take];omega);unfold Y6;omega);have hn2:=hd.n2;have hbl:D.bs.length<=1000:=(by have:=hd.b4;omega);obtain⟨_,hcol⟩:=h.ds.bn.each (Zv D f) hs.hb
 rcases hcol with⟨_,p,e,sb,vc,e2,_,hX⟩|⟨_,p,e,dd,q,e2,_,hX⟩
 subst e2;refine ZhG db f _ _ row sb vK vB vX kvs bvs X D w h hs hbl hxl (by omega) hoff e (fun W hW=>?_);have hX':ZfJ W 0 sb (D.bs.getD (Zv D f) ZB).N.length (Lib.bitLen (D.bs.getD (Zv D f) ZB).g) vc (Yh (D.bs.getD (Zv D f) ZB).N (D.bs.getD (Zv D f) ZB).N.length):=⟨(hW.block _ (Qb hX.blk).1).trans hX.blk,(Za.of_below (S:=fun _=>False) hW).row hX.row (fun _ _=>id)⟩;exact Zcn sb _ _ row vc _ W hX' hrl (by rw[hbo.len];omega);subst e2;have hb6:Lib.bitLen (D.bs.getD (Zv D f) ZB).g<=6:=Zaj (by omega);have hN2:(D.bs.getD (Zv D f) ZB).N.getD row 0<2^Lib.bitLen (D.bs.getD (Zv D f) ZB).g:=Nat.lt_of_le_of_lt hNg (ZeR (by omega));refine Zjf db f _ _ row dd vK vB vX kvs bvs X D w h hs hbl hxl (by omega) hoff e (fun W hW=>?_)
 have hmul:row*Lib.bitLen (D.bs.getD (Zv D f) ZB).g+Lib.bitLen (D.bs.getD (Zv D f) ZB).g<=(D.bs.getD (Zv D f) ZB).N.length*Lib.bitLen (D.bs.getD (Zv D f) ZB).g:=by rw[<- Nat.succ_mul];exact Nat.mul_le_mul_right _ hrl
 have hmul2:(D.bs.getD (Zv D f) ZB).N.length*Lib.bitLen (D.bs.getD (Zv D f) ZB).g<=200*6:=Nat.mul_le_mul (by rw[hbo.len];exact hn2) hb6;have hX':Zal W 0 dd q (D.bs.getD (Zv D f) ZB).N.length (Lib.bitLen (D.bs.getD (Zv D f) ZB).g) (ZO (YD (D.bs.getD (Zv D f) ZB).N (Lib.bitLen (D.bs.getD (Zv D f) ZB).g)) (((D.bs.getD (Zv D f) ZB).N.length*Lib.bitLen (D.bs.getD (Zv D f) ZB).g+7)/8) ((D.bs.getD (Zv D f) ZB).N.length*Lib.bitLen (D.bs.getD (Zv D f) ZB).g)):=⟨(hW.block _ (Qb hX.blk).1).trans hX.blk,(Za.of_below (S:=fun _=>False) hW).row hX.row (fun _ _=>id)⟩;have h1:=ZaN dd q _ _ _ _ row _ W hX' (fun t=>Zbi _ _ t) hb6 hmul (by omega) (by omega);rw[Zh3 _ hN2] at h1;exact h1
theorem Zj8(gb db f row m n budget:Nat)(es:List ES)(Bb:List (List Nat))(w:World)(h:YL w gb db (ZH m n budget es Bb))(hm:m+1<=4)(hn:n<=200)(hk:ZdE m n es Bb)(hf:f<m+1)(hr:row<n):Calls Tryz.prog 44 #[.pointer (some ⟨gb,0,none⟩),.int .i64 (row:Nat),.int .i64 (f:Nat)] w fun e w'=>e=.returned (.tuple #[.int .i64 ((Bb.getD f []).getD row 0:Nat),.int .i64 0])/\Below w.heap.size w w':=by
 have hd:=Zb5 (budget:=budget) hm hn hk;have hkl:(ZH m n budget es Bb).ks.length=m+1:=(by rw[show(ZH m n budget es Bb).ks=_ from Zam _ _ _ _ _];exact YJ es Bb (m+1));have hN0:((ZH m n budget es Bb).bs.getD 0 ZB).N.length=n:=(hd.bok _ (hd.mem hd.b0)).len;refine Zfo gb db f row _ _ w h hd.b0 (by rw[hkl];omega) (by rw[hN0];exact hr) (by rw[hN0];omega) (by rw[hkl];exact hf) (fun W hW=>?_);obtain⟨vK,vB,vX,kvs,bvs,X,hX⟩:=hW.md;have h1:=Zi1 db f row n vK vB vX kvs bvs X _ W hX hd (by rw[hkl];exact hf) hr;rw[Zpx hm hn hk hX.perm hf hr] at h1;exact h1
theorem ZlK(gb db n:Nat)(D:YY)(w:World)(h:YL w gb db D)(hd:Zbw n D):Calls Tryz.prog 26 #[.pointer (some ⟨gb,0,none⟩)] w fun e w'=>e=.returned (.int .i64 (n:Nat))/\Below w.heap.size w w':=by have h1:=ZnQ gb db D w h hd.b0;rw[(hd.bok _ (hd.mem hd.b0)).len] at h1;exact h1
theorem ZhB(gb db n:Nat)(D:YY)(w:World)(h:YL w gb db D)(hd:Zbw n D):Calls Tryz.prog 55 #[.pointer (some ⟨gb,0,none⟩)] w fun e w'=>Zre w D e w':=
 Zi7 gb db D w h hd.b0 (by have:=hd.b4;omega) (fun i hi=>⟨hd.f0 _ (hd.mem hi),by have:=hd.f4 _ (hd.mem hi);omega⟩)
theorem Zi6(gb db f n:Nat)(D:YY)(w:World)(h:YL w gb db D)(hd:Zbw n D)(hf:f<D.ks.length):Calls Tryz.prog 27 #[.pointer (some ⟨gb,0,none⟩),.int .i64 (f:Nat)] w fun e w'=>Zrc w (D.ks.getD f Zq).e e w':=
 Zj7 gb db f D w h (by have:=hd.k4;omega) hf (hd.edg f hf).lb (hd.edg f hf).lw
def ZW(L:List Int):Prop:=∀b∈L,0<=b/\b<256
theorem ZW.nil:ZW []:=by intro b hb;simp at hb
theorem ZW.append{A B:List Int}(a:ZW A)(b:ZW B):ZW (A++B):=fun x hx=>by
 rcases List.mem_append.1 hx with h|h
 exact a x h;exact b x h
theorem ZW.cons{x:Int}{A:List Int}(h1:0<=x/\x<256)(a:ZW A):ZW (x::A):=fun y hy=>by
 rcases List.mem_cons.1 hy with rfl|h
 exact h1;exact a y h
theorem ZW.flat{α:Type}{f:α->List Int}{L:List α}(h:∀x∈L,ZW (f x)):ZW (L.flatMap f):=fun y hy=>by obtain⟨x,hx,hy⟩:=List.mem_flatMap.1 hy;exact h x hx y hy
theorem QK(x:Int):0<=x%256/\x%256<256:=by omega
theorem Zf2(n:Int):∀j,ZW (YV n j)
 |0=>ZW.nil
 |j+1=>by unfold YV;exact(Zf2 n j).append (ZW.cons (QK _) ZW.nil)
theorem Znx(b:ByteArray):ZW (Zb b):=fun x hx=>by unfold Zb at hx;obtain⟨u,_,rfl⟩:=List.mem_map.1 hx;have:=u.toNat_lt;omega
theorem ZpJ{f:Nat->Nat}(hf:∀t,f t<=1)(nb T:Nat):ZW (ZO f nb T):=fun x hx=>by unfold ZO at hx;obtain⟨j,_,rfl⟩:=List.mem_map.1 hx;have:=Zgk hf T j;omega
theorem Zp2(L:List (Nat×Nat)):∀k,ZW (spK L k)
 |0=>by unfold spK;exact ZW.nil
 |k+1=>by unfold spK;exact(Zp2 L k).append (ZW.cons (QK _) (ZW.cons (QK _) ZW.nil))
theorem Zqu(N:List Nat)(g:Nat):ZW (ZbY N g):=by unfold ZbY;split;unfold Zg7;exact ZW.append (ZW.cons (by omega) (ZW.cons (QK _) ZW.nil)) (Zp2 _ _);exact ZW.cons (by omega) (ZpJ (fun t=>Zbi _ _ t) _ _)
theorem Zrj(fs:List Nat):ZW (byN fs):=fun x hx=>by unfold byN at hx;obtain⟨j,_,rfl⟩:=List.mem_map.1 hx;exact QK _
theorem Zqp(b:BS):ZW (YP b):=by unfold YP;exact(ZW.append (ZW.cons (QK _) ZW.nil) (Zrj _)).append (Zqu _ _)
theorem Zrw(k:KS):ZW (knA k):=by unfold knA;split;unfold ZhF ZbV;exact ZW.append (ZW.cons (by omega) (ZW.cons (QK _) (ZW.cons (QK _) ZW.nil))) (ZW.flat (fun s _=>ZW.cons (QK _) (Znx s)));unfold knB Zbj;exact ZW.append (ZW.cons (by omega) (ZW.cons (QK _) (ZW.cons (QK _) ZW.nil))) (ZW.flat (fun s _=>Zf2 s 4))
theorem Zsl(x:XS):ZW (xB x):=ZW.cons (QK _) (ZW.cons (QK _) (ZW.cons (QK _) ZW.nil))
theorem Zji(D:YY)(X:List XS):ZW (Zat D X):=by unfold Zat;refine ZW.append (ZW.append (ZW.append (ZW.append (ZW.append ?_ (ZW.flat fun k _=>Zrw k)) ?_) (ZW.flat fun b _=>Zqp b)) (Zf2 _ _)) (ZW.flat fun x _=>Zsl x);exact ZW.cons (by omega) (ZW.cons (by omega) (ZW.cons (QK _) (ZW.cons (QK _) ZW.nil)));exact ZW.cons (QK _) ZW.nil
theorem Zbw.bun{n:Nat}{D:YY}(h:Zbw n D):∀b∈D.bs,Zf7 b:=fun b hb=>by
 have h1:=h.bok b hb;have h2:=h.g40 b hb;have h3:=h.f4 b hb;have h4:=h.n2;have h5:=h.k4;have hb6:Lib.bitLen b.g<=6:=Zaj (by omega);have hmul:b.N.length*Lib.bitLen b.g<=200*6:=Nat.mul_le_mul (by rw[h1.len];exact h4) hb6;have hsl:=Zdk b.N b.N.length;have hpl:=QT (YD b.N (Lib.bitLen b.g)) ((b.N.length*Lib.bitLen b.g+7)/8) (b.N.length*Lib.bitLen b.g);have hNl:=h1.len;refine⟨by omega,fun f hf=>by have:=h.fk b hb f hf;omega,⟨by omega,fun x hx=>?_⟩,by omega,?_⟩;obtain⟨a1,a2,_⟩:=(Zcl _ _ x).1 hx;refine⟨by omega,?_⟩;rw[a2,Qc,Qd a1];have:=h1.le _ (Qf a1);simp only[Option.getD_some];omega
 unfold YP;rw[Qe,Qe];have hby:(byN b.fs).length=b.fs.length:=by simp[byN]
 have hcb:(ZbY b.N b.g).length<=1000:=(by unfold ZbY;split;unfold Zg7;rw[Qe,Zdl];simp;omega;rw[List.length_cons,hpl];omega);rw[hby];simp;omega
theorem Zfn(gb db n:Nat)(D:YY)(w:World)(h:YL w gb db D)(hd:Zbw n D)(hkn:∀K∈D.ks,Zdq K)(X:List XS)(hX:X.Perm D.xs)(hs:Qj X):Calls Tryz.prog 34 #[.pointer (some ⟨gb,0,none⟩)] w fun e w'=>e=.returned (.string (strOfNums (ZU D X)))/\Below w.heap.size w w':=by obtain⟨vK,vB,vX,kvs,bvs,Y,hY⟩:=h.md;obtain rfl:X=Y:=Zmk hd.keys hX hs hY.perm hY.sorted;exact ZgA gb db vK vB vX kvs bvs X D w h.gp hY hd.b0 hkn hd.k4 hd.bun hd.b4 (by rw[hX.length_eq];have:=hd.xl;omega) (Zji D X)
end Go.Proofs.YtfcgnpchbcmdeaaGreat
namespace Go.Proofs.YtfcgnpchbcmdeaaGreat
set_option linter.unusedSimpArgs false
set_option maxRecDepth 100000
set_option maxHeartbeats 16000000
open Go.RowKit Go.Lib Go.Sort
def ByI(l:List Int):Prop:=∀x∈l,0<=x/\x<=255
section
variable {l:List Int}
theorem ByI.tail(h:ByI l):ByI l.tail:=fun x hx=>h x (List.mem_of_mem_tail hx)
theorem ByI.drop(h:ByI l)(k:Nat):ByI (l.drop k):=fun x hx=>h x (List.mem_of_mem_drop hx)
theorem ByI.restW(h:ByI l):∀k,ByI (restW l k)
 |0=>h
 |k+1=>((ByI.restW h k).tail).drop _
theorem ByI.rdR(h:ByI l):ByI (rdR l):=by unfold Go.Proofs.YtfcgnpchbcmdeaaGreat.rdR;split;exact(h.drop 3).restW _;exact(h.drop 3).drop _
theorem ByI.lstR(h:ByI l):ByI (lstR l):=h.tail.drop _
theorem ByI.rdColR(h:ByI l)(n g:Nat):ByI (rdColR l n g):=by unfold Go.Proofs.YtfcgnpchbcmdeaaGreat.rdColR;split;exact h.tail.tail.drop _;exact h.tail.drop _
theorem ByI.lstK(h:ByI l):∀f∈lstK l,0<=f:=fun f hf=>by obtain⟨j,_,rfl⟩:=List.mem_map.1 hf;exact(Qu h.tail j).1
end
structure KOk(K:KS):Prop where
 kn:Zdq K
 cn:K.e.cnt<=16
 mb:Zd7 K.e=true
 hd:K.d<K.e.cnt+2
theorem Zqb{ws:List ByteArray}(h:Ye ws=true):∀s∈ws,s.size<=8:=fun s hs=>by
 unfold Ye Zax at h;rw[List.all_eq_true] at h;obtain⟨i,hi,rfl⟩:=List.getElem_of_mem hs;have h1:=h i (List.mem_range.2 hi);rw[Bool.and_eq_true] at h1;have h2:=h1.1;rw[Qc,Qd hi,Option.getD_some] at h2;unfold Q9 at h2;rw[Bool.and_eq_true] at h2
 simpa using h2.2
theorem Zr7{l:List Int}(hb:ByI l)(h:(Zd7 (Q3 l)&&ZaV (Q3 l) (rdD l:Nat))=true):KOk ⟨Q3 l,rdD l⟩:=by rw[Bool.and_eq_true] at h;have hm:=h.1;have h2:=h.2;have hc:(Q3 l).cnt<=16/\Ye (Q3 l).ww=true:=(by unfold Zd7 at hm;simp only[Bool.and_eq_true,decide_eq_true_eq] at hm;exact⟨hm.1.1,hm.2⟩);have hb2:=Qu hb 2;refine⟨?_,hc.1,hm,?_⟩;unfold Zdq;simp only;have hw:=Zqb hc.2;unfold Q3 at hw ⊢;split;rename_i h9;rw[if_pos h9] at hw;exact .inr ⟨rfl,rfl,by rw[Zdo];omega,hw⟩;refine .inl ⟨rfl,rfl,by rw[Zdh];omega,fun x hx=>?_⟩;obtain⟨j,_,rfl⟩:=List.mem_map.1 hx;have:=Znh ((l.drop 3).drop (4*j));omega;unfold ZaV at h2;simp only[decide_eq_true_eq] at h2;show rdD l<(Q3 l).cnt+2;omega
theorem ZlJ{l:List Int}(hb:ByI l):∀(k:Nat) (Ks:List KS) (r:List Int),fsK l k=some (Ks,r)->Ks.length=k/\(∀K∈Ks,KOk K)/\ByI r
 |0,Ks,r,h=>by simp only[fsK,Option.some.injEq,Prod.mk.injEq] at h;rw[<- h.1,<- h.2];exact⟨rfl,by simp,hb⟩
 | k + 1,Ks,r,h=>by
  cases hk:fsK l k with
  |none=>simp only[fsK,hk] at h;cases h
  | some p=>
   obtain⟨K0,r0⟩:=p;obtain⟨h1,h2,h3⟩:=ZlJ hb k K0 r0 hk;simp only[fsK,hk] at h
   by_cases hc:(Zd7 (Q3 r0)&&ZaV (Q3 r0) (rdD r0:Nat))=true
   ·rw[if_pos hc] at h;simp only[Option.some.injEq,Prod.mk.injEq] at h;rw[<- h.1,<- h.2];refine⟨by simp[h1],fun K hK=>?_,h3.rdR⟩
    rcases List.mem_append.1 hK with h4|h4
    exact h2 K h4;simp only[List.mem_cons,List.not_mem_nil,or_false] at h4;rw[h4];exact Zr7 h3 hc
   rw[if_neg hc] at h
   cases h
theorem ZgD(a:List Int)(i j:Nat)(v:Int)(hi:i<a.length):(a.set i v).getD j 0=if i=j then v else a.getD j 0:=by
 rw[Qc,Qc,List.getElem?_set]
 by_cases h:i=j
 subst h;simp[hi];simp[h]
theorem ZiA{fs st:List Int}(h:∀f∈fs,0<=f/\f<st.length)(g:Nat):∀k,k<=fs.length->(YA fs st k).getD g 0=st.getD g 0+(((fs.take k).map Int.toNat).count g:Nat)
 |0,_=>by simp[YA]
 | k+1,hk=>by
  have hlt:k<fs.length:=(by omega);have hm:fs.getD k 0∈fs:=(by rw[Qc,Qd hlt];exact Qf _);have hf:=h _ hm;have ih:=ZiA h g k (by omega);have hT:fs.take (k+1)=fs.take k++[fs.getD k 0]:=(by rw[Qi hlt];simp[List.getD,hlt]);simp only[YA];rw[ZgD _ _ _ _ (by rw[Zfb];omega),hT,List.map_append,List.count_append];have hcs:(List.map Int.toNat [fs.getD k 0]).count g=if(fs.getD k 0).toNat=g then 1 else 0:=(by show List.count g [_]=_;rw[List.count_singleton];simp only[beq_iff_eq]);rw[hcs]
  by_cases e:(fs.getD k 0).toNat=g
  rw[if_pos e,if_pos e,e,ih];omega;rw[if_neg e,if_neg e,ih];omega
theorem Zgh(Ks:List KS)(fs:List Int):Yf Ks fs=Qp Ks (fs.map Int.toNat):=by unfold Yf Qp;rw[List.map_map];rfl
structure ZrR(Ks:List KS)(n:Nat)(b:BS):Prop where
 len:b.N.length=n
 le:∀x∈b.N,x<=255
 g40:b.g<=40
 f0:0<b.fs.length
 fk:∀f∈b.fs,f<Ks.length
 sum:b.g=Qp Ks b.fs
 col:Yj Ks (ZD b.fs) (atN b.N b.g)=true
theorem ZiP{Ks:List KS}{n:Nat}{l:List Int}(hb:ByI l):∀(k:Nat) (bs:List BS) (st r:List Int),bdK Ks n l k=some (bs,st,r)->bs.length=k/\st.length=Ks.length/\(∀b∈bs,ZrR Ks n b)/\(∀g,st.getD g 0=((bs.flatMap (·.fs)).count g:Nat))/\ByI r
 |0,bs,st,r,h=>by simp only[bdK,Option.some.injEq,Prod.mk.injEq] at h;rw[<- h.1,<- h.2.1,<- h.2.2];refine⟨rfl,by simp,by simp,fun g=>?_,hb⟩;simp only[List.flatMap_nil,List.count_nil];rw[Qc,List.getElem?_replicate];split<;>rfl
 | k + 1,bs,st,r,h=>by
  cases hk:bdK Ks n l k with
  |none=>simp only[bdK,hk] at h;cases h
  | some p=>
   obtain⟨b0,s0,r0⟩:=p;obtain⟨h1,h2,h3,h4,h5⟩:=ZiP hb k b0 s0 r0 hk;simp only[bdK,hk] at h
   by_cases hc:(Zd6 Ks (lstK r0)&&Yj Ks (lstK r0) (atN (QB (lstR r0) n (Yf Ks (lstK r0))) (Yf Ks (lstK r0))))=true
   ·rw[if_pos hc] at h;simp only[Option.some.injEq,Prod.mk.injEq] at h;rw[<- h.1,<- h.2.1,<- h.2.2];rw[Bool.and_eq_true] at hc;have hl:=hc.1;unfold Zd6 at hl;simp only[Bool.and_eq_true,decide_eq_true_eq,List.all_eq_true] at hl;have hnn:=h5.lstK;have hin:∀f∈lstK r0,0<=f/\f<Ks.length:=fun f hf=>⟨hnn f hf,hl.1 f hf⟩;have hg:Yf Ks (lstK r0)<64:=(by omega);refine⟨by simp[h1],by rw[Zfb];exact h2,fun b hbm=>?_,fun g=>?_,h5.lstR.rdColR _ _⟩
    ·rcases List.mem_append.1 hbm with h6|h6
     exact h3 b h6;simp only[List.mem_cons,List.not_mem_nil,or_false] at h6;subst h6;refine⟨Ze8 h5.lstR n hg,fun x hx=>?_,hl.2.2,by simpa using hl.2.1,fun f hf=>?_,Zgh _ _,by simp only;rw[Zna hnn];exact hc.2⟩;unfold QB at hx;obtain⟨y,hy,rfl⟩:=List.mem_map.1 hx;have:=(Zdj h5.lstR n hg).2 y hy;omega;obtain⟨y,hy,rfl⟩:=List.mem_map.1 hf;have:=hin y hy;omega
    rw[ZiA (fun f hf=>by rw[h2];exact hin f hf) g _ (Qa _),h4 g,List.flatMap_append,List.count_append,List.take_length];simp
   rw[if_neg hc] at h
   cases h
theorem Zfm:∀(bs:List BS),(∀b∈bs,0<b.fs.length)->bs.length<=(bs.flatMap (·.fs)).length/\∀b∈bs,b.fs.length<=(bs.flatMap (·.fs)).length
 |[],_=>by simp
 | b::bs,h=>by
  obtain⟨h1,h2⟩:=Zfm bs (fun x hx=>h x (by simp[hx]));have h0:=h b (by simp);simp only[List.flatMap_cons,Qe,List.length_cons];refine⟨by omega,fun x hx=>?_⟩
  rcases List.mem_cons.1 hx with rfl|hx
  omega;have:=h2 x hx;omega
structure ZrW(Ks:List KS)(bs:List BS):Prop where
 all:∀f,f<Ks.length->∃b∈bs,f∈b.fs
 b4:bs.length<=Ks.length
 f4:∀b∈bs,b.fs.length<=Ks.length
theorem ZkQ{Ks:List KS}{bs:List BS}{st:List Int}(hl:st.length=Ks.length)(hf0:∀b∈bs,0<b.fs.length)(hfk:∀b∈bs,∀f∈b.fs,f<Ks.length)(ho:∀g,st.getD g 0=((bs.flatMap (·.fs)).count g:Nat))(h1:Ys st=true):ZrW Ks bs:=by
 unfold Ys at h1;simp only[List.all_eq_true,decide_eq_true_eq] at h1
 have hc:∀f,f<Ks.length->(bs.flatMap (·.fs)).count f=1:=fun f hf=>by have h2:=ho f;have h3:st.getD f 0=1:=h1 _ (by rw[Qc,Qd (by omega)];exact Qf _);omega
 have hp:(bs.flatMap (·.fs)).Perm (List.range Ks.length):=by
  rw[List.perm_iff_count];intro a;rw[List.nodup_range.count]
  by_cases ha:a<Ks.length
  rw[hc a ha,if_pos (List.mem_range.2 ha)];rw[if_neg (fun h=>ha (List.mem_range.1 h)),List.count_eq_zero];intro hm;obtain⟨b,hb,hm⟩:=List.mem_flatMap.1 hm;exact ha (hfk b hb a hm)
 have hlen:=hp.length_eq;rw[List.length_range] at hlen;obtain⟨h2,h3⟩:=Zfm bs hf0;refine⟨fun f hf=>?_,by omega,fun b hb=>by have:=h3 b hb;omega⟩;have:f∈bs.flatMap (·.fs):=hp.mem_iff.2 (List.mem_range.2 hf);exact List.mem_flatMap.1 this
structure ZrY(D:YY)(n:Nat)(X:List XS):Prop where
 each:∀x∈X,Y2 D n x=true
 len:∀x∈X.getLast?,X.length<=x.row*4+x.f+1
theorem Zdf{D:YY}{n:Nat}{x:XS}(h:Y2 D n x=true):x.row<n/\x.f<D.ks.length/\x.bin<(D.ks.getD x.f Zq).e.cnt+2:=by unfold Y2 at h;simp only[Bool.and_eq_true,decide_eq_true_eq] at h;refine⟨h.1,h.2.1,?_⟩;have h1:=h.2.2.1;unfold Zdy ZaV at h1;simp only[Bool.and_eq_true,decide_eq_true_eq] at h1;omega
theorem Zpg{D:YY}{n:Nat}{l:List Int}(h4:D.ks.length<=4):∀(k:Nat) (X:List XS) (r:List Int),exK D n l k=some (X,r)->X.length=k/\r=l.drop (3*k)/\ZrY D n X
 |0,X,r,h=>by simp only[exK,Option.some.injEq,Prod.mk.injEq] at h;rw[<- h.1,<- h.2];exact⟨rfl,by simp,by simp,by simp⟩
 | k + 1,X,r,h=>by
  cases hk:exK D n l k with
  |none=>simp only[exK,hk] at h;cases h
  | some p=>
   obtain⟨X0,r0⟩:=p;obtain⟨h1,h2,h3⟩:=Zpg h4 k X0 r0 hk;simp only[exK,hk] at h
   by_cases hc:(Zae X0 (rdX r0)&&Y2 D n (rdX r0))=true
   ·rw[if_pos hc] at h;simp only[Option.some.injEq,Prod.mk.injEq] at h;rw[<- h.1,<- h.2];rw[Bool.and_eq_true] at hc;generalize rdX r0=x at *;have hin:=Zdf hc.2;refine⟨by simp[h1],by rw[h2,List.drop_drop];congr 1,fun y hy=>?_,fun y hy=>?_⟩
    ·rcases List.mem_append.1 hy with h6|h6
     exact h3.each y h6;simp only[List.mem_cons,List.not_mem_nil,or_false] at h6;rw[h6];exact hc.2
    simp only[List.getLast?_append,List.getLast?_singleton,Option.some_or,Option.mem_def,Option.some.injEq] at hy;subst hy;rw[Qe,List.length_singleton]
    by_cases h0:X0.length=0
    omega;have hf:=hc.1;unfold Zae at hf;rw[decide_eq_false h0,Bool.false_or,decide_eq_true_eq] at hf;have hl:=ltX (X0.getD (X0.length-1) QD) x
    have hlt:(X0.getD (X0.length-1) QD).row<x.row∨(X0.getD (X0.length-1) QD).row=x.row/\(X0.getD (X0.length-1) QD).f<x.f:=by
     have h7:ltOf Za5 (X0.getD (X0.length-1) QD) x=true:=by unfold ltOf;simpa using hf
     rw[hl] at h7
     simpa using h7
    have hg:X0.getLast? =some (X0.getD (X0.length-1) QD):=(by rw[List.getLast?_eq_getElem?,Qc,Qd (by omega)];rfl);have h8:=h3.len _ hg;have h9:=Zdf (h3.each _ (List.mem_of_getLast? hg));omega
   rw[if_neg hc] at h
   cases h
end Go.Proofs.YtfcgnpchbcmdeaaGreat
namespace Go.Proofs.YtfcgnpchbcmdeaaGreat
set_option linter.unusedSimpArgs false
set_option maxRecDepth 100000
set_option maxHeartbeats 16000000
open Go.RowKit
def Zcu(l:List Int):Option (YY×List Int):=
 if 200<(l.getD 2 0).toNat∨(l.getD 3 0).toNat<1∨4<(l.getD 3 0).toNat then none
 else match fsK (l.drop 4) (l.getD 3 0).toNat with
 |none=>none
 | some (Ks,r)=>match bdK Ks (l.getD 2 0).toNat r.tail (r.headD 0).toNat with
  |none=>none
  | some (bs,st,r2)=>if Ys st=true then match exK ⟨Ks,bs,[]⟩ (l.getD 2 0).toNat (r2.drop 2) (ZaW r2 2) with
    |none=>none
    |some (X,r3)=>some (⟨Ks,bs,X⟩,r3)
   else none
def RdP(w w':World)(db sb:Nat)(o:Option (YY×List Int))(e:Ending):Prop:=match o with
 |none=>e=.returned (.bool false)/\Za (fun k=>k=sb∨k=db) w w'
 |some (D,_)=>e=.returned (.bool true)/\(∃vK vB vX kvs bvs,Y7 w' db vK vB vX kvs bvs D.xs D)/\Za (fun k=>k=sb∨k=db) w w'
theorem Za.both{w w1 w2:World}{db sb:Nat}(a:Za (fun k=>k=sb) w w1)(b:Za (fun k=>k=sb∨k=db) w1 w2):Za (fun k=>k=sb∨k=db) w w2:=(a.mono (fun _ _ e=>.inl e)).trans b
theorem ZpQ(db sb:Nat)(l:List Int)(w:World)(h:ZM w sb l)(hd:w.heap[db]? =some (.cells #[.slice none 0 0,.slice none 0 0,.slice none 0 0] 168 (0,0)))(hne:db≠sb):Calls Tryz.prog 99 #[.pointer (some ⟨db,0,none⟩),.pointer (some ⟨sb,0,none⟩)] w fun e w'=>RdP w w' db sb (Zcu l) e:=by
 have hb:=h.byte;have HBY:Hid (ByI l):=hb;have y2:=Qu hb 2;have y3:=Qu hb 3;have HTX:Hid (Calls Tryz.prog 164 #[.pointer (some ⟨sb,0,none⟩),.int .i64 2] w fun e w'=>(∃T,e=.returned (.string T)/\Zb T=l.take 2)/\ZM w' sb (l.drop 2)/\Za (fun k=>k=sb) w w'):=Zfz sb 2 l w h;have HNX:Hid (∀(W:World) (l:List Int),ZM W sb l->Calls Tryz.prog 165 #[.pointer (some ⟨sb,0,none⟩)] W fun e w'=>e=.returned (.int .i64 (l.headD 0))/\ZM w' sb l.tail/\Za (fun k=>k=sb) W w'):=fun W l hS=>YF sb l W hS;obtain⟨n,hn⟩:∃n:Nat,l.getD 2 0=(n:Int):=⟨(l.getD 2 0).toNat,by omega⟩;obtain⟨c,hc⟩:∃c:Nat,l.getD 3 0=(c:Int):=⟨(l.getD 3 0).toNat,by omega⟩
 have HN:Hid ((l.drop 2).headD 0=(n:Int)/\(l.drop 2).tail=l.drop 3/\(l.drop 3).headD 0=(c:Int)/\(l.drop 3).tail=l.drop 4):=⟨by rw[ZS];exact hn,Zag _ _,by rw[ZS];exact hc,Zag _ _⟩
 have HRD:Hid (Zcu l=if 200<n∨c<1∨4<c then none else match fsK (l.drop 4) c with
  |none=>none
  | some (Ks,r)=>match bdK Ks n r.tail (r.headD 0).toNat with
   |none=>none
   | some (bs,st,r2)=>if Ys st=true then match exK ⟨Ks,bs,[]⟩ n (r2.drop 2) (ZaW r2 2) with
     |none=>none
     |some (X,r3)=>some (⟨Ks,bs,X⟩,r3)
    else none):=by show _=_;unfold Zcu;rw[hn,hc,Int.toNat_natCast,Int.toNat_natCast]
 have HD:Hid (∀W,Za (fun k=>k=sb) w W->W.heap[db]? =some (.cells #[.slice none 0 0,.slice none 0 0,.slice none 0 0] 168 (0,0))):=fun W t=>t.at_ hd hne;have hc2:c<=255:=(by omega);have hn2:n<=255:=(by omega);clear h hd hb y2 y3 hn hc hne;generalize Zcu l=R at *;go_enter Tryz.func99,Tryz.ntmps99;go_wp2_with fail
 refine HTX.out.mono ?_;rintro e w1 ⟨⟨T,rfl,_⟩,hs1,ht1⟩;have HT1:Hid (Za (fun k=>k=sb) w w1):=ht1;have h1:=HNX.out w1 _ hs1;rw[HN.out.1,HN.out.2.1] at h1;clear hs1 ht1 HTX;go_wp2_with fail
 refine h1.mono ?_;clear h1;rintro e w2 ⟨rfl,hs2,ht2⟩;have HT2:Hid (Za (fun k=>k=sb) w w2):=HT1.out.trans ht2;have h1:=HNX.out w2 _ hs2;rw[HN.out.2.2.1,HN.out.2.2.2] at h1;clear hs2 ht2 HT1;go_wp2_with fail
 refine h1.mono ?_;clear h1;rintro e w3 ⟨rfl,hs3,ht3⟩;have HT3:Hid (Za (fun k=>k=sb) w w3):=HT2.out.trans ht3;have HS3:Hid (ZM w3 sb (l.drop 4)):=hs3;clear hs3 ht3 HT2 HN HNX
 by_cases hg1:200<n
 ·have g1:(200:Int)<(n:Int):=(by omega);have HR:Hid (R=none):=(by show _=_;rw[HRD.out,if_pos (.inl hg1)]);clear HRD;go_wp2;go_ret;show RdP _ _ _ _ R _;rw[HR.out];exact⟨rfl,HT3.out.mono (fun _ _ e=>.inl e)⟩
 have g1:¬(200:Int)<(n:Int):=by omega
 by_cases hg2:c<1
 ·have g2:(c:Int)<(1:Int):=(by omega);have HR:Hid (R=none):=(by show _=_;rw[HRD.out,if_pos (.inr (.inl hg2))]);clear HRD;go_wp2;go_ret;show RdP _ _ _ _ R _;rw[HR.out];exact⟨rfl,HT3.out.mono (fun _ _ e=>.inl e)⟩
 have g2:¬(c:Int)<(1:Int):=by omega
 by_cases hg3:4<c
 ·have g3:(4:Int)<(c:Int):=(by omega);have HR:Hid (R=none):=(by show _=_;rw[HRD.out,if_pos (.inr (.inr hg3))]);clear HRD;go_wp2;go_ret;show RdP _ _ _ _ R _;rw[HR.out];exact⟨rfl,HT3.out.mono (fun _ _ e=>.inl e)⟩
 have g3:¬(4:Int)<(c:Int):=(by omega);have hF:=Ze9 db sb c (l.drop 4) w3 HS3.out (HD.out w3 HT3.out) (by omega);go_wp2_with fail
 refine hF.mono ?_;clear hF;intro e w4 hF
 cases hfs:fsK (l.drop 4) c with
 | none=>
  rw[hfs] at hF;obtain⟨rfl,ht4⟩:=hF;have HR:Hid (R=none):=(by show _=_;rw[HRD.out,if_neg (by omega),hfs]);have HT4:Hid (Za (fun k=>k=sb∨k=db) w w4):=HT3.out.both ht4;clear HRD ht4 hfs;go_wp2;go_ret;show RdP _ _ _ _ R _;rw[HR.out];exact⟨rfl,HT4.out⟩
 |some p=>
 obtain⟨Ks,r⟩:=p;rw[hfs] at hF;obtain⟨rfl,vK,kvs,hF⟩:=hF;obtain⟨hkl,hko,hbr⟩:=ZlJ (HBY.out.drop 4) c Ks r hfs
 have HRD2:Hid (R=match bdK Ks n r.tail (r.headD 0).toNat with
   |none=>none
   | some (bs,st,r2)=>if Ys st=true then match exK ⟨Ks,bs,[]⟩ n (r2.drop 2) (ZaW r2 2) with
     |none=>none
     |some (X,r3)=>some (⟨Ks,bs,X⟩,r3)
    else none):=by show _=_;rw[HRD.out,if_neg (by omega),hfs]
 have HT4:Hid (Za (fun k=>k=sb∨k=db) w w4):=HT3.out.both hF.t;have HKO:Hid ((∀K∈Ks,KOk K)/\ByI r/\Ks.length=c):=⟨hko,hbr,hkl⟩;have hB:=ZfR db sb n r vK kvs Ks w4 hF.src hF.blk hF.kn (by omega) (fun K hK=>(hko K hK).cn) (by omega);clear HRD hfs hF hkl hko hbr HS3 HT3;go_wp2_with fail
 refine hB.mono ?_;clear hB;intro e w5 hB
 cases hbd:bdK Ks n r.tail (r.headD 0).toNat with
 | none=>
  rw[hbd] at hB;obtain⟨rfl,ht5⟩:=hB;have HR:Hid (R=none):=(by show _=_;rw[HRD2.out,hbd]);have HT5:Hid (Za (fun k=>k=sb∨k=db) w w5):=HT4.out.trans ht5;clear HRD2 ht5 hbd;go_wp2;go_ret;show RdP _ _ _ _ R _;rw[HR.out];exact⟨rfl,HT5.out⟩
 |some p=>
 obtain⟨bs,st,r2⟩:=p;rw[hbd] at hB;obtain⟨rfl,vB,bvs,hB⟩:=hB;obtain⟨hbl,hsl,hbo,hoc,hb2⟩:=ZiP HKO.out.2.1.tail _ bs st r2 hbd;have HT5:Hid (Za (fun k=>k=sb∨k=db) w w5):=HT4.out.trans hB.t
 cases ho:Ys st with
 | false=>
  have HR:Hid (R=none):=(by show _=_;rw[HRD2.out,hbd];simp only[ho];rfl);clear HRD2 hbd hB hoc hbl hsl hbo hb2 ho;go_wp2;go_ret;show RdP _ _ _ _ R _;rw[HR.out];exact⟨rfl,HT5.out⟩
 |true=>
 have hse:=ZkQ hsl (fun b hb=>(hbo b hb).f0) (fun b hb=>(hbo b hb).fk) hoc ho
 have HRD3:Hid (R=match exK ⟨Ks,bs,[]⟩ n (r2.drop 2) (ZaW r2 2) with
     |none=>none
     |some (X,r3)=>some (⟨Ks,bs,X⟩,r3)):=by show _=_;rw[HRD2.out,hbd];simp only[ho];rfl
 have hkl:=HKO.out.2.2;have hk0:0<Ks.length:=by omega
 have hE:=Zea db sb n r2 vK vB kvs bvs Ks bs w5 hB.src ⟨⟨hB.blk,hB.bn,World.ownsRow_nil _ _ _ _⟩,hB.kn,List.Perm.refl _,List.Pairwise.nil⟩ (by
   obtain⟨b,hb,_⟩:=hse.all 0 hk0
   exact List.length_pos_of_mem hb) (by have:=hse.b4;omega) (by omega) (fun b hb=>(hbo b hb).len) (fun b hb=>by have:=(hbo b hb).g40;omega) (fun K hK=>(HKO.out.1 K hK).cn) hk0
   (fun f hf=>Zng (D:=⟨Ks,bs,[]⟩) (hse.all f hf) (fun b hb=>by have:=hse.f4 b hb;omega) (fun b hb=>(hbo b hb).fk) (fun i hi=>by
    have:=(HKO.out.1 (Ks.getD i Zq) (by rw[Qc,Qd hi];exact Qf _)).cn;show(Ks.getD i Zq).e.cnt+2<=100
    omega))
 clear HRD2 hbd hB hoc hbl hsl hbo hb2 ho hse hk0;go_wp2_with fail
 refine hE.mono ?_;clear hE;intro e w6 hE
 cases hex:exK ⟨Ks,bs,[]⟩ n (r2.drop 2) (ZaW r2 2) with
 | none=>
  rw[hex] at hE;obtain⟨rfl,ht6⟩:=hE;have HR:Hid (R=none):=(by show _=_;rw[HRD3.out,hex]);have HT6:Hid (Za (fun k=>k=sb∨k=db) w w6):=HT5.out.trans ht6;clear HRD3 ht6 hex;go_wp2;go_ret;show RdP _ _ _ _ R _;rw[HR.out];exact⟨rfl,HT6.out⟩
 | some p=>
  obtain⟨X,r3⟩:=p;rw[hex] at hE;obtain⟨rfl,vX,hE⟩:=hE;have HR:Hid (R=some (⟨Ks,bs,X⟩,r3)):=(by show _=_;rw[HRD3.out,hex]);have HT6:Hid (Za (fun k=>k=sb∨k=db) w w6):=HT5.out.trans hE.t;have HM6:Hid (Y7 w6 db vK vB vX kvs bvs X ⟨Ks,bs,X⟩):=hE.made;clear HRD3 hE hex;go_wp2;go_ret;show RdP _ _ _ _ R _;rw[HR.out];exact⟨rfl,⟨vK,vB,vX,kvs,bvs,HM6.out⟩,HT6.out⟩
structure ZjH(D:YY)(n:Nat):Prop where
 n2:n<=200
 k0:0<D.ks.length
 k4:D.ks.length<=4
 ks:∀K∈D.ks,KOk K
 bo:∀b∈D.bs,ZrR D.ks n b
 se:ZrW D.ks D.bs
 xo:ZrY ⟨D.ks,D.bs,[]⟩ n D.xs
theorem ZpN{l r:List Int}{D:YY}(hb:ByI l)(h:Zcu l=some (D,r)):ZjH D (l.getD 2 0).toNat:=by
 unfold Zcu at h
 by_cases hg:200<(l.getD 2 0).toNat∨(l.getD 3 0).toNat<1∨4<(l.getD 3 0).toNat
 rw[if_pos hg] at h;cases h;rw[if_neg hg] at h
 cases hf:fsK (l.drop 4) (l.getD 3 0).toNat with
 |none=>simp only[hf] at h;cases h
 | some p=>
  obtain⟨Ks,r1⟩:=p;simp only[hf] at h;obtain⟨hkl,hko,hbr⟩:=ZlJ (hb.drop 4) _ Ks r1 hf
  cases hbd:bdK Ks (l.getD 2 0).toNat r1.tail (r1.headD 0).toNat with
  |none=>simp only[hbd] at h;cases h
  | some p=>
   obtain⟨bs,st,r2⟩:=p;simp only[hbd] at h;obtain⟨hbl,hsl,hbo,hoc,hb2⟩:=ZiP hbr.tail _ bs st r2 hbd
   cases ho:Ys st with
   |false=>simp only[ho] at h;cases h
   | true=>
    simp only[ho,if_true] at h;have hse:=ZkQ hsl (fun b hb=>(hbo b hb).f0) (fun b hb=>(hbo b hb).fk) hoc ho
    cases hex:exK ⟨Ks,bs,[]⟩ (l.getD 2 0).toNat (r2.drop 2) (ZaW r2 2) with
    |none=>simp only[hex] at h;cases h
    | some p=>
     obtain⟨X,r3⟩:=p;simp only[hex,Option.some.injEq,Prod.mk.injEq] at h;obtain⟨_,_,hx⟩:=Zpg (D:=⟨Ks,bs,[]⟩) (show Ks.length<=4 by omega) _ X r3 hex;rw[<- h.1];exact⟨by omega,by show 0<Ks.length;omega,by show Ks.length<=4;omega,hko,hbo,hse,hx⟩
theorem ZjH.b0{D:YY}{n:Nat}(h:ZjH D n):0<D.bs.length:=by obtain⟨b,hb,_⟩:=h.se.all 0 h.k0;exact List.length_pos_of_mem hb
theorem ZjH.xl{D:YY}{n:Nat}(h:ZjH D n):D.xs.length<=800:=by
 cases hg:D.xs.getLast? with
 |none=>rw[List.getLast?_eq_none_iff] at hg;rw[hg];simp
 | some x=>
  have h1:=h.xo.len x hg;have h2:=Zdf (h.xo.each x (List.mem_of_getLast? hg));have h3:=h.n2;have h4:=h.k4;simp only at h2;omega
theorem ZjH.bun{D:YY}{n:Nat}(h:ZjH D n):∀b∈D.bs,Zf7 b:=fun b hb=>by
 have h1:=h.bo b hb;have h2:=h1.g40;have h3:=h.se.f4 b hb;have h4:=h.n2;have h5:=h.k4;have hb6:Lib.bitLen b.g<=6:=Zaj (by omega);have hmul:b.N.length*Lib.bitLen b.g<=200*6:=Nat.mul_le_mul (by rw[h1.len];exact h4) hb6;have hsl:=Zdk b.N b.N.length;have hpl:=QT (YD b.N (Lib.bitLen b.g)) ((b.N.length*Lib.bitLen b.g+7)/8) (b.N.length*Lib.bitLen b.g);have hNl:=h1.len;refine⟨by omega,fun f hf=>by have:=h1.fk f hf;omega,⟨by omega,fun x hx=>?_⟩,by omega,?_⟩;obtain⟨a1,a2,_⟩:=(Zcl _ _ x).1 hx;refine⟨by omega,?_⟩;rw[a2,Qc,Qd a1];have:=h1.le _ (Qf a1);simp only[Option.getD_some];omega
 unfold YP;rw[Qe,Qe];have hby:(byN b.fs).length=b.fs.length:=by simp[byN]
 have hcb:(ZbY b.N b.g).length<=1000:=(by unfold ZbY;split;unfold Zg7;rw[Qe,Zdl];simp;omega;rw[List.length_cons,hpl];omega);rw[hby];simp;omega
theorem Zsd{x s:ByteArray}(h:¬x=s):(x.toList==s.toList)=false:=by
 rw[beq_eq_false_iff_ne,Lib.toList_data,Lib.toList_data];intro e;apply h
 cases x;cases s
 simp at e;rw[e]
def opD(l:List Int):Option YY:=match Zcu l with
 |none=>none
 |some (D,_)=>if ZU D D.xs=l then some D else none
def Zfh(w:World)(db:Nat)(D:YY):Prop:=∃vK vB vX kvs bvs,Y7 w db vK vB vX kvs bvs D.xs D
theorem Zfh.below{w w':World}{db:Nat}{D:YY}(h:Zfh w db D)(hb:Below w.heap.size w w'):Zfh w' db D:=by obtain⟨vK,vB,vX,kvs,bvs,h⟩:=h;exact⟨vK,vB,vX,kvs,bvs,h.ds.below hb,h.kn.below hb,h.perm,h.sorted⟩
def OpE(w w':World)(o:Option YY)(e:Ending):Prop:=match o with
 |none=>e=.returned (.tuple #[.pointer none,.bool false])/\Below w.heap.size w w'
 |some D=>∃db,e=.returned (.tuple #[.pointer (some ⟨db,0,none⟩),.bool true])/\Zfh w' db D/\Below w.heap.size w w'
theorem Zkn(n:Int):∀j,ByI (YV n j):=fun j x hx=>by have:=Zf2 n j x hx;omega
theorem ZdZ(D:YY)(X:List XS):ByI (ZU D X):=fun x hx=>by
 unfold ZU at hx
 rcases List.mem_append.1 hx with h|h
 have:=Zji D X x h;omega;exact Zkn _ _ x h
theorem Zcb{l:List Int}(h:ByI l):Zb (strOfNums l)=l:=by
 unfold Zb strOfNums;simp only[List.map_map]
 conv=>rhs;rw[<- List.map_id l]
 refine List.map_congr_left fun x hx=>?_;have:=h x hx;simp only[Function.comp,UInt8.toNat_ofNat',id];omega
theorem Zp3{l:List Int}{S:ByteArray}(h:ByI l):strOfNums l=S↔l=Zb S:=
 ⟨fun e=>by rw[<- e,Zcb h],fun e=>by rw[e,ZbI]⟩
theorem ZlB(S:ByteArray)(w:World)(hS:S.size<=140737488355328):Calls Tryz.prog 59 #[.string S] w fun e w'=>OpE w w' (opD (Zb S)) e:=by
 obtain⟨db,hdb⟩:∃db,db=w.heap.size:=⟨_,rfl⟩;obtain⟨w1,hw1⟩:∃w1,w1=w.alloc (.cells #[.slice none 0 0,.slice none 0 0,.slice none 0 0] 168):=⟨_,rfl⟩;obtain⟨w2,hw2⟩:∃w2,w2=w1.alloc (.cells #[.string S] 180):=⟨_,rfl⟩;obtain⟨sb,hsb⟩:∃sb,sb=w1.heap.size:=⟨_,rfl⟩;have hb1:Below w.heap.size w w1:=(by rw[hw1];exact(Below.refl _ _).alloc (Qa _) _);have hk1:w1.heap[db]? =some (.cells #[.slice none 0 0,.slice none 0 0,.slice none 0 0] 168 (0,0)):=(by rw[hw1,hdb];exact heap_alloc_new _ _);have hb2:Below w1.heap.size w1 w2:=(by rw[hw2];exact(Below.refl _ _).alloc (Qa _) _);have hs2:ZM w2 sb (Zb S):=⟨S,by rw[hw2,hsb];exact heap_alloc_new _ _,rfl,hS⟩;have hl1:=(Qb hk1).1;have hB2:Below w.heap.size w w2:=hb1.trans (hb2.mono hb1.size)
 have hR:=ZpQ db sb (Zb S) w2 hs2 ((hb2.block _ hl1).trans hk1) (by omega);have HT:Hid (∀W,Za (fun k=>k=sb∨k=db) w2 W->Below w.heap.size w W):=fun W t=>hB2.trans (t.to_below hB2.size (fun q hq=>by have:=hb1.size;omega));have hby:ByI (Zb S):=hs2.byte
 have HO:Hid (opD (Zb S)=match Zcu (Zb S) with
  |none=>none
  |some (D,_)=>if ZU D D.xs=Zb S then some D else none):=rfl
 have HOK:Hid (∀D r,Zcu (Zb S)=some (D,r)->ZjH D ((Zb S).getD 2 0).toNat):=fun D r h=>ZpN hby h;generalize opD (Zb S)=R at *;generalize Zcu (Zb S)=RD at *;rw[hdb] at hR;have hsb2:sb=w.heap.size+1:=by rw[hsb,hw1];simp
 clear hb1 hk1 hb2 hs2 hl1 hB2 hby
 go_enter Tryz.func59,Tryz.ntmps59;go_wp2_with fail
 rw[<- hw1,<- hw2,<- hsb2];refine hR.mono ?_;clear hR;intro e w3 hR
 cases RD with
 | none=>
  obtain⟨rfl,ht⟩:=hR;have HR:Hid (R=none):=HO.out;have HB:Hid (Below w.heap.size w w3):=HT.out w3 (by rw[hdb];exact ht);clear HO HOK ht;go_wp2;go_ret2
  show OpE _ _ R _;rw[HR.out];exact⟨rfl,HB.out⟩
 | some p=>
  obtain⟨D,r⟩:=p;obtain⟨rfl,⟨vK,vB,vX,kvs,bvs,hM⟩,ht⟩:=hR;have hok:=HOK.out D r rfl;have HB3:Hid (Below w.heap.size w w3):=HT.out w3 (by rw[hdb];exact ht);have HM:Hid (Y7 w3 w.heap.size vK vB vX kvs bvs D.xs D):=hM;have hBy:=Zh6 w.heap.size vK vB vX kvs bvs D.xs D w3 hM hok.b0 (fun K hK=>(hok.ks K hK).kn) hok.k4 hok.bun (by have:=hok.se.b4;have:=hok.k4;omega) (by have:=hok.xl;omega) (Zji D D.xs);have HEQ:Hid (strOfNums (ZU D D.xs)=S↔ZU D D.xs=Zb S):=Zp3 (ZdZ D D.xs);have HR:Hid (R=if ZU D D.xs=Zb S then some D else none):=HO.out;clear hM ht HO HOK hok;generalize strOfNums (ZU D D.xs)=S2 at *;go_wp2_with fail
  refine hBy.mono ?_;clear hBy;rintro e w4 ⟨rfl,hb4⟩;have HB4:Hid (Below w.heap.size w w4):=HB3.out.trans (hb4.mono HB3.out.size);have HM4:Hid (Zfh w4 w.heap.size D):=Zfh.below ⟨vK,vB,vX,kvs,bvs,HM.out⟩ hb4;clear hb4 HB3 HM
  by_cases hE:S2=S
  ·have HR2:Hid (R=some D):=(by show _=_;rw[HR.out,if_pos (HEQ.out.1 hE)]);subst hE;clear HR HEQ;go_wp2;go_ret2
   show OpE _ _ R _;rw[HR2.out];exact⟨_,rfl,HM4.out,HB4.out⟩
  have HR2:Hid (R=none):=(by show _=_;rw[HR.out,if_neg (fun h=>hE (HEQ.out.2 h))]);have e1:(S2.toList==S.toList)=false:=Zsd hE;clear HR HEQ;go_wp2;go_ret2
  show OpE _ _ R _;rw[HR2.out];exact⟨rfl,HB4.out⟩
structure Zrg(w:World)(gb db:Nat)(D:YY):Prop where
 gp:w.heap[gb]? =some (.cells #[.pointer (some ⟨db,0,none⟩)] 110 (0,0))
 md:Zfh w db D
theorem Zrg.out{w:World}{gb db:Nat}{D:YY}(h:Zrg w gb db D):YL w gb db D:=by obtain⟨hg,vK,vB,vX,kvs,bvs,h⟩:=h;exact⟨hg,vK,vB,vX,kvs,bvs,D.xs,h⟩
def OpG(w w':World)(o:Option YY)(e:Ending):Prop:=match o with
 |none=>e=.returned (.tuple #[.pointer none,.int .i64 2])/\Below w.heap.size w w'
 |some D=>∃gb db,e=.returned (.tuple #[.pointer (some ⟨gb,0,none⟩),.int .i64 0])/\Zrg w' gb db D/\Below w.heap.size w w'
theorem ZnP(S:ByteArray)(w:World)(hS:S.size<=140737488355328):Calls Tryz.prog 33 #[.string S] w fun e w'=>OpG w w' (opD (Zb S)) e:=by
 have hR:=ZlB S w hS;generalize opD (Zb S)=R at *;go_enter Tryz.func33,Tryz.ntmps33;go_wp2_with fail
 refine hR.mono ?_;clear hR;intro e w1 hR
 cases R with
 | none=>
  obtain⟨rfl,hb⟩:=hR;have HB:Hid (Below w.heap.size w w1):=hb;clear hb;go_wp2;go_ret2
  exact⟨rfl,HB.out⟩
 | some D=>
  obtain⟨db,rfl,hm,hb⟩:=hR;have HB:Hid (Below w.heap.size w w1/\Zfh w1 db D):=⟨hb,hm⟩;clear hb hm;go_wp2;go_ret2
  refine⟨w1.heap.size,db,rfl,⟨heap_alloc_new _ _,?_⟩,HB.out.1.alloc HB.out.1.size _⟩;exact HB.out.2.below ((Below.refl _ _).alloc (Qa _) _)
theorem Zr3(z:Int):YV z 4=[z%256,z/256%256,z/256/256%256,z/256/256/256%256]:=rfl
theorem Zq3{z:Int}(h1: -2147483648<=z)(h2:z<=2147483647)(r:List Int):ZcW (YV z 4++r)=z:=by rw[Zr3];unfold ZcW;simp only[ZaW,List.cons_append,List.nil_append,List.getD_cons_zero,List.getD_cons_succ,Nat.mul_zero,Nat.pow_zero,Nat.mul_one,Nat.reduceMul,Nat.reducePow,Nat.zero_add];simp[IntKind.wrap,IntKind.bits,IntKind.signed];omega
theorem ZsB{n:Nat}(h:n<65536)(r:List Int):ZaW (YV (n:Nat) 2++r) 2=n/\(YV (n:Nat) 2++r).drop 2=r:=by refine⟨?_,rfl⟩;show ZaW ([(n:Int)%256,(n:Int)/256%256]++r) 2=n;simp only[ZaW,List.cons_append,List.nil_append,List.getD_cons_zero,List.getD_cons_succ,Nat.mul_zero,Nat.pow_zero,Nat.mul_one,Nat.reducePow,Nat.zero_add];omega
theorem Zh4(b:Int)(bs r:List Int):Zbj (b::bs)++r=YV b 4++(Zbj bs++r):=by unfold Zbj;rw[List.flatMap_cons,List.append_assoc]
theorem ZiI(s:ByteArray)(ws:List ByteArray)(r:List Int):ZbV (s::ws)++r=((s.size:Nat):Int)%256::Zb s++(ZbV ws++r):=by unfold ZbV;rw[List.flatMap_cons,List.append_assoc]
theorem ZeS(r:List Int):∀(bs:List Int) (j:Nat),j<=bs.length->(Zbj bs++r).drop (4*j)=Zbj (bs.drop j)++r
 |_,0,_=>rfl
 |[],j+1,h=>by simp at h
 |b::bs,j+1,h=>by rw[Zh4,show 4*(j+1)=4+4*j by omega,<- List.drop_drop,List.drop_left' (Zbp b 4),List.drop_succ_cons];exact ZeS r bs j (by simpa using h)
theorem Zn9{bs:List Int}(h:∀z∈bs,-2147483648<=z/\z<=2147483647)(r:List Int):ZaB (Zbj bs++r) bs.length=bs:=by unfold ZaB;apply List.ext_getElem;simp;intro j h1 h2;rw[List.getElem_map,List.getElem_range,ZeS r bs j (by omega),List.drop_eq_getElem_cons h2];rw[Zh4];have:=h _ (Qf h2);exact Zq3 this.1 this.2 _
theorem Zir{s:ByteArray}(h:s.size<256)(r:List Int):Ziq (((s.size:Nat):Int)%256::Zb s++r)=r/\ZdU (((s.size:Nat):Int)%256::Zb s++r)=s:=by have e:((((s.size:Nat):Int)%256::Zb s++r).headD 0).toNat=s.size:=(by show((((s.size:Nat):Int)%256)).toNat=s.size;omega);constructor;unfold Ziq;rw[e];exact List.drop_left' (ZY s);unfold ZdU;rw[e];show strOfNums ((Zb s++r).take s.size)=s;rw[List.take_left' (ZY s),ZbI]
theorem Zfa(r:List Int):∀(k:Nat) (ws:List ByteArray),(∀s∈ws,s.size<256)->k<=ws.length->restW (ZbV ws++r) k=ZbV (ws.drop k)++r
 |0,_,_,_=>rfl
 |k+1,ws,h,hk=>by have hlt:k<ws.length:=(by omega);simp only[restW];rw[Zfa r k ws h (by omega),List.drop_eq_getElem_cons hlt];rw[ZiI];exact(Zir (h _ (Qf hlt)) _).1
theorem ZoH{ws:List ByteArray}(h:∀s∈ws,s.size<256)(r:List Int):Zaz (ZbV ws++r) ws.length=ws:=by unfold Zaz;apply List.ext_getElem;simp;intro j h1 h2;rw[List.getElem_map,List.getElem_range,Zfa r j ws h (by omega),List.drop_eq_getElem_cons h2];rw[ZiI];exact(Zir (h _ (Qf h2)) _).2
structure KRt(K:KS):Prop where
 ok:KOk K
 num:∀z∈K.e.bs,-2147483648<=z/\z<=2147483647
theorem Zr6{K:KS}(h:KRt K)(r:List Int):Q3 (knA K++r)=K.e/\rdD (knA K++r)=K.d/\rdR (knA K++r)=r:=by
 have hd:=h.ok.hd;have hc:=h.ok.cn;obtain⟨e,d⟩:=K;obtain⟨wd,bs,ww⟩:=e;have hk:=h.ok.kn;have hn:=h.num;unfold Zdq at hk;simp only at hk hd hc hn
 rcases hk with⟨h1,h2,h3,_⟩|⟨h1,h2,h3,h4⟩
 subst h1 h2;have hcn:(⟨false,bs,[]⟩:ES).cnt=bs.length:=rfl;rw[hcn] at hc hd;have e0:knA ⟨⟨false,bs,[]⟩,d⟩++r=110::((d:Nat):Int)%256::((bs.length:Nat):Int)%256::(Zbj bs++r):=(by unfold knA knB;simp[hcn]);rw[e0];have en:((((bs.length:Nat):Int)%256)).toNat=bs.length:=(by omega);refine⟨?_,?_,?_⟩;unfold Q3;rw[if_neg (by simp)];show(⟨false,ZaB (Zbj bs++r) ((((bs.length:Nat):Int)%256)).toNat,[]⟩:ES)=_;rw[en,Zn9 hn];show((((d:Nat):Int)%256)).toNat=d;omega;unfold rdR;rw[if_neg (by simp)];show(Zbj bs++r).drop (4*((((bs.length:Nat):Int)%256)).toNat)=r;rw[en,ZeS r bs _ (Qa _),List.drop_length];rfl
 subst h1 h2;have hcn:(⟨true,[],ww⟩:ES).cnt=ww.length:=rfl;rw[hcn] at hc hd;have e0:knA ⟨⟨true,[],ww⟩,d⟩++r=119::((d:Nat):Int)%256::((ww.length:Nat):Int)%256::(ZbV ww++r):=by unfold knA ZhF;simp[hcn]
 rw[e0];have en:((((ww.length:Nat):Int)%256)).toNat=ww.length:=by omega
 have h8:∀s∈ww,s.size<256:=fun s hs=>by have:=h4 s hs;omega
 refine⟨?_,?_,?_⟩;unfold Q3;rw[if_pos (by simp)];show(⟨true,[],Zaz (ZbV ww++r) ((((ww.length:Nat):Int)%256)).toNat⟩:ES)=_;rw[en,ZoH h8];show((((d:Nat):Int)%256)).toNat=d;omega;unfold rdR;rw[if_pos (by simp)];show restW (ZbV ww++r) ((((ww.length:Nat):Int)%256)).toNat=r;rw[en,Zfa r _ ww h8 (Qa _),List.drop_length];rfl
theorem ZmY{Ks:List KS}(h:∀K∈Ks,KRt K)(r:List Int):∀j,j<=Ks.length->fsK (Ks.flatMap knA++r) j=some (Ks.take j,(Ks.drop j).flatMap knA++r)
 |0,_=>by simp[fsK]
 | j +1,hj=>by
  have hlt:j<Ks.length:=(by omega);have hK:=h _ (Qf hlt);simp only[fsK];rw[ZmY h r j (by omega)];have e:(Ks.drop j).flatMap knA++r=knA Ks[j]++((Ks.drop (j+1)).flatMap knA++r):=(by rw[List.drop_eq_getElem_cons hlt,List.flatMap_cons,List.append_assoc]);simp only;rw[e];obtain⟨e1,e2,e3⟩:=Zr6 hK ((Ks.drop (j+1)).flatMap knA++r)
  rw[e1,e2,e3,if_pos (by
   rw[hK.ok.mb,Bool.true_and];unfold ZaV;rw[decide_eq_true_eq];have:=hK.ok.hd
   omega),Qi hlt]
end Go.Proofs.YtfcgnpchbcmdeaaGreat
