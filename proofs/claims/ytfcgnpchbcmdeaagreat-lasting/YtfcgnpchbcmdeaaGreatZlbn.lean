import Derived.Test.YtfcgnpchbcmdeaaGreatZlbl
import Derived.Test.YtfcgnpchbcmdeaaGreatZlbm
import Derived.Test.YtfcgnpchbcmdeaaGreatZlaf
import Derived.Test.YtfcgnpchbcmdeaaGreatZlbh
import Derived.Test.YtfcgnpchbcmdeaaGreatZlbg
import Derived.Test.YtfcgnpchbcmdeaaGreatZlbb
namespace Go.Proofs.YtfcgnpchbcmdeaaGreat
set_option linter.unusedSimpArgs false
set_option maxRecDepth 100000
set_option maxHeartbeats 16000000
open Go.RowKit
def Q6(X:List XS)(x:XS):Bool:=decide (X.length=0)||decide (ZdA (X.getD (X.length-1) x0S) x<0)
theorem ZhV(db:Nat)(vK vB vX:Value)(bvs:List (Value×Value))(bs:List BS)(X:List XS)(x:XS)(w:World)(h:DsX w db vK vB vX bvs bs X)(hl:X.length<=1000000):Calls Tryz.prog 234 #[.pointer (some ⟨db,0,none⟩),.agg #[.int .i64 (x.row:Nat),.int .i64 (x.f:Nat),.int .i64 (x.bin:Nat)]] w fun e w'=>e=.returned (.bool (Q6 X x))/\Below w.heap.size w w':=by
 obtain⟨xa,xc,hvX⟩:=h.xn.shape;subst hvX;have d2:w.cell? ⟨db,2,none⟩=some (.slice xa X.length xc):=cell_of_row _ _ 2 _ 168 (0,0) h.blk;have hdl:db<w.heap.size:=(Qb h.blk).1;have HXN:Hid (ZbK w 0 (.slice xa X.length xc) X):=h.xn;have HC:Hid (∀(y:XS) (W:World),Calls Tryz.prog 148 #[.agg #[.int .i64 (y.row:Nat),.int .i64 (y.f:Nat),.int .i64 (y.bin:Nat)],.agg #[.int .i64 (x.row:Nat),.int .i64 (x.f:Nat),.int .i64 (x.bin:Nat)]] W fun e w'=>e=.returned (.int .i64 (ZdA y x))/\Below W.heap.size W w'):=fun y W=>(ZaV y x W).mono (fun _ _ h=>⟨h.1,h.2.below⟩);have HM:Hid (Q6 X x=(decide (X.length=0)||decide (ZdA (X.getD (X.length-1) x0S) x<0))):=rfl;clear h;generalize Q6 X x=R at *
 obtain⟨w0,hw0⟩:∃w0,w0=w.alloc (.cells #[.int .i64 (x.row:Nat),.int .i64 (x.f:Nat),.int .i64 (x.bin:Nat)] 184):=⟨_,rfl⟩;have hX0:w0.heap[w.heap.size]? =some (.cells #[.int .i64 (x.row:Nat),.int .i64 (x.f:Nat),.int .i64 (x.bin:Nat)] 184 (0,0)):=(by rw[hw0];exact heap_alloc_new w _);have HB0:Hid (Below w.heap.size w w0):=(by show Below _ _ _;rw[hw0];exact(Below.refl _ _).alloc (Qa _) _);have htr:w.heap.size<w0.heap.size:=(Qb hX0).1;have t0:w0.cell? ⟨w.heap.size,0,none⟩=some (.int .i64 (x.row:Nat)):=cell_of_row _ _ 0 _ 184 (0,0) hX0;have t1:w0.cell? ⟨w.heap.size,1,none⟩=some (.int .i64 (x.f:Nat)):=cell_of_row _ _ 1 _ 184 (0,0) hX0;have t2:w0.cell? ⟨w.heap.size,2,none⟩=some (.int .i64 (x.bin:Nat)):=cell_of_row _ _ 2 _ 184 (0,0) hX0
 have d2w:=(HB0.out.cell (p:=⟨db,2,none⟩) hdl).trans d2;clear hX0 d2;have HCx:=HC.out;clear HC;generalize hnl:X.length=n at *;have HN:Hid (X.length=n):=hnl;clear hnl
 by_cases h0:n=0
 ·subst h0;have HR:Hid (R=true):=(by show _=_;rw[HM.out];rfl);clear HM HCx;generalize x.row=xr at *;generalize x.f=xf at *;generalize x.bin=xb at *;go_enter Tryz.func234,Tryz.ntmps234;go_upto_region 1 with fail;rw[<- hw0];clear hw0;go_upto_region 2 with fail;generalize hz:(-1:Int)=z;have hd:decide (z<0)=true:=(by rw[<- hz];rfl);clear hz;go_quiet (fail);go_wp2;go_ret;exact⟨by rw[HR.out];rfl,below_drewN HB0.out _⟩
 obtain⟨m,rfl⟩:∃m,n=m+1:=⟨n-1,by omega⟩;have hm:(((m+1:Nat):Int)-1)=(m:Int):=(by omega);have hw:IntKind.i64.wrap (m:Int)=(m:Int):=Zz (by omega) (by omega);have hg:decide ((m:Int)<0)=false:=decide_eq_false (by omega);have b1:(0:Int)<=(m:Int):=(by omega);have b2:(m:Int)<((m+1:Nat):Int):=(by omega);obtain⟨q,hq,hql,y0,y1,y2⟩:=HXN.out.atK HN.out (k:=m) (by omega);have e0:=(HB0.out.cell (p:=⟨q,m*3,none⟩) hql).trans y0;have e1:=(HB0.out.cell (p:=⟨q,m*3+1,none⟩) hql).trans y1;have e2:=(HB0.out.cell (p:=⟨q,m*3+2,none⟩) hql).trans y2;subst hq;clear y0 y1 y2;have hdr:db<w0.heap.size:=Qh hdl HB0.out.size;have hqr:q<w0.heap.size:=Qh hql HB0.out.size
 have HR:Hid (R=decide (ZdA (X.getD m x0S) x<0)):=(by show _=_;rw[HM.out,Nat.add_sub_cancel];simp);have HCy:=HCx (X.getD m x0S);clear HM HCx HXN HN;generalize ZdA (X.getD m x0S) x=c1 at *;generalize (X.getD m x0S).row=yr at *;generalize (X.getD m x0S).f=yf at *;generalize (X.getD m x0S).bin=yb at *;generalize x.row=xr at *;generalize x.f=xf at *;generalize x.bin=xb at *;have HCY:Hid (∀W:World,Below w0.heap.size w0 W->Calls Tryz.prog 148 #[.agg #[.int .i64 (yr:Nat),.int .i64 (yf:Nat),.int .i64 (yb:Nat)],.agg #[.int .i64 (xr:Nat),.int .i64 (xf:Nat),.int .i64 (xb:Nat)]] W fun e w'=>e=.returned (.int .i64 c1)/\Below w0.heap.size w0 w'):=fun W hW=>(HCy W).mono (fun _ _ h=>⟨h.1,hW.trans (h.2.mono hW.size)⟩);clear HCy;generalize hmm:m+1=m1 at *;have HMM:Hid (m+1=m1):=hmm;clear hmm
 go_enter Tryz.func234,Tryz.ntmps234;go_upto_region 1 with fail;rw[<- hw0];clear hw0;go_upto_region 2 with fail
 go_region_held3 (fun w'=>w'.cell? ⟨db,2,none⟩=some (.slice (some ⟨q,0,none⟩) m1 xc)/\w'.cell? ⟨q,m*3,none⟩=some (.int .i64 (yr:Nat))/\w'.cell? ⟨q,m*3+1,none⟩=some (.int .i64 (yf:Nat))/\w'.cell? ⟨q,m*3+2,none⟩=some (.int .i64 (yb:Nat))/\w'.cell? ⟨w.heap.size,0,none⟩=some (.int .i64 (xr:Nat))/\w'.cell? ⟨w.heap.size,1,none⟩=some (.int .i64 (xf:Nat))/\w'.cell? ⟨w.heap.size,2,none⟩=some (.int .i64 (xb:Nat))) (first|exact⟨d2w,e0,e1,e2,t0,t1,t2⟩|exact⟨(Below.cell (B:=w0.heap.size) (w:=w0) (p:=⟨db,2,none⟩) hb3 hdr).trans d2w,(Below.cell (B:=w0.heap.size) (w:=w0) (p:=⟨q,m*3,none⟩) hb3 hqr).trans e0,(Below.cell (B:=w0.heap.size) (w:=w0) (p:=⟨q,m*3+1,none⟩) hb3 hqr).trans e1,(Below.cell (B:=w0.heap.size) (w:=w0) (p:=⟨q,m*3+2,none⟩) hb3 hqr).trans e2,(Below.cell (B:=w0.heap.size) (w:=w0) (p:=⟨w.heap.size,0,none⟩) hb3 htr).trans t0,(Below.cell (B:=w0.heap.size) (w:=w0) (p:=⟨w.heap.size,1,none⟩) hb3 htr).trans t1,(Below.cell (B:=w0.heap.size) (w:=w0) (p:=⟨w.heap.size,2,none⟩) hb3 htr).trans t2⟩) (first|(go_at_call 148;refine(HCY.out _ (Below.refl _ _).drew).mono ?_;rintro e w3 ⟨rfl,hb3⟩))
 have HB3:Hid (Below w.heap.size w w3):=HB0.out.trans (hb3.mono HB0.out.size);clear hb3 e0 e1 e2 t0 t1 t2;go_wp2;go_ret;exact⟨by rw[HR.out];rfl,HB3.out⟩
def YZ(D:QP)(n:Nat)(x:XS):Bool:=
 decide (x.row<n)&&(decide (x.f<D.ks.length)&&(ZdC (D.ks.getD x.f ZB).e (D.ks.getD x.f ZB).d (x.bin:Nat)&&(decide (0<(atN (D.bs.getD (Z1 D x.f) Z0).N (D.bs.getD (Z1 D x.f) Z0).g).getD x.row 0)&&decide ((atN (D.bs.getD (Z1 D x.f) Z0).N (D.bs.getD (Z1 D x.f) Z0).g).getD x.row 0<Zbl D (Z1 D x.f) (ZaY D x.f)))))
theorem Zsu{w:World}{v:Value}{N:List Nat}{g:Nat}(hN:N.length<=200)(hg:g<64)(hv:QG w 0 v N g):∃ty fat cp,v=.iface ty (.pointer (some ⟨cp,0,none⟩))/\(ty=382/\fat=323∨ty=380/\fat=371)/\(∀W:World,(method 535 ty (.pointer (some ⟨cp,0,none⟩)) "At").run Tryz.prog W=.ok (fat,.pointer (some ⟨cp,0,none⟩)) W)/\∀W:World,Below w.heap.size w W->∀r,r<N.length->Calls Tryz.prog fat #[.pointer (some ⟨cp,0,none⟩),.int .i64 (r:Nat)] W fun e w'=>e=.returned (.int .i64 ((atN N g).getD r 0:Nat))/\Below W.heap.size W w':=by
 rcases hv with⟨a1,p,rfl,sp,vc,rfl,hb,hX⟩|⟨a1,p,rfl,dd,q,rfl,hb,hX⟩
 have hX':∀W,Below w.heap.size w W->Zgn W 0 sp N.length (Lib.bitLen g) vc (Yl N N.length):=fun W hW=>⟨(hW.block _ (Qb hX.blk).1).trans hX.blk,(Za.of_below (S:=fun _=>False) hW).row hX.row (fun _ _=>id)⟩;unfold atN;rw[if_pos a1];exact⟨380,371,sp,rfl,.inr ⟨rfl,rfl⟩,fun W=>by kernel_rfl,fun W hW r hr=>ZeN sp _ _ r vc N W (hX' W hW) hr (by omega)⟩;have hb6:Lib.bitLen g<=6:=Zat hg;have hX':∀W,Below w.heap.size w W->Zan W 0 dd q N.length (Lib.bitLen g) (ZK (YG N (Lib.bitLen g)) ((N.length*Lib.bitLen g+7)/8) (N.length*Lib.bitLen g)):=fun W hW=>hX.below hW;have hmul2:N.length*Lib.bitLen g<=200*6:=Nat.mul_le_mul hN hb6;unfold atN;rw[if_neg a1];refine⟨382,323,dd,rfl,.inl ⟨rfl,rfl⟩,fun W=>by kernel_rfl,fun W hW r hr=>?_⟩
 have hmul:r*Lib.bitLen g+Lib.bitLen g<=N.length*Lib.bitLen g:=(by rw[<- Nat.succ_mul];exact Nat.mul_le_mul_right _ hr);have h1:=Zbx dd q _ _ _ _ r _ W (hX' W hW) (fun t=>ZbY _ _ t) hb6 hmul (by omega) (by omega);rw[ZcV (N.getD r 0) (r*Lib.bitLen g) (Lib.bitLen g) (fun i hi=>Zem N hi)] at h1;have e:(N.map (· %2^Lib.bitLen g)).getD r 0=N.getD r 0%2^Lib.bitLen g:=(by rw[Qc,Qc,List.getElem?_map,Qd hr];rfl);rw[e];exact h1
section
variable {P:Program} {ops:Array Oper} {Q:Exit->Act->World->Prop} {md:Region.Mode} {S:World->Prop} {stop:Nat}
theorem tkU{oi:Oper}{fuel:Nat}{listed:Array Bool}{a:Act}{w:World}(W:List Nat)(i:Nat)(h:Z9 P md ops Q S stop fuel (listed.setIfInBounds i true) (a.put oi.dst undef) w)(hi:ops.toList[i]? =some oi:=by rfl)(hs:Region.noSelect ops=true:=by kernel_rfl)(hf:Region.free md ops listed i=true:=by kernel_rfl)(hr:(Region.ready md ops listed).contains i=true:=by kernel_rfl)(hstop:W.contains stop=true:=by kernel_rfl)(hL:ZfA md ops listed i W=true:=by kernel_rfl)(hQ:∀c a w,Q (.panic c) (a.put oi.dst undef) w->Q (.panic c) a w:=by exact fun _ _ _ h=>h)(hg:Region.wanted oi (yielded ops a.tmps)=false:=by rfl)(hS:S w:=by assumption):Z9 P md ops Q S stop (fuel+1) listed a w:=Zal W hi hs hf hr hstop hL hQ (Or.inr ⟨hg,rfl⟩) hS h
end
structure XbX(w w0:World)(xr xf xb:Nat):Prop where
 lt:w.heap.size<w0.heap.size
 c0:w0.cell? ⟨w.heap.size,0,none⟩=some (.int .i64 (xr:Nat))
 c1:w0.cell? ⟨w.heap.size,1,none⟩=some (.int .i64 (xf:Nat))
 c2:w0.cell? ⟨w.heap.size,2,none⟩=some (.int .i64 (xb:Nat))
 b:Below w.heap.size w w0
theorem XbX.below{w w0 w2:World}{xr xf xb:Nat}(h:XbX w w0 xr xf xb)(hb:Below w0.heap.size w0 w2):XbX w w2 xr xf xb:=
 ⟨Qh h.lt hb.size,(hb.cell (p:=⟨w.heap.size,0,none⟩) h.lt).trans h.c0,(hb.cell (p:=⟨w.heap.size,1,none⟩) h.lt).trans h.c1,(hb.cell (p:=⟨w.heap.size,2,none⟩) h.lt).trans h.c2,h.b.trans (hb.mono h.b.size)⟩
theorem ZhT(db n:Nat)(vK vB vX:Value)(kvs bvs:List (Value×Value))(X:List XS)(D:QP)(x:XS)(w:World)(h:Zaa w db vK vB vX kvs bvs X D)(hb0:0<D.bs.length)(hbl:D.bs.length<=1000)(hn:n<=200)(hN:∀b∈D.bs,b.N.length=n)(hg:∀b∈D.bs,b.g<64)(hc:∀K∈D.ks,K.e.cnt<=16)(hk0:0<D.ks.length)(hs:∀f,f<D.ks.length->Zcb D f (Z1 D f) (ZaY D f)):Calls Tryz.prog 235 #[.pointer (some ⟨db,0,none⟩),.agg #[.int .i64 (x.row:Nat),.int .i64 (x.f:Nat),.int .i64 (x.bin:Nat)]] w fun e w'=>e=.returned (.bool (YZ D n x))/\Below w.heap.size w w':=by
 obtain⟨qk,cK,_,_,_,_,hvK,hqkl,_⟩:=h.kn.at (i:=0) hk0;subst hvK;have d0:w.cell? ⟨db,0,none⟩=some (.slice (some ⟨qk,0,none⟩) D.ks.length cK):=cell_of_row _ _ 0 _ 168 (0,0) h.ds.blk;have hdl:db<w.heap.size:=(Qb h.ds.blk).1;have HM:Hid (∀W,Below w.heap.size w W->Zaa W db (.slice (some ⟨qk,0,none⟩) D.ks.length cK) vB vX kvs bvs X D):=fun W hW=>⟨h.ds.below hW,h.kn.touch (S:=fun _=>False) (Za.of_below hW) (fun _ _ _ _ _=>id),h.perm,h.sorted⟩;have hn0:(D.bs.getD 0 Z0).N.length=n:=hN _ (by rw[Qc,Qd hb0];exact Qf _)
 have HRW:Hid (∀W,Below w.heap.size w W->Calls Tryz.prog 51 #[.pointer (some ⟨db,0,none⟩)] W fun e w'=>e=.returned (.int .i64 (n:Nat))/\Below w.heap.size w w'):=fun W hW=>(Zcf db _ _ _ _ _ _ W (HM.out W hW).ds hb0).mono (fun _ _ h=>⟨by rw[h.1,hn0],hW.trans (h.2.mono hW.size)⟩);obtain⟨w0,hw0⟩:∃w0,w0=w.alloc (.cells #[.int .i64 (x.row:Nat),.int .i64 (x.f:Nat),.int .i64 (x.bin:Nat)] 184):=⟨_,rfl⟩;have hX0:w0.heap[w.heap.size]? =some (.cells #[.int .i64 (x.row:Nat),.int .i64 (x.f:Nat),.int .i64 (x.bin:Nat)] 184 (0,0)):=(by rw[hw0];exact heap_alloc_new w _);have HB0:Hid (Below w.heap.size w w0):=by show Below _ _ _;rw[hw0];exact(Below.refl _ _).alloc (Qa _) _
 have HXB:Hid (XbX w w0 x.row x.f x.bin):=⟨(Qb hX0).1,cell_of_row _ _ 0 _ 184 (0,0) hX0,cell_of_row _ _ 1 _ 184 (0,0) hX0,cell_of_row _ _ 2 _ 184 (0,0) hX0,HB0.out⟩;have HNE:Hid (YZ D n x=(decide (x.row<n)&&(decide (x.f<D.ks.length)&&(ZdC (D.ks.getD x.f ZB).e (D.ks.getD x.f ZB).d (x.bin:Nat)&&(decide (0<(atN (D.bs.getD (Z1 D x.f) Z0).N (D.bs.getD (Z1 D x.f) Z0).g).getD x.row 0)&&decide ((atN (D.bs.getD (Z1 D x.f) Z0).N (D.bs.getD (Z1 D x.f) Z0).g).getD x.row 0<Zbl D (Z1 D x.f) (ZaY D x.f))))))):=rfl;have HS:Hid (∀f,f<D.ks.length->Zcb D f (Z1 D f) (ZaY D f)):=hs;have HNN:Hid (∀b∈D.bs,b.N.length=n):=hN;have HG:Hid (∀b∈D.bs,b.g<64):=hg;have HC:Hid (∀K∈D.ks,K.e.cnt<=16):=hc
 have HRX:Hid (∀W,Below w0.heap.size w0 W->Calls Tryz.prog 51 #[.pointer (some ⟨db,0,none⟩)] W fun e w'=>e=.returned (.int .i64 (n:Nat))/\Below w0.heap.size w0 w'):=fun W hW=>(Zcf db _ _ _ _ _ _ W (HM.out W (HB0.out.trans (hW.mono HB0.out.size))).ds hb0).mono (fun _ _ h=>⟨by rw[h.1,hn0],hW.trans (h.2.mono hW.size)⟩);clear h hX0 hn0 hN hg hc hs HRW;obtain⟨xr,xf,xb⟩:=x;simp only at *;have d0w:=(HB0.out.cell (p:=⟨db,0,none⟩) hdl).trans d0;have hdr:db<w0.heap.size:=Qh hdl HB0.out.size;have t0:=HXB.out.c0;have t1:=HXB.out.c1;have t2:=HXB.out.c2;have htr:=HXB.out.lt;clear d0
 by_cases hr:xr<n
 ·by_cases hf:xf<D.ks.length
  ·obtain⟨kq2,kc2,ab,cb,aw,cw,hv2,hkq,e0,e1,e2,e3,_,_⟩:=(HM.out w (Below.refl _ _)).kn.at hf;have hqq:kq2=qk:=(by injection hv2 with h1;injection h1 with h1;injection h1 with h1 _;exact h1.symm);subst hqq;clear hv2;have e0w:=(HB0.out.cell (p:=⟨kq2,xf*4,none⟩) hkq).trans e0;have e1w:=(HB0.out.cell (p:=⟨kq2,xf*4+1,none⟩) hkq).trans e1;have e2w:=(HB0.out.cell (p:=⟨kq2,xf*4+2,none⟩) hkq).trans e2;have e3w:=(HB0.out.cell (p:=⟨kq2,xf*4+3,none⟩) hkq).trans e3;have hkr:kq2<w0.heap.size:=Qh hkq HB0.out.size;clear e0 e1 e2 e3;have hc16:=HC.out (D.ks.getD xf ZB) (by rw[Qc,Qd hf];exact Qf _)
   have HSO:Hid (∀W,Below w0.heap.size w0 W->Calls Tryz.prog 284 #[.agg #[.bool (D.ks.getD xf ZB).e.wd,.slice ab (D.ks.getD xf ZB).e.bs.length cb,.slice aw (D.ks.getD xf ZB).e.ww.length cw,.int .i64 ((D.ks.getD xf ZB).d:Nat)],.int .i64 (xb:Nat)] W fun x w'=>x=.returned (.bool (ZdC (D.ks.getD xf ZB).e (D.ks.getD xf ZB).d (xb:Nat)))/\Below w0.heap.size w0 w'):=fun W hW=>(ZdT _ ab aw _ cb _ cw _ _ W rfl rfl (by omega)).mono (fun _ _ h=>⟨h.1,hW.trans (h.2.mono hW.size)⟩);have hso:=HS.out xf hf;obtain⟨hI,hcol⟩:=(HM.out w (Below.refl _ _)).ds.bn.each (Z1 D xf) hso.hb;have hbm:D.bs.getD (Z1 D xf) Z0∈D.bs:=(by rw[Qc,Qd hso.hb];exact Qf _);have hNl:=HNN.out _ hbm;obtain⟨ty,fat,cp,hvc,hty,hme,hat⟩:=Zsu (by rw[hNl];exact hn) (HG.out _ hbm) hcol
   obtain⟨fa,fcc,hvf⟩:=hI.shape
   have HSE:Hid (∀W,Below w.heap.size w W->Calls Tryz.prog 145 #[.pointer (some ⟨db,0,none⟩),.int .i64 (xf:Nat)] W fun e w'=>e=.returned (.tuple #[.agg #[.slice fa (ZG (D.bs.getD (Z1 D xf) Z0).fs).length fcc,.iface ty (.pointer (some ⟨cp,0,none⟩))],.int .i64 (Zbl D (Z1 D xf) (ZaY D xf):Nat)])/\Below W.heap.size W w'):=fun W hW=>by have:=Zk1 db xf _ _ _ _ _ _ _ _ D W (HM.out W hW) hso hbl;rw[hvf,hvc] at this;exact this
   have HAT:Hid (∀W:World,Below w.heap.size w W->Calls Tryz.prog fat #[.pointer (some ⟨cp,0,none⟩),.int .i64 (xr:Nat)] W fun e w'=>e=.returned (.int .i64 ((atN (D.bs.getD (Z1 D xf) Z0).N (D.bs.getD (Z1 D xf) Z0).g).getD xr 0:Nat))/\Below w.heap.size w w'):=fun W hW=>(hat W hW xr (by rw[hNl];exact hr)).mono (fun _ _ h=>⟨h.1,hW.trans (h.2.mono hW.size)⟩);have HRR:Hid (YZ D n ⟨xr,xf,xb⟩=(ZdC (D.ks.getD xf ZB).e (D.ks.getD xf ZB).d (xb:Nat)&&(decide (0<(atN (D.bs.getD (Z1 D xf) Z0).N (D.bs.getD (Z1 D xf) Z0).g).getD xr 0)&&decide ((atN (D.bs.getD (Z1 D xf) Z0).N (D.bs.getD (Z1 D xf) Z0).g).getD xr 0<Zbl D (Z1 D xf) (ZaY D xf))))):=(by show _=_;rw[HNE.out,decide_eq_true hr,decide_eq_true hf];rfl);clear HNE hso hI hcol hbm hNl hvc hat hvf HM HC HS HNN HG
   generalize YZ D n ⟨xr,xf,xb⟩=R at *;generalize ZdC (D.ks.getD xf ZB).e (D.ks.getD xf ZB).d (xb:Nat)=ob at *;generalize (D.ks.getD xf ZB).e.bs.length=nb at *;generalize (D.ks.getD xf ZB).e.ww.length=nw at *;generalize (D.ks.getD xf ZB).e.wd=wd at *;generalize (D.ks.getD xf ZB).d=dd at *;generalize (atN (D.bs.getD (Z1 D xf) Z0).N (D.bs.getD (Z1 D xf) Z0).g).getD xr 0=y at *;generalize Zbl D (Z1 D xf) (ZaY D xf)=off at *;generalize (ZG (D.bs.getD (Z1 D xf) Z0).fs).length=nf at *;generalize hnk:D.ks.length=nk at *;clear hnk;have g1:¬(n:Int)<=(xr:Int):=(by omega);have g2:decide ((xr:Int)≥(n:Int))=false:=decide_eq_false g1;have g3:¬(nk:Int)<=(xf:Int):=(by omega);have g4:decide ((xf:Int)≥(nk:Int))=false:=decide_eq_false g3;have b1:(0:Int)<=(xf:Int):=by omega
   have b2:(xf:Int)<(nk:Int):=(by omega);have HF0:Hid (∀W,Below w0.heap.size w0 W->W.cell? ⟨db,0,none⟩=some (.slice (some ⟨kq2,0,none⟩) nk cK)/\W.cell? ⟨kq2,xf*4,none⟩=some (.bool wd)/\W.cell? ⟨kq2,xf*4+1,none⟩=some (.slice ab nb cb)/\W.cell? ⟨kq2,xf*4+2,none⟩=some (.slice aw nw cw)/\W.cell? ⟨kq2,xf*4+3,none⟩=some (.int .i64 (dd:Nat))):=fun W hb3=>⟨(hb3.cell (p:=⟨db,0,none⟩) hdr).trans d0w,(hb3.cell (p:=⟨kq2,xf*4,none⟩) hkr).trans e0w,(hb3.cell (p:=⟨kq2,xf*4+1,none⟩) hkr).trans e1w,(hb3.cell (p:=⟨kq2,xf*4+2,none⟩) hkr).trans e2w,(hb3.cell (p:=⟨kq2,xf*4+3,none⟩) hkr).trans e3w⟩;go_enter Tryz.func235,Tryz.ntmps235;go_upto_region 1 with fail;rw[<- hw0];clear hw0
   refine Zo (fun w'=>w'.cell? ⟨w.heap.size,0,none⟩=some (.int .i64 (xr:Nat))/\w'.cell? ⟨w.heap.size,1,none⟩=some (.int .i64 (xf:Nat))/\w'.cell? ⟨w.heap.size,2,none⟩=some (.int .i64 (xb:Nat))/\w'.cell? ⟨db,0,none⟩=some (.slice (some ⟨kq2,0,none⟩) nk cK)/\w'.cell? ⟨kq2,xf*4,none⟩=some (.bool wd)/\w'.cell? ⟨kq2,xf*4+1,none⟩=some (.slice ab nb cb)/\w'.cell? ⟨kq2,xf*4+2,none⟩=some (.slice aw nw cw)/\w'.cell? ⟨kq2,xf*4+3,none⟩=some (.int .i64 (dd:Nat))) 28 (by kernel_rfl) ⟨t0,t1,t2,d0w,e0w,e1w,e2w,e3w⟩ (fun hHeld=>?_);refine Zm 0 ?_;refine Zm 1 ?_;refine Zm 2 ?_;refine Zc (i:=3) (by kernel_rfl) rfl (fun KK hK=>?_);go_simp;refine(HRX.out _ (Below.refl _ _).drew).mono ?_;rintro e w3 ⟨rfl,hb3⟩;have HX3:Hid (XbX w w3 xr xf xb):=HXB.out.below hb3
   have HB3:Hid (Below w0.heap.size w0 w3):=hb3;have ht3:w3.cell? ⟨w.heap.size,0,none⟩=some (.int .i64 (xr:Nat))/\w3.cell? ⟨w.heap.size,1,none⟩=some (.int .i64 (xf:Nat))/\w3.cell? ⟨w.heap.size,2,none⟩=some (.int .i64 (xb:Nat))/\w3.cell? ⟨db,0,none⟩=some (.slice (some ⟨kq2,0,none⟩) nk cK)/\w3.cell? ⟨kq2,xf*4,none⟩=some (.bool wd)/\w3.cell? ⟨kq2,xf*4+1,none⟩=some (.slice ab nb cb)/\w3.cell? ⟨kq2,xf*4+2,none⟩=some (.slice aw nw cw)/\w3.cell? ⟨kq2,xf*4+3,none⟩=some (.int .i64 (dd:Nat)):=⟨HX3.out.c0,HX3.out.c1,HX3.out.c2,(hb3.cell (p:=⟨db,0,none⟩) hdr).trans d0w,(hb3.cell (p:=⟨kq2,xf*4,none⟩) hkr).trans e0w,(hb3.cell (p:=⟨kq2,xf*4+1,none⟩) hkr).trans e1w,(hb3.cell (p:=⟨kq2,xf*4+2,none⟩) hkr).trans e2w,(hb3.cell (p:=⟨kq2,xf*4+3,none⟩) hkr).trans e3w⟩
   clear hb3 t0 t1 t2 d0w e0w e1w e2w e3w;go_simp;refine hK.out _ _ ht3 (fun hHeld=>?_);clear hK KK;try simp only[Act.put,tA,tB,tC]
   refine Zm 4 ?_;refine Zm 5 ?_;refine Zm 6 ?_;refine Zm 7 ?_;refine Zm 8 ?_;refine Zm 9 ?_;refine Zm 10 ?_;refine Zm 11 ?_;refine Zm 12 ?_;refine Zm 13 ?_;refine Zm 14 ?_;refine Zm 15 ?_;refine Zm 16 ?_;refine Zm 17 ?_;refine Zm 18 ?_;refine Zm 19 ?_;refine Zm 20 ?_;refine Zm 21 ?_;refine Zm 22 ?_;refine Zm 23 ?_;refine Zm 24 ?_;refine Zm 25 ?_;refine Zc (i:=26) (by kernel_rfl) rfl (fun KK hK=>?_);go_simp;refine(HSO.out _ HB3.out).mono ?_;rintro e w4 ⟨rfl,hb4⟩;have HX4:Hid (XbX w w4 xr xf xb):=HXB.out.below hb4
   have ht4:w4.cell? ⟨w.heap.size,0,none⟩=some (.int .i64 (xr:Nat))/\w4.cell? ⟨w.heap.size,1,none⟩=some (.int .i64 (xf:Nat))/\w4.cell? ⟨w.heap.size,2,none⟩=some (.int .i64 (xb:Nat))/\w4.cell? ⟨db,0,none⟩=some (.slice (some ⟨kq2,0,none⟩) nk cK)/\w4.cell? ⟨kq2,xf*4,none⟩=some (.bool wd)/\w4.cell? ⟨kq2,xf*4+1,none⟩=some (.slice ab nb cb)/\w4.cell? ⟨kq2,xf*4+2,none⟩=some (.slice aw nw cw)/\w4.cell? ⟨kq2,xf*4+3,none⟩=some (.int .i64 (dd:Nat)):=⟨HX4.out.c0,HX4.out.c1,HX4.out.c2,HF0.out w4 hb4⟩;clear hb4 ht3;go_simp;refine hK.out _ _ ht4 (fun hHeld=>?_);clear hK KK ht4;try simp only[Act.put,tA,tB,tC]
   refine Zm 27 ?_;refine Zh (i:=28) (by kernel_rfl) rfl (by kernel_rfl) (fun KK hK=>?_);go_simp;refine hK.out _ _ ?_;clear hK KK;try simp only[Act.put,tA,tB,tC]
   refine Zj (by kernel_rfl) ?_ _
   cases ob with
   | false=>
    have HR:Hid (R=false):=HRR.out;clear HRR;go_wp2;go_ret;exact⟨by rw[HR.out];rfl,HX4.out.b⟩
   | true=>
    have HR:Hid (R=(decide (0<y)&&decide (y<off))):=HRR.out;clear HRR;have u1:=HX4.out.c1;go_wp2_with fail
    refine(HSE.out _ HX4.out.b).mono ?_;rintro e w5 ⟨rfl,hb5⟩;have HX5:Hid (XbX w w5 xr xf xb):=HX4.out.below hb5;clear hb5 u1 HX4;go_upto_region 4 with fail;generalize hW6:w5.alloc (.cells #[.slice fa nf fcc,.iface ty (.pointer (some ⟨cp,0,none⟩))] 163)=w6;have hK6:w6.heap[w5.heap.size]? =some (.cells #[.slice fa nf fcc,.iface ty (.pointer (some ⟨cp,0,none⟩))] 163 (0,0)):=(by rw[<- hW6];exact heap_alloc_new _ _);have HX6:Hid (XbX w w6 xr xf xb):=HX5.out.below (by rw[<- hW6];exact(Below.refl _ _).alloc (Qa _) _);clear hW6;have k1:w6.cell? ⟨w5.heap.size,1,none⟩=some (.iface ty (.pointer (some ⟨cp,0,none⟩))):=cell_of_row _ _ 1 _ 163 (0,0) hK6;have u0:=HX6.out.c0;clear hK6;have HTY:Hid (ty=382/\fat=323∨ty=380/\fat=371):=hty;clear hty
    rcases HTY.out with⟨rfl,rfl⟩|⟨rfl,rfl⟩
    all_goals
     go_wp2_with fail
     refine(HAT.out _ HX6.out.b).mono ?_;rintro e w7 ⟨rfl,hb7⟩;have HB7:Hid (Below w.heap.size w w7):=hb7;clear hb7 u0 k1
     by_cases hy:0<y
     ·have hy1:(0:Int)<(y:Int):=by omega
      by_cases ho:y<off
      ·have ho1:(y:Int)<(off:Int):=(by omega);have HR2:Hid (R=true):=(by show _=_;rw[HR.out,decide_eq_true hy,decide_eq_true ho];rfl);go_wp2;go_ret;exact⟨by rw[HR2.out];rfl,HB7.out⟩
      have ho1:¬(y:Int)<(off:Int):=(by omega);have HR2:Hid (R=false):=(by show _=_;rw[HR.out,decide_eq_false ho];simp);go_wp2;go_ret;exact⟨by rw[HR2.out];rfl,HB7.out⟩
     have hy1:¬(0:Int)<(y:Int):=(by omega);have HR2:Hid (R=false):=(by show _=_;rw[HR.out,decide_eq_false hy];rfl);go_wp2;go_ret;exact⟨by rw[HR2.out];rfl,HB7.out⟩
  have g1:¬(n:Int)<=(xr:Int):=(by omega);have g2:decide ((xr:Int)≥(n:Int))=false:=decide_eq_false g1;have HR:Hid (YZ D n ⟨xr,xf,xb⟩=false):=(by show _=_;rw[HNE.out,decide_eq_true hr,decide_eq_false hf];rfl);clear HNE;generalize YZ D n ⟨xr,xf,xb⟩=R at *;generalize D.ks.length=nk at *;have g3:(nk:Int)<=(xf:Int):=(by omega);have g4:decide ((xf:Int)≥(nk:Int))=true:=decide_eq_true g3;go_enter Tryz.func235,Tryz.ntmps235;go_upto_region 1 with fail;rw[<- hw0];clear hw0;refine Zo (fun w'=>w'.cell? ⟨w.heap.size,0,none⟩=some (.int .i64 (xr:Nat))/\w'.cell? ⟨w.heap.size,1,none⟩=some (.int .i64 (xf:Nat))/\w'.cell? ⟨db,0,none⟩=some (.slice (some ⟨qk,0,none⟩) nk cK)) 28 (by kernel_rfl) ⟨t0,t1,d0w⟩ (fun hHeld=>?_);refine Zm 0 ?_;refine Zm 1 ?_;refine Zm 2 ?_
  refine Zc (i:=3) (by kernel_rfl) rfl (fun KK hK=>?_);go_simp;refine(HRX.out _ (Below.refl _ _).drew).mono ?_;rintro e w3 ⟨rfl,hb3⟩;have HX3:Hid (XbX w w3 xr xf xb):=HXB.out.below hb3;have t3:=HX3.out.c0;have t4:=HX3.out.c1;have d3:=(hb3.cell (p:=⟨db,0,none⟩) hdr).trans d0w;clear hb3 t0 t1 t2 d0w;go_simp;refine hK.out _ _ ⟨t3,t4,d3⟩ (fun hHeld=>?_);clear hK KK;try simp only[Act.put,tA,tB,tC]
  refine Zm 4 ?_;refine Zm 5 ?_;refine Zm 6 ?_;refine Zm 7 ?_;refine Zm 8 ?_;refine Zm 9 ?_;refine Zm 10 ?_;refine Zm 11 ?_;refine Zm 12 ?_;refine Zm 13 ?_;refine Zm 14 ?_;refine Zm 15 ?_;refine tkU [17,18,19,22,23,26,27,28] 16 ?_;try simp only[Act.put,tA,tB,tC]
  refine tkU [18,19,22,23,26,27,28] 17 ?_;try simp only[Act.put,tA,tB,tC]
  refine tkU [19,22,23,26,27,28] 18 ?_;try simp only[Act.put,tA,tB,tC]
  refine tkU [22,23,26,27,28] 19 ?_;try simp only[Act.put,tA,tB,tC]
  refine tkU [21,22,23,26,27,28] 20 ?_;try simp only[Act.put,tA,tB,tC]
  refine tkU [22,23,26,27,28] 21 ?_;try simp only[Act.put,tA,tB,tC]
  refine tkU [23,26,27,28] 22 ?_;try simp only[Act.put,tA,tB,tC]
  refine tkU [26,27,28] 23 ?_;try simp only[Act.put,tA,tB,tC]
  refine tkU [25,26,27,28] 24 ?_;try simp only[Act.put,tA,tB,tC]
  refine tkU [26,27,28] 25 ?_;try simp only[Act.put,tA,tB,tC]
  refine tkU [27,28] 26 ?_;try simp only[Act.put,tA,tB,tC]
  refine tkU [28] 27 ?_;try simp only[Act.put,tA,tB,tC]
  refine Zh (i:=28) (by kernel_rfl) rfl (by kernel_rfl) (fun KK hK=>?_);go_simp;refine hK.out _ _ ?_;clear hK KK;try simp only[Act.put,tA,tB,tC]
  refine Zj (by kernel_rfl) ?_ _;go_wp2;go_ret;exact⟨by rw[HR.out];rfl,HX3.out.b⟩
 have g1:(n:Int)<=(xr:Int):=(by omega);have g2:decide ((xr:Int)≥(n:Int))=true:=decide_eq_true g1;have HR:Hid (YZ D n ⟨xr,xf,xb⟩=false):=(by show _=_;rw[HNE.out,decide_eq_false hr];rfl);clear HNE;generalize YZ D n ⟨xr,xf,xb⟩=R at *;generalize D.ks.length=nk at *;go_enter Tryz.func235,Tryz.ntmps235;go_upto_region 1 with fail;rw[<- hw0];clear hw0;refine Zo (fun w'=>w'.cell? ⟨w.heap.size,0,none⟩=some (.int .i64 (xr:Nat))) 28 (by kernel_rfl) t0 (fun hHeld=>?_);refine Zm 0 ?_;refine Zm 1 ?_;refine Zm 2 ?_;refine Zc (i:=3) (by kernel_rfl) rfl (fun KK hK=>?_);go_simp;refine(HRX.out _ (Below.refl _ _).drew).mono ?_;rintro e w3 ⟨rfl,hb3⟩;have HX3:Hid (XbX w w3 xr xf xb):=HXB.out.below hb3;have t3:=HX3.out.c0;clear hb3 t0 t1 t2 d0w;go_simp;refine hK.out _ _ t3 (fun hHeld=>?_);clear hK KK
 try simp only[Act.put,tA,tB,tC]
 refine Zm 4 ?_;refine Zm 5 ?_;refine tkU [7,13,14,15,16,17,18,19,20,21,22,23,24,25,26,27,28] 6 ?_;try simp only[Act.put,tA,tB,tC]
 refine tkU [13,14,15,16,17,18,19,20,21,22,23,24,25,26,27,28] 7 ?_;try simp only[Act.put,tA,tB,tC]
 refine tkU [9,10,11,12,13,14,15,16,17,18,19,20,21,22,23,24,25,26,27,28] 8 ?_;try simp only[Act.put,tA,tB,tC]
 refine tkU [10,11,12,13,14,15,16,17,18,19,20,21,22,23,24,25,26,27,28] 9 ?_;try simp only[Act.put,tA,tB,tC]
 refine tkU [11,12,13,14,15,16,17,18,19,20,21,22,23,24,25,26,27,28] 10 ?_;try simp only[Act.put,tA,tB,tC]
 refine tkU [12,13,14,15,16,17,18,19,20,21,22,23,24,25,26,27,28] 11 ?_;try simp only[Act.put,tA,tB,tC]
 refine tkU [13,14,15,16,17,18,19,20,21,22,23,24,25,26,27,28] 12 ?_;try simp only[Act.put,tA,tB,tC]
 refine tkU [14,15,16,17,18,19,20,21,22,23,24,25,26,27,28] 13 ?_;try simp only[Act.put,tA,tB,tC]
 refine Zm 14 ?_;refine Zm 15 ?_;refine tkU [17,18,19,22,23,26,27,28] 16 ?_;try simp only[Act.put,tA,tB,tC]
 refine tkU [18,19,22,23,26,27,28] 17 ?_;try simp only[Act.put,tA,tB,tC]
 refine tkU [19,22,23,26,27,28] 18 ?_;try simp only[Act.put,tA,tB,tC]
 refine tkU [22,23,26,27,28] 19 ?_;try simp only[Act.put,tA,tB,tC]
 refine tkU [21,22,23,26,27,28] 20 ?_;try simp only[Act.put,tA,tB,tC]
 refine tkU [22,23,26,27,28] 21 ?_;try simp only[Act.put,tA,tB,tC]
 refine tkU [23,26,27,28] 22 ?_;try simp only[Act.put,tA,tB,tC]
 refine tkU [26,27,28] 23 ?_;try simp only[Act.put,tA,tB,tC]
 refine tkU [25,26,27,28] 24 ?_;try simp only[Act.put,tA,tB,tC]
 refine tkU [26,27,28] 25 ?_;try simp only[Act.put,tA,tB,tC]
 refine tkU [27,28] 26 ?_;try simp only[Act.put,tA,tB,tC]
 refine tkU [28] 27 ?_;try simp only[Act.put,tA,tB,tC]
 refine Zh (i:=28) (by kernel_rfl) rfl (by kernel_rfl) (fun KK hK=>?_);go_simp;refine hK.out _ _ ?_;clear hK KK;try simp only[Act.put,tA,tB,tC]
 refine Zj (by kernel_rfl) ?_ _;go_wp2;go_ret;exact⟨by rw[HR.out];rfl,HX3.out.b⟩
end Go.Proofs.YtfcgnpchbcmdeaaGreat
namespace Go.Proofs.YtfcgnpchbcmdeaaGreat
set_option linter.unusedSimpArgs false
set_option maxRecDepth 100000
set_option maxHeartbeats 16000000
open Go.RowKit Go.Lib Go.Sort
def rdX(r:List Int):XS:=⟨(r.getD 0 0).toNat,(r.getD 1 0).toNat,(r.getD 2 0).toNat⟩
def exK(D:QP)(n:Nat)(l:List Int):Nat->Option (List XS×List Int)
 |0=>some ([],l)
 | k+1=>match exK D n l k with
  |none=>none
  |some (X,r)=>if(Q6 X (rdX r)&&YZ D n (rdX r))=true then some (X++[rdX r],r.drop 3) else none
theorem ZpM (D:QP) (n:Nat) (l:List Int) {k m:Nat} (h:exK D n l k=none) (hk:k<=m):exK D n l m=none:=by
  induction m with
  | zero => have:k=0:=by omega
            rw[<- this];exact h
  | succ m ih=>
    by_cases e:k=m+1
    rw[<- e];exact h;simp only[exK,ih (by omega)]
theorem ZhU{X:List XS}{x:XS}(hs:ZaE X)(h:Q6 X x=true):ZaE (X++[x]):=by
 refine List.pairwise_append.2 ⟨hs,by simp,fun y hy z hz=>?_⟩;simp only[List.mem_cons,List.not_mem_nil,or_false] at hz;subst hz;have hp:0<X.length:=List.length_pos_of_mem hy;unfold Q6 at h;rw[decide_eq_false (by omega),Bool.false_or,decide_eq_true_eq] at h;have hl:=ltX (X.getD (X.length-1) x0S) z
 have h1:(X.getD (X.length-1) x0S).row<z.row∨(X.getD (X.length-1) x0S).row=z.row/\(X.getD (X.length-1) x0S).f<z.f:=by
  have:ltOf ZdA (X.getD (X.length-1) x0S) z=true:=by unfold ltOf;simpa using h
  rw[hl] at this
  simpa using this
 obtain⟨i,hi,rfl⟩:=List.getElem_of_mem hy
 rcases Nat.lt_or_ge i (X.length-1) with h2|h2
 have h3:=List.pairwise_iff_getElem.1 hs i (X.length-1) hi (by omega) h2;have e:X.getD (X.length-1) x0S=X[X.length-1]'(by omega):=(by simp[Qc,Qd (show X.length-1<X.length by omega)]);rw[e] at h1;omega;have e:X.getD (X.length-1) x0S=X[i]:=(by have:X.length-1=i:=(by omega);rw[this];simp[Qc,Qd hi]);rw[e] at h1;omega
structure ExS(w wr:World)(db sb:Nat)(l:List Int)(vK vB vX:Value)(kvs bvs:List (Value×Value))(Ks:List KS)(bs:List BS)(X:List XS):Prop where
 made:Zaa wr db vK vB vX kvs bvs X ⟨Ks,bs,X⟩
 src:ZI wr sb l
 t:Za (fun k=>k=sb∨k=db) w wr
 nw:∀k,vX.ownBlock=some k->w.heap.size<=k
section
variable {w wr w2:World} {db sb:Nat} {l l2:List Int} {vK vB vX:Value} {kvs bvs:List (Value×Value)} {Ks:List KS} {bs:List BS} {X:List XS}
theorem Zaa.touchT{S:Nat->Prop}{T:Nat}{D:QP}(h:Zaa wr db vK vB vX kvs bvs X D)(t:Za S wr w2)(ty:TyS S wr T)(h0:168≠T)(h1:403≠T)(h2:396≠T)(h3:405≠T)(h4:5≠T)(h5:163≠T)(h6:184≠T)(h7:172≠T)(h8:9≠T)(h9:3≠T):Zaa w2 db vK vB vX kvs bvs X D:=
 ⟨⟨t.at_ h.ds.blk (ty.at h.ds.blk h0),h.ds.bn.touchT t ty h1 h2 h3 h4 (ty.row h.ds.bn.row h5) (fun i hi=>ty.row (h.ds.bn.each i hi).1 h9),t.row h.ds.xn (ty.row h.ds.xn h6)⟩,h.kn.touchT t ty h7 h8 (fun i hi=>ty.row (h.kn.each i hi).1 h9),h.perm,h.sorted⟩
theorem ExS.step(h:ExS w wr db sb l vK vB vX kvs bvs Ks bs X)(hs:ZI w2 sb l2)(t:Za (fun k=>k=sb) wr w2):ExS w w2 db sb l2 vK vB vX kvs bvs Ks bs X:=by obtain⟨S,s1,_⟩:=h.src.ex;have ty:TyS (fun k=>k=sb) wr 180:=TyS.one s1;exact⟨h.made.touchT t ty (by decide) (by decide) (by decide) (by decide) (by decide) (by decide) (by decide) (by decide) (by decide) (by decide),hs,h.t.trans (t.mono (fun k _ e=>.inl e)),h.nw⟩
theorem ExS.below(h:ExS w wr db sb l vK vB vX kvs bvs Ks bs X)(hb:Below wr.heap.size wr w2):ExS w w2 db sb l vK vB vX kvs bvs Ks bs X:=h.step (h.src.below hb) (.of_below hb)
theorem ExS.c2(h:ExS w wr db sb l vK vB vX kvs bvs Ks bs X):wr.cell? ⟨db,2,none⟩=some vX:=cell_of_row _ _ 2 _ 168 (0,0) h.made.ds.blk
theorem ExS.more{w3:World}{v6:Value}{x:XS}(h:ExS w wr db sb l vK vB vX kvs bvs Ks bs X)(hm:Q6 X x=true)(g:wr.grownBy w3 vX.ownBlock)(r:w3.ownsRow 0 184 3 v6 (X.length+1) (QR X++Y7 x))(d:v6.ownBlock=vX.ownBlock∨v6.ownBlock=some wr.heap.size):ExS w (w3.setCell ⟨db,2,none⟩ v6) db sb l vK vB v6 kvs bvs Ks bs (X++[x]):=by
 have t:Za (fun k=>vX.ownBlock=some k) wr w3:=(Za.refl _ wr).grown g (fun k hk _=>hk);have ty:TyS (fun k=>vX.ownBlock=some k) wr 184:=TyS.own h.made.ds.xn;obtain⟨S,s1,s2,s3⟩:=h.src.ex;have blk3:=t.at_ h.made.ds.blk (ty.at h.made.ds.blk (by decide));have t7:Za (fun k=>k=db) w3 (w3.setCell ⟨db,2,none⟩ v6):=(Za.refl (fun k=>k=db) w3).setCell (p:=⟨db,2,none⟩) (fun _=>rfl) _;have ty7:TyS (fun k=>k=db) w3 168:=TyS.one blk3;have kn3:=h.made.kn.touchT t ty (by decide) (by decide) (fun i hi=>ty.row (h.made.kn.each i hi).1 (by decide))
 refine⟨⟨h.made.ds.more g (ZbK.more r),kn3.touchT t7 ty7 (by decide) (by decide) (fun i hi=>ty7.row (kn3.each i hi).1 (by decide)),List.Perm.refl _,ZhU h.made.sorted hm⟩,⟨S,t7.at_ (t.at_ s1 (ty.at s1 (by decide))) (ty7.at (t.at_ s1 (ty.at s1 (by decide))) (by decide)),s2,s3⟩,(h.t.grown g (fun k hk hkl=>absurd (h.nw k hk) (by omega))).setCell (p:=⟨db,2,none⟩) (fun _=>.inr rfl) _,fun k hk=>?_⟩
 rcases d with e|e
 rw[e] at hk;exact h.nw k hk;rw[e] at hk;injection hk with hk;have:=h.t.size;omega
end
def ExE(w w':World)(db sb:Nat)(vK vB:Value)(kvs bvs:List (Value×Value))(Ks:List KS)(bs:List BS)(o:Option (List XS×List Int))(e:Ending):Prop:=match o with
 |none=>e=.returned (.bool false)/\Za (fun k=>k=sb∨k=db) w w'
 |some (X,r)=>e=.returned (.bool true)/\∃vX,ExS w w' db sb r vK vB vX kvs bvs Ks bs X
theorem Zee(db sb n:Nat)(l:List Int)(vK vB:Value)(kvs bvs:List (Value×Value))(Ks:List KS)(bs:List BS)(w:World)(h:ZI w sb l)(hd:Zaa w db vK vB (.slice none 0 0) kvs bvs [] ⟨Ks,bs,[]⟩)(hb0:0<bs.length)(hbl:bs.length<=1000)(hn:n<=200)(hN:∀b∈bs,b.N.length=n)(hg:∀b∈bs,b.g<64)(hc:∀K∈Ks,K.e.cnt<=16)(hk0:0<Ks.length)(hs:∀f,f<Ks.length->Zcb ⟨Ks,bs,[]⟩ f (Z1 ⟨Ks,bs,[]⟩ f) (ZaY ⟨Ks,bs,[]⟩ f)):Calls Tryz.prog 168 #[.pointer (some ⟨db,0,none⟩),.pointer (some ⟨sb,0,none⟩)] w fun e w'=>ExE w w' db sb vK vB kvs bvs Ks bs (exK ⟨Ks,bs,[]⟩ n (l.drop 2) (ZaQ l 2)) e:=by
 have HL:Hid (Calls Tryz.prog 233 #[.pointer (some ⟨sb,0,none⟩),.int .i64 2] w fun e w'=>e=.returned (.int .i64 (ZaQ l 2:Nat))/\ZI w' sb (l.drop 2)/\Za (fun k=>k=sb) w w'):=Zhk sb 2 l w h (by omega);have hm2:=Zjq h.byte 2;have HS0:Hid (ExS w w db sb l vK vB (.slice none 0 0) kvs bvs Ks bs []):=⟨hd,h,Za.refl _ _,by simp[Value.ownBlock]⟩;have HNX:Hid (∀(W:World) (l:List Int),ZI W sb l->Calls Tryz.prog 165 #[.pointer (some ⟨sb,0,none⟩)] W fun e w'=>e=.returned (.int .i64 (l.headD 0))/\ZI w' sb l.tail/\Za (fun k=>k=sb) W w'):=fun W l hS=>YE sb l W hS
 have HMF:Hid (∀(W:World) (r:List Int) (vX:Value) (X:List XS) (x:XS),ExS w W db sb r vK vB vX kvs bvs Ks bs X->X.length<=1000000->Calls Tryz.prog 234 #[.pointer (some ⟨db,0,none⟩),.agg #[.int .i64 (x.row:Nat),.int .i64 (x.f:Nat),.int .i64 (x.bin:Nat)]] W fun e w'=>e=.returned (.bool (Q6 X x))/\Below W.heap.size W w'):=fun W r vX X x hX hl=>ZhV db _ _ _ _ _ X x W hX.made.ds hl
 have HME:Hid (∀(W:World) (r:List Int) (vX:Value) (X:List XS) (x:XS),ExS w W db sb r vK vB vX kvs bvs Ks bs X->Calls Tryz.prog 235 #[.pointer (some ⟨db,0,none⟩),.agg #[.int .i64 (x.row:Nat),.int .i64 (x.f:Nat),.int .i64 (x.bin:Nat)]] W fun e w'=>e=.returned (.bool (YZ ⟨Ks,bs,[]⟩ n x))/\Below W.heap.size W w'):=fun W r vX X x hX=>ZhT db n _ _ _ _ _ X ⟨Ks,bs,X⟩ x W hX.made hb0 hbl hn hN hg hc hk0 (fun f hf=>by have:=hs f hf;exact⟨this.hb,this.hp,this.at_,this.no,this.fl,this.fk,this.mn⟩);obtain⟨i0,hinf,hz0,hz1,hz2⟩:=info_parts Znk;generalize (⟨Ks,bs,[]⟩:QP)=D0 at *;clear h hd hb0 hbl hn hN hg hc hk0 hs;generalize hmm:ZaQ l 2=m at *;clear hmm;generalize hl2:l.drop 2=l2 at *;clear hl2;go_enter Tryz.func168,Tryz.ntmps168;go_wp2_with fail
 refine HL.out.mono ?_;rintro e w2 ⟨rfl,hs2,ht2⟩;have HS2:Hid (ExS w w2 db sb l2 vK vB (.slice none 0 0) kvs bvs Ks bs []):=HS0.out.step hs2 ht2;clear hs2 ht2 HS0 HL;go_wp2_with fail
 go_loopw [8] (fun ti wr=>∃(i:Nat) (X:List XS) (r:List Int) (vX:Value),ti=.int .i64 i/\i<=m/\X.length<=i/\Hid (exK D0 n l2 i=some (X,r))/\Hid (ExS w wr db sb r vK vB vX kvs bvs Ks bs X)) (fun ti _=>m-(intOf ti).toNat)
 case atStart=>exact⟨0,[],l2,_,rfl,Qg _,Qa _,rfl,HS2.out⟩
 case round=>
  clear HS2;obtain⟨i,X,r,vX,rfl,hi,hxl,HEK,HEX⟩:=hrel
  by_cases him:i<m
  ·have bi:(i:Int)<(m:Int):=(by omega);have hrb:=HEX.out.src.byte;have y0:=Qm hrb 0;have y1:=Qm hrb 1;have y2:=Qm hrb 2;obtain⟨x,hx⟩:∃x,rdX r=x:=⟨_,rfl⟩;have x0:r.headD 0=(x.row:Int):=(by rw[<- hx,show r.headD 0=r.getD 0 0 by have:=ZP r 0;rwa [List.drop_zero] at this];unfold rdX;simp only;omega);have x1:r.tail.headD 0=(x.f:Int):=(by rw[<- hx,show r.tail.headD 0=r.getD 1 0 by have:=ZP r 1;rwa [List.drop_one] at this];unfold rdX;simp only;omega);have x2:r.tail.tail.headD 0=(x.bin:Int):=by rw[<- hx,show r.tail.tail.headD 0=r.getD 2 0 by have:=ZP r 2;rwa [show r.drop 2=r.tail.tail by cases r with|nil=>rfl|cons a t=>cases t<;>rfl] at this];unfold rdX;simp only;omega
   have x3:r.tail.tail.tail=r.drop 3:=by cases r with|nil=>rfl|cons a t=>cases t with|nil=>rfl|cons b u=>cases u<;>rfl
   have HNE:Hid (exK D0 n l2 (i+1)=if(Q6 X x&&YZ D0 n x)=true then some (X++[x],r.drop 3) else none):=(by show _=_;simp only[exK,HEK.out,hx]);have HNO:Hid (exK D0 n l2 (i+1)=none->exK D0 n l2 m=none):=fun hx=>ZpM D0 n l2 hx (by omega);have h1:=HNX.out wr r HEX.out.src;rw[x0] at h1;have HX1:Hid (r.tail.headD 0=(x.f:Int)):=x1;have HX2:Hid (r.tail.tail.headD 0=(x.bin:Int)):=x2;have HX3:Hid (r.tail.tail.tail=r.drop 3):=x3;clear hrb y0 y1 y2 hx x0 x1 x2 x3 HEK;go_wp2_with fail
   refine h1.mono ?_;clear h1;rintro e w3 ⟨rfl,hs3,ht3⟩;have HE3:Hid (ExS w w3 db sb r.tail vK vB vX kvs bvs Ks bs X):=HEX.out.step hs3 ht3;clear hs3 ht3 HEX;have h1:=HNX.out w3 _ HE3.out.src;rw[HX1.out] at h1;go_wp2_with fail
   refine h1.mono ?_;clear h1;rintro e w4 ⟨rfl,hs4,ht4⟩;have HE4:Hid (ExS w w4 db sb r.tail.tail vK vB vX kvs bvs Ks bs X):=HE3.out.step hs4 ht4;clear hs4 ht4 HE3;have h1:=HNX.out w4 _ HE4.out.src;rw[HX2.out,HX3.out] at h1;go_wp2_with fail
   refine h1.mono ?_;clear h1;rintro e w5 ⟨rfl,hs5,ht5⟩;have HE5:Hid (ExS w w5 db sb (r.drop 3) vK vB vX kvs bvs Ks bs X):=HE4.out.step hs5 ht5;clear hs5 ht5 HE4 HX1 HX2 HX3;generalize r.drop 3=r3 at *;go_upto_region 4 with fail;obtain⟨bb,hbb⟩:∃bb,bb=w5.heap.size:=⟨_,rfl⟩;rw[<- hbb];generalize hW6:w5.alloc (.cells #[.int .i64 (x.row:Nat),.int .i64 (x.f:Nat),.int .i64 (x.bin:Nat)] 184)=w6;have hb6:Below w5.heap.size w5 w6:=(by rw[<- hW6];exact(Below.refl _ _).alloc (Qa _) _);have HBB:Hid (vX.ownBlock≠some bb/\w.heap.size<=bb):=⟨fun e=>by have:=(World.ownsRow.lt HE5.out.made.ds.xn bb e).2;omega,by have:=HE5.out.t.size;omega⟩;have HE6:Hid (ExS w w6 db sb r3 vK vB vX kvs bvs Ks bs X):=HE5.out.below hb6
   have HQ6:Hid (w6.heap[bb]? =some (.cells #[.int .i64 (x.row:Nat),.int .i64 (x.f:Nat),.int .i64 (x.bin:Nat)] 184 (0,0))):=(by show _=_;rw[<- hW6,hbb];exact heap_alloc_new _ _);clear hb6 hW6 hbb HE5;have q0:w6.cell? ⟨bb,0,none⟩=some (.int .i64 (x.row:Nat)):=cell_of_row _ _ 0 _ 184 (0,0) HQ6.out;have q1:w6.cell? ⟨bb,1,none⟩=some (.int .i64 (x.f:Nat)):=cell_of_row _ _ 1 _ 184 (0,0) HQ6.out;have q2:w6.cell? ⟨bb,2,none⟩=some (.int .i64 (x.bin:Nat)):=cell_of_row _ _ 2 _ 184 (0,0) HQ6.out;have h1:=HMF.out w6 _ _ X x HE6.out (by omega);go_wp2_with fail
   refine h1.mono ?_;clear h1;rintro e w7 ⟨rfl,hb7⟩;have HE7:Hid (ExS w w7 db sb r3 vK vB vX kvs bvs Ks bs X):=HE6.out.below hb7;have HQ7:Hid (w7.heap[bb]? =some (.cells #[.int .i64 (x.row:Nat),.int .i64 (x.f:Nat),.int .i64 (x.bin:Nat)] 184 (0,0))):=(hb7.block _ (Qb HQ6.out).1).trans HQ6.out;clear hb7 HE6 HQ6 q0 q1 q2
   cases hmf:Q6 X x with
   | false=>
    have HE:Hid (exK D0 n l2 m=none):=HNO.out (by rw[HNE.out,hmf];rfl);have HT:Hid (Za (fun k=>k=sb∨k=db) w w7):=HE7.out.t;clear HNE HNO HE7 HQ7 hmf;go_wp2;go_ret;show ExE _ _ _ _ _ _ _ _ _ _ (exK D0 n l2 m) _;rw[HE.out];exact⟨rfl,HT.out⟩
   |true=>
   have HMT:Hid (Q6 X x=true):=hmf;have HNE2:Hid (exK D0 n l2 (i+1)=if YZ D0 n x=true then some (X++[x],r3) else none):=(by show _=_;rw[HNE.out,hmf];rfl);clear HNE hmf;have q0:w7.cell? ⟨bb,0,none⟩=some (.int .i64 (x.row:Nat)):=cell_of_row _ _ 0 _ 184 (0,0) HQ7.out;have q1:w7.cell? ⟨bb,1,none⟩=some (.int .i64 (x.f:Nat)):=cell_of_row _ _ 1 _ 184 (0,0) HQ7.out;have q2:w7.cell? ⟨bb,2,none⟩=some (.int .i64 (x.bin:Nat)):=cell_of_row _ _ 2 _ 184 (0,0) HQ7.out;have h1:=HME.out w7 _ _ X x HE7.out;go_wp2_with fail
   refine h1.mono ?_;clear h1;rintro e w8 ⟨rfl,hb8⟩;have HE8:Hid (ExS w w8 db sb r3 vK vB vX kvs bvs Ks bs X):=HE7.out.below hb8;have HQ8:Hid (w8.heap[bb]? =some (.cells #[.int .i64 (x.row:Nat),.int .i64 (x.f:Nat),.int .i64 (x.bin:Nat)] 184 (0,0))):=(hb8.block _ (Qb HQ7.out).1).trans HQ7.out;clear hb8 HE7 HQ7 q0 q1 q2;generalize YZ D0 n x=mx at *
   cases mx with
   | false=>
    have HE:Hid (exK D0 n l2 m=none):=HNO.out (by rw[HNE2.out];rfl);have HT:Hid (Za (fun k=>k=sb∨k=db) w w8):=HE8.out.t;clear HNE2 HNO HE8 HQ8;go_wp2;go_ret;show ExE _ _ _ _ _ _ _ _ _ _ (exK D0 n l2 m) _;rw[HE.out];exact⟨rfl,HT.out⟩
   |true=>
   have HE:Hid (exK D0 n l2 (i+1)=some (X++[x],r3)):=(by show _=_;rw[HNE2.out];rfl);clear HNE2 HNO;have q0:w8.cell? ⟨bb,0,none⟩=some (.int .i64 (x.row:Nat)):=cell_of_row _ _ 0 _ 184 (0,0) HQ8.out;have q1:w8.cell? ⟨bb,1,none⟩=some (.int .i64 (x.f:Nat)):=cell_of_row _ _ 1 _ 184 (0,0) HQ8.out;have q2:w8.cell? ⟨bb,2,none⟩=some (.int .i64 (x.bin:Nat)):=cell_of_row _ _ 2 _ 184 (0,0) HQ8.out;obtain⟨ba,bc,hvX⟩:=HE8.out.made.ds.xn.shape;subst hvX;have d2:=HE8.out.c2;go_upto_region 6 with fail;refine Zo (fun w'=>w'.cell? ⟨db,2,none⟩=some (.slice ba X.length bc)/\w'.cell? ⟨bb,0,none⟩=some (.int .i64 (x.row:Nat))/\w'.cell? ⟨bb,1,none⟩=some (.int .i64 (x.f:Nat))/\w'.cell? ⟨bb,2,none⟩=some (.int .i64 (x.bin:Nat))) 10 (by kernel_rfl) ⟨d2,q0,q1,q2⟩ (fun hHeld=>?_);refine Zm 0 ?_;refine Zm 1 ?_
   refine Zm 2 ?_;refine Zm 3 ?_;refine Zm 4 ?_;refine Zm 5 ?_;refine Zc (i:=6) (by kernel_rfl) rfl (fun KK hK=>?_);go_simp;have HB9:Hid (∀o,ExS w (w8.alloc o) db sb r3 vK vB (.slice ba X.length bc) kvs bvs Ks bs X/\(w8.alloc o).heap[bb]? =some (.cells #[.int .i64 (x.row:Nat),.int .i64 (x.f:Nat),.int .i64 (x.bin:Nat)] 184 (0,0))):=fun o=>⟨HE8.out.below ((Below.refl _ _).alloc (Qa _) _),(((Below.refl _ _).alloc (Qa _) _).block _ (Qb HQ8.out).1).trans HQ8.out⟩;refine hK.out _ _ ⟨(HB9.out _).1.c2,cell_of_row _ _ 0 _ 184 (0,0) (HB9.out _).2,cell_of_row _ _ 1 _ 184 (0,0) (HB9.out _).2,cell_of_row _ _ 2 _ 184 (0,0) (HB9.out _).2⟩ (fun hHeld=>?_);clear hK KK;try simp only[Act.put,tA,tB,tC]
   refine Zc (i:=7) (by kernel_rfl) rfl (fun KK hK=>?_);have hB9:=(HB9.out (.cells #[.int .i64 (x.row:Nat),.int .i64 (x.f:Nat),.int .i64 (x.bin:Nat)] 184)).1.below (Below.refl _ _).drew;refine Zv rfl (.tmp 31) (.tmp 33) 166 rfl 0 184 i0 (.agg #[.int .i64 0,.int .i64 0,.int .i64 0]) 3 24 Tryz.underlying166 hinf hz0 hz1 hz2 rfl (by decide) (.slice ba X.length bc) X.length (QR X) (by simp[Act.eval]) hB9.made.ds.xn ⟨w8.heap.size,0,none⟩ 1 1 (Y7 x) (by simp[Act.eval]) rfl ?_ ?_ (by decide) (by unfold maxLen;omega) (by omega) (Qg _) ?_;exact Zu w8 #[.int .i64 (x.row:Nat),.int .i64 (x.f:Nat),.int .i64 (x.bin:Nat)] 184
   ·intro u hu;simp[Y7] at hu;rcases hu with rfl|rfl|rfl<;>rfl
   intro v6 w6 H6;obtain⟨r6,g6,d6,_,q6,p6,hv6⟩:=H6.out
   have HBN:Hid (ExS w (w6.setCell ⟨db,2,none⟩ v6) db sb r3 vK vB v6 kvs bvs Ks bs (X++[x])):=hB9.more HMT.out g6 r6 (by
    rcases d6 with e|e
    exact .inl e
    exact .inr e.1)
   have t6:Za (fun k=>(Value.slice ba X.length bc).ownBlock=some k) (w8.alloc (.cells #[.int .i64 (x.row:Nat),.int .i64 (x.f:Nat),.int .i64 (x.bin:Nat)] 184)).drew w6:=(Za.refl _ _).grown g6 (fun k hx _=>hx);have hblk6:=t6.at_ hB9.made.ds.blk ((TyS.own hB9.made.ds.xn).at hB9.made.ds.blk (by decide));have c6:w6.cell? ⟨db,2,none⟩=some (.slice ba X.length bc):=cell_of_row _ _ 2 _ 168 (0,0) hblk6;have f6:w6.frozen? ⟨db,2,none⟩=false:=frozen_of_row _ _ 2 _ 168 hblk6;have hQ6:w6.heap[bb]? =some (.cells #[.int .i64 (x.row:Nat),.int .i64 (x.f:Nat),.int .i64 (x.bin:Nat)] 184 (0,0)):=t6.at_ (show(w8.alloc (.cells #[.int .i64 (x.row:Nat),.int .i64 (x.f:Nat),.int .i64 (x.bin:Nat)] 184)).drew.heap[bb]? =_ from(HB9.out (.cells #[.int .i64 (x.row:Nat),.int .i64 (x.f:Nat),.int .i64 (x.bin:Nat)] 184)).2) HBB.out.1
   have s0:w6.cell? ⟨bb,0,none⟩=some (.int .i64 (x.row:Nat)):=cell_of_row _ _ 0 _ 184 (0,0) hQ6;have s1:w6.cell? ⟨bb,1,none⟩=some (.int .i64 (x.f:Nat)):=cell_of_row _ _ 1 _ 184 (0,0) hQ6;have s2:w6.cell? ⟨bb,2,none⟩=some (.int .i64 (x.bin:Nat)):=cell_of_row _ _ 2 _ 184 (0,0) hQ6;subst hv6;clear H6 r6 g6 d6 hB9 t6 hblk6 hQ6 HB9 HE8 HQ8;refine hK.out _ _ ⟨c6,s0,s1,s2⟩ (fun hHeld=>?_);clear hK KK;try simp only[Act.put,tA,tB,tC]
   refine Zm 8 ?_;refine Zm 9 ?_;refine Zh (i:=10) (by kernel_rfl) rfl (by kernel_rfl) (fun KK hK=>?_);go_simp;refine hK.out _ _ ?_;clear hK KK;try simp only[Act.put,tA,tB,tC]
   refine Zj (by kernel_rfl) ?_ _;go_wp2;go_roundw;case rel=>exact⟨i+1,_,_,_,by go_num,by omega,by simp;omega,HE,HBN⟩
   case measure=>simp[intOf];omega
  have hni:¬(i:Int)<(m:Int):=(by omega);have hii:i=m:=(by omega);subst hii;go_wp2;go_ret;show ExE _ _ _ _ _ _ _ _ _ _ (exK D0 n l2 i) _;rw[HEK.out];exact⟨rfl,vX,HEX.out⟩
end Go.Proofs.YtfcgnpchbcmdeaaGreat
namespace Go.Proofs.YtfcgnpchbcmdeaaGreat
set_option linter.unusedSimpArgs false
set_option maxRecDepth 100000
set_option maxHeartbeats 16000000
open Go.RowKit
def ZU(L:List Int):Prop:=∀b∈L,0<=b/\b<256
theorem ZU.nil:ZU []:=by intro b hb;simp at hb
theorem ZU.append{A B:List Int}(a:ZU A)(b:ZU B):ZU (A++B):=fun x hx=>by
 rcases List.mem_append.1 hx with h|h
 exact a x h;exact b x h
theorem ZU.cons{x:Int}{A:List Int}(h1:0<=x/\x<256)(a:ZU A):ZU (x::A):=fun y hy=>by
 rcases List.mem_cons.1 hy with rfl|h
 exact h1;exact a y h
theorem ZU.flat{α:Type}{f:α->List Int}{L:List α}(h:∀x∈L,ZU (f x)):ZU (L.flatMap f):=fun y hy=>by obtain⟨x,hx,hy⟩:=List.mem_flatMap.1 hy;exact h x hx y hy
theorem QD(x:Int):0<=x%256/\x%256<256:=by omega
theorem Zf8(n:Int):∀j,ZU (YT n j)
 |0=>ZU.nil
 |j+1=>by unfold YT;exact(Zf8 n j).append (ZU.cons (QD _) ZU.nil)
theorem ZnR(b:ByteArray):ZU (Zb b):=fun x hx=>by unfold Zb at hx;obtain⟨u,_,rfl⟩:=List.mem_map.1 hx;have:=u.toNat_lt;omega
theorem Zqe{f:Nat->Nat}(hf:∀t,f t<=1)(nb T:Nat):ZU (ZK f nb T):=fun x hx=>by unfold ZK at hx;obtain⟨j,_,rfl⟩:=List.mem_map.1 hx;have:=Zgt hf T j;omega
theorem Zqu(L:List (Nat×Nat)):∀k,ZU (spK L k)
 |0=>by unfold spK;exact ZU.nil
 |k+1=>by unfold spK;exact(Zqu L k).append (ZU.cons (QD _) (ZU.cons (QD _) ZU.nil))
theorem ZqR(N:List Nat)(g:Nat):ZU (ZbZ N g):=by unfold ZbZ;split;unfold Zhj;exact ZU.append (ZU.cons (by omega) (ZU.cons (QD _) ZU.nil)) (Zqu _ _);exact ZU.cons (by omega) (Zqe (fun t=>ZbY _ _ t) _ _)
theorem ZrH(fs:List Nat):ZU (byN fs):=fun x hx=>by unfold byN at hx;obtain⟨j,_,rfl⟩:=List.mem_map.1 hx;exact QD _
theorem ZqQ(b:BS):ZU (YO b):=by unfold YO;exact(ZU.append (ZU.cons (QD _) ZU.nil) (ZrH _)).append (ZqR _ _)
theorem ZrX(k:KS):ZU (knA k):=by unfold knA;split;unfold ZhS ZbV;exact ZU.append (ZU.cons (by omega) (ZU.cons (QD _) (ZU.cons (QD _) ZU.nil))) (ZU.flat (fun s _=>ZU.cons (QD _) (ZnR s)));unfold knB Zbe;exact ZU.append (ZU.cons (by omega) (ZU.cons (QD _) (ZU.cons (QD _) ZU.nil))) (ZU.flat (fun s _=>Zf8 s 4))
theorem ZsP(x:XS):ZU (xB x):=ZU.cons (QD _) (ZU.cons (QD _) (ZU.cons (QD _) ZU.nil))
theorem Zgb(D:QP)(X:List XS):ZU (Zag D X):=by unfold Zag;refine ZU.append (ZU.append (ZU.append (ZU.append (ZU.append ?_ (ZU.flat fun k _=>ZrX k)) ?_) (ZU.flat fun b _=>ZqQ b)) (Zf8 _ _)) (ZU.flat fun x _=>ZsP x);exact ZU.cons (by omega) (ZU.cons (by omega) (ZU.cons (QD _) (ZU.cons (QD _) ZU.nil)));exact ZU.cons (QD _) ZU.nil
theorem Zfo.bun{n:Nat}{D:QP}(h:Zfo n D):∀b∈D.bs,Zgf b:=fun b hb=>by
 have h1:=h.bok b hb;have h2:=h.g40 b hb;have h3:=h.f4 b hb;have h4:=h.n2;have h5:=h.k4;have hb6:Lib.bitLen b.g<=6:=Zat (by omega);have hmul:b.N.length*Lib.bitLen b.g<=200*6:=Nat.mul_le_mul (by rw[h1.len];exact h4) hb6;have hsl:=Zdp b.N b.N.length;have hpl:=QM (YG b.N (Lib.bitLen b.g)) ((b.N.length*Lib.bitLen b.g+7)/8) (b.N.length*Lib.bitLen b.g);have hNl:=h1.len;refine⟨by omega,fun f hf=>by have:=h.fk b hb f hf;omega,⟨by omega,fun x hx=>?_⟩,by omega,?_⟩;obtain⟨a1,a2,_⟩:=(Zco _ _ x).1 hx;refine⟨by omega,?_⟩;rw[a2,Qc,Qd a1];have:=h1.le _ (Qf a1);simp only[Option.getD_some];omega
 unfold YO;rw[Qe,Qe];have hby:(byN b.fs).length=b.fs.length:=by simp[byN]
 have hcb:(ZbZ b.N b.g).length<=1000:=(by unfold ZbZ;split;unfold Zhj;rw[Qe,Zdq];simp;omega;rw[List.length_cons,hpl];omega);rw[hby];simp;omega
theorem Zkg(gb db n:Nat)(D:QP)(w:World)(h:Zba w gb db D)(hd:Zfo n D)(hkn:∀K∈D.ks,Zd1 K)(X:List XS)(hX:X.Perm D.xs)(hs:ZaE X):Calls Tryz.prog 34 #[.pointer (some ⟨gb,0,none⟩)] w fun e w'=>e=.returned (.string (strOfNums (Z6 D X)))/\Below w.heap.size w w':=by obtain⟨vK,vB,vX,kvs,bvs,Y,hY⟩:=h.md;obtain rfl:X=Y:=Zmz hd.keys hX hs hY.perm hY.sorted;exact Zd8 gb db vK vB vX kvs bvs X D w h.gp hY hd.b0 hkn hd.k4 hd.bun hd.b4 (by rw[hX.length_eq];have:=hd.xl;omega) (Zgb D X)
end Go.Proofs.YtfcgnpchbcmdeaaGreat
namespace Go.Proofs.YtfcgnpchbcmdeaaGreat
set_option linter.unusedSimpArgs false
set_option maxRecDepth 100000
set_option maxHeartbeats 16000000
open Go.RowKit Go.Lib Go.Sort
def ByI(l:List Int):Prop:=∀x∈l,0<=x/\x<=255
section
variable {l:List Int}
theorem ByI.tail(h:ByI l):ByI l.tail:=fun x hx=>h x (List.mem_of_mem_tail hx)
theorem ByI.drop(h:ByI l)(k:Nat):ByI (l.drop k):=fun x hx=>h x (List.mem_of_mem_drop hx)
theorem ByI.restW(h:ByI l):∀k,ByI (restW l k)
 |0=>h
 |k+1=>((ByI.restW h k).tail).drop _
theorem ByI.rdR(h:ByI l):ByI (rdR l):=by unfold Go.Proofs.YtfcgnpchbcmdeaaGreat.rdR;split;exact(h.drop 3).restW _;exact(h.drop 3).drop _
theorem ByI.lstR(h:ByI l):ByI (lstR l):=h.tail.drop _
theorem ByI.rdColR(h:ByI l)(n g:Nat):ByI (rdColR l n g):=by unfold Go.Proofs.YtfcgnpchbcmdeaaGreat.rdColR;split;exact h.tail.tail.drop _;exact h.tail.drop _
theorem ByI.lstK(h:ByI l):∀f∈lstK l,0<=f:=fun f hf=>by obtain⟨j,_,rfl⟩:=List.mem_map.1 hf;exact(Qm h.tail j).1
end
structure KOk(K:KS):Prop where
 kn:Zd1 K
 cn:K.e.cnt<=16
 mb:Zeb K.e=true
 hd:K.d<K.e.cnt+2
theorem ZqD{ws:List ByteArray}(h:Yf ws=true):∀s∈ws,s.size<=8:=fun s hs=>by
 unfold Yf Zak at h;rw[List.all_eq_true] at h;obtain⟨i,hi,rfl⟩:=List.getElem_of_mem hs;have h1:=h i (List.mem_range.2 hi);rw[Bool.and_eq_true] at h1;have h2:=h1.1;rw[Qc,Qd hi,Option.getD_some] at h2;unfold Q1 at h2;rw[Bool.and_eq_true] at h2
 simpa using h2.2
theorem ZsC{l:List Int}(hb:ByI l)(h:(Zeb (QW l)&&ZaP (QW l) (rdD l:Nat))=true):KOk ⟨QW l,rdD l⟩:=by rw[Bool.and_eq_true] at h;have hm:=h.1;have h2:=h.2;have hc:(QW l).cnt<=16/\Yf (QW l).ww=true:=(by unfold Zeb at hm;simp only[Bool.and_eq_true,decide_eq_true_eq] at hm;exact⟨hm.1.1,hm.2⟩);have hb2:=Qm hb 2;refine⟨?_,hc.1,hm,?_⟩;unfold Zd1;simp only;have hw:=ZqD hc.2;unfold QW at hw ⊢;split;rename_i h9;rw[if_pos h9] at hw;exact .inr ⟨rfl,rfl,by rw[Zdt];omega,hw⟩;refine .inl ⟨rfl,rfl,by rw[Zdm];omega,fun x hx=>?_⟩;obtain⟨j,_,rfl⟩:=List.mem_map.1 hx;have:=ZnA ((l.drop 3).drop (4*j));omega;unfold ZaP at h2;simp only[decide_eq_true_eq] at h2;show rdD l<(QW l).cnt+2;omega
theorem ZlV{l:List Int}(hb:ByI l):∀(k:Nat) (Ks:List KS) (r:List Int),fsK l k=some (Ks,r)->Ks.length=k/\(∀K∈Ks,KOk K)/\ByI r
 |0,Ks,r,h=>by simp only[fsK,Option.some.injEq,Prod.mk.injEq] at h;rw[<- h.1,<- h.2];exact⟨rfl,by simp,hb⟩
 | k + 1,Ks,r,h=>by
  cases hk:fsK l k with
  |none=>simp only[fsK,hk] at h;cases h
  | some p=>
   obtain⟨K0,r0⟩:=p;obtain⟨h1,h2,h3⟩:=ZlV hb k K0 r0 hk;simp only[fsK,hk] at h
   by_cases hc:(Zeb (QW r0)&&ZaP (QW r0) (rdD r0:Nat))=true
   ·rw[if_pos hc] at h;simp only[Option.some.injEq,Prod.mk.injEq] at h;rw[<- h.1,<- h.2];refine⟨by simp[h1],fun K hK=>?_,h3.rdR⟩
    rcases List.mem_append.1 hK with h4|h4
    exact h2 K h4;simp only[List.mem_cons,List.not_mem_nil,or_false] at h4;rw[h4];exact ZsC h3 hc
   rw[if_neg hc] at h
   cases h
theorem ZgN(a:List Int)(i j:Nat)(v:Int)(hi:i<a.length):(a.set i v).getD j 0=if i=j then v else a.getD j 0:=by
 rw[Qc,Qc,List.getElem?_set]
 by_cases h:i=j
 subst h;simp[hi];simp[h]
theorem ZiO{fs st:List Int}(h:∀f∈fs,0<=f/\f<st.length)(g:Nat):∀k,k<=fs.length->(YA fs st k).getD g 0=st.getD g 0+(((fs.take k).map Int.toNat).count g:Nat)
 |0,_=>by simp[YA]
 | k+1,hk=>by
  have hlt:k<fs.length:=(by omega);have hm:fs.getD k 0∈fs:=(by rw[Qc,Qd hlt];exact Qf _);have hf:=h _ hm;have ih:=ZiO h g k (by omega);have hT:fs.take (k+1)=fs.take k++[fs.getD k 0]:=(by rw[Qi hlt];simp[List.getD,hlt]);simp only[YA];rw[ZgN _ _ _ _ (by rw[Zfi];omega),hT,List.map_append,List.count_append];have hcs:(List.map Int.toNat [fs.getD k 0]).count g=if(fs.getD k 0).toNat=g then 1 else 0:=(by show List.count g [_]=_;rw[List.count_singleton];simp only[beq_iff_eq]);rw[hcs]
  by_cases e:(fs.getD k 0).toNat=g
  rw[if_pos e,if_pos e,e,ih];omega;rw[if_neg e,if_neg e,ih];omega
theorem Zgq(Ks:List KS)(fs:List Int):Yg Ks fs=QO Ks (fs.map Int.toNat):=by unfold Yg QO;rw[List.map_map];rfl
structure Zsi(Ks:List KS)(n:Nat)(b:BS):Prop where
 len:b.N.length=n
 le:∀x∈b.N,x<=255
 g40:b.g<=40
 f0:0<b.fs.length
 fk:∀f∈b.fs,f<Ks.length
 sum:b.g=QO Ks b.fs
 col:Yk Ks (ZG b.fs) (atN b.N b.g)=true
theorem Zi4{Ks:List KS}{n:Nat}{l:List Int}(hb:ByI l):∀(k:Nat) (bs:List BS) (st r:List Int),bdK Ks n l k=some (bs,st,r)->bs.length=k/\st.length=Ks.length/\(∀b∈bs,Zsi Ks n b)/\(∀g,st.getD g 0=((bs.flatMap (·.fs)).count g:Nat))/\ByI r
 |0,bs,st,r,h=>by simp only[bdK,Option.some.injEq,Prod.mk.injEq] at h;rw[<- h.1,<- h.2.1,<- h.2.2];refine⟨rfl,by simp,by simp,fun g=>?_,hb⟩;simp only[List.flatMap_nil,List.count_nil];rw[Qc,List.getElem?_replicate];split<;>rfl
 | k + 1,bs,st,r,h=>by
  cases hk:bdK Ks n l k with
  |none=>simp only[bdK,hk] at h;cases h
  | some p=>
   obtain⟨b0,s0,r0⟩:=p;obtain⟨h1,h2,h3,h4,h5⟩:=Zi4 hb k b0 s0 r0 hk;simp only[bdK,hk] at h
   by_cases hc:(Zea Ks (lstK r0)&&Yk Ks (lstK r0) (atN (Qw (lstR r0) n (Yg Ks (lstK r0))) (Yg Ks (lstK r0))))=true
   ·rw[if_pos hc] at h;simp only[Option.some.injEq,Prod.mk.injEq] at h;rw[<- h.1,<- h.2.1,<- h.2.2];rw[Bool.and_eq_true] at hc;have hl:=hc.1;unfold Zea at hl;simp only[Bool.and_eq_true,decide_eq_true_eq,List.all_eq_true] at hl;have hnn:=h5.lstK;have hin:∀f∈lstK r0,0<=f/\f<Ks.length:=fun f hf=>⟨hnn f hf,hl.1 f hf⟩;have hg:Yg Ks (lstK r0)<64:=(by omega);refine⟨by simp[h1],by rw[Zfi];exact h2,fun b hbm=>?_,fun g=>?_,h5.lstR.rdColR _ _⟩
    ·rcases List.mem_append.1 hbm with h6|h6
     exact h3 b h6;simp only[List.mem_cons,List.not_mem_nil,or_false] at h6;subst h6;refine⟨Zff h5.lstR n hg,fun x hx=>?_,hl.2.2,by simpa using hl.2.1,fun f hf=>?_,Zgq _ _,by simp only;rw[Znt hnn];exact hc.2⟩;unfold Qw at hx;obtain⟨y,hy,rfl⟩:=List.mem_map.1 hx;have:=(Zdo h5.lstR n hg).2 y hy;omega;obtain⟨y,hy,rfl⟩:=List.mem_map.1 hf;have:=hin y hy;omega
    rw[ZiO (fun f hf=>by rw[h2];exact hin f hf) g _ (Qa _),h4 g,List.flatMap_append,List.count_append,List.take_length];simp
   rw[if_neg hc] at h
   cases h
theorem Zfu:∀(bs:List BS),(∀b∈bs,0<b.fs.length)->bs.length<=(bs.flatMap (·.fs)).length/\∀b∈bs,b.fs.length<=(bs.flatMap (·.fs)).length
 |[],_=>by simp
 | b::bs,h=>by
  obtain⟨h1,h2⟩:=Zfu bs (fun x hx=>h x (by simp[hx]));have h0:=h b (by simp);simp only[List.flatMap_cons,Qe,List.length_cons];refine⟨by omega,fun x hx=>?_⟩
  rcases List.mem_cons.1 hx with rfl|hx
  omega;have:=h2 x hx;omega
structure Zso(Ks:List KS)(bs:List BS):Prop where
 all:∀f,f<Ks.length->∃b∈bs,f∈b.fs
 b4:bs.length<=Ks.length
 f4:∀b∈bs,b.fs.length<=Ks.length
theorem Zk2{Ks:List KS}{bs:List BS}{st:List Int}(hl:st.length=Ks.length)(hf0:∀b∈bs,0<b.fs.length)(hfk:∀b∈bs,∀f∈b.fs,f<Ks.length)(ho:∀g,st.getD g 0=((bs.flatMap (·.fs)).count g:Nat))(h1:Ys st=true):Zso Ks bs:=by
 unfold Ys at h1;simp only[List.all_eq_true,decide_eq_true_eq] at h1
 have hc:∀f,f<Ks.length->(bs.flatMap (·.fs)).count f=1:=fun f hf=>by have h2:=ho f;have h3:st.getD f 0=1:=h1 _ (by rw[Qc,Qd (by omega)];exact Qf _);omega
 have hp:(bs.flatMap (·.fs)).Perm (List.range Ks.length):=by
  rw[List.perm_iff_count];intro a;rw[List.nodup_range.count]
  by_cases ha:a<Ks.length
  rw[hc a ha,if_pos (List.mem_range.2 ha)];rw[if_neg (fun h=>ha (List.mem_range.1 h)),List.count_eq_zero];intro hm;obtain⟨b,hb,hm⟩:=List.mem_flatMap.1 hm;exact ha (hfk b hb a hm)
 have hlen:=hp.length_eq;rw[List.length_range] at hlen;obtain⟨h2,h3⟩:=Zfu bs hf0;refine⟨fun f hf=>?_,by omega,fun b hb=>by have:=h3 b hb;omega⟩;have:f∈bs.flatMap (·.fs):=hp.mem_iff.2 (List.mem_range.2 hf);exact List.mem_flatMap.1 this
structure Zsr(D:QP)(n:Nat)(X:List XS):Prop where
 each:∀x∈X,YZ D n x=true
 len:∀x∈X.getLast?,X.length<=x.row*4+x.f+1
theorem Zdk{D:QP}{n:Nat}{x:XS}(h:YZ D n x=true):x.row<n/\x.f<D.ks.length/\x.bin<(D.ks.getD x.f ZB).e.cnt+2:=by unfold YZ at h;simp only[Bool.and_eq_true,decide_eq_true_eq] at h;refine⟨h.1,h.2.1,?_⟩;have h1:=h.2.2.1;unfold ZdC ZaP at h1;simp only[Bool.and_eq_true,decide_eq_true_eq] at h1;omega
theorem ZpN{D:QP}{n:Nat}{l:List Int}(h4:D.ks.length<=4):∀(k:Nat) (X:List XS) (r:List Int),exK D n l k=some (X,r)->X.length=k/\r=l.drop (3*k)/\Zsr D n X
 |0,X,r,h=>by simp only[exK,Option.some.injEq,Prod.mk.injEq] at h;rw[<- h.1,<- h.2];exact⟨rfl,by simp,by simp,by simp⟩
 | k + 1,X,r,h=>by
  cases hk:exK D n l k with
  |none=>simp only[exK,hk] at h;cases h
  | some p=>
   obtain⟨X0,r0⟩:=p;obtain⟨h1,h2,h3⟩:=ZpN h4 k X0 r0 hk;simp only[exK,hk] at h
   by_cases hc:(Q6 X0 (rdX r0)&&YZ D n (rdX r0))=true
   ·rw[if_pos hc] at h;simp only[Option.some.injEq,Prod.mk.injEq] at h;rw[<- h.1,<- h.2];rw[Bool.and_eq_true] at hc;generalize rdX r0=x at *;have hin:=Zdk hc.2;refine⟨by simp[h1],by rw[h2,List.drop_drop];congr 1,fun y hy=>?_,fun y hy=>?_⟩
    ·rcases List.mem_append.1 hy with h6|h6
     exact h3.each y h6;simp only[List.mem_cons,List.not_mem_nil,or_false] at h6;rw[h6];exact hc.2
    simp only[List.getLast?_append,List.getLast?_singleton,Option.some_or,Option.mem_def,Option.some.injEq] at hy;subst hy;rw[Qe,List.length_singleton]
    by_cases h0:X0.length=0
    omega;have hf:=hc.1;unfold Q6 at hf;rw[decide_eq_false h0,Bool.false_or,decide_eq_true_eq] at hf;have hl:=ltX (X0.getD (X0.length-1) x0S) x
    have hlt:(X0.getD (X0.length-1) x0S).row<x.row∨(X0.getD (X0.length-1) x0S).row=x.row/\(X0.getD (X0.length-1) x0S).f<x.f:=by
     have h7:ltOf ZdA (X0.getD (X0.length-1) x0S) x=true:=by unfold ltOf;simpa using hf
     rw[hl] at h7
     simpa using h7
    have hg:X0.getLast? =some (X0.getD (X0.length-1) x0S):=(by rw[List.getLast?_eq_getElem?,Qc,Qd (by omega)];rfl);have h8:=h3.len _ hg;have h9:=Zdk (h3.each _ (List.mem_of_getLast? hg));omega
   rw[if_neg hc] at h
   cases h
end Go.Proofs.YtfcgnpchbcmdeaaGreat
namespace Go.Proofs.YtfcgnpchbcmdeaaGreat
set_option linter.unusedSimpArgs false
set_option maxRecDepth 100000
set_option maxHeartbeats 16000000
open Go.RowKit
def Zcx(l:List Int):Option (QP×List Int):=
 if 200<(l.getD 2 0).toNat∨(l.getD 3 0).toNat<1∨4<(l.getD 3 0).toNat then none
 else match fsK (l.drop 4) (l.getD 3 0).toNat with
 |none=>none
 | some (Ks,r)=>match bdK Ks (l.getD 2 0).toNat r.tail (r.headD 0).toNat with
  |none=>none
  | some (bs,st,r2)=>if Ys st=true then match exK ⟨Ks,bs,[]⟩ (l.getD 2 0).toNat (r2.drop 2) (ZaQ r2 2) with
    |none=>none
    |some (X,r3)=>some (⟨Ks,bs,X⟩,r3)
   else none
def RdP(w w':World)(db sb:Nat)(o:Option (QP×List Int))(e:Ending):Prop:=match o with
 |none=>e=.returned (.bool false)/\Za (fun k=>k=sb∨k=db) w w'
 |some (D,_)=>e=.returned (.bool true)/\(∃vK vB vX kvs bvs,Zaa w' db vK vB vX kvs bvs D.xs D)/\Za (fun k=>k=sb∨k=db) w w'
theorem Za.both{w w1 w2:World}{db sb:Nat}(a:Za (fun k=>k=sb) w w1)(b:Za (fun k=>k=sb∨k=db) w1 w2):Za (fun k=>k=sb∨k=db) w w2:=(a.mono (fun _ _ e=>.inl e)).trans b
theorem Zqk(db sb:Nat)(l:List Int)(w:World)(h:ZI w sb l)(hd:w.heap[db]? =some (.cells #[.slice none 0 0,.slice none 0 0,.slice none 0 0] 168 (0,0)))(hne:db≠sb):Calls Tryz.prog 99 #[.pointer (some ⟨db,0,none⟩),.pointer (some ⟨sb,0,none⟩)] w fun e w'=>RdP w w' db sb (Zcx l) e:=by
 have hb:=h.byte;have HBY:Hid (ByI l):=hb;have y2:=Qm hb 2;have y3:=Qm hb 3;have HTX:Hid (Calls Tryz.prog 164 #[.pointer (some ⟨sb,0,none⟩),.int .i64 2] w fun e w'=>(∃T,e=.returned (.string T)/\Zb T=l.take 2)/\ZI w' sb (l.drop 2)/\Za (fun k=>k=sb) w w'):=ZfF sb 2 l w h;have HNX:Hid (∀(W:World) (l:List Int),ZI W sb l->Calls Tryz.prog 165 #[.pointer (some ⟨sb,0,none⟩)] W fun e w'=>e=.returned (.int .i64 (l.headD 0))/\ZI w' sb l.tail/\Za (fun k=>k=sb) W w'):=fun W l hS=>YE sb l W hS;obtain⟨n,hn⟩:∃n:Nat,l.getD 2 0=(n:Int):=⟨(l.getD 2 0).toNat,by omega⟩;obtain⟨c,hc⟩:∃c:Nat,l.getD 3 0=(c:Int):=⟨(l.getD 3 0).toNat,by omega⟩
 have HN:Hid ((l.drop 2).headD 0=(n:Int)/\(l.drop 2).tail=l.drop 3/\(l.drop 3).headD 0=(c:Int)/\(l.drop 3).tail=l.drop 4):=⟨by rw[ZP];exact hn,Q8 _ _,by rw[ZP];exact hc,Q8 _ _⟩
 have HRD:Hid (Zcx l=if 200<n∨c<1∨4<c then none else match fsK (l.drop 4) c with
  |none=>none
  | some (Ks,r)=>match bdK Ks n r.tail (r.headD 0).toNat with
   |none=>none
   | some (bs,st,r2)=>if Ys st=true then match exK ⟨Ks,bs,[]⟩ n (r2.drop 2) (ZaQ r2 2) with
     |none=>none
     |some (X,r3)=>some (⟨Ks,bs,X⟩,r3)
    else none):=by show _=_;unfold Zcx;rw[hn,hc,Int.toNat_natCast,Int.toNat_natCast]
 have HD:Hid (∀W,Za (fun k=>k=sb) w W->W.heap[db]? =some (.cells #[.slice none 0 0,.slice none 0 0,.slice none 0 0] 168 (0,0))):=fun W t=>t.at_ hd hne;have hc2:c<=255:=(by omega);have hn2:n<=255:=(by omega);clear h hd hb y2 y3 hn hc hne;generalize Zcx l=R at *;go_enter Tryz.func99,Tryz.ntmps99;go_wp2_with fail
 refine HTX.out.mono ?_;rintro e w1 ⟨⟨T,rfl,_⟩,hs1,ht1⟩;have HT1:Hid (Za (fun k=>k=sb) w w1):=ht1;have h1:=HNX.out w1 _ hs1;rw[HN.out.1,HN.out.2.1] at h1;clear hs1 ht1 HTX;go_wp2_with fail
 refine h1.mono ?_;clear h1;rintro e w2 ⟨rfl,hs2,ht2⟩;have HT2:Hid (Za (fun k=>k=sb) w w2):=HT1.out.trans ht2;have h1:=HNX.out w2 _ hs2;rw[HN.out.2.2.1,HN.out.2.2.2] at h1;clear hs2 ht2 HT1;go_wp2_with fail
 refine h1.mono ?_;clear h1;rintro e w3 ⟨rfl,hs3,ht3⟩;have HT3:Hid (Za (fun k=>k=sb) w w3):=HT2.out.trans ht3;have HS3:Hid (ZI w3 sb (l.drop 4)):=hs3;clear hs3 ht3 HT2 HN HNX
 by_cases hg1:200<n
 ·have g1:(200:Int)<(n:Int):=(by omega);have HR:Hid (R=none):=(by show _=_;rw[HRD.out,if_pos (.inl hg1)]);clear HRD;go_wp2;go_ret;show RdP _ _ _ _ R _;rw[HR.out];exact⟨rfl,HT3.out.mono (fun _ _ e=>.inl e)⟩
 have g1:¬(200:Int)<(n:Int):=by omega
 by_cases hg2:c<1
 ·have g2:(c:Int)<(1:Int):=(by omega);have HR:Hid (R=none):=(by show _=_;rw[HRD.out,if_pos (.inr (.inl hg2))]);clear HRD;go_wp2;go_ret;show RdP _ _ _ _ R _;rw[HR.out];exact⟨rfl,HT3.out.mono (fun _ _ e=>.inl e)⟩
 have g2:¬(c:Int)<(1:Int):=by omega
 by_cases hg3:4<c
 ·have g3:(4:Int)<(c:Int):=(by omega);have HR:Hid (R=none):=(by show _=_;rw[HRD.out,if_pos (.inr (.inr hg3))]);clear HRD;go_wp2;go_ret;show RdP _ _ _ _ R _;rw[HR.out];exact⟨rfl,HT3.out.mono (fun _ _ e=>.inl e)⟩
 have g3:¬(4:Int)<(c:Int):=(by omega);have hF:=Zfg db sb c (l.drop 4) w3 HS3.out (HD.out w3 HT3.out) (by omega);go_wp2_with fail
 refine hF.mono ?_;clear hF;intro e w4 hF
 cases hfs:fsK (l.drop 4) c with
 | none=>
  rw[hfs] at hF;obtain⟨rfl,ht4⟩:=hF;have HR:Hid (R=none):=(by show _=_;rw[HRD.out,if_neg (by omega),hfs]);have HT4:Hid (Za (fun k=>k=sb∨k=db) w w4):=HT3.out.both ht4;clear HRD ht4 hfs;go_wp2;go_ret;show RdP _ _ _ _ R _;rw[HR.out];exact⟨rfl,HT4.out⟩
 |some p=>
 obtain⟨Ks,r⟩:=p;rw[hfs] at hF;obtain⟨rfl,vK,kvs,hF⟩:=hF;obtain⟨hkl,hko,hbr⟩:=ZlV (HBY.out.drop 4) c Ks r hfs
 have HRD2:Hid (R=match bdK Ks n r.tail (r.headD 0).toNat with
   |none=>none
   | some (bs,st,r2)=>if Ys st=true then match exK ⟨Ks,bs,[]⟩ n (r2.drop 2) (ZaQ r2 2) with
     |none=>none
     |some (X,r3)=>some (⟨Ks,bs,X⟩,r3)
    else none):=by show _=_;rw[HRD.out,if_neg (by omega),hfs]
 have HT4:Hid (Za (fun k=>k=sb∨k=db) w w4):=HT3.out.both hF.t;have HKO:Hid ((∀K∈Ks,KOk K)/\ByI r/\Ks.length=c):=⟨hko,hbr,hkl⟩;have hB:=ZfX db sb n r vK kvs Ks w4 hF.src hF.blk hF.kn (by omega) (fun K hK=>(hko K hK).cn) (by omega);clear HRD hfs hF hkl hko hbr HS3 HT3;go_wp2_with fail
 refine hB.mono ?_;clear hB;intro e w5 hB
 cases hbd:bdK Ks n r.tail (r.headD 0).toNat with
 | none=>
  rw[hbd] at hB;obtain⟨rfl,ht5⟩:=hB;have HR:Hid (R=none):=(by show _=_;rw[HRD2.out,hbd]);have HT5:Hid (Za (fun k=>k=sb∨k=db) w w5):=HT4.out.trans ht5;clear HRD2 ht5 hbd;go_wp2;go_ret;show RdP _ _ _ _ R _;rw[HR.out];exact⟨rfl,HT5.out⟩
 |some p=>
 obtain⟨bs,st,r2⟩:=p;rw[hbd] at hB;obtain⟨rfl,vB,bvs,hB⟩:=hB;obtain⟨hbl,hsl,hbo,hoc,hb2⟩:=Zi4 HKO.out.2.1.tail _ bs st r2 hbd;have HT5:Hid (Za (fun k=>k=sb∨k=db) w w5):=HT4.out.trans hB.t
 cases ho:Ys st with
 | false=>
  have HR:Hid (R=none):=(by show _=_;rw[HRD2.out,hbd];simp only[ho];rfl);clear HRD2 hbd hB hoc hbl hsl hbo hb2 ho;go_wp2;go_ret;show RdP _ _ _ _ R _;rw[HR.out];exact⟨rfl,HT5.out⟩
 |true=>
 have hse:=Zk2 hsl (fun b hb=>(hbo b hb).f0) (fun b hb=>(hbo b hb).fk) hoc ho
 have HRD3:Hid (R=match exK ⟨Ks,bs,[]⟩ n (r2.drop 2) (ZaQ r2 2) with
     |none=>none
     |some (X,r3)=>some (⟨Ks,bs,X⟩,r3)):=by show _=_;rw[HRD2.out,hbd];simp only[ho];rfl
 have hkl:=HKO.out.2.2;have hk0:0<Ks.length:=by omega
 have hE:=Zee db sb n r2 vK vB kvs bvs Ks bs w5 hB.src ⟨⟨hB.blk,hB.bn,World.ownsRow_nil _ _ _ _⟩,hB.kn,List.Perm.refl _,List.Pairwise.nil⟩ (by
   obtain⟨b,hb,_⟩:=hse.all 0 hk0
   exact List.length_pos_of_mem hb) (by have:=hse.b4;omega) (by omega) (fun b hb=>(hbo b hb).len) (fun b hb=>by have:=(hbo b hb).g40;omega) (fun K hK=>(HKO.out.1 K hK).cn) hk0
   (fun f hf=>Znz (D:=⟨Ks,bs,[]⟩) (hse.all f hf) (fun b hb=>by have:=hse.f4 b hb;omega) (fun b hb=>(hbo b hb).fk) (fun i hi=>by
    have:=(HKO.out.1 (Ks.getD i ZB) (by rw[Qc,Qd hi];exact Qf _)).cn;show(Ks.getD i ZB).e.cnt+2<=100
    omega))
 clear HRD2 hbd hB hoc hbl hsl hbo hb2 ho hse hk0;go_wp2_with fail
 refine hE.mono ?_;clear hE;intro e w6 hE
 cases hex:exK ⟨Ks,bs,[]⟩ n (r2.drop 2) (ZaQ r2 2) with
 | none=>
  rw[hex] at hE;obtain⟨rfl,ht6⟩:=hE;have HR:Hid (R=none):=(by show _=_;rw[HRD3.out,hex]);have HT6:Hid (Za (fun k=>k=sb∨k=db) w w6):=HT5.out.trans ht6;clear HRD3 ht6 hex;go_wp2;go_ret;show RdP _ _ _ _ R _;rw[HR.out];exact⟨rfl,HT6.out⟩
 | some p=>
  obtain⟨X,r3⟩:=p;rw[hex] at hE;obtain⟨rfl,vX,hE⟩:=hE;have HR:Hid (R=some (⟨Ks,bs,X⟩,r3)):=(by show _=_;rw[HRD3.out,hex]);have HT6:Hid (Za (fun k=>k=sb∨k=db) w w6):=HT5.out.trans hE.t;have HM6:Hid (Zaa w6 db vK vB vX kvs bvs X ⟨Ks,bs,X⟩):=hE.made;clear HRD3 hE hex;go_wp2;go_ret;show RdP _ _ _ _ R _;rw[HR.out];exact⟨rfl,⟨vK,vB,vX,kvs,bvs,HM6.out⟩,HT6.out⟩
structure ZjQ(D:QP)(n:Nat):Prop where
 n2:n<=200
 k0:0<D.ks.length
 k4:D.ks.length<=4
 ks:∀K∈D.ks,KOk K
 bo:∀b∈D.bs,Zsi D.ks n b
 se:Zso D.ks D.bs
 xo:Zsr ⟨D.ks,D.bs,[]⟩ n D.xs
theorem ZkT{l r:List Int}{D:QP}(hb:ByI l)(h:Zcx l=some (D,r)):ZjQ D (l.getD 2 0).toNat:=by
 unfold Zcx at h
 by_cases hg:200<(l.getD 2 0).toNat∨(l.getD 3 0).toNat<1∨4<(l.getD 3 0).toNat
 rw[if_pos hg] at h;cases h;rw[if_neg hg] at h
 cases hf:fsK (l.drop 4) (l.getD 3 0).toNat with
 |none=>simp only[hf] at h;cases h
 | some p=>
  obtain⟨Ks,r1⟩:=p;simp only[hf] at h;obtain⟨hkl,hko,hbr⟩:=ZlV (hb.drop 4) _ Ks r1 hf
  cases hbd:bdK Ks (l.getD 2 0).toNat r1.tail (r1.headD 0).toNat with
  |none=>simp only[hbd] at h;cases h
  | some p=>
   obtain⟨bs,st,r2⟩:=p;simp only[hbd] at h;obtain⟨hbl,hsl,hbo,hoc,hb2⟩:=Zi4 hbr.tail _ bs st r2 hbd
   cases ho:Ys st with
   |false=>simp only[ho] at h;cases h
   | true=>
    simp only[ho,if_true] at h;have hse:=Zk2 hsl (fun b hb=>(hbo b hb).f0) (fun b hb=>(hbo b hb).fk) hoc ho
    cases hex:exK ⟨Ks,bs,[]⟩ (l.getD 2 0).toNat (r2.drop 2) (ZaQ r2 2) with
    |none=>simp only[hex] at h;cases h
    | some p=>
     obtain⟨X,r3⟩:=p;simp only[hex,Option.some.injEq,Prod.mk.injEq] at h;obtain⟨_,_,hx⟩:=ZpN (D:=⟨Ks,bs,[]⟩) (show Ks.length<=4 by omega) _ X r3 hex;rw[<- h.1];exact⟨by omega,by show 0<Ks.length;omega,by show Ks.length<=4;omega,hko,hbo,hse,hx⟩
theorem ZjQ.b0{D:QP}{n:Nat}(h:ZjQ D n):0<D.bs.length:=by obtain⟨b,hb,_⟩:=h.se.all 0 h.k0;exact List.length_pos_of_mem hb
theorem ZjQ.xl{D:QP}{n:Nat}(h:ZjQ D n):D.xs.length<=800:=by
 cases hg:D.xs.getLast? with
 |none=>rw[List.getLast?_eq_none_iff] at hg;rw[hg];simp
 | some x=>
  have h1:=h.xo.len x hg;have h2:=Zdk (h.xo.each x (List.mem_of_getLast? hg));have h3:=h.n2;have h4:=h.k4;simp only at h2;omega
theorem ZjQ.bun{D:QP}{n:Nat}(h:ZjQ D n):∀b∈D.bs,Zgf b:=fun b hb=>by
 have h1:=h.bo b hb;have h2:=h1.g40;have h3:=h.se.f4 b hb;have h4:=h.n2;have h5:=h.k4;have hb6:Lib.bitLen b.g<=6:=Zat (by omega);have hmul:b.N.length*Lib.bitLen b.g<=200*6:=Nat.mul_le_mul (by rw[h1.len];exact h4) hb6;have hsl:=Zdp b.N b.N.length;have hpl:=QM (YG b.N (Lib.bitLen b.g)) ((b.N.length*Lib.bitLen b.g+7)/8) (b.N.length*Lib.bitLen b.g);have hNl:=h1.len;refine⟨by omega,fun f hf=>by have:=h1.fk f hf;omega,⟨by omega,fun x hx=>?_⟩,by omega,?_⟩;obtain⟨a1,a2,_⟩:=(Zco _ _ x).1 hx;refine⟨by omega,?_⟩;rw[a2,Qc,Qd a1];have:=h1.le _ (Qf a1);simp only[Option.getD_some];omega
 unfold YO;rw[Qe,Qe];have hby:(byN b.fs).length=b.fs.length:=by simp[byN]
 have hcb:(ZbZ b.N b.g).length<=1000:=(by unfold ZbZ;split;unfold Zhj;rw[Qe,Zdq];simp;omega;rw[List.length_cons,hpl];omega);rw[hby];simp;omega
theorem ZrC{x s:ByteArray}(h:¬x=s):(x.toList==s.toList)=false:=by
 rw[beq_eq_false_iff_ne,Lib.toList_data,Lib.toList_data];intro e;apply h
 cases x;cases s
 simp at e;rw[e]
def opD(l:List Int):Option QP:=match Zcx l with
 |none=>none
 |some (D,_)=>if Z6 D D.xs=l then some D else none
def Zfp(w:World)(db:Nat)(D:QP):Prop:=∃vK vB vX kvs bvs,Zaa w db vK vB vX kvs bvs D.xs D
theorem Zfp.below{w w':World}{db:Nat}{D:QP}(h:Zfp w db D)(hb:Below w.heap.size w w'):Zfp w' db D:=by obtain⟨vK,vB,vX,kvs,bvs,h⟩:=h;exact⟨vK,vB,vX,kvs,bvs,h.ds.below hb,h.kn.below hb,h.perm,h.sorted⟩
def OpE(w w':World)(o:Option QP)(e:Ending):Prop:=match o with
 |none=>e=.returned (.tuple #[.pointer none,.bool false])/\Below w.heap.size w w'
 |some D=>∃db,e=.returned (.tuple #[.pointer (some ⟨db,0,none⟩),.bool true])/\Zfp w' db D/\Below w.heap.size w w'
theorem Zkv(n:Int):∀j,ByI (YT n j):=fun j x hx=>by have:=Zf8 n j x hx;omega
theorem Zcd(D:QP)(X:List XS):ByI (Z6 D X):=fun x hx=>by
 unfold Z6 at hx
 rcases List.mem_append.1 hx with h|h
 have:=Zgb D X x h;omega;exact Zkv _ _ x h
theorem Zce{l:List Int}(h:ByI l):Zb (strOfNums l)=l:=by
 unfold Zb strOfNums;simp only[List.map_map]
 conv=>rhs;rw[<- List.map_id l]
 refine List.map_congr_left fun x hx=>?_;have:=h x hx;simp only[Function.comp,UInt8.toNat_ofNat',id];omega
theorem Zk7{l:List Int}{S:ByteArray}(h:ByI l):strOfNums l=S↔l=Zb S:=
 ⟨fun e=>by rw[<- e,Zce h],fun e=>by rw[e,ZbF]⟩
theorem ZlN(S:ByteArray)(w:World)(hS:S.size<=140737488355328):Calls Tryz.prog 59 #[.string S] w fun e w'=>OpE w w' (opD (Zb S)) e:=by
 obtain⟨db,hdb⟩:∃db,db=w.heap.size:=⟨_,rfl⟩;obtain⟨w1,hw1⟩:∃w1,w1=w.alloc (.cells #[.slice none 0 0,.slice none 0 0,.slice none 0 0] 168):=⟨_,rfl⟩;obtain⟨w2,hw2⟩:∃w2,w2=w1.alloc (.cells #[.string S] 180):=⟨_,rfl⟩;obtain⟨sb,hsb⟩:∃sb,sb=w1.heap.size:=⟨_,rfl⟩;have hb1:Below w.heap.size w w1:=(by rw[hw1];exact(Below.refl _ _).alloc (Qa _) _);have hk1:w1.heap[db]? =some (.cells #[.slice none 0 0,.slice none 0 0,.slice none 0 0] 168 (0,0)):=(by rw[hw1,hdb];exact heap_alloc_new _ _);have hb2:Below w1.heap.size w1 w2:=(by rw[hw2];exact(Below.refl _ _).alloc (Qa _) _);have hs2:ZI w2 sb (Zb S):=⟨S,by rw[hw2,hsb];exact heap_alloc_new _ _,rfl,hS⟩;have hl1:=(Qb hk1).1;have hB2:Below w.heap.size w w2:=hb1.trans (hb2.mono hb1.size)
 have hR:=Zqk db sb (Zb S) w2 hs2 ((hb2.block _ hl1).trans hk1) (by omega);have HT:Hid (∀W,Za (fun k=>k=sb∨k=db) w2 W->Below w.heap.size w W):=fun W t=>hB2.trans (t.to_below hB2.size (fun q hq=>by have:=hb1.size;omega));have hby:ByI (Zb S):=hs2.byte
 have HO:Hid (opD (Zb S)=match Zcx (Zb S) with
  |none=>none
  |some (D,_)=>if Z6 D D.xs=Zb S then some D else none):=rfl
 have HOK:Hid (∀D r,Zcx (Zb S)=some (D,r)->ZjQ D ((Zb S).getD 2 0).toNat):=fun D r h=>ZkT hby h;generalize opD (Zb S)=R at *;generalize Zcx (Zb S)=RD at *;rw[hdb] at hR;have hsb2:sb=w.heap.size+1:=by rw[hsb,hw1];simp
 clear hb1 hk1 hb2 hs2 hl1 hB2 hby
 go_enter Tryz.func59,Tryz.ntmps59;go_wp2_with fail
 rw[<- hw1,<- hw2,<- hsb2];refine hR.mono ?_;clear hR;intro e w3 hR
 cases RD with
 | none=>
  obtain⟨rfl,ht⟩:=hR;have HR:Hid (R=none):=HO.out;have HB:Hid (Below w.heap.size w w3):=HT.out w3 (by rw[hdb];exact ht);clear HO HOK ht;go_wp2;go_ret2
  show OpE _ _ R _;rw[HR.out];exact⟨rfl,HB.out⟩
 | some p=>
  obtain⟨D,r⟩:=p;obtain⟨rfl,⟨vK,vB,vX,kvs,bvs,hM⟩,ht⟩:=hR;have hok:=HOK.out D r rfl;have HB3:Hid (Below w.heap.size w w3):=HT.out w3 (by rw[hdb];exact ht);have HM:Hid (Zaa w3 w.heap.size vK vB vX kvs bvs D.xs D):=hM;have hBy:=Zij w.heap.size vK vB vX kvs bvs D.xs D w3 hM hok.b0 (fun K hK=>(hok.ks K hK).kn) hok.k4 hok.bun (by have:=hok.se.b4;have:=hok.k4;omega) (by have:=hok.xl;omega) (Zgb D D.xs);have HEQ:Hid (strOfNums (Z6 D D.xs)=S↔Z6 D D.xs=Zb S):=Zk7 (Zcd D D.xs);have HR:Hid (R=if Z6 D D.xs=Zb S then some D else none):=HO.out;clear hM ht HO HOK hok;generalize strOfNums (Z6 D D.xs)=S2 at *;go_wp2_with fail
  refine hBy.mono ?_;clear hBy;rintro e w4 ⟨rfl,hb4⟩;have HB4:Hid (Below w.heap.size w w4):=HB3.out.trans (hb4.mono HB3.out.size);have HM4:Hid (Zfp w4 w.heap.size D):=Zfp.below ⟨vK,vB,vX,kvs,bvs,HM.out⟩ hb4;clear hb4 HB3 HM
  by_cases hE:S2=S
  ·have HR2:Hid (R=some D):=(by show _=_;rw[HR.out,if_pos (HEQ.out.1 hE)]);subst hE;clear HR HEQ;go_wp2;go_ret2
   show OpE _ _ R _;rw[HR2.out];exact⟨_,rfl,HM4.out,HB4.out⟩
  have HR2:Hid (R=none):=(by show _=_;rw[HR.out,if_neg (fun h=>hE (HEQ.out.2 h))]);have e1:(S2.toList==S.toList)=false:=ZrC hE;clear HR HEQ;go_wp2;go_ret2
  show OpE _ _ R _;rw[HR2.out];exact⟨rfl,HB4.out⟩
structure Zsn(w:World)(gb db:Nat)(D:QP):Prop where
 gp:w.heap[gb]? =some (.cells #[.pointer (some ⟨db,0,none⟩)] 110 (0,0))
 md:Zfp w db D
def OpG(w w':World)(o:Option QP)(e:Ending):Prop:=match o with
 |none=>e=.returned (.tuple #[.pointer none,.int .i64 2])/\Below w.heap.size w w'
 |some D=>∃gb db,e=.returned (.tuple #[.pointer (some ⟨gb,0,none⟩),.int .i64 0])/\Zsn w' gb db D/\Below w.heap.size w w'
theorem Zog(S:ByteArray)(w:World)(hS:S.size<=140737488355328):Calls Tryz.prog 33 #[.string S] w fun e w'=>OpG w w' (opD (Zb S)) e:=by
 have hR:=ZlN S w hS;generalize opD (Zb S)=R at *;go_enter Tryz.func33,Tryz.ntmps33;go_wp2_with fail
 refine hR.mono ?_;clear hR;intro e w1 hR
 cases R with
 | none=>
  obtain⟨rfl,hb⟩:=hR;have HB:Hid (Below w.heap.size w w1):=hb;clear hb;go_wp2;go_ret2
  exact⟨rfl,HB.out⟩
 | some D=>
  obtain⟨db,rfl,hm,hb⟩:=hR;have HB:Hid (Below w.heap.size w w1/\Zfp w1 db D):=⟨hb,hm⟩;clear hb hm;go_wp2;go_ret2
  refine⟨w1.heap.size,db,rfl,⟨heap_alloc_new _ _,?_⟩,HB.out.1.alloc HB.out.1.size _⟩;exact HB.out.2.below ((Below.refl _ _).alloc (Qa _) _)
theorem SvP.ret{G:Nat->Prop}{sb db room:Nat}{dn:Bool}{o:Option ByteArray}{f:Option (Nat×Nat)}{t:ByteArray}{w w':World}{e:Ending}(h:SvP G sb db room dn o f t w e w'):∃z,e=.returned (.int .i64 z):=by rcases h with⟨_,h,_⟩|⟨_,h,_⟩|⟨_,h,_⟩|⟨_,h,_⟩<;>exact⟨_,h⟩
theorem DkS.sto{w:World}{G:Nat->Prop}{sb db room:Nat}{dn:Bool}{o:Option ByteArray}{f:Option (Nat×Nat)}(h:DkS w G sb db room dn o f):ZaG w sb db:=by obtain⟨_,_,_,_,_,_,_,_,_,h⟩:=h;exact h
theorem SvP.sto{G:Nat->Prop}{sb db room:Nat}{dn:Bool}{o:Option ByteArray}{f:Option (Nat×Nat)}{t:ByteArray}{w w':World}{e:Ending}(h:SvP G sb db room dn o f t w e w'):ZaG w' sb db:=by rcases h with⟨_,_,h,_⟩|⟨_,_,⟨_,h⟩,_⟩|⟨_,_,h,_⟩|⟨_,_,_,⟨_,h⟩,_⟩<;>exact h.sto
theorem SvP.later{G:Nat->Prop}{sb db room:Nat}{dn:Bool}{o:Option ByteArray}{f:Option (Nat×Nat)}{t:ByteArray}{w w1 w':World}{e:Ending}(h:SvP G sb db room dn o f t w1 e w')(hb:Za G w w1):SvP G sb db room dn o f t w e w':=by
 rcases h with⟨a,b,c,d⟩|⟨a,b,c,d⟩|⟨a,b,c,d⟩|⟨a,b,c,d,g⟩
 exact .inl ⟨a,b,c,hb.trans d⟩;exact .inr (.inl ⟨a,b,c,hb.trans d⟩);exact .inr (.inr (.inl ⟨a,b,c,hb.trans d⟩));exact .inr (.inr (.inr ⟨a,b,c,d,hb.trans g⟩))
theorem ZpL(room:Nat)(w:World):Calls Tryz.prog 62 #[.int .i64 (room:Nat)] w fun e w'=>e=.returned (.pointer (some ⟨w.heap.size,0,none⟩))/\w'=w.alloc (.cells #[.int .i64 (room:Nat),.bool false,.pointer none,.pointer none,.pointer none,.pointer none,.pointer none] 192):=by go_enter Tryz.func62,Tryz.ntmps62;go_wp2;go_ret;exact⟨rfl,rfl⟩
theorem Zod(room:Nat)(w:World)(hr:room<=10000):Calls Tryz.prog 35 #[.int .i64 (room:Nat)] w fun e w'=>∃sb db,e=.returned (.tuple #[.pointer (some ⟨sb,0,none⟩),.int .i64 0])/\DkS w' (fun k=>w.heap.size<=k) sb db room false none none/\Below w.heap.size w w':=by
 have HN:Hid (∀W:World,Calls Tryz.prog 62 #[.int .i64 (room:Nat)] W fun e w'=>e=.returned (.pointer (some ⟨W.heap.size,0,none⟩))/\w'=W.alloc (.cells #[.int .i64 (room:Nat),.bool false,.pointer none,.pointer none,.pointer none,.pointer none,.pointer none] 192)):=fun W=>ZpL room W;have HW:Hid (Calls Tryz.prog 61 #[.int .i64 (room:Nat),.int .i64 0,.int .i64 10000] w fun e w'=>e=.returned (.bool true)/\w'=w):=ZhB _ _ _ w (by omega);go_enter Tryz.func35,Tryz.ntmps35;go_wp2_with fail
 refine HW.out.mono ?_;rintro e w1 ⟨rfl,hw1⟩;obtain rfl:=hw1.symm;clear hw1 HW;go_wp2_with fail
 refine(HN.out _).mono ?_;rintro e w1 ⟨rfl,hw1⟩;have hb1:Below w.heap.size w w1:=(by rw[hw1];exact(Below.refl _ _).alloc (Qa _) _);have hD1:Z8 w1 w.heap.size room false none none none none none:=(by rw[hw1];exact heap_alloc_new _ _);have HD:Hid (Below w.heap.size w w1/\Z8 w1 w.heap.size room false none none none none none):=⟨hb1,hD1⟩;clear hw1 hb1 hD1 HN;go_wp2;go_ret2
 have hb2:Below w1.heap.size w1 (w1.alloc (.cells #[.pointer (some ⟨w.heap.size,0,none⟩)] 127)):=(Below.refl _ _).alloc (Qa _) _;exact⟨w1.heap.size,w.heap.size,rfl,⟨none,none,none,HD.out.2.touch (Za.of_below (S:=fun _=>False) hb2) id,rfl,rfl,Qa _,Zca.no _ _,Zca.no _ _,heap_alloc_new _ _⟩,HD.out.1.trans (hb2.mono HD.out.1.size)⟩
theorem Zoh(G:Nat->Prop)(sb db gb room:Nat)(dn:Bool)(o:Option ByteArray)(f:Option (Nat×Nat))(t:ByteArray)(w:World)(h:DkS w G sb db room dn o f)(hby:∀W,Below w.heap.size w W->Calls Tryz.prog 34 #[.pointer (some ⟨gb,0,none⟩)] W fun e w'=>e=.returned (.string t)/\Below w.heap.size w w')(hG:∀k,w.heap.size<=k->G k)(hl:Zcn o<=1000000)(hts:t.size<=1000000):Calls Tryz.prog 36 #[.pointer (some ⟨sb,0,none⟩),.pointer (some ⟨gb,0,none⟩)] w fun e w'=>SvP G sb db room dn o f t w e w':=by
 have c0:=h.sto.cell;have hsl:=h.sto.lt;have H:Hid (DkS w G sb db room dn o f):=h
 have HBY:Hid (∀W,Below w.heap.size w W->Calls Tryz.prog 34 #[.pointer (some ⟨gb,0,none⟩)] W fun e w'=>e=.returned (.string t)/\Below w.heap.size w w'):=hby
 clear h hby
 go_enter Tryz.func36,Tryz.ntmps36;go_upto_region 1 with fail;refine Zo (fun w'=>w'.cell? ⟨sb,0,none⟩=some (.pointer (some ⟨db,0,none⟩))) 7 (by kernel_rfl) c0 (fun hHeld=>?_);refine Zm 0 ?_;refine Zm 1 ?_;refine Zm 2 ?_;refine Zm 3 ?_;refine Zm 4 ?_;refine Zc (i:=5) (by kernel_rfl) rfl (fun KK hK=>?_);go_simp;refine(HBY.out w.drew (Below.refl _ _).drew).mono ?_;rintro e w1 ⟨rfl,hb1⟩;have hHeld2:w1.cell? ⟨sb,0,none⟩=some (.pointer (some ⟨db,0,none⟩)):=(hb1.cell (p:=⟨sb,0,none⟩) hsl).trans c0;have hz1:=hb1.size;have HD1:Hid (DkS w1 G sb db room dn o f/\Za G w w1):=⟨H.out.below hb1,Za.of_below hb1⟩;clear hb1;go_simp;refine hK.out _ _ hHeld2 (fun hHeld=>?_);clear hK KK;try simp only[Act.put,tA,tB,tC]
 refine Zc (i:=6) (by kernel_rfl) rfl (fun KK hK=>?_);go_simp;refine(ZnZ G sb db room dn o f t w1 HD1.out.1 (fun k hk=>hG k (by omega)) hl hts).mono ?_;intro e w2 hS;obtain⟨zr,rfl⟩:=hS.ret;have hHeld3:=hS.sto.cell;have HS2:Hid (SvP G sb db room dn o f t w (.returned (.int .i64 zr)) w2):=hS.later HD1.out.2;clear hS;go_simp;refine hK.out _ _ hHeld3 (fun hHeld=>?_);clear hK KK;try simp only[Act.put,tA,tB,tC]
 refine Zh (i:=7) (by kernel_rfl) rfl (by kernel_rfl) (fun KK hK=>?_);go_simp;refine hK.out _ _ ?_;clear hK KK;try simp only[Act.put,tA,tB,tC]
 refine Zj (by kernel_rfl) ?_ _;clear c0 hHeld2 hHeld3 hHeld;go_wp2;go_ret;exact HS2.out
def LdP(G:Nat->Prop)(sb db room:Nat)(dn:Bool)(o:Option ByteArray)(f:Option (Nat×Nat))(w:World)(e:Ending)(w':World):Prop:=DkS w' G sb db room dn o f/\Below w.heap.size w w'/\
 ((dn=true/\e=.returned (.tuple #[.pointer none,.int .i64 5]))∨(dn=false/\o=none/\e=.returned (.tuple #[.pointer none,.int .i64 4]))∨∃t,dn=false/\o=some t/\OpG w w' (opD (Zb t)) e)
theorem Zof(G:Nat->Prop)(sb db room:Nat)(dn:Bool)(o:Option ByteArray)(f:Option (Nat×Nat))(w:World)(h:DkS w G sb db room dn o f)(hl:Zcn o<=1000000):Calls Tryz.prog 37 #[.pointer (some ⟨sb,0,none⟩)] w fun e w'=>LdP G sb db room dn o f w e w':=by
 have c0:=h.sto.cell;have H:Hid (DkS w G sb db room dn o f):=h;have HL:Calls Tryz.prog 64 #[.pointer (some ⟨db,0,none⟩)] w fun e w'=>e=.returned (LdS dn o)/\w'=w:=(by obtain⟨fr,sc,fl,h1,h2,_⟩:=h;exact ZnY db room dn fr sc none sc fl o w h1 h2);clear h
 cases dn with
 | true=>
  have HF:Hid (LdP G sb db room true o f w (.returned (.tuple #[.pointer none,.int .i64 5])) w):=⟨H.out,Below.refl _ _,.inl ⟨rfl,rfl⟩⟩;have HL':Calls Tryz.prog 64 #[.pointer (some ⟨db,0,none⟩)] w fun e w'=>e=.returned (.tuple #[.string ⟨#[]⟩,.int .i64 5])/\w'=w:=HL;clear HL H;go_enter Tryz.func37,Tryz.ntmps37;go_wp2_with fail
  refine HL'.mono ?_;rintro e w1 ⟨rfl,hw1⟩;obtain rfl:=hw1.symm;clear hw1 HL';go_wp2;go_ret2
  exact HF.out
 | false=>
  cases o with
  | none=>
   have HF:Hid (LdP G sb db room false none f w (.returned (.tuple #[.pointer none,.int .i64 4])) w):=⟨H.out,Below.refl _ _,.inr (.inl ⟨rfl,rfl,rfl⟩)⟩;have HL':Calls Tryz.prog 64 #[.pointer (some ⟨db,0,none⟩)] w fun e w'=>e=.returned (.tuple #[.string ⟨#[]⟩,.int .i64 4])/\w'=w:=HL;clear HL H;go_enter Tryz.func37,Tryz.ntmps37;go_wp2_with fail
   refine HL'.mono ?_;rintro e w1 ⟨rfl,hw1⟩;obtain rfl:=hw1.symm;clear hw1 HL';go_wp2;go_ret2
   exact HF.out
  | some t=>
   have HL':Calls Tryz.prog 64 #[.pointer (some ⟨db,0,none⟩)] w fun e w'=>e=.returned (.tuple #[.string t,.int .i64 0])/\w'=w:=HL;have ht:t.size<=1000000:=hl;have HG:=Zog t w (by omega);have HD:Hid (∀W,Below w.heap.size w W->DkS W G sb db room false (some t) f):=fun W hW=>H.out.below hW;clear HL H hl;generalize hR:opD (Zb t)=R at *;have HRR:Hid (opD (Zb t)=R):=hR;clear hR;go_enter Tryz.func37,Tryz.ntmps37;go_wp2_with fail
   refine HL'.mono ?_;rintro e w1 ⟨rfl,hw1⟩;obtain rfl:=hw1.symm;clear hw1 HL';go_wp2_with fail
   refine HG.mono ?_;clear HG;intro e w2 hG
   cases R with
   | none=>
    obtain⟨rfl,hb⟩:=hG;have HF:Hid (LdP G sb db room false (some t) f w (.returned (.tuple #[.pointer none,.int .i64 2])) w2):=⟨HD.out w2 hb,hb,.inr (.inr ⟨t,rfl,rfl,by rw[HRR.out];exact⟨rfl,hb⟩⟩)⟩;clear hb HD HRR;go_wp2;go_ret2
    exact HF.out
   | some E=>
    obtain⟨g1,d1,rfl,hO,hb⟩:=hG;have HF:Hid (LdP G sb db room false (some t) f w (.returned (.tuple #[.pointer (some ⟨g1,0,none⟩),.int .i64 0])) w2):=⟨HD.out w2 hb,hb,.inr (.inr ⟨t,rfl,rfl,by rw[HRR.out];exact⟨g1,d1,rfl,hO,hb⟩⟩)⟩;clear hb HD HRR hO;go_wp2;go_ret2
    exact HF.out
def DkA(w:World)(G:Nat->Prop)(sb db room:Nat)(o:Option ByteArray):Prop:=∃dn f,DkS w G sb db room dn o f
theorem ZnX(G:Nat->Prop)(sb db room s k:Nat)(dn:Bool)(o:Option ByteArray)(f:Option (Nat×Nat))(w:World)(h:DkS w G sb db room dn o f)(hG:∀k,w.heap.size<=k->G k)(hl:Zcn o<=1000000)(hs:s<=1000)(hk:k<=1000000):Calls Tryz.prog 65 #[.pointer (some ⟨db,0,none⟩),.int .i64 (s:Nat),.int .i64 (k:Nat)] w fun e w'=>∃z,e=.returned (.int .i64 z)/\DkA w' G sb db room o/\Za G w w':=by
 have hbl:=h.lt;have H:Hid (DkS w G sb db room dn o f):=h;obtain⟨fr,sc,fl,hD,hN,hF,hB1,hP1,hP2,hSt⟩:=h;obtain⟨c0,c1,c2,c3,c4,c5,c6,cf⟩:=hD.cells;have b1:(0:Int)<=(s:Int):=(by omega);have b2:(0:Int)<=(k:Int):=by omega
 cases dn with
 | true=>
  have HF:Hid (DkA w G sb db room o):=⟨_,_,H.out⟩;clear H hD hN hF hP1 hP2 hSt;go_enter Tryz.func65,Tryz.ntmps65;go_wp2;go_ret;exact⟨_,rfl,HF.out,Za.refl _ _⟩
 | false=>
  by_cases h0:s=0
  ·subst h0;have hL:=ZdP db room false fr sc sc fl o k w hD hN hl hk
   have HQ:Hid (∀w',Z8 w' db room true none sc none sc none->Zas w' sc o->Za (Zgk db sc) w w'->DkA w' G sb db room o/\Za G w w'):=fun w' h1 h2 h3=>by
    have hsz:=h3.size;refine⟨⟨true,none,none,sc,none,h1,h2,rfl,hB1,hP1.mono hsz,Zca.no _ _,hSt.touch h3 (fun e=>by rcases e with e|e;exact hSt.nd hD e;exact hSt.nn hN e)⟩,h3.sub (fun q hq=>?_)⟩
    rcases hq with e|e
    subst e;exact hB1;exact(hP1 q e).1
   clear H hD hN hF hP1 hP2 hSt;go_enter Tryz.func65,Tryz.ntmps65;go_wp2_with fail
   refine hL.mono ?_;rintro e w1 ⟨rfl,h1,h2,h3⟩;have HF:=HQ.out w1 h1 h2 h3;clear h1 h2 h3 hL HQ;have HF2:Hid (DkA w1 G sb db room o/\Za G w w1):=HF;clear HF;go_wp2;go_ret;exact⟨_,rfl,HF2.out⟩
  have b3:((s:Int)==0)=false:=beq_eq_false_iff_ne.2 (by omega)
  have HQ:Hid (∀w',w'=(w.setCell ⟨db,6,none⟩ (.pointer (some ⟨w.heap.size,0,none⟩))).alloc (.cells #[.int .i64 (s:Nat),.int .i64 (k:Nat)] 199)->DkA w' G sb db room o/\Za G w w'):=fun w' e=>by
   have ht:Za (fun q=>q=db) w w':=(by rw[e];exact((Za.refl (fun q=>q=db) w).setCell (p:=⟨db,6,none⟩) (fun _=>rfl) _).alloc _);have hsz:(w.setCell ⟨db,6,none⟩ (.pointer (some ⟨w.heap.size,0,none⟩))).heap.size=w.heap.size:=by simp[World.setCell]
   have hx:ZfM w' w.heap.size s k:=(by have h1:=heap_alloc_new (w.setCell ⟨db,6,none⟩ (.pointer (some ⟨w.heap.size,0,none⟩))) (.cells #[.int .i64 (s:Nat),.int .i64 (k:Nat)] 199);rw[hsz] at h1;rw[e];exact h1);have hd:Z8 w' db room false fr sc none sc (some ⟨w.heap.size,0,none⟩):=(by rw[e];exact(Below.heap_alloc _ _ db (by rw[hsz];exact hbl.2)).trans (heap_setCell_same _ db 6 _ 192 _ hD));have hlt:w.heap.size<w'.heap.size:=(Qb hx).1;exact⟨⟨false,some (s,k),fr,sc,_,hd,hN.touch ht (fun fb e2=>hN.ne hD e2),⟨w.heap.size,rfl,hx,hs,hk⟩,hB1,hP1.mono ht.size,Zca.so (hG _ (Qa _)) hlt,hSt.touch ht (hSt.nd hD)⟩,ht.sub (fun q hq=>by subst hq;exact hB1)⟩
  clear H hD hN hF hP1 hP2 hSt;go_enter Tryz.func65,Tryz.ntmps65;go_wp2;go_ret;exact⟨_,rfl,HQ.out _ rfl⟩
theorem Zoe(G:Nat->Prop)(sb db room s k:Nat)(o:Option ByteArray)(w:World)(h:DkA w G sb db room o)(hG:∀k,w.heap.size<=k->G k)(hl:Zcn o<=1000000)(hs:s<=1000)(hk:k<=1000000):Calls Tryz.prog 38 #[.pointer (some ⟨sb,0,none⟩),.int .i64 (s:Nat),.int .i64 (k:Nat)] w fun e w'=>∃z,e=.returned (.int .i64 z)/\DkA w' G sb db room o/\Za G w w':=by
 obtain⟨dn,f,h⟩:=h;have c0:=h.sto.cell;have HC:=ZnX G sb db room s k dn o f w h hG hl hs hk;clear h;go_enter Tryz.func38,Tryz.ntmps38;go_wp2_with fail
 refine HC.mono ?_;rintro e w1 ⟨z,rfl,h1,h2⟩;have HF:Hid (DkA w1 G sb db room o/\Za G w w1):=⟨h1,h2⟩;clear h1 h2 HC;go_wp2;go_ret;exact⟨z,rfl,HF.out⟩
theorem ZlW(G:Nat->Prop)(sb db room:Nat)(o:Option ByteArray)(w:World)(h:DkA w G sb db room o):Calls Tryz.prog 39 #[.pointer (some ⟨sb,0,none⟩)] w fun e w'=>∃z,e=.returned (.int .i64 z)/\DkA w' G sb db room o/\Za G w w':=by
 obtain⟨dn,f,h⟩:=h;have c0:=h.sto.cell;have hbl:=h.lt;have HC:Calls Tryz.prog 66 #[.pointer (some ⟨db,0,none⟩)] w fun e w'=>∃z,e=.returned (.int .i64 z)/\DkA w' G sb db room o/\Za G w w':=(by obtain⟨fr,sc,fl,hD,hN,hF,hB1,hP1,hP2,hSt⟩:=h;refine(ZlK db room dn fr sc none sc fl w hD).mono ?_;rintro e w' ⟨rfl,q1,q2⟩;exact⟨_,rfl,⟨false,f,fr,sc,fl,q1,hN.touch q2 (fun fb e=>hN.ne hD e),hF.touch q2 (fun fp e=>hF.ne hD e),hB1,hP1.mono q2.size,hP2.mono q2.size,hSt.touch q2 (hSt.nd hD)⟩,q2.sub (fun q hq=>by subst hq;exact hB1)⟩);clear h;go_enter Tryz.func39,Tryz.ntmps39;go_wp2_with fail
 refine HC.mono ?_;rintro e w1 ⟨z,rfl,h1,h2⟩;have HF:Hid (DkA w1 G sb db room o/\Za G w w1):=⟨h1,h2⟩;clear h1 h2 HC;go_wp2;go_ret;exact⟨z,rfl,HF.out⟩
end Go.Proofs.YtfcgnpchbcmdeaaGreat
