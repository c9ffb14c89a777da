import Derived.Test.YtfcgnpchbcmdeaaGreatZpbi
import Derived.Test.YtfcgnpchbcmdeaaGreatZpbl
import Derived.Test.YtfcgnpchbcmdeaaGreatZpbh
import Derived.Test.YtfcgnpchbcmdeaaGreatZpbg
namespace Go.Proofs.YtfcgnpchbcmdeaaGreat
set_option linter.unusedSimpArgs false
set_option maxRecDepth 100000
set_option maxHeartbeats 16000000
open Go.RowKit
theorem Zbx.mem{n:Nat}{D:QX}(_:Zbx n D){i:Nat}(hi:i<D.bs.length):D.bs.getD i ZE∈D.bs:=by rw[Qc,Qd hi];exact Qf _
theorem ZgW(db f row n:Nat)(vK vB vX:Value)(kvs bvs:List (Value×Value))(X:List XS)(D:QX)(w:World)(h:Zas w db vK vB vX kvs bvs X D)(hd:Zbx n D)(hf:f<D.ks.length)(hr:row<n):Calls Tryz.prog 78 #[.pointer (some ⟨db,0,none⟩),.int .i64 (row:Nat),.int .i64 (f:Nat)] w fun e w'=>e=.returned (.int .i64 (Zc6 D X f (ZW D f) (Zdk D f) row:Nat))/\Below w.heap.size w w':=by
 have hs:=hd.seat hf;have hbm:=hd.mem hs.hb;have hbo:=hd.bok _ hbm;have hg:=hd.g40 _ hbm;have hrl:row<(D.bs.getD (ZW D f) ZE).N.length:=by rw[hbo.len];exact hr
 have hNg:(D.bs.getD (ZW D f) ZE).N.getD row 0<=(D.bs.getD (ZW D f) ZE).g:=(by rw[Qc,Qd hrl];exact hbo.le _ (Qf _));have hxl:X.length<=1000000:=(by rw[h.perm.length_eq];have:=hd.xl;omega);have hoff:Qy D (ZW D f) (Zdk D f)<=100000:=(by have h1:=Zhn D.ks ((D.bs.getD (ZW D f) ZE).fs.take (Zdk D f)) (fun x hx=>Nat.le_trans (hd.mn x (hd.fk _ hbm x (List.mem_of_mem_take hx))) (by decide));have h2:=hd.f4 _ hbm;have h3:((D.bs.getD (ZW D f) ZE).fs.take (Zdk D f)).length<=(D.bs.getD (ZW D f) ZE).fs.length:=(by rw[List.length_take];omega);unfold Qy;omega);have hn2:=hd.n2;have hbl:D.bs.length<=1000:=(by have:=hd.b4;omega);obtain⟨_,hcol⟩:=h.ds.bn.each (ZW D f) hs.hb
 rcases hcol with⟨_,p,e,sb,vc,e2,_,hX⟩|⟨_,p,e,dd,q,e2,_,hX⟩
 subst e2;refine Zf0 db f _ _ row sb vK vB vX kvs bvs X D w h hs hbl hxl (by omega) hoff e (fun W hW=>?_);have hX':ZfL W 0 sb (D.bs.getD (ZW D f) ZE).N.length (Lib.bitLen (D.bs.getD (ZW D f) ZE).g) vc (spF (D.bs.getD (ZW D f) ZE).N (D.bs.getD (ZW D f) ZE).N.length):=⟨(hW.block _ (Qb hX.blk).1).trans hX.blk,(Za.of_below (S:=fun _=>False) hW).row hX.row (fun _ _=>id)⟩;exact Zhl sb _ _ row vc _ W hX' hrl (by rw[hbo.len];omega);subst e2;have hb6:Lib.bitLen (D.bs.getD (ZW D f) ZE).g<=6:=Zdr (by omega);have hN2:(D.bs.getD (ZW D f) ZE).N.getD row 0<2^Lib.bitLen (D.bs.getD (ZW D f) ZE).g:=Nat.lt_of_le_of_lt hNg (ZkM (by omega));refine Zhc db f _ _ row dd vK vB vX kvs bvs X D w h hs hbl hxl (by omega) hoff e (fun W hW=>?_)
 have hmul:row*Lib.bitLen (D.bs.getD (ZW D f) ZE).g+Lib.bitLen (D.bs.getD (ZW D f) ZE).g<=(D.bs.getD (ZW D f) ZE).N.length*Lib.bitLen (D.bs.getD (ZW D f) ZE).g:=by rw[<- Nat.succ_mul];exact Nat.mul_le_mul_right _ hrl
 have hmul2:(D.bs.getD (ZW D f) ZE).N.length*Lib.bitLen (D.bs.getD (ZW D f) ZE).g<=200*6:=Nat.mul_le_mul (by rw[hbo.len];exact hn2) hb6;have hX':Zd5 W 0 dd q (D.bs.getD (ZW D f) ZE).N.length (Lib.bitLen (D.bs.getD (ZW D f) ZE).g) (ZR (YZ (D.bs.getD (ZW D f) ZE).N (Lib.bitLen (D.bs.getD (ZW D f) ZE).g)) (((D.bs.getD (ZW D f) ZE).N.length*Lib.bitLen (D.bs.getD (ZW D f) ZE).g+7)/8) ((D.bs.getD (ZW D f) ZE).N.length*Lib.bitLen (D.bs.getD (ZW D f) ZE).g)):=⟨(hW.block _ (Qb hX.blk).1).trans hX.blk,(Za.of_below (S:=fun _=>False) hW).row hX.row (fun _ _=>id)⟩;have h1:=ZdR dd q _ _ _ _ row _ W hX' (fun t=>ZcS _ _ t) hb6 hmul (by omega) (by omega);rw[Zgf _ hN2] at h1;exact h1
theorem ZhX(gb db f row m n budget:Nat)(es:List ES)(Bb:List (List Nat))(w:World)(h:YU w gb db (ZJ m n budget es Bb))(hm:m+1<=4)(hn:n<=200)(hk:ZcN m n es Bb)(hf:f<m+1)(hr:row<n):Calls Tryz.prog 44 #[.pointer (some ⟨gb,0,none⟩),.int .i64 (row:Nat),.int .i64 (f:Nat)] w fun e w'=>e=.returned (.tuple #[.int .i64 ((Bb.getD f []).getD row 0:Nat),.int .i64 0])/\Below w.heap.size w w':=by
 have hd:=Zc8 (budget:=budget) hm hn hk;have hkl:(ZJ m n budget es Bb).ks.length=m+1:=(by rw[show(ZJ m n budget es Bb).ks=_ from Zax _ _ _ _ _];exact YA es Bb (m+1));have hN0:((ZJ m n budget es Bb).bs.getD 0 ZE).N.length=n:=(hd.bok _ (hd.mem hd.b0)).len;refine ZdT gb db f row _ _ w h hd.b0 (by rw[hkl];omega) (by rw[hN0];exact hr) (by rw[hN0];omega) (by rw[hkl];exact hf) (fun W hW=>?_);obtain⟨vK,vB,vX,kvs,bvs,X,hX⟩:=hW.md;have h1:=ZgW db f row n vK vB vX kvs bvs X _ W hX hd (by rw[hkl];exact hf) hr;rw[Zmx hm hn hk hX.perm hf hr] at h1;exact h1
theorem Zjh(gb db n:Nat)(D:QX)(w:World)(h:YU w gb db D)(hd:Zbx n D):Calls Tryz.prog 26 #[.pointer (some ⟨gb,0,none⟩)] w fun e w'=>e=.returned (.int .i64 (n:Nat))/\Below w.heap.size w w':=by have h1:=Zk6 gb db D w h hd.b0;rw[(hd.bok _ (hd.mem hd.b0)).len] at h1;exact h1
theorem ZfX(gb db n:Nat)(D:QX)(w:World)(h:YU w gb db D)(hd:Zbx n D):Calls Tryz.prog 55 #[.pointer (some ⟨gb,0,none⟩)] w fun e w'=>Zn1 w D e w':=
 Zg2 gb db D w h hd.b0 (by have:=hd.b4;omega) (fun i hi=>⟨hd.f0 _ (hd.mem hi),by have:=hd.f4 _ (hd.mem hi);omega⟩)
theorem Zg1(gb db f n:Nat)(D:QX)(w:World)(h:YU w gb db D)(hd:Zbx n D)(hf:f<D.ks.length):Calls Tryz.prog 27 #[.pointer (some ⟨gb,0,none⟩),.int .i64 (f:Nat)] w fun e w'=>ZnZ w (D.ks.getD f ZN).e e w':=
 ZhV gb db f D w h (by have:=hd.k4;omega) hf (hd.edg f hf).lb (hd.edg f hf).lw
def ZQ(L:List Int):Prop:=∀b∈L,0<=b/\b<256
theorem ZQ.nil:ZQ []:=by intro b hb;simp at hb
theorem ZQ.append{A B:List Int}(a:ZQ A)(b:ZQ B):ZQ (A++B):=fun x hx=>by
 rcases List.mem_append.1 hx with h|h
 exact a x h;exact b x h
theorem ZQ.cons{x:Int}{A:List Int}(h1:0<=x/\x<256)(a:ZQ A):ZQ (x::A):=fun y hy=>by
 rcases List.mem_cons.1 hy with rfl|h
 exact h1;exact a y h
theorem ZQ.flat{α:Type}{f:α->List Int}{L:List α}(h:∀x∈L,ZQ (f x)):ZQ (L.flatMap f):=fun y hy=>by obtain⟨x,hx,hy⟩:=List.mem_flatMap.1 hy;exact h x hx y hy
theorem Y4(x:Int):0<=x%256/\x%256<256:=by omega
theorem Zhd(n:Int):∀j,ZQ (QR n j)
 |0=>ZQ.nil
 |j+1=>by unfold QR;exact(Zhd n j).append (ZQ.cons (Y4 _) ZQ.nil)
theorem ZkQ(b:ByteArray):ZQ (Zb b):=fun x hx=>by unfold Zb at hx;obtain⟨u,_,rfl⟩:=List.mem_map.1 hx;have:=u.toNat_lt;omega
theorem ZmJ{f:Nat->Nat}(hf:∀t,f t<=1)(nb T:Nat):ZQ (ZR f nb T):=fun x hx=>by unfold ZR at hx;obtain⟨j,_,rfl⟩:=List.mem_map.1 hx;have:=ZeH hf T j;omega
theorem ZmV(L:List (Nat×Nat)):∀k,ZQ (spK L k)
 |0=>by unfold spK;exact ZQ.nil
 |k+1=>by unfold spK;exact(ZmV L k).append (ZQ.cons (Y4 _) (ZQ.cons (Y4 _) ZQ.nil))
theorem Zng(N:List Nat)(g:Nat):ZQ (Zdv N g):=by unfold Zdv;split;unfold ZlF;exact ZQ.append (ZQ.cons (by omega) (ZQ.cons (Y4 _) ZQ.nil)) (ZmV _ _);exact ZQ.cons (by omega) (ZmJ (fun t=>ZcS _ _ t) _ _)
theorem Zn4(fs:List Nat):ZQ (byN fs):=fun x hx=>by unfold byN at hx;obtain⟨j,_,rfl⟩:=List.mem_map.1 hx;exact Y4 _
theorem Znb(b:BS):ZQ (QG b):=by unfold QG;exact(ZQ.append (ZQ.cons (Y4 _) ZQ.nil) (Zn4 _)).append (Zng _ _)
theorem Zoe(k:KS):ZQ (knA k):=by unfold knA;split;unfold Zg9 Zem;exact ZQ.append (ZQ.cons (by omega) (ZQ.cons (Y4 _) (ZQ.cons (Y4 _) ZQ.nil))) (ZQ.flat (fun s _=>ZQ.cons (Y4 _) (ZkQ s)));unfold knB ZcU;exact ZQ.append (ZQ.cons (by omega) (ZQ.cons (Y4 _) (ZQ.cons (Y4 _) ZQ.nil))) (ZQ.flat (fun s _=>Zhd s 4))
theorem ZoP(x:XS):ZQ (xB x):=ZQ.cons (Y4 _) (ZQ.cons (Y4 _) (ZQ.cons (Y4 _) ZQ.nil))
theorem ZnL(D:QX)(X:List XS):ZQ (Q9 D X):=by unfold Q9;refine ZQ.append (ZQ.append (ZQ.append (ZQ.append (ZQ.append ?_ (ZQ.flat fun k _=>Zoe k)) ?_) (ZQ.flat fun b _=>Znb b)) (Zhd _ _)) (ZQ.flat fun x _=>ZoP x);exact ZQ.cons (by omega) (ZQ.cons (by omega) (ZQ.cons (Y4 _) (ZQ.cons (Y4 _) ZQ.nil)));exact ZQ.cons (Y4 _) ZQ.nil
theorem Zbx.bun{n:Nat}{D:QX}(h:Zbx n D):∀b∈D.bs,Zgd b:=fun b hb=>by
 have h1:=h.bok b hb;have h2:=h.g40 b hb;have h3:=h.f4 b hb;have h4:=h.n2;have h5:=h.k4;have hb6:Lib.bitLen b.g<=6:=Zdr (by omega);have hmul:b.N.length*Lib.bitLen b.g<=200*6:=Nat.mul_le_mul (by rw[h1.len];exact h4) hb6;have hsl:=Zew b.N b.N.length;have hpl:=Zap (YZ b.N (Lib.bitLen b.g)) ((b.N.length*Lib.bitLen b.g+7)/8) (b.N.length*Lib.bitLen b.g);have hNl:=h1.len;refine⟨by omega,fun f hf=>by have:=h.fk b hb f hf;omega,⟨by omega,fun x hx=>?_⟩,by omega,?_⟩;obtain⟨a1,a2,_⟩:=(Zeu _ _ x).1 hx;refine⟨by omega,?_⟩;rw[a2,Qc,Qd a1];have:=h1.le _ (Qf a1);simp only[Option.getD_some];omega
 unfold QG;rw[Qe,Qe];have hby:(byN b.fs).length=b.fs.length:=by simp[byN]
 have hcb:(Zdv b.N b.g).length<=1000:=(by unfold Zdv;split;unfold ZlF;rw[Qe,Zhk];simp;omega;rw[List.length_cons,hpl];omega);rw[hby];simp;omega
theorem ZhW(gb db n:Nat)(D:QX)(w:World)(h:YU w gb db D)(hd:Zbx n D)(hkn:∀K∈D.ks,Zd6 K)(X:List XS)(hX:X.Perm D.xs)(hs:Zaj X):Calls Tryz.prog 34 #[.pointer (some ⟨gb,0,none⟩)] w fun e w'=>e=.returned (.string (strOfNums (QH D X)))/\Below w.heap.size w w':=by obtain⟨vK,vB,vX,kvs,bvs,Y,hY⟩:=h.md;obtain rfl:X=Y:=ZjM hd.keys hX hs hY.perm hY.sorted;exact Ze2 gb db vK vB vX kvs bvs X D w h.gp hY hd.b0 hkn hd.k4 hd.bun hd.b4 (by rw[hX.length_eq];have:=hd.xl;omega) (ZnL D X)
theorem Zd3{S:Int->Prop}{size:Int}(hs:2<=size)(hs2:size<=32):∀{Ls:List (List Zm)} {l:List Zm},YX Ls->Zy l->l.length<=32->ZF Ls+Zc l<=1000000000000->(∀L∈Ls,∀e∈L,S e.v)->(∀e∈l,S e.v)->∀L∈Zx size Ls l,∀e∈L,S e.v
 |[],l,_,_,_,_,_,hv=>by simpa [Zx] using hv
 | o ::r,l,h,g,hl,ht,hL,hv=>by
  have go:=h.good o (by simp);have hr:YX r:=⟨fun x hx=>h.good x (by simp[hx]),fun x hx=>h.len x (by simp[hx])⟩;have p1:=YR hr.good;have p2:=(YL go).1;have p3:=(YL g).1;simp only[ZF] at ht;simp only[Zx];split
  ·intro L hx
   rcases List.mem_cons.1 hx with rfl|hx
   exact hv;exact hL L (by simp[hx])
  have gj:=QT go g (by omega);have gc:Zy (YE (Zv o l) size):=gj.sub (QZ gj size);have tc:Zc (YE (Zv o l) size)=Zc o+Zc l:=(by rw[Zaq,QW]);have lc:=Zbc (Zv o l) hs
  have ih:=Zd3 (S:=S) hs hs2 hr gc (by omega) (by omega) (fun L hx=>hL L (by simp[hx])) (fun e he=>by
   rcases Ze4 go g e ((QZ gj size).subset he) with⟨x,hx,e1⟩|⟨x,hx,e1⟩
   rw[<- e1];exact hL o (by simp) x hx
   rw[<- e1];exact hv x hx)
  intro L hx
  rcases List.mem_cons.1 hx with rfl|hx
  simp;exact ih L hx
theorem ZlG{S:Int->Prop}{vs ws:List Int}(h:∀v∈vs,S v/\ -1000000000<=v/\v<=1000000000):∀e∈ZbD vs ws,S e.v:=fun e he=>by have hs:=Zdn (Zj vs ws);obtain⟨p,hp,h1,_⟩:=(Zce (Zcy (Zj vs ws)) 0).1 e he;obtain⟨q,hq,e2⟩:=hs.sub p hp;unfold Zj at hq;obtain⟨z,hz,rfl⟩:=List.mem_map.1 hq;have hz1:z.1∈vs:=(List.of_mem_zip (a:=z.1) (b:=z.2) hz).1;obtain⟨a,b,c⟩:=h z.1 hz1;rw[<- h1,<- e2];show S (Zaz z.1);unfold Zaz;rw[if_neg (by omega),if_neg (by omega)];exact a
theorem ZcT{S:Int->Prop}{size:Nat}(hs:2<=size)(hs2:size<=32):∀(f:Nat) (Ls:List (List Zm)) (vs ws:List Int),YX Ls->ZF Ls+1000*(vs.length:Int)<=1000000000000->vs.length<=2097152->(∀L∈Ls,∀e∈L,S e.v)->(∀v∈vs,S v/\ -1000000000<=v/\v<=1000000000)->∀L∈Yw size f Ls vs ws,∀e∈L,S e.v
 |0,Ls,vs,ws,_,_,_,hL,_=>by simp only[Yw];exact hL
 |f+1,Ls,vs,ws,h,ht,hl,hL,hv=>by simp only[Yw];split;exact hL;have h1:=Zhm (vs:=vs.take size) (ws:=ws.take size) (by simp;omega);have hp:=YR h.good;have hlen:(vs.take size).length+(vs.drop size).length=vs.length:=(by simp;omega);have hlt:(vs.take size).length<=size:=(by simp;omega);obtain⟨t1,t2⟩:=Zcf (size:=(size:Int)) (by omega) (by omega) h h1.1 (by omega) (by omega);refine ZcT hs hs2 f _ (vs.drop size) (ws.drop size) t1 (by omega) (by omega) ?_ (fun v hv2=>hv v (List.mem_of_mem_drop hv2));exact Zd3 (by omega) (by omega) h h1.1 (by omega) (by omega) hL (ZlG (fun v hv2=>hv v (List.mem_of_mem_take hv2)))
theorem Zc0{S:Int->Prop}{size:Int}(hs:2<=size)(hs2:size<=32):∀(Ls:List (List Zm)) (al:List Zm),YX Ls->Zy al->al.length<=32->Zc al+ZF Ls<=1000000000000->(∀L∈Ls,∀e∈L,S e.v)->(∀e∈al,S e.v)->∀e∈YP size al Ls,S e.v
 |[],al,_,_,_,_,_,hv=>hv
 | l ::r,al,h,g,hl,ht,hL,hv=>by
  have gl:=h.good l (by simp);have hr:YX r:=⟨fun x hx=>h.good x (by simp[hx]),fun x hx=>h.len x (by simp[hx])⟩;have p1:=YR hr.good;simp only[ZF] at ht;have gj:=QT g gl (by omega);have lc:=Zbc (Zv al l) hs;have tc:Zc (YE (Zv al l) size)=Zc al+Zc l:=(by rw[Zaq,QW]);simp only[YP]
  exact Zc0 hs hs2 r _ hr (gj.sub (QZ gj size)) (by omega) (by omega) (fun L hx=>hL L (by simp[hx])) (fun e he=>by
   rcases Ze4 g gl e ((QZ gj size).subset he) with⟨x,hx,e1⟩|⟨x,hx,e1⟩
   rw[<- e1];exact hv x hx
   rw[<- e1];exact hL l (by simp) x hx)
theorem ZfY{S:Int->Prop}{size:Nat}(hs:2<=size)(hs2:size<=32)(vs ws:List Int)(hl:vs.length<=2097152)(hv:∀v∈vs,S v/\ -1000000000<=v/\v<=1000000000):∀e∈Yg size vs ws,S e.v:=by obtain⟨h1,h2⟩:=ZcE hs hs2 vs.length [] vs ws YX.nil (by simp[ZF];omega) hl;exact Zc0 (by omega) (by omega) _ [] h1 Zy.nil (by simp) (by simp[Zc,ZF] at h2 ⊢;omega) (ZcT hs hs2 _ _ _ _ YX.nil (by simp[ZF];omega) hl (by simp) hv) (by simp)
theorem ZdF:∀(L:List VS) (ws:List Int) (x:Int×Int),x∈ZC L ws->∃v∈L,v.miss=false/\v.num=x.1
 |[],_,x,h=>by simp[ZC] at h
 |_::_,[],x,h=>by simp[ZC] at h
 | v::L,z::ws,x,h=>by
  simp only[ZC] at h;split at h;obtain⟨u,hu,h1⟩:=ZdF L ws x h;exact⟨u,by simp[hu],h1⟩;rename_i hm
  rcases List.mem_cons.1 h with rfl|h
  exact⟨v,by simp,by simpa using hm,rfl⟩;obtain⟨u,hu,h1⟩:=ZdF L ws x h;exact⟨u,by simp[hu],h1⟩
theorem Zh7{L:List VS}{ws:List Int}{bins:Int}{size:Nat}(hL:L.length<=200)(hs:2<=size)(hs2:size<=32)(hr:∀v∈L,-1000000000<=v.num/\v.num<=1000000000):∀x∈YJ L ws bins size,∃v∈L,v.miss=false/\v.num=x:=fun x hx=>by have hl:((ZC L ws).map Prod.fst).length<=2097152:=(by have:=Zbg L ws;simp;omega);unfold YJ at hx;have h1:=(ZdO _ bins).subset hx;obtain⟨e,he,rfl⟩:=List.mem_map.1 h1;refine ZfY (S:=fun y=>∃v∈L,v.miss=false/\v.num=y) hs hs2 _ _ hl (fun v hv=>?_) e (List.mem_of_mem_take he);obtain⟨p,hp,rfl⟩:=List.mem_map.1 hv;obtain⟨u,hu,h2,h3⟩:=ZdF L ws p hp;have:=hr u hu;exact⟨⟨u,hu,h2,h3⟩,by omega,by omega⟩
theorem Zmz{L:List VS}{ws:List Int}{ct bins:Int}:∀x∈(lwF L ws ct bins).ww,∃v∈L,v.miss=false/\v.word=x:=fun x hx=>by
 unfold lwF at hx;simp only at hx;obtain⟨y,hy,rfl⟩:=List.mem_map.1 hx;have h1:=(List.mem_mergeSort).1 (List.mem_of_mem_take hy);have h2:=((Zfg _ _ _).1 h1).1;unfold ZcM at h2;obtain⟨p,hp,h3⟩:=List.any_eq_true.1 h2;unfold Zc4 at h3;simp only[Bool.and_eq_true,Bool.not_eq_true',decide_eq_true_eq] at h3;refine⟨p.1,(List.of_mem_zip (a:=p.1) (b:=p.2) hp).1,h3.1,?_⟩;have h4:=h3.2
 cases hw:p.1.word with
 | mk d=>
  cases hy2:y.wd with
  | mk d2=>
   rw[hw,hy2] at h4;simp only at h4;rw[Array.toList_inj.1 h4]
theorem Zmv{wd:Bool}{ct bins:Int}{size d:Nat}{L:List VS}{ws:List Int}(hL:L.length<=200)(hs:2<=size)(hs2:size<=32)(hb:2<=bins)(hb2:bins<=16)(hr:∀v∈L,(-1000000000<=v.num/\v.num<=1000000000)/\v.word.size<=8):Zd6 ⟨ZV lwF wd ct bins size L ws,d⟩:=by
 cases wd
 left;have e:ZV lwF false ct bins size L ws=⟨false,YJ L ws bins size,[]⟩:=(by simp[ZV]);rw[e];refine⟨rfl,rfl,?_,fun x hx=>?_⟩;have:=(Zgv L ws hL hs hs2 hb).2;show(YJ L ws bins size).length<=1000;omega;obtain⟨v,hv,_,rfl⟩:=Zh7 hL hs hs2 (fun v hv=>(hr v hv).1) x hx;have:=(hr v hv).1;omega;right;have e:ZV lwF true ct bins size L ws=lwF L ws ct bins:=(by simp[ZV]);rw[e];refine⟨rfl,rfl,?_,fun x hx=>?_⟩;show(List.map _ (List.take bins.toNat _)).length<=1000;rw[List.length_map,List.length_take];omega;obtain⟨v,hv,_,rfl⟩:=Zmz x hx;exact(hr v hv).2
structure Zl0(w:World)(gb n nk:Nat)(sb:ByteArray)(Ls:List (List Int))(E:Nat->ES)(B:Nat->Nat->Nat):Prop where
 rows:∀W:World,Below w.heap.size w W->Calls Tryz.prog 26 #[.pointer (some ⟨gb,0,none⟩)] W fun e w'=>e=.returned (.int .i64 (n:Nat))/\Below w.heap.size w w'
 bytes:∀W:World,Below w.heap.size w W->Calls Tryz.prog 34 #[.pointer (some ⟨gb,0,none⟩)] W fun e w'=>e=.returned (.string sb)/\Below w.heap.size w w'
 bundles:∀W:World,Below w.heap.size w W->Calls Tryz.prog 55 #[.pointer (some ⟨gb,0,none⟩)] W fun e w'=>∃q,e=.returned (.slice (some ⟨q,0,none⟩) Ls.length Ls.length)/\Ya w' 0 q Ls.length Ls.length Ls/\Below W.heap.size W w'
 bounds:∀W:World,Below w.heap.size w W->∀f,f<nk->Calls Tryz.prog 27 #[.pointer (some ⟨gb,0,none⟩),.int .i64 (f:Nat)] W fun e w'=>ZnZ W (E f) e w'
 look:∀W:World,Below w.heap.size w W->∀f row,f<nk->row<n->Calls Tryz.prog 44 #[.pointer (some ⟨gb,0,none⟩),.int .i64 (row:Nat),.int .i64 (f:Nat)] W fun e w'=>e=.returned (.tuple #[.int .i64 (B f row:Nat),.int .i64 0])/\Below w.heap.size w w'
def ZiT(w wr:World)(v1 v2 v3 v4:Value)(bI:List Int)(bS:List ByteArray):Prop:=Below w.heap.size w wr/\Ze wr 0 v1 bI/\ZS wr 0 v2 bS/\Ze wr 0 v3 bI/\ZS wr 0 v4 bS
theorem ZiT.drew{w wr:World}{v1 v2 v3 v4:Value}{bI:List Int}{bS:List ByteArray}(h:ZiT w wr v1 v2 v3 v4 bI bS)(n:Nat):ZiT w (wr.drewN n) v1 v2 v3 v4 bI bS:=
 ⟨below_drewN h.1 _,h.2.1.below (below_drewN (Below.refl _ _) _),h.2.2.1.below (below_drewN (Below.refl _ _) _),h.2.2.2.1.below (below_drewN (Below.refl _ _) _),h.2.2.2.2.below (below_drewN (Below.refl _ _) _)⟩
theorem ZmR(ga gb n nk:Nat)(sb:ByteArray)(Ls:List (List Int))(E:Nat->ES)(B:Nat->Nat->Nat)(w:World)(ha:Zl0 w ga n nk sb Ls E B)(hb:Zl0 w gb n nk sb Ls E B)(hn:n<=1000)(hk:nk<=1000)(hl:Ls.length<=1000)(hl2:∀L∈Ls,L.length<=1000)(hE:∀f,f<nk->(bdI (E f)).length<=1000/\(bdS (E f)).length<=1000):Calls Tryz.prog 30 #[.pointer (some ⟨ga,0,none⟩),.pointer (some ⟨gb,0,none⟩),.int .i64 (nk:Nat)] w fun e w'=>e=.returned (.bool true)/\Below w.heap.size w w':=by
 have HA:Hid (Zl0 w ga n nk sb Ls E B):=ha;have HB:Hid (Zl0 w gb n nk sb Ls E B):=hb
 have HL2:Hid (∀i,i<Ls.length->(Ls.getD i []).length<=1000):=fun i hi=>by rw[Qc,Qd hi];exact hl2 _ (Qf _)
 have HE:Hid (∀f,f<nk->(bdI (E f)).length<=1000/\(bdS (E f)).length<=1000):=hE;clear ha hb hl2 hE;generalize hnl:Ls.length=nl at *;have HNL:Hid (Ls.length=nl):=hnl;clear hnl;go_enter Tryz.func30,Tryz.ntmps30;go_wp2_with fail
 refine(HA.out.rows _ (Below.refl _ _)).mono ?_;rintro e w1 ⟨rfl,h1⟩;have H1:Hid (Below w.heap.size w w1):=h1;clear h1;go_wp2_with fail
 refine(HB.out.rows _ H1.out).mono ?_;rintro e w2 ⟨rfl,h2⟩;have H2:Hid (Below w.heap.size w w2):=h2;clear h2 H1;go_wp2_with fail
 refine(HA.out.bytes _ H2.out).mono ?_;rintro e w3 ⟨rfl,h3⟩;have H3:Hid (Below w.heap.size w w3):=h3;clear h3 H2;go_wp2_with fail
 refine(HB.out.bytes _ H3.out).mono ?_;rintro e w4 ⟨rfl,h4⟩;have H4:Hid (Below w.heap.size w w4):=h4;clear h4 H3;go_wp2_with fail
 refine(HA.out.bundles _ H4.out).mono ?_;rintro e w5 ⟨qa,rfl,hqa,h5⟩;have H5:Hid (Below w.heap.size w w5):=H4.out.trans (h5.mono H4.out.size);have HQA:Hid (Ya w5 0 qa nl nl Ls):=(by have:=hqa;rw[HNL.out] at this;exact this);rw[HNL.out];clear h5 hqa H4;go_wp2_with fail
 refine(HB.out.bundles _ H5.out).mono ?_;rintro e w6 ⟨qb,rfl,hqb,h6⟩;have H6:Hid (Below w.heap.size w w6/\Ya w6 0 qa nl nl Ls/\Ya w6 0 qb nl nl Ls):=⟨H5.out.trans (h6.mono H5.out.size),HQA.out.below h6,by have:=hqb;rw[HNL.out] at this;exact this⟩;rw[HNL.out];clear h6 hqb H5 HQA;go_wp2_with fail
 go_loopw [9] (fun ti wr=>∃(i:Nat),ti=.int .i64 i/\i<=nl/\Hid (Below w.heap.size w wr/\Ya wr 0 qa nl nl Ls/\Ya wr 0 qb nl nl Ls)) (fun ti _=>nl-(intOf ti).toNat)
 case atStart=>exact⟨0,rfl,Qg _,H6.out⟩
 case round=>
  clear H6;obtain⟨i,rfl,hib,HR⟩:=hrel
  by_cases hin:i<nl
  ·have bi1:(0:Int)<=(i:Int):=(by omega);have bi2:(i:Int)<(nl:Int):=(by omega);obtain⟨aa,ca,xa,hqal,_⟩:=HR.out.2.1.at hin;obtain⟨ab,cb,xb,hqbl,_⟩:=HR.out.2.2.at hin;have HLL:=HL2.out i hin;generalize hll:(Ls.getD i []).length=ll at *;have HLN:Hid ((Ls.getD i []).length=ll):=hll;clear hll;go_upto_region 10 with fail;go_quiet (fail);go_wp2_with fail
   obtain⟨wl,hwl⟩:∃wl,wl=wr:=⟨wr,rfl⟩;subst hwl;go_loopw [10] (fun tk wr=>∃(k:Nat),tk=.int .i64 k/\k<=ll/\Hid (Below w.heap.size w wr/\Ya wr 0 qa nl nl Ls/\Ya wr 0 qb nl nl Ls)) (fun tk _=>ll-(intOf tk).toNat)
   case atStart=>exact⟨0,rfl,Qg _,below_drewN HR.out.1 _,HR.out.2.1.below (below_drewN (Below.refl _ _) _),HR.out.2.2.below (below_drewN (Below.refl _ _) _)⟩
   case round=>
    clear HR xa xb;obtain⟨k,rfl,hkb,HR⟩:=hrel;obtain⟨aa,ca,xa,hqal,hoa⟩:=HR.out.2.1.at hin;obtain⟨ab,cb,xb,hqbl,hob⟩:=HR.out.2.2.at hin;rw[HLN.out] at xa xb hoa hob
    by_cases hkn:k<ll
    ·have bk1:(0:Int)<=(k:Int):=(by omega);have bk2:(k:Int)<(ll:Int):=(by omega);obtain⟨q1,rfl,_,_,y1,_⟩:=hoa.atK HLN.out hkn;obtain⟨q2,rfl,_,_,y2,_⟩:=hob.atK HLN.out hkn;clear hoa hob;generalize (Ls.getD i []).getD k 0=z at *;go_upto_region 15 with fail;go_quiet (fail);go_wp2;go_roundw;case rel=>exact⟨k+1,by go_num,by omega,below_drewN HR.out.1 _,HR.out.2.1.below (below_drewN (Below.refl _ _) _),HR.out.2.2.below (below_drewN (Below.refl _ _) _)⟩
     case measure=>simp[intOf];omega
    have hnk:¬(k:Int)<(ll:Int):=(by omega);clear hoa hob;go_wp2;go_roundw;case rel=>exact⟨i+1,by go_num,by omega,HR.out⟩
    case measure=>simp[intOf];omega
  have hni:¬(i:Int)<(nl:Int):=(by omega);have H7:Hid (Below w.heap.size w wr):=HR.out.1;clear HR;go_wp2_with fail
  obtain⟨wl,hwl⟩:∃wl,wl=wr:=⟨wr,rfl⟩;subst hwl;go_loopw [11] (fun tf wr=>∃(f:Nat),tf=.int .i64 f/\f<=nk/\Hid (Below w.heap.size w wr)) (fun tf _=>nk-(intOf tf).toNat)
  case atStart=>exact⟨0,rfl,Qg _,H7⟩
  case round=>
   clear H7;obtain⟨f,rfl,hfb,HR⟩:=hrel
   by_cases hfn:f<nk
   ·have bf1:(f:Int)<(nk:Int):=(by omega);go_wp2_with fail
    refine(HA.out.bounds _ HR.out f hfn).mono ?_;rintro e v1 ⟨vb,vw,rfl,hx⟩;obtain⟨a1,c1,hs1⟩:=hx.nb.shape;obtain⟨a2,c2,hs2⟩:=hx.nw.form;subst hs1 hs2;have HV1:Hid (Below w.heap.size w v1/\Ze v1 0 (.slice a1 (bdI (E f)).length c1) (bdI (E f))/\ZS v1 0 (.slice a2 (bdS (E f)).length c2) (bdS (E f))):=⟨HR.out.trans (hx.low.mono HR.out.size),hx.nb.mono (Qg _),hx.nw.mono0⟩;clear hx;go_wp2_with fail
    refine(HB.out.bounds _ HV1.out.1 f hfn).mono ?_;rintro e v2 ⟨vb,vw,rfl,hx⟩;obtain⟨a3,c3,hs1⟩:=hx.nb.shape;obtain⟨a4,c4,hs2⟩:=hx.nw.form;subst hs1 hs2;have HV2:Hid (Below w.heap.size w v2/\Ze v2 0 (.slice a1 (bdI (E f)).length c1) (bdI (E f))/\ZS v2 0 (.slice a2 (bdS (E f)).length c2) (bdS (E f))/\Ze v2 0 (.slice a3 (bdI (E f)).length c3) (bdI (E f))/\ZS v2 0 (.slice a4 (bdS (E f)).length c4) (bdS (E f))):=⟨HV1.out.1.trans (hx.low.mono HV1.out.1.size),HV1.out.2.1.below hx.low,HV1.out.2.2.below hx.low,hx.nb.mono (Qg _),hx.nw.mono0⟩;clear hx HV1;obtain⟨hel1,hel2⟩:=HE.out f hfn;generalize bdI (E f)=bI at *;generalize bdS (E f)=bS at *;generalize hnI:bI.length=nI at *;generalize hnS:bS.length=nS at *;have HNI:Hid (bI.length=nI/\bS.length=nS):=⟨hnI,hnS⟩;clear hnI hnS
    have HT:Hid (ZiT w v2 (.slice a1 nI c1) (.slice a2 nS c2) (.slice a3 nI c3) (.slice a4 nS c4) bI bS):=HV2.out;clear HV2 HR;go_wp2_with fail
    go_loopw [18] (fun tk wr=>∃(k:Nat),tk=.int .i64 k/\k<=nI/\Hid (ZiT w wr (.slice a1 nI c1) (.slice a2 nS c2) (.slice a3 nI c3) (.slice a4 nS c4) bI bS)) (fun tk _=>nI-(intOf tk).toNat)
    case atStart=>exact⟨0,rfl,Qg _,HT⟩
    case round=>
     clear HT;obtain⟨k,rfl,hkb,HR⟩:=hrel
     by_cases hkn:k<nI
     ·have bk1:(0:Int)<=(k:Int):=(by omega);have bk2:(k:Int)<(nI:Int):=(by omega);obtain⟨q1,hq1,_,_,y1,_⟩:=HR.out.2.1.atK HNI.out.1 hkn;obtain⟨q2,hq2,_,_,y2,_⟩:=HR.out.2.2.2.1.atK HNI.out.1 hkn;subst hq1 hq2;generalize bI.getD k 0=z at *;go_upto_region 27 with fail;go_quiet (fail);go_wp2;go_roundw;case rel=>exact⟨k+1,by go_num,by omega,HR.out.drew _⟩
      case measure=>simp[intOf];omega
     have hnk:¬(k:Int)<(nI:Int):=(by omega);have HT:Hid (ZiT w wr (.slice a1 nI c1) (.slice a2 nS c2) (.slice a3 nI c3) (.slice a4 nS c4) bI bS):=HR;clear HR;go_wp2_with fail
     obtain⟨wm,hwm⟩:∃wm,wm=wr:=⟨wr,rfl⟩;subst hwm;go_loopw [19] (fun tk wr=>∃(k:Nat),tk=.int .i64 k/\k<=nS/\Hid (ZiT w wr (.slice a1 nI c1) (.slice a2 nS c2) (.slice a3 nI c3) (.slice a4 nS c4) bI bS)) (fun tk _=>nS-(intOf tk).toNat)
     case atStart=>exact⟨0,rfl,Qg _,HT⟩
     case round=>
      clear HT;obtain⟨k2,rfl,hkb2,HR⟩:=hrel
      by_cases hkn2:k2<nS
      ·have bk1:(0:Int)<=(k2:Int):=(by omega);have bk2:(k2:Int)<(nS:Int):=(by omega);obtain⟨q1,hq1,_,y1⟩:=HR.out.2.2.1.atW HNI.out.2 hkn2 ⟨#[]⟩;obtain⟨q2,hq2,_,y2⟩:=HR.out.2.2.2.2.atW HNI.out.2 hkn2 ⟨#[]⟩;subst hq1 hq2;generalize bS.getD k2 ⟨#[]⟩=z at *;go_upto_region 32 with fail;go_quiet (fail);go_wp2;go_roundw;case rel=>exact⟨k2+1,by go_num,by omega,HR.out.drew _⟩
       case measure=>simp[intOf];omega
      have hnk2:¬(k2:Int)<(nS:Int):=(by omega);have HT:Hid (Below w.heap.size w wr):=HR.out.1;clear HR;go_wp2_with fail
      obtain⟨wn,hwn⟩:∃wn,wn=wr:=⟨wr,rfl⟩;subst hwn;go_loopw [20] (fun ti wr=>∃(i:Nat),ti=.int .i64 i/\i<=n/\Hid (Below w.heap.size w wr)) (fun ti _=>n-(intOf ti).toNat)
      case atStart=>exact⟨0,rfl,Qg _,HT⟩
      case round=>
       clear HT;obtain⟨r,rfl,hrb,HR⟩:=hrel;go_wp2_with fail
       refine(HA.out.rows _ HR.out).mono ?_;rintro e u1 ⟨rfl,hu1⟩;have HU1:Hid (Below w.heap.size w u1):=hu1;clear hu1 HR
       by_cases hrn:r<n
       ·have br2:(r:Int)<(n:Int):=(by omega);go_wp2_with fail
        refine(HA.out.look _ HU1.out f r hfn hrn).mono ?_;rintro e u2 ⟨rfl,hu2⟩;have HU2:Hid (Below w.heap.size w u2):=hu2;clear hu2 HU1;go_wp2_with fail
        refine(HB.out.look _ HU2.out f r hfn hrn).mono ?_;rintro e u3 ⟨rfl,hu3⟩;have HU3:Hid (Below w.heap.size w u3):=hu3;clear hu3 HU2;generalize B f r=bfr at *;go_wp2;go_roundw;case rel=>exact⟨r+1,by go_num,by omega,HU3⟩
        case measure=>simp[intOf];omega
       have hnr:¬(r:Int)<(n:Int):=(by omega);go_wp2;go_roundw;case rel=>exact⟨f+1,by go_num,by omega,HU1⟩
       case measure=>simp[intOf];omega
   have hnf:¬(f:Int)<(nk:Int):=(by omega);go_wp2;go_ret;exact⟨rfl,HR.out⟩
theorem Ya.mono0{w:World}{b q n i:Nat}{Ls:List (List Int)}(h:Ya w b q n i Ls):Ya w 0 q n i Ls:=by
 obtain⟨c,h1,h2,h3⟩:=h.cur
 exact⟨c,h1,h2,fun j hj=>by
  obtain⟨v,hv,ho⟩:=h3 j hj
  exact⟨v,hv,ho.mono (Qg _)⟩⟩
theorem YU.says{w:World}{gb db m n budget:Nat}{es:List ES}{Bb:List (List Nat)}(h:YU w gb db (ZJ m n budget es Bb))(hm:m+1<=4)(hn:n<=200)(hk:ZcN m n es Bb)(hkn:∀K∈(ZJ m n budget es Bb).ks,Zd6 K){X:List XS}(hX:X.Perm (ZJ m n budget es Bb).xs)(hs:Zaj X):Zl0 w gb n (m+1) (strOfNums (QH (ZJ m n budget es Bb) X)) (Zcl (ZJ m n budget es Bb)) (fun f=>((ZJ m n budget es Bb).ks.getD f ZN).e) (fun f row=>(Bb.getD f []).getD row 0):=by
 have hd:=Zc8 (budget:=budget) hm hn hk;have hkl:(ZJ m n budget es Bb).ks.length=m+1:=(by rw[show(ZJ m n budget es Bb).ks=_ from Zax _ _ _ _ _];exact YA es Bb (m+1));have hll:(Zcl (ZJ m n budget es Bb)).length=(ZJ m n budget es Bb).bs.length:=(by unfold Zcl;rw[List.length_map]);refine⟨fun W hW=>?_,fun W hW=>?_,fun W hW=>?_,fun W hW f hf=>?_,fun W hW f row hf hr=>?_⟩;exact(Zjh gb db n _ W (h.below hW) hd).mono (fun _ _ h=>⟨h.1,hW.trans (h.2.mono hW.size)⟩);exact(ZhW gb db n _ W (h.below hW) hd hkn X hX hs).mono (fun _ _ h=>⟨h.1,hW.trans (h.2.mono hW.size)⟩);refine(ZfX gb db n _ W (h.below hW) hd).mono ?_;rintro e w' ⟨q,rfl,_,hL,hb⟩;rw[hll];exact⟨q,rfl,hL.mono0,hb⟩
 exact Zg1 gb db f n _ W (h.below hW) hd (by rw[hkl];exact hf);exact(ZhX gb db f row m n budget es Bb W (h.below hW) hm hn hk hf hr).mono (fun _ _ h=>⟨h.1,hW.trans (h.2.mono hW.size)⟩)
theorem ZlB{w:World}{ga da gb db m n budget:Nat}{es:List ES}{Bb:List (List Nat)}(ha:YU w ga da (ZJ m n budget es Bb))(hb:YU w gb db (ZJ m n budget es Bb))(hm:m+1<=4)(hn:n<=200)(hk:ZcN m n es Bb)(hkn:∀K∈(ZJ m n budget es Bb).ks,Zd6 K):Calls Tryz.prog 30 #[.pointer (some ⟨ga,0,none⟩),.pointer (some ⟨gb,0,none⟩),.int .i64 ((m:Int)+1)] w fun e w'=>e=.returned (.bool true)/\Below w.heap.size w w':=by
 have hd:=Zc8 (budget:=budget) hm hn hk;have hkl:(ZJ m n budget es Bb).ks.length=m+1:=(by rw[show(ZJ m n budget es Bb).ks=_ from Zax _ _ _ _ _];exact YA es Bb (m+1));obtain⟨vK,vB,vX,kvs,bvs,X,hX⟩:=ha.md
 have h1:=ZmR ga gb n (m+1) _ _ _ _ w (ha.says hm hn hk hkn hX.perm hX.sorted) (hb.says hm hn hk hkn hX.perm hX.sorted) (by omega) (by omega) (by unfold Zcl;rw[List.length_map];have:=hd.b4;omega) (fun L hL=>by
  unfold Zcl at hL;obtain⟨b,hb,rfl⟩:=List.mem_map.1 hL;rw[ZG];have:=hd.f4 b hb
  omega) (fun f hf=>by
  have:=hd.edg f (by rw[hkl];exact hf);unfold bdI bdS;have h1:=this.lb;have h2:=this.lw;constructor;split;exact Qg _;exact h1;split;exact h2
  exact Qg _)
 exact h1
def esD(m:Nat)(wd:Nat->Bool)(ct:Nat->Int)(bins:Int)(size:Nat)(s:RS):List ES:=(List.range (m+1)).map (fun i=>ZV lwF (wd i) (ct i) bins size (s.cols i) s.ws)
def bbD(m:Nat)(wd:Nat->Bool)(ct:Nat->Int)(bins:Int)(size:Nat)(s:RS):List (List Nat):=(List.range (m+1)).map (fun i=>(s.cols i).map (Yu (ZV lwF (wd i) (ct i) bins size (s.cols i) s.ws)))
def ZeN(m:Nat)(wd:Nat->Bool)(ct:Nat->Int)(bins:Int)(size budget:Nat)(s:RS):QX:=ZJ m s.ws.length budget (esD m wd ct bins size s) (bbD m wd ct bins size s)
section
variable {m:Nat} {wd:Nat->Bool} {sc ct:Nat->Int} {bins:Int} {size budget:Nat} {l:List Int} {s:RS}
theorem Zer{i:Nat}(hi:i<m+1):(esD m wd ct bins size s).getD i e0S=ZV lwF (wd i) (ct i) bins size (s.cols i) s.ws:=by simp[esD,Qc,hi]
theorem Zkc{i:Nat}(hi:i<m+1):(bbD m wd ct bins size s).getD i []=(s.cols i).map (Yu (ZV lwF (wd i) (ct i) bins size (s.cols i) s.ws)):=by simp[bbD,Qc,hi]
structure ZkH(m:Nat)(s:RS):Prop where
 inv:Qw (m+1) s
 val:ZcQ (m+1) s
theorem Zo6(hsc:∀i,i<m+1->wd i=false->0<=sc i/\sc i<=3)(h:Zf (m+1) wd sc RS.start l 0=.ok s):ZkH m s:=
 ⟨Qw.takes (by omega) hsc l (Qw.start (show 1<=m+1 by omega)) h,ZcQ.takes (by omega) hsc l (ZcQ.start (m+1)) (Qw.start (show 1<=m+1 by omega)) h⟩
theorem ZkH.binok(h:ZkH m s)(hc:ZaM lwF m wd ct bins size s):ZcN m s.ws.length (esD m wd ct bins size s) (bbD m wd ct bins size s):=by refine⟨by simp[esD],fun i hi=>?_,fun i hi=>?_,fun i hi=>?_,fun i hi b hb=>?_⟩;rw[Zkc hi,List.length_map];exact h.inv.col i hi;rw[Zer hi];exact(hc.ok i hi).1;rw[Zer hi];exact(hc.ok i hi).2.2;rw[Zkc hi] at hb;rw[Zer hi];obtain⟨v,_,rfl⟩:=List.mem_map.1 hb;exact Zkd _ _
theorem ZkH.kn(h:ZkH m s)(hs:2<=size)(hs2:size<=32)(hb:2<=bins)(hb2:bins<=16):∀K∈(ZeN m wd ct bins size budget s).ks,Zd6 K:=by intro K hK;rw[show(ZeN m wd ct bins size budget s).ks=YG (esD m wd ct bins size s) (bbD m wd ct bins size s) (m+1) from Zax _ _ _ _ _] at hK;unfold YG at hK;obtain⟨i,hi,rfl⟩:=List.mem_map.1 hK;have hi:=List.mem_range.1 hi;unfold kF;rw[Zer hi];exact Zmv (by rw[h.inv.col i hi];exact h.inv.ws) hs hs2 hb hb2 (h.val.col i hi)
theorem ZmS{w:World}{ga da gb db:Nat}(ha:YU w ga da (ZeN m wd ct bins size budget s))(hb:YU w gb db (ZeN m wd ct bins size budget s))(h:ZkH m s)(hc:ZaM lwF m wd ct bins size s)(hm:m+1<=4)(hs:2<=size)(hs2:size<=32)(hb1:2<=bins)(hb2:bins<=16):Calls Tryz.prog 30 #[.pointer (some ⟨ga,0,none⟩),.pointer (some ⟨gb,0,none⟩),.int .i64 ((m:Int)+1)] w fun e w'=>e=.returned (.bool true)/\Below w.heap.size w w':=
 ZlB ha hb hm h.inv.ws (h.binok hc) (h.kn hs hs2 hb1 hb2)
end
def Zou(m:Nat)(wd:Nat->Bool)(ct:Nat->Int)(bins:Int)(size budget len:Nat)(o:Except (Int×Nat) RS)(e:Ending)(w':World):Prop:=
 match o with
 |.error (z,p)=>e=.returned (.tuple #[.pointer none,.int .i64 z,.int .i64 (p:Nat)])
 |.ok s=>(s.wt≠0/\e=.returned (.tuple #[.pointer none,.int .i64 2,.int .i64 (len:Nat)]))∨
   (s.wt=0/\∃gb db,e=.returned (.tuple #[.pointer (some ⟨gb,0,none⟩),.int .i64 0,.int .i64 0])/\YU w' gb db (ZeN m wd ct bins size budget s))
theorem Znj(b:ByteArray)(fk m fc cn cc:Nat)(ca:Option Addr)(cz:List Int)(bins:Int)(size budget:Nat)(wd:Nat->Bool)(sc ct:Nat->Int)(w:World)(hF:YW w fk 0 (m+1) wd sc ct)(hc:ZbM (m+1) bins size budget wd sc ct=true)(hcut:ZI w ca cn cz)(hcn:cn<=9223372036854775807)(hb:b.size<=200000000000000):Calls Tryz.prog 25 #[.agg #[.slice (some ⟨fk,0,none⟩) (m+1) fc,.int .i64 bins,.int .i64 (size:Nat),.int .i64 (budget:Nat)],.string b,.slice ca cn cc] w fun e w'=>Zou m wd ct bins size budget b.size (Zf (m+1) wd sc RS.start (Zb b) 0) e w'/\Below w.heap.size w w':=by
 obtain⟨h1,h4,c1,c2,c3,c4,c5,c6,hfe⟩:=Zbk hc
 have hsc:∀i,i<m+1->wd i=false->0<=sc i/\sc i<=3:=fun i hi hw=>by have:=hfe i hi;unfold Q0 at this;rw[hw] at this;simp at this;omega
 exact ZdX lwF b fk 0 m fc cn cc ca cz bins size budget wd sc ct w hF hc hcut hcn hb (fun s hs _=>ZdP hsc (by omega) (by omega) (by omega) (by omega) hs)
theorem ZgD{n:Nat}{wd:Nat->Bool}{sc:Nat->Int}:∀(l:List Int) (s:RS) (k:Nat) {z:Int} {p:Nat},Zf n wd sc s l k=.error (z,p)->k<=p/\p<k+l.length/\(∃s',Zf n wd sc s (l.take (p-k)) k=.ok s')/\Zf n wd sc s (l.take (p-k+1)) k=.error (z,p)
 |[],s,k,z,p,h=>by cases h
 | c ::r,s,k,z,p,h=>by
  unfold Zf at h
  cases ht:Yp n wd sc s c with
  | error y=>
   rw[ht] at h;injection h with h;injection h with h1 h2;subst h1 h2;refine⟨Qa _,by simp,⟨s,by rw[Nat.sub_self];rfl⟩,?_⟩;rw[Nat.sub_self];simp[Zf,ht]
  | ok s1=>
   rw[ht] at h;obtain⟨a,b,⟨s',c1⟩,d⟩:=ZgD r s1 (k+1) h;refine⟨by omega,by simp;omega,⟨s',?_⟩,?_⟩;rw[show p-k=(p-(k+1))+1 by omega,List.take_succ_cons];simp only[Zf,ht];exact c1;rw[show p-k+1=(p-(k+1)+1)+1 by omega,List.take_succ_cons];simp only[Zf,ht];exact d
section
variable {w wr:World} {K:Nat->Prop} {ib tb rb fb cb m:Nat} {wd:Nat->Bool} {sc ct:Nat->Int} {bins:Int} {size budget:Nat}
theorem ZaB(b c:ByteArray)(k n base:Nat)(hc:Zb c=((Zb b).drop k).take n)(hk:k+n<=b.size)(hb:b.size<=200000000000000)(hm:m+1<=4)(hsc:∀i,i<m+1->wd i=false->0<=sc i/\sc i<=3)(hbs:base<=wr.heap.size)(hib:base<=ib/\base<=tb)(hF:ZgJ base K ib tb rb fb cb (m+1) wd sc ct bins size budget k (Zf (m+1) wd sc RS.start ((Zb b).take k) 0) wr):Calls Tryz.prog 32 #[.pointer (some ⟨ib,0,none⟩),.string c] wr fun e w'=>e=.returned (.tuple #[.int .i64 (Z6 (Zf (m+1) wd sc RS.start ((Zb b).take (k+n)) 0)).1,.int .i64 (Z6 (Zf (m+1) wd sc RS.start ((Zb b).take (k+n)) 0)).2])/\ZgJ base K ib tb rb fb cb (m+1) wd sc ct bins size budget (k+n) (Zf (m+1) wd sc RS.start ((Zb b).take (k+n)) 0) w'/\Below base wr w':=by
 have hr:Zb (b.extract k b.size)=(Zb b).drop k:=(by rw[Z0,List.take_of_length_le (by rw[Yi];exact Qa _)]);have hrs:(b.extract k b.size).size=b.size-k:=by rw[<- Yi,hr,List.length_drop,Yi]
 have he:c=(b.extract k b.size).extract 0 n:=by
  have h1:Zb c=Zb ((b.extract k b.size).extract 0 n):=(by rw[Z0,hr,List.drop_zero];exact hc);unfold Zb at h1
  have h2:c.data.toList=((b.extract k b.size).extract 0 n).data.toList:=by
   refine List.map_inj_right (f:=fun u:UInt8=>(u.toNat:Int)) (fun x y hxy=>?_)|>.1 h1
   have hxy':(x.toNat:Int)=(y.toNat:Int):=hxy;have:x.toNat=y.toNat:=(by omega);exact UInt8.toNat_inj.1 this
  cases c with
  | mk d=>
   cases hq:(b.extract k b.size).extract 0 n with
   | mk d2=>
    rw[hq] at h2;simp only at h2;rw[Array.toList_inj.1 h2]
 rw[he];exact Zgh (size:=size) (budget:=budget) (bins:=bins) b (b.extract k b.size) k n base hr hrs (by omega) (by rw[hrs];omega) hb hm hsc hbs hib hF
end
theorem Ze9(ca la xa ya:Option Addr)(cn cc ln lc xn xc yn yc:Nat)(cs l cz oz:List Int)(text:ByteArray)(w:World)(hcs:ZI w ca cn cs)(hl:ZI w la ln l)(hx:ZI w xa xn cz)(hy:ZI w ya yn oz)(hcn:cn<=9223372036854775807)(hln:ln<=9223372036854775807)(hxn:xn<=9223372036854775807)(hyn:yn<=9223372036854775807)(hsz:text.size<=140737488355328):Calls Tryz.prog 8 #[.slice ca cn cc,.slice la ln lc,.string text,.slice xa xn xc,.slice ya yn yc] w fun e w'=>e=.returned (.bool true)/\Below w.heap.size w w':=by
 have HCS:=fun W (hW:Below w.heap.size w W)=>Ze6 ca cn cc cs W (hcs.below hW) hcn;have HLI:Hid (∀W,Below w.heap.size w W->ZI W la ln l/\ZI W xa xn cz/\ZI W ya yn oz):=fun W hW=>⟨hl.below hW,hx.below hW,hy.below hW⟩;have HHD:Hid Zhy:=Zmr;have hcf:=ZhK cs;have hconf:=Znd cs;have hmany:QN cs l<=150:=(by unfold QN;omega);have hts:=ZcL cs l (QN cs l);have htk:=ZkC cs l (QN cs l) hmany;have hst:=ZjN cs l (QN cs l);obtain⟨h1,h4,c1,c2,c3,c4,c5,c6,hfe⟩:=Zbk hconf
 have HSC:Hid (∀i,i<Yr cs+1->QK cs i=false->0<=Q5 cs i/\Q5 cs i<=3):=fun i hi hw=>by have:=hfe i hi;unfold Q0 at this;rw[hw] at this;simp at this;omega
 have HT0:Hid (Zf (Yr cs+1) (QK cs) (Q5 cs) RS.start (Zb (Qm cs l (QN cs l))) 0=.ok (stR cs l (QN cs l))/\(stR cs l (QN cs l)).wt=0):=⟨htk,hst.wt⟩;have HRO:Hid (∀W fk fc,Below w.heap.size w W->YW W fk 0 (Yr cs+1) (QK cs) (Q5 cs) (cfT cs)->Calls Tryz.prog 24 #[.agg #[.slice (some ⟨fk,0,none⟩) (Yr cs+1) fc,.int .i64 (cfB cs:Nat),.int .i64 (cfS cs:Nat),.int .i64 (cfU cs:Nat)],.slice la ln lc] W fun e w'=>∃v,e=.returned (.tuple #[v,.string (Qm cs l (QN cs l))])/\Below W.heap.size W w'):=fun W fk fc hW hF=>(Zg8 fk fc ln lc la cs l W hF (HLI.out W hW).1 hln).mono (fun _ _ h=>by obtain⟨v,h1,_,h3⟩:=h;exact⟨v,h1,h3⟩)
 have HFE:Hid (∀(b:ByteArray) W fk fc (va:Option Addr) (vn vc:Nat) (vz:List Int),b.size<=200000000000000->ZI W va vn vz->vn<=9223372036854775807->YW W fk 0 (Yr cs+1) (QK cs) (Q5 cs) (cfT cs)->Calls Tryz.prog 25 #[.agg #[.slice (some ⟨fk,0,none⟩) (Yr cs+1) fc,.int .i64 (cfB cs:Nat),.int .i64 (cfS cs:Nat),.int .i64 (cfU cs:Nat)],.string b,.slice va vn vc] W fun e w'=>Zou (Yr cs) (QK cs) (cfT cs) (cfB cs:Nat) (cfS cs) (cfU cs) b.size (Zf (Yr cs+1) (QK cs) (Q5 cs) RS.start (Zb b) 0) e w'/\Below W.heap.size W w'):=fun b W fk fc va vn vc vz hb hV hvn hF=>Znj b fk (Yr cs) fc vn vc va vz (cfB cs:Nat) (cfS cs) (cfU cs) (QK cs) (Q5 cs) (cfT cs) W hF hconf hV hvn hb
 have HSA:Hid (∀(b:List Int) (s:RS) (W:World) (ga da gb db:Nat),Zf (Yr cs+1) (QK cs) (Q5 cs) RS.start b 0=.ok s->YU W ga da (ZeN (Yr cs) (QK cs) (cfT cs) (cfB cs:Nat) (cfS cs) (cfU cs) s)->YU W gb db (ZeN (Yr cs) (QK cs) (cfT cs) (cfB cs:Nat) (cfS cs) (cfU cs) s)->Calls Tryz.prog 30 #[.pointer (some ⟨ga,0,none⟩),.pointer (some ⟨gb,0,none⟩),.int .i64 ((Yr cs:Int)+1)] W fun e w'=>e=.returned (.bool true)/\Below W.heap.size W w'):=fun b s W ga da gb db hr h1 h2=>ZmS h1 h2 (Zo6 HSC.out hr) (ZdP HSC.out (by omega) (by omega) (by omega) (by omega) hr) (by omega) (by omega) (by omega) (by omega) (by omega)
 have HRD:Hid (∀W fk fc,YW W fk 0 (Yr cs+1) (QK cs) (Q5 cs) (cfT cs)->Calls Tryz.prog 31 #[.agg #[.slice (some ⟨fk,0,none⟩) (Yr cs+1) fc,.int .i64 (cfB cs:Nat),.int .i64 (cfS cs:Nat),.int .i64 (cfU cs:Nat)]] W fun e w'=>∃ib tb fb rb cb,e=.returned (.tuple #[.pointer (some ⟨ib,0,none⟩),.int .i64 0])/\Zeo w' W.heap.size ib tb fb rb cb (Yr cs+1) (QK cs) (Q5 cs) (cfT cs) (cfB cs:Nat) (cfS cs:Nat) (cfU cs:Nat)/\Below W.heap.size W w'):=fun W fk fc hF=>Zfp fk 0 (Yr cs+1) fc _ _ _ _ _ _ W hF hconf;have HSZ:Hid ((Qm cs l (QN cs l)).size<=6000):=(by show _<=_;omega);have hm4:Yr cs<=3:=hcf.2.2.2.2.2;clear hcf hconf hmany hts htk hst h1 h4 c1 c2 c3 c4 c5 c6 hfe hcs hl hx hy;generalize Qm cs l (QN cs l)=tx at *;generalize stR cs l (QN cs l)=s0 at *;generalize Yr cs=m at *
 generalize QK cs=wd at *;generalize Q5 cs=sc at *;generalize cfT cs=ct at *;generalize cfB cs=B at *;generalize cfS cs=S at *;generalize cfU cs=U at *;go_enter Tryz.func8,Tryz.ntmps8;go_wp2_with fail
 refine(HHD.out _).mono ?_;rintro e w1 ⟨rfl,hb1⟩;have HB1:Hid (Below w.heap.size w w1):=hb1;have HC1:=HCS w1 hb1;clear hb1 HCS;go_wp2_with fail
 refine HC1.mono ?_;rintro e w2 ⟨fk,fc,rfl,hfk,hF2,hb2⟩;have HB2:Hid (Below w.heap.size w w2/\YW w2 fk 0 (m+1) wd sc ct):=⟨HB1.out.trans (hb2.mono HB1.out.size),hF2⟩;have hs2:=HB2.out.1.size;clear hb2 hF2 HC1 hfk;go_upto_region 3 with fail;generalize hW3:w2.alloc (.cells #[.slice (some ⟨fk,0,none⟩) (m+1) fc,.int .i64 (B:Nat),.int .i64 (S:Nat),.int .i64 (U:Nat)] 37)=w3;have hX3:w3.heap[w2.heap.size]? =some (.cells #[.slice (some ⟨fk,0,none⟩) (m+1) fc,.int .i64 (B:Nat),.int .i64 (S:Nat),.int .i64 (U:Nat)] 37 (0,0)):=(by rw[<- hW3];exact heap_alloc_new _ _);have hb3:Below w2.heap.size w2 w3:=(by rw[<- hW3];exact(Below.refl _ _).alloc (Qa _) _);have hkl:w2.heap.size<w3.heap.size:=(Qb hX3).1
 have HW:Hid (∀W,Below w3.heap.size w3 W->Below w.heap.size w W/\YW W fk 0 (m+1) wd sc ct/\W.cell? ⟨w2.heap.size,0,none⟩=some (.slice (some ⟨fk,0,none⟩) (m+1) fc)/\W.cell? ⟨w2.heap.size,1,none⟩=some (.int .i64 (B:Nat))/\W.cell? ⟨w2.heap.size,2,none⟩=some (.int .i64 (S:Nat))/\W.cell? ⟨w2.heap.size,3,none⟩=some (.int .i64 (U:Nat))):=fun W hW=>by
  have hb:Below w2.heap.size w2 W:=hb3.trans (hW.mono hb3.size);refine⟨HB2.out.1.trans (hb.mono hs2),HB2.out.2.below hb,?_,?_,?_,?_⟩;exact(hW.cell (p:=⟨w2.heap.size,0,none⟩) hkl).trans (cell_of_row _ _ 0 _ 37 (0,0) hX3);exact(hW.cell (p:=⟨w2.heap.size,1,none⟩) hkl).trans (cell_of_row _ _ 1 _ 37 (0,0) hX3);exact(hW.cell (p:=⟨w2.heap.size,2,none⟩) hkl).trans (cell_of_row _ _ 2 _ 37 (0,0) hX3);exact(hW.cell (p:=⟨w2.heap.size,3,none⟩) hkl).trans (cell_of_row _ _ 3 _ 37 (0,0) hX3)
 clear hW3 hX3 hb3 HB2 HB1 hs2;obtain⟨_,_,e0,e1,e2,e3⟩:=HW.out w3 (Below.refl _ _);go_wp2_with fail
 refine(HRO.out _ _ _ (HW.out w3 (Below.refl _ _)).1 (HW.out w3 (Below.refl _ _)).2.1).mono ?_;rintro e w4 ⟨vr,rfl,hb4⟩;have HB4:Hid (Below w3.heap.size w3 w4):=hb4;clear hb4 e0 e1 e2 e3;obtain⟨_,_,e0,e1,e2,e3⟩:=HW.out w4 HB4.out;go_wp2_with fail
 refine(HFE.out tx w4 fk fc xa xn xc cz (by have:=HSZ.out;omega) (HLI.out _ (HW.out w4 HB4.out).1).2.1 hxn (HW.out w4 HB4.out).2.1).mono ?_;rintro e w5 ⟨hA,hb5⟩;rw[HT0.out.1] at hA
 rcases hA with⟨hne,_⟩|⟨_,ga,da,rfl,hO5⟩
 exact absurd HT0.out.2 hne;have HB5:Hid (Below w3.heap.size w3 w5):=HB4.out.trans (hb5.mono HB4.out.size);have HO5:Hid (YU w5 ga da (ZeN m wd ct (B:Nat) S U s0)):=hO5;clear hb5 hO5 e0 e1 e2 e3 HB4;obtain⟨_,_,e0,e1,e2,e3⟩:=HW.out w5 HB5.out;go_wp2_with fail
 refine(HFE.out tx w5 fk fc ya yn yc oz (by have:=HSZ.out;omega) (HLI.out _ (HW.out w5 HB5.out).1).2.2 hyn (HW.out w5 HB5.out).2.1).mono ?_;rintro e w6 ⟨hA,hb6⟩;rw[HT0.out.1] at hA
 rcases hA with⟨hne,_⟩|⟨_,gb,db,rfl,hO6⟩
 exact absurd HT0.out.2 hne;have HB6:Hid (Below w3.heap.size w3 w6):=HB5.out.trans (hb6.mono HB5.out.size);have HO6:Hid (YU w6 ga da (ZeN m wd ct (B:Nat) S U s0)/\YU w6 gb db (ZeN m wd ct (B:Nat) S U s0)):=⟨HO5.out.below hb6,hO6⟩;clear hb6 hO6 e0 e1 e2 e3 HB5 HO5;obtain⟨_,_,e0,e1,e2,e3⟩:=HW.out w6 HB6.out;go_wp2_with fail
 refine(HSA.out _ s0 w6 ga da gb db HT0.out.1 HO6.out.1 HO6.out.2).mono ?_;rintro e w7 ⟨rfl,hb7⟩;have HB7:Hid (Below w3.heap.size w3 w7):=HB6.out.trans (hb7.mono HB6.out.size);clear hb7 e0 e1 e2 e3 HB6 HO6;obtain⟨_,_,e0,e1,e2,e3⟩:=HW.out w7 HB7.out;have HTS:Hid ((tx++text).size<=200000000000000):=(by show _<=_;rw[ByteArray.size_append];have:=HSZ.out;omega);have hcat:tx.size+text.size<=9223372036854775807:=(by have:=HSZ.out;omega);have hcat2:(tx.size:Int)+(text.size:Int)<=9223372036854775807:=(by omega);go_wp2_with fail
 generalize htt:tx++text=tt at *;clear htt;have HOO:Hid (∃o,Zf (m+1) wd sc RS.start (Zb tt) 0=o):=⟨_,rfl⟩;refine(HFE.out tt w7 fk fc xa xn xc cz HTS.out (HLI.out _ (HW.out w7 HB7.out).1).2.1 hxn (HW.out w7 HB7.out).2.1).mono ?_;rintro e w8 ⟨hA8,hb8⟩;have HB8:Hid (Below w3.heap.size w3 w8):=HB7.out.trans (hb8.mono HB7.out.size);clear e0 e1 e2 e3;obtain⟨_,_,e0,e1,e2,e3⟩:=HW.out w8 HB8.out;have HF9:=HFE.out tt w8 fk fc ya yn yc oz HTS.out (HLI.out _ (HW.out w8 HB8.out).1).2.2 hyn (HW.out w8 HB8.out).2.1
 cases ho:Zf (m+1) wd sc RS.start (Zb tt) 0 with
 | ok s=>
  rw[ho] at hA8 HF9
  rcases hA8 with⟨hne,rfl⟩|⟨hwt,g2,d2,rfl,hO8⟩
  ·clear hb8;go_wp2_with fail
   refine HF9.mono ?_;rintro e w9 ⟨hA,hb9⟩
   rcases hA with⟨_,rfl⟩|⟨h0,_⟩
   rotate_left
   exact absurd h0 hne;have HB9:Hid (Below w3.heap.size w3 w9):=HB8.out.trans (hb9.mono HB8.out.size);clear hb9 e0 e1 e2 e3 HF9;obtain⟨_,_,e0,e1,e2,e3⟩:=HW.out w9 HB9.out;go_wp2_with fail
   refine(HRD.out w9 fk fc (HW.out w9 HB9.out).2.1).mono ?_;rintro e w10 ⟨ib,tb,fb,rb,cb,rfl,hI,hb10⟩;obtain⟨K,M0,hX0,hM0,hib,htb⟩:=hI.start;have HB10:Hid (Below w3.heap.size w3 w10):=HB9.out.trans (hb10.mono HB9.out.size);have et:(Zb tt).take (0+tt.size)=Zb tt:=(by rw[Nat.zero_add];exact List.take_of_length_le (by rw[Yi];exact Qa _));have HFD:=ZaB (size:=S) (budget:=U) (bins:=(B:Nat)) (ct:=ct) (rb:=rb) (fb:=fb) (cb:=cb) (K:=K) (wr:=w10) tt (tt.extract 0 tt.size) 0 tt.size w9.heap.size (by rw[Z0];rfl) (by omega) HTS.out (by omega) HSC.out hb10.size ⟨hib,htb⟩ ⟨M0,hX0,hM0⟩;rw[et,ho] at HFD;clear hI hX0 hM0 e0 e1 e2 e3;have hts:=HTS.out
   have HFF:Calls Tryz.prog 32 #[.pointer (some ⟨ib,0,none⟩),.string (tt.extract 0 tt.size)] w10 fun e w'=>e=.returned (.tuple #[.int .i64 0,.int .i64 0])/\Below w9.heap.size w10 w':=HFD.mono (fun _ _ h=>⟨h.1,h.2.2⟩);clear HFD et;have hs39:=HB9.out.size;generalize hsz2:tt.size=nt at *;have b1:(0:Int)<=(nt:Int):=(by omega);go_wp2_with fail
   refine HFF.mono ?_;rintro e w11 ⟨rfl,hb11⟩;have HFI:Hid (Below w.heap.size w w11):=(HW.out w11 (HB10.out.trans (hb11.mono hs39))).1;clear hb11 HFF;go_wp2;go_ret;exact⟨rfl,HFI.out⟩
  have HO8:Hid (YU w8 g2 d2 (ZeN m wd ct (B:Nat) S U s)):=hO8;clear hb8 hO8;go_wp2_with fail
  refine HF9.mono ?_;rintro e w9 ⟨hA,hb9⟩
  rcases hA with⟨hne,_⟩|⟨_,g3,d3,rfl,hO9⟩
  exact absurd hwt hne;have HB9:Hid (Below w3.heap.size w3 w9):=HB8.out.trans (hb9.mono HB8.out.size);have HS9:=HSA.out _ s w9 g2 d2 g3 d3 ho (HO8.out.below hb9) hO9;clear hb9 hO9 e0 e1 e2 e3 HF9 HO8;obtain⟨_,_,e0,e1,e2,e3⟩:=HW.out w9 HB9.out;go_wp2_with fail
  refine HS9.mono ?_;rintro e w10 ⟨rfl,hb10⟩;have HFI:Hid (Below w.heap.size w w10):=(HW.out w10 (HB9.out.trans (hb10.mono HB9.out.size))).1;clear hb10 HS9;go_wp2;go_ret;exact⟨rfl,HFI.out⟩
 | error zp=>
  obtain⟨z,p⟩:=zp;rw[ho] at hA8 HF9;have hz:=Zbs _ _ _ ho;obtain⟨_,hpl,⟨s',hok⟩,herr⟩:=ZgD _ _ _ ho;rw[Yi,Nat.zero_add] at hpl;rw[Nat.sub_zero] at hok herr;have hA8':e=.returned (.tuple #[.pointer none,.int .i64 z,.int .i64 (p:Nat)]):=hA8;subst hA8'
  rcases hz with rfl|rfl
  ·clear hb8 hA8;go_wp2_with fail
   refine HF9.mono ?_;rintro e w9 ⟨hA,hb9⟩;have hA':e=.returned (.tuple #[.pointer none,.int .i64 2,.int .i64 (p:Nat)]):=hA;subst hA';have HB9:Hid (Below w3.heap.size w3 w9):=HB8.out.trans (hb9.mono HB8.out.size);clear hb9 hA e0 e1 e2 e3 HF9;obtain⟨_,_,e0,e1,e2,e3⟩:=HW.out w9 HB9.out;go_wp2_with fail
   refine(HRD.out w9 fk fc (HW.out w9 HB9.out).2.1).mono ?_;rintro e w10 ⟨ib,tb,fb,rb,cb,rfl,hI,hb10⟩;obtain⟨K,M0,hX0,hM0,hib,htb⟩:=hI.start;have HB10:Hid (Below w3.heap.size w3 w10):=HB9.out.trans (hb10.mono HB9.out.size);have HFD:=ZaB (size:=S) (budget:=U) (bins:=(B:Nat)) (ct:=ct) (rb:=rb) (fb:=fb) (cb:=cb) (K:=K) (wr:=w10) tt (tt.extract 0 p) 0 p w9.heap.size (by rw[Z0];rfl) (by omega) HTS.out (by omega) HSC.out hb10.size ⟨hib,htb⟩ ⟨M0,hX0,hM0⟩;rw[Nat.zero_add,hok] at HFD;have HFF:Calls Tryz.prog 32 #[.pointer (some ⟨ib,0,none⟩),.string (tt.extract 0 p)] w10 fun e w'=>e=.returned (.tuple #[.int .i64 0,.int .i64 0])/\ZgJ w9.heap.size K ib tb rb fb cb (m+1) wd sc ct (B:Nat) S U p (.ok s') w'/\Below w9.heap.size w10 w':=HFD.mono (fun _ _ h=>h)
   have HIB:Hid (w9.heap.size<=ib/\w9.heap.size<=tb):=⟨hib,htb⟩;have hs910:=hb10.size;clear HFD hI hX0 hM0 e0 e1 e2 e3 hb10;have hts:=HTS.out;have hs39:=HB9.out.size;have HPC:Hid (Zb (tt.extract p (p+1))=((Zb tt).drop p).take 1):=(by show _=_;rw[Z0,List.drop_take];congr 1;omega);have HOK:Hid (Zf (m+1) wd sc RS.start ((Zb tt).take p) 0=.ok s'/\Zf (m+1) wd sc RS.start ((Zb tt).take (p+1)) 0=.error (2,p)):=⟨hok,herr⟩;clear hok herr ho;have HPL:Hid (p<tt.size):=hpl;generalize hsz2:tt.size=nt at *;have b1:(0:Int)<=(p:Int):=(by omega);have b2:(p:Int)<=(nt:Int):=(by omega);have b3:(p:Int)<(nt:Int):=(by omega);have b4:(p:Int)+1<=(nt:Int):=(by omega);go_wp2_with fail
   refine HFF.mono ?_;rintro e w11 ⟨rfl,hF11,hb11⟩;have hs11:=hb11.size;have HFD:=ZaB (size:=S) (budget:=U) (bins:=(B:Nat)) (ct:=ct) (rb:=rb) (fb:=fb) (cb:=cb) (K:=K) (wr:=w11) tt (tt.extract p (p+1)) p 1 w9.heap.size HPC.out (by rw[hsz2];omega) (by rw[hsz2];exact hts) (by omega) HSC.out (by omega) HIB.out (by rw[HOK.out.1];exact hF11);rw[HOK.out.2] at HFD;have HFG:Calls Tryz.prog 32 #[.pointer (some ⟨ib,0,none⟩),.string (tt.extract p (p+1))] w11 fun e w'=>e=.returned (.tuple #[.int .i64 2,.int .i64 (p:Nat)])/\Below w9.heap.size w11 w':=HFD.mono (fun _ _ h=>⟨h.1,h.2.2⟩);have HB11:Hid (Below w3.heap.size w3 w11):=HB10.out.trans (hb11.mono hs39);clear HFD HFF hF11 hb11;go_wp2_with fail
   refine HFG.mono ?_;rintro e w12 ⟨rfl,hb12⟩;have HFI:Hid (Below w.heap.size w w12):=(HW.out w12 (HB11.out.trans (hb12.mono hs39))).1;clear hb12 HFG;go_wp2;go_ret;exact⟨rfl,HFI.out⟩
  clear hb8 hA8;go_wp2_with fail
  refine HF9.mono ?_;rintro e w9 ⟨hA,hb9⟩;have hA':e=.returned (.tuple #[.pointer none,.int .i64 3,.int .i64 (p:Nat)]):=hA;subst hA';have HB9:Hid (Below w3.heap.size w3 w9):=HB8.out.trans (hb9.mono HB8.out.size);clear hb9 hA e0 e1 e2 e3 HF9;obtain⟨_,_,e0,e1,e2,e3⟩:=HW.out w9 HB9.out;go_wp2_with fail
  refine(HRD.out w9 fk fc (HW.out w9 HB9.out).2.1).mono ?_;rintro e w10 ⟨ib,tb,fb,rb,cb,rfl,hI,hb10⟩;obtain⟨K,M0,hX0,hM0,hib,htb⟩:=hI.start;have HB10:Hid (Below w3.heap.size w3 w10):=HB9.out.trans (hb10.mono HB9.out.size);have HFD:=ZaB (size:=S) (budget:=U) (bins:=(B:Nat)) (ct:=ct) (rb:=rb) (fb:=fb) (cb:=cb) (K:=K) (wr:=w10) tt (tt.extract 0 p) 0 p w9.heap.size (by rw[Z0];rfl) (by omega) HTS.out (by omega) HSC.out hb10.size ⟨hib,htb⟩ ⟨M0,hX0,hM0⟩;rw[Nat.zero_add,hok] at HFD;have HFF:Calls Tryz.prog 32 #[.pointer (some ⟨ib,0,none⟩),.string (tt.extract 0 p)] w10 fun e w'=>e=.returned (.tuple #[.int .i64 0,.int .i64 0])/\ZgJ w9.heap.size K ib tb rb fb cb (m+1) wd sc ct (B:Nat) S U p (.ok s') w'/\Below w9.heap.size w10 w':=HFD.mono (fun _ _ h=>h)
  have HIB:Hid (w9.heap.size<=ib/\w9.heap.size<=tb):=⟨hib,htb⟩;have hs910:=hb10.size;clear HFD hI hX0 hM0 e0 e1 e2 e3 hb10;have hts:=HTS.out;have hs39:=HB9.out.size;have HPC:Hid (Zb (tt.extract p (p+1))=((Zb tt).drop p).take 1):=(by show _=_;rw[Z0,List.drop_take];congr 1;omega);have HOK:Hid (Zf (m+1) wd sc RS.start ((Zb tt).take p) 0=.ok s'/\Zf (m+1) wd sc RS.start ((Zb tt).take (p+1)) 0=.error (3,p)):=⟨hok,herr⟩;clear hok herr ho;have HPL:Hid (p<tt.size):=hpl;generalize hsz2:tt.size=nt at *;have b1:(0:Int)<=(p:Int):=(by omega);have b2:(p:Int)<=(nt:Int):=(by omega);have b3:(p:Int)<(nt:Int):=(by omega);have b4:(p:Int)+1<=(nt:Int):=(by omega);go_wp2_with fail
  refine HFF.mono ?_;rintro e w11 ⟨rfl,hF11,hb11⟩;have hs11:=hb11.size;have HFD:=ZaB (size:=S) (budget:=U) (bins:=(B:Nat)) (ct:=ct) (rb:=rb) (fb:=fb) (cb:=cb) (K:=K) (wr:=w11) tt (tt.extract p (p+1)) p 1 w9.heap.size HPC.out (by rw[hsz2];omega) (by rw[hsz2];exact hts) (by omega) HSC.out (by omega) HIB.out (by rw[HOK.out.1];exact hF11);rw[HOK.out.2] at HFD;have HFG:Calls Tryz.prog 32 #[.pointer (some ⟨ib,0,none⟩),.string (tt.extract p (p+1))] w11 fun e w'=>e=.returned (.tuple #[.int .i64 3,.int .i64 (p:Nat)])/\Below w9.heap.size w11 w':=HFD.mono (fun _ _ h=>⟨h.1,h.2.2⟩);have HB11:Hid (Below w3.heap.size w3 w11):=HB10.out.trans (hb11.mono hs39);clear HFD HFF hF11 hb11;go_wp2_with fail
  refine HFG.mono ?_;rintro e w12 ⟨rfl,hb12⟩;have HFI:Hid (Below w.heap.size w w12):=(HW.out w12 (HB11.out.trans (hb12.mono hs39))).1;clear hb12 HFG;go_wp2;go_ret;exact⟨rfl,HFI.out⟩
end Go.Proofs.YtfcgnpchbcmdeaaGreat
