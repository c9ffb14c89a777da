import Derived.Test.YtfcgnpchbcmdeaaGreatZfbi
import Derived.Test.YtfcgnpchbcmdeaaGreatZfbl
import Derived.Test.YtfcgnpchbcmdeaaGreatZfbh
import Derived.Test.YtfcgnpchbcmdeaaGreatZfbg
import Derived.Test.YtfcgnpchbcmdeaaGreatZfbn
namespace Go.Proofs.YtfcgnpchbcmdeaaGreat
set_option linter.unusedSimpArgs false
set_option maxRecDepth 100000
set_option maxHeartbeats 16000000
open Go.RowKit
theorem Zc7.mem{n:Nat}{D:DSS}(_:Zc7 n D){i:Nat}(hi:i<D.bs.length):D.bs.getD i ZH∈D.bs:=by rw[Qc,Qd hi];exact Qf _
theorem Zho(db f row n:Nat)(vK vB vX:Value)(kvs bvs:List (Value×Value))(X:List XS)(D:DSS)(w:World)(h:Zbg w db vK vB vX kvs bvs X D)(hd:Zc7 n D)(hf:f<D.ks.length)(hr:row<n):Calls Tryz.prog 78 #[.pointer (some ⟨db,0,none⟩),.int .i64 (row:Nat),.int .i64 (f:Nat)] w fun e w'=>e=.returned (.int .i64 (Zdp D X f (ZX D f) (ZdD D f) row:Nat))/\Below w.heap.size w w':=by
 have hs:=hd.seat hf;have hbm:=hd.mem hs.hb;have hbo:=hd.bok _ hbm;have hg:=hd.g40 _ hbm;have hrl:row<(D.bs.getD (ZX D f) ZH).N.length:=by rw[hbo.len];exact hr
 have hNg:(D.bs.getD (ZX D f) ZH).N.getD row 0<=(D.bs.getD (ZX D f) ZH).g:=(by rw[Qc,Qd hrl];exact hbo.le _ (Qf _));have hxl:X.length<=1000000:=(by rw[h.perm.length_eq];have:=hd.xl;omega);have hoff:QG D (ZX D f) (ZdD D f)<=100000:=(by have h1:=ZhM D.ks ((D.bs.getD (ZX D f) ZH).fs.take (ZdD D f)) (fun x hx=>Nat.le_trans (hd.mn x (hd.fk _ hbm x (List.mem_of_mem_take hx))) (by decide));have h2:=hd.f4 _ hbm;have h3:((D.bs.getD (ZX D f) ZH).fs.take (ZdD D f)).length<=(D.bs.getD (ZX D f) ZH).fs.length:=(by rw[List.length_take];omega);unfold QG;omega);have hn2:=hd.n2;have hbl:D.bs.length<=1000:=(by have:=hd.b4;omega);obtain⟨_,hcol⟩:=h.ds.bn.each (ZX D f) hs.hb
 rcases hcol with⟨_,p,e,sb,vc,e2,_,hX⟩|⟨_,p,e,dd,q,e2,_,hX⟩
 subst e2;refine Zgf db f _ _ row sb vK vB vX kvs bvs X D w h hs hbl hxl (by omega) hoff e (fun W hW=>?_);have hX':Zf2 W 0 sb (D.bs.getD (ZX D f) ZH).N.length (Lib.bitLen (D.bs.getD (ZX D f) ZH).g) vc (spF (D.bs.getD (ZX D f) ZH).N (D.bs.getD (ZX D f) ZH).N.length):=⟨(hW.block _ (Qb hX.blk).1).trans hX.blk,(Za.of_below (S:=fun _=>False) hW).row hX.row (fun _ _=>id)⟩;exact ZhL sb _ _ row vc _ W hX' hrl (by rw[hbo.len];omega);subst e2;have hb6:Lib.bitLen (D.bs.getD (ZX D f) ZH).g<=6:=Zgt (by omega);have hN2:(D.bs.getD (ZX D f) ZH).N.getD row 0<2^Lib.bitLen (D.bs.getD (ZX D f) ZH).g:=Nat.lt_of_le_of_lt hNg (Zlp (by omega));refine ZhA db f _ _ row dd vK vB vX kvs bvs X D w h hs hbl hxl (by omega) hoff e (fun W hW=>?_)
 have hmul:row*Lib.bitLen (D.bs.getD (ZX D f) ZH).g+Lib.bitLen (D.bs.getD (ZX D f) ZH).g<=(D.bs.getD (ZX D f) ZH).N.length*Lib.bitLen (D.bs.getD (ZX D f) ZH).g:=by rw[<- Nat.succ_mul];exact Nat.mul_le_mul_right _ hrl
 have hmul2:(D.bs.getD (ZX D f) ZH).N.length*Lib.bitLen (D.bs.getD (ZX D f) ZH).g<=200*6:=Nat.mul_le_mul (by rw[hbo.len];exact hn2) hb6;have hX':Zeo W 0 dd q (D.bs.getD (ZX D f) ZH).N.length (Lib.bitLen (D.bs.getD (ZX D f) ZH).g) (ZV (Y3 (D.bs.getD (ZX D f) ZH).N (Lib.bitLen (D.bs.getD (ZX D f) ZH).g)) (((D.bs.getD (ZX D f) ZH).N.length*Lib.bitLen (D.bs.getD (ZX D f) ZH).g+7)/8) ((D.bs.getD (ZX D f) ZH).N.length*Lib.bitLen (D.bs.getD (ZX D f) ZH).g)):=⟨(hW.block _ (Qb hX.blk).1).trans hX.blk,(Za.of_below (S:=fun _=>False) hW).row hX.row (fun _ _=>id)⟩;have h1:=Zd9 dd q _ _ _ _ row _ W hX' (fun t=>ZeW _ _ t) hb6 hmul (by omega) (by omega);rw[Zgu _ hN2] at h1;exact h1
theorem Zit(gb db f row m n budget:Nat)(es:List ES)(Bb:List (List Nat))(w:World)(h:Y1 w gb db (Z2 m n budget es Bb))(hm:m+1<=4)(hn:n<=200)(hk:Zd4 m n es Bb)(hf:f<m+1)(hr:row<n):Calls Tryz.prog 44 #[.pointer (some ⟨gb,0,none⟩),.int .i64 (row:Nat),.int .i64 (f:Nat)] w fun e w'=>e=.returned (.tuple #[.int .i64 ((Bb.getD f []).getD row 0:Nat),.int .i64 0])/\Below w.heap.size w w':=by
 have hd:=Zfr (budget:=budget) hm hn hk;have hkl:(Z2 m n budget es Bb).ks.length=m+1:=(by rw[show(Z2 m n budget es Bb).ks=_ from ZbV _ _ _ _ _];exact YK es Bb (m+1));have hN0:((Z2 m n budget es Bb).bs.getD 0 ZH).N.length=n:=(hd.bok _ (hd.mem hd.b0)).len;refine Zec gb db f row _ _ w h hd.b0 (by rw[hkl];omega) (by rw[hN0];exact hr) (by rw[hN0];omega) (by rw[hkl];exact hf) (fun W hW=>?_);obtain⟨vK,vB,vX,kvs,bvs,X,hX⟩:=hW.md;have h1:=Zho db f row n vK vB vX kvs bvs X _ W hX hd (by rw[hkl];exact hf) hr;rw[Zm8 hm hn hk hX.perm hf hr] at h1;exact h1
theorem ZjQ(gb db n:Nat)(D:DSS)(w:World)(h:Y1 w gb db D)(hd:Zc7 n D):Calls Tryz.prog 26 #[.pointer (some ⟨gb,0,none⟩)] w fun e w'=>e=.returned (.int .i64 (n:Nat))/\Below w.heap.size w w':=by have h1:=ZlK gb db D w h hd.b0;rw[(hd.bok _ (hd.mem hd.b0)).len] at h1;exact h1
theorem Zht(gb db f n:Nat)(D:DSS)(w:World)(h:Y1 w gb db D)(hd:Zc7 n D)(hf:f<D.ks.length):Calls Tryz.prog 27 #[.pointer (some ⟨gb,0,none⟩),.int .i64 (f:Nat)] w fun e w'=>ZoG w (D.ks.getD f ZK).e e w':=
 Zis gb db f D w h (by have:=hd.k4;omega) hf (hd.edg f hf).lb (hd.edg f hf).lw
theorem Zcj{S:Int->Prop}{size:Int}(hs:2<=size)(hs2:size<=32):∀{Ls:List (List Zm)} {l:List Zm},Yt Ls->Zy l->l.length<=32->Zw Ls+Zc l<=1000000000000->(∀L∈Ls,∀e∈L,S e.v)->(∀e∈l,S e.v)->∀L∈Zt size Ls l,∀e∈L,S e.v
 |[],l,_,_,_,_,_,hv=>by simpa [Zt] using hv
 | o ::r,l,h,g,hl,ht,hL,hv=>by
  have go:=h.good o (by simp);have hr:Yt r:=⟨fun x hx=>h.good x (by simp[hx]),fun x hx=>h.len x (by simp[hx])⟩;have p1:=Yn hr.good;have p2:=(Yv go).1;have p3:=(Yv g).1;simp only[Zw] at ht;simp only[Zt];split
  ·intro L hx
   rcases List.mem_cons.1 hx with rfl|hx
   exact hv;exact hL L (by simp[hx])
  have gj:=Y6 go g (by omega);have gc:Zy (Yz (Zr o l) size):=gj.sub (Q9 gj size);have tc:Zc (Yz (Zr o l) size)=Zc o+Zc l:=(by rw[Zaz,Y9]);have lc:=Zbj (Zr o l) hs
  have ih:=Zcj (S:=S) hs hs2 hr gc (by omega) (by omega) (fun L hx=>hL L (by simp[hx])) (fun e he=>by
   rcases ZbC go g e ((Q9 gj size).subset he) with⟨x,hx,e1⟩|⟨x,hx,e1⟩
   rw[<- e1];exact hL o (by simp) x hx
   rw[<- e1];exact hv x hx)
  intro L hx
  rcases List.mem_cons.1 hx with rfl|hx
  simp;exact ih L hx
theorem Zg0{S:Int->Prop}{vs ws:List Int}(h:∀v∈vs,S v/\ -1000000000<=v/\v<=1000000000):∀e∈ZbG vs ws,S e.v:=fun e he=>by have hs:=Zci (Zg vs ws);obtain⟨p,hp,h1,_⟩:=(Zbp (Zch (Zg vs ws)) 0).1 e he;obtain⟨q,hq,e2⟩:=hs.sub p hp;unfold Zg at hq;obtain⟨z,hz,rfl⟩:=List.mem_map.1 hq;have hz1:z.1∈vs:=(List.of_mem_zip (a:=z.1) (b:=z.2) hz).1;obtain⟨a,b,c⟩:=h z.1 hz1;rw[<- h1,<- e2];show S (Q1 z.1);unfold Q1;rw[if_neg (by omega),if_neg (by omega)];exact a
theorem Zbv{S:Int->Prop}{size:Nat}(hs:2<=size)(hs2:size<=32):∀(f:Nat) (Ls:List (List Zm)) (vs ws:List Int),Yt Ls->Zw Ls+1000*(vs.length:Int)<=1000000000000->vs.length<=2097152->(∀L∈Ls,∀e∈L,S e.v)->(∀v∈vs,S v/\ -1000000000<=v/\v<=1000000000)->∀L∈Yj size f Ls vs ws,∀e∈L,S e.v
 |0,Ls,vs,ws,_,_,_,hL,_=>by simp only[Yj];exact hL
 |f+1,Ls,vs,ws,h,ht,hl,hL,hv=>by simp only[Yj];split;exact hL;have h1:=ZeM (vs:=vs.take size) (ws:=ws.take size) (by simp;omega);have hp:=Yn h.good;have hlen:(vs.take size).length+(vs.drop size).length=vs.length:=(by simp;omega);have hlt:(vs.take size).length<=size:=(by simp;omega);obtain⟨t1,t2⟩:=Zbq (size:=(size:Int)) (by omega) (by omega) h h1.1 (by omega) (by omega);refine Zbv hs hs2 f _ (vs.drop size) (ws.drop size) t1 (by omega) (by omega) ?_ (fun v hv2=>hv v (List.mem_of_mem_drop hv2));exact Zcj (by omega) (by omega) h h1.1 (by omega) (by omega) hL (Zg0 (fun v hv2=>hv v (List.mem_of_mem_take hv2)))
theorem Zdj{S:Int->Prop}{size:Int}(hs:2<=size)(hs2:size<=32):∀(Ls:List (List Zm)) (al:List Zm),Yt Ls->Zy al->al.length<=32->Zc al+Zw Ls<=1000000000000->(∀L∈Ls,∀e∈L,S e.v)->(∀e∈al,S e.v)->∀e∈YC size al Ls,S e.v
 |[],al,_,_,_,_,_,hv=>hv
 | l ::r,al,h,g,hl,ht,hL,hv=>by
  have gl:=h.good l (by simp);have hr:Yt r:=⟨fun x hx=>h.good x (by simp[hx]),fun x hx=>h.len x (by simp[hx])⟩;have p1:=Yn hr.good;simp only[Zw] at ht;have gj:=Y6 g gl (by omega);have lc:=Zbj (Zr al l) hs;have tc:Zc (Yz (Zr al l) size)=Zc al+Zc l:=(by rw[Zaz,Y9]);simp only[YC]
  exact Zdj hs hs2 r _ hr (gj.sub (Q9 gj size)) (by omega) (by omega) (fun L hx=>hL L (by simp[hx])) (fun e he=>by
   rcases ZbC g gl e ((Q9 gj size).subset he) with⟨x,hx,e1⟩|⟨x,hx,e1⟩
   rw[<- e1];exact hv x hx
   rw[<- e1];exact hL l (by simp) x hx)
theorem ZcP{S:Int->Prop}{size:Nat}(hs:2<=size)(hs2:size<=32)(vs ws:List Int)(hl:vs.length<=2097152)(hv:∀v∈vs,S v/\ -1000000000<=v/\v<=1000000000):∀e∈ZW size vs ws,S e.v:=by obtain⟨h1,h2⟩:=Zbu hs hs2 vs.length [] vs ws Yt.nil (by simp[Zw];omega) hl;exact Zdj (by omega) (by omega) _ [] h1 Zy.nil (by simp) (by simp[Zc,Zw] at h2 ⊢;omega) (Zbv hs hs2 _ _ _ _ Yt.nil (by simp[Zw];omega) hl (by simp) hv) (by simp)
theorem Zcy:∀(L:List VS) (ws:List Int) (x:Int×Int),x∈Zp L ws->∃v∈L,v.miss=false/\v.num=x.1
 |[],_,x,h=>by simp[Zp] at h
 |_::_,[],x,h=>by simp[Zp] at h
 | v::L,z::ws,x,h=>by
  simp only[Zp] at h;split at h;obtain⟨u,hu,h1⟩:=Zcy L ws x h;exact⟨u,by simp[hu],h1⟩;rename_i hm
  rcases List.mem_cons.1 h with rfl|h
  exact⟨v,by simp,by simpa using hm,rfl⟩;obtain⟨u,hu,h1⟩:=Zcy L ws x h;exact⟨u,by simp[hu],h1⟩
theorem ZiE{L:List VS}{ws:List Int}{bins:Int}{size:Nat}(hL:L.length<=200)(hs:2<=size)(hs2:size<=32)(hr:∀v∈L,-1000000000<=v.num/\v.num<=1000000000):∀x∈Ym L ws bins size,∃v∈L,v.miss=false/\v.num=x:=fun x hx=>by have hl:((Zp L ws).map Prod.fst).length<=2097152:=(by have:=Zay L ws;simp;omega);unfold Ym at hx;have h1:=(Zd6 _ bins).subset hx;obtain⟨e,he,rfl⟩:=List.mem_map.1 h1;refine ZcP (S:=fun y=>∃v∈L,v.miss=false/\v.num=y) hs hs2 _ _ hl (fun v hv=>?_) e (List.mem_of_mem_take he);obtain⟨p,hp,rfl⟩:=List.mem_map.1 hv;obtain⟨u,hu,h2,h3⟩:=Zcy L ws p hp;have:=hr u hu;exact⟨⟨u,hu,h2,h3⟩,by omega,by omega⟩
theorem Zdu{α:Type}[BEq α][LawfulBEq α]:∀{l V:List α},l.Nodup->(∀x∈l,x∈V)->l.length<=V.length
 |[],V,_,_=>Qg _
 | a ::l,V,h,hs=>by
  rw[List.nodup_cons] at h;have ha:=hs a (by simp)
  have h1:=Zdu (l:=l) (V:=V.erase a) h.2 (fun x hx=>by
   have hne:x≠a:=fun e=>h.1 (by rw[<- e];exact hx)
   exact(List.mem_erase_of_ne hne).2 (hs x (by simp[hx])))
  rw[List.length_erase_of_mem ha] at h1;have:=List.length_pos_of_mem ha;simp only[List.length_cons];omega
theorem ZlZ{α:Type}[BEq α][LawfulBEq α]{l V:List α}(h1:l.Nodup)(h2:V.Nodup)(h:∀x,x∈l↔x∈V):l.length=V.length:=
 Nat.le_antisymm (Zdu h1 (fun x hx=>(h x).1 hx)) (Zdu h2 (fun x hx=>(h x).2 hx))
theorem Zy.nodup{L:List Zm}(g:Zy L):(L.map fun e=>e.v).Nodup:=by refine List.Pairwise.map _ (R:=fun e f:Zm=>e.v<f.v) (fun a b h=>?_) (g.step.imp (fun h=>h.1));exact Int.ne_of_lt h
theorem Zy.few{L:List Zm}(g:Zy L){V:List Int}(h:∀e∈L,e.v∈V):L.length<=V.length:=by
 have:=Zdu g.nodup (V:=V) (fun x hx=>by
  obtain⟨e,he,rfl⟩:=List.mem_map.1 hx
  exact h e he)
 simpa using this
theorem ZkT{L:List Zm}{size:Int}(h:(L.length:Int)<=size):Yz L size=L:=by unfold Yz;rw[if_pos (by omega)]
theorem Zcu(a b:List Zm)(x:Int)(h:(∃e∈a,e.v=x)∨∃e∈b,e.v=x):∃e∈Zr a b,e.v=x:=by
 obtain⟨h1,h2⟩:=Zbn a b (a.length+b.length) 0 0 (by omega)
 rcases h with⟨e,he,rfl⟩|⟨e,he,rfl⟩
 obtain⟨k,hk,rfl⟩:=Zft he;exact h1 k (Qg _) hk;obtain⟨k,hk,rfl⟩:=Zft he;exact h2 k (Qg _) hk
section
variable {V:List Int}
theorem Zc3{size:Int}(hV:(V.length:Int)<=size):∀{Ls:List (List Zm)} {l:List Zm},Yt Ls->Zy l->Zw Ls+Zc l<=1000000000000->(∀L∈Ls,∀e∈L,e.v∈V)->(∀e∈l,e.v∈V)->∀x,((∃L∈Ls,∃e∈L,e.v=x)∨∃e∈l,e.v=x)->∃L∈Zt size Ls l,∃e∈L,e.v=x
 | [],l,_,_,_,_,_,x,hx=>by
  rcases hx with⟨L,h,_⟩|h
  simp at h;exact⟨l,by simp[Zt],h⟩
 | o ::r,l,h,g,ht,hL,hv,x,hx=>by
  have go:=h.good o (by simp);have hr:Yt r:=⟨fun x hx=>h.good x (by simp[hx]),fun x hx=>h.len x (by simp[hx])⟩;have p1:=Yn hr.good;have p2:=(Yv go).1;have p3:=(Yv g).1;simp only[Zw] at ht;simp only[Zt];split
  ·rename_i h0
   rcases hx with⟨L,hL2,he⟩|he
   ·rcases List.mem_cons.1 hL2 with rfl|hL2
    obtain⟨e,he,_⟩:=he;rw[List.eq_nil_of_length_eq_zero h0] at he;simp at he;exact⟨L,by simp[hL2],he⟩
   exact⟨l,by simp,he⟩
  have gj:=Y6 go g (by omega)
  have hjv:∀e∈Zr o l,e.v∈V:=fun e he=>by
   rcases ZbC go g e he with⟨y,hy,e1⟩|⟨y,hy,e1⟩
   rw[<- e1];exact hL o (by simp) y hy;rw[<- e1];exact hv y hy
  have hc:Yz (Zr o l) size=Zr o l:=ZkT (by have:=gj.few hjv;omega);rw[hc];have tc:Zc (Zr o l)=Zc o+Zc l:=Y9 o l
  have ih:=Zc3 hV hr gj (by omega) (fun L hx=>hL L (by simp[hx])) hjv x (by
   rcases hx with⟨L,hL2,he⟩|he
   ·rcases List.mem_cons.1 hL2 with rfl|hL2
    exact .inr (Zcu _ _ x (.inl he));exact .inl ⟨L,hL2,he⟩
   exact .inr (Zcu _ _ x (.inr he)))
  obtain⟨L,h1,h2⟩:=ih;exact⟨L,by simp[h1],h2⟩
theorem Znt{vs ws:List Int}(hl:vs.length<=ws.length)(h:∀v∈vs,-1000000000<=v/\v<=1000000000):∀x∈vs,∃e∈ZbG vs ws,e.v=x:=fun x hx=>by have hs:=Zci (Zg vs ws);obtain⟨k,hk,rfl⟩:=List.getElem_of_mem hx;have hz:(vs[k],ws[k]'(by omega))∈List.zip vs ws:=(by refine List.mem_of_getElem? (i:=k) ?_;rw[List.getElem?_zip_eq_some];simp[hk,show k<ws.length by omega]);have hp:(vs[k],Zbw (ws[k]'(by omega)))∈Zg vs ws:=(by unfold Zg;refine List.mem_map.2 ⟨_,hz,?_⟩;have:=h _ hx;show(Q1 vs[k],_)=_;unfold Q1;rw[if_neg (by omega),if_neg (by omega)]);obtain⟨q,hq,e1⟩:=hs.all _ hp;obtain⟨e,he,e2⟩:=(Zbp (Zch (Zg vs ws)) 0).2.1 q hq;exact⟨e,he,by rw[e2,e1]⟩
theorem Zd5{size:Nat}(hs:2<=size)(hs2:size<=32)(hV:V.length<=size):∀(f:Nat) (Ls:List (List Zm)) (vs ws:List Int),vs.length<=f->vs.length<=ws.length->Yt Ls->Zw Ls+1000*(vs.length:Int)<=1000000000000->vs.length<=2097152->(∀L∈Ls,∀e∈L,e.v∈V)->(∀v∈vs,v∈V/\ -1000000000<=v/\v<=1000000000)->∀x,((∃L∈Ls,∃e∈L,e.v=x)∨x∈vs)->∃L∈Yj size f Ls vs ws,∃e∈L,e.v=x
 | 0,Ls,vs,ws,hf,_,_,_,_,_,_,x,hx=>by
  have:vs=[]:=List.eq_nil_of_length_eq_zero (by omega);subst this;simp only[Yj]
  rcases hx with h|h
  exact h;simp at h
 | f +1,Ls,vs,ws,hf,hlw,h,ht,hl,hL,hv,x,hx=>by
  simp only[Yj];split
  ·rename_i h0;have:vs=[]:=List.eq_nil_of_length_eq_zero h0;subst this
   rcases hx with h|h
   exact h;simp at h
  have h1:=ZeM (vs:=vs.take size) (ws:=ws.take size) (by simp;omega);have hp:=Yn h.good;have hlen:(vs.take size).length+(vs.drop size).length=vs.length:=(by simp;omega);have hlt:(vs.take size).length<=size:=(by simp;omega);have hdl:(vs.drop size).length<=f:=(by simp;omega);obtain⟨t1,t2⟩:=Zbq (size:=(size:Int)) (by omega) (by omega) h h1.1 (by omega) (by omega);have hsv:=Zg0 (S:=fun y=>y∈V) (vs:=vs.take size) (ws:=ws.take size) (fun v hv2=>hv v (List.mem_of_mem_take hv2));refine Zd5 hs hs2 hV f _ (vs.drop size) (ws.drop size) hdl (by simp;omega) t1 (by omega) (by omega) ?_ (fun v hv2=>hv v (List.mem_of_mem_drop hv2)) x ?_;exact Zcj (by omega) (by omega) h h1.1 (by omega) (by omega) hL hsv
  rcases hx with hx|hx
  exact .inl (Zc3 (by omega) h h1.1 (by omega) hL hsv x (.inl hx));rw[<- List.take_append_drop size vs] at hx
  rcases List.mem_append.1 hx with hx|hx
  exact .inl (Zc3 (by omega) h h1.1 (by omega) hL hsv x (.inr (Znt (by simp;omega) (fun v hv2=>(hv v (List.mem_of_mem_take hv2)).2) x hx)));exact .inr hx
theorem Zeb{size:Int}(hs:2<=size)(hs2:size<=32)(hV:(V.length:Int)<=size):∀(Ls:List (List Zm)) (al:List Zm),Yt Ls->Zy al->al.length<=32->Zc al+Zw Ls<=1000000000000->(∀L∈Ls,∀e∈L,e.v∈V)->(∀e∈al,e.v∈V)->∀x,((∃L∈Ls,∃e∈L,e.v=x)∨∃e∈al,e.v=x)->∃e∈YC size al Ls,e.v=x
 | [],al,_,_,_,_,_,_,x,hx=>by
  rcases hx with⟨L,h,_⟩|h
  simp at h;exact h
 | l ::r,al,h,g,hl,ht,hL,hv,x,hx=>by
  have gl:=h.good l (by simp);have hr:Yt r:=⟨fun x hx=>h.good x (by simp[hx]),fun x hx=>h.len x (by simp[hx])⟩;have p1:=Yn hr.good;simp only[Zw] at ht;have gj:=Y6 g gl (by omega)
  have hjv:∀e∈Zr al l,e.v∈V:=fun e he=>by
   rcases ZbC g gl e he with⟨y,hy,e1⟩|⟨y,hy,e1⟩
   rw[<- e1];exact hv y hy;rw[<- e1];exact hL l (by simp) y hy
  have hf:=gj.few hjv;have tc:Zc (Zr al l)=Zc al+Zc l:=Y9 al l;simp only[YC];rw[ZkT (by omega)];refine Zeb hs hs2 hV r _ hr gj (by omega) (by omega) (fun L hx=>hL L (by simp[hx])) hjv x ?_
  rcases hx with⟨L,hL2,he⟩|he
  ·rcases List.mem_cons.1 hL2 with rfl|hL2
   exact .inr (Zcu _ _ x (.inr he));exact .inl ⟨L,hL2,he⟩
  exact .inr (Zcu _ _ x (.inl he))
end
theorem ZgH:∀(L:List VS) (ws:List Int),L.length=ws.length->∀v∈L,v.miss=false->v.num∈(Zp L ws).map Prod.fst
 |[],_,_,v,h,_=>by simp at h
 |u::L,[],hl,v,h,hm=>by simp at hl
 | u::L,z::ws,hl,v,h,hm=>by
  simp only[Zp]
  rcases List.mem_cons.1 h with rfl|h
  rw[if_neg (by simp[hm])];simp;have ih:=ZgH L ws (by simpa using hl) v h hm;split;exact ih;simp only[List.map_cons,List.mem_cons];exact .inr ih
theorem ZjW{L:List VS}{ws:List Int}{bins:Int}{size:Nat}(hL:L.length<=200)(hw:L.length=ws.length)(hs:2<=size)(hs2:size<=32)(hbs:bins<=size)(hr:∀v∈L,-1000000000<=v.num/\v.num<=1000000000){V:List Int}(hn:V.Nodup)(hV:∀x,x∈V↔∃v∈L,v.miss=false/\v.num=x)(h0:0<V.length)(hb:(V.length:Int)<=bins):(Ym L ws bins size).length=V.length-1:=by
 have hl:((Zp L ws).map Prod.fst).length<=2097152:=by have:=Zay L ws;simp;omega
 have hv:∀v∈(Zp L ws).map Prod.fst,v∈V/\ -1000000000<=v/\v<=1000000000:=fun v hv=>by obtain⟨p,hp,rfl⟩:=List.mem_map.1 hv;obtain⟨u,hu,h2,h3⟩:=Zcy L ws p hp;exact⟨(hV _).2 ⟨u,hu,h2,h3⟩,by have:=hr u hu;omega⟩
 obtain⟨g,g2⟩:=Zb8 hs hs2 ((Zp L ws).map Prod.fst) ((Zp L ws).map Prod.snd) hl;have hin:∀e∈ZW size ((Zp L ws).map Prod.fst) ((Zp L ws).map Prod.snd),e.v∈V:=ZcP (S:=fun y=>y∈V) hs hs2 _ _ hl hv
 have hall:∀x∈V,∃e∈ZW size ((Zp L ws).map Prod.fst) ((Zp L ws).map Prod.snd),e.v=x:=fun x hx=>by
  obtain⟨v,h1,h2,rfl⟩:=(hV x).1 hx;obtain⟨b1,b2⟩:=Zbu hs hs2 ((Zp L ws).map Prod.fst).length [] ((Zp L ws).map Prod.fst) ((Zp L ws).map Prod.snd) Yt.nil (by simp[Zw] at hl ⊢;omega) hl;have hVs:V.length<=size:=by omega
  exact Zeb (V:=V) (by omega) (by omega) (by omega) _ [] b1 Zy.nil (by simp) (by simp[Zc,Zw] at b2 hl ⊢;omega) (Zbv (S:=fun y=>y∈V) hs hs2 _ _ _ _ Yt.nil (by simp[Zw] at hl ⊢;omega) hl (by simp) hv) (by simp) _
   (.inl (Zd5 hs hs2 hVs _ [] _ _ (Qa _) (by simp) Yt.nil (by simp[Zw] at hl ⊢;omega) hl (by simp) hv _ (.inr (ZgH L ws hw v h1 h2))))
 have hlen:(ZW size ((Zp L ws).map Prod.fst) ((Zp L ws).map Prod.snd)).length=V.length:=by
  have:=ZlZ g.nodup hn (fun x=>⟨fun hx=>by
   obtain⟨e,he,rfl⟩:=List.mem_map.1 hx
   exact hin e he,fun hx=>by
   obtain⟨e,he,rfl⟩:=hall x hx
   exact List.mem_map.2 ⟨e,he,rfl⟩⟩)
  simpa using this
 unfold Ym ZT;rw[if_neg (by omega),if_pos (by omega),List.length_map,List.length_take];omega
def ZjF(L:List VS)(ws:List Int)(ct:Int):List WS:=(Q3 (L.zip ws) ct).mergeSort fun x y=>decide (leW x y)
theorem ZhB(L:List VS)(ws:List Int)(ct bins:Int):(lwF L ws ct bins).ww=((ZjF L ws ct).take bins.toNat).map WS.wd:=rfl
theorem Zin(L:List VS)(ws:List Int)(ct:Int):(ZjF L ws ct).Pairwise leW:=by
 have h:=List.pairwise_mergeSort (le:=fun x y=>decide (leW x y)) (fun a b c h1 h2=>decide_eq_true (ZgL (of_decide_eq_true h1) (of_decide_eq_true h2))) (fun a b=>by
  rcases ZgK a b with h|h
  rw[decide_eq_true h];rfl
  rw[decide_eq_true h,Bool.or_true]) (Q3 (L.zip ws) ct)
 exact h.imp (fun h=>of_decide_eq_true h)
theorem Zdr(L:List VS)(ws:List Int)(ct:Int)(x:WS):x∈ZjF L ws ct↔ZcH (L.zip ws) x.wd.data.toList=true/\x.wt=YP (L.zip ws) x.wd.data.toList/\ct<=x.wt:=by unfold ZjF;rw[List.mem_mergeSort];exact Zfu _ _ x
theorem ZjG(L:List VS)(ws:List Int)(ct:Int):(ZjF L ws ct).Nodup:=((List.mergeSort_perm _ _).nodup_iff).2 (Zdn _ _)
def Zjq(ps:List (VS×Int))(x y:ByteArray):Prop:=YP ps y.data.toList<YP ps x.data.toList∨YP ps y.data.toList=YP ps x.data.toList/\QP x y
theorem ZgN(L:List VS)(ws:List Int)(ct bins:Int):(lwF L ws ct bins).ww.Pairwise (Zjq (L.zip ws)):=by
 rw[ZhB];have h:(ZjF L ws ct).Pairwise (fun x y=>leW x y/\x≠y):=(Zin L ws ct).and (ZjG L ws ct)
 have h2:((ZjF L ws ct).take bins.toNat).Pairwise (fun x y=>Zjq (L.zip ws) x.wd y.wd):=by
  refine List.Pairwise.imp_of_mem ?_ (h.sublist (List.take_sublist _ _));intro x y hx hy hxy;obtain⟨_,x2,_⟩:=(Zdr L ws ct x).1 (List.mem_of_mem_take hx);obtain⟨_,y2,_⟩:=(Zdr L ws ct y).1 (List.mem_of_mem_take hy);obtain⟨h1,h2⟩:=hxy;unfold leW at h1;unfold Zjq;rw[<- x2,<- y2]
  by_cases e:y.wt=x.wt
  ·refine .inr ⟨e,?_⟩;apply Classical.byContradiction;intro hn;apply h2;have hwd:x.wd=y.wd:=ZjI hn (fun h3=>h1 (.inr ⟨e,h3⟩))
   cases x;cases y
   simp only at e hwd;rw[e,hwd]
  left;have:¬x.wt<y.wt:=fun h3=>h1 (.inl h3);omega
 exact List.Pairwise.map _ (fun a b h=>h) h2
theorem ZlR(L:List VS)(ws:List Int)(ct bins:Int):∀x∈(lwF L ws ct bins).ww,ct<=YP (L.zip ws) x.data.toList:=fun x hx=>by rw[ZhB] at hx;obtain⟨y,hy,rfl⟩:=List.mem_map.1 hx;obtain⟨_,h2,h3⟩:=(Zdr L ws ct y).1 (List.mem_of_mem_take hy);omega
theorem Zob(L:List VS)(ws:List Int)(ct bins:Int)(hb:0<=bins):((lwF L ws ct bins).ww.length:Int)<=bins:=by rw[ZhB];simp;omega
theorem ZlS(L:List VS)(ws:List Int)(ct bins:Int):(lwF L ws ct bins).ww.Nodup:=by
 refine(ZgN L ws ct bins).imp (fun {a b} h=>?_);rintro rfl
 rcases h with h|⟨_,h⟩
 omega;exact Zgi _ h
theorem Zoa(L:List VS)(ws:List Int)(ct bins:Int)(hw:L.length=ws.length)(hr:((lwF L ws ct bins).ww.length:Int)<bins):∀v∈L,v.miss=false->ct<=YP (L.zip ws) v.word.data.toList->v.word∈(lwF L ws ct bins).ww:=fun v hv hm hc=>by rw[ZhB] at hr ⊢;simp only[List.length_map,List.length_take] at hr;rw[List.take_of_length_le (by omega)];refine List.mem_map.2 ⟨⟨v.word,YP (L.zip ws) v.word.data.toList⟩,(Zdr L ws ct _).2 ⟨?_,rfl,hc⟩,rfl⟩;unfold ZcH;obtain⟨k,hk,rfl⟩:=List.getElem_of_mem hv;refine List.any_eq_true.2 ⟨(L[k],ws[k]'(by omega)),?_,?_⟩;refine List.mem_of_getElem? (i:=k) ?_;rw[List.getElem?_zip_eq_some];simp[hk,show k<ws.length by omega];simp[ZbR,hm]
structure Zg7(R:Q0)(i:Nat)(V:VS)(z:Int):Prop where
 miss:V.miss=R.ms.getD i false
 num:V.miss=false->V.num=R.ns.getD i 0
 word:V.miss=false->V.word=R.ss.getD i ⟨#[]⟩
 wt:z=R.wt
section
variable {n i:Nat} {R:Nat->Q0} {V:Nat->VS} {Z:Nat->Int}
theorem ZaL{α:Type}{n j:Nat}(F:Nat->α)(d:α)(hj:j<n):((List.range n).map F).getD j d=F j:=by simp[Qc,hj]
theorem ZgP(h:∀j,j<n->Zg7 (R j) i (V j) (Z j))(x:Int):x∈Yk ((List.range n).map R) i n↔∃v∈(List.range n).map V,v.miss=false/\v.num=x:=by rw[ZgO _ i x n (by simp)];constructor;rintro⟨j,hj,h1,h2⟩;rw[ZaL R Qv hj] at h1 h2;have hm:(V j).miss=false:=(h j hj).miss.trans h1;exact⟨V j,List.mem_map.2 ⟨j,List.mem_range.2 hj,rfl⟩,hm,((h j hj).num hm).trans h2⟩;rintro⟨v,hv,h1,h2⟩;obtain⟨j,hj,rfl⟩:=List.mem_map.1 hv;have hj:=List.mem_range.1 hj;refine⟨j,hj,?_,?_⟩;rw[ZaL R Qv hj];exact(h j hj).miss.symm.trans h1;rw[ZaL R Qv hj,<- (h j hj).num h1];exact h2
theorem ZpQ:((List.range n).map V).zip ((List.range n).map Z)=(List.range n).map fun j=>(V j,Z j):=by refine List.ext_getElem (by simp) (fun k h1 h2=>?_);simp
theorem wtV(h:∀j,j<n->Zg7 (R j) i (V j) (Z j))(x:ByteArray):wtW ((List.range n).map R) i x=YP (((List.range n).map V).zip ((List.range n).map Z)) x.data.toList:=by
 rw[ZpQ];unfold wtW YP;rw[List.map_map,List.map_map];congr 1;refine List.map_congr_left fun j hj=>?_;have hj:=List.mem_range.1 hj;have hr:=h j hj
 have hx:∀y:ByteArray,(y.data.toList=x.data.toList)↔y=x:=fun y=>by cases y;cases x;simp
 show(if(R j).ms.getD i false=false/\(R j).ss.getD i ⟨#[]⟩=x then(R j).wt else 0)=(if ZbR (V j) x.data.toList=true then Z j else 0)
 rcases Bool.eq_false_or_eq_true (V j).miss with hm|hm
 rw[if_neg (by rw[<- hr.miss,hm];simp),if_neg (by unfold ZbR;rw[hm];simp)];have hw:=hr.word hm
 by_cases e:(R j).ss.getD i ⟨#[]⟩=x
 rw[if_pos ⟨by rw[<- hr.miss,hm],e⟩,if_pos (by unfold ZbR;rw[hm,hw,e];simp),hr.wt]
 rw[if_neg (fun h2=>e h2.2),if_neg (by
  unfold ZbR;rw[hm];simp only[Bool.not_false,Bool.true_and,decide_eq_true_eq]
  rw[hx,hw];exact e)]
theorem ZmG(h:∀j,j<n->Zg7 (R j) i (V j) (Z j)){bz:List Int}{j:Nat}(hj:j<n):Yi ⟨false,bz,[]⟩ (V j)=Zhb bz (R j) i:=by
 have hr:=h j hj;unfold Yi Zhb;rw[<- hr.miss]
 rcases Bool.eq_false_or_eq_true (V j).miss with hm|hm
 rw[if_pos hm,if_pos hm];rfl;have hne:¬(V j).miss=true:=(by rw[hm];simp);rw[if_neg hne,if_neg hne,hr.num hm];rfl
theorem Zlo(h:∀j,j<n->Zg7 (R j) i (V j) (Z j)){ww:List ByteArray}{j:Nat}(hj:j<n):Yi ⟨true,[],ww⟩ (V j)=Zhc ww (R j) i:=by
 have hr:=h j hj;unfold Yi Zhc;rw[<- hr.miss]
 rcases Bool.eq_false_or_eq_true (V j).miss with hm|hm
 rw[if_pos hm,if_pos hm];rfl;have hne:¬(V j).miss=true:=(by rw[hm];simp);rw[if_neg hne,if_neg hne,hr.word hm];rfl
theorem Zoe(h:∀j,j<n->Zg7 (R j) i (V j) (Z j)){bins:Int}{size:Nat}(hn:n<=200)(hs:2<=size)(hs2:size<=32)(hb:2<=bins)(hbs:bins<=size)(hr:∀v∈(List.range n).map V,-1000000000<=v.num/\v.num<=1000000000)(bz:List Int)(e:bz=Ym ((List.range n).map V) ((List.range n).map Z) bins size):((bz.length:Int)<bins)/\(∀x∈bz,x∈Yk ((List.range n).map R) i n)/\bz.Pairwise (· < ·)/\(0<(Yk ((List.range n).map R) i n).length->((Yk ((List.range n).map R) i n).length:Int)<=bins->bz.length=(Yk ((List.range n).map R) i n).length-1):=by
 subst e
 have hl:((List.range n).map V).length<=200:=by simpa using hn
 obtain⟨a,b⟩:=ZgM ((List.range n).map V) ((List.range n).map Z) hl hs hs2 hb;refine⟨b,fun x hx=>(ZgP h x).2 (ZiE hl hs hs2 hr x hx),a,fun h0 h1=>?_⟩;exact ZjW hl (by simp) hs hs2 hbs hr (Zek _ _ _) (ZgP h) h0 h1
theorem ZnA(h:∀j,j<n->Zg7 (R j) i (V j) (Z j)){bins ct:Int}(hb:2<=bins)(ww:List ByteArray)(e:ww=(lwF ((List.range n).map V) ((List.range n).map Z) ct bins).ww):((ww.length:Int)<=bins)/\(∀x∈ww,ct<=wtW ((List.range n).map R) i x)/\(ww.Pairwise fun x y=>wtW ((List.range n).map R) i y<wtW ((List.range n).map R) i x∨wtW ((List.range n).map R) i y=wtW ((List.range n).map R) i x/\QP x y)/\ww.Nodup/\(∀j,j<n->(((List.range n).map R).getD j Qv).ms.getD i false=false->(((List.range n).map R).getD j Qv).ss.getD i ⟨#[]⟩ ∉ ww->(ww.length:Int)<bins->wtW ((List.range n).map R) i ((((List.range n).map R).getD j Qv).ss.getD i ⟨#[]⟩)<ct):=by
 subst e;refine⟨Zob _ _ _ _ (by omega),fun x hx=>?_,?_,ZlS _ _ _ _,fun j hj hm hx hl=>?_⟩;rw[wtV h];exact ZlR _ _ _ _ x hx;refine(ZgN _ _ _ _).imp (fun {x y} hxy=>?_);rw[wtV h,wtV h];exact hxy;rw[ZaL R Qv hj] at hm hx ⊢;have hr:=h j hj;have hm2:(V j).miss=false:=hr.miss.trans hm;rw[<- hr.word hm2] at hx ⊢;rw[wtV h];refine Int.lt_of_not_ge fun hc=>hx ?_;exact Zoa _ _ _ _ (by simp) hl (V j) (List.mem_map.2 ⟨j,List.mem_range.2 hj,rfl⟩) hm2 hc
end
theorem Zld(cs l:List Int){i:Nat}(hi:i<ZG cs+1)(at_:Nat):Zg7 (Qw cs l at_ (ZG cs+1)) i (QI cs l at_ i) (wtR l at_):=by have e1:(Qw cs l at_ (ZG cs+1)).ms.getD i false=QO (xR l at_ i):=ZaL (fun i=>QO (xR l at_ i)) false hi;have e2:(Qw cs l at_ (ZG cs+1)).ns.getD i 0=fdV (Qk cs i) (cfC cs i) ((xR l at_ i).tdiv 3):=ZaL (fun i=>fdV (Qk cs i) (cfC cs i) ((xR l at_ i).tdiv 3)) 0 hi;have e3:(Qw cs l at_ (ZG cs+1)).ss.getD i ⟨#[]⟩=fdS (Qk cs i) ((xR l at_ i).tdiv 3):=ZaL (fun i=>fdS (Qk cs i) ((xR l at_ i).tdiv 3)) ⟨#[]⟩ hi;refine⟨e1.symm,fun hm=>?_,fun hm=>?_,rfl⟩;rw[e2];show ZhE cs l at_ i=_;unfold ZhE;rw[if_neg (by rw[show QO (xR l at_ i)=false from hm];simp)];rw[e3];show ZhU cs l at_ i=_;unfold ZhU;rw[if_neg (by rw[show QO (xR l at_ i)=false from hm];simp)]
def esD(m:Nat)(wd:Nat->Bool)(ct:Nat->Int)(bins:Int)(size:Nat)(s:RS):List ES:=(List.range (m+1)).map (fun i=>Z1 lwF (wd i) (ct i) bins size (s.cols i) s.ws)
def bbD(m:Nat)(wd:Nat->Bool)(ct:Nat->Int)(bins:Int)(size:Nat)(s:RS):List (List Nat):=(List.range (m+1)).map (fun i=>(s.cols i).map (Yi (Z1 lwF (wd i) (ct i) bins size (s.cols i) s.ws)))
def ZoR(m:Nat)(wd:Nat->Bool)(ct:Nat->Int)(bins:Int)(size budget:Nat)(s:RS):DSS:=Z2 m s.ws.length budget (esD m wd ct bins size s) (bbD m wd ct bins size s)
section
variable {m:Nat} {wd:Nat->Bool} {sc ct:Nat->Int} {bins:Int} {size budget:Nat} {l:List Int} {s:RS}
theorem ZeH{i:Nat}(hi:i<m+1):(esD m wd ct bins size s).getD i e0S=Z1 lwF (wd i) (ct i) bins size (s.cols i) s.ws:=by simp[esD,Qc,hi]
theorem Zha{i:Nat}(hi:i<m+1):(bbD m wd ct bins size s).getD i []=(s.cols i).map (Yi (Z1 lwF (wd i) (ct i) bins size (s.cols i) s.ws)):=by simp[bbD,Qc,hi]
structure ZnI(m:Nat)(s:RS):Prop where
 inv:QD (m+1) s
 val:Zc9 (m+1) s
theorem ZpP(hsc:∀i,i<m+1->wd i=false->0<=sc i/\sc i<=3)(h:Zj (m+1) wd sc RS.start l 0=.ok s):ZnI m s:=
 ⟨QD.takes (by omega) hsc l (QD.start (show 1<=m+1 by omega)) h,Zc9.takes (by omega) hsc l (Zc9.start (m+1)) (QD.start (show 1<=m+1 by omega)) h⟩
theorem ZnI.binok(h:ZnI m s)(hc:ZaT lwF m wd ct bins size s):Zd4 m s.ws.length (esD m wd ct bins size s) (bbD m wd ct bins size s):=by refine⟨by simp[esD],fun i hi=>?_,fun i hi=>?_,fun i hi=>?_,fun i hi b hb=>?_⟩;rw[Zha hi,List.length_map];exact h.inv.col i hi;rw[ZeH hi];exact(hc.ok i hi).1;rw[ZeH hi];exact(hc.ok i hi).2.2;rw[Zha hi] at hb;rw[ZeH hi];obtain⟨v,_,rfl⟩:=List.mem_map.1 hb;exact ZkJ _ _
end
def ZpD(m:Nat)(wd:Nat->Bool)(ct:Nat->Int)(bins:Int)(size budget len:Nat)(o:Except (Int×Nat) RS)(e:Ending)(w':World):Prop:=
 match o with
 |.error (z,p)=>e=.returned (.tuple #[.pointer none,.int .i64 z,.int .i64 (p:Nat)])
 |.ok s=>(s.wt≠0/\e=.returned (.tuple #[.pointer none,.int .i64 2,.int .i64 (len:Nat)]))∨
   (s.wt=0/\∃gb db,e=.returned (.tuple #[.pointer (some ⟨gb,0,none⟩),.int .i64 0,.int .i64 0])/\Y1 w' gb db (ZoR m wd ct bins size budget s))
theorem ZnS(b:ByteArray)(fk m fc cn cc:Nat)(ca:Option Addr)(cz:List Int)(bins:Int)(size budget:Nat)(wd:Nat->Bool)(sc ct:Nat->Int)(w:World)(hF:YU w fk 0 (m+1) wd sc ct)(hc:Zb3 (m+1) bins size budget wd sc ct=true)(hcut:ZM w ca cn cz)(hcn:cn<=9223372036854775807)(hb:b.size<=200000000000000):Calls Tryz.prog 25 #[.agg #[.slice (some ⟨fk,0,none⟩) (m+1) fc,.int .i64 bins,.int .i64 (size:Nat),.int .i64 (budget:Nat)],.string b,.slice ca cn cc] w fun e w'=>ZpD m wd ct bins size budget b.size (Zj (m+1) wd sc RS.start (Zb b) 0) e w'/\Below w.heap.size w w':=by
 obtain⟨h1,h4,c1,c2,c3,c4,c5,c6,hfe⟩:=Zbx hc
 have hsc:∀i,i<m+1->wd i=false->0<=sc i/\sc i<=3:=fun i hi hw=>by have:=hfe i hi;unfold Zaa at this;rw[hw] at this;simp at this;omega
 exact Zef lwF b fk 0 m fc cn cc ca cz bins size budget wd sc ct w hF hc hcut hcn hb (fun s hs _=>Zd7 hsc (by omega) (by omega) (by omega) (by omega) hs)
def Zdh(cs l:List Int)(n:Nat):DSS:=ZoR (ZG cs) (Qk cs) (cfT cs) (Ql cs:Nat) (Q8 cs) (cfU cs) (stR cs l n)
def ZcE(cs l:List Int)(n i:Nat):ES:=Z1 lwF (Qk cs i) (cfT cs i) (Ql cs:Nat) (Q8 cs) ((stR cs l n).cols i) (stR cs l n).ws
section
variable (cs l:List Int) {n:Nat}
theorem Znw(hn:n<=150):ZnI (ZG cs) (stR cs l n)/\ZaT lwF (ZG cs) (Qk cs) (cfT cs) (Ql cs:Nat) (Q8 cs) (stR cs l n):=by
 obtain⟨h1,h4,c1,c2,c3,c4,c5,c6,hfe⟩:=Zbx (ZkL cs)
 have hsc:∀i,i<ZG cs+1->Qk cs i=false->0<=cfC cs i/\cfC cs i<=3:=fun i hi hw=>by have:=hfe i hi;unfold Zaa at this;rw[hw] at this;simp at this;omega
 have htk:=ZhP cs l n hn;exact⟨ZpP hsc htk,Zd7 hsc (by omega) (by omega) (by omega) (by omega) htk⟩
theorem ZoB:(stR cs l n).ws.length=n:=by rw[(Zcg cs l n).ws];simp
theorem ZkK(hn:n<=150):Zd4 (ZG cs) n (esD (ZG cs) (Qk cs) (cfT cs) (Ql cs:Nat) (Q8 cs) (stR cs l n)) (bbD (ZG cs) (Qk cs) (cfT cs) (Ql cs:Nat) (Q8 cs) (stR cs l n)):=by
 obtain⟨a,b⟩:=Znw cs l hn;have:=a.binok b
 rwa [ZoB] at this
theorem Zhk:Zdh cs l n=Z2 (ZG cs) n (cfU cs) (esD (ZG cs) (Qk cs) (cfT cs) (Ql cs:Nat) (Q8 cs) (stR cs l n)) (bbD (ZG cs) (Qk cs) (cfT cs) (Ql cs:Nat) (Q8 cs) (stR cs l n)):=by unfold Zdh ZoR;rw[ZoB]
theorem ZkU(hn:n<=150):Zc7 n (Zdh cs l n):=by rw[Zhk];exact Zfr (by have:=(Zde cs).2.2.2.2.2;omega) (by omega) (ZkK cs l hn)
theorem ZnR:(Zdh cs l n).ks.length=ZG cs+1/\∀i,i<ZG cs+1->((Zdh cs l n).ks.getD i ZK).e=ZcE cs l n i:=by rw[Zhk,show(Z2 (ZG cs) n (cfU cs) (esD (ZG cs) (Qk cs) (cfT cs) (Ql cs:Nat) (Q8 cs) (stR cs l n)) (bbD (ZG cs) (Qk cs) (cfT cs) (Ql cs:Nat) (Q8 cs) (stR cs l n))).ks=_ from ZbV _ _ _ _ _];refine⟨YK _ _ _,fun i hi=>?_⟩;unfold YN;rw[ZaL _ _ hi];unfold kF;exact ZeH hi
theorem Zm7(hn:n<=150){gb db i j:Nat}{W:World}(hO:Y1 W gb db (Zdh cs l n))(hi:i<ZG cs+1)(hj:j<n):Calls Tryz.prog 44 #[.pointer (some ⟨gb,0,none⟩),.int .i64 (j:Nat),.int .i64 (i:Nat)] W fun e w'=>e=.returned (.tuple #[.int .i64 (Yi (ZcE cs l n i) (QI cs l (j*(ZG cs+2)) i):Nat),.int .i64 0])/\Below W.heap.size W w':=by rw[Zhk] at hO;have h:=Zit gb db i j (ZG cs) n (cfU cs) _ _ W hO (by have:=(Zde cs).2.2.2.2.2;omega) (by omega) (ZkK cs l hn) hi hj;rw[Zha hi,(Zcg cs l n).col i hi,List.map_map,ZaL _ _ hj] at h;unfold ZcE;rw[(Zcg cs l n).col i hi];exact h
theorem ZoS(hn:n<=150){i:Nat}(hi:i<ZG cs+1)(hw:Qk cs i=false)(gb db fk fc cap base base2:Nat)(a:Option Addr)(vb:Value)(W:World)(hR:YB W base (.slice a n cap) (YZ cs l n))(hO:Y1 W gb db (Zdh cs l n))(hb:Ze W base2 vb (bdI (ZcE cs l n i))):Calls Tryz.prog 29 #[.pointer (some ⟨gb,0,none⟩),.slice a n cap,.agg #[.slice (some ⟨fk,0,none⟩) (ZG cs+1) fc,.int .i64 (Ql cs:Nat),.int .i64 (Q8 cs:Nat),.int .i64 (cfU cs:Nat)],.int .i64 (i:Nat),vb] W fun e w'=>e=.returned (.bool true)/\Below W.heap.size W w':=by
 obtain⟨b1,b2,b3,b4,b5,b6⟩:=Zde cs;have hst:=Zcg cs l n;have hval:=(Znw cs l hn).1.val.col i hi;have he:ZcE cs l n i=⟨false,Ym ((List.range n).map fun j=>QI cs l (j*(ZG cs+2)) i) ((List.range n).map fun j=>wtR l (j*(ZG cs+2))) (Ql cs:Nat) (Q8 cs),[]⟩:=by unfold ZcE Z1;rw[hw,if_neg (by simp),hst.col i hi,hst.ws]
 rw[hst.col i hi] at hval;have hrv:∀j,j<n->Zg7 (Qw cs l (j*(ZG cs+2)) (ZG cs+1)) i (QI cs l (j*(ZG cs+2)) i) (wtR l (j*(ZG cs+2))):=fun j _=>Zld cs l hi _;obtain⟨f1,f2,f3,f4⟩:=Zoe hrv (size:=Q8 cs) (by omega) (by omega) (by omega) (show 2<=((Ql cs:Nat):Int) by omega) (by omega) (fun v hv=>(hval v hv).1) _ rfl;rw[he] at hb;have hb':Ze W base2 vb (Ym ((List.range n).map fun j=>QI cs l (j*(ZG cs+2)) i) ((List.range n).map fun j=>wtR l (j*(ZG cs+2))) (Ql cs:Nat) (Q8 cs)):=hb
 have hbin:∀j,j<n->Yi (ZcE cs l n i) (QI cs l (j*(ZG cs+2)) i)=Zhb (Ym ((List.range n).map fun j=>QI cs l (j*(ZG cs+2)) i) ((List.range n).map fun j=>wtR l (j*(ZG cs+2))) (Ql cs:Nat) (Q8 cs)) (Qw cs l (j*(ZG cs+2)) (ZG cs+1)) i:=fun j hj=>by rw[he];exact ZmG hrv hj
 generalize Ym ((List.range n).map fun j=>QI cs l (j*(ZG cs+2)) i) ((List.range n).map fun j=>wtR l (j*(ZG cs+2))) (Ql cs:Nat) (Q8 cs)=bz at *;obtain⟨ba,bc,rfl⟩:=hb'.shape;refine Zfz gb fk (ZG cs+1) fc i n cap base bc (Ql cs) (Q8 cs) (cfU cs) a ba (YZ cs l n) bz W hR (by simp[YZ]) (by omega) (fun R hR2=>?_) (by omega) (hb'.mono (Qg _)) (by omega) f2 f3 (fun h0 h1=>f4 h0 (by exact_mod_cast h1)) b2 (fun W2 hW2 j hj=>?_);obtain⟨j,_,rfl⟩:=List.mem_map.1 hR2;simp[Qw];omega;have h:=Zm7 cs l hn (hO.below hW2) hi hj;rw[hbin j hj] at h;rw[show(YZ cs l n).getD j Qv=Qw cs l (j*(ZG cs+2)) (ZG cs+1) from ZaL _ _ hj];exact h
theorem ZnT(hn:n<=150){i:Nat}(hi:i<ZG cs+1)(hw:Qk cs i=true)(gb db fk fc cap base base2:Nat)(a:Option Addr)(vw:Value)(W:World)(hF:YU W fk 0 (ZG cs+1) (Qk cs) (cfC cs) (cfT cs))(hR:YB W base (.slice a n cap) (YZ cs l n))(hO:Y1 W gb db (Zdh cs l n))(hb:ZR W base2 vw (bdS (ZcE cs l n i))):Calls Tryz.prog 28 #[.pointer (some ⟨gb,0,none⟩),.slice a n cap,.agg #[.slice (some ⟨fk,0,none⟩) (ZG cs+1) fc,.int .i64 (Ql cs:Nat),.int .i64 (Q8 cs:Nat),.int .i64 (cfU cs:Nat)],.int .i64 (i:Nat),vw] W fun e w'=>e=.returned (.bool true)/\Below W.heap.size W w':=by
 obtain⟨b1,b2,b3,b4,b5,b6⟩:=Zde cs;have hst:=Zcg cs l n;have he:ZcE cs l n i=lwF ((List.range n).map fun j=>QI cs l (j*(ZG cs+2)) i) ((List.range n).map fun j=>wtR l (j*(ZG cs+2))) (cfT cs i) (Ql cs:Nat):=by unfold ZcE Z1;rw[hw,if_pos rfl,hst.col i hi,hst.ws]
 have hrv:∀j,j<n->Zg7 (Qw cs l (j*(ZG cs+2)) (ZG cs+1)) i (QI cs l (j*(ZG cs+2)) i) (wtR l (j*(ZG cs+2))):=fun j _=>Zld cs l hi _;obtain⟨f1,f2,f3,f4,f5⟩:=ZnA hrv (ct:=cfT cs i) (show 2<=((Ql cs:Nat):Int) by omega) _ rfl;have he2:ZcE cs l n i=⟨true,[],(lwF ((List.range n).map fun j=>QI cs l (j*(ZG cs+2)) i) ((List.range n).map fun j=>wtR l (j*(ZG cs+2))) (cfT cs i) (Ql cs:Nat)).ww⟩:=he;have hb':ZR W base2 vw (lwF ((List.range n).map fun j=>QI cs l (j*(ZG cs+2)) i) ((List.range n).map fun j=>wtR l (j*(ZG cs+2))) (cfT cs i) (Ql cs:Nat)).ww:=by rw[he2] at hb;exact hb
 have hbin:∀j,j<n->Yi (ZcE cs l n i) (QI cs l (j*(ZG cs+2)) i)=Zhc (lwF ((List.range n).map fun j=>QI cs l (j*(ZG cs+2)) i) ((List.range n).map fun j=>wtR l (j*(ZG cs+2))) (cfT cs i) (Ql cs:Nat)).ww (Qw cs l (j*(ZG cs+2)) (ZG cs+1)) i:=fun j hj=>by rw[he2];exact Zlo hrv hj
 generalize (lwF ((List.range n).map fun j=>QI cs l (j*(ZG cs+2)) i) ((List.range n).map fun j=>wtR l (j*(ZG cs+2))) (cfT cs i) (Ql cs:Nat)).ww=ww at *;obtain⟨wa,wc,rfl⟩:=hb'.shapeW;have hc2:=hF.c2 i hi;rw[Nat.zero_add] at hc2;refine ZhS gb fk (ZG cs+1) fc i n cap base wc (Ql cs) (Q8 cs) (cfU cs) (cfT cs i) a wa (YZ cs l n) ww W hR (by simp[YZ]) (by omega) (fun R hR2=>?_) (by omega) (fun R hR2=>?_) hi hc2 hb'.mono0 (by omega) (by omega) f2 f3 f4 (fun j hj h1 h2 h3=>f5 j hj h1 h2 (by exact_mod_cast h3)) (fun W2 hW2 j hj=>?_);obtain⟨j,_,rfl⟩:=List.mem_map.1 hR2;simp[Qw];omega;obtain⟨j,_,rfl⟩:=List.mem_map.1 hR2;have:=ZhV l (j*(ZG cs+2));show 0<=wtR l _/\wtR l _<=99;omega
 have h:=Zm7 cs l hn (hO.below hW2) hi hj;rw[hbin j hj] at h;rw[show(YZ cs l n).getD j Qv=Qw cs l (j*(ZG cs+2)) (ZG cs+1) from ZaL _ _ hj];exact h
end
theorem Zfj(ca la xa:Option Addr)(cn cc ln lc xn xc:Nat)(cs l cz:List Int)(w:World)(hcs:ZM w ca cn cs)(hl:ZM w la ln l)(hx:ZM w xa xn cz)(hcn:cn<=9223372036854775807)(hln:ln<=9223372036854775807)(hxn:xn<=9223372036854775807):Calls Tryz.prog 7 #[.slice ca cn cc,.slice la ln lc,.slice xa xn xc] w fun e w'=>e=.returned (.bool true)/\Below w.heap.size w w':=by
 have HCS:=fun W (hW:Below w.heap.size w W)=>Zfi ca cn cc cs W (hcs.below hW) hcn;have HLI:Hid (∀W,Below w.heap.size w W->ZM W la ln l/\ZM W xa xn cz):=fun W hW=>⟨hl.below hW,hx.below hW⟩;have HHD:Hid Zh2:=Zm3;have hconf:=ZkL cs;have hmany:ZZ cs l<=150:=(by unfold ZZ;omega);have hts:=Zc5 cs l (ZZ cs l);have hm4:ZG cs<=3:=(Zde cs).2.2.2.2.2
 have HRO:Hid (∀W fk fc,Below w.heap.size w W->YU W fk 0 (ZG cs+1) (Qk cs) (cfC cs) (cfT cs)->Calls Tryz.prog 24 #[.agg #[.slice (some ⟨fk,0,none⟩) (ZG cs+1) fc,.int .i64 (Ql cs:Nat),.int .i64 (Q8 cs:Nat),.int .i64 (cfU cs:Nat)],.slice la ln lc] W fun e w'=>∃v,e=.returned (.tuple #[v,.string (Qz cs l (ZZ cs l))])/\YB w' W.heap.size v (YZ cs l (ZZ cs l))/\Below W.heap.size W w'):=fun W fk fc hW hF=>Zhy fk fc ln lc la cs l W hF (HLI.out W hW).1 hln
 have HFE:Hid (∀W fk fc,Below w.heap.size w W->YU W fk 0 (ZG cs+1) (Qk cs) (cfC cs) (cfT cs)->Calls Tryz.prog 25 #[.agg #[.slice (some ⟨fk,0,none⟩) (ZG cs+1) fc,.int .i64 (Ql cs:Nat),.int .i64 (Q8 cs:Nat),.int .i64 (cfU cs:Nat)],.string (Qz cs l (ZZ cs l)),.slice xa xn xc] W fun e w'=>(∃gb db,e=.returned (.tuple #[.pointer (some ⟨gb,0,none⟩),.int .i64 0,.int .i64 0])/\Y1 w' gb db (Zdh cs l (ZZ cs l)))/\Below W.heap.size W w'):=fun W fk fc hW hF=>by
  refine(ZnS _ fk (ZG cs) fc xn xc xa cz (Ql cs:Nat) (Q8 cs) (cfU cs) (Qk cs) (cfC cs) (cfT cs) W hF hconf (HLI.out W hW).2 hxn (by omega)).mono ?_;rintro e w' ⟨hA,hb⟩;rw[ZhP cs l (ZZ cs l) hmany] at hA
  rcases hA with⟨hne,_⟩|⟨_,ga,da,h1,h2⟩
  exact absurd (Zcg cs l (ZZ cs l)).wt hne;exact⟨⟨ga,da,h1,h2⟩,hb⟩
 have HRW:Hid (∀W gb db,Y1 W gb db (Zdh cs l (ZZ cs l))->Calls Tryz.prog 26 #[.pointer (some ⟨gb,0,none⟩)] W fun e w'=>e=.returned (.int .i64 ((ZZ cs l:Nat):Int))/\Below W.heap.size W w'):=fun W gb db hO=>ZjQ gb db (ZZ cs l) _ W hO (ZkU cs l hmany)
 have HBD:Hid (∀W gb db i,i<ZG cs+1->Y1 W gb db (Zdh cs l (ZZ cs l))->Calls Tryz.prog 27 #[.pointer (some ⟨gb,0,none⟩),.int .i64 (i:Nat)] W fun e w'=>ZoG W (ZcE cs l (ZZ cs l) i) e w'):=fun W gb db i hi hO=>by obtain⟨k1,k2⟩:=ZnR cs l (n:=ZZ cs l);have h:=Zht gb db i (ZZ cs l) _ W hO (ZkU cs l hmany) (by rw[k1];exact hi);rw[k2 i hi] at h;exact h
 have HFN:Hid (∀i,i<ZG cs+1->Qk cs i=false->∀(gb db fk fc cap base base2:Nat) (a:Option Addr) (vb:Value) (W:World),YB W base (.slice a (ZZ cs l) cap) (YZ cs l (ZZ cs l))->Y1 W gb db (Zdh cs l (ZZ cs l))->Ze W base2 vb (bdI (ZcE cs l (ZZ cs l) i))->
   Calls Tryz.prog 29 #[.pointer (some ⟨gb,0,none⟩),.slice a (ZZ cs l) cap,.agg #[.slice (some ⟨fk,0,none⟩) (ZG cs+1) fc,.int .i64 (Ql cs:Nat),.int .i64 (Q8 cs:Nat),.int .i64 (cfU cs:Nat)],.int .i64 (i:Nat),vb] W fun e w'=>e=.returned (.bool true)/\Below W.heap.size W w'):=fun i hi hw gb db fk fc cap base base2 a vb W h1 h2 h3=>ZoS cs l hmany hi hw gb db fk fc cap base base2 a vb W h1 h2 h3
 have HFW:Hid (∀i,i<ZG cs+1->Qk cs i=true->∀(gb db fk fc cap base base2:Nat) (a:Option Addr) (vb:Value) (W:World),YU W fk 0 (ZG cs+1) (Qk cs) (cfC cs) (cfT cs)->YB W base (.slice a (ZZ cs l) cap) (YZ cs l (ZZ cs l))->Y1 W gb db (Zdh cs l (ZZ cs l))->ZR W base2 vb (bdS (ZcE cs l (ZZ cs l) i))->
   Calls Tryz.prog 28 #[.pointer (some ⟨gb,0,none⟩),.slice a (ZZ cs l) cap,.agg #[.slice (some ⟨fk,0,none⟩) (ZG cs+1) fc,.int .i64 (Ql cs:Nat),.int .i64 (Q8 cs:Nat),.int .i64 (cfU cs:Nat)],.int .i64 (i:Nat),vb] W fun e w'=>e=.returned (.bool true)/\Below W.heap.size W w'):=fun i hi hw gb db fk fc cap base base2 a vb W h0 h1 h2 h3=>ZnT cs l hmany hi hw gb db fk fc cap base base2 a vb W h0 h1 h2 h3
 have HLR:Hid ((YZ cs l (ZZ cs l)).length=ZZ cs l):=(by show _=_;simp[YZ]);clear hconf hts hcs hl hx;generalize Zdh cs l (ZZ cs l)=D at *;generalize ZcE cs l (ZZ cs l)=E at *;generalize Qz cs l (ZZ cs l)=tx at *;generalize YZ cs l (ZZ cs l)=Rs at *;generalize ZZ cs l=n at *;generalize ZG cs=m at *;generalize Qk cs=wd at *;generalize cfC cs=sc at *;generalize cfT cs=ct at *;generalize Ql cs=B at *;generalize Q8 cs=S at *;generalize cfU cs=U at *;go_enter Tryz.func7,Tryz.ntmps7;go_wp2_with fail
 refine(HHD.out _).mono ?_;rintro e w1 ⟨rfl,hb1⟩;have HB1:Hid (Below w.heap.size w w1):=hb1;have HC1:=HCS w1 hb1;clear hb1 HCS;go_wp2_with fail
 refine HC1.mono ?_;rintro e w2 ⟨fk,fc,rfl,hfk,hF2,hb2⟩;have HB2:Hid (Below w.heap.size w w2/\YU w2 fk 0 (m+1) wd sc ct):=⟨HB1.out.trans (hb2.mono HB1.out.size),hF2⟩;have hs2:=HB2.out.1.size;clear hb2 hF2 HC1 hfk;go_upto_region 3 with fail;generalize hW3:w2.alloc (.cells #[.slice (some ⟨fk,0,none⟩) (m+1) fc,.int .i64 (B:Nat),.int .i64 (S:Nat),.int .i64 (U:Nat)] 37)=w3;have hX3:w3.heap[w2.heap.size]? =some (.cells #[.slice (some ⟨fk,0,none⟩) (m+1) fc,.int .i64 (B:Nat),.int .i64 (S:Nat),.int .i64 (U:Nat)] 37 (0,0)):=(by rw[<- hW3];exact heap_alloc_new _ _);have hb3:Below w2.heap.size w2 w3:=(by rw[<- hW3];exact(Below.refl _ _).alloc (Qa _) _);have hkl:w2.heap.size<w3.heap.size:=(Qb hX3).1
 have HW:Hid (∀W,Below w3.heap.size w3 W->Below w.heap.size w W/\YU W fk 0 (m+1) wd sc ct/\W.cell? ⟨w2.heap.size,0,none⟩=some (.slice (some ⟨fk,0,none⟩) (m+1) fc)/\W.cell? ⟨w2.heap.size,1,none⟩=some (.int .i64 (B:Nat))/\W.cell? ⟨w2.heap.size,2,none⟩=some (.int .i64 (S:Nat))/\W.cell? ⟨w2.heap.size,3,none⟩=some (.int .i64 (U:Nat))):=fun W hW=>by
  have hb:Below w2.heap.size w2 W:=hb3.trans (hW.mono hb3.size);refine⟨HB2.out.1.trans (hb.mono hs2),HB2.out.2.below hb,?_,?_,?_,?_⟩;exact(hW.cell (p:=⟨w2.heap.size,0,none⟩) hkl).trans (cell_of_row _ _ 0 _ 37 (0,0) hX3);exact(hW.cell (p:=⟨w2.heap.size,1,none⟩) hkl).trans (cell_of_row _ _ 1 _ 37 (0,0) hX3);exact(hW.cell (p:=⟨w2.heap.size,2,none⟩) hkl).trans (cell_of_row _ _ 2 _ 37 (0,0) hX3);exact(hW.cell (p:=⟨w2.heap.size,3,none⟩) hkl).trans (cell_of_row _ _ 3 _ 37 (0,0) hX3)
 clear hW3 hX3 hb3 HB2 HB1 hs2;obtain⟨_,_,e0,e1,e2,e3⟩:=HW.out w3 (Below.refl _ _);go_wp2_with fail
 refine(HRO.out _ _ _ (HW.out w3 (Below.refl _ _)).1 (HW.out w3 (Below.refl _ _)).2.1).mono ?_;rintro e w4 ⟨vr,rfl,hR4,hb4⟩;obtain⟨ra,rc,rfl⟩:=hR4.shape;rw[HLR.out] at hR4;rw[HLR.out];have HB4:Hid (Below w3.heap.size w3 w4/\YB w4 w3.heap.size (.slice ra n rc) Rs):=⟨hb4,hR4⟩;clear hb4 hR4 e0 e1 e2 e3;obtain⟨_,_,e0,e1,e2,e3⟩:=HW.out w4 HB4.out.1;go_wp2_with fail
 refine(HFE.out _ _ _ (HW.out w4 HB4.out.1).1 (HW.out w4 HB4.out.1).2.1).mono ?_;rintro e w5 ⟨⟨gb,db,rfl,hO5⟩,hb5⟩;have HB5:Hid (Below w3.heap.size w3 w5/\YB w5 w3.heap.size (.slice ra n rc) Rs/\Y1 w5 gb db D):=⟨HB4.out.1.trans (hb5.mono HB4.out.1.size),HB4.out.2.below hb5,hO5⟩;clear hb5 hO5 e0 e1 e2 e3 HB4;go_wp2_with fail
 refine(HRW.out _ _ _ HB5.out.2.2).mono ?_;rintro e w6 ⟨rfl,hb6⟩;have HB6:Hid (Below w3.heap.size w3 w6/\YB w6 w3.heap.size (.slice ra n rc) Rs/\Y1 w6 gb db D):=⟨HB5.out.1.trans (hb6.mono HB5.out.1.size),HB5.out.2.1.below hb6,HB5.out.2.2.below hb6⟩;clear hb6 HB5;go_wp2_with fail
 go_loopw [14] (fun ti wr=>∃i:Nat,i<=m+1/\ti=.int .i64 i/\Hid (Below w3.heap.size w3 wr/\YB wr w3.heap.size (.slice ra n rc) Rs/\Y1 wr gb db D)) (fun ti _=>m+1-(intOf ti).toNat)
 case atStart=>exact⟨0,Qg _,rfl,HB6.out⟩
 case round=>
  clear HB6;obtain⟨i,hi,rfl,HB⟩:=hrel;obtain⟨_,_,e0,e1,e2,e3⟩:=HW.out wr HB.out.1
  by_cases him:i<m+1
  ·have bi1:(0:Int)<=(i:Int):=(by omega);have bi2:(i:Int)<(m:Int)+1:=(by omega);go_wp2_with fail
   refine(HBD.out _ _ _ _ him HB.out.2.2).mono ?_;rintro e w7 ⟨vb,vw,rfl,hX⟩;have HB7:Hid (Below w3.heap.size w3 w7/\YB w7 w3.heap.size (.slice ra n rc) Rs/\Y1 w7 gb db D):=⟨HB.out.1.trans (hX.low.mono HB.out.1.size),HB.out.2.1.below hX.low,HB.out.2.2.below hX.low⟩;have HX:Hid (Ze w7 wr.heap.size vb (bdI (E i))/\ZR w7 wr.heap.size vw (bdS (E i))):=⟨hX.nb,hX.nw⟩;clear hX e0 e1 e2 e3;obtain⟨_,hF7,e0,e1,e2,e3⟩:=HW.out w7 HB7.out.1;have c0:=hF7.c0 i him;rw[Nat.zero_add] at c0;clear hF7
   cases hwi:wd i with
   | true=>
    rw[hwi] at c0;have HFI:=HFW.out i him hwi gb db fk fc rc w3.heap.size wr.heap.size ra vw w7 (HW.out w7 HB7.out.1).2.1 HB7.out.2.1 HB7.out.2.2 HX.out.2;clear hwi;go_wp2_with fail
    refine HFI.mono ?_;rintro e w8 ⟨rfl,hb8⟩;have HB8:Hid (Below w3.heap.size w3 w8/\YB w8 w3.heap.size (.slice ra n rc) Rs/\Y1 w8 gb db D):=⟨HB7.out.1.trans (hb8.mono HB7.out.1.size),HB7.out.2.1.below hb8,HB7.out.2.2.below hb8⟩;clear hb8 HFI HB7;go_wp2;go_roundw;case rel=>exact⟨i+1,by omega,by go_num,HB8.out⟩
    case measure=>simp[intOf];omega
   | false=>
    rw[hwi] at c0;have HFI:=HFN.out i him hwi gb db fk fc rc w3.heap.size wr.heap.size ra vb w7 HB7.out.2.1 HB7.out.2.2 HX.out.1;clear hwi;go_wp2_with fail
    refine HFI.mono ?_;rintro e w8 ⟨rfl,hb8⟩;have HB8:Hid (Below w3.heap.size w3 w8/\YB w8 w3.heap.size (.slice ra n rc) Rs/\Y1 w8 gb db D):=⟨HB7.out.1.trans (hb8.mono HB7.out.1.size),HB7.out.2.1.below hb8,HB7.out.2.2.below hb8⟩;clear hb8 HFI HB7;go_wp2;go_roundw;case rel=>exact⟨i+1,by omega,by go_num,HB8.out⟩
    case measure=>simp[intOf];omega
  have hni:¬(i:Int)<(m:Int)+1:=(by omega);go_wp2;go_ret;exact⟨rfl,(HW.out _ HB.out.1).1⟩
end Go.Proofs.YtfcgnpchbcmdeaaGreat
