import Derived.Test.YtfcgnpchbcmdeaaGreatZaaf
import Derived.Test.YtfcgnpchbcmdeaaGreatZabd
import Derived.Test.YtfcgnpchbcmdeaaGreatZabe
import Derived.Test.YtfcgnpchbcmdeaaGreatZaal
namespace Go.Proofs.YtfcgnpchbcmdeaaGreat
set_option maxRecDepth 100000
set_option maxHeartbeats 8000000
open Go.RowKit
def xB(x:XS):List Int:=[((x.row:Nat):Int)%256,((x.f:Nat):Int)%256,((x.bin:Nat):Int)%256]
def knA(k:KS):List Int:=if k.e.wd=true then ZhF k else knB k
def Zat(D:YY)(X:List XS):List Int:=[71,82,(((D.bs.getD 0 ZB).N.length:Nat):Int)%256,((D.ks.length:Nat):Int)%256]++D.ks.flatMap knA++[((D.bs.length:Nat):Int)%256]++D.bs.flatMap YP++YV (X.length:Nat) 2++X.flatMap xB
def ZU(D:YY)(X:List XS):List Int:=Zat D X++YV (ZeW (Zat D X)) 4
def Zf7(b:BS):Prop:=b.fs.length<=1000/\(∀f∈b.fs,f<=1000)/\((Yh b.N b.N.length).length<=1000/\∀x∈Yh b.N b.N.length,x.1<=1000/\x.2<=1000)/\(ZO (YD b.N (Lib.bitLen b.g)) ((b.N.length*Lib.bitLen b.g+7)/8) (b.N.length*Lib.bitLen b.g)).length<=1000/\(YP b).length<=5000
def Zdq(k:KS):Prop:=(k.e.wd=false/\k.e.ww=[]/\k.e.bs.length<=1000/\∀x∈k.e.bs,-1000000000000<=x/\x<=1000000000000)∨(k.e.wd=true/\k.e.bs=[]/\k.e.ww.length<=1000/\∀x∈k.e.ww,x.size<=8)
theorem Ze0{α:Type}(f:α->List Int)(L:List α)(d:α){k:Nat}(h:k<L.length):(L.take (k+1)).flatMap f=(L.take k).flatMap f++f (L.getD k d):=by rw[Qi h,List.flatMap_append];simp[List.getD,h]
def QD:XS:=⟨0,0,0⟩
theorem Zic:∀(L:List XS) (i:Nat),i<L.length->∀c,c<3->(QW L)[i*3+c]? =(Ql (L.getD i QD))[c]?
 |[],i,h=>by simp at h
 |x::L,0,_=>fun c hc=>by simp only[QW];rw[show 0*3+c=c by omega,List.getElem?_append_left (by simpa [Ql] using hc)];rfl
 |x::L,i+1,h=>fun c hc=>by simp only[QW];rw[List.getElem?_append_right (by simp[Ql];omega),show(i+1)*3+c-(Ql x).length=i*3+c by simp[Ql];omega];exact Zic L i (by simpa using h) c hc
theorem ZaT.atK{w:World}{a:Option Addr}{n c:Nat}{L:List XS}(h:ZaT w 0 (.slice a n c) L)(hn:L.length=n){k:Nat}(hk:k<n):∃q,a=some ⟨q,0,none⟩/\q<w.heap.size/\w.cell? ⟨q,k*3,none⟩=some (.int .i64 ((L.getD k QD).row:Nat))/\w.cell? ⟨q,k*3+1,none⟩=some (.int .i64 ((L.getD k QD).f:Nat))/\w.cell? ⟨q,k*3+2,none⟩=some (.int .i64 ((L.getD k QD).bin:Nat)):=by
 subst hn;have h':=h
 rcases h'.2 with⟨e,h0⟩|⟨g,cap,cur,e,_,hh,hnc,_⟩
 omega;injection e with e1 e2 e3;subst e1;have hr:w.ownsRow 0 184 3 (.slice (some ⟨g,0,none⟩) L.length c) L.length (QW L):=h
 have key:∀o u,o<3->(Ql (L.getD k QD))[o]? =some u->w.cell? ⟨g,k*3+o,none⟩=some u:=fun o u ho hu=>by rw[World.ownsRow.cellAt hr (k*3+o) (by omega)];exact(Zic L k hk o ho).trans hu
 exact⟨g,rfl,(Qb hh).1,key 0 _ (by omega) rfl,key 1 _ (by omega) rfl,key 2 _ (by omega) rfl⟩
theorem Zqd{ss:List ByteArray}(h:∀x∈ss,x.size<=8):(ZbV ss).length<=9*ss.length:=by
 induction ss with
 |nil=>simp[ZbV]
 | cons x ss ih=>
  have h1:=ih (fun y hy=>h y (by simp[hy]));have h2:=h x (by simp);unfold ZbV at h1 ⊢;rw[List.flatMap_cons,Qe,List.length_cons,ZcE,List.length_cons];omega
theorem Zm5{k:KS}(h:Zdq k):(knA k).length<=9003:=by
 unfold knA
 rcases h with⟨h1,_,h2,_⟩|⟨h1,_,h2,h3⟩
 rw[h1,if_neg (by decide)];unfold knB;rw[Qe,ZjN];simp;omega;rw[h1,if_pos rfl];unfold ZhF;have:=Zqd h3;rw[Qe];simp;omega
theorem Zh6(db:Nat)(vK vB vX:Value)(kvs bvs:List (Value×Value))(X:List XS)(D:YY)(w:World)(h:Y7 w db vK vB vX kvs bvs X D)(h0:0<D.bs.length)(hks:∀K∈D.ks,Zdq K)(hkl:D.ks.length<=4)(hbs:∀b∈D.bs,Zf7 b)(hbl:D.bs.length<=4)(hxl:X.length<=4000)(hby:∀b∈Zat D X,0<=b/\b<256):Calls Tryz.prog 60 #[.pointer (some ⟨db,0,none⟩)] w fun e w'=>e=.returned (.string (strOfNums (ZU D X)))/\Below w.heap.size w w':=by
 obtain⟨ka,kc,rfl⟩:=h.kn.form;have d0:w.cell? ⟨db,0,none⟩=some (.slice ka D.ks.length kc):=cell_of_row _ _ 0 _ 168 (0,0) h.ds.blk;have hdl:db<w.heap.size:=(Qb h.ds.blk).1;have HM:Hid (Y7 w db (.slice ka D.ks.length kc) vB vX kvs bvs X D):=h;obtain⟨i0,hinf,hz0,hz1,hz2⟩:=info_parts Zb3;have HRO:Hid (∀W:World,Below w.heap.size w W->Calls Tryz.prog 51 #[.pointer (some ⟨db,0,none⟩)] W fun e w'=>e=.returned (.int .i64 ((D.bs.getD 0 ZB).N.length:Nat))/\Below W.heap.size W w'):=fun W hW=>Zbl db _ vB vX bvs D.bs X W (HM.out.ds.below hW) h0;have HKS:Hid ((∀K∈D.ks,Zdq K)/\(∀b∈D.bs,Zf7 b)/\(∀b∈Zat D X,0<=b/\b<256)):=⟨hks,hbs,hby⟩
 clear h hks hbs hby
 generalize hnr:(D.bs.getD 0 ZB).N.length=nr at *;generalize hnk:D.ks.length=nk at *;have HNN:Hid ((D.bs.getD 0 ZB).N.length=nr/\D.ks.length=nk):=⟨hnr,hnk⟩;clear hnr hnk;go_enter Tryz.func60,Tryz.ntmps60;go_upto_region 1 with fail;go_cut [3] (fun v wx=>∃a c,v=.slice a 4 c/\Hid (Yc w wx (.slice a 4 c) [71,82,(nr:Int)%256,(nk:Int)%256]))
 case first=>
  refine Zr (fun w'=>w'.cell? ⟨db,0,none⟩=some (.slice ka nk kc)) 13 (by kernel_rfl) d0 (fun hHeld=>?_);refine Zo 2 ?_;refine Zo 5 ?_;refine Zo 6 ?_;refine Zo 7 ?_;refine Zo 8 ?_;refine Zo 9 ?_;refine Zo 10 ?_;have hx0:Below w.heap.size w w.drew:=(Below.refl _ w).drew;generalize w.drew=x0 at *;refine Zbq (i:=0) (j:=3) (by kernel_rfl) rfl rfl (fun KK hK=>?_) (fun KK hK=>?_)
  ·skip
   go_simp;generalize hV:World.alloc x0 (.cells #[.int .u8 71,.int .u8 82] 5)=x1;have hx1:Below w.heap.size w x1:=(by rw[<- hV];exact hx0.alloc hx0.size _);have hL1:x1.heap[x0.heap.size]? =some (.cells #[.int .u8 71,.int .u8 82] 5 (0,0)):=(by rw[<- hV];exact heap_alloc_new _ _);have hlL1:w.heap.size<=x0.heap.size:=hx0.size;clear hV;refine hK.out _ _ ((hx1.cell (p:=⟨db,0,none⟩) hdl).trans d0) (fun hHeld=>?_);clear hK KK;try simp only[Act.put,sA,sB,sC]
   refine Zbq (i:=1) (j:=3) (by kernel_rfl) rfl rfl (fun KK hK=>?_) (fun KK hK=>?_)
   ·skip
    have hcv:(convert 66 66 (.slice (some ⟨x0.heap.size,0,none⟩) 2 2)).run Tryz.prog x1=.ok (.slice (some ⟨x0.heap.size,0,none⟩) 2 2) (World.freeze x1 ⟨x0.heap.size,2,none⟩ 1):=Za9 x1 x0.heap.size 2 2 _ hL1;go_simp;generalize hV:World.freeze x1 ⟨x0.heap.size,2,none⟩ 1=x2;have hx2:Below w.heap.size w x2:=(by rw[<- hV];exact hx1.trans ((YB x1 x0.heap.size 2).to_below hx1.size (fun q hq=>by rw[hq];exact hlL1)));have hL2:x2.heap[x0.heap.size]? =some (.cells #[.int .u8 71,.int .u8 82] 5 (2,3)):=(by rw[<- hV];exact QS x1 x0.heap.size _ 5 2 hL1);clear hV hcv;refine hK.out _ _ ((hx2.cell (p:=⟨db,0,none⟩) hdl).trans d0) (fun hHeld=>?_);clear hK KK;try simp only[Act.put,sA,sB,sC]
    refine Ze (i:=3) (by kernel_rfl) rfl (fun KK hK=>?_);go_simp;refine(HRO.out _ hx2).mono ?_;rintro e x3 ⟨rfl,hbc⟩;have hx3:Below w.heap.size w x3:=hx2.trans (hbc.mono hx2.size);have hL3:x3.heap[x0.heap.size]? =some (.cells #[.int .u8 71,.int .u8 82] 5 (2,3)):=(hbc.block _ (Qb hL2).1).trans hL2;clear hbc;go_simp;refine hK.out _ _ ((hx3.cell (p:=⟨db,0,none⟩) hdl).trans d0) (fun hHeld=>?_);clear hK KK;try simp only[Act.put,sA,sB,sC]
    refine Zo 4 ?_;refine Ze (i:=11) (by kernel_rfl) rfl (fun KK hK=>?_);go_simp;generalize hV:World.alloc x3 (.cells #[.int .u8 (IntKind.u8.wrap (nr:Int)),.int .u8 (IntKind.u8.wrap (nk:Int))] 5)=x4;have hx4:Below w.heap.size w x4:=(by rw[<- hV];exact hx3.alloc hx3.size _);have hR4:x4.heap[x3.heap.size]? =some (.cells #[.int .u8 (IntKind.u8.wrap (nr:Int)),.int .u8 (IntKind.u8.wrap (nk:Int))] 5 (0,0)):=(by rw[<- hV];exact heap_alloc_new _ _);have hlR4:w.heap.size<=x3.heap.size:=hx3.size;have hL4:x4.heap[x0.heap.size]? =some (.cells #[.int .u8 71,.int .u8 82] 5 (2,3)):=(by rw[<- hV];exact(Below.heap_alloc _ _ _ (Qb hL3).1).trans hL3);have hne:x0.heap.size≠x3.heap.size:=(by have:=(Qb hL3).1;omega);clear hV
    refine hK.out _ _ ((hx4.cell (p:=⟨db,0,none⟩) hdl).trans d0) (fun hHeld=>?_);clear hK KK;try simp only[Act.put,sA,sB,sC]
    refine Ze (i:=12) (by kernel_rfl) rfl (fun KK hK=>?_);refine YG rfl (.tmp 11) (.tmp 21) rfl (x0.heap.size) (x3.heap.size) 71 82 (IntKind.u8.wrap (nr:Int)) (IntKind.u8.wrap (nk:Int)) (2,3) (0,0) (by simp[Act.eval]) (by simp[Act.eval]) hL4 hR4 ?_;intro v6 w6 H6;obtain⟨o6,k6,b6,q6,p6,hv6⟩:=H6.out;have hx5:Below w.heap.size w w6:=hx4.trans (b6.mono hx4.size);have HO6:Hid (Yc w w6 v6 [71,82,(nr:Int)%256,(nk:Int)%256]):=⟨hx5,o6,fun k hk=>by rw[k6] at hk;injection hk with hk;rw[<- hk];exact hx4.size⟩;subst hv6;clear H6 o6 k6 b6;refine hK.out _ _ ((hx5.cell (p:=⟨db,0,none⟩) hdl).trans d0) (fun hHeld=>?_);clear hK KK;try simp only[Act.put,sA,sB,sC]
    refine Zl (i:=13) (by kernel_rfl) rfl (by kernel_rfl) (fun KK hK=>?_);go_simp;refine hK.out _ _ ?_;clear hK KK;try simp only[Act.put,sA,sB,sC]
    refine Zn (by kernel_rfl) ?_ _;go_wp2;go_meet
    exact⟨_,_,rfl,HO6.out⟩
   ·skip
    go_simp;refine(HRO.out _ hx1).mono ?_;rintro e x2 ⟨rfl,hbc⟩;have hx2:Below w.heap.size w x2:=hx1.trans (hbc.mono hx1.size);have hL2:x2.heap[x0.heap.size]? =some (.cells #[.int .u8 71,.int .u8 82] 5 (0,0)):=(hbc.block _ (Qb hL1).1).trans hL1;clear hbc;go_simp;refine hK.out _ _ ((hx2.cell (p:=⟨db,0,none⟩) hdl).trans d0) (fun hHeld=>?_);clear hK KK;try simp only[Act.put,sA,sB,sC]
    refine Zo 4 ?_;refine Zbq (i:=1) (j:=11) (by kernel_rfl) rfl rfl (fun KK hK=>?_) (fun KK hK=>?_)
    ·skip
     have hcv:(convert 66 66 (.slice (some ⟨x0.heap.size,0,none⟩) 2 2)).run Tryz.prog x2=.ok (.slice (some ⟨x0.heap.size,0,none⟩) 2 2) (World.freeze x2 ⟨x0.heap.size,2,none⟩ 1):=Za9 x2 x0.heap.size 2 2 _ hL2;go_simp;generalize hV:World.freeze x2 ⟨x0.heap.size,2,none⟩ 1=x3;have hx3:Below w.heap.size w x3:=(by rw[<- hV];exact hx2.trans ((YB x2 x0.heap.size 2).to_below hx2.size (fun q hq=>by rw[hq];exact hlL1)));have hL3:x3.heap[x0.heap.size]? =some (.cells #[.int .u8 71,.int .u8 82] 5 (2,3)):=(by rw[<- hV];exact QS x2 x0.heap.size _ 5 2 hL2);clear hV hcv;refine hK.out _ _ ((hx3.cell (p:=⟨db,0,none⟩) hdl).trans d0) (fun hHeld=>?_);clear hK KK;try simp only[Act.put,sA,sB,sC]
     refine Ze (i:=11) (by kernel_rfl) rfl (fun KK hK=>?_);go_simp;generalize hV:World.alloc x3 (.cells #[.int .u8 (IntKind.u8.wrap (nr:Int)),.int .u8 (IntKind.u8.wrap (nk:Int))] 5)=x4;have hx4:Below w.heap.size w x4:=(by rw[<- hV];exact hx3.alloc hx3.size _);have hR4:x4.heap[x3.heap.size]? =some (.cells #[.int .u8 (IntKind.u8.wrap (nr:Int)),.int .u8 (IntKind.u8.wrap (nk:Int))] 5 (0,0)):=(by rw[<- hV];exact heap_alloc_new _ _);have hlR4:w.heap.size<=x3.heap.size:=hx3.size;have hL4:x4.heap[x0.heap.size]? =some (.cells #[.int .u8 71,.int .u8 82] 5 (2,3)):=(by rw[<- hV];exact(Below.heap_alloc _ _ _ (Qb hL3).1).trans hL3);have hne:x0.heap.size≠x3.heap.size:=(by have:=(Qb hL3).1;omega);clear hV
     refine hK.out _ _ ((hx4.cell (p:=⟨db,0,none⟩) hdl).trans d0) (fun hHeld=>?_);clear hK KK;try simp only[Act.put,sA,sB,sC]
     refine Ze (i:=12) (by kernel_rfl) rfl (fun KK hK=>?_);refine YG rfl (.tmp 11) (.tmp 21) rfl (x0.heap.size) (x3.heap.size) 71 82 (IntKind.u8.wrap (nr:Int)) (IntKind.u8.wrap (nk:Int)) (2,3) (0,0) (by simp[Act.eval]) (by simp[Act.eval]) hL4 hR4 ?_;intro v6 w6 H6;obtain⟨o6,k6,b6,q6,p6,hv6⟩:=H6.out;have hx5:Below w.heap.size w w6:=hx4.trans (b6.mono hx4.size);have HO6:Hid (Yc w w6 v6 [71,82,(nr:Int)%256,(nk:Int)%256]):=⟨hx5,o6,fun k hk=>by rw[k6] at hk;injection hk with hk;rw[<- hk];exact hx4.size⟩;subst hv6;clear H6 o6 k6 b6;refine hK.out _ _ ((hx5.cell (p:=⟨db,0,none⟩) hdl).trans d0) (fun hHeld=>?_);clear hK KK;try simp only[Act.put,sA,sB,sC]
     refine Zl (i:=13) (by kernel_rfl) rfl (by kernel_rfl) (fun KK hK=>?_);go_simp;refine hK.out _ _ ?_;clear hK KK;try simp only[Act.put,sA,sB,sC]
     refine Zn (by kernel_rfl) ?_ _;go_wp2;go_meet
     exact⟨_,_,rfl,HO6.out⟩
    ·skip
     go_simp;generalize hV:World.alloc x2 (.cells #[.int .u8 (IntKind.u8.wrap (nr:Int)),.int .u8 (IntKind.u8.wrap (nk:Int))] 5)=x3;have hx3:Below w.heap.size w x3:=(by rw[<- hV];exact hx2.alloc hx2.size _);have hR3:x3.heap[x2.heap.size]? =some (.cells #[.int .u8 (IntKind.u8.wrap (nr:Int)),.int .u8 (IntKind.u8.wrap (nk:Int))] 5 (0,0)):=(by rw[<- hV];exact heap_alloc_new _ _);have hlR3:w.heap.size<=x2.heap.size:=hx2.size;have hL3:x3.heap[x0.heap.size]? =some (.cells #[.int .u8 71,.int .u8 82] 5 (0,0)):=(by rw[<- hV];exact(Below.heap_alloc _ _ _ (Qb hL2).1).trans hL2);have hne:x0.heap.size≠x2.heap.size:=(by have:=(Qb hL2).1;omega);clear hV;refine hK.out _ _ ((hx3.cell (p:=⟨db,0,none⟩) hdl).trans d0) (fun hHeld=>?_);clear hK KK;try simp only[Act.put,sA,sB,sC]
     refine Ze (i:=1) (by kernel_rfl) rfl (fun KK hK=>?_);have hcv:(convert 66 66 (.slice (some ⟨x0.heap.size,0,none⟩) 2 2)).run Tryz.prog x3=.ok (.slice (some ⟨x0.heap.size,0,none⟩) 2 2) (World.freeze x3 ⟨x0.heap.size,2,none⟩ 1):=Za9 x3 x0.heap.size 2 2 _ hL3;go_simp;generalize hV:World.freeze x3 ⟨x0.heap.size,2,none⟩ 1=x4;have hx4:Below w.heap.size w x4:=(by rw[<- hV];exact hx3.trans ((YB x3 x0.heap.size 2).to_below hx3.size (fun q hq=>by rw[hq];exact hlL1)));have hL4:x4.heap[x0.heap.size]? =some (.cells #[.int .u8 71,.int .u8 82] 5 (2,3)):=by rw[<- hV];exact QS x3 x0.heap.size _ 5 2 hL3
     have hR4:x4.heap[x2.heap.size]? =some (.cells #[.int .u8 (IntKind.u8.wrap (nr:Int)),.int .u8 (IntKind.u8.wrap (nk:Int))] 5 (0,0)):=(by rw[<- hV];exact(YB x3 x0.heap.size 2).at_ hR3 (fun e=>hne e.symm));clear hV hcv;refine hK.out _ _ ((hx4.cell (p:=⟨db,0,none⟩) hdl).trans d0) (fun hHeld=>?_);clear hK KK;try simp only[Act.put,sA,sB,sC]
     refine Ze (i:=12) (by kernel_rfl) rfl (fun KK hK=>?_);refine YG rfl (.tmp 11) (.tmp 21) rfl (x0.heap.size) (x2.heap.size) 71 82 (IntKind.u8.wrap (nr:Int)) (IntKind.u8.wrap (nk:Int)) (2,3) (0,0) (by simp[Act.eval]) (by simp[Act.eval]) hL4 hR4 ?_;intro v6 w6 H6;obtain⟨o6,k6,b6,q6,p6,hv6⟩:=H6.out;have hx5:Below w.heap.size w w6:=hx4.trans (b6.mono hx4.size);have HO6:Hid (Yc w w6 v6 [71,82,(nr:Int)%256,(nk:Int)%256]):=⟨hx5,o6,fun k hk=>by rw[k6] at hk;injection hk with hk;rw[<- hk];exact hx4.size⟩;subst hv6;clear H6 o6 k6 b6;refine hK.out _ _ ((hx5.cell (p:=⟨db,0,none⟩) hdl).trans d0) (fun hHeld=>?_);clear hK KK;try simp only[Act.put,sA,sB,sC]
     refine Zl (i:=13) (by kernel_rfl) rfl (by kernel_rfl) (fun KK hK=>?_);go_simp;refine hK.out _ _ ?_;clear hK KK;try simp only[Act.put,sA,sB,sC]
     refine Zn (by kernel_rfl) ?_ _;go_wp2;go_meet
     exact⟨_,_,rfl,HO6.out⟩
  ·skip
   go_simp;refine(HRO.out _ hx0).mono ?_;rintro e x1 ⟨rfl,hbc⟩;have hx1:Below w.heap.size w x1:=hx0.trans (hbc.mono hx0.size);clear hbc;go_simp;refine hK.out _ _ ((hx1.cell (p:=⟨db,0,none⟩) hdl).trans d0) (fun hHeld=>?_);clear hK KK;try simp only[Act.put,sA,sB,sC]
   refine Zo 4 ?_;refine Zbq (i:=0) (j:=11) (by kernel_rfl) rfl rfl (fun KK hK=>?_) (fun KK hK=>?_)
   ·skip
    go_simp;generalize hV:World.alloc x1 (.cells #[.int .u8 71,.int .u8 82] 5)=x2;have hx2:Below w.heap.size w x2:=(by rw[<- hV];exact hx1.alloc hx1.size _);have hL2:x2.heap[x1.heap.size]? =some (.cells #[.int .u8 71,.int .u8 82] 5 (0,0)):=(by rw[<- hV];exact heap_alloc_new _ _);have hlL2:w.heap.size<=x1.heap.size:=hx1.size;clear hV;refine hK.out _ _ ((hx2.cell (p:=⟨db,0,none⟩) hdl).trans d0) (fun hHeld=>?_);clear hK KK;try simp only[Act.put,sA,sB,sC]
    refine Zbq (i:=1) (j:=11) (by kernel_rfl) rfl rfl (fun KK hK=>?_) (fun KK hK=>?_)
    ·skip
     have hcv:(convert 66 66 (.slice (some ⟨x1.heap.size,0,none⟩) 2 2)).run Tryz.prog x2=.ok (.slice (some ⟨x1.heap.size,0,none⟩) 2 2) (World.freeze x2 ⟨x1.heap.size,2,none⟩ 1):=Za9 x2 x1.heap.size 2 2 _ hL2;go_simp;generalize hV:World.freeze x2 ⟨x1.heap.size,2,none⟩ 1=x3;have hx3:Below w.heap.size w x3:=(by rw[<- hV];exact hx2.trans ((YB x2 x1.heap.size 2).to_below hx2.size (fun q hq=>by rw[hq];exact hlL2)));have hL3:x3.heap[x1.heap.size]? =some (.cells #[.int .u8 71,.int .u8 82] 5 (2,3)):=(by rw[<- hV];exact QS x2 x1.heap.size _ 5 2 hL2);clear hV hcv;refine hK.out _ _ ((hx3.cell (p:=⟨db,0,none⟩) hdl).trans d0) (fun hHeld=>?_);clear hK KK;try simp only[Act.put,sA,sB,sC]
     refine Ze (i:=11) (by kernel_rfl) rfl (fun KK hK=>?_);go_simp;generalize hV:World.alloc x3 (.cells #[.int .u8 (IntKind.u8.wrap (nr:Int)),.int .u8 (IntKind.u8.wrap (nk:Int))] 5)=x4;have hx4:Below w.heap.size w x4:=(by rw[<- hV];exact hx3.alloc hx3.size _);have hR4:x4.heap[x3.heap.size]? =some (.cells #[.int .u8 (IntKind.u8.wrap (nr:Int)),.int .u8 (IntKind.u8.wrap (nk:Int))] 5 (0,0)):=(by rw[<- hV];exact heap_alloc_new _ _);have hlR4:w.heap.size<=x3.heap.size:=hx3.size;have hL4:x4.heap[x1.heap.size]? =some (.cells #[.int .u8 71,.int .u8 82] 5 (2,3)):=(by rw[<- hV];exact(Below.heap_alloc _ _ _ (Qb hL3).1).trans hL3);have hne:x1.heap.size≠x3.heap.size:=(by have:=(Qb hL3).1;omega);clear hV
     refine hK.out _ _ ((hx4.cell (p:=⟨db,0,none⟩) hdl).trans d0) (fun hHeld=>?_);clear hK KK;try simp only[Act.put,sA,sB,sC]
     refine Ze (i:=12) (by kernel_rfl) rfl (fun KK hK=>?_);refine YG rfl (.tmp 11) (.tmp 21) rfl (x1.heap.size) (x3.heap.size) 71 82 (IntKind.u8.wrap (nr:Int)) (IntKind.u8.wrap (nk:Int)) (2,3) (0,0) (by simp[Act.eval]) (by simp[Act.eval]) hL4 hR4 ?_;intro v6 w6 H6;obtain⟨o6,k6,b6,q6,p6,hv6⟩:=H6.out;have hx5:Below w.heap.size w w6:=hx4.trans (b6.mono hx4.size);have HO6:Hid (Yc w w6 v6 [71,82,(nr:Int)%256,(nk:Int)%256]):=⟨hx5,o6,fun k hk=>by rw[k6] at hk;injection hk with hk;rw[<- hk];exact hx4.size⟩;subst hv6;clear H6 o6 k6 b6;refine hK.out _ _ ((hx5.cell (p:=⟨db,0,none⟩) hdl).trans d0) (fun hHeld=>?_);clear hK KK;try simp only[Act.put,sA,sB,sC]
     refine Zl (i:=13) (by kernel_rfl) rfl (by kernel_rfl) (fun KK hK=>?_);go_simp;refine hK.out _ _ ?_;clear hK KK;try simp only[Act.put,sA,sB,sC]
     refine Zn (by kernel_rfl) ?_ _;go_wp2;go_meet
     exact⟨_,_,rfl,HO6.out⟩
    ·skip
     go_simp;generalize hV:World.alloc x2 (.cells #[.int .u8 (IntKind.u8.wrap (nr:Int)),.int .u8 (IntKind.u8.wrap (nk:Int))] 5)=x3;have hx3:Below w.heap.size w x3:=(by rw[<- hV];exact hx2.alloc hx2.size _);have hR3:x3.heap[x2.heap.size]? =some (.cells #[.int .u8 (IntKind.u8.wrap (nr:Int)),.int .u8 (IntKind.u8.wrap (nk:Int))] 5 (0,0)):=(by rw[<- hV];exact heap_alloc_new _ _);have hlR3:w.heap.size<=x2.heap.size:=hx2.size;have hL3:x3.heap[x1.heap.size]? =some (.cells #[.int .u8 71,.int .u8 82] 5 (0,0)):=(by rw[<- hV];exact(Below.heap_alloc _ _ _ (Qb hL2).1).trans hL2);have hne:x1.heap.size≠x2.heap.size:=(by have:=(Qb hL2).1;omega);clear hV;refine hK.out _ _ ((hx3.cell (p:=⟨db,0,none⟩) hdl).trans d0) (fun hHeld=>?_);clear hK KK;try simp only[Act.put,sA,sB,sC]
     refine Ze (i:=1) (by kernel_rfl) rfl (fun KK hK=>?_);have hcv:(convert 66 66 (.slice (some ⟨x1.heap.size,0,none⟩) 2 2)).run Tryz.prog x3=.ok (.slice (some ⟨x1.heap.size,0,none⟩) 2 2) (World.freeze x3 ⟨x1.heap.size,2,none⟩ 1):=Za9 x3 x1.heap.size 2 2 _ hL3;go_simp;generalize hV:World.freeze x3 ⟨x1.heap.size,2,none⟩ 1=x4;have hx4:Below w.heap.size w x4:=(by rw[<- hV];exact hx3.trans ((YB x3 x1.heap.size 2).to_below hx3.size (fun q hq=>by rw[hq];exact hlL2)));have hL4:x4.heap[x1.heap.size]? =some (.cells #[.int .u8 71,.int .u8 82] 5 (2,3)):=by rw[<- hV];exact QS x3 x1.heap.size _ 5 2 hL3
     have hR4:x4.heap[x2.heap.size]? =some (.cells #[.int .u8 (IntKind.u8.wrap (nr:Int)),.int .u8 (IntKind.u8.wrap (nk:Int))] 5 (0,0)):=(by rw[<- hV];exact(YB x3 x1.heap.size 2).at_ hR3 (fun e=>hne e.symm));clear hV hcv;refine hK.out _ _ ((hx4.cell (p:=⟨db,0,none⟩) hdl).trans d0) (fun hHeld=>?_);clear hK KK;try simp only[Act.put,sA,sB,sC]
     refine Ze (i:=12) (by kernel_rfl) rfl (fun KK hK=>?_);refine YG rfl (.tmp 11) (.tmp 21) rfl (x1.heap.size) (x2.heap.size) 71 82 (IntKind.u8.wrap (nr:Int)) (IntKind.u8.wrap (nk:Int)) (2,3) (0,0) (by simp[Act.eval]) (by simp[Act.eval]) hL4 hR4 ?_;intro v6 w6 H6;obtain⟨o6,k6,b6,q6,p6,hv6⟩:=H6.out;have hx5:Below w.heap.size w w6:=hx4.trans (b6.mono hx4.size);have HO6:Hid (Yc w w6 v6 [71,82,(nr:Int)%256,(nk:Int)%256]):=⟨hx5,o6,fun k hk=>by rw[k6] at hk;injection hk with hk;rw[<- hk];exact hx4.size⟩;subst hv6;clear H6 o6 k6 b6;refine hK.out _ _ ((hx5.cell (p:=⟨db,0,none⟩) hdl).trans d0) (fun hHeld=>?_);clear hK KK;try simp only[Act.put,sA,sB,sC]
     refine Zl (i:=13) (by kernel_rfl) rfl (by kernel_rfl) (fun KK hK=>?_);go_simp;refine hK.out _ _ ?_;clear hK KK;try simp only[Act.put,sA,sB,sC]
     refine Zn (by kernel_rfl) ?_ _;go_wp2;go_meet
     exact⟨_,_,rfl,HO6.out⟩
   ·skip
    go_simp;generalize hV:World.alloc x1 (.cells #[.int .u8 (IntKind.u8.wrap (nr:Int)),.int .u8 (IntKind.u8.wrap (nk:Int))] 5)=x2;have hx2:Below w.heap.size w x2:=(by rw[<- hV];exact hx1.alloc hx1.size _);have hR2:x2.heap[x1.heap.size]? =some (.cells #[.int .u8 (IntKind.u8.wrap (nr:Int)),.int .u8 (IntKind.u8.wrap (nk:Int))] 5 (0,0)):=(by rw[<- hV];exact heap_alloc_new _ _);have hlR2:w.heap.size<=x1.heap.size:=hx1.size;clear hV;refine hK.out _ _ ((hx2.cell (p:=⟨db,0,none⟩) hdl).trans d0) (fun hHeld=>?_);clear hK KK;try simp only[Act.put,sA,sB,sC]
    refine Ze (i:=0) (by kernel_rfl) rfl (fun KK hK=>?_);go_simp;generalize hV:World.alloc x2 (.cells #[.int .u8 71,.int .u8 82] 5)=x3;have hx3:Below w.heap.size w x3:=(by rw[<- hV];exact hx2.alloc hx2.size _);have hL3:x3.heap[x2.heap.size]? =some (.cells #[.int .u8 71,.int .u8 82] 5 (0,0)):=(by rw[<- hV];exact heap_alloc_new _ _);have hlL3:w.heap.size<=x2.heap.size:=hx2.size;have hR3:x3.heap[x1.heap.size]? =some (.cells #[.int .u8 (IntKind.u8.wrap (nr:Int)),.int .u8 (IntKind.u8.wrap (nk:Int))] 5 (0,0)):=(by rw[<- hV];exact(Below.heap_alloc _ _ _ (Qb hR2).1).trans hR2);have hne:x2.heap.size≠x1.heap.size:=(by have:=(Qb hR2).1;omega);clear hV;refine hK.out _ _ ((hx3.cell (p:=⟨db,0,none⟩) hdl).trans d0) (fun hHeld=>?_);clear hK KK
    try simp only[Act.put,sA,sB,sC]
    refine Ze (i:=1) (by kernel_rfl) rfl (fun KK hK=>?_);have hcv:(convert 66 66 (.slice (some ⟨x2.heap.size,0,none⟩) 2 2)).run Tryz.prog x3=.ok (.slice (some ⟨x2.heap.size,0,none⟩) 2 2) (World.freeze x3 ⟨x2.heap.size,2,none⟩ 1):=Za9 x3 x2.heap.size 2 2 _ hL3;go_simp;generalize hV:World.freeze x3 ⟨x2.heap.size,2,none⟩ 1=x4;have hx4:Below w.heap.size w x4:=(by rw[<- hV];exact hx3.trans ((YB x3 x2.heap.size 2).to_below hx3.size (fun q hq=>by rw[hq];exact hlL3)));have hL4:x4.heap[x2.heap.size]? =some (.cells #[.int .u8 71,.int .u8 82] 5 (2,3)):=by rw[<- hV];exact QS x3 x2.heap.size _ 5 2 hL3
    have hR4:x4.heap[x1.heap.size]? =some (.cells #[.int .u8 (IntKind.u8.wrap (nr:Int)),.int .u8 (IntKind.u8.wrap (nk:Int))] 5 (0,0)):=(by rw[<- hV];exact(YB x3 x2.heap.size 2).at_ hR3 (fun e=>hne e.symm));clear hV hcv;refine hK.out _ _ ((hx4.cell (p:=⟨db,0,none⟩) hdl).trans d0) (fun hHeld=>?_);clear hK KK;try simp only[Act.put,sA,sB,sC]
    refine Ze (i:=12) (by kernel_rfl) rfl (fun KK hK=>?_);refine YG rfl (.tmp 11) (.tmp 21) rfl (x2.heap.size) (x1.heap.size) 71 82 (IntKind.u8.wrap (nr:Int)) (IntKind.u8.wrap (nk:Int)) (2,3) (0,0) (by simp[Act.eval]) (by simp[Act.eval]) hL4 hR4 ?_;intro v6 w6 H6;obtain⟨o6,k6,b6,q6,p6,hv6⟩:=H6.out;have hx5:Below w.heap.size w w6:=hx4.trans (b6.mono hx4.size);have HO6:Hid (Yc w w6 v6 [71,82,(nr:Int)%256,(nk:Int)%256]):=⟨hx5,o6,fun k hk=>by rw[k6] at hk;injection hk with hk;rw[<- hk];exact hx4.size⟩;subst hv6;clear H6 o6 k6 b6;refine hK.out _ _ ((hx5.cell (p:=⟨db,0,none⟩) hdl).trans d0) (fun hHeld=>?_);clear hK KK;try simp only[Act.put,sA,sB,sC]
    refine Zl (i:=13) (by kernel_rfl) rfl (by kernel_rfl) (fun KK hK=>?_);go_simp;refine hK.out _ _ ?_;clear hK KK;try simp only[Act.put,sA,sB,sC]
    refine Zn (by kernel_rfl) ?_ _;go_wp2;go_meet
    exact⟨_,_,rfl,HO6.out⟩
 case rest =>
  obtain⟨a0,c0,rfl,HO⟩:=hcut;have q0:=(HO.out.bl.cell (p:=⟨db,0,none⟩) hdl).trans d0;go_wp2_with fail
  go_loopw [3,28] (fun tv ti wr=>∃(k:Nat) (a:Option Addr) (c n:Nat),tv=.slice a n c/\ti=.int .i64 k/\k<=nk/\n<=4+k*9003/\Hid (Yc w wr (.slice a n c) ([71,82,(nr:Int)%256,(nk:Int)%256]++(D.ks.take k).flatMap knA)/\([71,82,(nr:Int)%256,(nk:Int)%256]++(D.ks.take k).flatMap knA).length=n)) (fun _ ti _=>nk-(intOf ti).toNat)
  case atStart=>exact⟨0,a0,c0,4,rfl,rfl,Qg _,by omega,by rw[List.take_zero];exact⟨HO.out,rfl⟩⟩
  case round=>
   clear HO q0;obtain⟨k,a,c,n,rfl,rfl,hk,hn,HR⟩:=hrel
   by_cases hkl2:k<nk
   ·have hkL:k<D.ks.length:=(by rw[HNN.out.2];exact hkl2);obtain⟨q,cc,ab,cb,aw,cw,hv,hql,k0,k1,k2,k3,hI,hS⟩:=HM.out.kn.at hkL;have hka:ka=some ⟨q,0,none⟩:=(by injection hv);subst hka;have hKm:Zdq (D.ks.getD k Zq):=(by have:D.ks.getD k Zq=D.ks[k]:=(by simp[List.getD,hkL]);rw[this];exact HKS.out.1 _ (Qf hkL));have HKm:Hid (Zdq (D.ks.getD k Zq)):=hKm;have hbw:=HR.out.1.bl;have e0:=(hbw.cell (p:=⟨q,k*4,none⟩) hql).trans k0;have e1:=(hbw.cell (p:=⟨q,k*4+1,none⟩) hql).trans k1;have e2:=(hbw.cell (p:=⟨q,k*4+2,none⟩) hql).trans k2;have e3:=(hbw.cell (p:=⟨q,k*4+3,none⟩) hql).trans k3
    have HX:Hid ([71,82,(nr:Int)%256,(nk:Int)%256]++(D.ks.take (k+1)).flatMap knA=([71,82,(nr:Int)%256,(nk:Int)%256]++(D.ks.take k).flatMap knA)++knA (D.ks.getD k Zq)):=(by show _=_;rw[Ze0 knA D.ks Zq hkL,List.append_assoc]);have HKL:Hid ((knA (D.ks.getD k Zq)).length<=9003):=Zm5 hKm
    have HKA:Hid (∀(W:World) (L:List Int),Yc w W (.slice a L.length c) L->L.length<=900000->Calls Tryz.prog 100 #[.agg #[.bool (D.ks.getD k Zq).e.wd,.slice ab (D.ks.getD k Zq).e.bs.length cb,.slice aw (D.ks.getD k Zq).e.ww.length cw,.int .i64 ((D.ks.getD k Zq).d:Nat)],.slice a L.length c] W fun e w'=>ZfH w (L++knA (D.ks.getD k Zq)) e w'):=fun W L hW hL=>by
     rcases hKm with hKm|hKm
     have h1:=ZfO w ab aw cb cw (D.ks.getD k Zq) a c L W hKm.1 hI hW hKm.2.2.1 hKm.2.2.2 hL;have e1:knA (D.ks.getD k Zq)=knB (D.ks.getD k Zq):=(by unfold knA;rw[hKm.1];rfl);rw[e1,hKm.2.1];exact h1;have h1:=Ze3 w ab aw cb cw (D.ks.getD k Zq) a c L W hKm.1 hS hW hKm.2.2.1 hKm.2.2.2 hL;have e1:knA (D.ks.getD k Zq)=ZhF (D.ks.getD k Zq):=(by unfold knA;rw[hKm.1];rfl);rw[e1,hKm.2.1];exact h1
    clear hKm k0 k1 k2 k3 hI hS hv hbw;generalize D.ks.getD k Zq=Kk at *;generalize [71,82,(nr:Int)%256,(nk:Int)%256]++(D.ks.take k).flatMap knA=L0 at *;have bk1:(0:Int)<=(k:Int):=(by omega);have bk2:(k:Int)<(nk:Int):=(by omega);generalize Kk.e.wd=wdk at *;generalize Kk.e.ww.length=nwk at *;generalize Kk.e.bs.length=nb at *;generalize Kk.d=dd at *;go_wp2_with fail
    have hW:=HR.out.1.below ((Below.refl wr.heap.size wr).alloc (Qa _) (.cells #[.bool wdk,.slice ab nb cb,.slice aw nwk cw,.int .i64 (dd:Nat)] 172));have hC:=HKA.out _ L0 (by rw[HR.out.2];exact hW) (by rw[HR.out.2];omega);rw[HR.out.2] at hC;refine hC.mono ?_;rintro e w3 ⟨a3,c3,rfl,h3⟩;rw[<- HX.out] at h3 ⊢;obtain⟨n3,hn3⟩:∃n3,n3=([71,82,(nr:Int)%256,(nk:Int)%256]++(D.ks.take (k+1)).flatMap knA).length:=⟨_,rfl⟩;have hn4:n3<=4+(k+1)*9003:=by rw[hn3,HX.out,Qe,HR.out.2];have:=HKL.out;omega
    rw[<- hn3] at h3 ⊢;have HN:Hid (Yc w w3 (.slice a3 n3 c3) ([71,82,(nr:Int)%256,(nk:Int)%256]++(D.ks.take (k+1)).flatMap knA)/\([71,82,(nr:Int)%256,(nk:Int)%256]++(D.ks.take (k+1)).flatMap knA).length=n3):=⟨h3,hn3.symm⟩;clear h3 hn3 hC hW HKA HX HR e0 e1 e2 e3;go_wp2;go_roundw;case rel=>exact⟨k+1,a3,c3,n3,rfl,by go_num,by omega,hn4,HN⟩
    case measure=>simp[intOf];omega
   have hnk:¬(k:Int)<(nk:Int):=(by omega);have htk:D.ks.take k=D.ks:=List.take_of_length_le (by have:=HNN.out.2;omega);rw[htk] at HR;obtain⟨ba,bc,hvB⟩:=HM.out.ds.bn.form;subst hvB;have HOF:Hid (Zat D X=([71,82,(nr:Int)%256,(nk:Int)%256]++D.ks.flatMap knA)++[((D.bs.length:Nat):Int)%256]++D.bs.flatMap YP++YV (X.length:Nat) 2++X.flatMap xB):=by show _=_;unfold Zat;rw[HNN.out.1,HNN.out.2]
   generalize hnb:D.bs.length=nb at *;have HNB:Hid (D.bs.length=nb):=hnb;have HBLB:Hid (nb<=4):=hbl;clear hnb htk hbl;have d1:w.cell? ⟨db,1,none⟩=some (.slice ba nb bc):=cell_of_row _ _ 1 _ 168 (0,0) HM.out.ds.blk;have e1:=(HR.out.1.bl.cell (p:=⟨db,1,none⟩) hdl).trans d1;have hwl:db<wr.heap.size:=Qh hdl HR.out.1.bl.size;generalize [71,82,(nr:Int)%256,(nk:Int)%256]++D.ks.flatMap knA=L1 at *;have HRW:Hid (wr.ownsRow 0 5 1 (.slice a n c) n (L1.map (Value.int .u8))):=by have h1:=HR.out.1.ow;unfold Zs at h1;rw[HR.out.2] at h1;exact h1
   have hn2:n<=36016:=(by omega);go_wp2_with (at_builtin;refine Zf rfl (.tmp 36) (.tmp 43) 66 rfl 0 5 i0 (.int .u8 0) 1 1 Tryz.underlying66 hinf hz0 hz1 hz2 rfl (by decide) _ n (L1.map (Value.int .u8)) rfl (HRW.out.alloc _) ⟨wr.heap.size,0,none⟩ 1 1 [.int .u8 ((nb:Int)%256)] rfl rfl ?_ ?_ ?_ ?_ ?_ ?_ ?_)
   all_goals try first|exact Zu wr #[.int .u8 ((nb:Int)%256)] 5|(intro u hu;simp at hu;rcases hu with rfl;rfl)|exact Qg _|rfl|decide|(unfold maxLen;omega)|omega
   intro v4 w4 H4;obtain⟨r4,g4,d4,_,q4,p4,hv4⟩:=H4.out;have HO4:Hid (Yc w w4 v4 (L1++[(nb:Int)%256])/\(L1++[(nb:Int)%256]).length=n+1):=(by refine⟨HR.out.1.app ?_ (Ya.pre ((Below.refl wr.heap.size wr).alloc (Qa _) _) (Ya.of_mark g4 d4 (by simp))),by rw[Qe,HR.out.2];rfl⟩;refine Zs.more (n:=1) ?_ rfl;rw[HR.out.2];exact r4);have e14:=(HO4.out.1.bl.cell (p:=⟨db,1,none⟩) hdl).trans d1;subst hv4;clear H4 r4 g4 d4 HRW HR e1 hn;generalize L1++[(nb:Int)%256]=L2 at *;obtain⟨wl,hwl3⟩:∃wl,wl=wr:=⟨wr,rfl⟩;subst hwl3;go_wp2_with fail
   go_loopw [3,50] (fun tv ti wr=>∃(j:Nat) (a:Option Addr) (c n:Nat),tv=.slice a n c/\ti=.int .i64 j/\j<=nb/\n<=36017+j*5000/\Hid (Yc w wr (.slice a n c) (L2++(D.bs.take j).flatMap YP)/\(L2++(D.bs.take j).flatMap YP).length=n)) (fun _ ti _=>nb-(intOf ti).toNat)
   case atStart=>exact⟨0,_,_,n+1,rfl,rfl,Qg _,by omega,by rw[List.take_zero];show Yc _ _ _ (L2++[])/\(L2++[]).length=_;rw[List.append_nil];exact HO4.out⟩
   case round=>
    clear HO4 e14;obtain⟨j,a,c,n,rfl,rfl,hj,hn,HR⟩:=hrel;have hjb:j<=4:=Nat.le_trans hj HBLB.out
    by_cases hjl:j<nb
    ·have hjL:j<D.bs.length:=(by rw[HNB.out];exact hjl);obtain⟨q,cc,hv,hql,k0,k1⟩:=HM.out.ds.bn.at hjL;have hka:ba=some ⟨q,0,none⟩:=(by injection hv);subst hka;have hBm:Zf7 (D.bs.getD j ZB):=(by have:D.bs.getD j ZB=D.bs[j]:=(by simp[List.getD,hjL]);rw[this];exact HKS.out.2.1 _ (Qf hjL));obtain⟨hI,hcol⟩:=HM.out.ds.bn.each j hjL;obtain⟨fa,fcc,hvf⟩:=hI.shape;obtain⟨ct,cp,hvc⟩:=hcol.iface;rw[ZI] at hvf;rw[hvf] at k0 hI;rw[hvc] at k1 hcol;have hbw:=HR.out.1.bl;have e0:=(hbw.cell (p:=⟨q,j*2,none⟩) hql).trans k0;have e1:=(hbw.cell (p:=⟨q,j*2+1,none⟩) hql).trans k1;have HX:Hid (L2++(D.bs.take (j+1)).flatMap YP=(L2++(D.bs.take j).flatMap YP)++YP (D.bs.getD j ZB)):=by show _=_;rw[Ze0 YP D.bs ZB hjL,List.append_assoc]
     have HKL:Hid ((YP (D.bs.getD j ZB)).length<=5000):=hBm.2.2.2.2
     have HKA:Hid (∀(W:World) (L:List Int),Yc w W (.slice a L.length c) L->L.length<=900000->Calls Tryz.prog 101 #[.agg #[.slice fa (D.bs.getD j ZB).fs.length fcc,.iface ct (.pointer (some ⟨cp,0,none⟩))],.slice a L.length c] W fun e w'=>ZfH w (L++YP (D.bs.getD j ZB)) e w'):=fun W L hW hL=>
      ZeU w fa fcc (D.bs.getD j ZB) _ a c L W hI hcol hW hBm.1 hBm.2.1 hL hBm.2.2.1 hBm.2.2.2.1
     clear hBm k0 k1 hI hcol hv hbw hvf hvc;generalize D.bs.getD j ZB=Bk at *;generalize L2++(D.bs.take j).flatMap YP=L0 at *;generalize Bk.fs.length=nf at *;have bk1:(0:Int)<=(j:Int):=(by omega);have bk2:(j:Int)<(nb:Int):=(by omega);go_wp2_with fail
     have hW:=HR.out.1.below ((Below.refl wr.heap.size wr).alloc (Qa _) (.cells #[.slice fa nf fcc,.iface ct (.pointer (some ⟨cp,0,none⟩))] 163));have hC:=HKA.out _ L0 (by rw[HR.out.2];exact hW) (by rw[HR.out.2];have:=HBLB.out;omega);rw[HR.out.2] at hC;refine hC.mono ?_;rintro e w3 ⟨a3,c3,rfl,h3⟩;rw[<- HX.out] at h3 ⊢;obtain⟨n3,hn3⟩:∃n3,n3=(L2++(D.bs.take (j+1)).flatMap YP).length:=⟨_,rfl⟩;have hn4:n3<=36017+(j+1)*5000:=by rw[hn3,HX.out,Qe,HR.out.2];have:=HKL.out;omega
     rw[<- hn3] at h3 ⊢;have HN:Hid (Yc w w3 (.slice a3 n3 c3) (L2++(D.bs.take (j+1)).flatMap YP)/\(L2++(D.bs.take (j+1)).flatMap YP).length=n3):=⟨h3,hn3.symm⟩;clear h3 hn3 hC hW HKA HX HR e0 e1;go_wp2;go_roundw;case rel=>exact⟨j+1,a3,c3,n3,rfl,by go_num,by omega,hn4,HN⟩
     case measure=>simp[intOf];omega
    have hnj:¬(j:Int)<(nb:Int):=(by omega);have htk:D.bs.take j=D.bs:=List.take_of_length_le (by have:=HNB.out;omega);rw[htk] at HR;obtain⟨xa,xc,hvX⟩:=HM.out.ds.xn.shape;subst hvX;have d2:w.cell? ⟨db,2,none⟩=some (.slice xa X.length xc):=cell_of_row _ _ 2 _ 168 (0,0) HM.out.ds.blk;have e2:=(HR.out.1.bl.cell (p:=⟨db,2,none⟩) hdl).trans d2;have hn2:n<=56017:=(by omega);have HOG:Hid (Zat D X=(L2++D.bs.flatMap YP++YV (X.length:Nat) 2)++X.flatMap xB):=HOF.out;generalize hL3:L2++D.bs.flatMap YP=L3 at *
    have HAL:Calls Tryz.prog 102 #[.slice a n c,.int .i64 (X.length:Nat),.int .i64 2] wr fun e w'=>ZfH w (L3++YV (X.length:Nat) 2) e w':=(by have h1:=HR.out.1;rw[<- HR.out.2] at h1 ⊢;exact(ZbO a c 2 L3 (X.length:Nat) wr h1.ow (by omega) (by rw[HR.out.2];omega) (by omega) (by omega)).mono (fun e w' h=>h.out h1));clear htk hL3 HOF;generalize hxn:X.length=xn at *;have HXN:Hid (X.length=xn):=hxn;clear hxn;go_wp2_with fail
    refine HAL.mono ?_;rintro e w5 ⟨a5,c5,rfl,h5⟩;obtain⟨n5,hn5⟩:∃n5,n5=(L3++YV (xn:Nat) 2).length:=⟨_,rfl⟩;have hn6:n5=n+2:=(by rw[hn5,Qe,Zbp,HR.out.2]);have hn7:n5<=56019:=(by omega);rw[<- hn5] at h5 ⊢;have HO5:Hid (Yc w w5 (.slice a5 n5 c5) (L3++YV (xn:Nat) 2)/\(L3++YV (xn:Nat) 2).length=n5):=⟨h5,hn5.symm⟩;have e5:=(h5.bl.cell (p:=⟨db,2,none⟩) hdl).trans d2;clear h5 hn5 hn6 HAL HR e2 hn;generalize L3++YV (xn:Nat) 2=L5 at *;obtain⟨wm,hwm⟩:∃wm,wm=wr:=⟨wr,rfl⟩;subst hwm;go_wp2_with fail
    go_loopw [3,70] (fun tv ti wr=>∃(r:Nat) (a:Option Addr) (c n:Nat),tv=.slice a n c/\ti=.int .i64 r/\r<=xn/\n=n5+r*3/\Hid (Yc w wr (.slice a n c) (L5++(X.take r).flatMap xB)/\(L5++(X.take r).flatMap xB).length=n)) (fun _ ti _=>xn-(intOf ti).toNat)
    case atStart=>exact⟨0,_,_,n5,rfl,rfl,Qg _,rfl,by rw[List.take_zero];show Yc _ _ _ (L5++[])/\(L5++[]).length=_;rw[List.append_nil];exact HO5.out⟩
    case round=>
     clear HO5 e5;obtain⟨r,a,c,n,rfl,rfl,hr,hn,HR⟩:=hrel
     by_cases hrl:r<xn
     ·have hrL:r<X.length:=(by rw[HXN.out];exact hrl);obtain⟨q,hq,hql,k0,k1,k2⟩:=ZaT.atK HM.out.ds.xn HXN.out hrl;subst hq;have hbw:=HR.out.1.bl;have e0:=(hbw.cell (p:=⟨q,r*3,none⟩) hql).trans k0;have e1:=(hbw.cell (p:=⟨q,r*3+1,none⟩) hql).trans k1;have e2:=(hbw.cell (p:=⟨q,r*3+2,none⟩) hql).trans k2;have HX:Hid (L5++(X.take (r+1)).flatMap xB=(L5++(X.take r).flatMap xB)++[(((X.getD r QD).row:Nat):Int)%256,(((X.getD r QD).f:Nat):Int)%256,(((X.getD r QD).bin:Nat):Int)%256]):=(by show _=_;rw[Ze0 xB X QD hrL,List.append_assoc];rfl);clear k0 k1 k2 hbw;generalize L5++(X.take r).flatMap xB=L0 at *;generalize (X.getD r QD).row=y0 at *;generalize (X.getD r QD).f=y1 at *;generalize (X.getD r QD).bin=y2 at *
      have HRW:Hid (wr.ownsRow 0 5 1 (.slice a n c) n (L0.map (Value.int .u8))):=(by have h1:=HR.out.1.ow;unfold Zs at h1;rw[HR.out.2] at h1;exact h1);have HNE:Hid (n=n5+r*3):=hn;have hn9:n<=70000:=(by omega);clear hn;have bk1:(0:Int)<=(r:Int):=(by omega);have bk2:(r:Int)<(xn:Int):=(by omega);go_wp2_with (at_builtin;refine Zf rfl (.tmp 74) (.tmp 84) 66 rfl 0 5 i0 (.int .u8 0) 1 1 Tryz.underlying66 hinf hz0 hz1 hz2 rfl (by decide) _ n (L0.map (Value.int .u8)) rfl ((HRW.out.alloc _).alloc _) ⟨wr.heap.size+1,0,none⟩ 3 3 [.int .u8 ((y0:Int)%256),.int .u8 ((y1:Int)%256),.int .u8 ((y2:Int)%256)] rfl rfl ?_ ?_ ?_ ?_ ?_ ?_ ?_)
      intro j u hu;have h1:=Zu (wr.alloc (.cells #[.int .i64 (y0:Nat),.int .i64 (y1:Nat),.int .i64 (y2:Nat)] 184)) #[.int .u8 ((y0:Int)%256),.int .u8 ((y1:Int)%256),.int .u8 ((y2:Int)%256)] 5 j u hu;rw[show(wr.alloc (.cells #[.int .i64 (y0:Nat),.int .i64 (y1:Nat),.int .i64 (y2:Nat)] 184)).heap.size=wr.heap.size+1 by simp] at h1;exact h1
      ·intro u hu;simp at hu;rcases hu with rfl|rfl|rfl<;>rfl
      decide;unfold maxLen;omega;omega;simp;intro v7 w7 H7;obtain⟨r7,g7,d7,_,q7,p7,hv7⟩:=H7.out;have HN:Hid (Yc w w7 v7 (L5++(X.take (r+1)).flatMap xB)/\(L5++(X.take (r+1)).flatMap xB).length=n+3):=by have hbx:Below wr.heap.size wr ((wr.alloc (.cells #[.int .i64 (y0:Nat),.int .i64 (y1:Nat),.int .i64 (y2:Nat)] 184)).alloc (.cells #[.int .u8 ((y0:Int)%256),.int .u8 ((y1:Int)%256),.int .u8 ((y2:Int)%256)] 5)):=((Below.refl _ _).alloc (Qa _) _).alloc (by simp) _;rw[HX.out];refine⟨HR.out.1.app ?_ (Ya.pre hbx (Ya.of_mark g7 d7 (by simp))),by rw[Qe,HR.out.2];rfl⟩;refine Zs.more (n:=3) ?_ rfl;rw[HR.out.2];exact r7
      subst hv7;clear H7 r7 g7 d7 HRW HR HX e0 e1 e2;go_wp2;go_roundw;case rel=>exact⟨r+1,some ⟨q7,0,none⟩,p7,n+3,rfl,by go_num,by omega,by have:=HNE.out;omega,HN⟩
      case measure=>simp[intOf];omega
     have hnr2:¬(r:Int)<(xn:Int):=(by omega);have htk:X.take r=X:=List.take_of_length_le (by have:=HXN.out;omega);rw[htk,<- HOG.out] at HR;have hn9:n<=70000:=by omega
     have HCS:Calls Tryz.prog 103 #[.slice a n c] wr fun e w'=>e=.returned (.int .u32 (ZeW (Zat D X)))/\w'=wr:=(by have h1:=HR.out.1.ow;rw[<- HR.out.2] at h1 ⊢;exact ZiS a c (Zat D X) wr h1 (by rw[HR.out.2];omega) HKS.out.2.2);have hz:=Zc1 .xor 4294967295 (Zrp (Zat D X));have hz':0<=ZeW (Zat D X)/\ZeW (Zat D X)<4294967296:=hz;have HBF:Hid (ZU D X=Zat D X++YV (ZeW (Zat D X)) 4):=rfl;have HAL:Calls Tryz.prog 102 #[.slice a n c,.int .i64 (ZeW (Zat D X)),.int .i64 4] wr fun e w'=>ZfH w (Zat D X++YV (ZeW (Zat D X)) 4) e w':=by have h1:=HR.out.1;rw[<- HR.out.2] at h1 ⊢;exact(ZbO a c 4 (Zat D X) (ZeW (Zat D X)) wr h1.ow (by omega) (by rw[HR.out.2];omega) (by omega) (by omega)).mono (fun e w' h=>h.out h1)
     rw[<- HBF.out] at HAL;clear htk hz hn HBF;generalize ZeW (Zat D X)=z at *;obtain⟨hz1',hz2'⟩:=hz';go_wp2_with fail
     refine HCS.mono ?_;rintro e w8 ⟨rfl,hw8⟩;obtain rfl:=hw8.symm;clear HCS;go_wp2_with fail
     refine HAL.mono ?_;rintro e w9 ⟨a9,c9,rfl,h9⟩;have hcv:=Zj0 w9 0 (.slice a9 (ZU D X).length c9) (ZU D X) h9.ow;have HB9:Hid (Below w.heap.size w w9):=h9.bl;generalize (ZU D X).length=n9 at *;clear h9 HAL HR;go_wp2;go_ret;exact⟨rfl,HB9.out⟩
theorem ZgA(gb db:Nat)(vK vB vX:Value)(kvs bvs:List (Value×Value))(X:List XS)(D:YY)(w:World)(hg:w.heap[gb]? =some (.cells #[.pointer (some ⟨db,0,none⟩)] 110 (0,0)))(h:Y7 w db vK vB vX kvs bvs X D)(h0:0<D.bs.length)(hks:∀K∈D.ks,Zdq K)(hkl:D.ks.length<=4)(hbs:∀b∈D.bs,Zf7 b)(hbl:D.bs.length<=4)(hxl:X.length<=4000)(hby:∀b∈Zat D X,0<=b/\b<256):Calls Tryz.prog 34 #[.pointer (some ⟨gb,0,none⟩)] w fun e w'=>e=.returned (.string (strOfNums (ZU D X)))/\Below w.heap.size w w':=by
 have g0:w.cell? ⟨gb,0,none⟩=some (.pointer (some ⟨db,0,none⟩)):=cell_of_row _ _ 0 _ 110 (0,0) hg
 have HB:=Zh6 db vK vB vX kvs bvs X D w h h0 hks hkl hbs hbl hxl hby
 clear hg h h0 hks hkl hbs hbl hxl hby
 generalize strOfNums (ZU D X)=sb at *;go_enter Tryz.func34,Tryz.ntmps34;go_wp2_with fail
 refine HB.mono ?_;rintro e w2 ⟨rfl,hb⟩;have H2:Hid (Below w.heap.size w w2):=hb;clear hb;go_wp2;go_ret;exact⟨rfl,H2.out⟩
theorem Zg6(n d:Int)(w:World):Calls Tryz.prog 330 #[.agg #[.int .i64 n,.int .i64 d]] w fun e w'=>e=.returned (.int .i64 d)/\Below w.heap.size w w':=by go_enter Tryz.func330,Tryz.ntmps330;go_wp2;go_ret;exact⟨rfl,(Below.refl _ _).alloc (Qa _) _⟩
theorem Zkm{f:Nat->Nat}(hf:∀t,f t<=1)(b:Nat):∀c r,r<c->Za7 f b c/2^r%2=f (b+r)
 |0,r,h=>by omega
 | c+1,r,h=>by
  simp only[Za7]
  by_cases e:r=c
  subst e;have h1:=Zde hf b r;have h2:=hf (b+r);rw[Nat.add_mul_div_right _ _ (Nat.two_pow_pos r),Nat.div_eq_of_lt h1];omega;have hr:r<c:=(by omega);have ih:=Zkm hf b c r hr;have h3:f (b+c)*2^c=f (b+c)*2^(c-r-1)*2*2^r:=(by have:(2:Nat)^c=2^(c-r-1)*2*2^r:=(by rw[Nat.mul_assoc,<- Nat.pow_succ',<- Nat.pow_add];congr 1;omega);rw[this];simp only[Nat.mul_assoc]);rw[h3,Nat.add_mul_div_right _ _ (Nat.two_pow_pos r)];omega
theorem Zh5{f:Nat->Nat}(hf:∀t,f t<=1){T t:Nat}(h:t<T):QV f T (t/8)/2^(t%8)%2=f t:=by unfold QV;rw[Zkm hf _ _ _ (by omega)];congr 1;omega
theorem ZcO{f:Nat->Nat}(n b:Nat):∀c,(∀i,i<c->f (b+i)=n/2^i%2)->Za7 f b c=n%2^c
 |0,_=>by simp[Za7,Nat.mod_one]
 |c+1,h=>by simp only[Za7];rw[ZcO n b c (fun i hi=>h i (by omega)),h c (by omega),Nat.mod_pow_succ,Nat.mul_comm (2^c)]
theorem Zh3(N:List Nat){d row:Nat}(h:N.getD row 0<2^d):Za7 (YD N d) (row*d) d=N.getD row 0:=by rw[ZcO (N.getD row 0) (row*d) d (fun i hi=>?_),Nat.mod_eq_of_lt h];unfold YD;have e1:(row*d+i)/d=row:=(by rw[Nat.mul_comm,Nat.mul_add_div (by omega),Nat.div_eq_of_lt hi,Nat.add_zero]);have e2:(row*d+i)%d=i:=(by rw[Nat.mul_comm,Nat.mul_add_mod,Nat.mod_eq_of_lt hi]);rw[e1,e2]
theorem ZoF(n:Int)(h₀:0<=n)(h₁:n<2^8):IntKind.i64.wrap n=n:=ZA (by omega) (by omega)
theorem Zqo(a b:Nat)(ha:a<256)(hb:b<256):bits .or .i64 a b=((a|||b:Nat):Int):=(bits_nat .i64 8 (by decide) ZoF a b (by omega) (by omega)).2
theorem ZaN(db q n d nb T row:Nat)(f:Nat->Nat)(w:World)(hD:Zal w 0 db q n d (ZO f nb T))(hf:∀t,f t<=1)(hd:d<=6)(hrow:row*d+d<=T)(hT:T<=8*nb)(hT2:T<=2000):Calls Tryz.prog 323 #[.pointer (some ⟨db,0,none⟩),.int .i64 (row:Nat)] w fun e w'=>e=.returned (.int .i64 (Za7 f (row*d) d:Nat))/\Below w.heap.size w w':=by
 have HD:Hid (Zal w 0 db q n d (ZO f nb T)):=hD;have HF:Hid (∀t,f t<=1):=hf;have hnl:=QT f nb T;have b0:w.cell? ⟨db,0,none⟩=some (.int .i64 (n:Nat)):=cell_of_row _ _ 0 _ 396 (0,0) hD.blk;have b1:w.cell? ⟨db,1,none⟩=some (.int .i64 (d:Nat)):=cell_of_row _ _ 1 _ 396 (0,0) hD.blk;have b2:w.cell? ⟨db,2,none⟩=some (.slice (some ⟨q,0,none⟩) nb nb):=by have h1:=cell_of_row _ _ 2 _ 396 (0,0) hD.blk;rw[hnl] at h1;exact h1
 have hdl:db<w.heap.size:=(Qb hD.blk).1;have HW:Hid (∀(n d:Int) (W:World),Calls Tryz.prog 330 #[.agg #[.int .i64 n,.int .i64 d]] W fun e w'=>e=.returned (.int .i64 d)/\Below W.heap.size W w'):=Zg6;obtain⟨P,hP⟩:∃P,P=row*d:=⟨_,rfl⟩;have q0:(row:Int)*(d:Int)=(P:Int):=(by rw[hP];simp);rw[<- hP] at hrow ⊢;have q0w:IntKind.i64.wrap (P:Int)=(P:Int):=ZA (by omega) (by omega);have HPL:Hid (ZO f nb T=ZO f nb T/\(ZO f nb T).length=nb):=⟨rfl,hnl⟩;clear hD hf hP hnl;go_enter Tryz.func323,Tryz.ntmps323;go_wp2_with fail
 refine(HW.out _ _ _).mono ?_;rintro e w1 ⟨rfl,hb1⟩;have c0:=(hb1.cell (p:=⟨db,0,none⟩) hdl).trans b0;have c1:=(hb1.cell (p:=⟨db,1,none⟩) hdl).trans b1;have hl1:db<w1.heap.size:=Qh hdl hb1.size;have HB1:Hid (Below w.heap.size w w1):=hb1;clear hb1;go_wp2_with fail
 refine(HW.out _ _ _).mono ?_;rintro e w2 ⟨rfl,hb2⟩;have HB2:Hid (Below w.heap.size w w2):=HB1.out.trans (hb2.mono HB1.out.size);clear hb2 c0 c1 hl1 HB1;have c2:=(HB2.out.cell (p:=⟨db,2,none⟩) hdl).trans b2;go_wp2_with fail
 go_loopw [5,21] (fun tn ti wr=>∃(i m:Nat),tn=.int .i64 (m:Nat)/\ti=.int .i64 i/\i<=d/\Hid (m=Za7 f P i)/\Hid (w2=wr)) (fun _ ti _=>d-(intOf ti).toNat)
 case atStart=>exact⟨0,0,rfl,rfl,Qg _,rfl,rfl⟩
 case round=>
  obtain⟨i,m,rfl,rfl,hi,HMm,hw⟩:=hrel;have hw2:=hw.out;subst hw2;clear hw
  by_cases hid:i<d
  ·obtain⟨T1,hT1⟩:∃T1,T1=P+i:=⟨_,rfl⟩;obtain⟨J,hJ⟩:∃J,J=T1/8:=⟨_,rfl⟩;obtain⟨R,hR⟩:∃R,R=T1%8:=⟨_,rfl⟩;have hJn:J<nb:=(by omega);have hbk:(ZO f nb T).getD J 0=((QV f T J:Nat):Int):=Zd9 f T hJn;obtain⟨q',hq',hql,cf⟩:=HD.out.row.atK rfl (k:=J) (by rw[HPL.out.2];exact hJn);have hqq:q'=q:=(by injection hq' with h1;injection h1 with h1 _;exact h1.symm);subst hqq;rw[hbk] at cf;have cf2:=(HB2.out.cell (p:=⟨q',J,none⟩) hql).trans cf;obtain⟨y,hy⟩:∃y,y=QV f T J:=⟨_,rfl⟩;have hy256:y<256:=(by rw[hy];exact Zgk HF.out T J);rw[<- hy] at cf2;obtain⟨bt,hbt⟩:∃bt,bt=f T1:=⟨_,rfl⟩;have hbit:y/2^R%2=bt:=(by rw[hy,hJ,hR,hbt];exact Zh5 HF.out (by omega));have hb1:bt<=1:=by rw[hbt];exact HF.out _
   have hm2:m<2^i:=(by rw[HMm.out];exact Zde HF.out _ _);have h2i:(2:Nat)^i<=2^5:=Nat.pow_le_pow_right (by decide) (by omega);obtain⟨z,hz⟩:∃z,z=bt*2^i:=⟨_,rfl⟩;have hz1:bt*2^i<=1*2^i:=Nat.mul_le_mul_right _ hb1;have hz256:z<256:=by omega
   have HNX:Hid (m+z=Za7 f P (i+1)):=by show m+z=Za7 f P i+f (P+i)*2^i;rw[<- HMm.out,hz,hbt,hT1]
   have q1:(P:Int)+(i:Int)=(T1:Int):=(by omega);have q2:(T1:Int).tdiv 8=(J:Int):=(by rw[Int.tdiv_eq_ediv_of_nonneg (by omega)];omega);have q3:(T1:Int)/8=(J:Int):=(by omega);have q4:(T1:Int).tmod 8=(R:Int):=(by rw[Int.tmod_eq_emod_of_nonneg (by omega)];omega);have q5:(T1:Int)%8=(R:Int):=by omega
   have q6:bits BinOp.and IntKind.u8 ((y:Int)/2^R) 1=(bt:Int):=(by have e:((y:Int)/2^R)=((y/2^R:Nat):Int):=(by simp);rw[e];have h1:=(Zll (y/2^R) 1 (Nat.lt_of_le_of_lt (Nat.div_le_self _ _) hy256) (by decide)).1;rw[ZmM] at h1;rw[show((1:Nat):Int)=1 from rfl] at h1;rw[h1,hbit]);have q7:IntKind.i64.wrap (T1:Int)=(T1:Int):=ZA (by omega) (by omega);have q8:IntKind.i64.wrap (J:Int)=(J:Int):=ZA (by omega) (by omega);have q9:IntKind.i64.wrap ((bt:Int)*2^i)=(z:Int):=(by have e:((bt:Int)*2^i)=(z:Int):=(by rw[hz];simp);rw[e];exact ZA (by omega) (by omega));have q10:bits BinOp.or IntKind.i64 (m:Int) (z:Int)=((m+z:Nat):Int):=by rw[Zqo m z (by omega) hz256,hz,Zl3 hm2]
   obtain⟨u,hu⟩:∃u,u=m+z:=⟨_,rfl⟩;rw[<- hu] at q10 HNX;have br1:(0:Int)<=(R:Int):=(by omega);have br2:(R:Int)<=8:=(by omega);have bi1:(0:Int)<=(i:Int):=(by omega);have bi2:(i:Int)<(d:Int):=(by omega);have bi3:(i:Int)<=64:=(by omega);have bj1:(0:Int)<=(J:Int):=(by omega);have bj2:(J:Int)<(nb:Int):=(by omega);clear hz1 hbit hm2 h2i hz hu hy hbt hJ hR hT1 hbk cf HMm hq';go_wp2;go_roundw;case rel=>exact⟨i+1,u,rfl,by go_num,by omega,HNX,True.intro⟩
   case measure=>simp[intOf];omega
  have hnd:¬(i:Int)<(d:Int):=(by omega);have hid2:i=d:=(by omega);have HF2:Hid (m=Za7 f P d):=(by rw[<- hid2];exact HMm);clear hid2 HMm;go_wp2;go_ret;rw[<- HF2.out];exact⟨rfl,HB2.out⟩
structure Zbf(D:YY)(f bi p:Nat):Prop where
 hb:bi<D.bs.length
 hp:p<(D.bs.getD bi ZB).fs.length
 at_:(D.bs.getD bi ZB).fs.getD p 0=f
 no:∀i j,i<=bi->j<(D.bs.getD i ZB).fs.length->(i<bi∨j<p)->(D.bs.getD i ZB).fs.getD j 0≠f
 fl:∀i,i<=bi->(D.bs.getD i ZB).fs.length<=100
 fk:∀i j,i<=bi->j<(D.bs.getD i ZB).fs.length->(D.bs.getD i ZB).fs.getD j 0<D.ks.length
 mn:∀i,i<D.ks.length->(D.ks.getD i Zq).many<=100
def Y6(D:YY)(i j:Nat):Nat:=1+Qp D.ks ((D.bs.getD i ZB).fs.take j)
theorem Zjq(Ks:List KS):∀fs:List Nat,(∀f∈fs,(Ks.getD f Zq).many<=100)->Qp Ks fs<=100*fs.length
 |[],_=>by simp[Qp]
 |f::fs,h=>by have h1:=Zjq Ks fs (fun x hx=>h x (by simp[hx]));have h2:=h f (by simp);unfold Qp at h1 ⊢;simp only[List.map_cons,List.sum_cons,List.length_cons];omega
theorem ZeI(db f bi p:Nat)(vK vB vX:Value)(kvs bvs:List (Value×Value))(X:List XS)(D:YY)(w:World)(h:Y7 w db vK vB vX kvs bvs X D)(hs:Zbf D f bi p)(hbl:D.bs.length<=1000):Calls Tryz.prog 145 #[.pointer (some ⟨db,0,none⟩),.int .i64 (f:Nat)] w fun e w'=>e=.returned (.tuple #[.agg #[(bvs.getD bi vv0).1,(bvs.getD bi vv0).2],.int .i64 (Y6 D bi p:Nat)])/\Below w.heap.size w w':=by
 have HM:Hid (Y7 w db vK vB vX kvs bvs X D):=h;have HS:Hid (Zbf D f bi p):=hs;obtain⟨qb,cB,hvB,hqbl,_,_⟩:=h.ds.bn.at (i:=0) (by have:=hs.hb;omega);subst hvB;have hkpos:0<D.ks.length:=(by have:=hs.fk bi p (Qa _) hs.hp;omega);obtain⟨qk,cK,_,_,_,_,hvK,hqkl,_⟩:=h.kn.at (i:=0) hkpos;subst hvK;have d1:w.cell? ⟨db,1,none⟩=some (.slice (some ⟨qb,0,none⟩) D.bs.length cB):=cell_of_row _ _ 1 _ 168 (0,0) h.ds.blk;have d0:w.cell? ⟨db,0,none⟩=some (.slice (some ⟨qk,0,none⟩) D.ks.length cK):=cell_of_row _ _ 0 _ 168 (0,0) h.ds.blk;have hdl:db<w.heap.size:=(Qb h.ds.blk).1;clear h hs;generalize hnb:D.bs.length=nb at *;generalize hnk:D.ks.length=nk at *;have HN:Hid (D.bs.length=nb/\D.ks.length=nk):=⟨hnb,hnk⟩;clear hnb hnk;go_enter Tryz.func145,Tryz.ntmps145;go_wp2_with fail
 go_loopw [13] (fun ti wr=>∃(i:Nat) (u0 u1:Value),ti=.int .i64 i/\i<=bi/\Hid (wr.heap[w.heap.size]? =some (.cells #[u0,u1] 163 (0,0))/\Below w.heap.size w wr)) (fun ti _=>nb-(intOf ti).toNat)
 case atStart=>exact⟨0,.slice none 0 0,.nilIface,rfl,Qg _,heap_alloc_new _ _,(Below.refl _ _).alloc (Qa _) _⟩
 case round=>
  obtain⟨i,u0,u1,rfl,hib,HR⟩:=hrel;have hin:i<nb:=(by have:=HS.out.hb;have:=HN.out.1;omega);have hiL:i<D.bs.length:=(by rw[HN.out.1];exact hin);obtain⟨q',c',hv',hql,k0,k1⟩:=HM.out.ds.bn.at hiL;have hqq:q'=qb:=(by injection hv' with h1;injection h1 with h1;injection h1 with h1 _;exact h1.symm);subst hqq;obtain⟨hI,hcol⟩:=HM.out.ds.bn.each i hiL;obtain⟨fa,fcc,hvf⟩:=hI.shape;obtain⟨ct,cp,hvc⟩:=hcol.iface;rw[ZI] at hvf;rw[hvf] at k0 hI;rw[hvc] at k1;have HVF:Hid ((bvs.getD i vv0).1=.slice fa (D.bs.getD i ZB).fs.length fcc/\(bvs.getD i vv0).2=.iface ct (.pointer (some ⟨cp,0,none⟩))):=⟨hvf,hvc⟩;have e0:=(HR.out.2.cell (p:=⟨q',i*2,none⟩) hql).trans k0;have e1:=(HR.out.2.cell (p:=⟨q',i*2+1,none⟩) hql).trans k1
  have r0:wr.cell? ⟨w.heap.size,0,none⟩=some u0:=cell_of_row _ _ 0 _ 163 (0,0) HR.out.1;have r1:wr.cell? ⟨w.heap.size,1,none⟩=some u1:=cell_of_row _ _ 1 _ 163 (0,0) HR.out.1;have f0:wr.frozen? ⟨w.heap.size,0,none⟩=false:=frozen_of_row _ _ 0 _ 163 HR.out.1;have f1:wr.frozen? ⟨w.heap.size,1,none⟩=false:=frozen_of_row _ _ 1 _ 163 HR.out.1;have HI:Hid (Zc w 0 (.slice fa (D.bs.getD i ZB).fs.length fcc) (ZD (D.bs.getD i ZB).fs)):=hI;have HFL:=HS.out.fl i hib;have bi1:(0:Int)<=(i:Int):=(by omega);have bi2:(i:Int)<(nb:Int):=(by omega);clear hvf hvc hI hcol k0 k1 hv';generalize hnf:(D.bs.getD i ZB).fs.length=nf at *;have HNF:Hid ((D.bs.getD i ZB).fs.length=nf):=hnf;clear hnf
  have HW2:Hid (((wr.setCell ⟨w.heap.size,0,none⟩ (.slice fa nf fcc)).setCell ⟨w.heap.size,1,none⟩ (.iface ct (.pointer (some ⟨cp,0,none⟩)))).heap[w.heap.size]? =some (.cells #[.slice fa nf fcc,.iface ct (.pointer (some ⟨cp,0,none⟩))] 163 (0,0))/\Below w.heap.size w ((wr.setCell ⟨w.heap.size,0,none⟩ (.slice fa nf fcc)).setCell ⟨w.heap.size,1,none⟩ (.iface ct (.pointer (some ⟨cp,0,none⟩))))):=
   ⟨heap_setCell_same _ _ 1 _ 163 _ (heap_setCell_same _ _ 0 _ 163 _ HR.out.1),(HR.out.2.setCell (Qa w.heap.size) _).setCell (Qa w.heap.size) _⟩
  go_upto_region 4 with fail;generalize (wr.setCell ⟨w.heap.size,0,none⟩ (.slice fa nf fcc)).setCell ⟨w.heap.size,1,none⟩ (.iface ct (.pointer (some ⟨cp,0,none⟩)))=w2 at *;clear r0 r1 f0 f1 e0 e1 HR;have s0:w2.cell? ⟨w.heap.size,0,none⟩=some (.slice fa nf fcc):=cell_of_row _ _ 0 _ 163 (0,0) HW2.out.1;go_wp2_with fail
  obtain⟨wl,hwl⟩:∃wl,wl=wr:=⟨wr,rfl⟩;subst hwl;go_loopw [5,20] (fun tof tj wr=>∃(j:Nat),tof=.int .i64 (Y6 D i j:Nat)/\tj=.int .i64 j/\j<=nf/\(i=bi->j<=p)/\Hid (wr.heap[w.heap.size]? =some (.cells #[.slice fa nf fcc,.iface ct (.pointer (some ⟨cp,0,none⟩))] 163 (0,0))/\Below w.heap.size w wr)) (fun _ tj _=>nf-(intOf tj).toNat)
  case atStart=>exact⟨0,rfl,rfl,Qg _,fun _=>Qg _,HW2.out⟩
  case round=>
   clear HW2 s0;obtain⟨j,rfl,rfl,hj,hjp,HR⟩:=hrel;have r0:wr.cell? ⟨w.heap.size,0,none⟩=some (.slice fa nf fcc):=cell_of_row _ _ 0 _ 163 (0,0) HR.out.1;have r1:wr.cell? ⟨w.heap.size,1,none⟩=some (.iface ct (.pointer (some ⟨cp,0,none⟩))):=cell_of_row _ _ 1 _ 163 (0,0) HR.out.1;have f0:wr.frozen? ⟨w.heap.size,0,none⟩=false:=frozen_of_row _ _ 0 _ 163 HR.out.1;have f1:wr.frozen? ⟨w.heap.size,1,none⟩=false:=frozen_of_row _ _ 1 _ 163 HR.out.1;have hsz:=HR.out.2.size
   have hoff:Y6 D i j<=10001:=by
    have h1:=Zjq D.ks ((D.bs.getD i ZB).fs.take j) (fun x hx=>by
     obtain⟨y,hy,rfl⟩:=List.getElem_of_mem hx;have hy2:y<(D.bs.getD i ZB).fs.length:=(by rw[List.length_take] at hy;omega);have h2:=HS.out.fk i y hib hy2;have h3:(D.bs.getD i ZB).fs.getD y 0=((D.bs.getD i ZB).fs.take j)[y]:=(by rw[List.getD,Qd hy2,List.getElem_take];rfl);rw[h3] at h2
     exact HS.out.mn _ h2)
    have h4:((D.bs.getD i ZB).fs.take j).length<=100:=(by rw[List.length_take];have:=HNF.out;omega);unfold Y6;omega
   by_cases hjn:j<nf
   ·have hjL:j<(D.bs.getD i ZB).fs.length:=(by rw[HNF.out];exact hjn);have hIw:Zc wr 0 (.slice fa nf fcc) (ZD (D.bs.getD i ZB).fs):=HI.out.below HR.out.2;obtain⟨qf,hqf,hqfl,_,y0,_⟩:=hIw.atK (by rw[ZI];exact HNF.out) hjn;rw[Yu] at y0;subst hqf;have hfk:=HS.out.fk i j hib hjL;rw[HN.out.2] at hfk
    have HNX:Hid (Y6 D i (j+1)=Y6 D i j+(D.ks.getD ((D.bs.getD i ZB).fs.getD j 0) Zq).many):=by
     show 1+Qp D.ks ((D.bs.getD i ZB).fs.take (j+1))=1+Qp D.ks ((D.bs.getD i ZB).fs.take j)+_
     have key:∀(B:List Nat),j<B.length->B.take (j+1)=B.take j++[B.getD j 0]:=fun B hB=>by rw[Qi hB];simp[List.getD,hB]
     have this:=key _ hjL;rw[this,ZiE];omega
    have bj1:(0:Int)<=(j:Int):=(by omega);have bj2:(j:Int)<(nf:Int):=by omega
    by_cases hgf:(D.bs.getD i ZB).fs.getD j 0=f
    ·have hibi:i=bi:=by
      by_cases e:i=bi
      exact e;exact absurd hgf (HS.out.no i j hib hjL (.inl (by omega)))
     have hjp2:j=p:=by
      have h1:=hjp hibi
      by_cases e:j=p
      exact e;exact absurd hgf (HS.out.no i j hib hjL (.inr (by omega)))
     have hgI:(((D.bs.getD i ZB).fs.getD j 0:Nat):Int)=(f:Int):=(by rw[hgf]);rw[hgI] at y0;have HFIN:Hid ((.agg #[(bvs.getD bi vv0).1,(bvs.getD bi vv0).2]:Value)=.agg #[.slice (some ⟨qf,0,none⟩) nf fcc,.iface ct (.pointer (some ⟨cp,0,none⟩))]/\Y6 D bi p=Y6 D i j):=by rw[<- hibi,<- hjp2];exact⟨by rw[HVF.out.1,HVF.out.2],rfl⟩
     have HB:Hid (Below w.heap.size w ((wr.setCell ⟨w.heap.size,0,none⟩ (.slice (some ⟨qf,0,none⟩) nf fcc)).setCell ⟨w.heap.size,1,none⟩ (.iface ct (.pointer (some ⟨cp,0,none⟩))))):=(HR.out.2.setCell (Qa w.heap.size) _).setCell (Qa w.heap.size) _;clear hgf hgI hibi hjp2 hjp hfk HNX hIw;generalize Y6 D i j=oo at *;go_wp2;refine bodyPost_ret (v:=.tuple #[.agg #[.slice (some ⟨qf,0,none⟩) nf fcc,.iface ct (.pointer (some ⟨cp,0,none⟩))],.int .i64 (oo:Nat)]) (by simp[results,Tryz.results145,go_sem, *]) rfl ?_;rw[HFIN.out.1,HFIN.out.2];exact⟨rfl,HB.out⟩
    have hne:((((D.bs.getD i ZB).fs.getD j 0:Nat):Int)==(f:Int))=false:=beq_eq_false_iff_ne.2 (fun e=>hgf (by omega));have hgL:(D.bs.getD i ZB).fs.getD j 0<D.ks.length:=(by rw[HN.out.2];exact hfk);have hmn:=HS.out.mn _ hgL;obtain⟨ab,cb,aw,cw,_,k0,k1,k2,_,_,_⟩:=HM.out.kn.at2 (i:=(D.bs.getD i ZB).fs.getD j 0) hgL
    have hjp3:i=bi->j+1<=p:=fun e=>by
     have h1:=hjp e
     by_cases e2:j=p
     subst e2;subst e;exact absurd HS.out.at_ hgf;omega
    generalize (D.bs.getD i ZB).fs.getD j 0=g at *;have e0:=(HR.out.2.cell (p:=⟨qk,g*4,none⟩) hqkl).trans k0;have e1:=(HR.out.2.cell (p:=⟨qk,g*4+1,none⟩) hqkl).trans k1;have e2:=(HR.out.2.cell (p:=⟨qk,g*4+2,none⟩) hqkl).trans k2;have d0w:=(HR.out.2.cell (p:=⟨db,0,none⟩) hdl).trans d0;have HMN:=KS.many_eq (D.ks.getD g Zq)
    have HHM:Hid (∀W:World,Calls Tryz.prog 146 #[.agg #[.bool (D.ks.getD g Zq).e.wd,.slice ab (D.ks.getD g Zq).e.bs.length cb,.slice aw (D.ks.getD g Zq).e.ww.length cw]] W fun e w'=>e=.returned (.int .i64 (((D.ks.getD g Zq).many:Nat):Int))/\Below W.heap.size W w'):=fun W=>by rw[<- HMN];exact YE _ ab aw _ cb _ cw W (by unfold KS.many ES.cnt at hmn;omega)
    clear HMN k0 k1 k2 hIw hgf hjp;generalize D.ks.getD g Zq=Kg at *;generalize Kg.e.wd=kwd at *;generalize Kg.e.bs.length=knb at *;generalize Kg.e.ww.length=knw at *;generalize Kg.many=km at *;generalize Y6 D i j=oo at *;have bg1:(0:Int)<=(g:Int):=(by omega);have bg2:(g:Int)<(nk:Int):=(by omega);go_wp2_with fail
    refine(HHM.out _).mono ?_;rintro e w5 ⟨rfl,hb5⟩;have hb5':=hb5;have HN5:Hid (w5.heap[w.heap.size]? =some (.cells #[.slice (some ⟨qf,0,none⟩) nf fcc,.iface ct (.pointer (some ⟨cp,0,none⟩))] 163 (0,0))/\Below w.heap.size w w5):=⟨(hb5.block _ (Qb HR.out.1).1).trans HR.out.1,HR.out.2.trans (hb5.mono hsz)⟩;clear hb5 hb5' HR r0 r1 f0 f1 e0 e1 e2 d0w HHM y0;go_wp2;go_roundw;case rel=>exact⟨j+1,by rw[HNX.out];go_num,by go_num,by omega,hjp3,HN5⟩
    case measure=>simp[intOf];omega
   have hnj:¬(j:Int)<(nf:Int):=by omega
   have hibi:i<bi:=by
    by_cases e:i=bi
    have h1:=hjp e;have h2:=HS.out.hp;rw[<- e,HNF.out] at h2;omega;omega
   have HB':Hid _:=HR;clear r0 r1 f0 f1;go_wp2;go_roundw;case rel=>exact⟨i+1,_,_,by go_num,by omega,HB'⟩
   case measure=>simp[intOf];omega
theorem ZnW(db f bi p row:Nat)(vK vB vX:Value)(kvs bvs:List (Value×Value))(X:List XS)(D:YY)(w:World)(h:Y7 w db vK vB vX kvs bvs X D)(hs:Zbf D f bi p)(hbl:D.bs.length<=1000)(hden:¬4*nzN (D.bs.getD bi ZB).N<(D.bs.getD bi ZB).N.length)(hrow:row<(D.bs.getD bi ZB).N.length)(hnl:(D.bs.getD bi ZB).N.length<=200)(hd:Lib.bitLen (D.bs.getD bi ZB).g<=6)(hN:(D.bs.getD bi ZB).N.getD row 0<2^Lib.bitLen (D.bs.getD bi ZB).g)(hin1:Y6 D bi p<=(D.bs.getD bi ZB).N.getD row 0)(hin2:(D.bs.getD bi ZB).N.getD row 0<Y6 D bi p+(D.ks.getD f Zq).many):Calls Tryz.prog 78 #[.pointer (some ⟨db,0,none⟩),.int .i64 (row:Nat),.int .i64 (f:Nat)] w fun e w'=>e=.returned (.int .i64 ((D.bs.getD bi ZB).N.getD row 0-Y6 D bi p:Nat))/\Below w.heap.size w w':=by
 have HM:Hid (Y7 w db vK vB vX kvs bvs X D):=h;have HSE:=ZeI db f bi p vK vB vX kvs bvs X D w h hs hbl;obtain⟨hI,hcol⟩:=h.ds.bn.each bi hs.hb;obtain⟨fa,fcc,hvf⟩:=hI.shape;have hfk:=hs.fk bi p (Qa _) hs.hp;rw[hs.at_] at hfk;have hmn:=hs.mn f hfk;obtain⟨qk,cK,ab,cb,aw,cw,hvK,hqkl,k0,k1,k2,_⟩:=h.kn.at hfk;subst hvK;have d0:w.cell? ⟨db,0,none⟩=some (.slice (some ⟨qk,0,none⟩) D.ks.length cK):=cell_of_row _ _ 0 _ 168 (0,0) h.ds.blk;have hdl:db<w.heap.size:=(Qb h.ds.blk).1
 rcases hcol with⟨h1,_⟩|⟨_,pp,e,dd,q,e2,_,hX⟩
 exact absurd h1 hden;rw[hvf,e,e2] at HSE;have hmul:row*Lib.bitLen (D.bs.getD bi ZB).g+Lib.bitLen (D.bs.getD bi ZB).g<=(D.bs.getD bi ZB).N.length*Lib.bitLen (D.bs.getD bi ZB).g:=(by rw[<- Nat.succ_mul];exact Nat.mul_le_mul_right _ hrow);have hmul2:(D.bs.getD bi ZB).N.length*Lib.bitLen (D.bs.getD bi ZB).g<=200*6:=Nat.mul_le_mul hnl hd
 have HAT:Hid (∀W:World,Below w.heap.size w W->Calls Tryz.prog 323 #[.pointer (some ⟨dd,0,none⟩),.int .i64 (row:Nat)] W fun e w'=>e=.returned (.int .i64 ((D.bs.getD bi ZB).N.getD row 0:Nat))/\Below W.heap.size W w'):=fun W hW=>by have hX':Zal W 0 dd q (D.bs.getD bi ZB).N.length (Lib.bitLen (D.bs.getD bi ZB).g) (ZO (YD (D.bs.getD bi ZB).N (Lib.bitLen (D.bs.getD bi ZB).g)) (((D.bs.getD bi ZB).N.length*Lib.bitLen (D.bs.getD bi ZB).g+7)/8) ((D.bs.getD bi ZB).N.length*Lib.bitLen (D.bs.getD bi ZB).g)):=⟨(hW.block _ (Qb hX.blk).1).trans hX.blk,(Za.of_below (S:=fun _=>False) hW).row hX.row (fun _ _=>id)⟩;have h1:=ZaN dd q _ _ _ _ row _ W hX' (fun t=>Zbi _ _ t) hd hmul (by omega) (by omega);rw[Zh3 _ hN] at h1;exact h1
 have HMN:=KS.many_eq (D.ks.getD f Zq)
 have HHM:Hid (∀W:World,Calls Tryz.prog 146 #[.agg #[.bool (D.ks.getD f Zq).e.wd,.slice ab (D.ks.getD f Zq).e.bs.length cb,.slice aw (D.ks.getD f Zq).e.ww.length cw]] W fun e w'=>e=.returned (.int .i64 (((D.ks.getD f Zq).many:Nat):Int))/\Below W.heap.size W w'):=fun W=>by rw[<- HMN];exact YE _ ab aw _ cb _ cw W (by unfold KS.many ES.cnt at hmn;omega)
 have hx64:(D.bs.getD bi ZB).N.getD row 0<64:=Qh hN (Nat.pow_le_pow_right (by decide) hd);clear HMN hmul hmul2 hX e e2 hvf hI hden hN hd hnl hrow hs h;generalize (D.bs.getD bi ZB).N.getD row 0=x at *;generalize Y6 D bi p=off at *;generalize (ZD (D.bs.getD bi ZB).fs).length=nf at *;generalize D.ks.getD f Zq=Kf at *;generalize Kf.e.wd=kwd at *;generalize Kf.e.bs.length=knb at *;generalize Kf.e.ww.length=knw at *;generalize Kf.many=km at *;generalize hnk:D.ks.length=nk at *;clear hnk
 have hme:∀W:World,(method 535 382 (.pointer (some ⟨dd,0,none⟩)) "At").run Tryz.prog W=.ok (323,.pointer (some ⟨dd,0,none⟩)) W:=fun W=>by kernel_rfl
 go_enter Tryz.func78,Tryz.ntmps78;go_wp2_with fail
 refine HSE.mono ?_;rintro e w2 ⟨rfl,hb2⟩;have HB2:Hid (Below w.heap.size w w2):=hb2;clear hb2 HSE;go_wp2_with fail
 refine(HAT.out _ (HB2.out.alloc HB2.out.size _)).mono ?_;rintro e w3 ⟨rfl,hb3⟩;have HB3:Hid (Below w.heap.size w w3):=(HB2.out.alloc HB2.out.size _).trans (hb3.mono (by have:=HB2.out.size;simp;omega));have d0w:=(HB3.out.cell (p:=⟨db,0,none⟩) hdl).trans d0;have e0:=(HB3.out.cell (p:=⟨qk,f*4,none⟩) hqkl).trans k0;have e1:=(HB3.out.cell (p:=⟨qk,f*4+1,none⟩) hqkl).trans k1;have e2:=(HB3.out.cell (p:=⟨qk,f*4+2,none⟩) hqkl).trans k2;obtain⟨bn,hbn⟩:∃bn,bn=x-off:=⟨_,rfl⟩;have q1:(x:Int)-(off:Int)=(bn:Int):=(by omega);have q2:IntKind.i64.wrap (bn:Int)=(bn:Int):=ZA (by omega) (by omega);have q3:(0:Int)<=(bn:Int):=(by omega);have q4:(bn:Int)<(km:Int):=(by omega);have bf1:(0:Int)<=(f:Int):=(by omega);have bf2:(f:Int)<(nk:Int):=(by omega);have HBN:Hid (bn=x-off):=hbn
 clear hb3 hbn HB2;go_wp2_with fail
 refine(HHM.out _).mono ?_;rintro e w4 ⟨rfl,hb4⟩;have HB4:Hid (Below w.heap.size w w4):=HB3.out.trans (hb4.mono HB3.out.size);clear hb4;go_wp2;go_ret;rw[<- HBN.out];exact⟨rfl,HB4.out⟩
theorem YL.below{w w':World}{gb db:Nat}{D:YY}(h:YL w gb db D)(hb:Below w.heap.size w w'):YL w' gb db D:=by obtain⟨vK,vB,vX,kvs,bvs,X,hX⟩:=h.md;exact⟨(hb.block gb (Qb h.gp).1).trans h.gp,vK,vB,vX,kvs,bvs,X,hX.ds.below hb,hX.kn.below hb,hX.perm,hX.sorted⟩
theorem Zfo(gb db f row:Nat)(D:YY)(x:Nat)(w:World)(h:YL w gb db D)(h0:0<D.bs.length)(hk:D.ks.length<=1000)(hr:row<(D.bs.getD 0 ZB).N.length)(hrl:(D.bs.getD 0 ZB).N.length<=1000)(hf:f<D.ks.length)(HL:∀W:World,YL W gb db D->Calls Tryz.prog 78 #[.pointer (some ⟨db,0,none⟩),.int .i64 (row:Nat),.int .i64 (f:Nat)] W fun e w'=>e=.returned (.int .i64 (x:Nat))/\Below W.heap.size W w'):Calls Tryz.prog 44 #[.pointer (some ⟨gb,0,none⟩),.int .i64 (row:Nat),.int .i64 (f:Nat)] w fun e w'=>e=.returned (.tuple #[.int .i64 (x:Nat),.int .i64 0])/\Below w.heap.size w w':=by
 have g0:w.cell? ⟨gb,0,none⟩=some (.pointer (some ⟨db,0,none⟩)):=cell_of_row _ _ 0 _ 110 (0,0) h.gp;have hgl:gb<w.heap.size:=(Qb h.gp).1;have HO:Hid (YL w gb db D):=h;have HLK:Hid (∀W:World,YL W gb db D->Calls Tryz.prog 78 #[.pointer (some ⟨db,0,none⟩),.int .i64 (row:Nat),.int .i64 (f:Nat)] W fun e w'=>e=.returned (.int .i64 (x:Nat))/\Below W.heap.size W w'):=HL
 have HHF:Hid (∀W:World,YL W gb db D->Calls Tryz.prog 52 #[.pointer (some ⟨gb,0,none⟩),.int .i64 (f:Nat)] W fun e w'=>e=.returned (.bool true)/\w'=W):=fun W hW=>by have h1:=ZcM gb db D (f:Int) W hW hk;have h2:decide (0<=(f:Int)/\(f:Int)<=(D.ks.length:Int)-1)=true:=(by simp;omega);rw[h2] at h1;exact h1
 obtain⟨vK,vB,vX,kvs,bvs,X,hX⟩:=h.md;have HR:=Zbl db vK vB vX bvs D.bs X w hX.ds h0;clear h hX HL hk hf;generalize (D.bs.getD 0 ZB).N.length=nr at *;have br1:(0:Int)<=(row:Int):=(by omega);have br2:(row:Int)<=(nr:Int)-1:=(by omega);go_enter Tryz.func44,Tryz.ntmps44;go_wp2_with fail
 refine HR.mono ?_;rintro e w2 ⟨rfl,hb2⟩;have HB2:Hid (Below w.heap.size w w2):=hb2;have c0:=(hb2.cell (p:=⟨gb,0,none⟩) hgl).trans g0;clear hb2 HR;go_wp2_with fail
 refine(Zmx _ _ _ _ ⟨br1,br2⟩).mono ?_;rintro e w6 ⟨rfl,hw6⟩;obtain rfl:=hw6.symm;go_wp2_with fail
 refine(HHF.out _ (HO.out.below HB2.out)).mono ?_;rintro e w3 ⟨rfl,hw3⟩;obtain rfl:=hw3.symm;go_wp2_with fail
 refine(HLK.out _ (HO.out.below HB2.out)).mono ?_;rintro e w4 ⟨rfl,hb4⟩;have HB4:Hid (Below w.heap.size w w4):=HB2.out.trans (hb4.mono HB2.out.size);clear hb4;go_wp2;go_ret2
 exact⟨rfl,HB4.out⟩
theorem ZiK.start{w:World}{base ib tb fb rb cb n:Nat}{wd:Nat->Bool}{sc ct:Nat->Int}{bins size budget:Int}(h:ZiK w base ib tb fb rb cb n wd sc ct bins size budget):∃K M,InX w K M ib tb rb fb cb n wd sc ct bins size budget RS.start 0/\(∀k,M k->base<=k)/\base<=ib/\base<=tb:=by
 have hrb:=h.tx.rd;unfold RB at hrb;refine⟨fun k=>base<=k/\∃cur ty,w.heap[k]? =some (.cells cur ty (0,0))/\(ty=3∨ty=261∨ty=263),fun k=>k=rb∨k=cb,⟨h.ik,h.tx.tx,⟨.slice none 0 0,.slice none 0 0,.slice none 0 0,fun _=>.slice none 0 0,?_⟩,?_,?_⟩,?_,h.lo,h.tx.lo.1⟩
 ·refine⟨h.tx.rd,World.ownsRow_nil _ _ _ _,World.ownsRow_nil _ _ _ _,World.ownsRow_nil _ _ _ _,⟨_,h.tx.cl,?_,fun i hi=>?_⟩,fun _ _=>World.ownsRow_nil _ _ _ _,ZdW.of_made _ h.tx.fs ⟨h.tx.lo.2.1,?_⟩ (fun k cur ty hk hc ht=>⟨hk,cur,ty,hc,by rcases ht with e|e;exact .inl e;exact .inr (.inl e)⟩),fun _ _ _ _ _=>.inl rfl,fun _ _=>.inl rfl,.inl rfl,.inr rfl,?_,?_,?_,?_,?_,?_⟩;simp[madeCells];rw[<- Array.getElem?_toList,ZcP];exact List.getElem?_replicate_of_lt hi;obtain⟨cur,h1,_⟩:=h.tx.fs;exact⟨cur,263,h1,.inr (.inr rfl)⟩;intro k hk;simp[Value.ownBlock] at hk;intro k hk;simp[Value.ownBlock] at hk;intro k hk;simp[Value.ownBlock] at hk;intro i k _ hk;simp[Value.ownBlock] at hk
  ·rintro k ⟨_,cur,ty,hc,ht⟩;refine⟨(Qb hc).1,?_⟩;rintro(e|e)
   ·rw[e,hrb] at hc;rcases ht with e2|e2|e2<;>(subst e2;simp at hc)
   rw[e,h.tx.cl] at hc;rcases ht with e2|e2|e2<;>(subst e2;simp at hc)
  rintro k (e|e);rw[e];exact(Qb hrb).1;rw[e];exact(Qb h.tx.cl).1
 ·refine⟨?_,?_⟩
  ·rintro⟨_,cur,ty,hc,ht⟩
   rw[h.ik] at hc;rcases ht with e2|e2|e2<;>(subst e2;simp at hc)
  rintro(e|e);have:=h.ik;rw[e,hrb] at this;simp at this;have:=h.ik;rw[e,h.tx.cl] at this;simp at this
 ·refine⟨?_,?_⟩
  ·rintro⟨_,cur,ty,hc,ht⟩
   rw[h.tx.tx] at hc;rcases ht with e2|e2|e2<;>(subst e2;simp at hc)
  rintro(e|e);have:=h.tx.tx;rw[e,hrb] at this;simp at this;have:=h.tx.tx;rw[e,h.tx.cl] at this;simp at this
 rintro k (e|e);rw[e];exact h.tx.lo.2.2.1;rw[e];exact h.tx.lo.2.2.2
theorem Zeb{n:Nat}{wd:Nat->Bool}{sc:Nat->Int}:∀(l:List Int) (s:RS) (k:Nat) {z:Int} {p:Nat},Zi n wd sc s l k=.error (z,p)->z=2∨z=3
 |[],s,k,z,p,h=>by cases h
 | c::r,s,k,z,p,h=>by
  unfold Zi at h
  cases ht:Yv n wd sc s c with
  |error y=>rw[ht] at h;injection h with h;injection h with h1 h2;rw[<- h1];exact Ziz ht
  |ok s1=>rw[ht] at h;exact Zeb r s1 (k+1) h
theorem ZY(b:ByteArray):(Zb b).length=b.size:=by unfold Zb;rw[List.length_map];rfl
theorem QH(b:ByteArray)(i j:Nat):Zb (b.extract i j)=((Zb b).take j).drop i:=by unfold Zb;rw[ByteArray.data_extract,Array.toList_extract,<- List.map_take,<- List.map_drop];congr 1;rw[List.extract_eq_take_drop,List.drop_take]
structure Q6(lw:List VS->List Int->Int->Int->ES)(m:Nat)(wd:Nat->Bool)(ct:Nat->Int)(bins:Int)(size:Nat)(s:RS):Prop where
 wok:(∃i,i<m+1/\wd i=true)->ZoS lw
 ok:∀i,i<m+1->ZdF (ZT lw (wd i) (ct i) bins size (s.cols i) s.ws)/\(ZT lw (wd i) (ct i) bins size (s.cols i) s.ws).wd=wd i/\(ZT lw (wd i) (ct i) bins size (s.cols i) s.ws).cnt<=16
 num:∀i,i<m+1->∀v∈s.cols i,(-1000000000<=v.num/\v.num<=1000000000)/\v.word.size<=8
 ws:∀z∈s.ws,0<=z/\z<=99
def Zrf(lw:List VS->List Int->Int->Int->ES)(m:Nat)(wd:Nat->Bool)(ct:Nat->Int)(bins:Int)(size budget len:Nat)(o:Except (Int×Nat) RS)(e:Ending)(w':World):Prop:=
 match o with
 |.error (z,p)=>e=.returned (.tuple #[.pointer none,.int .i64 z,.int .i64 (p:Nat)])
 |.ok s=>(s.wt≠0/\e=.returned (.tuple #[.pointer none,.int .i64 2,.int .i64 (len:Nat)]))∨
   (s.wt=0/\∃gb db,e=.returned (.tuple #[.pointer (some ⟨gb,0,none⟩),.int .i64 0,.int .i64 0])/\YL w' gb db (ZH m s.ws.length budget ((List.range (m+1)).map (fun i=>ZT lw (wd i) (ct i) bins size (s.cols i) s.ws)) ((List.range (m+1)).map (fun i=>(s.cols i).map (YM (ZT lw (wd i) (ct i) bins size (s.cols i) s.ws))))))
def ZoP(base:Nat)(K:Nat->Prop)(ib tb rb fb cb n:Nat)(wd:Nat->Bool)(sc ct:Nat->Int)(bins size budget:Int)(len:Nat)(o:Except (Int×Nat) RS)(w:World):Prop:=
 match o with
 |.error (z,p)=>Zjz w ib false z (p:Nat)/\(z=2∨z=3)
 |.ok s=>∃M,InX w K M ib tb rb fb cb n wd sc ct bins size budget s len/\∀q,M q->base<=q
def Zsb:Value->Nat
 |.string b=>b.size
 |_=>0
section
variable {w wr:World} {K:Nat->Prop} {ib tb rb fb cb m:Nat} {wd:Nat->Bool} {sc ct:Nat->Int} {bins:Int} {size budget:Nat}
theorem ZnF(b r:ByteArray)(k n base:Nat)(hr:Zb r=(Zb b).drop k)(hrs:r.size=b.size-k)(hk:k<=b.size)(hn:n<=r.size)(hb:b.size<=200000000000000)(hm:m+1<=4)(hsc:∀i,i<m+1->wd i=false->0<=sc i/\sc i<=3)(hbs:base<=wr.heap.size)(hib:base<=ib/\base<=tb)(hF:ZoP base K ib tb rb fb cb (m+1) wd sc ct bins size budget k (Zi (m+1) wd sc RS.start ((Zb b).take k) 0) wr):Calls Tryz.prog 32 #[.pointer (some ⟨ib,0,none⟩),.string (r.extract 0 n)] wr fun e w'=>e=.returned (.tuple #[.int .i64 (Yo (Zi (m+1) wd sc RS.start ((Zb b).take (k+n)) 0)).1,.int .i64 (Yo (Zi (m+1) wd sc RS.start ((Zb b).take (k+n)) 0)).2])/\ZoP base K ib tb rb fb cb (m+1) wd sc ct bins size budget (k+n) (Zi (m+1) wd sc RS.start ((Zb b).take (k+n)) 0) w'/\Below base wr w':=by
 have hp:Zb (r.extract 0 n)=((Zb b).drop k).take n:=(by rw[QH,List.drop_zero,hr]);have ht:(Zb b).take (k+n)=(Zb b).take k++Zb (r.extract 0 n):=(by rw[hp,List.take_add]);have hl:((Zb b).take k).length=k:=(by rw[List.length_take,ZY];omega);have hes:(r.extract 0 n).size=n:=(by rw[<- ZY,hp,List.length_take,List.length_drop,ZY];omega);have ha:=Z6 (m+1) wd sc ((Zb b).take k) (Zb (r.extract 0 n)) RS.start 0;rw[<- ht,hl] at ha
 cases ho:Zi (m+1) wd sc RS.start ((Zb b).take k) 0 with
 | error q=>
  obtain⟨z,p⟩:=q;rw[ho] at ha hF;rw[ha];refine(ZlE (r.extract 0 n) ib z p wr hF.1 hF.2).mono ?_;rintro e w' ⟨rfl,x,rfl⟩;exact⟨rfl,⟨hF.1,hF.2⟩,below_drewN (Below.refl _ _) _⟩
 | ok s=>
  rw[ho] at ha hF;simp only at ha;obtain⟨M,hX,hM⟩:=hF;rw[ha,Nat.zero_add];refine(Zpj (r.extract 0 n) hX (Zac.takes (by omega) hsc _ (Zac.start (by omega)) ho) (by omega) hm hsc (by rw[hes];omega)).mono ?_;rintro e w' ⟨rfl,h1,h2⟩;refine⟨rfl,?_,h2.to_below hbs (fun q hq=>?_)⟩
  ·cases hq:Zi (m+1) wd sc s (Zb (r.extract 0 n)) k with
   | error q=>
    obtain⟨z,p⟩:=q;rw[hq] at h1;exact⟨h1,Zeb _ _ _ hq⟩
   | ok s'=>
    rw[hq,hes] at h1;obtain⟨M',hX',hM'⟩:=h1;exact⟨M',hX',fun q hq=>by rcases hM' q hq with h|h;exact hM q h;omega⟩
  rcases hq with h|h|h
  exact hM q h;rw[h];exact hib.1;rw[h];exact hib.2
theorem ZnC(lw:List VS->List Int->Int->Int->ES)(b:ByteArray)(base:Nat)(hm:m+1<=4)(hsc:∀i,i<m+1->wd i=false->0<=sc i/\sc i<=3)(hc:2<=bins/\bins<=16/\bins<=size/\size<=32/\budget<=20)(hbs:base<=wr.heap.size)(hib:base<=ib)(hcl:∀s,Zi (m+1) wd sc RS.start (Zb b) 0=.ok s->s.wt=0->Q6 lw m wd ct bins size s)(hF:ZoP base K ib tb rb fb cb (m+1) wd sc ct bins size budget b.size (Zi (m+1) wd sc RS.start (Zb b) 0) wr):Calls Tryz.prog 50 #[.pointer (some ⟨ib,0,none⟩)] wr fun e w'=>∃(d:Option Addr) (z p:Int),e=.returned (.tuple #[.pointer d,.int .i64 z,.int .i64 p])/\Zrf lw m wd ct bins size budget b.size (Zi (m+1) wd sc RS.start (Zb b) 0) e w'/\Below base wr w'/\((Yo (Zi (m+1) wd sc RS.start (Zb b) 0)).1=0∨(Yo (Zi (m+1) wd sc RS.start (Zb b) 0)).1≠0/\d=none/\z=(Yo (Zi (m+1) wd sc RS.start (Zb b) 0)).1/\p=(Yo (Zi (m+1) wd sc RS.start (Zb b) 0)).2):=by
 cases ho:Zi (m+1) wd sc RS.start (Zb b) 0 with
 | error q=>
  obtain⟨z,p⟩:=q;rw[ho] at hF;refine(ZjU ib z p wr hF.1 hF.2).mono ?_;rintro e w' ⟨rfl,x,rfl⟩;exact⟨none,z,p,rfl,rfl,below_drewN (Below.refl _ _) _,.inr ⟨by show z≠0;rcases hF.2 with e|e<;>omega,rfl,rfl,rfl⟩⟩
 | ok s=>
  rw[ho] at hF;obtain⟨M,hX,hM⟩:=hF;have hI:Zac (m+1) s:=Zac.takes (by omega) hsc _ (Zac.start (by omega)) ho
  by_cases hwt:s.wt=0
  have hK:=hcl s ho hwt;refine(ZjV lw (fun i=>ZT lw (wd i) (ct i) bins size (s.cols i) s.ws) hX hwt hI hm hc.2.2.2.2 hK.wok (fun _=>rfl) hK.ok hK.num hK.ws (by omega) hc.2.2.2.1 hc.1 hc.2.1).mono ?_;rintro e w' ⟨gb,db,rfl,h1,h2,h3,h4⟩;exact⟨_,0,0,rfl,.inr ⟨hwt,gb,db,rfl,h3⟩,h4.2.to_below hbs (fun q hq=>by rw[hq];exact hib),.inl rfl⟩;refine(Zlu hX hwt).mono ?_;rintro e w' ⟨rfl,h4⟩;exact⟨none,2,_,rfl,.inl ⟨hwt,rfl⟩,h4.2.to_below hbs (fun q hq=>by rw[hq];exact hib),.inl rfl⟩
end
theorem Zfs(lw:List VS->List Int->Int->Int->ES)(b:ByteArray)(fk off m fc cn cc:Nat)(ca:Option Addr)(cz:List Int)(bins:Int)(size budget:Nat)(wd:Nat->Bool)(sc ct:Nat->Int)(w:World)(hF:QE w fk off (m+1) wd sc ct)(hc:ZcI (m+1) bins size budget wd sc ct=true)(hcut:ZX w ca cn cz)(hcn:cn<=9223372036854775807)(hb:b.size<=200000000000000)(hcl:∀s,Zi (m+1) wd sc RS.start (Zb b) 0=.ok s->s.wt=0->Q6 lw m wd ct bins size s):Calls Tryz.prog 25 #[.agg #[.slice (some ⟨fk,off,none⟩) (m+1) fc,.int .i64 bins,.int .i64 (size:Nat),.int .i64 (budget:Nat)],.string b,.slice ca cn cc] w fun e w'=>Zrf lw m wd ct bins size budget b.size (Zi (m+1) wd sc RS.start (Zb b) 0) e w'/\Below w.heap.size w w':=by
 obtain⟨h1,h4,c1,c2,c3,c4,c5,c6,hfe⟩:=Zcd hc
 have HSC:Hid (∀i,i<m+1->wd i=false->0<=sc i/\sc i<=3):=fun i hi hw=>by have:=hfe i hi;unfold ZaO at this;rw[hw] at this;simp at this;omega
 have hbl:=hF.lt (by omega);obtain⟨w0,hw0⟩:∃w0,w0=w.alloc (.cells #[.slice (some ⟨fk,off,none⟩) (m+1) fc,.int .i64 bins,.int .i64 (size:Nat),.int .i64 (budget:Nat)] 37):=⟨_,rfl⟩;have hb0:Below w.heap.size w w0:=(by rw[hw0];exact(Below.refl _ _).alloc (Qa _) _);have hrow:w0.heap[w.heap.size]? =some (.cells #[.slice (some ⟨fk,off,none⟩) (m+1) fc,.int .i64 bins,.int .i64 (size:Nat),.int .i64 (budget:Nat)] 37 (0,0)):=(by rw[hw0];exact heap_alloc_new w _);have k:∀o,w0.cell? ⟨fk,o,none⟩=w.cell? ⟨fk,o,none⟩:=fun o=>hb0.cell (p:=⟨fk,o,none⟩) hbl;have HR:=Zmb fk off (m+1) fc bins size budget wd sc ct w0 ⟨hF.le,fun _=>by have:=hb0.size;omega,fun i hi=>(k _).trans (hF.c0 i hi),fun i hi=>(k _).trans (hF.c1 i hi),fun i hi=>(k _).trans (hF.c2 i hi)⟩ hc;have d0:=cell_of_row _ _ 0 _ 37 (0,0) hrow
 have d1:=cell_of_row _ _ 1 _ 37 (0,0) hrow;have d2:=cell_of_row _ _ 2 _ 37 (0,0) hrow;have d3:=cell_of_row _ _ 3 _ 37 (0,0) hrow;have HB0:Hid (Below w.heap.size w w0):=hb0;have HCUT:Hid (ZX w ca cn cz):=hcut;have HCL:Hid (∀s,Zi (m+1) wd sc RS.start (Zb b) 0=.ok s->s.wt=0->Q6 lw m wd ct bins size s):=hcl;clear hF hc hfe hb0 k hrow hcut hcl;have HN:Hid (m+1<=4/\2<=bins/\bins<=16/\bins<=size/\size<=32/\budget<=20):=⟨h4,c1,c2,c3,by omega,by omega⟩;clear h1 h4 c1 c2 c3 c4 c5 c6;go_enter Tryz.func25,Tryz.ntmps25;go_upto_region 1 with fail;rw[<- hw0];clear hw0;go_wp2_with fail
 refine HR.mono ?_;rintro e w1 ⟨ib,tb,fb,rb,cb,rfl,hI,hb1⟩;have hs0:=HB0.out.size;obtain⟨K,M0,hX0,hM0,hib,htb⟩:=hI.start;have HX0:Hid (InX w1 K M0 ib tb rb fb cb (m+1) wd sc ct bins size budget RS.start 0/\(∀q,M0 q->w.heap.size<=q)):=⟨hX0,fun q hq=>by have:=hM0 q hq;omega⟩;have HB1:Hid (Below w.heap.size w w1):=HB0.out.trans (hb1.mono hs0);have HIB:Hid (w.heap.size<=ib/\w.heap.size<=tb):=⟨by omega,by omega⟩;clear hI hb1 hX0 hM0 hib htb d0 d1 d2 d3 HR;go_wp2_with fail
 go_loopw [1,10,11,12] (fun ts te tp ti wr=>∃(k i:Nat) (r:ByteArray),ts=.string r/\te=.int .i64 (Yo (Zi (m+1) wd sc RS.start ((Zb b).take k) 0)).1/\tp=.int .i64 (Yo (Zi (m+1) wd sc RS.start ((Zb b).take k) 0)).2/\ti=.int .i64 i/\i<=k/\k<=b.size/\r.size=b.size-k/\Hid (Zb r=(Zb b).drop k)/\Hid (ZoP w.heap.size K ib tb rb fb cb (m+1) wd sc ct bins size budget k (Zi (m+1) wd sc RS.start ((Zb b).take k) 0) wr)/\Hid (Below w.heap.size w wr)) (fun ts _ _ _ _=>Zsb ts)
 case atStart=>exact⟨0,0,b,rfl,rfl,rfl,rfl,Qa _,Qg _,by omega,rfl,⟨M0,HX0.out⟩,HB1.out⟩
 case round=>
  obtain⟨k,i,r,rfl,rfl,rfl,rfl,hik,hk,hrs,HR,HF,HB⟩:=hrel
  by_cases hr0:0<r.size
  ·have br:(0:Int)<(r.size:Int):=(by omega);obtain⟨n,hn⟩:∃n:Nat,n=1+Zz (Yb cz i) r.size:=⟨_,rfl⟩;have hp:=Yr (Yb cz i) hr0;have hn1:1<=n:=(by omega);have hn2:n<=r.size:=(by omega);have q1:IntKind.i64.wrap (1+((Zz (Yb cz i) r.size:Nat):Int))=(n:Int):=(by rw[ZA (by omega) (by omega)];omega);have b1:(0:Int)<=(n:Int):=(by omega);have b2:(n:Int)<=(r.size:Int):=(by omega);have HFD:=ZnF (size:=size) (budget:=budget) (bins:=bins) (ct:=ct) (rb:=rb) (fb:=fb) (cb:=cb) (K:=K) b r k n w.heap.size HR.out hrs hk hn2 hb HN.out.1 HSC.out HB.out.size HIB.out HF.out;have HRW:=Zft ca cn cc i cz wr (HCUT.out.below HB.out) (by omega) hcn
   have HRF:Hid ((Lit.int .i64 (Yb cz i)).wf=true):=(by show _=_;unfold Yb;split;decide;rename_i h0;have hl:i%cz.length<cz.length:=Nat.mod_lt _ (by omega);rw[Qc,Qd hl];exact HCUT.out.2.1 _ (Qf _));clear hn hp
   have HA:Hid ((Yo (Zi (m+1) wd sc RS.start ((Zb b).take k) 0)).1=0∨(Yo (Zi (m+1) wd sc RS.start ((Zb b).take k) 0)).1≠0/\(Yo (Zi (m+1) wd sc RS.start ((Zb b).take (k+n)) 0)).1=(Yo (Zi (m+1) wd sc RS.start ((Zb b).take k) 0)).1/\(Yo (Zi (m+1) wd sc RS.start ((Zb b).take (k+n)) 0)).2=(Yo (Zi (m+1) wd sc RS.start ((Zb b).take k) 0)).2):=by
    cases ho:Zi (m+1) wd sc RS.start ((Zb b).take k) 0 with
    | error q=>
     have ha:=Z6 (m+1) wd sc ((Zb b).take k) (((Zb b).drop k).take n) RS.start 0;rw[<- List.take_add,ho] at ha;rw[ha];obtain⟨z,p⟩:=q;refine .inr ⟨?_,rfl,rfl⟩;show z≠0
     rcases Zeb _ _ _ ho with e|e<;>omega
    |ok s=>exact .inl rfl
   have HR2:Hid (Zb (r.extract n r.size)=(Zb b).drop (k+n)/\(r.extract n r.size).size=b.size-(k+n)):=by have e:Zb (r.extract n r.size)=(Zb b).drop (k+n):=(by rw[QH,List.take_of_length_le (by rw[ZY];exact Qa _),HR.out,List.drop_drop]);refine⟨e,?_⟩;rw[<- ZY,e,List.length_drop,ZY]
   obtain⟨o2,ho2⟩:∃o2,o2=Zi (m+1) wd sc RS.start ((Zb b).take (k+n)) 0:=⟨_,rfl⟩;have HO2:Hid (o2=Zi (m+1) wd sc RS.start ((Zb b).take (k+n)) 0):=ho2;rw[<- ho2] at HFD HA;clear ho2;obtain⟨A1,hA1⟩:∃A1,A1=(Yo (Zi (m+1) wd sc RS.start ((Zb b).take k) 0)).1:=⟨_,rfl⟩;obtain⟨A2,hA2⟩:∃A2,A2=(Yo (Zi (m+1) wd sc RS.start ((Zb b).take k) 0)).2:=⟨_,rfl⟩;rw[<- hA1,<- hA2] at HA ⊢;clear hA1 hA2 HF;obtain⟨B1,hB1⟩:∃B1,B1=(Yo o2).1:=⟨_,rfl⟩;obtain⟨B2,hB2⟩:∃B2,B2=(Yo o2).2:=⟨_,rfl⟩;rw[<- hB1,<- hB2] at HFD HA;have HBB:Hid (B1=(Yo o2).1/\B2=(Yo o2).2):=⟨hB1,hB2⟩;clear hB1 hB2;generalize Yb cz i=y at *;have HPK:=YR y r.size wr HRF.out (by omega) (by omega);generalize Zz y r.size=px at *;have HRS:Hid (r.size=b.size-k):=hrs
   clear hrs;go_wp2_with fail
   refine HRW.mono ?_;rintro e w2 ⟨rfl,hw2⟩;obtain rfl:=hw2.symm;go_wp2_with fail
   refine HPK.mono ?_;rintro e w3 ⟨rfl,hw3⟩;obtain rfl:=hw3.symm;go_wp2_with fail
   refine HFD.mono ?_;rintro e w4 ⟨rfl,hF4,hb4⟩;have HF4:Hid (ZoP w.heap.size K ib tb rb fb cb (m+1) wd sc ct bins size budget (k+n) o2 w4):=hF4;have HB4:Hid (Below w.heap.size w w4):=HB.out.trans hb4;clear hF4 hb4 HFD HRW HB;go_upto_region 11 with fail;go_cut [61] (fun v wx=>v=.bool false/\wx=w4)
   case first=>
    rcases HA.out with h0|⟨h0,h1,h2⟩
    ·subst h0;go_wp2;go_meet
     exact⟨rfl,rfl⟩
    subst h1 h2;have q2:(B1==0)=false:=(by rw[beq_eq_false_iff_ne];exact h0);go_wp2;go_meet
    exact⟨rfl,rfl⟩
   case rest=>
    obtain⟨rfl,hwx⟩:=hcut;obtain rfl:=hwx.symm;clear hwx;go_wp2;go_roundw;case rel=>exact⟨k+n,i+1,r.extract n r.size,rfl,by rw[<- HO2.out,<- HBB.out.1],by rw[<- HO2.out,<- HBB.out.2],by go_num,by omega,by have:=HRS.out;omega,HR2.out.2,HR2.out.1,by rw[<- HO2.out];exact HF4.out,HB4.out⟩
    case measure=>
     show(r.extract n r.size).size<r.size;have:=HRS.out;rw[HR2.out.2];omega
  have hk2:k=b.size:=(by omega);subst hk2;have et:(Zb b).take b.size=Zb b:=List.take_of_length_le (by rw[ZY];exact Qa _);have hF:=HF.out;rw[et] at hF ⊢;have HCE:=ZnC lw b w.heap.size HN.out.1 HSC.out HN.out.2 HB.out.size HIB.out.1 HCL.out hF;have r0:¬(0:Int)<(r.size:Int):=(by omega);obtain⟨o,ho⟩:∃o,o=Zi (m+1) wd sc RS.start (Zb b) 0:=⟨_,rfl⟩;rw[<- ho] at HCE ⊢;have HO:Hid (o=Zi (m+1) wd sc RS.start (Zb b) 0):=ho;clear ho hF et HF HCL hrs hr0;obtain⟨A1,hA1⟩:∃A1,A1=(Yo o).1:=⟨_,rfl⟩;obtain⟨A2,hA2⟩:∃A2,A2=(Yo o).2:=⟨_,rfl⟩;rw[<- hA1,<- hA2] at HCE ⊢;clear hA1 hA2;go_wp2_with fail
  refine HCE.mono ?_;rintro e w4 ⟨d,z,p,rfl,hR4,hb4,hz⟩;have HR4:Hid (Zrf lw m wd ct bins size budget b.size o (.returned (.tuple #[.pointer d,.int .i64 z,.int .i64 p])) w4):=hR4;have HB4:Hid (Below w.heap.size w w4):=HB.out.trans hb4;have HZ:Hid (A1=0∨A1≠0/\d=none/\z=A1/\p=A2):=hz;clear hR4 hb4 hz HCE HB;go_upto_region 17 with fail;go_cut [88] (fun v wx=>v=.bool false/\wx=w4)
  case first=>
   rcases HZ.out with h0|⟨h0,h1,h2,h3⟩
   ·subst h0;go_wp2;go_meet
    exact⟨rfl,rfl⟩
   subst h1 h2 h3;have q2:(z==0)=false:=(by rw[beq_eq_false_iff_ne];exact h0);go_wp2;go_meet
   exact⟨rfl,rfl⟩
  case rest=>
   obtain⟨rfl,hwx⟩:=hcut;obtain rfl:=hwx.symm;clear hwx;go_wp2;refine bodyPost_ret (v:=.tuple #[.pointer d,.int .i64 z,.int .i64 p]) (by simp[results,Tryz.results25,go_sem]) rfl ?_;rw[<- HO.out];exact⟨HR4.out,HB4.out⟩
end Go.Proofs.YtfcgnpchbcmdeaaGreat
