import Derived.Test.YtfcgnpchbcmdeaaGreatZfaf
import Derived.Test.YtfcgnpchbcmdeaaGreatZfbe
import Derived.Test.YtfcgnpchbcmdeaaGreatZfbf
namespace Go.Proofs.YtfcgnpchbcmdeaaGreat
set_option linter.unusedSimpArgs false
set_option maxRecDepth 100000
set_option maxHeartbeats 8000000
open Go.RowKit
def xB(x:XS):List Int:=[((x.row:Nat):Int)%256,((x.f:Nat):Int)%256,((x.bin:Nat):Int)%256]
def knA(k:KS):List Int:=if k.e.wd=true then Ziz k else knB k
def ZaK(D:DSS)(X:List XS):List Int:=[71,82,(((D.bs.getD 0 ZH).N.length:Nat):Int)%256,((D.ks.length:Nat):Int)%256]++D.ks.flatMap knA++[((D.bs.length:Nat):Int)%256]++D.bs.flatMap Q7++Zad (X.length:Nat) 2++X.flatMap xB
def Zah(D:DSS)(X:List XS):List Int:=ZaK D X++Zad (Ze1 (ZaK D X)) 4
def ZhY(b:BS):Prop:=b.fs.length<=1000/\(∀f∈b.fs,f<=1000)/\((spF b.N b.N.length).length<=1000/\∀x∈spF b.N b.N.length,x.1<=1000/\x.2<=1000)/\(ZV (Y3 b.N (Lib.bitLen b.g)) ((b.N.length*Lib.bitLen b.g+7)/8) (b.N.length*Lib.bitLen b.g)).length<=1000/\(Q7 b).length<=5000
def Zjm(k:KS):Prop:=(k.e.wd=false/\k.e.ww=[]/\k.e.bs.length<=1000/\∀x∈k.e.bs,-1000000000000<=x/\x<=1000000000000)∨(k.e.wd=true/\k.e.bs=[]/\k.e.ww.length<=1000/\∀x∈k.e.ww,x.size<=8)
theorem ZdS{α:Type}(f:α->List Int)(L:List α)(d:α){k:Nat}(h:k<L.length):(L.take (k+1)).flatMap f=(L.take k).flatMap f++f (L.getD k d):=by rw[Qi h,List.flatMap_append];simp[List.getD,h]
def x0S:XS:=⟨0,0,0⟩
theorem ZgA:∀(L:List XS) (i:Nat),i<L.length->∀c,c<3->(QN L)[i*3+c]? =(Qs (L.getD i x0S))[c]?
 |[],i,h=>by simp at h
 |x::L,0,_=>fun c hc=>by simp only[QN];rw[show 0*3+c=c by omega,List.getElem?_append_left (by simpa [Qs] using hc)];rfl
 |x::L,i+1,h=>fun c hc=>by simp only[QN];rw[List.getElem?_append_right (by simp[Qs];omega),show(i+1)*3+c-(Qs x).length=i*3+c by simp[Qs];omega];exact ZgA L i (by simpa using h) c hc
theorem ZaC.atK{w:World}{a:Option Addr}{n c:Nat}{L:List XS}(h:ZaC w 0 (.slice a n c) L)(hn:L.length=n){k:Nat}(hk:k<n):∃q,a=some ⟨q,0,none⟩/\q<w.heap.size/\w.cell? ⟨q,k*3,none⟩=some (.int .i64 ((L.getD k x0S).row:Nat))/\w.cell? ⟨q,k*3+1,none⟩=some (.int .i64 ((L.getD k x0S).f:Nat))/\w.cell? ⟨q,k*3+2,none⟩=some (.int .i64 ((L.getD k x0S).bin:Nat)):=by
 subst hn;have h':=h
 rcases h'.2 with⟨e,h0⟩|⟨g,cap,cur,e,_,hh,hnc,_⟩
 omega;injection e with e1 e2 e3;subst e1;have hr:w.ownsRow 0 184 3 (.slice (some ⟨g,0,none⟩) L.length c) L.length (QN L):=h
 have key:∀o u,o<3->(Qs (L.getD k x0S))[o]? =some u->w.cell? ⟨g,k*3+o,none⟩=some u:=fun o u ho hu=>by rw[World.ownsRow.cellAt hr (k*3+o) (by omega)];exact(ZgA L k hk o ho).trans hu
 exact⟨g,rfl,(Qb hh).1,key 0 _ (by omega) rfl,key 1 _ (by omega) rfl,key 2 _ (by omega) rfl⟩
theorem ZnC{ss:List ByteArray}(h:∀x∈ss,x.size<=8):(Zf0 ss).length<=9*ss.length:=by
 induction ss with
 |nil=>simp[Zf0]
 | cons x ss ih=>
  have h1:=ih (fun y hy=>h y (by simp[hy]));have h2:=h x (by simp);unfold Zf0 at h1 ⊢;rw[List.flatMap_cons,Qe,List.length_cons,ZbZ,List.length_cons];omega
theorem Zn6{k:KS}(h:Zjm k):(knA k).length<=9003:=by
 unfold knA
 rcases h with⟨h1,_,h2,_⟩|⟨h1,_,h2,h3⟩
 rw[h1,if_neg (by decide)];unfold knB;rw[Qe,Zh9];simp;omega;rw[h1,if_pos rfl];unfold Ziz;have:=ZnC h3;rw[Qe];simp;omega
theorem Zlt(db:Nat)(vK vB vX:Value)(kvs bvs:List (Value×Value))(X:List XS)(D:DSS)(w:World)(h:Zbg w db vK vB vX kvs bvs X D)(h0:0<D.bs.length)(hks:∀K∈D.ks,Zjm K)(hkl:D.ks.length<=4)(hbs:∀b∈D.bs,ZhY b)(hbl:D.bs.length<=4)(hxl:X.length<=4000)(hby:∀b∈ZaK D X,0<=b/\b<256):Calls Tryz.prog 60 #[.pointer (some ⟨db,0,none⟩)] w fun e w'=>e=.returned (.string (strOfNums (Zah D X)))/\Below w.heap.size w w':=by
 obtain⟨ka,kc,rfl⟩:=h.kn.form;have d0:w.cell? ⟨db,0,none⟩=some (.slice ka D.ks.length kc):=cell_of_row _ _ 0 _ 168 (0,0) h.ds.blk;have hdl:db<w.heap.size:=(Qb h.ds.blk).1;have HM:Hid (Zbg w db (.slice ka D.ks.length kc) vB vX kvs bvs X D):=h;obtain⟨i0,hinf,hz0,hz1,hz2⟩:=info_parts Zbm;have HRO:Hid (∀W:World,Below w.heap.size w W->Calls Tryz.prog 51 #[.pointer (some ⟨db,0,none⟩)] W fun e w'=>e=.returned (.int .i64 ((D.bs.getD 0 ZH).N.length:Nat))/\Below W.heap.size W w'):=fun W hW=>ZcY db _ vB vX bvs D.bs X W (HM.out.ds.below hW) h0;have HKS:Hid ((∀K∈D.ks,Zjm K)/\(∀b∈D.bs,ZhY b)/\(∀b∈ZaK D X,0<=b/\b<256)):=⟨hks,hbs,hby⟩
 clear h hks hbs hby
 generalize hnr:(D.bs.getD 0 ZH).N.length=nr at *;generalize hnk:D.ks.length=nk at *;have HNN:Hid ((D.bs.getD 0 ZH).N.length=nr/\D.ks.length=nk):=⟨hnr,hnk⟩;clear hnr hnk;go_enter Tryz.func60,Tryz.ntmps60;go_upto_region 1 with fail;go_cut [3] (fun v wx=>∃a c,v=.slice a 4 c/\Hid (Ya w wx (.slice a 4 c) [71,82,(nr:Int)%256,(nk:Int)%256]))
 case first=>
  refine ZJ (fun w'=>w'.cell? ⟨db,0,none⟩=some (.slice ka nk kc)) 13 (by kernel_rfl) d0 (fun hHeld=>?_);refine ZL 2 ?_;try simp only[Act.put,sA,sB,sC]
  refine ZL 5 ?_;try simp only[Act.put,sA,sB,sC]
  refine ZL 6 ?_;try simp only[Act.put,sA,sB,sC]
  refine ZL 7 ?_;try simp only[Act.put,sA,sB,sC]
  refine ZL 8 ?_;try simp only[Act.put,sA,sB,sC]
  refine ZL 9 ?_;try simp only[Act.put,sA,sB,sC]
  refine ZL 10 ?_;try simp only[Act.put,sA,sB,sC]
  have hx0:Below w.heap.size w w.drew:=(Below.refl _ w).drew;generalize w.drew=x0 at *;refine ZaN (i:=0) (j:=3) (by kernel_rfl) rfl rfl (fun KK hK=>?_) (fun KK hK=>?_)
  ·skip
   go_simp;generalize hV:World.alloc x0 (.cells #[.int .u8 71,.int .u8 82] 5)=x1;have hx1:Below w.heap.size w x1:=(by rw[<- hV];exact hx0.alloc hx0.size _);have hL1:x1.heap[x0.heap.size]? =some (.cells #[.int .u8 71,.int .u8 82] 5 (0,0)):=(by rw[<- hV];exact heap_alloc_new _ _);have hlL1:w.heap.size<=x0.heap.size:=hx0.size;clear hV;refine hK.out _ _ ((hx1.cell (p:=⟨db,0,none⟩) hdl).trans d0) (fun hHeld=>?_);clear hK KK;try simp only[Act.put,sA,sB,sC]
   refine ZaN (i:=1) (j:=3) (by kernel_rfl) rfl rfl (fun KK hK=>?_) (fun KK hK=>?_)
   ·skip
    have hcv:(convert 66 66 (.slice (some ⟨x0.heap.size,0,none⟩) 2 2)).run Tryz.prog x1=.ok (.slice (some ⟨x0.heap.size,0,none⟩) 2 2) (World.freeze x1 ⟨x0.heap.size,2,none⟩ 1):=Zax x1 x0.heap.size 2 2 _ hL1;go_simp;generalize hV:World.freeze x1 ⟨x0.heap.size,2,none⟩ 1=x2;have hx2:Below w.heap.size w x2:=(by rw[<- hV];exact hx1.trans ((Yr x1 x0.heap.size 2).to_below hx1.size (fun q hq=>by rw[hq];exact hlL1)));have hL2:x2.heap[x0.heap.size]? =some (.cells #[.int .u8 71,.int .u8 82] 5 (2,3)):=(by rw[<- hV];exact Qo x1 x0.heap.size _ 5 2 hL1);clear hV hcv;refine hK.out _ _ ((hx2.cell (p:=⟨db,0,none⟩) hdl).trans d0) (fun hHeld=>?_);clear hK KK;try simp only[Act.put,sA,sB,sC]
    refine Zk (i:=3) (by kernel_rfl) rfl (fun KK hK=>?_);go_simp;refine(HRO.out _ hx2).mono ?_;rintro e x3 ⟨rfl,hbc⟩;have hx3:Below w.heap.size w x3:=hx2.trans (hbc.mono hx2.size);have hL3:x3.heap[x0.heap.size]? =some (.cells #[.int .u8 71,.int .u8 82] 5 (2,3)):=(hbc.block _ (Qb hL2).1).trans hL2;clear hbc;go_simp;refine hK.out _ _ ((hx3.cell (p:=⟨db,0,none⟩) hdl).trans d0) (fun hHeld=>?_);clear hK KK;try simp only[Act.put,sA,sB,sC]
    refine ZL 4 ?_;try simp only[Act.put,sA,sB,sC]
    refine Zk (i:=11) (by kernel_rfl) rfl (fun KK hK=>?_);go_simp;generalize hV:World.alloc x3 (.cells #[.int .u8 (IntKind.u8.wrap (nr:Int)),.int .u8 (IntKind.u8.wrap (nk:Int))] 5)=x4;have hx4:Below w.heap.size w x4:=(by rw[<- hV];exact hx3.alloc hx3.size _);have hR4:x4.heap[x3.heap.size]? =some (.cells #[.int .u8 (IntKind.u8.wrap (nr:Int)),.int .u8 (IntKind.u8.wrap (nk:Int))] 5 (0,0)):=(by rw[<- hV];exact heap_alloc_new _ _);have hlR4:w.heap.size<=x3.heap.size:=hx3.size;have hL4:x4.heap[x0.heap.size]? =some (.cells #[.int .u8 71,.int .u8 82] 5 (2,3)):=(by rw[<- hV];exact(Below.heap_alloc _ _ _ (Qb hL3).1).trans hL3);have hne:x0.heap.size≠x3.heap.size:=(by have:=(Qb hL3).1;omega);clear hV
    refine hK.out _ _ ((hx4.cell (p:=⟨db,0,none⟩) hdl).trans d0) (fun hHeld=>?_);clear hK KK;try simp only[Act.put,sA,sB,sC]
    refine Zk (i:=12) (by kernel_rfl) rfl (fun KK hK=>?_);refine Yu rfl (.tmp 11) (.tmp 21) rfl (x0.heap.size) (x3.heap.size) 71 82 (IntKind.u8.wrap (nr:Int)) (IntKind.u8.wrap (nk:Int)) (2,3) (0,0) (by simp[Act.eval]) (by simp[Act.eval]) hL4 hR4 ?_;intro v6 w6 H6;obtain⟨o6,k6,b6,q6,p6,hv6⟩:=H6.out;have hx5:Below w.heap.size w w6:=hx4.trans (b6.mono hx4.size);have HO6:Hid (Ya w w6 v6 [71,82,(nr:Int)%256,(nk:Int)%256]):=⟨hx5,o6,fun k hk=>by rw[k6] at hk;injection hk with hk;rw[<- hk];exact hx4.size⟩;subst hv6;clear H6 o6 k6 b6;refine hK.out _ _ ((hx5.cell (p:=⟨db,0,none⟩) hdl).trans d0) (fun hHeld=>?_);clear hK KK;try simp only[Act.put,sA,sB,sC]
    refine Zx (i:=13) (by kernel_rfl) rfl (by kernel_rfl) (fun KK hK=>?_);go_simp;refine hK.out _ _ ?_;clear hK KK;try simp only[Act.put,sA,sB,sC]
    refine Zz (by kernel_rfl) ?_ _;go_wp2;go_meet
    exact⟨_,_,rfl,HO6.out⟩
   ·skip
    go_simp;refine(HRO.out _ hx1).mono ?_;rintro e x2 ⟨rfl,hbc⟩;have hx2:Below w.heap.size w x2:=hx1.trans (hbc.mono hx1.size);have hL2:x2.heap[x0.heap.size]? =some (.cells #[.int .u8 71,.int .u8 82] 5 (0,0)):=(hbc.block _ (Qb hL1).1).trans hL1;clear hbc;go_simp;refine hK.out _ _ ((hx2.cell (p:=⟨db,0,none⟩) hdl).trans d0) (fun hHeld=>?_);clear hK KK;try simp only[Act.put,sA,sB,sC]
    refine ZL 4 ?_;try simp only[Act.put,sA,sB,sC]
    refine ZaN (i:=1) (j:=11) (by kernel_rfl) rfl rfl (fun KK hK=>?_) (fun KK hK=>?_)
    ·skip
     have hcv:(convert 66 66 (.slice (some ⟨x0.heap.size,0,none⟩) 2 2)).run Tryz.prog x2=.ok (.slice (some ⟨x0.heap.size,0,none⟩) 2 2) (World.freeze x2 ⟨x0.heap.size,2,none⟩ 1):=Zax x2 x0.heap.size 2 2 _ hL2;go_simp;generalize hV:World.freeze x2 ⟨x0.heap.size,2,none⟩ 1=x3;have hx3:Below w.heap.size w x3:=(by rw[<- hV];exact hx2.trans ((Yr x2 x0.heap.size 2).to_below hx2.size (fun q hq=>by rw[hq];exact hlL1)));have hL3:x3.heap[x0.heap.size]? =some (.cells #[.int .u8 71,.int .u8 82] 5 (2,3)):=(by rw[<- hV];exact Qo x2 x0.heap.size _ 5 2 hL2);clear hV hcv;refine hK.out _ _ ((hx3.cell (p:=⟨db,0,none⟩) hdl).trans d0) (fun hHeld=>?_);clear hK KK;try simp only[Act.put,sA,sB,sC]
     refine Zk (i:=11) (by kernel_rfl) rfl (fun KK hK=>?_);go_simp;generalize hV:World.alloc x3 (.cells #[.int .u8 (IntKind.u8.wrap (nr:Int)),.int .u8 (IntKind.u8.wrap (nk:Int))] 5)=x4;have hx4:Below w.heap.size w x4:=(by rw[<- hV];exact hx3.alloc hx3.size _);have hR4:x4.heap[x3.heap.size]? =some (.cells #[.int .u8 (IntKind.u8.wrap (nr:Int)),.int .u8 (IntKind.u8.wrap (nk:Int))] 5 (0,0)):=(by rw[<- hV];exact heap_alloc_new _ _);have hlR4:w.heap.size<=x3.heap.size:=hx3.size;have hL4:x4.heap[x0.heap.size]? =some (.cells #[.int .u8 71,.int .u8 82] 5 (2,3)):=(by rw[<- hV];exact(Below.heap_alloc _ _ _ (Qb hL3).1).trans hL3);have hne:x0.heap.size≠x3.heap.size:=(by have:=(Qb hL3).1;omega);clear hV
     refine hK.out _ _ ((hx4.cell (p:=⟨db,0,none⟩) hdl).trans d0) (fun hHeld=>?_);clear hK KK;try simp only[Act.put,sA,sB,sC]
     refine Zk (i:=12) (by kernel_rfl) rfl (fun KK hK=>?_);refine Yu rfl (.tmp 11) (.tmp 21) rfl (x0.heap.size) (x3.heap.size) 71 82 (IntKind.u8.wrap (nr:Int)) (IntKind.u8.wrap (nk:Int)) (2,3) (0,0) (by simp[Act.eval]) (by simp[Act.eval]) hL4 hR4 ?_;intro v6 w6 H6;obtain⟨o6,k6,b6,q6,p6,hv6⟩:=H6.out;have hx5:Below w.heap.size w w6:=hx4.trans (b6.mono hx4.size);have HO6:Hid (Ya w w6 v6 [71,82,(nr:Int)%256,(nk:Int)%256]):=⟨hx5,o6,fun k hk=>by rw[k6] at hk;injection hk with hk;rw[<- hk];exact hx4.size⟩;subst hv6;clear H6 o6 k6 b6;refine hK.out _ _ ((hx5.cell (p:=⟨db,0,none⟩) hdl).trans d0) (fun hHeld=>?_);clear hK KK;try simp only[Act.put,sA,sB,sC]
     refine Zx (i:=13) (by kernel_rfl) rfl (by kernel_rfl) (fun KK hK=>?_);go_simp;refine hK.out _ _ ?_;clear hK KK;try simp only[Act.put,sA,sB,sC]
     refine Zz (by kernel_rfl) ?_ _;go_wp2;go_meet
     exact⟨_,_,rfl,HO6.out⟩
    ·skip
     go_simp;generalize hV:World.alloc x2 (.cells #[.int .u8 (IntKind.u8.wrap (nr:Int)),.int .u8 (IntKind.u8.wrap (nk:Int))] 5)=x3;have hx3:Below w.heap.size w x3:=(by rw[<- hV];exact hx2.alloc hx2.size _);have hR3:x3.heap[x2.heap.size]? =some (.cells #[.int .u8 (IntKind.u8.wrap (nr:Int)),.int .u8 (IntKind.u8.wrap (nk:Int))] 5 (0,0)):=(by rw[<- hV];exact heap_alloc_new _ _);have hlR3:w.heap.size<=x2.heap.size:=hx2.size;have hL3:x3.heap[x0.heap.size]? =some (.cells #[.int .u8 71,.int .u8 82] 5 (0,0)):=(by rw[<- hV];exact(Below.heap_alloc _ _ _ (Qb hL2).1).trans hL2);have hne:x0.heap.size≠x2.heap.size:=(by have:=(Qb hL2).1;omega);clear hV;refine hK.out _ _ ((hx3.cell (p:=⟨db,0,none⟩) hdl).trans d0) (fun hHeld=>?_);clear hK KK;try simp only[Act.put,sA,sB,sC]
     refine Zk (i:=1) (by kernel_rfl) rfl (fun KK hK=>?_);have hcv:(convert 66 66 (.slice (some ⟨x0.heap.size,0,none⟩) 2 2)).run Tryz.prog x3=.ok (.slice (some ⟨x0.heap.size,0,none⟩) 2 2) (World.freeze x3 ⟨x0.heap.size,2,none⟩ 1):=Zax x3 x0.heap.size 2 2 _ hL3;go_simp;generalize hV:World.freeze x3 ⟨x0.heap.size,2,none⟩ 1=x4;have hx4:Below w.heap.size w x4:=(by rw[<- hV];exact hx3.trans ((Yr x3 x0.heap.size 2).to_below hx3.size (fun q hq=>by rw[hq];exact hlL1)));have hL4:x4.heap[x0.heap.size]? =some (.cells #[.int .u8 71,.int .u8 82] 5 (2,3)):=by rw[<- hV];exact Qo x3 x0.heap.size _ 5 2 hL3
     have hR4:x4.heap[x2.heap.size]? =some (.cells #[.int .u8 (IntKind.u8.wrap (nr:Int)),.int .u8 (IntKind.u8.wrap (nk:Int))] 5 (0,0)):=(by rw[<- hV];exact(Yr x3 x0.heap.size 2).at_ hR3 (fun e=>hne e.symm));clear hV hcv;refine hK.out _ _ ((hx4.cell (p:=⟨db,0,none⟩) hdl).trans d0) (fun hHeld=>?_);clear hK KK;try simp only[Act.put,sA,sB,sC]
     refine Zk (i:=12) (by kernel_rfl) rfl (fun KK hK=>?_);refine Yu rfl (.tmp 11) (.tmp 21) rfl (x0.heap.size) (x2.heap.size) 71 82 (IntKind.u8.wrap (nr:Int)) (IntKind.u8.wrap (nk:Int)) (2,3) (0,0) (by simp[Act.eval]) (by simp[Act.eval]) hL4 hR4 ?_;intro v6 w6 H6;obtain⟨o6,k6,b6,q6,p6,hv6⟩:=H6.out;have hx5:Below w.heap.size w w6:=hx4.trans (b6.mono hx4.size);have HO6:Hid (Ya w w6 v6 [71,82,(nr:Int)%256,(nk:Int)%256]):=⟨hx5,o6,fun k hk=>by rw[k6] at hk;injection hk with hk;rw[<- hk];exact hx4.size⟩;subst hv6;clear H6 o6 k6 b6;refine hK.out _ _ ((hx5.cell (p:=⟨db,0,none⟩) hdl).trans d0) (fun hHeld=>?_);clear hK KK;try simp only[Act.put,sA,sB,sC]
     refine Zx (i:=13) (by kernel_rfl) rfl (by kernel_rfl) (fun KK hK=>?_);go_simp;refine hK.out _ _ ?_;clear hK KK;try simp only[Act.put,sA,sB,sC]
     refine Zz (by kernel_rfl) ?_ _;go_wp2;go_meet
     exact⟨_,_,rfl,HO6.out⟩
  ·skip
   go_simp;refine(HRO.out _ hx0).mono ?_;rintro e x1 ⟨rfl,hbc⟩;have hx1:Below w.heap.size w x1:=hx0.trans (hbc.mono hx0.size);clear hbc;go_simp;refine hK.out _ _ ((hx1.cell (p:=⟨db,0,none⟩) hdl).trans d0) (fun hHeld=>?_);clear hK KK;try simp only[Act.put,sA,sB,sC]
   refine ZL 4 ?_;try simp only[Act.put,sA,sB,sC]
   refine ZaN (i:=0) (j:=11) (by kernel_rfl) rfl rfl (fun KK hK=>?_) (fun KK hK=>?_)
   ·skip
    go_simp;generalize hV:World.alloc x1 (.cells #[.int .u8 71,.int .u8 82] 5)=x2;have hx2:Below w.heap.size w x2:=(by rw[<- hV];exact hx1.alloc hx1.size _);have hL2:x2.heap[x1.heap.size]? =some (.cells #[.int .u8 71,.int .u8 82] 5 (0,0)):=(by rw[<- hV];exact heap_alloc_new _ _);have hlL2:w.heap.size<=x1.heap.size:=hx1.size;clear hV;refine hK.out _ _ ((hx2.cell (p:=⟨db,0,none⟩) hdl).trans d0) (fun hHeld=>?_);clear hK KK;try simp only[Act.put,sA,sB,sC]
    refine ZaN (i:=1) (j:=11) (by kernel_rfl) rfl rfl (fun KK hK=>?_) (fun KK hK=>?_)
    ·skip
     have hcv:(convert 66 66 (.slice (some ⟨x1.heap.size,0,none⟩) 2 2)).run Tryz.prog x2=.ok (.slice (some ⟨x1.heap.size,0,none⟩) 2 2) (World.freeze x2 ⟨x1.heap.size,2,none⟩ 1):=Zax x2 x1.heap.size 2 2 _ hL2;go_simp;generalize hV:World.freeze x2 ⟨x1.heap.size,2,none⟩ 1=x3;have hx3:Below w.heap.size w x3:=(by rw[<- hV];exact hx2.trans ((Yr x2 x1.heap.size 2).to_below hx2.size (fun q hq=>by rw[hq];exact hlL2)));have hL3:x3.heap[x1.heap.size]? =some (.cells #[.int .u8 71,.int .u8 82] 5 (2,3)):=(by rw[<- hV];exact Qo x2 x1.heap.size _ 5 2 hL2);clear hV hcv;refine hK.out _ _ ((hx3.cell (p:=⟨db,0,none⟩) hdl).trans d0) (fun hHeld=>?_);clear hK KK;try simp only[Act.put,sA,sB,sC]
     refine Zk (i:=11) (by kernel_rfl) rfl (fun KK hK=>?_);go_simp;generalize hV:World.alloc x3 (.cells #[.int .u8 (IntKind.u8.wrap (nr:Int)),.int .u8 (IntKind.u8.wrap (nk:Int))] 5)=x4;have hx4:Below w.heap.size w x4:=(by rw[<- hV];exact hx3.alloc hx3.size _);have hR4:x4.heap[x3.heap.size]? =some (.cells #[.int .u8 (IntKind.u8.wrap (nr:Int)),.int .u8 (IntKind.u8.wrap (nk:Int))] 5 (0,0)):=(by rw[<- hV];exact heap_alloc_new _ _);have hlR4:w.heap.size<=x3.heap.size:=hx3.size;have hL4:x4.heap[x1.heap.size]? =some (.cells #[.int .u8 71,.int .u8 82] 5 (2,3)):=(by rw[<- hV];exact(Below.heap_alloc _ _ _ (Qb hL3).1).trans hL3);have hne:x1.heap.size≠x3.heap.size:=(by have:=(Qb hL3).1;omega);clear hV
     refine hK.out _ _ ((hx4.cell (p:=⟨db,0,none⟩) hdl).trans d0) (fun hHeld=>?_);clear hK KK;try simp only[Act.put,sA,sB,sC]
     refine Zk (i:=12) (by kernel_rfl) rfl (fun KK hK=>?_);refine Yu rfl (.tmp 11) (.tmp 21) rfl (x1.heap.size) (x3.heap.size) 71 82 (IntKind.u8.wrap (nr:Int)) (IntKind.u8.wrap (nk:Int)) (2,3) (0,0) (by simp[Act.eval]) (by simp[Act.eval]) hL4 hR4 ?_;intro v6 w6 H6;obtain⟨o6,k6,b6,q6,p6,hv6⟩:=H6.out;have hx5:Below w.heap.size w w6:=hx4.trans (b6.mono hx4.size);have HO6:Hid (Ya w w6 v6 [71,82,(nr:Int)%256,(nk:Int)%256]):=⟨hx5,o6,fun k hk=>by rw[k6] at hk;injection hk with hk;rw[<- hk];exact hx4.size⟩;subst hv6;clear H6 o6 k6 b6;refine hK.out _ _ ((hx5.cell (p:=⟨db,0,none⟩) hdl).trans d0) (fun hHeld=>?_);clear hK KK;try simp only[Act.put,sA,sB,sC]
     refine Zx (i:=13) (by kernel_rfl) rfl (by kernel_rfl) (fun KK hK=>?_);go_simp;refine hK.out _ _ ?_;clear hK KK;try simp only[Act.put,sA,sB,sC]
     refine Zz (by kernel_rfl) ?_ _;go_wp2;go_meet
     exact⟨_,_,rfl,HO6.out⟩
    ·skip
     go_simp;generalize hV:World.alloc x2 (.cells #[.int .u8 (IntKind.u8.wrap (nr:Int)),.int .u8 (IntKind.u8.wrap (nk:Int))] 5)=x3;have hx3:Below w.heap.size w x3:=(by rw[<- hV];exact hx2.alloc hx2.size _);have hR3:x3.heap[x2.heap.size]? =some (.cells #[.int .u8 (IntKind.u8.wrap (nr:Int)),.int .u8 (IntKind.u8.wrap (nk:Int))] 5 (0,0)):=(by rw[<- hV];exact heap_alloc_new _ _);have hlR3:w.heap.size<=x2.heap.size:=hx2.size;have hL3:x3.heap[x1.heap.size]? =some (.cells #[.int .u8 71,.int .u8 82] 5 (0,0)):=(by rw[<- hV];exact(Below.heap_alloc _ _ _ (Qb hL2).1).trans hL2);have hne:x1.heap.size≠x2.heap.size:=(by have:=(Qb hL2).1;omega);clear hV;refine hK.out _ _ ((hx3.cell (p:=⟨db,0,none⟩) hdl).trans d0) (fun hHeld=>?_);clear hK KK;try simp only[Act.put,sA,sB,sC]
     refine Zk (i:=1) (by kernel_rfl) rfl (fun KK hK=>?_);have hcv:(convert 66 66 (.slice (some ⟨x1.heap.size,0,none⟩) 2 2)).run Tryz.prog x3=.ok (.slice (some ⟨x1.heap.size,0,none⟩) 2 2) (World.freeze x3 ⟨x1.heap.size,2,none⟩ 1):=Zax x3 x1.heap.size 2 2 _ hL3;go_simp;generalize hV:World.freeze x3 ⟨x1.heap.size,2,none⟩ 1=x4;have hx4:Below w.heap.size w x4:=(by rw[<- hV];exact hx3.trans ((Yr x3 x1.heap.size 2).to_below hx3.size (fun q hq=>by rw[hq];exact hlL2)));have hL4:x4.heap[x1.heap.size]? =some (.cells #[.int .u8 71,.int .u8 82] 5 (2,3)):=by rw[<- hV];exact Qo x3 x1.heap.size _ 5 2 hL3
     have hR4:x4.heap[x2.heap.size]? =some (.cells #[.int .u8 (IntKind.u8.wrap (nr:Int)),.int .u8 (IntKind.u8.wrap (nk:Int))] 5 (0,0)):=(by rw[<- hV];exact(Yr x3 x1.heap.size 2).at_ hR3 (fun e=>hne e.symm));clear hV hcv;refine hK.out _ _ ((hx4.cell (p:=⟨db,0,none⟩) hdl).trans d0) (fun hHeld=>?_);clear hK KK;try simp only[Act.put,sA,sB,sC]
     refine Zk (i:=12) (by kernel_rfl) rfl (fun KK hK=>?_);refine Yu rfl (.tmp 11) (.tmp 21) rfl (x1.heap.size) (x2.heap.size) 71 82 (IntKind.u8.wrap (nr:Int)) (IntKind.u8.wrap (nk:Int)) (2,3) (0,0) (by simp[Act.eval]) (by simp[Act.eval]) hL4 hR4 ?_;intro v6 w6 H6;obtain⟨o6,k6,b6,q6,p6,hv6⟩:=H6.out;have hx5:Below w.heap.size w w6:=hx4.trans (b6.mono hx4.size);have HO6:Hid (Ya w w6 v6 [71,82,(nr:Int)%256,(nk:Int)%256]):=⟨hx5,o6,fun k hk=>by rw[k6] at hk;injection hk with hk;rw[<- hk];exact hx4.size⟩;subst hv6;clear H6 o6 k6 b6;refine hK.out _ _ ((hx5.cell (p:=⟨db,0,none⟩) hdl).trans d0) (fun hHeld=>?_);clear hK KK;try simp only[Act.put,sA,sB,sC]
     refine Zx (i:=13) (by kernel_rfl) rfl (by kernel_rfl) (fun KK hK=>?_);go_simp;refine hK.out _ _ ?_;clear hK KK;try simp only[Act.put,sA,sB,sC]
     refine Zz (by kernel_rfl) ?_ _;go_wp2;go_meet
     exact⟨_,_,rfl,HO6.out⟩
   ·skip
    go_simp;generalize hV:World.alloc x1 (.cells #[.int .u8 (IntKind.u8.wrap (nr:Int)),.int .u8 (IntKind.u8.wrap (nk:Int))] 5)=x2;have hx2:Below w.heap.size w x2:=(by rw[<- hV];exact hx1.alloc hx1.size _);have hR2:x2.heap[x1.heap.size]? =some (.cells #[.int .u8 (IntKind.u8.wrap (nr:Int)),.int .u8 (IntKind.u8.wrap (nk:Int))] 5 (0,0)):=(by rw[<- hV];exact heap_alloc_new _ _);have hlR2:w.heap.size<=x1.heap.size:=hx1.size;clear hV;refine hK.out _ _ ((hx2.cell (p:=⟨db,0,none⟩) hdl).trans d0) (fun hHeld=>?_);clear hK KK;try simp only[Act.put,sA,sB,sC]
    refine Zk (i:=0) (by kernel_rfl) rfl (fun KK hK=>?_);go_simp;generalize hV:World.alloc x2 (.cells #[.int .u8 71,.int .u8 82] 5)=x3;have hx3:Below w.heap.size w x3:=(by rw[<- hV];exact hx2.alloc hx2.size _);have hL3:x3.heap[x2.heap.size]? =some (.cells #[.int .u8 71,.int .u8 82] 5 (0,0)):=(by rw[<- hV];exact heap_alloc_new _ _);have hlL3:w.heap.size<=x2.heap.size:=hx2.size;have hR3:x3.heap[x1.heap.size]? =some (.cells #[.int .u8 (IntKind.u8.wrap (nr:Int)),.int .u8 (IntKind.u8.wrap (nk:Int))] 5 (0,0)):=(by rw[<- hV];exact(Below.heap_alloc _ _ _ (Qb hR2).1).trans hR2);have hne:x2.heap.size≠x1.heap.size:=(by have:=(Qb hR2).1;omega);clear hV;refine hK.out _ _ ((hx3.cell (p:=⟨db,0,none⟩) hdl).trans d0) (fun hHeld=>?_);clear hK KK
    try simp only[Act.put,sA,sB,sC]
    refine Zk (i:=1) (by kernel_rfl) rfl (fun KK hK=>?_);have hcv:(convert 66 66 (.slice (some ⟨x2.heap.size,0,none⟩) 2 2)).run Tryz.prog x3=.ok (.slice (some ⟨x2.heap.size,0,none⟩) 2 2) (World.freeze x3 ⟨x2.heap.size,2,none⟩ 1):=Zax x3 x2.heap.size 2 2 _ hL3;go_simp;generalize hV:World.freeze x3 ⟨x2.heap.size,2,none⟩ 1=x4;have hx4:Below w.heap.size w x4:=(by rw[<- hV];exact hx3.trans ((Yr x3 x2.heap.size 2).to_below hx3.size (fun q hq=>by rw[hq];exact hlL3)));have hL4:x4.heap[x2.heap.size]? =some (.cells #[.int .u8 71,.int .u8 82] 5 (2,3)):=by rw[<- hV];exact Qo x3 x2.heap.size _ 5 2 hL3
    have hR4:x4.heap[x1.heap.size]? =some (.cells #[.int .u8 (IntKind.u8.wrap (nr:Int)),.int .u8 (IntKind.u8.wrap (nk:Int))] 5 (0,0)):=(by rw[<- hV];exact(Yr x3 x2.heap.size 2).at_ hR3 (fun e=>hne e.symm));clear hV hcv;refine hK.out _ _ ((hx4.cell (p:=⟨db,0,none⟩) hdl).trans d0) (fun hHeld=>?_);clear hK KK;try simp only[Act.put,sA,sB,sC]
    refine Zk (i:=12) (by kernel_rfl) rfl (fun KK hK=>?_);refine Yu rfl (.tmp 11) (.tmp 21) rfl (x2.heap.size) (x1.heap.size) 71 82 (IntKind.u8.wrap (nr:Int)) (IntKind.u8.wrap (nk:Int)) (2,3) (0,0) (by simp[Act.eval]) (by simp[Act.eval]) hL4 hR4 ?_;intro v6 w6 H6;obtain⟨o6,k6,b6,q6,p6,hv6⟩:=H6.out;have hx5:Below w.heap.size w w6:=hx4.trans (b6.mono hx4.size);have HO6:Hid (Ya w w6 v6 [71,82,(nr:Int)%256,(nk:Int)%256]):=⟨hx5,o6,fun k hk=>by rw[k6] at hk;injection hk with hk;rw[<- hk];exact hx4.size⟩;subst hv6;clear H6 o6 k6 b6;refine hK.out _ _ ((hx5.cell (p:=⟨db,0,none⟩) hdl).trans d0) (fun hHeld=>?_);clear hK KK;try simp only[Act.put,sA,sB,sC]
    refine Zx (i:=13) (by kernel_rfl) rfl (by kernel_rfl) (fun KK hK=>?_);go_simp;refine hK.out _ _ ?_;clear hK KK;try simp only[Act.put,sA,sB,sC]
    refine Zz (by kernel_rfl) ?_ _;go_wp2;go_meet
    exact⟨_,_,rfl,HO6.out⟩
 case rest =>
  obtain⟨a0,c0,rfl,HO⟩:=hcut;have q0:=(HO.out.bl.cell (p:=⟨db,0,none⟩) hdl).trans d0;go_wp2_with fail
  go_loopw [3,28] (fun tv ti wr=>∃(k:Nat) (a:Option Addr) (c n:Nat),tv=.slice a n c/\ti=.int .i64 k/\k<=nk/\n<=4+k*9003/\Hid (Ya w wr (.slice a n c) ([71,82,(nr:Int)%256,(nk:Int)%256]++(D.ks.take k).flatMap knA)/\([71,82,(nr:Int)%256,(nk:Int)%256]++(D.ks.take k).flatMap knA).length=n)) (fun _ ti _=>nk-(intOf ti).toNat)
  case atStart=>exact⟨0,a0,c0,4,rfl,rfl,Qg _,by omega,by rw[List.take_zero];exact⟨HO.out,rfl⟩⟩
  case round=>
   clear HO q0;obtain⟨k,a,c,n,rfl,rfl,hk,hn,HR⟩:=hrel
   by_cases hkl2:k<nk
   ·have hkL:k<D.ks.length:=(by rw[HNN.out.2];exact hkl2);obtain⟨q,cc,ab,cb,aw,cw,hv,hql,k0,k1,k2,k3,hI,hS⟩:=HM.out.kn.at hkL;have hka:ka=some ⟨q,0,none⟩:=(by injection hv);subst hka;have hKm:Zjm (D.ks.getD k ZK):=(by have:D.ks.getD k ZK=D.ks[k]:=(by simp[List.getD,hkL]);rw[this];exact HKS.out.1 _ (Qf hkL));have HKm:Hid (Zjm (D.ks.getD k ZK)):=hKm;have hbw:=HR.out.1.bl;have e0:=(hbw.cell (p:=⟨q,k*4,none⟩) hql).trans k0;have e1:=(hbw.cell (p:=⟨q,k*4+1,none⟩) hql).trans k1;have e2:=(hbw.cell (p:=⟨q,k*4+2,none⟩) hql).trans k2;have e3:=(hbw.cell (p:=⟨q,k*4+3,none⟩) hql).trans k3
    have HX:Hid ([71,82,(nr:Int)%256,(nk:Int)%256]++(D.ks.take (k+1)).flatMap knA=([71,82,(nr:Int)%256,(nk:Int)%256]++(D.ks.take k).flatMap knA)++knA (D.ks.getD k ZK)):=(by show _=_;rw[ZdS knA D.ks ZK hkL,List.append_assoc]);have HKL:Hid ((knA (D.ks.getD k ZK)).length<=9003):=Zn6 hKm
    have HKA:Hid (∀(W:World) (L:List Int),Ya w W (.slice a L.length c) L->L.length<=900000->Calls Tryz.prog 100 #[.agg #[.bool (D.ks.getD k ZK).e.wd,.slice ab (D.ks.getD k ZK).e.bs.length cb,.slice aw (D.ks.getD k ZK).e.ww.length cw,.int .i64 ((D.ks.getD k ZK).d:Nat)],.slice a L.length c] W fun e w'=>Zeq w (L++knA (D.ks.getD k ZK)) e w'):=fun W L hW hL=>by
     rcases hKm with hKm|hKm
     have h1:=Zev w ab aw cb cw (D.ks.getD k ZK) a c L W hKm.1 hI hW hKm.2.2.1 hKm.2.2.2 hL;have e1:knA (D.ks.getD k ZK)=knB (D.ks.getD k ZK):=(by unfold knA;rw[hKm.1];rfl);rw[e1,hKm.2.1];exact h1;have h1:=ZdV w ab aw cb cw (D.ks.getD k ZK) a c L W hKm.1 hS hW hKm.2.2.1 hKm.2.2.2 hL;have e1:knA (D.ks.getD k ZK)=Ziz (D.ks.getD k ZK):=(by unfold knA;rw[hKm.1];rfl);rw[e1,hKm.2.1];exact h1
    clear hKm k0 k1 k2 k3 hI hS hv hbw;generalize D.ks.getD k ZK=Kk at *;generalize [71,82,(nr:Int)%256,(nk:Int)%256]++(D.ks.take k).flatMap knA=L0 at *;have bk1:(0:Int)<=(k:Int):=(by omega);have bk2:(k:Int)<(nk:Int):=(by omega);generalize Kk.e.wd=wdk at *;generalize Kk.e.ww.length=nwk at *;generalize Kk.e.bs.length=nb at *;generalize Kk.d=dd at *;go_wp2_with fail
    have hW:=HR.out.1.below ((Below.refl wr.heap.size wr).alloc (Qa _) (.cells #[.bool wdk,.slice ab nb cb,.slice aw nwk cw,.int .i64 (dd:Nat)] 172));have hC:=HKA.out _ L0 (by rw[HR.out.2];exact hW) (by rw[HR.out.2];omega);rw[HR.out.2] at hC;refine hC.mono ?_;rintro e w3 ⟨a3,c3,rfl,h3⟩;rw[<- HX.out] at h3 ⊢;obtain⟨n3,hn3⟩:∃n3,n3=([71,82,(nr:Int)%256,(nk:Int)%256]++(D.ks.take (k+1)).flatMap knA).length:=⟨_,rfl⟩;have hn4:n3<=4+(k+1)*9003:=by rw[hn3,HX.out,Qe,HR.out.2];have:=HKL.out;omega
    rw[<- hn3] at h3 ⊢;have HN:Hid (Ya w w3 (.slice a3 n3 c3) ([71,82,(nr:Int)%256,(nk:Int)%256]++(D.ks.take (k+1)).flatMap knA)/\([71,82,(nr:Int)%256,(nk:Int)%256]++(D.ks.take (k+1)).flatMap knA).length=n3):=⟨h3,hn3.symm⟩;clear h3 hn3 hC hW HKA HX HR e0 e1 e2 e3;go_wp2;go_roundw;case rel=>exact⟨k+1,a3,c3,n3,rfl,by go_num,by omega,hn4,HN⟩
    case measure=>simp[intOf];omega
   have hnk:¬(k:Int)<(nk:Int):=(by omega);have htk:D.ks.take k=D.ks:=List.take_of_length_le (by have:=HNN.out.2;omega);rw[htk] at HR;obtain⟨ba,bc,hvB⟩:=HM.out.ds.bn.form;subst hvB;have HOF:Hid (ZaK D X=([71,82,(nr:Int)%256,(nk:Int)%256]++D.ks.flatMap knA)++[((D.bs.length:Nat):Int)%256]++D.bs.flatMap Q7++Zad (X.length:Nat) 2++X.flatMap xB):=by show _=_;unfold ZaK;rw[HNN.out.1,HNN.out.2]
   generalize hnb:D.bs.length=nb at *;have HNB:Hid (D.bs.length=nb):=hnb;have HBLB:Hid (nb<=4):=hbl;clear hnb htk hbl;have d1:w.cell? ⟨db,1,none⟩=some (.slice ba nb bc):=cell_of_row _ _ 1 _ 168 (0,0) HM.out.ds.blk;have e1:=(HR.out.1.bl.cell (p:=⟨db,1,none⟩) hdl).trans d1;have hwl:db<wr.heap.size:=Qh hdl HR.out.1.bl.size;generalize [71,82,(nr:Int)%256,(nk:Int)%256]++D.ks.flatMap knA=L1 at *;have HRW:Hid (wr.ownsRow 0 5 1 (.slice a n c) n (L1.map (Value.int .u8))):=by have h1:=HR.out.1.ow;unfold Zo at h1;rw[HR.out.2] at h1;exact h1
   have hn2:n<=36016:=(by omega);go_wp2_with (at_builtin;refine Zd rfl (.tmp 36) (.tmp 43) 66 rfl 0 5 i0 (.int .u8 0) 1 1 Tryz.underlying66 hinf hz0 hz1 hz2 rfl (by decide) _ n (L1.map (Value.int .u8)) rfl (HRW.out.alloc _) ⟨wr.heap.size,0,none⟩ 1 1 [.int .u8 ((nb:Int)%256)] rfl rfl ?_ ?_ ?_ ?_ ?_ ?_ ?_)
   all_goals try first|exact Zu wr #[.int .u8 ((nb:Int)%256)] 5|(intro u hu;simp at hu;rcases hu with rfl;rfl)|exact Qg _|rfl|decide|(unfold maxLen;omega)|omega
   intro v4 w4 H4;obtain⟨r4,g4,d4,_,q4,p4,hv4⟩:=H4.out;have HO4:Hid (Ya w w4 v4 (L1++[(nb:Int)%256])/\(L1++[(nb:Int)%256]).length=n+1):=(by refine⟨HR.out.1.app ?_ (Z8.pre ((Below.refl wr.heap.size wr).alloc (Qa _) _) (Z8.of_mark g4 d4 (by simp))),by rw[Qe,HR.out.2];rfl⟩;refine Zo.more (n:=1) ?_ rfl;rw[HR.out.2];exact r4);have e14:=(HO4.out.1.bl.cell (p:=⟨db,1,none⟩) hdl).trans d1;subst hv4;clear H4 r4 g4 d4 HRW HR e1 hn;generalize L1++[(nb:Int)%256]=L2 at *;obtain⟨wl,hwl3⟩:∃wl,wl=wr:=⟨wr,rfl⟩;subst hwl3;go_wp2_with fail
   go_loopw [3,50] (fun tv ti wr=>∃(j:Nat) (a:Option Addr) (c n:Nat),tv=.slice a n c/\ti=.int .i64 j/\j<=nb/\n<=36017+j*5000/\Hid (Ya w wr (.slice a n c) (L2++(D.bs.take j).flatMap Q7)/\(L2++(D.bs.take j).flatMap Q7).length=n)) (fun _ ti _=>nb-(intOf ti).toNat)
   case atStart=>exact⟨0,_,_,n+1,rfl,rfl,Qg _,by omega,by rw[List.take_zero];show Ya _ _ _ (L2++[])/\(L2++[]).length=_;rw[List.append_nil];exact HO4.out⟩
   case round=>
    clear HO4 e14;obtain⟨j,a,c,n,rfl,rfl,hj,hn,HR⟩:=hrel;have hjb:j<=4:=Nat.le_trans hj HBLB.out
    by_cases hjl:j<nb
    ·have hjL:j<D.bs.length:=(by rw[HNB.out];exact hjl);obtain⟨q,cc,hv,hql,k0,k1⟩:=HM.out.ds.bn.at hjL;have hka:ba=some ⟨q,0,none⟩:=(by injection hv);subst hka;have hBm:ZhY (D.bs.getD j ZH):=(by have:D.bs.getD j ZH=D.bs[j]:=(by simp[List.getD,hjL]);rw[this];exact HKS.out.2.1 _ (Qf hjL));obtain⟨hI,hcol⟩:=HM.out.ds.bn.each j hjL;obtain⟨fa,fcc,hvf⟩:=hI.shape;obtain⟨ct,cp,hvc⟩:=hcol.iface;rw[ZQ] at hvf;rw[hvf] at k0 hI;rw[hvc] at k1 hcol;have hbw:=HR.out.1.bl;have e0:=(hbw.cell (p:=⟨q,j*2,none⟩) hql).trans k0;have e1:=(hbw.cell (p:=⟨q,j*2+1,none⟩) hql).trans k1;have HX:Hid (L2++(D.bs.take (j+1)).flatMap Q7=(L2++(D.bs.take j).flatMap Q7)++Q7 (D.bs.getD j ZH)):=by show _=_;rw[ZdS Q7 D.bs ZH hjL,List.append_assoc]
     have HKL:Hid ((Q7 (D.bs.getD j ZH)).length<=5000):=hBm.2.2.2.2
     have HKA:Hid (∀(W:World) (L:List Int),Ya w W (.slice a L.length c) L->L.length<=900000->Calls Tryz.prog 101 #[.agg #[.slice fa (D.bs.getD j ZH).fs.length fcc,.iface ct (.pointer (some ⟨cp,0,none⟩))],.slice a L.length c] W fun e w'=>Zeq w (L++Q7 (D.bs.getD j ZH)) e w'):=fun W L hW hL=>
      ZdL w fa fcc (D.bs.getD j ZH) _ a c L W hI hcol hW hBm.1 hBm.2.1 hL hBm.2.2.1 hBm.2.2.2.1
     clear hBm k0 k1 hI hcol hv hbw hvf hvc;generalize D.bs.getD j ZH=Bk at *;generalize L2++(D.bs.take j).flatMap Q7=L0 at *;generalize Bk.fs.length=nf at *;have bk1:(0:Int)<=(j:Int):=(by omega);have bk2:(j:Int)<(nb:Int):=(by omega);go_wp2_with fail
     have hW:=HR.out.1.below ((Below.refl wr.heap.size wr).alloc (Qa _) (.cells #[.slice fa nf fcc,.iface ct (.pointer (some ⟨cp,0,none⟩))] 163));have hC:=HKA.out _ L0 (by rw[HR.out.2];exact hW) (by rw[HR.out.2];have:=HBLB.out;omega);rw[HR.out.2] at hC;refine hC.mono ?_;rintro e w3 ⟨a3,c3,rfl,h3⟩;rw[<- HX.out] at h3 ⊢;obtain⟨n3,hn3⟩:∃n3,n3=(L2++(D.bs.take (j+1)).flatMap Q7).length:=⟨_,rfl⟩;have hn4:n3<=36017+(j+1)*5000:=by rw[hn3,HX.out,Qe,HR.out.2];have:=HKL.out;omega
     rw[<- hn3] at h3 ⊢;have HN:Hid (Ya w w3 (.slice a3 n3 c3) (L2++(D.bs.take (j+1)).flatMap Q7)/\(L2++(D.bs.take (j+1)).flatMap Q7).length=n3):=⟨h3,hn3.symm⟩;clear h3 hn3 hC hW HKA HX HR e0 e1;go_wp2;go_roundw;case rel=>exact⟨j+1,a3,c3,n3,rfl,by go_num,by omega,hn4,HN⟩
     case measure=>simp[intOf];omega
    have hnj:¬(j:Int)<(nb:Int):=(by omega);have htk:D.bs.take j=D.bs:=List.take_of_length_le (by have:=HNB.out;omega);rw[htk] at HR;obtain⟨xa,xc,hvX⟩:=HM.out.ds.xn.shape;subst hvX;have d2:w.cell? ⟨db,2,none⟩=some (.slice xa X.length xc):=cell_of_row _ _ 2 _ 168 (0,0) HM.out.ds.blk;have e2:=(HR.out.1.bl.cell (p:=⟨db,2,none⟩) hdl).trans d2;have hn2:n<=56017:=(by omega);have HOG:Hid (ZaK D X=(L2++D.bs.flatMap Q7++Zad (X.length:Nat) 2)++X.flatMap xB):=HOF.out;generalize hL3:L2++D.bs.flatMap Q7=L3 at *
    have HAL:Calls Tryz.prog 102 #[.slice a n c,.int .i64 (X.length:Nat),.int .i64 2] wr fun e w'=>Zeq w (L3++Zad (X.length:Nat) 2) e w':=(by have h1:=HR.out.1;rw[<- HR.out.2] at h1 ⊢;exact(Zbb a c 2 L3 (X.length:Nat) wr h1.ow (by omega) (by rw[HR.out.2];omega) (by omega) (by omega)).mono (fun e w' h=>h.out h1));clear htk hL3 HOF;generalize hxn:X.length=xn at *;have HXN:Hid (X.length=xn):=hxn;clear hxn;go_wp2_with fail
    refine HAL.mono ?_;rintro e w5 ⟨a5,c5,rfl,h5⟩;obtain⟨n5,hn5⟩:∃n5,n5=(L3++Zad (xn:Nat) 2).length:=⟨_,rfl⟩;have hn6:n5=n+2:=(by rw[hn5,Qe,Zca,HR.out.2]);have hn7:n5<=56019:=(by omega);rw[<- hn5] at h5 ⊢;have HO5:Hid (Ya w w5 (.slice a5 n5 c5) (L3++Zad (xn:Nat) 2)/\(L3++Zad (xn:Nat) 2).length=n5):=⟨h5,hn5.symm⟩;have e5:=(h5.bl.cell (p:=⟨db,2,none⟩) hdl).trans d2;clear h5 hn5 hn6 HAL HR e2 hn;generalize L3++Zad (xn:Nat) 2=L5 at *;obtain⟨wm,hwm⟩:∃wm,wm=wr:=⟨wr,rfl⟩;subst hwm;go_wp2_with fail
    go_loopw [3,70] (fun tv ti wr=>∃(r:Nat) (a:Option Addr) (c n:Nat),tv=.slice a n c/\ti=.int .i64 r/\r<=xn/\n=n5+r*3/\Hid (Ya w wr (.slice a n c) (L5++(X.take r).flatMap xB)/\(L5++(X.take r).flatMap xB).length=n)) (fun _ ti _=>xn-(intOf ti).toNat)
    case atStart=>exact⟨0,_,_,n5,rfl,rfl,Qg _,rfl,by rw[List.take_zero];show Ya _ _ _ (L5++[])/\(L5++[]).length=_;rw[List.append_nil];exact HO5.out⟩
    case round=>
     clear HO5 e5;obtain⟨r,a,c,n,rfl,rfl,hr,hn,HR⟩:=hrel
     by_cases hrl:r<xn
     ·have hrL:r<X.length:=(by rw[HXN.out];exact hrl);obtain⟨q,hq,hql,k0,k1,k2⟩:=ZaC.atK HM.out.ds.xn HXN.out hrl;subst hq;have hbw:=HR.out.1.bl;have e0:=(hbw.cell (p:=⟨q,r*3,none⟩) hql).trans k0;have e1:=(hbw.cell (p:=⟨q,r*3+1,none⟩) hql).trans k1;have e2:=(hbw.cell (p:=⟨q,r*3+2,none⟩) hql).trans k2;have HX:Hid (L5++(X.take (r+1)).flatMap xB=(L5++(X.take r).flatMap xB)++[(((X.getD r x0S).row:Nat):Int)%256,(((X.getD r x0S).f:Nat):Int)%256,(((X.getD r x0S).bin:Nat):Int)%256]):=(by show _=_;rw[ZdS xB X x0S hrL,List.append_assoc];rfl);clear k0 k1 k2 hbw;generalize L5++(X.take r).flatMap xB=L0 at *;generalize (X.getD r x0S).row=y0 at *;generalize (X.getD r x0S).f=y1 at *;generalize (X.getD r x0S).bin=y2 at *
      have HRW:Hid (wr.ownsRow 0 5 1 (.slice a n c) n (L0.map (Value.int .u8))):=(by have h1:=HR.out.1.ow;unfold Zo at h1;rw[HR.out.2] at h1;exact h1);have HNE:Hid (n=n5+r*3):=hn;have hn9:n<=70000:=(by omega);clear hn;have bk1:(0:Int)<=(r:Int):=(by omega);have bk2:(r:Int)<(xn:Int):=(by omega);go_wp2_with (at_builtin;refine Zd rfl (.tmp 74) (.tmp 84) 66 rfl 0 5 i0 (.int .u8 0) 1 1 Tryz.underlying66 hinf hz0 hz1 hz2 rfl (by decide) _ n (L0.map (Value.int .u8)) rfl ((HRW.out.alloc _).alloc _) ⟨wr.heap.size+1,0,none⟩ 3 3 [.int .u8 ((y0:Int)%256),.int .u8 ((y1:Int)%256),.int .u8 ((y2:Int)%256)] rfl rfl ?_ ?_ ?_ ?_ ?_ ?_ ?_)
      intro j u hu;have h1:=Zu (wr.alloc (.cells #[.int .i64 (y0:Nat),.int .i64 (y1:Nat),.int .i64 (y2:Nat)] 184)) #[.int .u8 ((y0:Int)%256),.int .u8 ((y1:Int)%256),.int .u8 ((y2:Int)%256)] 5 j u hu;rw[show(wr.alloc (.cells #[.int .i64 (y0:Nat),.int .i64 (y1:Nat),.int .i64 (y2:Nat)] 184)).heap.size=wr.heap.size+1 by simp] at h1;exact h1
      ·intro u hu;simp at hu;rcases hu with rfl|rfl|rfl<;>rfl
      decide;unfold maxLen;omega;omega;simp;intro v7 w7 H7;obtain⟨r7,g7,d7,_,q7,p7,hv7⟩:=H7.out;have HN:Hid (Ya w w7 v7 (L5++(X.take (r+1)).flatMap xB)/\(L5++(X.take (r+1)).flatMap xB).length=n+3):=by have hbx:Below wr.heap.size wr ((wr.alloc (.cells #[.int .i64 (y0:Nat),.int .i64 (y1:Nat),.int .i64 (y2:Nat)] 184)).alloc (.cells #[.int .u8 ((y0:Int)%256),.int .u8 ((y1:Int)%256),.int .u8 ((y2:Int)%256)] 5)):=((Below.refl _ _).alloc (Qa _) _).alloc (by simp) _;rw[HX.out];refine⟨HR.out.1.app ?_ (Z8.pre hbx (Z8.of_mark g7 d7 (by simp))),by rw[Qe,HR.out.2];rfl⟩;refine Zo.more (n:=3) ?_ rfl;rw[HR.out.2];exact r7
      subst hv7;clear H7 r7 g7 d7 HRW HR HX e0 e1 e2;go_wp2;go_roundw;case rel=>exact⟨r+1,some ⟨q7,0,none⟩,p7,n+3,rfl,by go_num,by omega,by have:=HNE.out;omega,HN⟩
      case measure=>simp[intOf];omega
     have hnr2:¬(r:Int)<(xn:Int):=(by omega);have htk:X.take r=X:=List.take_of_length_le (by have:=HXN.out;omega);rw[htk,<- HOG.out] at HR;have hn9:n<=70000:=by omega
     have HCS:Calls Tryz.prog 103 #[.slice a n c] wr fun e w'=>e=.returned (.int .u32 (Ze1 (ZaK D X)))/\w'=wr:=(by have h1:=HR.out.1.ow;rw[<- HR.out.2] at h1 ⊢;exact Zhf a c (ZaK D X) wr h1 (by rw[HR.out.2];omega) HKS.out.2.2);have hz:=Zcm .xor 4294967295 (ZoQ (ZaK D X));have hz':0<=Ze1 (ZaK D X)/\Ze1 (ZaK D X)<4294967296:=hz;have HBF:Hid (Zah D X=ZaK D X++Zad (Ze1 (ZaK D X)) 4):=rfl;have HAL:Calls Tryz.prog 102 #[.slice a n c,.int .i64 (Ze1 (ZaK D X)),.int .i64 4] wr fun e w'=>Zeq w (ZaK D X++Zad (Ze1 (ZaK D X)) 4) e w':=by have h1:=HR.out.1;rw[<- HR.out.2] at h1 ⊢;exact(Zbb a c 4 (ZaK D X) (Ze1 (ZaK D X)) wr h1.ow (by omega) (by rw[HR.out.2];omega) (by omega) (by omega)).mono (fun e w' h=>h.out h1)
     rw[<- HBF.out] at HAL;clear htk hz hn HBF;generalize Ze1 (ZaK D X)=z at *;obtain⟨hz1',hz2'⟩:=hz';go_wp2_with fail
     refine HCS.mono ?_;rintro e w8 ⟨rfl,hw8⟩;obtain rfl:=hw8.symm;clear HCS;go_wp2_with fail
     refine HAL.mono ?_;rintro e w9 ⟨a9,c9,rfl,h9⟩;have hcv:=Zil w9 0 (.slice a9 (Zah D X).length c9) (Zah D X) h9.ow;have HB9:Hid (Below w.heap.size w w9):=h9.bl;generalize (Zah D X).length=n9 at *;clear h9 HAL HR;go_wp2;go_ret;exact⟨rfl,HB9.out⟩
theorem ZjP(gb db:Nat)(vK vB vX:Value)(kvs bvs:List (Value×Value))(X:List XS)(D:DSS)(w:World)(hg:w.heap[gb]? =some (.cells #[.pointer (some ⟨db,0,none⟩)] 110 (0,0)))(h:Zbg w db vK vB vX kvs bvs X D)(h0:0<D.bs.length)(hks:∀K∈D.ks,Zjm K)(hkl:D.ks.length<=4)(hbs:∀b∈D.bs,ZhY b)(hbl:D.bs.length<=4)(hxl:X.length<=4000)(hby:∀b∈ZaK D X,0<=b/\b<256):Calls Tryz.prog 34 #[.pointer (some ⟨gb,0,none⟩)] w fun e w'=>e=.returned (.string (strOfNums (Zah D X)))/\Below w.heap.size w w':=by
 have g0:w.cell? ⟨gb,0,none⟩=some (.pointer (some ⟨db,0,none⟩)):=cell_of_row _ _ 0 _ 110 (0,0) hg
 have HB:=Zlt db vK vB vX kvs bvs X D w h h0 hks hkl hbs hbl hxl hby
 clear hg h h0 hks hkl hbs hbl hxl hby
 generalize strOfNums (Zah D X)=sb at *;go_enter Tryz.func34,Tryz.ntmps34;go_wp2_with fail
 refine HB.mono ?_;rintro e w2 ⟨rfl,hb⟩;have H2:Hid (Below w.heap.size w w2):=hb;clear hb;go_wp2;go_ret;exact⟨rfl,H2.out⟩
theorem ZfI(n d:Int)(w:World):Calls Tryz.prog 330 #[.agg #[.int .i64 n,.int .i64 d]] w fun e w'=>e=.returned (.int .i64 d)/\Below w.heap.size w w':=by go_enter Tryz.func330,Tryz.ntmps330;go_wp2;go_ret;exact⟨rfl,(Below.refl _ _).alloc (Qa _) _⟩
theorem ZiG{f:Nat->Nat}(hf:∀t,f t<=1)(b:Nat):∀c r,r<c->ZbS f b c/2^r%2=f (b+r)
 |0,r,h=>by omega
 | c+1,r,h=>by
  simp only[ZbS]
  by_cases e:r=c
  subst e;have h1:=Zdq hf b r;have h2:=hf (b+r);rw[Nat.add_mul_div_right _ _ (Nat.two_pow_pos r),Nat.div_eq_of_lt h1];omega;have hr:r<c:=(by omega);have ih:=ZiG hf b c r hr;have h3:f (b+c)*2^c=f (b+c)*2^(c-r-1)*2*2^r:=(by have:(2:Nat)^c=2^(c-r-1)*2*2^r:=(by rw[Nat.mul_assoc,<- Nat.pow_succ',<- Nat.pow_add];congr 1;omega);rw[this];simp only[Nat.mul_assoc]);rw[h3,Nat.add_mul_div_right _ _ (Nat.two_pow_pos r)];omega
theorem Zls{f:Nat->Nat}(hf:∀t,f t<=1){T t:Nat}(h:t<T):QL f T (t/8)/2^(t%8)%2=f t:=by unfold QL;rw[ZiG hf _ _ _ (by omega)];congr 1;omega
theorem ZiH{f:Nat->Nat}(n b:Nat):∀c,(∀i,i<c->f (b+i)=n/2^i%2)->ZbS f b c=n%2^c
 |0,_=>by simp[ZbS,Nat.mod_one]
 |c+1,h=>by simp only[ZbS];rw[ZiH n b c (fun i hi=>h i (by omega)),h c (by omega),Nat.mod_pow_succ,Nat.mul_comm (2^c)]
theorem Zgu(N:List Nat){d row:Nat}(h:N.getD row 0<2^d):ZbS (Y3 N d) (row*d) d=N.getD row 0:=by rw[ZiH (N.getD row 0) (row*d) d (fun i hi=>?_),Nat.mod_eq_of_lt h];unfold Y3;have e1:(row*d+i)/d=row:=(by rw[Nat.mul_comm,Nat.mul_add_div (by omega),Nat.div_eq_of_lt hi,Nat.add_zero]);have e2:(row*d+i)%d=i:=(by rw[Nat.mul_comm,Nat.mul_add_mod,Nat.mod_eq_of_lt hi]);rw[e1,e2]
theorem Zmq(n:Int)(h₀:0<=n)(h₁:n<2^8):IntKind.i64.wrap n=n:=ZD (by omega) (by omega)
theorem ZnM(a b:Nat)(ha:a<256)(hb:b<256):bits .or .i64 a b=((a|||b:Nat):Int):=(bits_nat .i64 8 (by decide) Zmq a b (by omega) (by omega)).2
theorem Zd9(db q n d nb T row:Nat)(f:Nat->Nat)(w:World)(hD:Zeo w 0 db q n d (ZV f nb T))(hf:∀t,f t<=1)(hd:d<=6)(hrow:row*d+d<=T)(hT:T<=8*nb)(hT2:T<=2000):Calls Tryz.prog 323 #[.pointer (some ⟨db,0,none⟩),.int .i64 (row:Nat)] w fun e w'=>e=.returned (.int .i64 (ZbS f (row*d) d:Nat))/\Below w.heap.size w w':=by
 have HD:Hid (Zeo w 0 db q n d (ZV f nb T)):=hD;have HF:Hid (∀t,f t<=1):=hf;have hnl:=Zbo f nb T;have b0:w.cell? ⟨db,0,none⟩=some (.int .i64 (n:Nat)):=cell_of_row _ _ 0 _ 396 (0,0) hD.blk;have b1:w.cell? ⟨db,1,none⟩=some (.int .i64 (d:Nat)):=cell_of_row _ _ 1 _ 396 (0,0) hD.blk;have b2:w.cell? ⟨db,2,none⟩=some (.slice (some ⟨q,0,none⟩) nb nb):=by have h1:=cell_of_row _ _ 2 _ 396 (0,0) hD.blk;rw[hnl] at h1;exact h1
 have hdl:db<w.heap.size:=(Qb hD.blk).1;have HW:Hid (∀(n d:Int) (W:World),Calls Tryz.prog 330 #[.agg #[.int .i64 n,.int .i64 d]] W fun e w'=>e=.returned (.int .i64 d)/\Below W.heap.size W w'):=ZfI;obtain⟨P,hP⟩:∃P,P=row*d:=⟨_,rfl⟩;have q0:(row:Int)*(d:Int)=(P:Int):=(by rw[hP];simp);rw[<- hP] at hrow ⊢;have q0w:IntKind.i64.wrap (P:Int)=(P:Int):=ZD (by omega) (by omega);have HPL:Hid (ZV f nb T=ZV f nb T/\(ZV f nb T).length=nb):=⟨rfl,hnl⟩;clear hD hf hP hnl;go_enter Tryz.func323,Tryz.ntmps323;go_wp2_with fail
 refine(HW.out _ _ _).mono ?_;rintro e w1 ⟨rfl,hb1⟩;have c0:=(hb1.cell (p:=⟨db,0,none⟩) hdl).trans b0;have c1:=(hb1.cell (p:=⟨db,1,none⟩) hdl).trans b1;have hl1:db<w1.heap.size:=Qh hdl hb1.size;have HB1:Hid (Below w.heap.size w w1):=hb1;clear hb1;go_wp2_with fail
 refine(HW.out _ _ _).mono ?_;rintro e w2 ⟨rfl,hb2⟩;have HB2:Hid (Below w.heap.size w w2):=HB1.out.trans (hb2.mono HB1.out.size);clear hb2 c0 c1 hl1 HB1;have c2:=(HB2.out.cell (p:=⟨db,2,none⟩) hdl).trans b2;go_wp2_with fail
 go_loopw [5,21] (fun tn ti wr=>∃(i m:Nat),tn=.int .i64 (m:Nat)/\ti=.int .i64 i/\i<=d/\Hid (m=ZbS f P i)/\Hid (w2=wr)) (fun _ ti _=>d-(intOf ti).toNat)
 case atStart=>exact⟨0,0,rfl,rfl,Qg _,rfl,rfl⟩
 case round=>
  obtain⟨i,m,rfl,rfl,hi,HMm,hw⟩:=hrel;have hw2:=hw.out;subst hw2;clear hw
  by_cases hid:i<d
  ·obtain⟨T1,hT1⟩:∃T1,T1=P+i:=⟨_,rfl⟩;obtain⟨J,hJ⟩:∃J,J=T1/8:=⟨_,rfl⟩;obtain⟨R,hR⟩:∃R,R=T1%8:=⟨_,rfl⟩;have hJn:J<nb:=(by omega);have hbk:(ZV f nb T).getD J 0=((QL f T J:Nat):Int):=ZfC f T hJn;obtain⟨q',hq',hql,cf⟩:=HD.out.row.atK rfl (k:=J) (by rw[HPL.out.2];exact hJn);have hqq:q'=q:=(by injection hq' with h1;injection h1 with h1 _;exact h1.symm);subst hqq;rw[hbk] at cf;have cf2:=(HB2.out.cell (p:=⟨q',J,none⟩) hql).trans cf;obtain⟨y,hy⟩:∃y,y=QL f T J:=⟨_,rfl⟩;have hy256:y<256:=(by rw[hy];exact Zie HF.out T J);rw[<- hy] at cf2;obtain⟨bt,hbt⟩:∃bt,bt=f T1:=⟨_,rfl⟩;have hbit:y/2^R%2=bt:=(by rw[hy,hJ,hR,hbt];exact Zls HF.out (by omega));have hb1:bt<=1:=by rw[hbt];exact HF.out _
   have hm2:m<2^i:=(by rw[HMm.out];exact Zdq HF.out _ _);have h2i:(2:Nat)^i<=2^5:=Nat.pow_le_pow_right (by decide) (by omega);obtain⟨z,hz⟩:∃z,z=bt*2^i:=⟨_,rfl⟩;have hz1:bt*2^i<=1*2^i:=Nat.mul_le_mul_right _ hb1;have hz256:z<256:=by omega
   have HNX:Hid (m+z=ZbS f P (i+1)):=by show m+z=ZbS f P i+f (P+i)*2^i;rw[<- HMm.out,hz,hbt,hT1]
   have q1:(P:Int)+(i:Int)=(T1:Int):=(by omega);have q2:(T1:Int).tdiv 8=(J:Int):=(by rw[Int.tdiv_eq_ediv_of_nonneg (by omega)];omega);have q3:(T1:Int)/8=(J:Int):=(by omega);have q4:(T1:Int).tmod 8=(R:Int):=(by rw[Int.tmod_eq_emod_of_nonneg (by omega)];omega);have q5:(T1:Int)%8=(R:Int):=by omega
   have q6:bits BinOp.and IntKind.u8 ((y:Int)/2^R) 1=(bt:Int):=(by have e:((y:Int)/2^R)=((y/2^R:Nat):Int):=(by simp);rw[e];have h1:=(Zjt (y/2^R) 1 (Nat.lt_of_le_of_lt (Nat.div_le_self _ _) hy256) (by decide)).1;rw[ZkI] at h1;rw[show((1:Nat):Int)=1 from rfl] at h1;rw[h1,hbit]);have q7:IntKind.i64.wrap (T1:Int)=(T1:Int):=ZD (by omega) (by omega);have q8:IntKind.i64.wrap (J:Int)=(J:Int):=ZD (by omega) (by omega);have q9:IntKind.i64.wrap ((bt:Int)*2^i)=(z:Int):=(by have e:((bt:Int)*2^i)=(z:Int):=(by rw[hz];simp);rw[e];exact ZD (by omega) (by omega));have q10:bits BinOp.or IntKind.i64 (m:Int) (z:Int)=((m+z:Nat):Int):=by rw[ZnM m z (by omega) hz256,hz,Zni hm2]
   obtain⟨u,hu⟩:∃u,u=m+z:=⟨_,rfl⟩;rw[<- hu] at q10 HNX;have br1:(0:Int)<=(R:Int):=(by omega);have br2:(R:Int)<=8:=(by omega);have bi1:(0:Int)<=(i:Int):=(by omega);have bi2:(i:Int)<(d:Int):=(by omega);have bi3:(i:Int)<=64:=(by omega);have bj1:(0:Int)<=(J:Int):=(by omega);have bj2:(J:Int)<(nb:Int):=(by omega);clear hz1 hbit hm2 h2i hz hu hy hbt hJ hR hT1 hbk cf HMm hq';go_wp2;go_roundw;case rel=>exact⟨i+1,u,rfl,by go_num,by omega,HNX,True.intro⟩
   case measure=>simp[intOf];omega
  have hnd:¬(i:Int)<(d:Int):=(by omega);have hid2:i=d:=(by omega);have HF2:Hid (m=ZbS f P d):=(by rw[<- hid2];exact HMm);clear hid2 HMm;go_wp2;go_ret;rw[<- HF2.out];exact⟨rfl,HB2.out⟩
structure ZbU(D:DSS)(f bi p:Nat):Prop where
 hb:bi<D.bs.length
 hp:p<(D.bs.getD bi ZH).fs.length
 at_:(D.bs.getD bi ZH).fs.getD p 0=f
 no:∀i j,i<=bi->j<(D.bs.getD i ZH).fs.length->(i<bi∨j<p)->(D.bs.getD i ZH).fs.getD j 0≠f
 fl:∀i,i<=bi->(D.bs.getD i ZH).fs.length<=100
 fk:∀i j,i<=bi->j<(D.bs.getD i ZH).fs.length->(D.bs.getD i ZH).fs.getD j 0<D.ks.length
 mn:∀i,i<D.ks.length->(D.ks.getD i ZK).many<=100
def QG(D:DSS)(i j:Nat):Nat:=1+ZaM D.ks ((D.bs.getD i ZH).fs.take j)
theorem ZhM(Ks:List KS):∀fs:List Nat,(∀f∈fs,(Ks.getD f ZK).many<=100)->ZaM Ks fs<=100*fs.length
 |[],_=>by simp[ZaM]
 |f::fs,h=>by have h1:=ZhM Ks fs (fun x hx=>h x (by simp[hx]));have h2:=h f (by simp);unfold ZaM at h1 ⊢;simp only[List.map_cons,List.sum_cons,List.length_cons];omega
theorem ZfH(db f bi p:Nat)(vK vB vX:Value)(kvs bvs:List (Value×Value))(X:List XS)(D:DSS)(w:World)(h:Zbg w db vK vB vX kvs bvs X D)(hs:ZbU D f bi p)(hbl:D.bs.length<=1000):Calls Tryz.prog 145 #[.pointer (some ⟨db,0,none⟩),.int .i64 (f:Nat)] w fun e w'=>e=.returned (.tuple #[.agg #[(bvs.getD bi vv0).1,(bvs.getD bi vv0).2],.int .i64 (QG D bi p:Nat)])/\Below w.heap.size w w':=by
 have HM:Hid (Zbg w db vK vB vX kvs bvs X D):=h;have HS:Hid (ZbU D f bi p):=hs;obtain⟨qb,cB,hvB,hqbl,_,_⟩:=h.ds.bn.at (i:=0) (by have:=hs.hb;omega);subst hvB;have hkpos:0<D.ks.length:=(by have:=hs.fk bi p (Qa _) hs.hp;omega);obtain⟨qk,cK,_,_,_,_,hvK,hqkl,_⟩:=h.kn.at (i:=0) hkpos;subst hvK;have d1:w.cell? ⟨db,1,none⟩=some (.slice (some ⟨qb,0,none⟩) D.bs.length cB):=cell_of_row _ _ 1 _ 168 (0,0) h.ds.blk;have d0:w.cell? ⟨db,0,none⟩=some (.slice (some ⟨qk,0,none⟩) D.ks.length cK):=cell_of_row _ _ 0 _ 168 (0,0) h.ds.blk;have hdl:db<w.heap.size:=(Qb h.ds.blk).1;clear h hs;generalize hnb:D.bs.length=nb at *;generalize hnk:D.ks.length=nk at *;have HN:Hid (D.bs.length=nb/\D.ks.length=nk):=⟨hnb,hnk⟩;clear hnb hnk;go_enter Tryz.func145,Tryz.ntmps145;go_wp2_with fail
 go_loopw [13] (fun ti wr=>∃(i:Nat) (u0 u1:Value),ti=.int .i64 i/\i<=bi/\Hid (wr.heap[w.heap.size]? =some (.cells #[u0,u1] 163 (0,0))/\Below w.heap.size w wr)) (fun ti _=>nb-(intOf ti).toNat)
 case atStart=>exact⟨0,.slice none 0 0,.nilIface,rfl,Qg _,heap_alloc_new _ _,(Below.refl _ _).alloc (Qa _) _⟩
 case round=>
  obtain⟨i,u0,u1,rfl,hib,HR⟩:=hrel;have hin:i<nb:=(by have:=HS.out.hb;have:=HN.out.1;omega);have hiL:i<D.bs.length:=(by rw[HN.out.1];exact hin);obtain⟨q',c',hv',hql,k0,k1⟩:=HM.out.ds.bn.at hiL;have hqq:q'=qb:=(by injection hv' with h1;injection h1 with h1;injection h1 with h1 _;exact h1.symm);subst hqq;obtain⟨hI,hcol⟩:=HM.out.ds.bn.each i hiL;obtain⟨fa,fcc,hvf⟩:=hI.shape;obtain⟨ct,cp,hvc⟩:=hcol.iface;rw[ZQ] at hvf;rw[hvf] at k0 hI;rw[hvc] at k1;have HVF:Hid ((bvs.getD i vv0).1=.slice fa (D.bs.getD i ZH).fs.length fcc/\(bvs.getD i vv0).2=.iface ct (.pointer (some ⟨cp,0,none⟩))):=⟨hvf,hvc⟩;have e0:=(HR.out.2.cell (p:=⟨q',i*2,none⟩) hql).trans k0;have e1:=(HR.out.2.cell (p:=⟨q',i*2+1,none⟩) hql).trans k1
  have r0:wr.cell? ⟨w.heap.size,0,none⟩=some u0:=cell_of_row _ _ 0 _ 163 (0,0) HR.out.1;have r1:wr.cell? ⟨w.heap.size,1,none⟩=some u1:=cell_of_row _ _ 1 _ 163 (0,0) HR.out.1;have f0:wr.frozen? ⟨w.heap.size,0,none⟩=false:=frozen_of_row _ _ 0 _ 163 HR.out.1;have f1:wr.frozen? ⟨w.heap.size,1,none⟩=false:=frozen_of_row _ _ 1 _ 163 HR.out.1;have HI:Hid (Ze w 0 (.slice fa (D.bs.getD i ZH).fs.length fcc) (ZP (D.bs.getD i ZH).fs)):=hI;have HFL:=HS.out.fl i hib;have bi1:(0:Int)<=(i:Int):=(by omega);have bi2:(i:Int)<(nb:Int):=(by omega);clear hvf hvc hI hcol k0 k1 hv';generalize hnf:(D.bs.getD i ZH).fs.length=nf at *;have HNF:Hid ((D.bs.getD i ZH).fs.length=nf):=hnf;clear hnf
  have HW2:Hid (((wr.setCell ⟨w.heap.size,0,none⟩ (.slice fa nf fcc)).setCell ⟨w.heap.size,1,none⟩ (.iface ct (.pointer (some ⟨cp,0,none⟩)))).heap[w.heap.size]? =some (.cells #[.slice fa nf fcc,.iface ct (.pointer (some ⟨cp,0,none⟩))] 163 (0,0))/\Below w.heap.size w ((wr.setCell ⟨w.heap.size,0,none⟩ (.slice fa nf fcc)).setCell ⟨w.heap.size,1,none⟩ (.iface ct (.pointer (some ⟨cp,0,none⟩))))):=
   ⟨heap_setCell_same _ _ 1 _ 163 _ (heap_setCell_same _ _ 0 _ 163 _ HR.out.1),(HR.out.2.setCell (Qa w.heap.size) _).setCell (Qa w.heap.size) _⟩
  go_upto_region 4 with fail;generalize (wr.setCell ⟨w.heap.size,0,none⟩ (.slice fa nf fcc)).setCell ⟨w.heap.size,1,none⟩ (.iface ct (.pointer (some ⟨cp,0,none⟩)))=w2 at *;clear r0 r1 f0 f1 e0 e1 HR;have s0:w2.cell? ⟨w.heap.size,0,none⟩=some (.slice fa nf fcc):=cell_of_row _ _ 0 _ 163 (0,0) HW2.out.1;go_wp2_with fail
  obtain⟨wl,hwl⟩:∃wl,wl=wr:=⟨wr,rfl⟩;subst hwl;go_loopw [5,20] (fun tof tj wr=>∃(j:Nat),tof=.int .i64 (QG D i j:Nat)/\tj=.int .i64 j/\j<=nf/\(i=bi->j<=p)/\Hid (wr.heap[w.heap.size]? =some (.cells #[.slice fa nf fcc,.iface ct (.pointer (some ⟨cp,0,none⟩))] 163 (0,0))/\Below w.heap.size w wr)) (fun _ tj _=>nf-(intOf tj).toNat)
  case atStart=>exact⟨0,rfl,rfl,Qg _,fun _=>Qg _,HW2.out⟩
  case round=>
   clear HW2 s0;obtain⟨j,rfl,rfl,hj,hjp,HR⟩:=hrel;have r0:wr.cell? ⟨w.heap.size,0,none⟩=some (.slice fa nf fcc):=cell_of_row _ _ 0 _ 163 (0,0) HR.out.1;have r1:wr.cell? ⟨w.heap.size,1,none⟩=some (.iface ct (.pointer (some ⟨cp,0,none⟩))):=cell_of_row _ _ 1 _ 163 (0,0) HR.out.1;have f0:wr.frozen? ⟨w.heap.size,0,none⟩=false:=frozen_of_row _ _ 0 _ 163 HR.out.1;have f1:wr.frozen? ⟨w.heap.size,1,none⟩=false:=frozen_of_row _ _ 1 _ 163 HR.out.1;have hsz:=HR.out.2.size
   have hoff:QG D i j<=10001:=by
    have h1:=ZhM D.ks ((D.bs.getD i ZH).fs.take j) (fun x hx=>by
     obtain⟨y,hy,rfl⟩:=List.getElem_of_mem hx;have hy2:y<(D.bs.getD i ZH).fs.length:=(by rw[List.length_take] at hy;omega);have h2:=HS.out.fk i y hib hy2;have h3:(D.bs.getD i ZH).fs.getD y 0=((D.bs.getD i ZH).fs.take j)[y]:=(by rw[List.getD,Qd hy2,List.getElem_take];rfl);rw[h3] at h2
     exact HS.out.mn _ h2)
    have h4:((D.bs.getD i ZH).fs.take j).length<=100:=(by rw[List.length_take];have:=HNF.out;omega);unfold QG;omega
   by_cases hjn:j<nf
   ·have hjL:j<(D.bs.getD i ZH).fs.length:=(by rw[HNF.out];exact hjn);have hIw:Ze wr 0 (.slice fa nf fcc) (ZP (D.bs.getD i ZH).fs):=HI.out.below HR.out.2;obtain⟨qf,hqf,hqfl,_,y0,_⟩:=hIw.atK (by rw[ZQ];exact HNF.out) hjn;rw[YO] at y0;subst hqf;have hfk:=HS.out.fk i j hib hjL;rw[HN.out.2] at hfk
    have HNX:Hid (QG D i (j+1)=QG D i j+(D.ks.getD ((D.bs.getD i ZH).fs.getD j 0) ZK).many):=by
     show 1+ZaM D.ks ((D.bs.getD i ZH).fs.take (j+1))=1+ZaM D.ks ((D.bs.getD i ZH).fs.take j)+_
     have key:∀(B:List Nat),j<B.length->B.take (j+1)=B.take j++[B.getD j 0]:=fun B hB=>by rw[Qi hB];simp[List.getD,hB]
     have this:=key _ hjL;rw[this,Zg1];omega
    have bj1:(0:Int)<=(j:Int):=(by omega);have bj2:(j:Int)<(nf:Int):=by omega
    by_cases hgf:(D.bs.getD i ZH).fs.getD j 0=f
    ·have hibi:i=bi:=by
      by_cases e:i=bi
      exact e;exact absurd hgf (HS.out.no i j hib hjL (.inl (by omega)))
     have hjp2:j=p:=by
      have h1:=hjp hibi
      by_cases e:j=p
      exact e;exact absurd hgf (HS.out.no i j hib hjL (.inr (by omega)))
     have hgI:(((D.bs.getD i ZH).fs.getD j 0:Nat):Int)=(f:Int):=(by rw[hgf]);rw[hgI] at y0;have HFIN:Hid ((.agg #[(bvs.getD bi vv0).1,(bvs.getD bi vv0).2]:Value)=.agg #[.slice (some ⟨qf,0,none⟩) nf fcc,.iface ct (.pointer (some ⟨cp,0,none⟩))]/\QG D bi p=QG D i j):=by rw[<- hibi,<- hjp2];exact⟨by rw[HVF.out.1,HVF.out.2],rfl⟩
     have HB:Hid (Below w.heap.size w ((wr.setCell ⟨w.heap.size,0,none⟩ (.slice (some ⟨qf,0,none⟩) nf fcc)).setCell ⟨w.heap.size,1,none⟩ (.iface ct (.pointer (some ⟨cp,0,none⟩))))):=(HR.out.2.setCell (Qa w.heap.size) _).setCell (Qa w.heap.size) _;clear hgf hgI hibi hjp2 hjp hfk HNX hIw;generalize QG D i j=oo at *;go_wp2;refine bodyPost_ret (v:=.tuple #[.agg #[.slice (some ⟨qf,0,none⟩) nf fcc,.iface ct (.pointer (some ⟨cp,0,none⟩))],.int .i64 (oo:Nat)]) (by simp[results,Tryz.results145,go_sem, *]) rfl ?_;rw[HFIN.out.1,HFIN.out.2];exact⟨rfl,HB.out⟩
    have hne:((((D.bs.getD i ZH).fs.getD j 0:Nat):Int)==(f:Int))=false:=beq_eq_false_iff_ne.2 (fun e=>hgf (by omega));have hgL:(D.bs.getD i ZH).fs.getD j 0<D.ks.length:=(by rw[HN.out.2];exact hfk);have hmn:=HS.out.mn _ hgL;obtain⟨ab,cb,aw,cw,_,k0,k1,k2,_,_,_⟩:=HM.out.kn.at2 (i:=(D.bs.getD i ZH).fs.getD j 0) hgL
    have hjp3:i=bi->j+1<=p:=fun e=>by
     have h1:=hjp e
     by_cases e2:j=p
     subst e2;subst e;exact absurd HS.out.at_ hgf;omega
    generalize (D.bs.getD i ZH).fs.getD j 0=g at *;have e0:=(HR.out.2.cell (p:=⟨qk,g*4,none⟩) hqkl).trans k0;have e1:=(HR.out.2.cell (p:=⟨qk,g*4+1,none⟩) hqkl).trans k1;have e2:=(HR.out.2.cell (p:=⟨qk,g*4+2,none⟩) hqkl).trans k2;have d0w:=(HR.out.2.cell (p:=⟨db,0,none⟩) hdl).trans d0;have HMN:=KS.many_eq (D.ks.getD g ZK)
    have HHM:Hid (∀W:World,Calls Tryz.prog 146 #[.agg #[.bool (D.ks.getD g ZK).e.wd,.slice ab (D.ks.getD g ZK).e.bs.length cb,.slice aw (D.ks.getD g ZK).e.ww.length cw]] W fun e w'=>e=.returned (.int .i64 (((D.ks.getD g ZK).many:Nat):Int))/\Below W.heap.size W w'):=fun W=>by rw[<- HMN];exact Y5 _ ab aw _ cb _ cw W (by unfold KS.many ES.cnt at hmn;omega)
    clear HMN k0 k1 k2 hIw hgf hjp;generalize D.ks.getD g ZK=Kg at *;generalize Kg.e.wd=kwd at *;generalize Kg.e.bs.length=knb at *;generalize Kg.e.ww.length=knw at *;generalize Kg.many=km at *;generalize QG D i j=oo at *;have bg1:(0:Int)<=(g:Int):=(by omega);have bg2:(g:Int)<(nk:Int):=(by omega);go_wp2_with fail
    refine(HHM.out _).mono ?_;rintro e w5 ⟨rfl,hb5⟩;have hb5':=hb5;have HN5:Hid (w5.heap[w.heap.size]? =some (.cells #[.slice (some ⟨qf,0,none⟩) nf fcc,.iface ct (.pointer (some ⟨cp,0,none⟩))] 163 (0,0))/\Below w.heap.size w w5):=⟨(hb5.block _ (Qb HR.out.1).1).trans HR.out.1,HR.out.2.trans (hb5.mono hsz)⟩;clear hb5 hb5' HR r0 r1 f0 f1 e0 e1 e2 d0w HHM y0;go_wp2;go_roundw;case rel=>exact⟨j+1,by rw[HNX.out];go_num,by go_num,by omega,hjp3,HN5⟩
    case measure=>simp[intOf];omega
   have hnj:¬(j:Int)<(nf:Int):=by omega
   have hibi:i<bi:=by
    by_cases e:i=bi
    have h1:=hjp e;have h2:=HS.out.hp;rw[<- e,HNF.out] at h2;omega;omega
   have HB':Hid _:=HR;clear r0 r1 f0 f1;go_wp2;go_roundw;case rel=>exact⟨i+1,_,_,by go_num,by omega,HB'⟩
   case measure=>simp[intOf];omega
theorem ZlP(db f bi p row:Nat)(vK vB vX:Value)(kvs bvs:List (Value×Value))(X:List XS)(D:DSS)(w:World)(h:Zbg w db vK vB vX kvs bvs X D)(hs:ZbU D f bi p)(hbl:D.bs.length<=1000)(hden:¬4*nzN (D.bs.getD bi ZH).N<(D.bs.getD bi ZH).N.length)(hrow:row<(D.bs.getD bi ZH).N.length)(hnl:(D.bs.getD bi ZH).N.length<=200)(hd:Lib.bitLen (D.bs.getD bi ZH).g<=6)(hN:(D.bs.getD bi ZH).N.getD row 0<2^Lib.bitLen (D.bs.getD bi ZH).g)(hin1:QG D bi p<=(D.bs.getD bi ZH).N.getD row 0)(hin2:(D.bs.getD bi ZH).N.getD row 0<QG D bi p+(D.ks.getD f ZK).many):Calls Tryz.prog 78 #[.pointer (some ⟨db,0,none⟩),.int .i64 (row:Nat),.int .i64 (f:Nat)] w fun e w'=>e=.returned (.int .i64 ((D.bs.getD bi ZH).N.getD row 0-QG D bi p:Nat))/\Below w.heap.size w w':=by
 have HM:Hid (Zbg w db vK vB vX kvs bvs X D):=h;have HSE:=ZfH db f bi p vK vB vX kvs bvs X D w h hs hbl;obtain⟨hI,hcol⟩:=h.ds.bn.each bi hs.hb;obtain⟨fa,fcc,hvf⟩:=hI.shape;have hfk:=hs.fk bi p (Qa _) hs.hp;rw[hs.at_] at hfk;have hmn:=hs.mn f hfk;obtain⟨qk,cK,ab,cb,aw,cw,hvK,hqkl,k0,k1,k2,_⟩:=h.kn.at hfk;subst hvK;have d0:w.cell? ⟨db,0,none⟩=some (.slice (some ⟨qk,0,none⟩) D.ks.length cK):=cell_of_row _ _ 0 _ 168 (0,0) h.ds.blk;have hdl:db<w.heap.size:=(Qb h.ds.blk).1
 rcases hcol with⟨h1,_⟩|⟨_,pp,e,dd,q,e2,_,hX⟩
 exact absurd h1 hden;rw[hvf,e,e2] at HSE;have hmul:row*Lib.bitLen (D.bs.getD bi ZH).g+Lib.bitLen (D.bs.getD bi ZH).g<=(D.bs.getD bi ZH).N.length*Lib.bitLen (D.bs.getD bi ZH).g:=(by rw[<- Nat.succ_mul];exact Nat.mul_le_mul_right _ hrow);have hmul2:(D.bs.getD bi ZH).N.length*Lib.bitLen (D.bs.getD bi ZH).g<=200*6:=Nat.mul_le_mul hnl hd
 have HAT:Hid (∀W:World,Below w.heap.size w W->Calls Tryz.prog 323 #[.pointer (some ⟨dd,0,none⟩),.int .i64 (row:Nat)] W fun e w'=>e=.returned (.int .i64 ((D.bs.getD bi ZH).N.getD row 0:Nat))/\Below W.heap.size W w'):=fun W hW=>by have hX':Zeo W 0 dd q (D.bs.getD bi ZH).N.length (Lib.bitLen (D.bs.getD bi ZH).g) (ZV (Y3 (D.bs.getD bi ZH).N (Lib.bitLen (D.bs.getD bi ZH).g)) (((D.bs.getD bi ZH).N.length*Lib.bitLen (D.bs.getD bi ZH).g+7)/8) ((D.bs.getD bi ZH).N.length*Lib.bitLen (D.bs.getD bi ZH).g)):=⟨(hW.block _ (Qb hX.blk).1).trans hX.blk,(Za.of_below (S:=fun _=>False) hW).row hX.row (fun _ _=>id)⟩;have h1:=Zd9 dd q _ _ _ _ row _ W hX' (fun t=>ZeW _ _ t) hd hmul (by omega) (by omega);rw[Zgu _ hN] at h1;exact h1
 have HMN:=KS.many_eq (D.ks.getD f ZK)
 have HHM:Hid (∀W:World,Calls Tryz.prog 146 #[.agg #[.bool (D.ks.getD f ZK).e.wd,.slice ab (D.ks.getD f ZK).e.bs.length cb,.slice aw (D.ks.getD f ZK).e.ww.length cw]] W fun e w'=>e=.returned (.int .i64 (((D.ks.getD f ZK).many:Nat):Int))/\Below W.heap.size W w'):=fun W=>by rw[<- HMN];exact Y5 _ ab aw _ cb _ cw W (by unfold KS.many ES.cnt at hmn;omega)
 have hx64:(D.bs.getD bi ZH).N.getD row 0<64:=Qh hN (Nat.pow_le_pow_right (by decide) hd);clear HMN hmul hmul2 hX e e2 hvf hI hden hN hd hnl hrow hs h;generalize (D.bs.getD bi ZH).N.getD row 0=x at *;generalize QG D bi p=off at *;generalize (ZP (D.bs.getD bi ZH).fs).length=nf at *;generalize D.ks.getD f ZK=Kf at *;generalize Kf.e.wd=kwd at *;generalize Kf.e.bs.length=knb at *;generalize Kf.e.ww.length=knw at *;generalize Kf.many=km at *;generalize hnk:D.ks.length=nk at *;clear hnk
 have hme:∀W:World,(method 535 382 (.pointer (some ⟨dd,0,none⟩)) "At").run Tryz.prog W=.ok (323,.pointer (some ⟨dd,0,none⟩)) W:=fun W=>by kernel_rfl
 go_enter Tryz.func78,Tryz.ntmps78;go_wp2_with fail
 refine HSE.mono ?_;rintro e w2 ⟨rfl,hb2⟩;have HB2:Hid (Below w.heap.size w w2):=hb2;clear hb2 HSE;go_wp2_with fail
 refine(HAT.out _ (HB2.out.alloc HB2.out.size _)).mono ?_;rintro e w3 ⟨rfl,hb3⟩;have HB3:Hid (Below w.heap.size w w3):=(HB2.out.alloc HB2.out.size _).trans (hb3.mono (by have:=HB2.out.size;simp;omega));have d0w:=(HB3.out.cell (p:=⟨db,0,none⟩) hdl).trans d0;have e0:=(HB3.out.cell (p:=⟨qk,f*4,none⟩) hqkl).trans k0;have e1:=(HB3.out.cell (p:=⟨qk,f*4+1,none⟩) hqkl).trans k1;have e2:=(HB3.out.cell (p:=⟨qk,f*4+2,none⟩) hqkl).trans k2;obtain⟨bn,hbn⟩:∃bn,bn=x-off:=⟨_,rfl⟩;have q1:(x:Int)-(off:Int)=(bn:Int):=(by omega);have q2:IntKind.i64.wrap (bn:Int)=(bn:Int):=ZD (by omega) (by omega);have q3:(0:Int)<=(bn:Int):=(by omega);have q4:(bn:Int)<(km:Int):=(by omega);have bf1:(0:Int)<=(f:Int):=(by omega);have bf2:(f:Int)<(nk:Int):=(by omega);have HBN:Hid (bn=x-off):=hbn
 clear hb3 hbn HB2;go_wp2_with fail
 refine(HHM.out _).mono ?_;rintro e w4 ⟨rfl,hb4⟩;have HB4:Hid (Below w.heap.size w w4):=HB3.out.trans (hb4.mono HB3.out.size);clear hb4;go_wp2;go_ret;rw[<- HBN.out];exact⟨rfl,HB4.out⟩
theorem Y1.below{w w':World}{gb db:Nat}{D:DSS}(h:Y1 w gb db D)(hb:Below w.heap.size w w'):Y1 w' gb db D:=by obtain⟨vK,vB,vX,kvs,bvs,X,hX⟩:=h.md;exact⟨(hb.block gb (Qb h.gp).1).trans h.gp,vK,vB,vX,kvs,bvs,X,hX.ds.below hb,hX.kn.below hb,hX.perm,hX.sorted⟩
theorem Zec(gb db f row:Nat)(D:DSS)(x:Nat)(w:World)(h:Y1 w gb db D)(h0:0<D.bs.length)(hk:D.ks.length<=1000)(hr:row<(D.bs.getD 0 ZH).N.length)(hrl:(D.bs.getD 0 ZH).N.length<=1000)(hf:f<D.ks.length)(HL:∀W:World,Y1 W gb db D->Calls Tryz.prog 78 #[.pointer (some ⟨db,0,none⟩),.int .i64 (row:Nat),.int .i64 (f:Nat)] W fun e w'=>e=.returned (.int .i64 (x:Nat))/\Below W.heap.size W w'):Calls Tryz.prog 44 #[.pointer (some ⟨gb,0,none⟩),.int .i64 (row:Nat),.int .i64 (f:Nat)] w fun e w'=>e=.returned (.tuple #[.int .i64 (x:Nat),.int .i64 0])/\Below w.heap.size w w':=by
 have g0:w.cell? ⟨gb,0,none⟩=some (.pointer (some ⟨db,0,none⟩)):=cell_of_row _ _ 0 _ 110 (0,0) h.gp;have hgl:gb<w.heap.size:=(Qb h.gp).1;have HO:Hid (Y1 w gb db D):=h;have HLK:Hid (∀W:World,Y1 W gb db D->Calls Tryz.prog 78 #[.pointer (some ⟨db,0,none⟩),.int .i64 (row:Nat),.int .i64 (f:Nat)] W fun e w'=>e=.returned (.int .i64 (x:Nat))/\Below W.heap.size W w'):=HL
 have HHF:Hid (∀W:World,Y1 W gb db D->Calls Tryz.prog 52 #[.pointer (some ⟨gb,0,none⟩),.int .i64 (f:Nat)] W fun e w'=>e=.returned (.bool true)/\w'=W):=fun W hW=>by have h1:=Zb7 gb db D (f:Int) W hW hk;have h2:decide (0<=(f:Int)/\(f:Int)<=(D.ks.length:Int)-1)=true:=(by simp;omega);rw[h2] at h1;exact h1
 obtain⟨vK,vB,vX,kvs,bvs,X,hX⟩:=h.md;have HR:=ZcY db vK vB vX bvs D.bs X w hX.ds h0;clear h hX HL hk hf;generalize (D.bs.getD 0 ZH).N.length=nr at *;have br1:(0:Int)<=(row:Int):=(by omega);have br2:(row:Int)<=(nr:Int)-1:=(by omega);go_enter Tryz.func44,Tryz.ntmps44;go_wp2_with fail
 refine HR.mono ?_;rintro e w2 ⟨rfl,hb2⟩;have HB2:Hid (Below w.heap.size w w2):=hb2;have c0:=(hb2.cell (p:=⟨gb,0,none⟩) hgl).trans g0;clear hb2 HR;go_wp2_with fail
 refine(Zkx _ _ _ _ ⟨br1,br2⟩).mono ?_;rintro e w6 ⟨rfl,hw6⟩;obtain rfl:=hw6.symm;go_wp2_with fail
 refine(HHF.out _ (HO.out.below HB2.out)).mono ?_;rintro e w3 ⟨rfl,hw3⟩;obtain rfl:=hw3.symm;go_wp2_with fail
 refine(HLK.out _ (HO.out.below HB2.out)).mono ?_;rintro e w4 ⟨rfl,hb4⟩;have HB4:Hid (Below w.heap.size w w4):=HB2.out.trans (hb4.mono HB2.out.size);clear hb4;go_wp2;go_ret2
 exact⟨rfl,HB4.out⟩
theorem Zif(x y r:Nat)(W:World):Calls Tryz.prog 373 #[.agg #[.int .i64 (x:Nat),.int .i64 (y:Nat)],.int .i64 (r:Nat)] W fun e w'=>e=.returned (.int .i64 (Lib.compareInt (x:Nat) (r:Nat)))/\Below W.heap.size W w':=by
 have H1:Hid (∀w:World,Calls Tryz.prog 151 #[.int .i64 (x:Nat),.int .i64 (r:Nat)] w fun e w'=>e=.returned (.int .i64 (Lib.compareInt (x:Nat) (r:Nat)))/\w'=w):=fun w=>Tryz.cmp_Compare_int _ _ w;generalize Lib.compareInt (x:Nat) (r:Nat)=c1 at *;go_enter Tryz.func373,Tryz.ntmps373;go_wp2_with fail
 refine(H1.out _).mono ?_;rintro e w3 ⟨rfl,hw3⟩;obtain rfl:=hw3.symm;go_wp2;go_ret;exact⟨rfl,(Below.refl _ _).alloc (Qa _) _⟩
theorem ZkO(x r:Nat):Lib.compareInt (x:Nat) (r:Nat)<0↔x<r:=by unfold Lib.compareInt;split<;>(try split)<;>omega
theorem ZkN(x r:Nat):Lib.compareInt (x:Nat) (r:Nat)=0↔x=r:=by unfold Lib.compareInt;split<;>(try split)<;>omega
structure ZkA(L:List (Nat×Nat))(r i:Nat):Prop where
 le:i<=L.length
 lo:∀k,k<i->(L.getD k (0,0)).1<r
 hi:∀k,i<=k->k<L.length->r<=(L.getD k (0,0)).1
def ZaJ(L:List (Nat×Nat))(r i:Nat):Bool:=decide (i<L.length/\(L.getD i (0,0)).1=r)
def Zpb(W:World)(L:List (Nat×Nat))(r:Nat)(e:Ending)(w':World):Prop:=∃i,e=.returned (.tuple #[.int .i64 (i:Nat),.bool (ZaJ L r i)])/\ZkA L r i/\Below W.heap.size W w'
theorem ZlH(a:Option Addr)(c r:Nat)(L:List (Nat×Nat))(w:World)(h:ZcB w 0 (.slice a L.length c) L)(hs:L.Pairwise (fun x y=>x.1<y.1))(hl:L.length<=1000000):Calls Tryz.prog 372 #[.slice a L.length c,.int .i64 (r:Nat),.func (.func 373) #[] #[]] w fun e w'=>Zpb w L r e w':=by
 have H0:Hid (ZcB w 0 (.slice a L.length c) L):=h
 have HS:Hid (∀i j,i<j->j<L.length->(L.getD i (0,0)).1<(L.getD j (0,0)).1):=fun i j hij hj=>by
  have:=List.pairwise_iff_getElem.1 hs i j (by omega) hj hij
  simpa [Qc,Qd hj,Qd (show i<L.length by omega)] using this
 have HC:Hid (∀(x y:Nat) (W:World),Calls Tryz.prog 373 #[.agg #[.int .i64 (x:Nat),.int .i64 (y:Nat)],.int .i64 (r:Nat)] W fun e w'=>e=.returned (.int .i64 (Lib.compareInt (x:Nat) (r:Nat)))/\Below W.heap.size W w'):=fun x y W=>Zif x y r W;clear h hs;generalize hnl:L.length=n at *;have HN:Hid (L.length=n):=hnl;clear hnl;go_enter Tryz.func372,Tryz.ntmps372;go_wp2_with fail
 go_loopw [9,10] (fun ti tj wr=>∃(i j:Nat),ti=.int .i64 i/\tj=.int .i64 j/\i<=j/\j<=n/\Hid ((∀k,k<i->(L.getD k (0,0)).1<r)/\(∀k,j<=k->k<n->r<=(L.getD k (0,0)).1)/\Below w.heap.size w wr)) (fun ti tj _=>(intOf tj).toNat-(intOf ti).toNat)
 case atStart=>exact⟨0,n,rfl,rfl,Qg _,Qa _,fun k hk=>by omega,fun k h1 h2=>by omega,Below.refl _ _⟩
 case round=>
  obtain⟨i,j,rfl,rfl,hij,hjn,HR⟩:=hrel
  by_cases hlt:i<j
  ·have b1:(i:Int)<(j:Int):=(by omega);have hm:(i+j)/2<n:=(by omega);obtain⟨q,hq,hql,y0,y1⟩:=(show ZcB w 0 (.slice a L.length c) L by rw[HN.out];exact H0.out).atK (k:=(i+j)/2) (by rw[HN.out];exact hm);have e0:=(HR.out.2.2.cell (p:=⟨q,(i+j)/2*2,none⟩) hql).trans y0;have e1:=(HR.out.2.2.cell (p:=⟨q,(i+j)/2*2+1,none⟩) hql).trans y1;clear y0 y1;subst hq;generalize hmm:(i+j)/2=m at *;have hmi:((i:Int)+(j:Int))/2=(m:Int):=(by omega);have bm1:(0:Int)<=(m:Int):=(by omega);have bm2:(m:Int)<(n:Int):=(by omega);have HM:Hid ((i+j)/2=m):=hmm;clear hmm
   have HX:Hid ((∀k,k<=m->(L.getD k (0,0)).1<=(L.getD m (0,0)).1)/\(∀k,m<=k->k<n->(L.getD m (0,0)).1<=(L.getD k (0,0)).1)):=⟨fun k hk=>by
    rcases Nat.lt_or_ge k m with h1|h1
    exact Nat.le_of_lt (HS.out k m h1 hm)
    ·rw[show k=m by omega];exact Qa _,fun k hk hkn=>by
    rcases Nat.lt_or_ge m k with h1|h1
    exact Nat.le_of_lt (HS.out m k h1 hkn)
    rw[show k=m by omega];exact Qa _⟩
   generalize (L.getD m (0,0)).1=xr at *;generalize (L.getD m (0,0)).2=xn at *;go_wp2_with fail
   refine(HC.out _ _ _).mono ?_;rintro e w3 ⟨rfl,hb3⟩;have HB3:Hid (Below w.heap.size w w3):=HR.out.2.2.trans (hb3.mono HR.out.2.2.size);clear hb3 e0 e1
   by_cases hx:xr<r
   ·have hc:=(ZkO xr r).2 hx;generalize Lib.compareInt (xr:Nat) (r:Nat)=c1 at *;go_wp2;go_roundw;case rel=>exact⟨m+1,j,by go_num,rfl,by omega,hjn,fun k hk=>by have:=HX.out.1 k (by omega);omega,HR.out.2.1,HB3.out⟩
    case measure=>simp[intOf];omega
   have hc:¬Lib.compareInt (xr:Nat) (r:Nat)<0:=fun h=>hx ((ZkO xr r).1 h);generalize Lib.compareInt (xr:Nat) (r:Nat)=c1 at *;go_wp2;go_roundw;case rel=>exact⟨i,m,rfl,rfl,by omega,by omega,HR.out.1,fun k h1 h2=>by have:=HX.out.2 k h1 h2;omega,HB3.out⟩
   case measure=>simp[intOf];omega
  have hni:¬(i:Int)<(j:Int):=(by omega);have hie:i=j:=(by omega);subst hie
  by_cases hin:i<n
  ·have b2:(i:Int)<(n:Int):=(by omega);have b3:(0:Int)<=(i:Int):=(by omega);obtain⟨q,hq,hql,y0,y1⟩:=(show ZcB w 0 (.slice a L.length c) L by rw[HN.out];exact H0.out).atK (k:=i) (by rw[HN.out];exact hin);have e0:=(HR.out.2.2.cell (p:=⟨q,i*2,none⟩) hql).trans y0;have e1:=(HR.out.2.2.cell (p:=⟨q,i*2+1,none⟩) hql).trans y1;clear y0 y1;subst hq;have HFO:Hid (ZaJ L r i=decide ((L.getD i (0,0)).1=r)):=(by show _=_;unfold ZaJ;rw[HN.out];simp[hin]);generalize (L.getD i (0,0)).1=xr at *;generalize (L.getD i (0,0)).2=xn at *;go_wp2_with fail
   refine(HC.out _ _ _).mono ?_;rintro e w3 ⟨rfl,hb3⟩;have HB3:Hid (Below w.heap.size w w3):=HR.out.2.2.trans (hb3.mono HR.out.2.2.size);clear hb3 e0 e1
   by_cases hx:xr=r
   ·have hc:=(ZkN xr r).2 hx;rw[hc];go_wp2;go_ret2
    exact⟨i,by rw[HFO.out];simp[hx],⟨by rw[HN.out];exact hjn,HR.out.1,by rw[HN.out];exact HR.out.2.1⟩,HB3.out⟩
   have hc:¬Lib.compareInt (xr:Nat) (r:Nat)=0:=fun h=>hx ((ZkN xr r).1 h);generalize Lib.compareInt (xr:Nat) (r:Nat)=c1 at *;go_wp2;go_ret2
   exact⟨i,by rw[HFO.out];simp[hx,hc],⟨by rw[HN.out];exact hjn,HR.out.1,by rw[HN.out];exact HR.out.2.1⟩,HB3.out⟩
  have b2:¬(i:Int)<(n:Int):=(by omega);have HFO:Hid (ZaJ L r i=false):=(by show _=_;unfold ZaJ;rw[HN.out];simp[hin]);go_wp2;go_ret2
  exact⟨i,by rw[HFO.out];rfl,⟨by rw[HN.out];exact hjn,HR.out.1,by rw[HN.out];exact HR.out.2.1⟩,HR.out.2.2⟩
theorem ZhC(N:List Nat):∀(k:Nat) (x:Nat×Nat),x∈spF N k↔x.1<k/\x.2=N.getD x.1 0/\x.2≠0
 |0,x=>by simp[spF]
 | k +1,x=>by
  obtain⟨x1,x2⟩:=x;rw[spF,List.mem_append,ZhC N k]
  by_cases h0:N.getD k 0=0
  ·rw[if_pos h0];simp only[List.not_mem_nil,or_false];constructor;rintro⟨h1,h2,h3⟩;exact⟨by omega,h2,h3⟩;rintro⟨h1,h2,h3⟩;refine⟨?_,h2,h3⟩
   rcases Nat.lt_or_ge x1 k with h4|h4
   exact h4;have e:x1=k:=(by omega);subst e;exact absurd (h2.trans h0) h3
  rw[if_neg h0];simp only[List.mem_singleton,Prod.mk.injEq];constructor;rintro(⟨h1,h2,h3⟩|⟨h1,h2⟩);exact⟨by omega,h2,h3⟩;subst h1;exact⟨by omega,h2,by rw[h2];exact h0⟩;rintro⟨h1,h2,h3⟩
  rcases Nat.lt_or_ge x1 k with h4|h4
  exact .inl ⟨h4,h2,h3⟩;have e:x1=k:=(by omega);subst e;exact .inr ⟨rfl,h2⟩
theorem ZfJ(N:List Nat):∀k,(spF N k).Pairwise (fun x y=>x.1<y.1)
 |0=>by simp[spF]
 |k+1=>by rw[spF,List.pairwise_append];refine⟨ZfJ N k,by split<;>simp,fun x hx y hy=>?_⟩;have h1:=((ZhC N k x).1 hx).1;split at hy;simp at hy;rw[List.mem_singleton] at hy;subst hy;exact h1
theorem ZmW{N:List Nat}{k r i:Nat}(hr:r<k)(h:ZkA (spF N k) r i):(if ZaJ (spF N k) r i=true then((spF N k).getD i (0,0)).2 else 0)=N.getD r 0:=by
 have hp:=ZfJ N k;have hm:=ZhC N k;generalize spF N k=L at *
 by_cases h0:N.getD r 0=0
 rw[h0,if_neg];intro hf;simp only[ZaJ,decide_eq_true_eq] at hf;have hin:L.getD i (0,0)∈L:=(by rw[Qc,Qd hf.1];exact Qf _);have:=(hm _).1 hin;rw[hf.2,h0] at this;exact this.2.2 this.2.1
 have hin:(r,N.getD r 0)∈L:=(hm _).2 ⟨hr,rfl,h0⟩;obtain⟨p,hpl,hpe⟩:=List.getElem_of_mem hin;have hpg:L.getD p (0,0)=(r,N.getD r 0):=by rw[Qc,Qd hpl];exact hpe
 have hpi:p=i:=by
  rcases Nat.lt_trichotomy p i with h1|h1|h1
  have:=h.lo p h1;rw[hpg] at this;simp at this;exact h1;have h2:=h.hi i (Qa _) (by omega);have h3:=List.pairwise_iff_getElem.1 hp i p (by omega) hpl h1;rw[hpe] at h3;rw[Qc,Qd (show i<L.length by omega)] at h2;simp only[Option.getD_some] at h2;omega
 subst hpi;rw[if_pos,hpg];simp only[ZaJ,decide_eq_true_eq];exact⟨hpl,by rw[hpg]⟩
theorem ZhL(sb n d row:Nat)(vc:Value)(N:List Nat)(w:World)(h:Zf2 w 0 sb n d vc (spF N N.length))(hr:row<N.length)(hl:N.length<=1000000):Calls Tryz.prog 371 #[.pointer (some ⟨sb,0,none⟩),.int .i64 (row:Nat)] w fun e w'=>e=.returned (.int .i64 (N.getD row 0:Nat))/\Below w.heap.size w w':=by
 obtain⟨a,c,rfl⟩:=h.row.shape;have s2:w.cell? ⟨sb,2,none⟩=some (.slice a (spF N N.length).length c):=cell_of_row _ _ 2 _ 403 (0,0) h.blk;have hsl:sb<w.heap.size:=(Qb h.blk).1;have HO:Hid (ZcB w 0 (.slice a (spF N N.length).length c) (spF N N.length)):=h.row;have HF:=ZlH a c row (spF N N.length) w h.row (ZfJ N _) (by have:=ZhK N N.length;omega);have HX:Hid (∀i,ZkA (spF N N.length) row i->(if ZaJ (spF N N.length) row i=true then((spF N N.length).getD i (0,0)).2 else 0)=N.getD row 0):=fun i hi=>ZmW hr hi;clear h hr hl;generalize spF N N.length=L at *;generalize N.getD row 0=res at *;go_enter Tryz.func371,Tryz.ntmps371;go_wp2_with fail
 refine HF.mono ?_;rintro e w2 ⟨i,rfl,hi,hb⟩;have hx:=HX.out i hi;have HB:Hid (Below w.heap.size w w2):=hb;have z2:=(hb.cell (p:=⟨sb,2,none⟩) hsl).trans s2;have HI:Hid (ZkA L row i):=hi;clear hb hi s2
 cases hf:ZaJ L row i
 ·have HE:Hid (res=0):=(by rw[hf] at hx;exact hx.symm);clear hx hf;generalize L.length=ll at *;go_wp2;go_ret;exact⟨by rw[HE.out];rfl,HB.out⟩
 have HE:Hid (res=(L.getD i (0,0)).2):=(by rw[hf] at hx;exact hx.symm);have hil:i<L.length:=(by simp only[ZaJ,decide_eq_true_eq] at hf;exact hf.1);obtain⟨q,rfl,hql,y0,y1⟩:=HO.out.atK hil;have e1:=(HB.out.cell (p:=⟨q,i*2+1,none⟩) hql).trans y1;clear hx hf y0 y1;have b1:(0:Int)<=(i:Int):=(by omega);have b2:(i:Int)<(L.length:Int):=(by omega);generalize (L.getD i (0,0)).2=x at *;generalize L.length=ll at *;go_wp2;go_ret;exact⟨by rw[HE.out];rfl,HB.out⟩
abbrev ZcC(r f:Nat)(x:XS):Prop:=x.row<r∨x.row=r/\x.f<f
abbrev atX(r f:Nat)(x:XS):Prop:=x.row=r/\x.f=f
theorem ZnP(x:XS)(r f:Nat):Zb1 x ⟨r,f,0⟩<0↔ZcC r f x:=by
 unfold Zb1 orI ZcC Lib.compareInt;simp only
 repeat' split
 all_goals omega
theorem ZnO(x:XS)(r f:Nat):Zb1 x ⟨r,f,0⟩=0↔atX r f x:=by
 unfold Zb1 orI atX Lib.compareInt;simp only
 repeat' split
 all_goals omega
structure ZkB(L:List XS)(r f i:Nat):Prop where
 le:i<=L.length
 lo:∀k,k<i->ZcC r f (L.getD k x0S)
 hi:∀k,i<=k->k<L.length->¬ZcC r f (L.getD k x0S)
def YT(L:List XS)(r f i:Nat):Bool:=decide (i<L.length/\atX r f (L.getD i x0S))
def ZmA(W:World)(L:List XS)(r f:Nat)(e:Ending)(w':World):Prop:=∃i,e=.returned (.tuple #[.int .i64 (i:Nat),.bool (YT L r f i)])/\ZkB L r f i/\Below W.heap.size W w'
theorem Zgx(a:Option Addr)(c r f:Nat)(L:List XS)(w:World)(h:ZaC w 0 (.slice a L.length c) L)(hs:Zda L)(hl:L.length<=1000000):Calls Tryz.prog 147 #[.slice a L.length c,.agg #[.int .i64 (r:Nat),.int .i64 (f:Nat),.int .i64 0],.func (.func 148) #[] #[]] w fun e w'=>ZmA w L r f e w':=by
 have H0:Hid (ZaC w 0 (.slice a L.length c) L):=h
 have HS:Hid (∀i j,i<j->j<L.length->(L.getD i x0S).row<(L.getD j x0S).row∨(L.getD i x0S).row=(L.getD j x0S).row/\(L.getD i x0S).f<=(L.getD j x0S).f):=fun i j hij hj=>by
  have:=List.pairwise_iff_getElem.1 hs i j (by omega) hj hij
  simpa [Qc,Qd hj,Qd (show i<L.length by omega)] using this
 have HC:Hid (∀(x:XS) (W:World),Calls Tryz.prog 148 #[.agg #[.int .i64 (x.row:Nat),.int .i64 (x.f:Nat),.int .i64 (x.bin:Nat)],.agg #[.int .i64 (r:Nat),.int .i64 (f:Nat),.int .i64 0]] W fun e w'=>e=.returned (.int .i64 (Zb1 x ⟨r,f,0⟩))/\Below W.heap.size W w'):=fun x W=>(Zaq x ⟨r,f,0⟩ W).mono (fun _ _ h=>⟨h.1,h.2.below⟩);clear h hs;generalize hnl:L.length=n at *;have HN:Hid (L.length=n):=hnl;clear hnl;go_enter Tryz.func147,Tryz.ntmps147;go_upto_region 1 with fail;generalize hW1:w.alloc (.cells #[.int .i64 (r:Nat),.int .i64 (f:Nat),.int .i64 0] 184)=w1;have hB1:Below w.heap.size w w1:=(by rw[<- hW1];exact(Below.refl _ _).alloc (Qa _) _);have hX1:w1.heap[w.heap.size]? =some (.cells #[.int .i64 (r:Nat),.int .i64 (f:Nat),.int .i64 0] 184 (0,0)):=by rw[<- hW1];exact heap_alloc_new _ _
 have hwl:w.heap.size<w1.heap.size:=(Qb hX1).1;have x0:w1.cell? ⟨w.heap.size,0,none⟩=some (.int .i64 (r:Nat)):=cell_of_row _ _ 0 _ 184 (0,0) hX1;have x1:w1.cell? ⟨w.heap.size,1,none⟩=some (.int .i64 (f:Nat)):=cell_of_row _ _ 1 _ 184 (0,0) hX1;have x2:w1.cell? ⟨w.heap.size,2,none⟩=some (.int .i64 0):=cell_of_row _ _ 2 _ 184 (0,0) hX1;have HB1:Hid (Below w.heap.size w w1/\w1.cell? ⟨w.heap.size,0,none⟩=some (.int .i64 (r:Nat))/\w1.cell? ⟨w.heap.size,1,none⟩=some (.int .i64 (f:Nat))/\w1.cell? ⟨w.heap.size,2,none⟩=some (.int .i64 0)):=⟨hB1,x0,x1,x2⟩;clear hW1 hB1 hX1 x0 x1 x2;go_wp2_with fail
 go_loopw [9,10] (fun ti tj wr=>∃(i j:Nat),ti=.int .i64 i/\tj=.int .i64 j/\i<=j/\j<=n/\Hid ((∀k,k<i->ZcC r f (L.getD k x0S))/\(∀k,j<=k->k<n->¬ZcC r f (L.getD k x0S))/\Below w1.heap.size w1 wr)) (fun ti tj _=>(intOf tj).toNat-(intOf ti).toNat)
 case atStart=>exact⟨0,n,rfl,rfl,Qg _,Qa _,fun k hk=>by omega,fun k h1 h2=>by omega,Below.refl _ _⟩
 case round=>
  obtain⟨i,j,rfl,rfl,hij,hjn,HR⟩:=hrel;have t0:=(HR.out.2.2.cell (p:=⟨w.heap.size,0,none⟩) hwl).trans HB1.out.2.1;have t1:=(HR.out.2.2.cell (p:=⟨w.heap.size,1,none⟩) hwl).trans HB1.out.2.2.1;have t2:=(HR.out.2.2.cell (p:=⟨w.heap.size,2,none⟩) hwl).trans HB1.out.2.2.2;have hwr:=HR.out.2.2.size;have HBW:Hid (Below w.heap.size w wr):=HB1.out.1.trans (HR.out.2.2.mono HB1.out.1.size)
  by_cases hlt:i<j
  ·have b1:(i:Int)<(j:Int):=(by omega);have hm:(i+j)/2<n:=(by omega);obtain⟨q,hq,hql,y0,y1,y2⟩:=H0.out.atK HN.out (k:=(i+j)/2) hm;have e0:=(HBW.out.cell (p:=⟨q,(i+j)/2*3,none⟩) hql).trans y0;have e1:=(HBW.out.cell (p:=⟨q,(i+j)/2*3+1,none⟩) hql).trans y1;have e2:=(HBW.out.cell (p:=⟨q,(i+j)/2*3+2,none⟩) hql).trans y2;clear y0 y1 y2;subst hq;have hqr:q<wr.heap.size:=Qh hql HBW.out.size;have htr:w.heap.size<wr.heap.size:=Qh hwl hwr;generalize hmm:(i+j)/2=m at *;have hmi:((i:Int)+(j:Int))/2=(m:Int):=(by omega);have bm1:(0:Int)<=(m:Int):=(by omega);have bm2:(m:Int)<(n:Int):=(by omega);have HM:Hid ((i+j)/2=m):=hmm;clear hmm
   have HX:Hid ((∀k,k<=m->ZcC r f (L.getD m x0S)->ZcC r f (L.getD k x0S))/\(∀k,m<=k->k<n->¬ZcC r f (L.getD m x0S)->¬ZcC r f (L.getD k x0S))):=⟨fun k hk hb=>by
    rcases Nat.lt_or_ge k m with h1|h1
    have:=HS.out k m h1 hm;unfold ZcC at hb ⊢;omega
    ·rw[show k=m by omega];exact hb,fun k hk hkn hb=>by
    rcases Nat.lt_or_ge m k with h1|h1
    have:=HS.out m k h1 hkn;unfold ZcC at hb ⊢;omega
    rw[show k=m by omega];exact hb⟩
   have HCx:=HC.out (L.getD m x0S);have hlt2:=ZnP (L.getD m x0S) r f;generalize hx:ZcC r f (L.getD m x0S)=P at *;generalize Zb1 (L.getD m x0S) ⟨r,f,0⟩=c1 at *;generalize (L.getD m x0S).row=xr at *;generalize (L.getD m x0S).f=xf at *;generalize (L.getD m x0S).bin=xb at *;have HCY:Hid (∀W:World,Below wr.heap.size wr W->Calls Tryz.prog 148 #[.agg #[.int .i64 (xr:Nat),.int .i64 (xf:Nat),.int .i64 (xb:Nat)],.agg #[.int .i64 (r:Nat),.int .i64 (f:Nat),.int .i64 0]] W fun e w'=>e=.returned (.int .i64 c1)/\Below wr.heap.size wr w'):=fun W hW=>(HCx W).mono (fun _ _ h=>⟨h.1,hW.trans (h.2.mono hW.size)⟩);clear HCx hx;go_upto_region 5 with fail
   go_region_held3 (fun w'=>w'.cell? ⟨q,m*3,none⟩=some (.int .i64 (xr:Nat))/\w'.cell? ⟨q,m*3+1,none⟩=some (.int .i64 (xf:Nat))/\w'.cell? ⟨q,m*3+2,none⟩=some (.int .i64 (xb:Nat))/\w'.cell? ⟨w.heap.size,0,none⟩=some (.int .i64 (r:Nat))/\w'.cell? ⟨w.heap.size,1,none⟩=some (.int .i64 (f:Nat))/\w'.cell? ⟨w.heap.size,2,none⟩=some (.int .i64 0)) (first|exact⟨e0,e1,e2,t0,t1,t2⟩|exact⟨(Below.cell (B:=wr.heap.size) (w:=wr) (p:=⟨q,m*3,none⟩) hb3 hqr).trans e0,(Below.cell (B:=wr.heap.size) (w:=wr) (p:=⟨q,m*3+1,none⟩) hb3 hqr).trans e1,(Below.cell (B:=wr.heap.size) (w:=wr) (p:=⟨q,m*3+2,none⟩) hb3 hqr).trans e2,(Below.cell (B:=wr.heap.size) (w:=wr) (p:=⟨w.heap.size,0,none⟩) hb3 htr).trans t0,(Below.cell (B:=wr.heap.size) (w:=wr) (p:=⟨w.heap.size,1,none⟩) hb3 htr).trans t1,(Below.cell (B:=wr.heap.size) (w:=wr) (p:=⟨w.heap.size,2,none⟩) hb3 htr).trans t2⟩) (first|(go_at_call 148;refine(HCY.out _ (Below.refl _ _).drew).mono ?_;rintro e w3 ⟨rfl,hb3⟩))
   have HB3:Hid (Below w1.heap.size w1 w3):=HR.out.2.2.trans (hb3.mono HR.out.2.2.size);clear hb3 e0 e1 e2 t0 t1 t2
   by_cases hc:c1<0
   ·have hP:=hlt2.1 hc;have hd:decide (c1<0)=true:=decide_eq_true hc;go_wp2;go_roundw;case rel=>exact⟨m+1,j,by go_num,rfl,by omega,hjn,fun k hk=>HX.out.1 k (by omega) hP,HR.out.2.1,HB3.out⟩
    case measure=>simp[intOf];omega
   have hP:¬P:=fun h=>hc (hlt2.2 h);have hd:decide (c1<0)=false:=decide_eq_false hc;go_wp2;go_roundw;case rel=>exact⟨i,m,rfl,rfl,by omega,by omega,HR.out.1,fun k h1 h2=>HX.out.2 k h1 h2 hP,HB3.out⟩
   case measure=>simp[intOf];omega
  have hni:¬(i:Int)<(j:Int):=(by omega);have hie:i=j:=(by omega);subst hie
  by_cases hin:i<n
  ·have b2:(i:Int)<(n:Int):=(by omega);have hd:decide ((i:Int)<(n:Int))=true:=decide_eq_true b2;have b3:(0:Int)<=(i:Int):=(by omega);obtain⟨q,hq,hql,y0,y1,y2⟩:=H0.out.atK HN.out (k:=i) hin;have e0:=(HBW.out.cell (p:=⟨q,i*3,none⟩) hql).trans y0;have e1:=(HBW.out.cell (p:=⟨q,i*3+1,none⟩) hql).trans y1;have e2:=(HBW.out.cell (p:=⟨q,i*3+2,none⟩) hql).trans y2;clear y0 y1 y2;subst hq;have hqr:q<wr.heap.size:=Qh hql HBW.out.size;have htr:w.heap.size<wr.heap.size:=Qh hwl hwr;have HFO:Hid (YT L r f i=decide (Zb1 (L.getD i x0S) ⟨r,f,0⟩=0)):=by show _=_;unfold YT;rw[HN.out];simp only[hin,true_and,ZnO]
   have HCx:=HC.out (L.getD i x0S);generalize Zb1 (L.getD i x0S) ⟨r,f,0⟩=c1 at *;generalize (L.getD i x0S).row=xr at *;generalize (L.getD i x0S).f=xf at *;generalize (L.getD i x0S).bin=xb at *;have HCY:Hid (∀W:World,Below wr.heap.size wr W->Calls Tryz.prog 148 #[.agg #[.int .i64 (xr:Nat),.int .i64 (xf:Nat),.int .i64 (xb:Nat)],.agg #[.int .i64 (r:Nat),.int .i64 (f:Nat),.int .i64 0]] W fun e w'=>e=.returned (.int .i64 c1)/\Below wr.heap.size wr w'):=fun W hW=>(HCx W).mono (fun _ _ h=>⟨h.1,hW.trans (h.2.mono hW.size)⟩);clear HCx;go_upto_region 8 with fail
   go_region_held3 (fun w'=>w'.cell? ⟨q,i*3,none⟩=some (.int .i64 (xr:Nat))/\w'.cell? ⟨q,i*3+1,none⟩=some (.int .i64 (xf:Nat))/\w'.cell? ⟨q,i*3+2,none⟩=some (.int .i64 (xb:Nat))/\w'.cell? ⟨w.heap.size,0,none⟩=some (.int .i64 (r:Nat))/\w'.cell? ⟨w.heap.size,1,none⟩=some (.int .i64 (f:Nat))/\w'.cell? ⟨w.heap.size,2,none⟩=some (.int .i64 0)) (first|exact⟨e0,e1,e2,t0,t1,t2⟩|exact⟨(Below.cell (B:=wr.heap.size) (w:=wr) (p:=⟨q,i*3,none⟩) hb3 hqr).trans e0,(Below.cell (B:=wr.heap.size) (w:=wr) (p:=⟨q,i*3+1,none⟩) hb3 hqr).trans e1,(Below.cell (B:=wr.heap.size) (w:=wr) (p:=⟨q,i*3+2,none⟩) hb3 hqr).trans e2,(Below.cell (B:=wr.heap.size) (w:=wr) (p:=⟨w.heap.size,0,none⟩) hb3 htr).trans t0,(Below.cell (B:=wr.heap.size) (w:=wr) (p:=⟨w.heap.size,1,none⟩) hb3 htr).trans t1,(Below.cell (B:=wr.heap.size) (w:=wr) (p:=⟨w.heap.size,2,none⟩) hb3 htr).trans t2⟩) (first|(go_at_call 148;refine(HCY.out _ (Below.refl _ _).drew).mono ?_;rintro e w3 ⟨rfl,hb3⟩))
   have HB3:Hid (Below w.heap.size w w3):=HBW.out.trans (hb3.mono HBW.out.size);clear hb3 e0 e1 e2 t0 t1 t2;go_wp2;go_ret2
   exact⟨i,by rw[HFO.out];rfl,⟨by rw[HN.out];exact hjn,HR.out.1,by rw[HN.out];exact HR.out.2.1⟩,HB3.out⟩
  have b2:¬(i:Int)<(n:Int):=(by omega);have hd:decide ((i:Int)<(n:Int))=false:=decide_eq_false b2;have HFO:Hid (YT L r f i=false):=(by show _=_;unfold YT;rw[HN.out];simp[hin]);clear t0 t1 t2;go_upto_region 8 with fail;go_quiet (fail);go_wp2;go_ret2
  exact⟨i,by rw[HFO.out];rfl,⟨by rw[HN.out];exact hjn,HR.out.1,by rw[HN.out];exact HR.out.2.1⟩,below_drewN HBW.out _⟩
end Go.Proofs.YtfcgnpchbcmdeaaGreat
