import Derived.Test.YtfcgnpchbcmdeaaGreatZubp
import Derived.Test.YtfcgnpchbcmdeaaGreatZubm
import Derived.Test.YtfcgnpchbcmdeaaGreatZubi
import Derived.Test.YtfcgnpchbcmdeaaGreatZubn
import Derived.Test.YtfcgnpchbcmdeaaGreatZubs
import Derived.Test.YtfcgnpchbcmdeaaGreatZubl
namespace Go.Proofs.YtfcgnpchbcmdeaaGreat
set_option linter.unusedSimpArgs false
open Go.RowKit
theorem Ze9{S:Int->Prop}{size:Int}(hs:2<=size)(hs2:size<=32):∀{Ls:List (List Zq)} {l:List Zq},Y7 Ls->ZB l->l.length<=32->ZK Ls+Zc l<=1000000000000->(∀L∈Ls,∀e∈L,S e.v)->(∀e∈l,S e.v)->∀L∈ZA size Ls l,∀e∈L,S e.v
 |[],l,_,_,_,_,_,hv=>by simpa [ZA] using hv
 | o ::r,l,h,g,hl,ht,hL,hv=>by
  have go:=h.good o (by simp);have hr:Y7 r:=⟨fun x hx=>h.good x (by simp[hx]),fun x hx=>h.len x (by simp[hx])⟩;have p1:=Y1 hr.good;have p2:=(YR go).1;have p3:=(YR g).1;simp only[ZK] at ht;simp only[ZA];split
  ·intro L hx
   rcases List.mem_cons.1 hx with rfl|hx
   exact hv;exact hL L (by simp[hx])
  have gj:=Zab go g (by omega);have gc:ZB (YL (Zx o l) size):=gj.sub (Zal gj size);have tc:Zc (YL (Zx o l) size)=Zc o+Zc l:=(by rw[ZaO,Zai]);have lc:=ZbH (Zx o l) hs
  have ih:=Ze9 (S:=S) hs hs2 hr gc (by omega) (by omega) (fun L hx=>hL L (by simp[hx])) (fun e he=>by
   rcases Zgk go g e ((Zal gj size).subset he) with⟨x,hx,e1⟩|⟨x,hx,e1⟩
   rw[<- e1];exact hL o (by simp) x hx
   rw[<- e1];exact hv x hx)
  intro L hx
  rcases List.mem_cons.1 hx with rfl|hx
  simp;exact ih L hx
theorem ZnB{S:Int->Prop}{vs ws:List Int}(h:∀v∈vs,S v/\ -1000000000<=v/\v<=1000000000):∀e∈Zcf vs ws,S e.v:=fun e he=>by have hs:=Zem (Zk vs ws);obtain⟨p,hp,h1,_⟩:=(ZcV (Zdp (Zk vs ws)) 0).1 e he;obtain⟨q,hq,e2⟩:=hs.sub p hp;unfold Zk at hq;obtain⟨z,hz,rfl⟩:=List.mem_map.1 hq;have hz1:z.1∈vs:=(List.of_mem_zip (a:=z.1) (b:=z.2) hz).1;obtain⟨a,b,c⟩:=h z.1 hz1;rw[<- h1,<- e2];show S (ZaT z.1);unfold ZaT;rw[if_neg (by omega),if_neg (by omega)];exact a
theorem ZdQ{S:Int->Prop}{size:Nat}(hs:2<=size)(hs2:size<=32):∀(f:Nat) (Ls:List (List Zq)) (vs ws:List Int),Y7 Ls->ZK Ls+1000*(vs.length:Int)<=1000000000000->vs.length<=2097152->(∀L∈Ls,∀e∈L,S e.v)->(∀v∈vs,S v/\ -1000000000<=v/\v<=1000000000)->∀L∈YF size f Ls vs ws,∀e∈L,S e.v
 |0,Ls,vs,ws,_,_,_,hL,_=>by simp only[YF];exact hL
 |f+1,Ls,vs,ws,h,ht,hl,hL,hv=>by simp only[YF];split;exact hL;have h1:=ZiG (vs:=vs.take size) (ws:=ws.take size) (by simp;omega);have hp:=Y1 h.good;have hlen:(vs.take size).length+(vs.drop size).length=vs.length:=(by simp;omega);have hlt:(vs.take size).length<=size:=(by simp;omega);obtain⟨t1,t2⟩:=ZcX (size:=(size:Int)) (by omega) (by omega) h h1.1 (by omega) (by omega);refine ZdQ hs hs2 f _ (vs.drop size) (ws.drop size) t1 (by omega) (by omega) ?_ (fun v hv2=>hv v (List.mem_of_mem_drop hv2));exact Ze9 (by omega) (by omega) h h1.1 (by omega) (by omega) hL (ZnB (fun v hv2=>hv v (List.mem_of_mem_take hv2)))
theorem ZdZ{S:Int->Prop}{size:Int}(hs:2<=size)(hs2:size<=32):∀(Ls:List (List Zq)) (al:List Zq),Y7 Ls->ZB al->al.length<=32->Zc al+ZK Ls<=1000000000000->(∀L∈Ls,∀e∈L,S e.v)->(∀e∈al,S e.v)->∀e∈Y0 size al Ls,S e.v
 |[],al,_,_,_,_,_,hv=>hv
 | l ::r,al,h,g,hl,ht,hL,hv=>by
  have gl:=h.good l (by simp);have hr:Y7 r:=⟨fun x hx=>h.good x (by simp[hx]),fun x hx=>h.len x (by simp[hx])⟩;have p1:=Y1 hr.good;simp only[ZK] at ht;have gj:=Zab g gl (by omega);have lc:=ZbH (Zx al l) hs;have tc:Zc (YL (Zx al l) size)=Zc al+Zc l:=(by rw[ZaO,Zai]);simp only[Y0]
  exact ZdZ hs hs2 r _ hr (gj.sub (Zal gj size)) (by omega) (by omega) (fun L hx=>hL L (by simp[hx])) (fun e he=>by
   rcases Zgk g gl e ((Zal gj size).subset he) with⟨x,hx,e1⟩|⟨x,hx,e1⟩
   rw[<- e1];exact hv x hx
   rw[<- e1];exact hL l (by simp) x hx)
theorem Zhd{S:Int->Prop}{size:Nat}(hs:2<=size)(hs2:size<=32)(vs ws:List Int)(hl:vs.length<=2097152)(hv:∀v∈vs,S v/\ -1000000000<=v/\v<=1000000000):∀e∈Yl size vs ws,S e.v:=by obtain⟨h1,h2⟩:=Zdw hs hs2 vs.length [] vs ws Y7.nil (by simp[ZK];omega) hl;exact ZdZ (by omega) (by omega) _ [] h1 ZB.nil (by simp) (by simp[Zc,ZK] at h2 ⊢;omega) (ZdQ hs hs2 _ _ _ _ Y7.nil (by simp[ZK];omega) hl (by simp) hv) (by simp)
theorem ZeE:∀(L:List VS) (ws:List Int) (x:Int×Int),x∈ZH L ws->∃v∈L,v.miss=false/\v.num=x.1
 |[],_,x,h=>by simp[ZH] at h
 |_::_,[],x,h=>by simp[ZH] at h
 | v::L,z::ws,x,h=>by
  simp only[ZH] at h;split at h;obtain⟨u,hu,h1⟩:=ZeE L ws x h;exact⟨u,by simp[hu],h1⟩;rename_i hm
  rcases List.mem_cons.1 h with rfl|h
  exact⟨v,by simp,by simpa using hm,rfl⟩;obtain⟨u,hu,h1⟩:=ZeE L ws x h;exact⟨u,by simp[hu],h1⟩
theorem ZjB{L:List VS}{ws:List Int}{bins:Int}{size:Nat}(hL:L.length<=200)(hs:2<=size)(hs2:size<=32)(hr:∀v∈L,-1000000000<=v.num/\v.num<=1000000000):∀x∈YP L ws bins size,∃v∈L,v.miss=false/\v.num=x:=fun x hx=>by have hl:((ZH L ws).map Prod.fst).length<=2097152:=(by have:=ZbM L ws;simp;omega);unfold YP at hx;have h1:=(ZeU _ bins).subset hx;obtain⟨e,he,rfl⟩:=List.mem_map.1 h1;refine Zhd (S:=fun y=>∃v∈L,v.miss=false/\v.num=y) hs hs2 _ _ hl (fun v hv=>?_) e (List.mem_of_mem_take he);obtain⟨p,hp,rfl⟩:=List.mem_map.1 hv;obtain⟨u,hu,h2,h3⟩:=ZeE L ws p hp;have:=hr u hu;exact⟨⟨u,hu,h2,h3⟩,by omega,by omega⟩
theorem Zot{L:List VS}{ws:List Int}{ct bins:Int}:∀x∈(lwF L ws ct bins).ww,∃v∈L,v.miss=false/\v.word=x:=fun x hx=>by
 unfold lwF at hx;simp only at hx;obtain⟨y,hy,rfl⟩:=List.mem_map.1 hx;have h1:=(List.mem_mergeSort).1 (List.mem_of_mem_take hy);have h2:=((Zgx _ _ _).1 h1).1;unfold ZdK at h2;obtain⟨p,hp,h3⟩:=List.any_eq_true.1 h2;unfold Zd3 at h3;simp only[Bool.and_eq_true,Bool.not_eq_true',decide_eq_true_eq] at h3;refine⟨p.1,(List.of_mem_zip (a:=p.1) (b:=p.2) hp).1,h3.1,?_⟩;have h4:=h3.2
 cases hw:p.1.word with
 | mk d=>
  cases hy2:y.wd with
  | mk d2=>
   rw[hw,hy2] at h4;simp only at h4;rw[Array.toList_inj.1 h4]
theorem Zoq{wd:Bool}{ct bins:Int}{size d:Nat}{L:List VS}{ws:List Int}(hL:L.length<=200)(hs:2<=size)(hs2:size<=32)(hb:2<=bins)(hb2:bins<=16)(hr:∀v∈L,(-1000000000<=v.num/\v.num<=1000000000)/\v.word.size<=8):Zeq ⟨ZX lwF wd ct bins size L ws,d⟩:=by
 cases wd
 left;have e:ZX lwF false ct bins size L ws=⟨false,YP L ws bins size,[]⟩:=(by simp[ZX]);rw[e];refine⟨rfl,rfl,?_,fun x hx=>?_⟩;have:=(ZhQ L ws hL hs hs2 hb).2;show(YP L ws bins size).length<=1000;omega;obtain⟨v,hv,_,rfl⟩:=ZjB hL hs hs2 (fun v hv=>(hr v hv).1) x hx;have:=(hr v hv).1;omega;right;have e:ZX lwF true ct bins size L ws=lwF L ws ct bins:=(by simp[ZX]);rw[e];refine⟨rfl,rfl,?_,fun x hx=>?_⟩;show(List.map _ (List.take bins.toNat _)).length<=1000;rw[List.length_map,List.length_take];omega;obtain⟨v,hv,_,rfl⟩:=Zot x hx;exact(hr v hv).2
def esD(m:Nat)(wd:Nat->Bool)(ct:Nat->Int)(bins:Int)(size:Nat)(s:RS):List ES:=(List.range (m+1)).map (fun i=>ZX lwF (wd i) (ct i) bins size (s.cols i) s.ws)
def bbD(m:Nat)(wd:Nat->Bool)(ct:Nat->Int)(bins:Int)(size:Nat)(s:RS):List (List Nat):=(List.range (m+1)).map (fun i=>(s.cols i).map (YD (ZX lwF (wd i) (ct i) bins size (s.cols i) s.ws)))
def ZdX(m:Nat)(wd:Nat->Bool)(ct:Nat->Int)(bins:Int)(size budget:Nat)(s:RS):QV:=Qp m s.ws.length budget (esD m wd ct bins size s) (bbD m wd ct bins size s)
section
variable {m:Nat} {wd:Nat->Bool} {sc ct:Nat->Int} {bins:Int} {size budget:Nat} {l:List Int} {s:RS}
theorem ZfA{i:Nat}(hi:i<m+1):(esD m wd ct bins size s).getD i e0S=ZX lwF (wd i) (ct i) bins size (s.cols i) s.ws:=by simp[esD,Qc,hi]
theorem ZlW{i:Nat}(hi:i<m+1):(bbD m wd ct bins size s).getD i []=(s.cols i).map (YD (ZX lwF (wd i) (ct i) bins size (s.cols i) s.ws)):=by simp[bbD,Qc,hi]
structure ZmC(m:Nat)(s:RS):Prop where
 inv:QO (m+1) s
 val:ZdM (m+1) s
theorem Zrj(hsc:∀i,i<m+1->wd i=false->0<=sc i/\sc i<=3)(h:Zj (m+1) wd sc RS.start l 0=.ok s):ZmC m s:=
 ⟨QO.takes (by omega) hsc l (QO.start (show 1<=m+1 by omega)) h,ZdM.takes (by omega) hsc l (ZdM.start (m+1)) (QO.start (show 1<=m+1 by omega)) h⟩
theorem ZmC.binok(h:ZmC m s)(hc:ZaE lwF m wd ct bins size s):ZiP m s.ws.length (esD m wd ct bins size s) (bbD m wd ct bins size s):=by refine⟨by simp[esD],fun i hi=>?_,fun i hi=>?_,fun i hi=>?_,fun i hi b hb=>?_⟩;rw[ZlW hi,List.length_map];exact h.inv.col i hi;rw[ZfA hi];exact(hc.ok i hi).1;rw[ZfA hi];exact(hc.ok i hi).2.2;rw[ZlW hi] at hb;rw[ZfA hi];obtain⟨v,_,rfl⟩:=List.mem_map.1 hb;exact ZlX _ _
theorem ZmC.kn(h:ZmC m s)(hs:2<=size)(hs2:size<=32)(hb:2<=bins)(hb2:bins<=16):∀K∈(ZdX m wd ct bins size budget s).ks,Zeq K:=by intro K hK;rw[show(ZdX m wd ct bins size budget s).ks=ksF (esD m wd ct bins size s) (bbD m wd ct bins size s) (m+1) from ZfR _ _ _ _ _] at hK;unfold ksF at hK;obtain⟨i,hi,rfl⟩:=List.mem_map.1 hK;have hi:=List.mem_range.1 hi;unfold kF;rw[ZfA hi];exact Zoq (by rw[h.inv.col i hi];exact h.inv.ws) hs hs2 hb hb2 (h.val.col i hi)
end
def Zqw(m:Nat)(wd:Nat->Bool)(ct:Nat->Int)(bins:Int)(size budget len:Nat)(o:Except (Int×Nat) RS)(e:Ending)(w':World):Prop:=
 match o with
 |.error (z,p)=>e=.returned (.tuple #[.pointer none,.int .i64 z,.int .i64 (p:Nat)])
 |.ok s=>(s.wt≠0/\e=.returned (.tuple #[.pointer none,.int .i64 2,.int .i64 (len:Nat)]))∨
   (s.wt=0/\∃gb db,e=.returned (.tuple #[.pointer (some ⟨gb,0,none⟩),.int .i64 0,.int .i64 0])/\Zbn w' gb db (ZdX m wd ct bins size budget s))
theorem Zpk(b:ByteArray)(fk m fc cn cc:Nat)(ca:Option Addr)(cz:List Int)(bins:Int)(size budget:Nat)(wd:Nat->Bool)(sc ct:Nat->Int)(w:World)(hF:Qk w fk 0 (m+1) wd sc ct)(hc:Zcp (m+1) bins size budget wd sc ct=true)(hcut:ZS w ca cn cz)(hcn:cn<=9223372036854775807)(hb:b.size<=200000000000000):Calls Tryz.prog 25 #[.agg #[.slice (some ⟨fk,0,none⟩) (m+1) fc,.int .i64 bins,.int .i64 (size:Nat),.int .i64 (budget:Nat)],.string b,.slice ca cn cc] w fun e w'=>Zqw m wd ct bins size budget b.size (Zj (m+1) wd sc RS.start (Zb b) 0) e w'/\Below w.heap.size w w':=by
 obtain⟨h1,h4,c1,c2,c3,c4,c5,c6,hfe⟩:=ZbS hc
 have hsc:∀i,i<m+1->wd i=false->0<=sc i/\sc i<=3:=fun i hi hw=>by have:=hfe i hi;unfold Zam at this;rw[hw] at this;simp at this;omega
 exact Ze2 lwF b fk 0 m fc cn cc ca cz bins size budget wd sc ct w hF hc hcut hcn hb (fun s hs _=>ZeV hsc (by omega) (by omega) (by omega) (by omega) hs)
end Go.Proofs.YtfcgnpchbcmdeaaGreat
namespace Go.Proofs.YtfcgnpchbcmdeaaGreat
set_option linter.unusedSimpArgs false
open Go.RowKit Go.Lib Go.Sort
section
variable {m:Nat} {wd:Nat->Bool} {sc ct:Nat->Int} {bins:Int} {size budget:Nat} {l:List Int} {s:RS}
end
end Go.Proofs.YtfcgnpchbcmdeaaGreat
namespace Go.Proofs.YtfcgnpchbcmdeaaGreat
set_option linter.unusedSimpArgs false
open Go.RowKit
theorem Zbb{α:Type}(f:α->List Int)(c:Nat):∀(L:List α),(∀x∈L,(f x).length<=c)->(L.flatMap f).length<=L.length*c
 |[],_=>by simp
 |x::L,h=>by have h1:=h x (by simp);have h2:=Zbb f c L (fun y hy=>h y (by simp[hy]));rw[List.flatMap_cons,Qe,List.length_cons,Nat.succ_mul];omega
theorem Zkz{n:Nat}{D:QV}(hd:ZhA n D)(hk:∀K∈D.ks,Zeq K){X:List XS}(hX:X.Perm D.xs):(ZL D X).length<=100000:=by have h1:=Zbb knA 9003 D.ks (fun K hK=>Zmd (hk K hK));have h2:=Zbb QP 5000 D.bs (fun b hb=>(hd.bun b hb).2.2.2.2);have h3:=Zbb xB 3 X (fun x _=>Qa _);have h4:=hd.k4;have h5:=hd.b4;have h6:=hd.xl;rw[<- hX.length_eq] at h6;unfold ZL Q8;simp only[Qe,List.length_cons,List.length_nil,Zap];have h7:D.ks.length*9003<=4*9003:=Nat.mul_le_mul_right _ h4;have h8:D.bs.length*5000<=4*5000:=Nat.mul_le_mul_right _ h5;omega
section
variable {m:Nat} {wd:Nat->Bool} {sc ct:Nat->Int} {B S U:Nat} {l:List Int} {s:RS}
theorem ZmL{w:World}{gb db:Nat}(ho:Zbn w gb db (ZdX m wd ct (B:Nat) S U s))(h:ZmC m s)(hc:ZaE lwF m wd ct (B:Nat) S s)(hm:m+1<=4)(hs:2<=S)(hs2:S<=32)(hb1:2<=B)(hb2:B<=16):∃X,X.Perm (ZdX m wd ct (B:Nat) S U s).xs/\ZaF X/\(ZL (ZdX m wd ct (B:Nat) S U s) X).length<=100000/\Calls Tryz.prog 34 #[.pointer (some ⟨gb,0,none⟩)] w fun e w'=>e=.returned (.string (strOfNums (ZL (ZdX m wd ct (B:Nat) S U s) X)))/\Below w.heap.size w w':=by have hd:ZhA s.ws.length (ZdX m wd ct (B:Nat) S U s):=Zou hm h.inv.ws (h.binok hc);have hkn:=h.kn (wd:=wd) (ct:=ct) (budget:=U) (bins:=(B:Nat)) hs hs2 (by omega) (by omega);obtain⟨vK,vB,vX,kvs,bvs,X,hM⟩:=ho.md;exact⟨X,hM.perm,hM.sorted,Zkz hd hkn hM.perm,Zjo gb db _ _ w ho hd hkn X hM.perm hM.sorted⟩
end
end Go.Proofs.YtfcgnpchbcmdeaaGreat
