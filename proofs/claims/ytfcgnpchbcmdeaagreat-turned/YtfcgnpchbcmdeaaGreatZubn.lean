import Derived.Test.YtfcgnpchbcmdeaaGreatZubi
import Derived.Test.YtfcgnpchbcmdeaaGreatZubh
import Derived.Test.YtfcgnpchbcmdeaaGreatZuan
import Derived.Test.YtfcgnpchbcmdeaaGreatZuap
namespace Go.Proofs.YtfcgnpchbcmdeaaGreat
set_option linter.unusedSimpArgs false
set_option maxRecDepth 100000
set_option maxHeartbeats 8000000
open Go.RowKit
theorem Zck(tot bins:Int):∀(M:List Zq) (share:Int),(YX tot bins share M).Sublist (M.map fun e=>e.v)
 |[],_=>by simp[YX]
 |e::r,share=>by unfold YX;split;exact List.Sublist.cons_cons _ (Zck tot bins r _);exact(Zck tot bins r _).cons _
theorem Zcj{tot bins B:Int}:∀(M:List Zq) (share:Int),(∀e∈M,Zah bins tot e.hi<=B)->share<=B+1->((YX tot bins share M).length:Int)<=B+1-share
 |[],share,_,h=>by simp[YX];omega
 |e::r,share,hB,h=>by have h1:=hB e (by simp);have hr:=fun x hx=>hB x (List.mem_cons_of_mem e hx);unfold YX;split;have:=Zcj r (Zah bins tot e.hi+1) hr (by omega);simp only[List.length_cons];omega;exact Zcj r share hr h
theorem ZeU(L:List Zq)(bins:Int):(Z0 L bins).Sublist ((L.take (L.length-1)).map fun e=>e.v):=by unfold Z0;split;simp;split;exact List.Sublist.refl _;exact Zck _ _ _ _
theorem Zid{L:List Zq}(g:ZB L)(bins:Int):(Z0 L bins).Pairwise (· < ·):=by refine List.Pairwise.sublist ((ZeU L bins).trans ((List.take_sublist _ _).map _)) ?_;rw[List.pairwise_map];exact g.step.imp fun h=>h.1
theorem Zi4{L:List Zq}(g:ZB L){bins:Int}(hb:2<=bins):((Z0 L bins).length:Int)<bins:=by
 unfold Z0;split;simp;omega;rename_i h0;split;rename_i hle;simp;omega;have hl:=g.at (i:=L.length-1) (by omega);have htot:Zc L=(L.getD (L.length-1) e0).hi:=(by unfold Zc;rw[if_neg h0]);have:=Zcj (tot:=Zc L) (bins:=bins) (B:=bins-1) (L.take (L.length-1)) 1 (fun e he=>?_) (by omega);omega;obtain⟨k,hk,rfl⟩:=Zow he;rw[List.length_take] at hk;have hk2:k<L.length-1:=(by omega);have ek:(L.take (L.length-1)).getD k e0=L.getD k e0:=(by simp[List.getD,hk2,show k<L.length by omega]);rw[ek];have hs:=(g.lt (i:=k) (j:=L.length-1) hk2 (by omega)).2.2;unfold Zah;have h1:bins*(L.getD k e0).hi<bins*Zc L:=Int.mul_lt_mul_of_pos_left (by omega) (by omega);have h2:bins*(L.getD k e0).hi/Zc L<bins:=Int.ediv_lt_of_lt_mul (by omega) h1;omega
theorem ZhQ(L:List VS)(ws:List Int){bins:Int}{size:Nat}(hL:L.length<=200)(hs:2<=size)(hs2:size<=32)(hb:2<=bins):(YP L ws bins size).Pairwise (· < ·)/\((YP L ws bins size).length:Int)<bins:=by have hl:((ZH L ws).map Prod.fst).length<=2097152:=(by have:=ZbM L ws;simp;omega);have g:=(Ze0 hs hs2 ((ZH L ws).map Prod.fst) ((ZH L ws).map Prod.snd) hl).1;exact⟨Zid g bins,Zi4 g hb⟩
structure ZdM(n:Nat)(s:RS):Prop where
 ws:∀z∈s.ws,0<=z/\z<=99
 row:∀v∈s.row,(-1000000000<=v.num/\v.num<=1000000000)/\v.word.size<=8
 col:∀i,i<n->∀v∈s.cols i,(-1000000000<=v.num/\v.num<=1000000000)/\v.word.size<=8
theorem ZdM.start(n:Nat):ZdM n RS.start:=⟨by simp[RS.start],by simp[RS.start],by simp[RS.start]⟩
theorem Qm.of{p:Zy}(h:Qm p){bs:List Int}(hb:bs.length<=8):(-1000000000<=(Qj p bs).num/\(Qj p bs).num<=1000000000)/\(Qj p bs).word.size<=8:=by have h1:=h.le;have h2:=h.n0;refine⟨?_,?_⟩;show -1000000000<=Zcw p/\Zcw p<=1000000000;unfold Zcw;split<;>omega;show(strOfNums bs).size<=8;have:(strOfNums bs).size=bs.length:=(by simp[strOfNums,ByteArray.size]);omega
theorem ZdM.take{n:Nat}{wd:Nat->Bool}{sc:Nat->Int}{s s':RS}{c:Int}(h:ZdM n s)(hI:QO n s)(ht:Yy n wd sc s c=.ok s'):ZdM n s':=by
 unfold Yy at ht;split at ht
 ·cases ht
 split at ht
 ·split at ht
  ·cases ht
  injection ht with ht;subst ht;exact⟨h.ws,h.row,h.col⟩;injection ht with ht;subst ht;exact⟨h.ws,h.row,h.col⟩
 split at ht;injection ht with ht;subst ht;exact⟨h.ws,h.row,h.col⟩;split at ht
 ·injection ht with ht;subst ht
  have hrow:∀v∈s.row++[Qj s.p s.bs],(-1000000000<=v.num/\v.num<=1000000000)/\v.word.size<=8:=fun v hv=>by
   rcases List.mem_append.1 hv with e|e
   exact h.row v e;simp only[List.mem_singleton] at e;rw[e];exact hI.num.of hI.bs
  unfold Qs;split
  ·refine⟨fun z hz=>?_,by simp,fun i hi v hv=>?_⟩
   ·rcases List.mem_append.1 hz with e|e
    exact h.ws z e;simp only[List.mem_singleton] at e;rw[e];exact⟨hI.wt0,hI.wt1⟩
   simp only[hi,if_true] at hv
   rcases List.mem_append.1 hv with e|e
   exact h.col i hi v e;simp only[List.mem_singleton] at e;rw[e];rename_i hl;have hil:i<(s.row++[Qj s.p s.bs]).length:=(by rw[hl];exact hi);rw[Qc,Qd hil];exact hrow _ (Qf _)
  exact⟨h.ws,hrow,h.col⟩
 cases ht
theorem ZdM.takes{n:Nat}{wd:Nat->Bool}{sc:Nat->Int}(hn:1<=n)(hsc:∀i,i<n->wd i=false->0<=sc i/\sc i<=3):∀(l:List Int) {s s':RS} {k:Nat},ZdM n s->QO n s->Zj n wd sc s l k=.ok s'->ZdM n s'
 |[],s,s',k,h,_,e=>by injection e with e;subst e;exact h
 | c::l,s,s',k,h,hI,e=>by
  simp only[Zj] at e
  cases ht:Yy n wd sc s c with
  |error z=>rw[ht] at e;cases e
  |ok s1=>rw[ht] at e;exact ZdM.takes hn hsc l (h.take hI ht) (hI.take hn hsc ht) e
structure ZnR(lw:List VS->List Int->Int->Int->ES):Prop where
 ok:ZnS lw
 fine:∀(L:List VS) (ws:List Int) (ct bins:Int),L.length<=200->2<=bins->bins<=16->Zdb (lw L ws ct bins)/\(lw L ws ct bins).wd=true/\(lw L ws ct bins).cnt<=16
theorem Zja{lw:List VS->List Int->Int->Int->ES}{m:Nat}{wd:Nat->Bool}{sc ct:Nat->Int}{bins:Int}{size:Nat}{l:List Int}{s:RS}(hlw:(∃i,i<m+1/\wd i=true)->ZnR lw)(hsc:∀i,i<m+1->wd i=false->0<=sc i/\sc i<=3)(hb:2<=bins)(hb2:bins<=16)(hs:2<=size)(hs2:size<=32)(h:Zj (m+1) wd sc RS.start l 0=.ok s):ZaE lw m wd ct bins size s:=by
 have hI:=QO.takes (by omega) hsc l (QO.start (show 1<=m+1 by omega)) h;have hV:=ZdM.takes (by omega) hsc l (ZdM.start (m+1)) (QO.start (show 1<=m+1 by omega)) h;refine⟨fun hw=>(hlw hw).ok,fun i hi=>?_,hV.col,hV.ws⟩;have hl:(s.cols i).length<=200:=by rw[hI.col i hi];exact hI.ws
 cases hw:wd i with
 | true=>
  have e:ZX lw true (ct i) bins size (s.cols i) s.ws=lw (s.cols i) s.ws (ct i) bins:=(by simp[ZX]);rw[e];exact(hlw ⟨i,hi,hw⟩).fine _ _ _ _ hl hb hb2
 | false=>
  have e:ZX lw false (ct i) bins size (s.cols i) s.ws=⟨false,YP (s.cols i) s.ws bins size,[]⟩:=(by simp[ZX]);rw[e];obtain⟨h1,h2⟩:=ZhQ (s.cols i) s.ws hl hs hs2 hb;refine⟨⟨h1.imp fun h=>by omega,?_,by simp⟩,rfl,?_⟩;show(YP (s.cols i) s.ws bins size).length<=1000;omega;show ZaI false (YP (s.cols i) s.ws bins size).length 0<=16;simp[ZaI];omega
def bH:ByteArray:=⟨#[49,44,49,10,49,44,50,10]⟩
def noW:Nat->Bool:=fun _=>false
def no0:Nat->Int:=fun _=>0
def lwH:List VS->List Int->Int->Int->ES:=fun _ _ _ _=>⟨false,[],[]⟩
def sH:RS:=match Zj 1 noW no0 RS.start (Zb bH) 0 with
 |.ok s=>s
 |.error _=>RS.start
def eH:ES:=⟨false,[1],[]⟩
def dH:QV:=⟨[⟨eH,0⟩],[⟨[0],[0,2],3⟩],[]⟩
def ZqK:List Int:=[71,82,2,1,110,0,1,1,0,0,0,1,1,0,100,8,0,0]
theorem ZpW:Zj 1 noW no0 RS.start (Zb bH) 0=.ok sH:=by kernel_rfl
theorem ZqN:sH.wt=0:=by kernel_rfl
theorem ZpX:sH.ws=[1,1]:=by kernel_rfl
theorem ZqM:(sH.cols 0).map (fun v=>v.word.size)=[0,0]:=by kernel_rfl
theorem Zqk:(sH.cols 0).map VS.num=[1,2]:=by kernel_rfl
theorem ZkU:ZX lwH false 0 2 2 (sH.cols 0) sH.ws=eH:=by kernel_rfl
theorem Zrb:(sH.cols 0).map (YD eH)=[0,1]:=by kernel_rfl
theorem ZqJ:Qp 0 2 0 [eH] [[0,1]]=dH:=by kernel_rfl
theorem ZpK:Q8 dH []=ZqK:=by kernel_rfl
theorem Zp2:ZL dH []=ZqK++[119,135,217,86]:=by kernel_rfl
theorem Zrh:(strOfNums (ZL dH [])).size=22/\(strOfNums (ZL dH [])).extract 0 18=⟨#[71,82,2,1,110,0,1,1,0,0,0,1,1,0,100,8,0,0]⟩:=by rw[Zp2];exact⟨by kernel_rfl,by kernel_rfl⟩
theorem ZqU:ZQ 0 (Zdp (Zk [5,3,5] [1,2,4]))=[⟨3,0,2,2⟩,⟨5,2,7,5⟩]:=by kernel_rfl
theorem ZqV:ZQ 0 (Zdp (Zk [4] [1]))=[⟨4,0,1,1⟩]:=by kernel_rfl
theorem ZqH:Zx [⟨3,0,2,2⟩,⟨5,2,7,5⟩] [⟨4,0,1,1⟩]=[⟨3,0,2,2⟩,⟨4,2,3,1⟩,⟨5,3,8,5⟩]:=by kernel_rfl
theorem Zp5:ZaE lwH 0 noW no0 2 2 sH:=by refine⟨(fun ⟨i,_,h⟩=>absurd h (by simp[noW])),fun i hi=>?_,fun i hi v hv=>?_,fun z hz=>?_⟩;obtain rfl:i=0:=(by omega);rw[show ZX lwH (noW 0) (no0 0) 2 2 (sH.cols 0) sH.ws=eH from ZkU];exact⟨⟨by decide,by decide,by decide⟩,rfl,by decide⟩;obtain rfl:i=0:=(by omega);have hm:v.num∈(sH.cols 0).map VS.num:=List.mem_map.2 ⟨v,hv,rfl⟩;have hm2:v.word.size∈(sH.cols 0).map (fun v=>v.word.size):=List.mem_map.2 ⟨v,hv,rfl⟩;rw[Zqk] at hm;rw[ZqM] at hm2;simp only[List.mem_cons,List.not_mem_nil,or_false,or_self] at hm hm2;omega;rw[ZpX] at hz;simp at hz;omega
theorem knH:∀K∈dH.ks,Zeq K:=by intro K hK;simp[dH] at hK;subst hK;exact .inl ⟨rfl,rfl,by decide,by decide⟩
theorem Zrc:∀b∈dH.bs,ZfJ b:=by intro b hb;simp[dH] at hb;subst hb;refine⟨by decide,by decide,⟨by decide,by decide⟩,by decide,by decide⟩
theorem byH:∀b∈Q8 dH [],0<=b/\b<256:=by rw[ZpK];decide
theorem ZqO:Zch dH 0 0 0:=by refine⟨by decide,by decide,by decide,fun i j hi hj h=>?_,fun i hi=>?_,fun i j hi hj=>?_,fun i hi=>?_⟩;omega;obtain rfl:i=0:=(by omega);decide;obtain rfl:i=0:=(by omega);obtain rfl:j=0:=(by have:(dH.bs.getD 0 Z6).fs.length=1:=rfl;omega);decide;obtain rfl:i=0:=(by have:dH.ks.length=1:=rfl;omega);decide
theorem Zrd(w:World)(fk fc:Nat)(hF:Qk w fk 0 1 noW no0 no0):Calls Tryz.prog 25 #[.agg #[.slice (some ⟨fk,0,none⟩) 1 fc,.int .i64 2,.int .i64 2,.int .i64 0],.string bH,.slice none 0 0] w fun e w'=>∃gb db,e=.returned (.tuple #[.pointer (some ⟨gb,0,none⟩),.int .i64 0,.int .i64 0])/\Zbn w' gb db dH/\Below w.heap.size w w':=by
 refine(Ze2 lwH bH fk 0 0 fc 0 0 none [] 2 2 0 noW no0 no0 w hF (by decide) ⟨rfl,by simp,.inl rfl⟩ (by omega) (by decide) (fun s hs _=>?_)).mono ?_;rw[ZpW] at hs;injection hs with hs;rw[<- hs];exact Zp5;rintro e w' ⟨hR,hb⟩;rw[ZpW] at hR
 rcases hR with⟨h,_⟩|⟨_,gb,db,rfl,hO⟩
 exact absurd ZqN h;refine⟨gb,db,rfl,?_,hb⟩;have e1:(List.range (0+1)).map (fun i=>ZX lwH (noW i) (no0 i) 2 2 (sH.cols i) sH.ws)=[eH]:=(by show[ZX lwH false 0 2 2 (sH.cols 0) sH.ws]=_;rw[ZkU]);have e2:(List.range (0+1)).map (fun i=>(sH.cols i).map (YD (ZX lwH (noW i) (no0 i) 2 2 (sH.cols i) sH.ws)))=[[0,1]]:=(by show[(sH.cols 0).map (YD (ZX lwH false 0 2 2 (sH.cols 0) sH.ws))]=_;rw[ZkU,Zrb]);have e3:sH.ws.length=2:=(by rw[ZpX];rfl);rw[e1,e2,e3,ZqJ] at hO;exact hO
theorem Zp1(w:World)(gb db:Nat)(h:Zbn w gb db dH):Calls Tryz.prog 34 #[.pointer (some ⟨gb,0,none⟩)] w fun e w'=>e=.returned (.string (strOfNums (ZL dH [])))/\Below w.heap.size w w':=by obtain⟨vK,vB,vX,kvs,bvs,X,hX⟩:=h.md;have hp:=hX.perm;have hX0:X=[]:=List.Perm.eq_nil (by exact hp);subst hX0;exact ZdD gb db vK vB vX kvs bvs [] dH w h.gp hX (by decide) knH (by decide) Zrc (by decide) (by decide) byH
theorem ZqI(w:World)(gb db:Nat)(h:Zbn w gb db dH):Calls Tryz.prog 44 #[.pointer (some ⟨gb,0,none⟩),.int .i64 1,.int .i64 0] w fun e w'=>e=.returned (.tuple #[.int .i64 1,.int .i64 0])/\Below w.heap.size w w':=by refine Zjp gb db 0 1 dH 1 w h (by decide) (by decide) (by decide) (by decide) (by decide) (fun W hW=>?_);obtain⟨vK,vB,vX,kvs,bvs,X,hX⟩:=hW.md;exact Zm7 db 0 0 0 1 vK vB vX kvs bvs X dH W hX ZqO (by decide) (by decide) (by decide) (by decide) (by decide) (by decide) (by decide) (by decide)
theorem ZgZ(W:World)(b:Nat)(x y z:Int)(hx:(Lit.int .i64 x).wf=true/\(Lit.int .i64 y).wf=true/\(Lit.int .i64 z).wf=true)(h:W.heap[b]? =some (.cells #[.int .i64 x,.int .i64 y,.int .i64 z] 3 (0,0))):ZS W (some ⟨b,0,none⟩) 3 [x,y,z]:=by
 refine⟨rfl,fun q hq=>?_,.inr ⟨b,0,rfl,(Qb h).1,fun i hi=>?_⟩⟩
 ·simp at hq
  rcases hq with e|e|e
  rw[e];exact hx.1;rw[e];exact hx.2.1;rw[e];exact hx.2.2
 rw[Nat.zero_add,cell_of_row _ _ i _ 3 (0,0) h]
 match i,hi with
 |0,_=>rfl
 |1,_=>rfl
 |2,_=>rfl
theorem ZjM(W:World)(b:Nat)(x:Int)(hx:(Lit.int .i64 x).wf=true)(h:W.heap[b]? =some (.cells #[.int .i64 x] 3 (0,0))):ZS W (some ⟨b,0,none⟩) 1 [x]:=by
 refine⟨rfl,fun q hq=>?_,.inr ⟨b,0,rfl,(Qb h).1,fun i hi=>?_⟩⟩;simp at hq;rw[hq];exact hx;rw[Nat.zero_add,cell_of_row _ _ i _ 3 (0,0) h]
 match i,hi with
 |0,_=>rfl
theorem ZqS(W:World)(b1 b2 c1 c2:Nat)(h1:W.heap[b1]? =some (.cells #[.int .i64 5,.int .i64 3,.int .i64 5] 3 (0,0)))(h2:W.heap[b2]? =some (.cells #[.int .i64 1,.int .i64 2,.int .i64 4] 3 (0,0))):Calls Tryz.prog 19 #[.slice (some ⟨b1,0,none⟩) 3 c1,.slice (some ⟨b2,0,none⟩) 3 c2] W fun e w'=>∃v,e=.returned v/\Zh w' W.heap.size v [⟨3,0,2,2⟩,⟨5,2,7,5⟩]/\Below W.heap.size W w':=by refine(Ze8 _ _ 3 c1 3 c2 [5,3,5] [1,2,4] W (ZgZ W b1 5 3 5 (by decide) h1) (ZgZ W b2 1 2 4 (by decide) h2) (by decide) (by decide)).mono ?_;rintro e w' ⟨v,M,rfl,hM,ho,hb⟩;refine⟨v,rfl,?_,hb⟩;rw[<- ZgQ hM,ZqU] at ho;exact ho
theorem ZqT(W:World)(b1 b2 c1 c2:Nat)(h1:W.heap[b1]? =some (.cells #[.int .i64 4] 3 (0,0)))(h2:W.heap[b2]? =some (.cells #[.int .i64 1] 3 (0,0))):Calls Tryz.prog 19 #[.slice (some ⟨b1,0,none⟩) 1 c1,.slice (some ⟨b2,0,none⟩) 1 c2] W fun e w'=>∃v,e=.returned v/\Zh w' W.heap.size v [⟨4,0,1,1⟩]/\Below W.heap.size W w':=by refine(Ze8 _ _ 1 c1 1 c2 [4] [1] W (ZjM W b1 4 (by decide) h1) (ZjM W b2 1 (by decide) h2) (by decide) (by decide)).mono ?_;rintro e w' ⟨v,M,rfl,hM,ho,hb⟩;refine⟨v,rfl,?_,hb⟩;rw[<- ZgQ hM,ZqV] at ho;exact ho
theorem Zp8:ZB [⟨3,0,2,2⟩,⟨5,2,7,5⟩]:=⟨by decide,by decide⟩
theorem Zp9:ZB [⟨4,0,1,1⟩]:=⟨by decide,by decide⟩
theorem Zon:ZiU:=by
 intro w;obtain⟨w1,hw1⟩:∃w1,w1=(w.alloc (.cells #[.int .i64 5,.int .i64 3,.int .i64 5] 3)).alloc (.cells #[.int .i64 1,.int .i64 2,.int .i64 4] 3):=⟨_,rfl⟩;have hb1:Below w.heap.size w w1:=(by rw[hw1];exact((Below.refl _ _).alloc (Qa _) _).alloc (by simp) _);have h1a:w1.heap[w.heap.size]? =some (.cells #[.int .i64 5,.int .i64 3,.int .i64 5] 3 (0,0)):=by rw[hw1];exact(Below.heap_alloc _ _ _ (by simp)).trans (heap_alloc_new w _)
 have h1b:w1.heap[w.heap.size+1]? =some (.cells #[.int .i64 1,.int .i64 2,.int .i64 4] 3 (0,0)):=(by have:=heap_alloc_new (w.alloc (.cells #[.int .i64 5,.int .i64 3,.int .i64 5] 3)) (.cells #[.int .i64 1,.int .i64 2,.int .i64 4] 3);rw[show(w.alloc (.cells #[.int .i64 5,.int .i64 3,.int .i64 5] 3)).heap.size=w.heap.size+1 by simp] at this;rw[hw1];exact this);have HS1:=ZqS w1 _ _ 3 3 h1a h1b;have HB1:Hid (Below w.heap.size w w1):=hb1;clear hb1 h1a h1b;go_enter Tryz.func16,Tryz.ntmps16;go_wp2_with fail
 rw[<- hw1];clear hw1;refine HS1.mono ?_;rintro e w2 ⟨v1,rfl,ho1,hb2⟩;obtain⟨a1,c1,e1,hE1,_,_⟩:=ho1.seen (by decide);obtain rfl:v1=.slice a1 2 c1:=e1
 obtain⟨b1,o1,rfl,hA1⟩:∃b off,a1=some ⟨b,off,none⟩/\QN w2 b off [⟨3,0,2,2⟩,⟨5,2,7,5⟩]:=by
  rcases hE1.2 with h0|h
  ·cases h0
  exact h
 have HB2:Hid (Below w.heap.size w w2):=HB1.out.trans (hb2.mono HB1.out.size);have HA1:Hid (QN w2 b1 o1 [⟨3,0,2,2⟩,⟨5,2,7,5⟩]):=hA1;clear ho1 hb2 hE1 hA1 HS1 HB1;obtain⟨w3,hw3⟩:∃w3,w3=(w2.alloc (.cells #[.int .i64 4] 3)).alloc (.cells #[.int .i64 1] 3):=⟨_,rfl⟩;have hb3:Below w2.heap.size w2 w3:=(by rw[hw3];exact((Below.refl _ _).alloc (Qa _) _).alloc (by simp) _);have h3a:w3.heap[w2.heap.size]? =some (.cells #[.int .i64 4] 3 (0,0)):=by rw[hw3];exact(Below.heap_alloc _ _ _ (by simp)).trans (heap_alloc_new w2 _)
 have h3b:w3.heap[w2.heap.size+1]? =some (.cells #[.int .i64 1] 3 (0,0)):=(by have:=heap_alloc_new (w2.alloc (.cells #[.int .i64 4] 3)) (.cells #[.int .i64 1] 3);rw[show(w2.alloc (.cells #[.int .i64 4] 3)).heap.size=w2.heap.size+1 by simp] at this;rw[hw3];exact this);have HS2:=ZqT w3 _ _ 1 1 h3a h3b;have HB3:Hid (Below w2.heap.size w2 w3):=hb3;clear hb3 h3a h3b;go_wp2_with fail
 rw[<- hw3];clear hw3;refine HS2.mono ?_;rintro e w4 ⟨v2,rfl,ho2,hb4⟩;obtain⟨a2,c2,e2,hE2,_,_⟩:=ho2.seen (by decide);obtain rfl:v2=.slice a2 1 c2:=e2;have HB4:Hid (Below w2.heap.size w2 w4):=HB3.out.trans (hb4.mono HB3.out.size);have HJ:=Zip (some ⟨b1,o1,none⟩) a2 [⟨3,0,2,2⟩,⟨5,2,7,5⟩] [⟨4,0,1,1⟩] c1 c2 w4 ⟨by decide,.inr ⟨b1,o1,rfl,HA1.out.below HB4.out⟩⟩ hE2 Zp8 Zp9;rw[ZqH] at HJ;clear ho2 hb4 hE2 HS2 HB3;go_wp2_with fail
 refine HJ.mono ?_;rintro e w5 ⟨v3,rfl,ho3,hb5⟩;obtain⟨a3,c3,e3,hE3,_,_⟩:=ho3.seen (by decide);obtain rfl:v3=.slice a3 3 c3:=e3
 obtain⟨b3,o3,rfl,hA3⟩:∃b off,a3=some ⟨b,off,none⟩/\QN w5 b off [⟨3,0,2,2⟩,⟨4,2,3,1⟩,⟨5,3,8,5⟩]:=by
  rcases hE3.2 with h0|h
  ·cases h0
  exact h
 have HB5:Hid (Below w2.heap.size w2 w5):=HB4.out.trans (hb5.mono HB4.out.size);have hA1:=HA1.out.below HB5.out;have x0:w5.cell? ⟨b1,o1+4,none⟩=some (.int .i64 5):=hA1.v 1 (by decide);have x1:w5.cell? ⟨b1,o1+4+1,none⟩=some (.int .i64 2):=hA1.lo 1 (by decide);have x2:w5.cell? ⟨b1,o1+4+2,none⟩=some (.int .i64 7):=hA1.hi 1 (by decide);have x3:w5.cell? ⟨b1,o1+4+3,none⟩=some (.int .i64 5):=hA1.wt 1 (by decide);have y0:w5.cell? ⟨b3,o3+4,none⟩=some (.int .i64 4):=hA3.v 1 (by decide);have y1:w5.cell? ⟨b3,o3+4+1,none⟩=some (.int .i64 2):=hA3.lo 1 (by decide);have y2:w5.cell? ⟨b3,o3+4+2,none⟩=some (.int .i64 3):=hA3.hi 1 (by decide);have y3:w5.cell? ⟨b3,o3+4+3,none⟩=some (.int .i64 1):=hA3.wt 1 (by decide);have HB5w:Hid (Below w.heap.size w w5):=HB2.out.trans (HB5.out.mono HB2.out.size)
 clear ho3 hb5 hE3 HJ HB4 hA1 hA3 HA1 HB2 HB5;go_upto_region 5 with fail;clear x0 x1 x2 x3 y0 y1 y2 y3;obtain⟨w6,hw6⟩:∃w6,w6=w5.alloc (.cells #[.bool false,.int .i64 0,.int .i64 0] 51):=⟨_,rfl⟩;have hb6:Below w5.heap.size w5 w6:=(by rw[hw6];exact(Below.refl _ _).alloc (Qa _) _);have h6:w6.heap[w5.heap.size]? =some (.cells #[.bool false,.int .i64 0,.int .i64 0] 51 (0,0)):=by rw[hw6];exact heap_alloc_new w5 _
 have hft:Qk w6 w5.heap.size 0 1 noW no0 no0:=(by refine⟨by decide,fun _=>(Qb h6).1,fun i hi=>?_,fun i hi=>?_,fun i hi=>?_⟩;obtain rfl:i=0:=(by omega);exact cell_of_row _ _ 0 _ 51 (0,0) h6;obtain rfl:i=0:=(by omega);exact cell_of_row _ _ 1 _ 51 (0,0) h6;obtain rfl:i=0:=(by omega);exact cell_of_row _ _ 2 _ 51 (0,0) h6);have HFD:=Zrd w6 w5.heap.size 1 hft;unfold bH at HFD;have HB6:Hid (Below w.heap.size w w6):=HB5w.out.trans (hb6.mono HB5w.out.size);clear hft h6 hb6 HB5w;go_wp2_with fail
 rw[<- hw6];clear hw6;refine HFD.mono ?_;rintro e w7 ⟨gb,db,rfl,hO7,hb7⟩;have HO7:Hid (Zbn w7 gb db dH):=hO7;have HB7:Hid (Below w.heap.size w w7):=HB6.out.trans (hb7.mono HB6.out.size);clear hO7 hb7 HFD HB6;have HBY:=Zp1 w7 gb db HO7.out;obtain⟨hs1,hs2⟩:=Zrh;generalize strOfNums (ZL dH [])=S at *;have HS2:Hid (S.extract 0 18=⟨#[71,82,2,1,110,0,1,1,0,0,0,1,1,0,100,8,0,0]⟩):=hs2;clear hs2;go_wp2_with fail
 refine HBY.mono ?_;rintro e w8 ⟨rfl,hb8⟩;have HLK:=ZqI w8 gb db (HO7.out.below hb8);have HB8:Hid (Below w.heap.size w w8):=HB7.out.trans (hb8.mono HB7.out.size);clear hb8 HBY HB7 HO7;go_wp2_with fail
 refine HLK.mono ?_;rintro e w9 ⟨rfl,hb9⟩;have HB9:Hid (Below w.heap.size w w9):=HB8.out.trans (hb9.mono HB8.out.size);clear hb9 HLK HB8;have hs2:=HS2.out;have l1:(S.size:Int)=22:=(by rw[hs1];rfl);have l2:(18:Int)<=(S.size:Int):=(by omega);clear hs1;go_wp2;go_ret;exact⟨rfl,HB9.out⟩
end Go.Proofs.YtfcgnpchbcmdeaaGreat
