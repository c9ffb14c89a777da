import Derived.Test.YtfcgnpchbcmdeaaGreatZabg
import Derived.Test.YtfcgnpchbcmdeaaGreatZabi
import Derived.Test.YtfcgnpchbcmdeaaGreatZabf
import Derived.Test.YtfcgnpchbcmdeaaGreatZaaf
namespace Go.Proofs.YtfcgnpchbcmdeaaGreat
set_option maxRecDepth 100000
set_option maxHeartbeats 8000000
open Go.RowKit
structure Zk9 where
 wt:Int
 ms:List Bool
 ns:List Int
 ss:List ByteArray
def Za2(x:Int):Bool:=decide (Zz x 3=0/\Zz (x.tdiv 3) 4=0)
def xR(l:List Int)(at_ i:Nat):Int:=l.getD (at_+1+i) 0
def txR(cs l:List Int)(at_ i:Nat):ByteArray:=if Za2 (xR l at_ i)=true then⟨#[]⟩ else fdT (cfW cs i) (cfC cs i) ((xR l at_ i).tdiv 3)
def wtR(l:List Int)(at_:Nat):Int:=1+((Zz (l.getD at_ 0) 9:Nat):Int)
def YZ(cs l:List Int)(at_:Nat)(s:ByteArray):Nat->ByteArray
 |0=>s
 |i+1=>(YZ cs l at_ s i++⟨#[44]⟩)++txR cs l at_ i
def ZbU(cs l:List Int)(at_ k:Nat):Zk9:=⟨wtR l at_,(List.range k).map fun i=>Za2 (xR l at_ i),(List.range k).map fun i=>fdV (cfW cs i) (cfC cs i) ((xR l at_ i).tdiv 3),(List.range k).map fun i=>fdS (cfW cs i) ((xR l at_ i).tdiv 3)⟩
def QC(cs l:List Int):Nat->ByteArray
 |0=>⟨#[]⟩
 |r+1=>YZ cs l (r*(YH cs+2)) (QC cs l r++QP (wtR l (r*(YH cs+2)))) (YH cs+1)++⟨#[10]⟩
def ZdN(cs l:List Int)(r:Nat):List Zk9:=(List.range r).map fun j=>ZbU cs l (j*(YH cs+2)) (YH cs+1)
theorem Zme(cs l:List Int)(r:Nat):ZdN cs l (r+1)=ZdN cs l r++[ZbU cs l (r*(YH cs+2)) (YH cs+1)]:=by simp[ZdN,List.range_succ]
theorem Zos(cs l:List Int)(at_ k:Nat):ZbU cs l at_ (k+1)=⟨wtR l at_,(ZbU cs l at_ k).ms++[Za2 (xR l at_ k)],(ZbU cs l at_ k).ns++[fdV (cfW cs k) (cfC cs k) ((xR l at_ k).tdiv 3)],(ZbU cs l at_ k).ss++[fdS (cfW cs k) ((xR l at_ k).tdiv 3)]⟩:=by simp[ZbU,List.range_succ]
def Y8(cs l:List Int):Nat:=min 150 (l.length/(YH cs+2))
theorem Zmy(p:Nat):(Zk0 p).size<=6:=by
 unfold Zk0
 by_cases h:p<6
 ·rcases(show p=0∨p=1∨p=2∨p=3∨p=4∨p=5 by omega) with rfl|rfl|rfl|rfl|rfl|rfl<;>decide
 rw[Qc,List.getElem?_eq_none (by simp;omega)];decide
theorem Zq6(n:Int): -30<=kN n/\kN n<=30:=by have:=Yr n (show 0<61 by omega);unfold kN;omega
theorem Zpi(wd:Bool)(sc n:Int):(fdT wd sc n).size<=6:=by have hk:=Zq6 n;have hd:=Zc5 (z:=kN n) (by omega) (by omega);unfold fdT;split;exact Zmy _;split;rw[ByteArray.size_append];have e:(⟨#[46,53]⟩:ByteArray).size=2:=rfl;omega;omega
theorem ZkX(cs l:List Int)(at_ i:Nat):(txR cs l at_ i).size<=6:=by unfold txR;split;decide;exact Zpi _ _ _
theorem Zce(cs l:List Int)(at_:Nat)(s:ByteArray):∀k,(YZ cs l at_ s k).size<=s.size+7*k
 |0=>by simp[YZ]
 |k+1=>by have h1:=Zce cs l at_ s k;have h2:=ZkX cs l at_ k;have e:(⟨#[44]⟩:ByteArray).size=1:=rfl;simp only[YZ,ByteArray.size_append];omega
theorem ZmC(l:List Int)(at_:Nat):1<=wtR l at_/\wtR l at_<=9:=by have:=Yr (l.getD at_ 0) (show 0<9 by omega);unfold wtR;omega
theorem Zed(cs l:List Int):∀r,(QC cs l r).size<=40*r
 |0=>by simp[QC];decide
 |r+1=>by have h1:=Zed cs l r;have hm:=(ZjS cs).2.2.2.2.2;have hw:=ZmC l (r*(YH cs+2));have h2:=Zc5 (z:=wtR l (r*(YH cs+2))) (by omega) (by omega);have h3:=Zce cs l (r*(YH cs+2)) (QC cs l r++QP (wtR l (r*(YH cs+2)))) (YH cs+1);have e:(⟨#[10]⟩:ByteArray).size=1:=rfl;simp only[QC,ByteArray.size_append] at *;omega
structure Zgc where
 r:Zk9
 vm:Value
 vn:Value
 vs:Value
def Zo5(p:Zgc):List Value:=[.int .i64 p.r.wt,p.vm,p.vn,p.vs]
def ZbR:List Zgc->List Value
 |[]=>[]
 |p::L=>Zo5 p++ZbR L
theorem Zhy(A B:List Zgc):ZbR (A++B)=ZbR A++ZbR B:=by
 induction A with
 |nil=>rfl
 |cons x A ih=>simp[ZbR,ih]
structure Zbe(w:World)(base:Nat)(v:Value)(L:List Zgc):Prop where
 row:w.ownsRow base 103 4 v L.length (ZbR L)
 each:∀p∈L,Z8 w base p.vm p.r.ms/\Zc w base p.vn p.r.ns/\ZF w base p.vs p.r.ss
theorem Zbe.nil(w:World)(base:Nat):Zbe w base (.slice none 0 0) []:=⟨World.ownsRow_nil _ _ _ _,by simp⟩
theorem Zbe.below{w w':World}{base:Nat}{v:Value}{L:List Zgc}(h:Zbe w base v L)(hb:Below w.heap.size w w'):Zbe w' base v L:=by have t:=Za.of_below (S:=fun _=>False) hb;exact⟨t.row h.row (fun _ _=>id),fun p hp=>⟨t.row (h.each p hp).1 (fun _ _=>id),t.row (h.each p hp).2.1 (fun _ _=>id),t.row (h.each p hp).2.2 (fun _ _=>id)⟩⟩
theorem Zbe.shape{w:World}{base:Nat}{v:Value}{L:List Zgc}(h:Zbe w base v L):∃a c,v=.slice a L.length c:=by
 rcases h.row.2 with⟨rfl,h0⟩|⟨g,cap,cur,rfl,_⟩
 exact⟨none,0,by rw[h0]⟩;exact⟨_,cap,rfl⟩
theorem Zbe.more{w w':World}{base:Nat}{v v':Value}{L:List Zgc}{p:Zgc}(h:Zbe w base v L)(hp:Z8 w base p.vm p.r.ms/\Zc w base p.vn p.r.ns/\ZF w base p.vs p.r.ss)(g:w.grownBy w' v.ownBlock)(r:w'.ownsRow base 103 4 v' (L.length+1) (ZbR L++Zo5 p)):Zbe w' base v' (L++[p]):=by
 have t:Za (fun q=>v.ownBlock=some q) w w':=(Za.refl _ w).grown g (fun k hk _=>hk)
 have nt:∀{b2 e size m:Nat} {u:Value} {xs:List Value},w.ownsRow b2 e size u m xs->e≠103->∀q,u.ownBlock=some q->¬v.ownBlock=some q:=fun hr hne q hq e=>by obtain⟨cur,hc⟩:=Zg hr hq;exact Zp h.row e hc (Ne.symm hne) rfl
 refine⟨?_,fun q hq=>?_⟩
 ·rw[Zhy,Qe]
  simpa [ZbR] using r
 have hq2:Z8 w base q.vm q.r.ms/\Zc w base q.vn q.r.ns/\ZF w base q.vs q.r.ss:=by
  rcases List.mem_append.1 hq with e|e
  exact h.each q e;simp only[List.mem_singleton] at e;rw[e];exact hp
 exact⟨t.row hq2.1 (nt hq2.1 (by decide)),t.row hq2.2.1 (nt hq2.2.1 (by decide)),t.row hq2.2.2 (nt hq2.2.2 (by decide))⟩
def ZoT(w:World)(base:Nat)(v:Value)(Rs:List Zk9):Prop:=∃L,L.map Zgc.r=Rs/\Zbe w base v L
structure ZbM(w:World)(b:Nat)(vm vn vs:Value)(R:Zk9):Prop where
 blk:w.heap[b]? =some (.cells #[.int .i64 R.wt,vm,vn,vs] 103 (0,0))
 om:Z8 w b vm R.ms
 on:Zc w b vn R.ns
 os:ZF w b vs R.ss
theorem ZqA:(Tryz.prog.info? 103).map (fun i=>(i.zero,i.size,i.bytes))=some (some (.agg #[.int .i64 0,.slice none 0 0,.slice none 0 0,.slice none 0 0]),4,80):=by kernel_rfl
section
variable {w w4:World} {b:Nat} {vm vn vs v4:Value} {R:Zk9}
theorem ZbM.putM{x:Bool}(h:ZbM w b vm vn vs R)(g:w.grownBy w4 vm.ownBlock)(r:Z8 w4 b v4 (R.ms++[x])):ZbM (w4.setCell ⟨b,1,none⟩ v4) b v4 vn vs ⟨R.wt,R.ms++[x],R.ns,R.ss⟩/\w4.heap[b]? =some (.cells #[.int .i64 R.wt,vm,vn,vs] 103 (0,0)):=by
 have t:Za (fun q=>vm.ownBlock=some q) w w4:=(Za.refl _ w).grown g (fun k hk _=>hk)
 have nt:∀{b2 e size m:Nat} {u:Value} {xs:List Value},w.ownsRow b2 e size u m xs->e≠4->∀q,u.ownBlock=some q->¬vm.ownBlock=some q:=fun hr hne q hq e=>by obtain⟨cur,hc⟩:=Zg hr hq;exact Zp h.om e hc (Ne.symm hne) rfl
 have hb4:=t.at_ h.blk (fun e=>Zp h.om e h.blk (by decide) rfl);exact⟨⟨heap_setCell_same _ b 1 _ 103 _ hb4,Zm r hb4 (by decide),Zm (t.row h.on (nt h.on (by decide))) hb4 (by decide),Zm (t.row h.os (nt h.os (by decide))) hb4 (by decide)⟩,hb4⟩
theorem ZbM.putN{x:Int}(h:ZbM w b vm vn vs R)(g:w.grownBy w4 vn.ownBlock)(r:Zc w4 b v4 (R.ns++[x])):ZbM (w4.setCell ⟨b,2,none⟩ v4) b vm v4 vs ⟨R.wt,R.ms,R.ns++[x],R.ss⟩/\w4.heap[b]? =some (.cells #[.int .i64 R.wt,vm,vn,vs] 103 (0,0)):=by
 have t:Za (fun q=>vn.ownBlock=some q) w w4:=(Za.refl _ w).grown g (fun k hk _=>hk)
 have nt:∀{b2 e size m:Nat} {u:Value} {xs:List Value},w.ownsRow b2 e size u m xs->e≠3->∀q,u.ownBlock=some q->¬vn.ownBlock=some q:=fun hr hne q hq e=>by obtain⟨cur,hc⟩:=Zg hr hq;exact Zp h.on e hc (Ne.symm hne) rfl
 have hb4:=t.at_ h.blk (fun e=>Zp h.on e h.blk (by decide) rfl);exact⟨⟨heap_setCell_same _ b 2 _ 103 _ hb4,Zm (t.row h.om (nt h.om (by decide))) hb4 (by decide),Zm r hb4 (by decide),Zm (t.row h.os (nt h.os (by decide))) hb4 (by decide)⟩,hb4⟩
theorem ZbM.putS{x:ByteArray}(h:ZbM w b vm vn vs R)(g:w.grownBy w4 vs.ownBlock)(r:ZF w4 b v4 (R.ss++[x])):ZbM (w4.setCell ⟨b,3,none⟩ v4) b vm vn v4 ⟨R.wt,R.ms,R.ns,R.ss++[x]⟩/\w4.heap[b]? =some (.cells #[.int .i64 R.wt,vm,vn,vs] 103 (0,0)):=by
 have t:Za (fun q=>vs.ownBlock=some q) w w4:=(Za.refl _ w).grown g (fun k hk _=>hk)
 have nt:∀{b2 e size m:Nat} {u:Value} {xs:List Value},w.ownsRow b2 e size u m xs->e≠9->∀q,u.ownBlock=some q->¬vs.ownBlock=some q:=fun hr hne q hq e=>by obtain⟨cur,hc⟩:=Zg hr hq;exact Zp h.os e hc (Ne.symm hne) rfl
 have hb4:=t.at_ h.blk (fun e=>Zp h.os e h.blk (by decide) rfl);exact⟨⟨heap_setCell_same _ b 3 _ 103 _ hb4,Zm (t.row h.om (nt h.om (by decide))) hb4 (by decide),Zm (t.row h.on (nt h.on (by decide))) hb4 (by decide),Zm r hb4 (by decide)⟩,hb4⟩
theorem ZbM.below{w':World}(h:ZbM w b vm vn vs R)(hb:Below w.heap.size w w'):ZbM w' b vm vn vs R:=by have t:=Za.of_below (S:=fun _=>False) hb;exact⟨t.at_ h.blk id,t.row h.om (fun _ _=>id),t.row h.on (fun _ _=>id),t.row h.os (fun _ _=>id)⟩
end
theorem ZbP(a b:ByteArray):Zb (a++b)=Zb a++Zb b:=by unfold Zb;rw[ByteArray.data_append,Array.toList_append,List.map_append]
def Zou(wd:Bool)(u:Int):List Int->ZC->List Int->Option (ZC×List Int)
 |[],p,bs=>some (p,bs)
 | c::r,p,bs=>match ZZ wd u p bs c with
  |some (p',bs')=>Zou wd u r p' bs'
  |none=>none
def okF(wd:Bool)(u:Int)(bytes:List Int)(miss:Bool)(num:Int)(word:List Int):Bool:=
 match Zou wd u bytes part0 [] with
 |none=>false
 |some (p,bs)=>Qw p.st&&(ZZ wd u p bs 44).isNone&&(ZZ wd u p bs 10).isNone&&decide (ZcQ p=num)&&(decide (p.st=0)==miss)&&decide (bs=word)
theorem ZqR(wd:Bool){sc:Nat}(h:sc<=3):okF wd (ZL sc) [] true 0 []=true:=by rcases(show sc=0∨sc=1∨sc=2∨sc=3 by omega) with rfl|rfl|rfl|rfl<;>cases wd<;>decide
theorem ZqT{p:Nat}(h:p<6):okF true (ZL 0) (Zb (Zk0 p)) false 0 (Zb (Zp9 p))=true:=by rcases(show p=0∨p=1∨p=2∨p=3∨p=4∨p=5 by omega) with rfl|rfl|rfl|rfl|rfl|rfl<;>kernel_rfl
theorem ZqS:((List.range 4).all fun sc=>(List.range 61).all fun j=>okF false (ZL sc) (Zb (QP ((j:Int)-30))) false (((j:Int)-30)*ZL sc) [])=true:=by kernel_rfl
theorem Zob:((List.range 3).all fun sc=>(List.range 31).all fun j=>okF false (ZL (sc+1)) (Zb (QP (j:Int)++⟨#[46,53]⟩)) false ((j:Int)*ZL (sc+1)+ZL (sc+1)/2) [])=true:=by kernel_rfl
theorem ZrD{sc:Nat}{k:Int}(hs:sc<=3)(h1: -30<=k)(h2:k<=30):okF false (ZL sc) (Zb (QP k)) false (k*ZL sc) []=true:=by
 have h:=ZqS;rw[List.all_eq_true] at h;have h3:=h sc (by simp;omega);rw[List.all_eq_true] at h3;have h4:=h3 (k+30).toNat (by simp;omega)
 rwa [show(((k+30).toNat:Nat):Int)-30=k by omega] at h4
theorem ZqQ{sc:Nat}{k:Int}(hs0:0<sc)(hs:sc<=3)(h1:0<=k)(h2:k<=30):okF false (ZL sc) (Zb (QP k++⟨#[46,53]⟩)) false (k*ZL sc+ZL sc/2) []=true:=by
 have h:=Zob;rw[List.all_eq_true] at h;have h3:=h (sc-1) (by simp;omega);rw[List.all_eq_true,show sc-1+1=sc by omega] at h3;have h4:=h3 k.toNat (by simp;omega)
 rwa [show((k.toNat:Nat):Int)=k by omega] at h4
def Zl0(cs l:List Int)(at_ i:Nat):Int:=if Za2 (xR l at_ i)=true then 0 else fdV (cfW cs i) (cfC cs i) ((xR l at_ i).tdiv 3)
def ZmA(cs l:List Int)(at_ i:Nat):ByteArray:=if Za2 (xR l at_ i)=true then⟨#[]⟩ else fdS (cfW cs i) ((xR l at_ i).tdiv 3)
theorem ZbI(b:ByteArray):strOfNums (Zb b)=b:=by
 cases b with
 | mk d=>
  unfold strOfNums Zb;congr 1;apply Array.ext';simp[List.map_map,Function.comp_def]
theorem Zky(cs l:List Int)(at_ i:Nat):okF (cfW cs i) (ZL (cfC cs i).toNat) (Zb (txR cs l at_ i)) (Za2 (xR l at_ i)) (Zl0 cs l at_ i) (Zb (ZmA cs l at_ i))=true:=by
 have hp4:=Yr (Yb cs (4+i)) (show 0<4 by omega);have hC:0<=cfC cs i/\cfC cs i<=3:=(by unfold cfC;split<;>omega);unfold txR Zl0 ZmA
 cases hg:Za2 (xR l at_ i) with
 | true=>
  simp only[if_true];exact ZqR (cfW cs i) (sc:=(cfC cs i).toNat) (by omega)
 | false=>
  simp only[Bool.false_eq_true,if_false];generalize (xR l at_ i).tdiv 3=x
  cases hw:cfW cs i with
  | true=>
   have hc0:cfC cs i=0:=(by unfold cfC;rw[hw];rfl);rw[hc0];unfold fdT fdV fdS;simp only[if_true];exact ZqT (Yr x (by omega))
  | false=>
   have hk:=Zq6 x;unfold fdT fdV fdS;simp only[Bool.false_eq_true,if_false]
   cases hh:Zfp (cfC cs i) x with
   | true=>
    unfold Zfp at hh;rw[decide_eq_true_eq] at hh;simp only[if_true];have:=ZqQ (sc:=(cfC cs i).toNat) (k:=kN x) (by omega) (by omega) hh.2.2 (by omega);exact this
   | false=>
    simp only[Bool.false_eq_true,if_false];exact ZrD (sc:=(cfC cs i).toNat) (by omega) hk.1 hk.2
section
variable {n:Nat} {wd:Nat->Bool} {sc:Nat->Int}
theorem Zg4(s:RS)(hfl:s.fl=true)(hws:s.ws.length≠200):∀(l:List Int) (p:ZC) (bs:List Int) (k:Nat) {p':ZC} {bs':List Int},Zou (wd s.row.length) (ZL (sc s.row.length).toNat) l p bs=some (p',bs')->Zi n wd sc {s with p:=p,bs:=bs} l k=.ok {s with p:=p',bs:=bs'}
 |[],p,bs,k,p',bs',h=>by unfold Zou at h;injection h with h;injection h with h1 h2;subst h1 h2;rfl
 | c ::r,p,bs,k,p',bs',h=>by
  unfold Zou at h
  cases hs:ZZ (wd s.row.length) (ZL (sc s.row.length).toNat) p bs c with
  |none=>rw[hs] at h;cases h
  | some q=>
   obtain⟨p1,bs1⟩:=q;rw[hs] at h;have e:Yv n wd sc {s with p:=p,bs:=bs} c=.ok {s with p:=p1,bs:=bs1}:=(by unfold Yv;rw[if_neg hws,if_neg (by simp[hfl])];simp only[hs]);unfold Zi;rw[e];exact Zg4 s hfl hws r p1 bs1 (k+1) h
theorem ZeH{s:RS}(hfl:s.fl=true)(hws:s.ws.length≠200)(hp:s.p=part0)(hbs:s.bs=[]){bytes:List Int}{miss:Bool}{num:Int}{word:ByteArray}(hok:okF (wd s.row.length) (ZL (sc s.row.length).toNat) bytes miss num (Zb word)=true)(k:Nat):Zi n wd sc s (bytes++[Zaw s.row.length n]) k=.ok (Qx n s (s.row++[⟨miss,num,word⟩])):=by
 unfold okF at hok
 cases hr:Zou (wd s.row.length) (ZL (sc s.row.length).toNat) bytes part0 [] with
 |none=>rw[hr] at hok;cases hok
 | some q=>
  obtain⟨p,bs⟩:=q;rw[hr] at hok;simp only[Bool.and_eq_true,decide_eq_true_eq,beq_iff_eq,Option.isNone_iff_eq_none] at hok;obtain⟨⟨⟨⟨⟨h1,h2⟩,h3⟩,h4⟩,h5⟩,h6⟩:=hok;have h0:=Zg4 (n:=n) (wd:=wd) (sc:=sc) s hfl hws bytes part0 [] k hr;rw[show({s with p:=part0,bs:=[]}:RS)=s by rw[<- hp,<- hbs]] at h0;rw[Z6,h0];simp only[Zi];have hn:ZZ (wd s.row.length) (ZL (sc s.row.length).toNat) p bs (Zaw s.row.length n)=none:=by unfold Zaw;split;exact h3;exact h2
  have e:Yv n wd sc {s with p:=p,bs:=bs} (Zaw s.row.length n)=.ok (Qx n s (s.row++[⟨miss,num,word⟩])):=(by unfold Yv;rw[if_neg hws,if_neg (by simp[hfl])];simp only[hn];rw[if_pos (by first|exact⟨rfl,h1⟩|exact⟨trivial,h1⟩)];have ev:Y4 p bs=⟨miss,num,word⟩:=(by unfold Y4;rw[h4,h5,h6,ZbI]);rw[ev];rfl);rw[e]
end
def ZdB(cs l:List Int)(at_ i:Nat):VS:=⟨Za2 (xR l at_ i),Zl0 cs l at_ i,ZmA cs l at_ i⟩
def hB(cs l:List Int)(at_:Nat):Nat->List Int
 |0=>[]
 |k+1=>hB cs l at_ k++(Zb (txR cs l at_ k)++[44])
theorem ZdJ(cs l:List Int)(at_:Nat)(s:ByteArray):∀k,Zb (YZ cs l at_ s k)++[44]=Zb s++(44::hB cs l at_ k)
 |0=>by simp[YZ,hB]
 |k+1=>by have ih:=ZdJ cs l at_ s k;have e:Zb (⟨#[44]⟩:ByteArray)=[44]:=rfl;simp only[YZ,ZbP,e];rw[List.append_assoc,List.append_assoc,<- List.append_assoc (Zb (YZ cs l at_ s k)),ih];simp[hB]
theorem ZkN(cs l:List Int)(at_:Nat)(S:RS)(hfl:S.fl=true)(hws:S.ws.length≠200)(hrow:S.row=[])(hp:S.p=part0)(hbs:S.bs=[])(q:Nat):∀k,k<=YH cs->Zi (YH cs+1) (cfW cs) (cfC cs) S (hB cs l at_ k) q=.ok {S with row:=(List.range k).map (ZdB cs l at_)}
 |0,_=>by simp only[hB,Zi,List.range_zero,List.map_nil];rw[<- hrow]
 | k+1,hk=>by
  have ih:=ZkN cs l at_ S hfl hws hrow hp hbs q k (by omega);simp only[hB];rw[Z6,ih];simp only;have hl:((List.range k).map (ZdB cs l at_)).length=k:=(by simp);have hs:Zaw k (YH cs+1)=44:=(by unfold Zaw;rw[if_neg (by omega)]);have h:=ZeH (n:=YH cs+1) (wd:=cfW cs) (sc:=cfC cs) (s:={S with row:=(List.range k).map (ZdB cs l at_)}) hfl hws hp hbs (bytes:=Zb (txR cs l at_ k)) (miss:=Za2 (xR l at_ k)) (num:=Zl0 cs l at_ k) (word:=ZmA cs l at_ k) (by rw[show({S with row:=(List.range k).map (ZdB cs l at_)}:RS).row.length=k from hl];exact Zky cs l at_ k) (q+(hB cs l at_ k).length);rw[show({S with row:=(List.range k).map (ZdB cs l at_)}:RS).row.length=k from hl,hs] at h;rw[h];unfold Qx;rw[if_neg (by simp;omega)]
  have er:(List.range k).map (ZdB cs l at_)++[⟨Za2 (xR l at_ k),Zl0 cs l at_ k,ZmA cs l at_ k⟩]=(List.range (k+1)).map (ZdB cs l at_):=(by rw[List.range_succ,List.map_append];rfl);rw[er,hp,hbs]
def stR(cs l:List Int):Nat->RS
 |0=>RS.start
 |r+1=>Qx (YH cs+1) {stR cs l r with wt:=wtR l (r*(YH cs+2)),fl:=true} ((List.range (YH cs+1)).map (ZdB cs l (r*(YH cs+2))))
structure Zsx(cs l:List Int)(r:Nat)(s:RS):Prop where
 ws:s.ws=(List.range r).map fun j=>wtR l (j*(YH cs+2))
 col:∀i,i<YH cs+1->s.cols i=(List.range r).map fun j=>ZdB cs l (j*(YH cs+2)) i
 wt:s.wt=0
 fl:s.fl=false
 row:s.row=[]
 p:s.p=part0
 bs:s.bs=[]
theorem Zmm(cs l:List Int):∀r,Zsx cs l r (stR cs l r)
 |0=>⟨rfl,fun _ _=>rfl,rfl,rfl,rfl,rfl,rfl⟩
 |r+1=>by have ih:=Zmm cs l r;unfold stR Qx;rw[if_pos (by simp)];refine⟨?_,fun i hi=>?_,rfl,rfl,rfl,rfl,rfl⟩;show(stR cs l r).ws++_=_;rw[ih.ws,List.range_succ,List.map_append];rfl;show(if i<YH cs+1 then(stR cs l r).cols i++_ else(stR cs l r).cols i)=_;rw[if_pos hi,ih.col i hi,show List.range (r+1)=List.range r++[r] from List.range_succ,List.map_append];congr 1;simp[List.getD,hi]
theorem ZhS{n:Nat}{wd:Nat->Bool}{sc:Nat->Int}{s:RS}{z:Int}(h1:1<=z)(h2:z<=9)(hfl:s.fl=false)(hws:s.ws.length≠200)(hwt:s.wt=0)(k:Nat):Zi n wd sc s (Zb (QP z)++[44]) k=.ok {s with wt:=z,fl:=true}:=by
 have eb:Zb (QP z)=[48+z]:=by rcases(show z=1∨z=2∨z=3∨z=4∨z=5∨z=6∨z=7∨z=8∨z=9 by omega) with rfl|rfl|rfl|rfl|rfl|rfl|rfl|rfl|rfl<;>kernel_rfl
 have e1:Yv n wd sc s (48+z)=.ok {s with wt:=z}:=(by unfold Yv;rw[if_neg hws,if_pos hfl];have:Zx s.wt (48+z)=some (some z):=(by unfold Zx;rw[hwt,if_neg (by omega),if_pos (by omega)];congr 2;omega);rw[this]);have e2:Yv n wd sc {s with wt:=z} 44=.ok {s with wt:=z,fl:=true}:=(by unfold Yv;rw[if_neg hws,if_pos hfl];have:Zx z 44=some none:=(by unfold Zx;rw[if_pos ⟨rfl,by omega⟩]);rw[this]);rw[eb];simp only[List.singleton_append,Zi,e1,e2]
theorem Znl(cs l:List Int):∀r,r<=150->Zi (YH cs+1) (cfW cs) (cfC cs) RS.start (Zb (QC cs l r)) 0=.ok (stR cs l r)
 |0,_=>rfl
 | r+1,hr=>by
  have ih:=Znl cs l r (by omega);have hS:=Zmm cs l r;obtain⟨at_,hat⟩:∃at_,at_=r*(YH cs+2):=⟨_,rfl⟩;have hw:=ZmC l at_;have hwl:(stR cs l r).ws.length≠200:=by rw[hS.ws];simp;omega
  have eb:Zb (QC cs l (r+1))=Zb (QC cs l r)++((Zb (QP (wtR l at_))++[44])++(hB cs l at_ (YH cs)++(Zb (txR cs l at_ (YH cs))++[10]))):=by have e10:Zb (⟨#[10]⟩:ByteArray)=[10]:=rfl;have e44:Zb (⟨#[44]⟩:ByteArray)=[44]:=rfl;have hf:=ZdJ cs l at_ (QC cs l r++QP (wtR l at_)) (YH cs);simp only[QC,<- hat,YZ,ZbP,e10,e44];rw[hf,ZbP];simp
  rw[eb,Z6,ih];simp only;rw[Z6,ZhS hw.1 hw.2 hS.fl hwl hS.wt];simp only;rw[Z6,ZkN cs l at_ {stR cs l r with wt:=wtR l at_,fl:=true} rfl hwl hS.row hS.p hS.bs _ (YH cs) (Qa _)];simp only;have hl:((List.range (YH cs)).map (ZdB cs l at_)).length=YH cs:=(by simp);have hs:Zaw (YH cs) (YH cs+1)=10:=by unfold Zaw;rw[if_pos rfl]
  have h:=ZeH (n:=YH cs+1) (wd:=cfW cs) (sc:=cfC cs) (s:={stR cs l r with wt:=wtR l at_,fl:=true,row:=(List.range (YH cs)).map (ZdB cs l at_)}) rfl hwl hS.p hS.bs (bytes:=Zb (txR cs l at_ (YH cs))) (miss:=Za2 (xR l at_ (YH cs))) (num:=Zl0 cs l at_ (YH cs)) (word:=ZmA cs l at_ (YH cs)) (by rw[show({stR cs l r with wt:=wtR l at_,fl:=true,row:=(List.range (YH cs)).map (ZdB cs l at_)}:RS).row.length=YH cs from hl];exact Zky cs l at_ (YH cs)) (0+(Zb (QC cs l r)).length+(Zb (QP (wtR l at_))++[44]).length+(hB cs l at_ (YH cs)).length);rw[show({stR cs l r with wt:=wtR l at_,fl:=true,row:=(List.range (YH cs)).map (ZdB cs l at_)}:RS).row.length=YH cs from hl,hs] at h;rw[h]
  have er:(List.range (YH cs)).map (ZdB cs l at_)++[⟨Za2 (xR l at_ (YH cs)),Zl0 cs l at_ (YH cs),ZmA cs l at_ (YH cs)⟩]=(List.range (YH cs+1)).map (ZdB cs l at_):=(by rw[List.range_succ,List.map_append];rfl);simp only[er];show _=Except.ok (Qx (YH cs+1) {stR cs l r with wt:=wtR l (r*(YH cs+2)),fl:=true} ((List.range (YH cs+1)).map (ZdB cs l (r*(YH cs+2)))));rw[<- hat];unfold Qx;rw[if_pos (by simp)]
structure ZM(w:World)(sb:Nat)(l:List Int):Prop where
 ex:∃S:ByteArray,w.heap[sb]? =some (.cells #[.string S] 180 (0,0))/\Zb S=l/\S.size<=140737488355328
theorem ZM.touch{w w':World}{sb:Nat}{l:List Int}{K:Nat->Prop}(h:ZM w sb l)(t:Za K w w')(hk:¬K sb):ZM w' sb l:=by obtain⟨S,h1,h2,h3⟩:=h.ex;exact⟨S,t.at_ h1 hk,h2,h3⟩
theorem ZM.below{w w':World}{sb:Nat}{l:List Int}(h:ZM w sb l)(hb:Below w.heap.size w w'):ZM w' sb l:=h.touch (K:=fun _=>False) (.of_below hb) id
theorem ZM.lt{w:World}{sb:Nat}{l:List Int}(h:ZM w sb l):sb<w.heap.size:=by obtain⟨S,h1,_⟩:=h.ex;exact(Qb h1).1
theorem ZM.byte{w:World}{sb:Nat}{l:List Int}(h:ZM w sb l):∀x∈l,0<=x/\x<=255:=fun x hx=>by obtain⟨S,_,rfl,_⟩:=h.ex;unfold Zb at hx;obtain⟨u,_,rfl⟩:=List.mem_map.1 hx;have:=u.toNat_lt;omega
theorem ZM.len{w:World}{sb:Nat}{l:List Int}(h:ZM w sb l):l.length<=140737488355328:=by obtain⟨S,_,rfl,h3⟩:=h.ex;rw[ZY];exact h3
theorem Zls{S:ByteArray}(h:S.size=0):S=⟨#[]⟩:=by
 cases S with
 | mk d=>
  have:d.size=0:=h;rw[Array.eq_empty_of_size_eq_zero this]
theorem YF(sb:Nat)(l:List Int)(w:World)(h:ZM w sb l):Calls Tryz.prog 165 #[.pointer (some ⟨sb,0,none⟩)] w fun e w'=>e=.returned (.int .i64 (l.headD 0))/\ZM w' sb l.tail/\Za (fun k=>k=sb) w w':=by
 obtain⟨S,h1,h2,h3⟩:=h.ex;have c0:w.cell? ⟨sb,0,none⟩=some (.string S):=cell_of_row _ _ 0 _ 180 (0,0) h1;have f0:w.frozen? ⟨sb,0,none⟩=false:=frozen_of_row _ _ 0 _ 180 h1
 by_cases h0:S.size=0
 ·have hS:=Zls h0;subst hS;have hl:l=[]:=(by rw[<- h2];rfl);subst hl;go_enter Tryz.func165,Tryz.ntmps165;go_wp2;go_ret;exact⟨rfl,h,Za.refl _ _⟩
 have hp:0<S.size:=by omega
 have hne:S.toList.isEmpty=false:=by
  rw[Lib.toList_data]
  cases hS:S.data.toList with
  | nil=>
   have:S.size=S.data.toList.length:=(by rw[Array.length_toList];rfl);rw[hS] at this;exact absurd this h0
  |cons x r=>rfl
 have HL:Hid (l=((S[0]'hp).toNat:Int)::Zb (S.extract 1 S.size)):=by
  show _=_;rw[<- h2,QH,List.take_of_length_le (by rw[ZY];exact Qa _),List.drop_one];have hlen:0<(Zb S).length:=(by rw[ZY];omega);have e0:(Zb S)[0]'hlen=((S[0]'hp).toNat:Int):=List.getElem_map (fun u:UInt8=>(u.toNat:Int)) (l:=S.data.toList) (i:=0) (h:=hlen)
  cases hb:Zb S with
  |nil=>rw[hb] at hlen;simp at hlen
  | cons x r=>
   simp only[hb,List.getElem_cons_zero] at e0;rw[e0];rfl
 have hby:=(S[0]'hp).toNat_lt;have hw:wrap64 ((S[0]'hp).toNat:Int)=((S[0]'hp).toNat:Int):=(by simp[wrap64];omega);have b1:(0:Int)<(S.size:Int):=(by omega);have b2:(1:Int)<=(S.size:Int):=(by omega);clear h h2 h0;go_enter Tryz.func165,Tryz.ntmps165;go_wp2;go_ret;rw[HL.out];refine⟨?_,⟨S.extract 1 S.size,heap_setCell_same _ sb 0 _ 180 _ h1,rfl,?_⟩,(Za.refl (fun k=>k=sb) _).setCell (p:=⟨sb,0,none⟩) (fun _=>rfl) _⟩;rfl;rw[ByteArray.size_extract];omega
def ZaW(l:List Int):Nat->Nat
 |0=>0
 |k+1=>ZaW l k+(l.getD k 0).toNat*2^(8*k)
theorem Qu{l:List Int}(h:∀x∈l,0<=x/\x<=255)(k:Nat):0<=l.getD k 0/\l.getD k 0<=255:=by
 by_cases hk:k<l.length
 rw[Qc,Qd hk];exact h _ (Qf _);rw[Qc,List.getElem?_eq_none (by omega)];simp
theorem Zjg{l:List Int}(h:∀x∈l,0<=x/\x<=255):∀k,ZaW l k<2^(8*k)
 |0=>by simp[ZaW]
 |k+1=>by have ih:=Zjg h k;have hb:=Qu h k;have h1:(l.getD k 0).toNat*2^(8*k)<=255*2^(8*k):=Nat.mul_le_mul_right _ (by omega);have h2:2^(8*(k+1))=256*2^(8*k):=(by rw[show 8*(k+1)=8+8*k by omega,Nat.pow_add]);simp only[ZaW];omega
theorem Zmz(n:Int)(h₀:0<=n)(h₁:n<2^40):IntKind.i64.wrap n=n:=ZA (by omega) (by omega)
theorem Zo2(a b:Nat)(ha:a<2^40)(hb:b<2^40):bits .or .i64 a b=((a|||b:Nat):Int):=(bits_nat .i64 40 (by decide) Zmz a b ha hb).2
theorem ZS(l:List Int)(i:Nat):(l.drop i).headD 0=l.getD i 0:=by rw[List.headD_eq_head?_getD,List.head?_drop,Qc]
theorem Zag(l:List Int)(i:Nat):(l.drop i).tail=l.drop (i+1):=by rw[List.tail_drop]
theorem Zg8(sb n:Nat)(l:List Int)(w:World)(h:ZM w sb l)(hn:n<=4):Calls Tryz.prog 233 #[.pointer (some ⟨sb,0,none⟩),.int .i64 (n:Nat)] w fun e w'=>e=.returned (.int .i64 (ZaW l n:Nat))/\ZM w' sb (l.drop n)/\Za (fun k=>k=sb) w w':=by
 have HBY:Hid (∀x∈l,0<=x/\x<=255):=h.byte;have HX:Hid (ZM w sb l):=h;clear h;go_enter Tryz.func233,Tryz.ntmps233;go_wp2_with fail
 go_loopw [5,8] (fun tn ti wr=>∃i:Nat,i<=n/\ti=.int .i64 i/\tn=.int .i64 (ZaW l i:Nat)/\Hid (ZM wr sb (l.drop i)/\Za (fun k=>k=sb) w wr)) (fun _ ti _=>n-(intOf ti).toNat)
 case atStart=>exact⟨0,Qg _,rfl,rfl,HX.out,Za.refl _ _⟩
 case round=>
  obtain⟨i,hi,rfl,rfl,HS⟩:=hrel
  by_cases hin:i<n
  ·have hlt:=Zjg HBY.out i;have hby:=Qu HBY.out i;have HNX:Hid (ZaW l (i+1)=ZaW l i+(l.getD i 0).toNat*2^(8*i)):=rfl;have h165:=YF sb (l.drop i) wr HS.out.1;rw[ZS,Zag] at h165;obtain⟨b,hb⟩:∃b:Nat,l.getD i 0=(b:Int):=⟨(l.getD i 0).toNat,by omega⟩
   rw[hb] at h165 hby
   have hb2:(l.getD i 0).toNat=b:=(by omega);rw[hb2] at HNX;clear hb hb2;generalize ZaW l i=m at *;obtain⟨J,hJ⟩:∃J,J=8*i:=⟨_,rfl⟩;have hJ24:J<=24:=(by omega);rw[<- hJ] at hlt HNX;have hp:(2:Nat)^J<=2^24:=Nat.pow_le_pow_right (by decide) hJ24;obtain⟨z,hz⟩:∃z,z=b*2^J:=⟨_,rfl⟩;have hz1:b*2^J<=255*2^24:=Nat.mul_le_mul (by omega) hp;have q1:(8:Int)*(i:Int)=(J:Int):=(by omega);have q2:IntKind.i64.wrap (J:Int)=(J:Int):=ZA (by omega) (by omega);have q3:IntKind.i64.wrap ((b:Int)*2^J)=(z:Int):=(by have e:((b:Int)*2^J)=(z:Int):=(by rw[hz];simp);rw[e];exact ZA (by omega) (by omega));have q4:bits BinOp.or IntKind.i64 (m:Int) (z:Int)=((m+z:Nat):Int):=by rw[Zo2 m z (by omega) (by omega),hz,Zl3 hlt]
   obtain⟨u,hu⟩:∃u,u=m+z:=⟨_,rfl⟩;rw[<- hz,<- hu] at HNX;rw[<- hu] at q4;have bj1:(0:Int)<=(J:Int):=(by omega);have bj2:(J:Int)<=64:=(by omega);have bi2:(i:Int)<(n:Int):=(by omega);clear hz1 hlt hp hz hu hJ;go_wp2_with fail
   refine h165.mono ?_;rintro e w2 ⟨rfl,hs2,ht2⟩;have HS2:Hid (ZM w2 sb (l.drop (i+1))/\Za (fun k=>k=sb) w w2):=⟨hs2,HS.out.2.trans ht2⟩;clear hs2 ht2 h165;go_wp2;go_roundw;case rel=>exact⟨i+1,by omega,by go_num,by rw[HNX.out],HS2.out⟩
   case measure=>simp[intOf];omega
  have hni:¬(i:Int)<(n:Int):=(by omega);have hii:i=n:=(by omega);subst hii;go_wp2;go_ret;exact⟨rfl,HS.out⟩
def ZcW(l:List Int):Int:=IntKind.i32.wrap (ZaW l 4:Nat)
theorem Znh(l:List Int): -2147483648<=ZcW l/\ZcW l<=2147483647:=by unfold ZcW;simp[IntKind.wrap,IntKind.bits,IntKind.signed];omega
theorem ZhU(sb:Nat)(l:List Int)(w:World)(h:ZM w sb l):Calls Tryz.prog 277 #[.pointer (some ⟨sb,0,none⟩)] w fun e w'=>e=.returned (.int .i64 (ZcW l))/\ZM w' sb (l.drop 4)/\Za (fun k=>k=sb) w w':=by
 have h233:=Zg8 sb 4 l w h (Qa _);have hin:=Znh l;have q1:IntKind.i32.wrap (ZaW l 4:Nat)=ZcW l:=rfl;have q2:IntKind.i64.wrap (ZcW l)=ZcW l:=ZA (by omega) (by omega);generalize ZcW l=z at *;generalize ZaW l 4=m at *;clear h;go_enter Tryz.func277,Tryz.ntmps277;go_wp2_with fail
 refine h233.mono ?_;rintro e w2 ⟨rfl,hs2⟩;clear h233;go_wp2;go_ret;exact⟨rfl,hs2⟩
theorem ZnB(s:ByteArray)(w:World)(hs:s.size<=281474976710656):Calls Tryz.prog 223 #[.string s] w fun e w'=>e=.returned (.string s)/\Below w.heap.size w w':=by
 have h:=Tryz.stringslite_Clone s w hs;go_enter Tryz.func223,Tryz.ntmps223;go_wp2_with fail
 refine h.mono ?_;rintro e w2 ⟨rfl,hb⟩;clear h;go_wp2;go_ret;exact⟨rfl,hb⟩
theorem Zfz(sb n:Nat)(l:List Int)(w:World)(h:ZM w sb l):Calls Tryz.prog 164 #[.pointer (some ⟨sb,0,none⟩),.int .i64 (n:Nat)] w fun e w'=>(∃T,e=.returned (.string T)/\Zb T=l.take n)/\ZM w' sb (l.drop n)/\Za (fun k=>k=sb) w w':=by
 obtain⟨S,h1,h2,h3⟩:=h.ex;have hsl:=h.lt;clear h;have c0:w.cell? ⟨sb,0,none⟩=some (.string S):=cell_of_row _ _ 0 _ 180 (0,0) h1;obtain⟨k,hk⟩:∃k,k=min n S.size:=⟨_,rfl⟩;have q1:min (n:Int) (S.size:Int)=(k:Int):=(by omega);have HCL:=fun W=>ZnB (S.extract 0 k) W (by rw[ByteArray.size_extract];omega);have b1:(0:Int)<=(k:Int):=(by omega);have b2:(k:Int)<=(S.size:Int):=(by omega);have hlen:l.length=S.size:=by rw[<- h2];exact ZY S
 have HT:Hid (Zb (S.extract 0 k)=l.take n/\Zb (S.extract k S.size)=l.drop n):=by
  constructor;rw[QH,List.drop_zero,h2,hk,<- hlen];exact(List.take_eq_take_min).symm;rw[QH,List.take_of_length_le (by rw[ZY];exact Qa _),h2]
  by_cases hc:n<=S.size
  rw[show k=n by omega];rw[List.drop_eq_nil_of_le (by omega),List.drop_eq_nil_of_le (by omega)]
 have HK:Hid (k=min n S.size):=hk;clear hk h2;go_enter Tryz.func164,Tryz.ntmps164;go_wp2_with fail
 refine(HCL _).mono ?_;clear HCL;rintro e w2 ⟨rfl,hb2⟩;have h12:w2.heap[sb]? =some (.cells #[.string S] 180 (0,0)):=(hb2.block sb hsl).trans h1;have c2:w2.cell? ⟨sb,0,none⟩=some (.string S):=cell_of_row _ _ 0 _ 180 (0,0) h12;have f2:w2.frozen? ⟨sb,0,none⟩=false:=frozen_of_row _ _ 0 _ 180 h12;have HT2:Hid (Za (fun k=>k=sb) w w2):=Za.of_below hb2;clear hb2 c0;go_wp2;go_ret;refine⟨⟨S.extract 0 k,rfl,HT.out.1⟩,⟨S.extract k S.size,heap_setCell_same _ sb 0 _ 180 _ h12,HT.out.2,?_⟩,HT2.out.setCell (p:=⟨sb,0,none⟩) (fun _=>rfl) _⟩;rw[ByteArray.size_extract];omega
def Zb6(zs:List Int)(k:Nat):Bool:=(List.range k).all fun j=>decide (zs.getD j 0<zs.getD (j+1) 0)
def ZcU(zs:List Int):Bool:=Zb6 zs (zs.length-1)
theorem Zmd(zs:List Int)(k:Nat):Zb6 zs (k+1)=(Zb6 zs k&&decide (zs.getD k 0<zs.getD (k+1) 0)):=by unfold Zb6;rw[List.range_succ,List.all_append];simp
theorem ZkK{zs:List Int}{k n:Nat}(h:Zb6 zs k=false)(hk:k<=n):Zb6 zs n=false:=by unfold Zb6 at h ⊢;rw[List.all_eq_false] at h ⊢;obtain⟨x,hx,h1⟩:=h;exact⟨x,List.mem_range.2 (Qh (List.mem_range.1 hx) hk),h1⟩
theorem ZpT(a:Option Addr)(n c base:Nat)(zs:List Int)(w:World)(h:Zc w base (.slice a n c) zs)(hn:zs.length=n)(hn2:n<=1000000):Calls Tryz.prog 278 #[.slice a n c] w fun e w'=>e=.returned (.bool (ZcU zs))/\Below w.heap.size w w':=by
 have HO:Hid (∀W,Below w.heap.size w W->Zc W base (.slice a n c) zs):=fun W hW=>h.below hW;have HN:Hid (zs.length=n):=hn;clear h hn;go_enter Tryz.func278,Tryz.ntmps278;go_wp2_with fail
 go_loopw [3] (fun ti wr=>∃i:Nat,ti=.int .i64 ((i:Int)+1)/\(i=0∨i+1<=n)/\Hid (Zb6 zs i=true)/\Hid (Below w.heap.size w wr)) (fun ti _=>n+1-(intOf ti).toNat)
 case atStart=>exact⟨0,rfl,.inl rfl,rfl,Below.refl _ _⟩
 case round=>
  obtain⟨i,rfl,hi,HU,HB⟩:=hrel
  by_cases hin:i+1<n
  ·obtain⟨q,rfl,_,_,y0,_⟩:=(HO.out wr HB.out).atK HN.out (show i<n by omega);obtain⟨q2,e2,_,_,y1,_⟩:=(HO.out wr HB.out).atK HN.out hin;injection e2 with e2;injection e2 with e2;subst e2;have HS:Hid (Zb6 zs (i+1)=(Zb6 zs i&&decide (zs.getD i 0<zs.getD (i+1) 0))):=Zmd zs i;have HF:Hid (Zb6 zs (i+1)=false->ZcU zs=false):=fun hf=>ZkK hf (by rw[HN.out];omega);generalize zs.getD i 0=x at *;generalize zs.getD (i+1) 0=y at *;have b1:(0:Int)<=(i:Int)+1-1:=(by omega);have b2:(i:Int)+1-1<(n:Int):=(by omega);have b3:(0:Int)<=(i:Int)+1:=(by omega);have b4:(i:Int)+1<(n:Int):=by omega
   by_cases hxy:y<=x
   ·have HR:Hid (ZcU zs=false):=HF.out (by rw[HS.out,decide_eq_false (by omega)];simp);have d1:decide (y<=x)=true:=(by simp[hxy]);clear HS HF HU;go_upto_region 4 with fail;go_big_quiet (fail);go_wp2;go_ret;exact⟨by rw[HR.out];rfl,below_drewN HB.out _⟩
   have HR:Hid (Zb6 zs (i+1)=true):=(by show _=_;rw[HS.out,HU.out,decide_eq_true (by omega)];rfl);have d1:decide (y<=x)=false:=(by simp;omega);clear HS HF HU;go_upto_region 4 with fail;go_big_quiet (fail);go_wp2;go_roundw;case rel=>exact⟨i+1,by go_num,.inr (by omega),HR,below_drewN HB.out _⟩
   case measure=>simp[intOf];omega
  have hni:¬(i:Int)+1<(n:Int):=(by omega);have HR:Hid (ZcU zs=true):=(by show _=_;unfold ZcU;rw[HN.out,show n-1=i by omega];exact HU.out);go_wp2;go_ret;exact⟨by rw[HR.out];rfl,HB.out⟩
def Q9(s:ByteArray):Bool:=(Zb s).all QY&&decide (s.size<=8)
theorem ZlN(s:ByteArray)(w:World)(hs:s.size<=200000000000000):Calls Tryz.prog 321 #[.string s] w fun e w'=>e=.returned (.bool (Q9 s))/\w'=w:=by
 have HSG:Hid (∀c W,Calls Tryz.prog 312 #[.int .u8 c] W fun e w'=>e=.returned (.bool (QY c))/\w'=W):=fun c W=>ZgF c W;go_enter Tryz.func321,Tryz.ntmps321;go_wp2_with fail
 go_loopw [6] (fun ti wr=>∃i:Nat,ti=.int .i64 i/\i<=s.size/\Hid (((Zb s).take i).all QY=true)/\wr=w) (fun ti _=>s.size-(intOf ti).toNat)
 case atStart=>exact⟨0,rfl,Qg _,rfl,rfl⟩
 case round=>
  obtain⟨i,rfl,hi,HU,hwr⟩:=hrel;subst hwr
  by_cases hin:i<s.size
  ·have b1:(0:Int)<=(i:Int):=(by omega);have b2:(i:Int)<(s.size:Int):=by omega
   have hT:(Zb s).take (i+1)=(Zb s).take i++[((s[i]'hin).toNat:Int)]:=by rw[Qi (by rw[ZY];exact hin)];congr 2;simp only[Zb,List.getElem_map];rfl
   cases hsg:QY ((s[i]'hin).toNat:Int) with
   | true=>
    have HR:Hid (((Zb s).take (i+1)).all QY=true):=(by show _=_;rw[hT,List.all_append,HU.out];simp[hsg]);clear hT HU;go_wp2_with fail
    refine(HSG.out _ _).mono ?_;rintro e w2 ⟨rfl,hw2⟩;obtain rfl:=hw2.symm;rw[hsg];clear hsg;go_wp2;go_roundw;case rel=>exact⟨i+1,by go_num,by omega,HR,trivial⟩
    case measure=>simp[intOf];omega
   | false=>
    have HR:Hid (Q9 s=false):=(by show _=_;unfold Q9;have:(Zb s).all QY=false:=(by rw[List.all_eq_false];refine⟨((s[i]'hin).toNat:Int),?_,by simp[hsg]⟩;have:((s[i]'hin).toNat:Int)∈(Zb s).take (i+1):=(by rw[hT];simp);exact List.mem_of_mem_take this);rw[this];rfl);clear hT HU;go_wp2_with fail
    refine(HSG.out _ _).mono ?_;rintro e w2 ⟨rfl,hw2⟩;obtain rfl:=hw2.symm;rw[hsg];clear hsg;go_wp2;go_ret;exact⟨by rw[HR.out];rfl,rfl⟩
  have hni:¬(i:Int)<(s.size:Int):=(by omega);have hii:i=s.size:=by omega
  have HR:Hid (Q9 s=decide ((s.size:Int)<=8)):=by
   show _=_;have h1:=HU.out;rw[List.take_of_length_le (by rw[ZY];omega)] at h1;unfold Q9;rw[h1,Bool.true_and]
   by_cases h8:s.size<=8
   rw[decide_eq_true h8,decide_eq_true (by omega)];rw[decide_eq_false h8,decide_eq_false (by omega)]
  clear HU;go_wp2;go_ret;exact⟨by rw[HR.out];rfl,rfl⟩
def Zax(ws:List ByteArray)(k:Nat):Bool:=(List.range k).all fun j=>Q9 (ws.getD j ⟨#[]⟩)&&!Lib.containsS (ws.take j) (ws.getD j ⟨#[]⟩)
def Ye(ws:List ByteArray):Bool:=Zax ws ws.length
theorem Zk1(ws:List ByteArray)(k:Nat):Zax ws (k+1)=(Zax ws k&&(Q9 (ws.getD k ⟨#[]⟩)&&!Lib.containsS (ws.take k) (ws.getD k ⟨#[]⟩))):=by unfold Zax;rw[List.range_succ,List.all_append];simp
theorem Zjv{ws:List ByteArray}{k n:Nat}(h:Zax ws k=false)(hk:k<=n):Zax ws n=false:=by unfold Zax at h ⊢;rw[List.all_eq_false] at h ⊢;obtain⟨x,hx,h1⟩:=h;exact⟨x,List.mem_range.2 (Qh (List.mem_range.1 hx) hk),h1⟩
theorem ZF.capW{w:World}{base:Nat}{a:Option Addr}{n c:Nat}{L:List ByteArray}(h:ZF w base (.slice a n c) L)(hn:L.length=n):n<=c:=by
 rcases h.2 with⟨e,h0⟩|⟨g,cap,cur,e,_,_,hnc,_⟩
 injection e with _ _ e;omega;injection e with _ e2 e3;omega
theorem ZiO(a:Option Addr)(n c base:Nat)(ws:List ByteArray)(w:World)(h:ZF w base (.slice a n c) ws)(hn:ws.length=n)(hn2:n<=1000000)(hw:∀s∈ws,s.size<=200000000000000):Calls Tryz.prog 279 #[.slice a n c] w fun e w'=>e=.returned (.bool (Ye ws))/\w'=w:=by
 have HO:Hid (ZF w base (.slice a n c) ws):=h;have HN:Hid (ws.length=n):=hn;have hnc:=h.capW hn;have HIW:Hid (∀j,j<n->∀W,Calls Tryz.prog 321 #[.string (ws.getD j ⟨#[]⟩)] W fun e w'=>e=.returned (.bool (Q9 (ws.getD j ⟨#[]⟩)))/\w'=W):=fun j hj W=>ZlN _ W (hw _ (by rw[Qc,Qd (by omega)];exact Qf _));clear h hn hw;go_enter Tryz.func279,Tryz.ntmps279;go_wp2_with fail
 go_loopw [7] (fun ti wr=>∃i:Nat,ti=.int .i64 i/\i<=n/\Hid (Zax ws i=true)/\wr=w) (fun ti _=>n-(intOf ti).toNat)
 case atStart=>exact⟨0,rfl,Qg _,rfl,rfl⟩
 case round=>
  obtain⟨i,rfl,hi,HU,hwr⟩:=hrel;subst hwr
  by_cases hin:i<n
  ·obtain⟨q,rfl,_,y0⟩:=HO.out.atW HN.out hin ⟨#[]⟩
   have HCN:Hid (Calls Tryz.prog 322 #[.slice (some ⟨q,0,none⟩) i c,.string (ws.getD i ⟨#[]⟩)] wr fun e w'=>e=.returned (.bool (Lib.containsS (ws.take i) (ws.getD i ⟨#[]⟩)))/\w'=wr):=Tryz.slices_Contains_string q 0 i c ws (ws.getD i ⟨#[]⟩) wr (by have:=HN.out;omega) (by omega) (fun j hj=>by
    obtain⟨q2,e2,_,y2⟩:=HO.out.atW HN.out (show j<n by have:=HN.out;omega) ByteArray.empty;injection e2 with e2;injection e2 with e2
    rw[Nat.zero_add,e2];exact y2)
   have hiw:=HIW.out i hin wr;have HS:Hid (Zax ws (i+1)=(Zax ws i&&(Q9 (ws.getD i ⟨#[]⟩)&&!Lib.containsS (ws.take i) (ws.getD i ⟨#[]⟩)))):=Zk1 ws i;have HF:Hid (Zax ws (i+1)=false->Ye ws=false):=fun hf=>Zjv hf (by rw[HN.out];omega);generalize Lib.containsS (ws.take i) (ws.getD i ⟨#[]⟩)=ct at *;generalize Q9 (ws.getD i ⟨#[]⟩)=iw at *;generalize ws.getD i ⟨#[]⟩=x at *;have b1:(0:Int)<=(i:Int):=(by omega);have b2:(i:Int)<(n:Int):=(by omega);have b3:(i:Int)<=(c:Int):=by omega
   cases iw with
   | false=>
    have HR:Hid (Ye ws=false):=HF.out (by rw[HS.out];simp);clear HS HF HU;go_wp2_with fail
    refine hiw.mono ?_;rintro e w2 ⟨rfl,hw2⟩;obtain rfl:=hw2.symm;clear hiw;go_wp2;go_ret;exact⟨by rw[HR.out];rfl,rfl⟩
   | true=>
    cases ct with
    | true=>
     have HR:Hid (Ye ws=false):=HF.out (by rw[HS.out];simp);clear HS HF HU;go_wp2_with fail
     refine hiw.mono ?_;rintro e w2 ⟨rfl,hw2⟩;obtain rfl:=hw2.symm;clear hiw;go_wp2_with fail
     refine HCN.out.mono ?_;rintro e w2 ⟨rfl,hw2⟩;obtain rfl:=hw2.symm;go_wp2;go_ret;exact⟨by rw[HR.out];rfl,rfl⟩
    | false=>
     have HR:Hid (Zax ws (i+1)=true):=(by show _=_;rw[HS.out,HU.out];rfl);clear HS HF HU;go_wp2_with fail
     refine hiw.mono ?_;rintro e w2 ⟨rfl,hw2⟩;obtain rfl:=hw2.symm;clear hiw;go_wp2_with fail
     refine HCN.out.mono ?_;rintro e w2 ⟨rfl,hw2⟩;obtain rfl:=hw2.symm;go_wp2;go_roundw;case rel=>exact⟨i+1,by go_num,by omega,HR,trivial⟩
     case measure=>simp[intOf];omega
  have hni:¬(i:Int)<(n:Int):=(by omega);have HR:Hid (Ye ws=true):=(by show _=_;unfold Ye;rw[HN.out,show n=i by omega];exact HU.out);go_wp2;go_ret;exact⟨by rw[HR.out];rfl,rfl⟩
def Zd7(e:ES):Bool:=decide (e.cnt<=16)&&ZcU e.bs&&Ye e.ww
theorem Zn5(e:ES)(ab aw:Option Addr)(nb cb nw cw base:Nat)(w:World)(hb:Zc w base (.slice ab nb cb) e.bs)(hs:ZF w base (.slice aw nw cw) e.ww)(hnb:e.bs.length=nb)(hnw:e.ww.length=nw)(hb2:nb<=1000000)(hw2:nw<=1000000)(hz:∀s∈e.ww,s.size<=200000000000000):Calls Tryz.prog 225 #[.agg #[.bool e.wd,.slice ab nb cb,.slice aw nw cw]] w fun x w'=>x=.returned (.bool (Zd7 e))/\Below w.heap.size w w':=by
 obtain⟨w0,hw0⟩:∃w0,w0=w.alloc (.cells #[.bool e.wd,.slice ab nb cb,.slice aw nw cw] 170):=⟨_,rfl⟩;have hX0:w0.heap[w.heap.size]? =some (.cells #[.bool e.wd,.slice ab nb cb,.slice aw nw cw] 170 (0,0)):=(by rw[hw0];exact heap_alloc_new w _);have hB0:Below w.heap.size w w0:=(by rw[hw0];exact(Below.refl _ _).alloc (Qa _) _);have hkl:w.heap.size<w0.heap.size:=(Qb hX0).1
 have HW:Hid (∀W,Below w0.heap.size w0 W->Below w.heap.size w W/\W.cell? ⟨w.heap.size,0,none⟩=some (.bool e.wd)/\W.cell? ⟨w.heap.size,1,none⟩=some (.slice ab nb cb)/\W.cell? ⟨w.heap.size,2,none⟩=some (.slice aw nw cw)):=fun W hW=>by have hX:=(hW.block _ hkl).trans hX0;exact⟨hB0.trans (hW.mono hB0.size),cell_of_row _ _ 0 _ 170 (0,0) hX,cell_of_row _ _ 1 _ 170 (0,0) hX,cell_of_row _ _ 2 _ 170 (0,0) hX⟩
 have HRI:Hid (∀W,Below w0.heap.size w0 W->Calls Tryz.prog 278 #[.slice ab nb cb] W fun x w'=>x=.returned (.bool (ZcU e.bs))/\Below W.heap.size W w'):=fun W hW=>ZpT ab nb cb base e.bs W (hb.below (HW.out W hW).1) hnb hb2;have HAW:Hid (∀W,Below w0.heap.size w0 W->Calls Tryz.prog 279 #[.slice aw nw cw] W fun x w'=>x=.returned (.bool (Ye e.ww))/\w'=W):=fun W hW=>ZiO aw nw cw base e.ww W (hs.below (HW.out W hW).1) hnw hw2 hz
 have HCT:Hid (∀W,Calls Tryz.prog 169 #[.agg #[.bool e.wd,.slice ab nb cb,.slice aw nw cw]] W fun x w'=>x=.returned (.int .i64 (e.cnt:Nat))/\Below W.heap.size W w'):=fun W=>by have:=Zc4 e.wd ab aw nb cb nw cw W;unfold ES.cnt;rw[hnb,hnw];exact this
 have HM:Hid (Zd7 e=(decide (e.cnt<=16)&&ZcU e.bs&&Ye e.ww)):=rfl;generalize Zd7 e=R at *;generalize ZcU e.bs=rb at *;generalize Ye e.ww=rw_ at *;generalize e.cnt=cn at *;generalize e.wd=wd at *;clear hb hs hX0 hB0 hnb hnw hz;obtain⟨_,e0,e1,e2⟩:=HW.out w0 (Below.refl _ _)
 by_cases hc:cn<=16
 ·have d1:decide ((cn:Int)<=16)=true:=by simp;omega
  cases rb with
  | false=>
   have HQ:Hid (R=false):=(by show _=_;rw[HM.out];simp);clear HM;go_enter Tryz.func225,Tryz.ntmps225;go_wp2_with fail
   rw[<- hw0];refine(HCT.out _).mono ?_;rintro x w2 ⟨rfl,hb2⟩;have HB2:Hid (Below w0.heap.size w0 w2):=hb2;clear hb2 e0 e1 e2;obtain⟨_,e0,e1,e2⟩:=HW.out w2 HB2.out;go_wp2_with fail
   refine(HRI.out _ HB2.out).mono ?_;rintro x w3 ⟨rfl,hb3⟩;have HB3:Hid (Below w0.heap.size w0 w3):=HB2.out.trans (hb3.mono HB2.out.size);clear hb3 e0 e1 e2;go_wp2;go_ret;exact⟨by rw[HQ.out];rfl,(HW.out _ HB3.out).1⟩
  | true=>
   have HQ:Hid (R=rw_):=(by show _=_;rw[HM.out,decide_eq_true hc];simp);clear HM;go_enter Tryz.func225,Tryz.ntmps225;go_wp2_with fail
   rw[<- hw0];refine(HCT.out _).mono ?_;rintro x w2 ⟨rfl,hb2⟩;have HB2:Hid (Below w0.heap.size w0 w2):=hb2;clear hb2 e0 e1 e2;obtain⟨_,e0,e1,e2⟩:=HW.out w2 HB2.out;go_wp2_with fail
   refine(HRI.out _ HB2.out).mono ?_;rintro x w3 ⟨rfl,hb3⟩;have HB3:Hid (Below w0.heap.size w0 w3):=HB2.out.trans (hb3.mono HB2.out.size);clear hb3 e0 e1 e2;obtain⟨_,e0,e1,e2⟩:=HW.out w3 HB3.out;go_wp2_with fail
   refine(HAW.out _ HB3.out).mono ?_;rintro x w4 ⟨rfl,hw4⟩;obtain rfl:=hw4.symm;go_wp2;go_ret;exact⟨by rw[HQ.out];rfl,(HW.out _ HB3.out).1⟩
 have d1:decide ((cn:Int)<=16)=false:=(by simp;omega);have HQ:Hid (R=false):=(by show _=_;rw[HM.out,decide_eq_false hc];simp);clear HM;go_enter Tryz.func225,Tryz.ntmps225;go_wp2_with fail
 rw[<- hw0];refine(HCT.out _).mono ?_;rintro x w2 ⟨rfl,hb2⟩;have HB2:Hid (Below w0.heap.size w0 w2):=hb2;clear hb2 e0 e1 e2;go_wp2;go_ret;exact⟨by rw[HQ.out];rfl,(HW.out _ HB2.out).1⟩
def ZaV(e:ES)(b:Int):Bool:=decide (b<(e.cnt:Int)+2)
theorem Zd5(e:ES)(ab aw:Option Addr)(nb cb nw cw:Nat)(d b:Int)(w:World)(hnb:e.bs.length=nb)(hnw:e.ww.length=nw)(hc:e.cnt<=1000000):Calls Tryz.prog 226 #[.agg #[.bool e.wd,.slice ab nb cb,.slice aw nw cw,.int .i64 d],.int .i64 b] w fun x w'=>x=.returned (.bool (ZaV e b))/\Below w.heap.size w w':=by
 have hce:Za6 e.wd nb nw=e.cnt:=by unfold ES.cnt;rw[hnb,hnw]
 have HHM:Hid (∀W,Calls Tryz.prog 146 #[.agg #[.bool e.wd,.slice ab nb cb,.slice aw nw cw]] W fun x w'=>x=.returned (.int .i64 ((e.cnt:Nat)+2))/\Below W.heap.size W w'):=fun W=>by have:=YE e.wd ab aw nb cb nw cw W (by omega);rw[hce] at this;exact this
 unfold ZaV;generalize e.cnt=cn at *;generalize e.wd=wd at *;go_enter Tryz.func226,Tryz.ntmps226;go_wp2_with fail
 refine(HHM.out _).mono ?_;rintro x w1 ⟨rfl,hb⟩;have hb2:Below w.heap.size w w1:=((Below.refl _ _).alloc (Qa _) _).trans (hb.mono (by simp));clear hb;go_wp2;go_ret;exact⟨rfl,hb2⟩
def ZaB(l:List Int)(k:Nat):List Int:=(List.range k).map fun j=>ZcW (l.drop (4*j))
theorem Zl2(l:List Int)(k:Nat):ZaB l (k+1)=ZaB l k++[ZcW (l.drop (4*k))]:=by simp[ZaB,List.range_succ]
theorem Zdh(l:List Int)(k:Nat):(ZaB l k).length=k:=by simp[ZaB]
structure RdS(w wr:World)(sb:Nat)(l:List Int)(wd:Bool)(vb vw:Value)(d:Int):Prop where
 kn:wr.heap[w.heap.size+1]? =some (.cells #[.bool wd,vb,vw,.int .i64 d] 172 (0,0))
 rs:wr.heap[w.heap.size]? =some (.cells #[.bool false,.slice none 0 0,.slice none 0 0,.int .i64 0] 172 (0,0))
 src:ZM wr sb l
 lt:sb<w.heap.size
 t:Za (fun k=>k=sb) w wr
section
variable {w wr w2:World} {sb:Nat} {l l2:List Int} {wd:Bool} {vb vw:Value} {d:Int}
theorem RdS.step(h:RdS w wr sb l wd vb vw d)(hs:ZM w2 sb l2)(t:Za (fun k=>k=sb) wr w2):RdS w w2 sb l2 wd vb vw d:=
 ⟨t.at_ h.kn (fun e=>by have:=h.lt;omega),t.at_ h.rs (fun e=>by have:=h.lt;omega),hs,h.lt,h.t.trans t⟩
theorem RdS.below(h:RdS w wr sb l wd vb vw d)(hb:Below wr.heap.size wr w2):RdS w w2 sb l wd vb vw d:=
 h.step (h.src.below hb) (.of_below hb)
theorem RdS.put(h:RdS w wr sb l wd vb vw d)(o:Nat)(v:Value){wd':Bool}{vb' vw':Value}{d':Int}(e:(#[.bool wd,vb,vw,.int .i64 d]:Array Value).setIfInBounds o v=#[.bool wd',vb',vw',.int .i64 d']):RdS w (wr.setCell ⟨w.heap.size+1,o,none⟩ v) sb l wd' vb' vw' d':=by have t2:Za (fun k=>k=w.heap.size+1) wr (wr.setCell ⟨w.heap.size+1,o,none⟩ v):=(Za.refl (fun k=>k=w.heap.size+1) wr).setCell (p:=⟨w.heap.size+1,o,none⟩) (fun _=>rfl) v;refine⟨?_,t2.at_ h.rs (by omega),h.src.touch t2 (by have:=h.lt;omega),h.lt,h.t.setCell (p:=⟨w.heap.size+1,o,none⟩) (fun hk=>by simp at hk;omega) v⟩;rw[heap_setCell_same _ _ o _ 172 _ h.kn,e]
theorem RdS.grown(h:RdS w wr sb l wd vb vw d){e size n:Nat}{v:Value}{xs:List Value}(ho:wr.ownsRow w.heap.size e size v n xs)(h1:e≠172)(h2:e≠180)(g:wr.grownBy w2 v.ownBlock):RdS w w2 sb l wd vb vw d:=by have t2:Za (fun k=>v.ownBlock=some k) wr w2:=(Za.refl _ wr).grown g (fun k hk _=>hk);obtain⟨S,s1,s2,s3⟩:=h.src.ex;exact⟨t2.at_ h.kn (fun e1=>Zp ho e1 h.kn h1 rfl),t2.at_ h.rs (fun e1=>Zp ho e1 h.rs h1 rfl),⟨S,t2.at_ s1 (fun e1=>Zp ho e1 s1 h2 rfl),s2,s3⟩,h.lt,h.t.grown g (fun k hk hkl=>absurd (World.ownsRow.lt ho k hk).1 (by omega))⟩
theorem RdS.cell(h:RdS w wr sb l wd vb vw d):wr.cell? ⟨w.heap.size+1,0,none⟩=some (.bool wd)/\wr.cell? ⟨w.heap.size+1,1,none⟩=some vb/\wr.cell? ⟨w.heap.size+1,2,none⟩=some vw/\wr.cell? ⟨w.heap.size+1,3,none⟩=some (.int .i64 d)/\∀o,wr.frozen? ⟨w.heap.size+1,o,none⟩=false:=
 ⟨cell_of_row _ _ 0 _ 172 (0,0) h.kn,cell_of_row _ _ 1 _ 172 (0,0) h.kn,cell_of_row _ _ 2 _ 172 (0,0) h.kn,cell_of_row _ _ 3 _ 172 (0,0) h.kn,fun o=>frozen_of_row _ _ o _ 172 h.kn⟩
end
theorem ZhQ(sb:Nat)(l:List Int)(w:World)(h:ZM w sb l)(hw:l.headD 0≠119):Calls Tryz.prog 224 #[.pointer (some ⟨sb,0,none⟩)] w fun e w'=>∃vb,e=.returned (.agg #[.bool false,vb,.slice none 0 0,.int .i64 (l.getD 1 0)])/\Zc w' w.heap.size vb (ZaB (l.drop 3) (l.getD 2 0).toNat)/\ZM w' sb ((l.drop 3).drop (4*(l.getD 2 0).toNat))/\Za (fun k=>k=sb) w w':=by
 have hby:=h.byte;have hb2:=Qu hby 2;obtain⟨c,hc⟩:∃c:Nat,l.getD 2 0=(c:Int):=⟨(l.getD 2 0).toNat,by omega⟩;have hsl:=h.lt;have q0:(l.headD 0==119)=false:=(by rw[beq_eq_false_iff_ne];exact hw);have HSR:Hid (ZM w sb l):=h
 have HNX:Hid (∀(W:World) (l:List Int) (x:Int),l.headD 0=x->ZM W sb l->Calls Tryz.prog 165 #[.pointer (some ⟨sb,0,none⟩)] W fun e w'=>e=.returned (.int .i64 x)/\ZM w' sb l.tail/\Za (fun k=>k=sb) W w'):=fun W l x hx hS=>by rw[<- hx];exact YF sb l W hS
 obtain⟨x0,hx0⟩:∃x,l.headD 0=x:=⟨_,rfl⟩;obtain⟨x1,hx1⟩:∃x,l.getD 1 0=x:=⟨_,rfl⟩;have HX0:Hid (l.headD 0=x0):=hx0;have HX1:Hid (l.tail.headD 0=x1):=(by show _=_;rw[<- hx1,<- List.drop_one,ZS]);have HX2:Hid (l.tail.tail.headD 0=(c:Int)):=(by show _=_;rw[<- hc,show l.tail.tail=l.drop 2 by rw[<- List.drop_one,<- List.drop_one,List.drop_drop],ZS]);obtain⟨l3,hl3⟩:∃l3,l.drop 3=l3:=⟨_,rfl⟩;have HL3:Hid (l.drop 3=l3):=hl3;rw[hx0] at q0;rw[hx1,hl3];clear hx0 hx1 hl3;have HSG:Hid (∀(W:World) (l:List Int),ZM W sb l->Calls Tryz.prog 277 #[.pointer (some ⟨sb,0,none⟩)] W fun e w'=>e=.returned (.int .i64 (ZcW l))/\ZM w' sb (l.drop 4)/\Za (fun k=>k=sb) W w'):=fun W l hS=>ZhU sb l W hS;rw[hc];rw[hc] at hb2;clear h hw hby hc;go_enter Tryz.func224,Tryz.ntmps224
 go_upto_region 2 with fail;generalize hW1:(w.alloc (.cells #[.bool false,.slice none 0 0,.slice none 0 0,.int .i64 0] 172)).alloc (.cells #[.bool false,.slice none 0 0,.slice none 0 0,.int .i64 0] 172)=w1
 have HR1:Hid (RdS w w1 sb l false (.slice none 0 0) (.slice none 0 0) 0):=by
  have hb:Below w.heap.size w w1:=(by rw[<- hW1];exact((Below.refl _ _).alloc (Qa _) _).alloc (by simp) _);refine⟨?_,?_,HSR.out.below hb,hsl,.of_below hb⟩
  ·rw[<- hW1];have:=heap_alloc_new (w.alloc (.cells #[.bool false,.slice none 0 0,.slice none 0 0,.int .i64 0] 172)) (.cells #[.bool false,.slice none 0 0,.slice none 0 0,.int .i64 0] 172)
   simpa using this
  rw[<- hW1,Below.heap_alloc _ _ _ (by simp)];exact heap_alloc_new w _
 clear hW1;go_wp2_with fail
 refine(HNX.out _ _ _ HX0.out HR1.out.src).mono ?_;rintro e w2 ⟨rfl,hs2,ht2⟩;have HR2:Hid (RdS w w2 sb l.tail false (.slice none 0 0) (.slice none 0 0) 0):=HR1.out.step hs2 ht2;obtain⟨c0,c1,c2,c3,fz⟩:=HR2.out.cell;have f0:=fz 0;clear hs2 ht2 HR1 fz;go_wp2_with fail
 have HR3:Hid (RdS w (w2.setCell ⟨w.heap.size+1,0,none⟩ (.bool false)) sb l.tail false (.slice none 0 0) (.slice none 0 0) 0):=HR2.out.put 0 (.bool false) rfl;generalize w2.setCell ⟨w.heap.size+1,0,none⟩ (.bool false)=w3 at *;clear HR2 c0 c1 c2 c3 f0;refine(HNX.out _ _ _ HX1.out HR3.out.src).mono ?_;rintro e w4 ⟨rfl,hs4,ht4⟩;have HR4:Hid (RdS w w4 sb l.tail.tail false (.slice none 0 0) (.slice none 0 0) 0):=HR3.out.step hs4 ht4;obtain⟨c0,c1,c2,c3,fz⟩:=HR4.out.cell;have f3:=fz 3;clear hs4 ht4 HR3 fz;go_wp2_with fail
 have HR5:Hid (RdS w (w4.setCell ⟨w.heap.size+1,3,none⟩ (.int .i64 x1)) sb l.tail.tail false (.slice none 0 0) (.slice none 0 0) x1):=HR4.out.put 3 (.int .i64 x1) rfl;generalize w4.setCell ⟨w.heap.size+1,3,none⟩ (.int .i64 x1)=w5 at *;clear HR4 c0 c1 c2 c3 f3;refine(HNX.out _ _ _ HX2.out HR5.out.src).mono ?_;rintro e w6 ⟨rfl,hs6,ht6⟩;have HR6:Hid (RdS w w6 sb l3 false (.slice none 0 0) (.slice none 0 0) x1):=(by have:=HR5.out.step hs6 ht6;rw[show l.tail.tail.tail=l.drop 3 by rw[<- List.drop_one,<- List.drop_one,<- List.drop_one,List.drop_drop,List.drop_drop],HL3.out] at this;exact this);clear hs6 ht6 HR5 HNX HX0 HX1 HX2 q0;obtain⟨i0,hinf,hz0,hz1,hz2⟩:=info_parts Zkc;go_wp2_with fail
 go_loopw [15] (fun ti wr=>∃(i:Nat) (va:Option Addr) (vc:Nat),ti=.int .i64 i/\i<=c/\Hid (RdS w wr sb (l3.drop (4*i)) false (.slice va i vc) (.slice none 0 0) x1)/\Hid (Zc wr w.heap.size (.slice va i vc) (ZaB l3 i))) (fun ti _=>c-(intOf ti).toNat)
 case atStart=>exact⟨0,none,0,rfl,Qg _,HR6.out,Zc.nil _ _⟩
 case round=>
  clear HR6;obtain⟨i,va,vc,rfl,hi,HRD,HOW⟩:=hrel;obtain⟨c0,c1,c2,c3,fz⟩:=HRD.out.cell
  by_cases hic:i<c
  ·have bi:(i:Int)<(c:Int):=(by omega);have hkb:w.heap.size+1<wr.heap.size:=(Qb HRD.out.kn).1;go_upto_region 8 with fail;refine Zr (fun w'=>w'.cell? ⟨w.heap.size+1,1,none⟩=some (.slice va i vc)) 9 (by kernel_rfl) c1 (fun hHeld=>?_);refine Zo 0 ?_;refine Zo 1 ?_;refine Zo 2 ?_;refine Zo 3 ?_;refine Ze (i:=4) (by kernel_rfl) rfl (fun KK hK=>?_);go_simp;refine(HSG.out _ _ (HRD.out.below (Below.refl _ _).drew).src).mono ?_;rintro e w4 ⟨rfl,hs4,ht4⟩;have HR4:Hid (RdS w w4 sb (l3.drop (4*(i+1))) false (.slice va i vc) (.slice none 0 0) x1):=by have:=(HRD.out.below (Below.refl _ _).drew).step hs4 ht4;rw[List.drop_drop] at this;rw[show 4*(i+1)=4*i+4 by omega];exact this
   have HO4:Hid (Zc w4 w.heap.size (.slice va i vc) (ZaB l3 i)):=ht4.row ((Za.of_below (S:=fun _=>False) (Below.refl _ _).drew).row HOW.out (fun _ _=>id)) (fun k hk e=>by
    have:=(World.ownsRow.lt HOW.out k hk).1;have:=HRD.out.lt
    omega)
   have c4:=HR4.out.cell.2.1;have hl4:w.heap.size+1<w4.heap.size:=(Qb HR4.out.kn).1;clear hs4 ht4 HRD HOW;go_simp;refine hK.out _ _ c4 (fun hHeld=>?_);clear hK KK;try simp only[Act.put,tA,tB,tC]
   refine Ze (i:=5) (by kernel_rfl) rfl (fun KK hK=>?_);go_simp;have HR5:Hid (∀o,RdS w (w4.alloc o) sb (l3.drop (4*(i+1))) false (.slice va i vc) (.slice none 0 0) x1):=fun o=>HR4.out.below ((Below.refl _ _).alloc (Qa _) _);refine hK.out _ _ (HR5.out _).cell.2.1 (fun hHeld=>?_);clear hK KK;try simp only[Act.put,tA,tB,tC]
   refine Ze (i:=6) (by kernel_rfl) rfl (fun KK hK=>?_);refine Zw rfl (.tmp 33) (.tmp 36) 25 rfl w.heap.size 3 i0 (.int .i64 0) 1 8 Tryz.underlying25 hinf hz0 hz1 hz2 rfl (by decide) (.slice va i vc) i ((ZaB l3 i).map (Value.int .i64)) (by simp[Act.eval]) (by have:=HO4.out.alloc (.cells #[.int .i64 (ZcW (l3.drop (4*i)))] 3);unfold Zc at this;rw[Zdh] at this;exact this) ⟨w4.heap.size,0,none⟩ 1 1 [.int .i64 (ZcW (l3.drop (4*i)))] (by simp[Act.eval]) rfl ?_ ?_ (by decide) (by unfold maxLen;omega) (by omega) (by simp;omega) ?_;exact Zu w4 #[.int .i64 (ZcW (l3.drop (4*i)))] 3;intro u hu;simp at hu;subst hu;rfl;intro v6 w6 H6;obtain⟨r6,g6,d6,_,q6,p6,hv6⟩:=H6.out;subst hv6
   have hro:(w4.alloc (.cells #[.int .i64 (ZcW (l3.drop (4*i)))] 3)).ownsRow w.heap.size 3 1 (.slice va i vc) (ZaB l3 i).length ((ZaB l3 i).map (Value.int .i64)):=HO4.out.alloc _;have HR6:Hid (RdS w w6 sb (l3.drop (4*(i+1))) false (.slice va i vc) (.slice none 0 0) x1):=(HR5.out _).grown hro (by decide) (by decide) g6;have HO6:Hid (Zc w6 w.heap.size (.slice (some ⟨q6,0,none⟩) (i+1) p6) (ZaB l3 (i+1))):=(by show Zc _ _ _ _;rw[Zl2];refine Zc.more ?_;rw[Zdh];exact r6);obtain⟨_,c6,_,_,fz6⟩:=HR6.out.cell;have f6:=fz6 1;clear H6 r6 g6 d6 hro HR5 HR4 HO4 c4 hl4 fz6;refine hK.out _ _ c6 (fun hHeld=>?_);clear hK KK;try simp only[Act.put,tA,tB,tC]
   refine Zo 7 ?_;refine Zo 8 ?_;refine Zl (i:=9) (by kernel_rfl) rfl (by kernel_rfl) (fun KK hK=>?_);go_simp;refine hK.out _ _ ?_;clear hK KK;try simp only[Act.put,tA,tB,tC]
   refine Zn (by kernel_rfl) ?_ _;have HR7:Hid (RdS w (w6.setCell ⟨w.heap.size+1,1,none⟩ (.slice (some ⟨q6,0,none⟩) (i+1) p6)) sb (l3.drop (4*(i+1))) false (.slice (some ⟨q6,0,none⟩) (i+1) p6) (.slice none 0 0) x1):=HR6.out.put 1 _ rfl;have HO7:Hid (Zc (w6.setCell ⟨w.heap.size+1,1,none⟩ (.slice (some ⟨q6,0,none⟩) (i+1) p6)) w.heap.size (.slice (some ⟨q6,0,none⟩) (i+1) p6) (ZaB l3 (i+1))):=Zm HO6.out HR6.out.kn (by decide);clear HR6 HO6;go_wp2;go_roundw;case rel=>exact⟨i+1,_,_,by go_num,by omega,HR7,HO7⟩
   case measure=>simp[intOf];omega
  have hni:¬(i:Int)<(c:Int):=(by omega);have hii:i=c:=(by omega);subst hii;have r0:=HRD.out.rs;have s0:wr.cell? ⟨w.heap.size,0,none⟩=some (.bool false):=cell_of_row _ _ 0 _ 172 (0,0) r0;have s1:wr.cell? ⟨w.heap.size,1,none⟩=some (.slice none 0 0):=cell_of_row _ _ 1 _ 172 (0,0) r0;have s2:wr.cell? ⟨w.heap.size,2,none⟩=some (.slice none 0 0):=cell_of_row _ _ 2 _ 172 (0,0) r0;have s3:wr.cell? ⟨w.heap.size,3,none⟩=some (.int .i64 0):=cell_of_row _ _ 3 _ 172 (0,0) r0;have g0:wr.frozen? ⟨w.heap.size,0,none⟩=false:=frozen_of_row _ _ 0 _ 172 r0;have g1:wr.frozen? ⟨w.heap.size,1,none⟩=false:=frozen_of_row _ _ 1 _ 172 r0;have g2:wr.frozen? ⟨w.heap.size,2,none⟩=false:=frozen_of_row _ _ 2 _ 172 r0;have g3:wr.frozen? ⟨w.heap.size,3,none⟩=false:=frozen_of_row _ _ 3 _ 172 r0
  have HF:Hid (∀v0 v1 v2 v3,Zc ((((wr.setCell ⟨w.heap.size,0,none⟩ v0).setCell ⟨w.heap.size,1,none⟩ v1).setCell ⟨w.heap.size,2,none⟩ v2).setCell ⟨w.heap.size,3,none⟩ v3) w.heap.size (.slice va i vc) (ZaB l3 i)/\ZM ((((wr.setCell ⟨w.heap.size,0,none⟩ v0).setCell ⟨w.heap.size,1,none⟩ v1).setCell ⟨w.heap.size,2,none⟩ v2).setCell ⟨w.heap.size,3,none⟩ v3) sb (l3.drop (4*i))/\Za (fun k=>k=sb) w ((((wr.setCell ⟨w.heap.size,0,none⟩ v0).setCell ⟨w.heap.size,1,none⟩ v1).setCell ⟨w.heap.size,2,none⟩ v2).setCell ⟨w.heap.size,3,none⟩ v3)):=fun v0 v1 v2 v3=>by
   have t4:Za (fun k=>k=w.heap.size) wr ((((wr.setCell ⟨w.heap.size,0,none⟩ v0).setCell ⟨w.heap.size,1,none⟩ v1).setCell ⟨w.heap.size,2,none⟩ v2).setCell ⟨w.heap.size,3,none⟩ v3):=((((Za.refl (fun k=>k=w.heap.size) wr).setCell (p:=⟨w.heap.size,0,none⟩) (fun _=>rfl) v0).setCell (p:=⟨w.heap.size,1,none⟩) (fun _=>rfl) v1).setCell (p:=⟨w.heap.size,2,none⟩) (fun _=>rfl) v2).setCell (p:=⟨w.heap.size,3,none⟩) (fun _=>rfl) v3;refine⟨t4.row HOW.out (fun k hk e=>Zp HOW.out hk r0 (by decide) e),HRD.out.src.touch t4 (by have:=HRD.out.lt;omega),?_⟩
   exact(((HRD.out.t.setCell (p:=⟨w.heap.size,0,none⟩) (fun h=>absurd h (Nat.lt_irrefl _)) v0).setCell (p:=⟨w.heap.size,1,none⟩) (fun h=>absurd h (Nat.lt_irrefl _)) v1).setCell (p:=⟨w.heap.size,2,none⟩) (fun h=>absurd h (Nat.lt_irrefl _)) v2).setCell (p:=⟨w.heap.size,3,none⟩) (fun h=>absurd h (Nat.lt_irrefl _)) v3
  clear HRD HOW;go_wp2;refine bodyPost_ret (v:=.agg #[.bool false,.slice va i vc,.slice none 0 0,.int .i64 x1]) (by simp[results,Tryz.results224,go_sem, *]) rfl ?_;exact⟨_,rfl,HF.out _ _ _ _⟩
def Ziq(l:List Int):List Int:=l.tail.drop (l.headD 0).toNat
def restW(l:List Int):Nat->List Int
 |0=>l
 |k+1=>Ziq (restW l k)
def ZdU(l:List Int):ByteArray:=strOfNums (l.tail.take (l.headD 0).toNat)
def Zaz(l:List Int)(k:Nat):List ByteArray:=(List.range k).map fun j=>ZdU (restW l j)
theorem ZmB(l:List Int)(k:Nat):Zaz l (k+1)=Zaz l k++[ZdU (restW l k)]:=by simp[Zaz,List.range_succ]
theorem Zdo(l:List Int)(k:Nat):(Zaz l k).length=k:=by simp[Zaz]
theorem ZF.more{w:World}{base:Nat}{v:Value}{zs:List ByteArray}{x:ByteArray}(h:w.ownsRow base 9 1 v (zs.length+1) (zs.map Value.string++[.string x])):ZF w base v (zs++[x]):=by unfold ZF;rw[Qe,List.map_append];exact h
theorem Zg2(sb:Nat)(l:List Int)(w:World)(h:ZM w sb l)(hw:l.headD 0=119):Calls Tryz.prog 224 #[.pointer (some ⟨sb,0,none⟩)] w fun e w'=>∃vw,e=.returned (.agg #[.bool true,.slice none 0 0,vw,.int .i64 (l.getD 1 0)])/\ZF w' w.heap.size vw (Zaz (l.drop 3) (l.getD 2 0).toNat)/\ZM w' sb (restW (l.drop 3) (l.getD 2 0).toNat)/\Za (fun k=>k=sb) w w':=by
 have hby:=h.byte;have hb2:=Qu hby 2;obtain⟨c,hc⟩:∃c:Nat,l.getD 2 0=(c:Int):=⟨(l.getD 2 0).toNat,by omega⟩;have hsl:=h.lt;have q0:(l.headD 0==119)=true:=(by rw[hw];rfl);have HSR:Hid (ZM w sb l):=h
 have HNX:Hid (∀(W:World) (l:List Int) (x:Int),l.headD 0=x->ZM W sb l->Calls Tryz.prog 165 #[.pointer (some ⟨sb,0,none⟩)] W fun e w'=>e=.returned (.int .i64 x)/\ZM w' sb l.tail/\Za (fun k=>k=sb) W w'):=fun W l x hx hS=>by rw[<- hx];exact YF sb l W hS
 obtain⟨x0,hx0⟩:∃x,l.headD 0=x:=⟨_,rfl⟩;obtain⟨x1,hx1⟩:∃x,l.getD 1 0=x:=⟨_,rfl⟩;have HX0:Hid (l.headD 0=x0):=hx0;have HX1:Hid (l.tail.headD 0=x1):=(by show _=_;rw[<- hx1,<- List.drop_one,ZS]);have HX2:Hid (l.tail.tail.headD 0=(c:Int)):=(by show _=_;rw[<- hc,show l.tail.tail=l.drop 2 by rw[<- List.drop_one,<- List.drop_one,List.drop_drop],ZS]);obtain⟨l3,hl3⟩:∃l3,l.drop 3=l3:=⟨_,rfl⟩;have HL3:Hid (l.drop 3=l3):=hl3;rw[hx0] at q0;rw[hx1,hl3];clear hx0 hx1 hl3
 have HTX:Hid (∀(W:World) (l:List Int) (n:Nat),ZM W sb l->Calls Tryz.prog 164 #[.pointer (some ⟨sb,0,none⟩),.int .i64 (n:Nat)] W fun e w'=>e=.returned (.string (strOfNums (l.take n)))/\ZM w' sb (l.drop n)/\Za (fun k=>k=sb) W w'):=fun W l n hS=>(Zfz sb n l W hS).mono (fun e w' h=>by
  obtain⟨⟨T,h1,h2⟩,h3⟩:=h;refine⟨?_,h3⟩
  rw[h1,<- h2,ZbI])
 rw[hc];rw[hc] at hb2;clear h hw hby hc;go_enter Tryz.func224,Tryz.ntmps224;go_upto_region 2 with fail;generalize hW1:(w.alloc (.cells #[.bool false,.slice none 0 0,.slice none 0 0,.int .i64 0] 172)).alloc (.cells #[.bool false,.slice none 0 0,.slice none 0 0,.int .i64 0] 172)=w1
 have HR1:Hid (RdS w w1 sb l false (.slice none 0 0) (.slice none 0 0) 0):=by
  have hb:Below w.heap.size w w1:=(by rw[<- hW1];exact((Below.refl _ _).alloc (Qa _) _).alloc (by simp) _);refine⟨?_,?_,HSR.out.below hb,hsl,.of_below hb⟩
  ·rw[<- hW1];have:=heap_alloc_new (w.alloc (.cells #[.bool false,.slice none 0 0,.slice none 0 0,.int .i64 0] 172)) (.cells #[.bool false,.slice none 0 0,.slice none 0 0,.int .i64 0] 172)
   simpa using this
  rw[<- hW1,Below.heap_alloc _ _ _ (by simp)];exact heap_alloc_new w _
 clear hW1;go_wp2_with fail
 refine(HNX.out _ _ _ HX0.out HR1.out.src).mono ?_;rintro e w2 ⟨rfl,hs2,ht2⟩;have HR2:Hid (RdS w w2 sb l.tail false (.slice none 0 0) (.slice none 0 0) 0):=HR1.out.step hs2 ht2;obtain⟨c0,c1,c2,c3,fz⟩:=HR2.out.cell;have f0:=fz 0;clear hs2 ht2 HR1 fz;go_wp2_with fail
 have HR3:Hid (RdS w (w2.setCell ⟨w.heap.size+1,0,none⟩ (.bool true)) sb l.tail true (.slice none 0 0) (.slice none 0 0) 0):=HR2.out.put 0 (.bool true) rfl;generalize w2.setCell ⟨w.heap.size+1,0,none⟩ (.bool true)=w3 at *;clear HR2 c0 c1 c2 c3 f0;refine(HNX.out _ _ _ HX1.out HR3.out.src).mono ?_;rintro e w4 ⟨rfl,hs4,ht4⟩;have HR4:Hid (RdS w w4 sb l.tail.tail true (.slice none 0 0) (.slice none 0 0) 0):=HR3.out.step hs4 ht4;obtain⟨c0,c1,c2,c3,fz⟩:=HR4.out.cell;have f3:=fz 3;clear hs4 ht4 HR3 fz;go_wp2_with fail
 have HR5:Hid (RdS w (w4.setCell ⟨w.heap.size+1,3,none⟩ (.int .i64 x1)) sb l.tail.tail true (.slice none 0 0) (.slice none 0 0) x1):=HR4.out.put 3 (.int .i64 x1) rfl;generalize w4.setCell ⟨w.heap.size+1,3,none⟩ (.int .i64 x1)=w5 at *;clear HR4 c0 c1 c2 c3 f3;refine(HNX.out _ _ _ HX2.out HR5.out.src).mono ?_;rintro e w6 ⟨rfl,hs6,ht6⟩;have HR6:Hid (RdS w w6 sb l3 true (.slice none 0 0) (.slice none 0 0) x1):=(by have:=HR5.out.step hs6 ht6;rw[show l.tail.tail.tail=l.drop 3 by rw[<- List.drop_one,<- List.drop_one,<- List.drop_one,List.drop_drop,List.drop_drop],HL3.out] at this;exact this);clear hs6 ht6 HR5 HX0 HX1 HX2 q0;obtain⟨i0,hinf,hz0,hz1,hz2⟩:=info_parts Zjb;go_wp2_with fail
 go_loopw [15] (fun ti wr=>∃(i:Nat) (va:Option Addr) (vc:Nat),ti=.int .i64 i/\i<=c/\Hid (RdS w wr sb (restW l3 i) true (.slice none 0 0) (.slice va i vc) x1)/\Hid (ZF wr w.heap.size (.slice va i vc) (Zaz l3 i))) (fun ti _=>c-(intOf ti).toNat)
 case atStart=>exact⟨0,none,0,rfl,Qg _,HR6.out,ZF.nil _ _⟩
 case round=>
  clear HR6;obtain⟨i,va,vc,rfl,hi,HRD,HOW⟩:=hrel;obtain⟨c0,c1,c2,c3,fz⟩:=HRD.out.cell
  by_cases hic:i<c
  ·have bi:(i:Int)<(c:Int):=(by omega);have hnb:=Qu HRD.out.src.byte 0
   obtain⟨nb,hnb2⟩:∃nb:Nat,(restW l3 i).headD 0=(nb:Int):=⟨((restW l3 i).headD 0).toNat,by
    have:(restW l3 i).headD 0=(restW l3 i).getD 0 0:=by have:=ZS (restW l3 i) 0;rwa [List.drop_zero] at this
    omega⟩
   have HNB:Hid ((restW l3 i).headD 0=(nb:Int)):=hnb2;have HWD:Hid (strOfNums ((restW l3 i).tail.take nb)=ZdU (restW l3 i)/\(restW l3 i).tail.drop nb=restW l3 (i+1)):=by have e:((restW l3 i).headD 0).toNat=nb:=(by omega);exact⟨by unfold ZdU;rw[e],by show _=Ziq (restW l3 i);unfold Ziq;rw[e]⟩
   clear hnb hnb2;go_upto_region 7 with fail;refine Zr (fun w'=>w'.cell? ⟨w.heap.size+1,2,none⟩=some (.slice va i vc)) 11 (by kernel_rfl) c2 (fun hHeld=>?_);refine Zo 0 ?_;refine Zo 1 ?_;refine Zo 2 ?_;refine Zo 3 ?_;refine Zo 4 ?_;refine Ze (i:=5) (by kernel_rfl) rfl (fun KK hK=>?_);go_simp;refine(HNX.out _ _ _ HNB.out (HRD.out.below (Below.refl _ _).drew).src).mono ?_;rintro e w4 ⟨rfl,hs4,ht4⟩;have HR4:Hid (RdS w w4 sb (restW l3 i).tail true (.slice none 0 0) (.slice va i vc) x1):=(HRD.out.below (Below.refl _ _).drew).step hs4 ht4
   have HO4:Hid (ZF w4 w.heap.size (.slice va i vc) (Zaz l3 i)):=ht4.row ((Za.of_below (S:=fun _=>False) (Below.refl _ _).drew).row HOW.out (fun _ _=>id)) (fun k hk e=>by
    have:=(World.ownsRow.lt HOW.out k hk).1;have:=HRD.out.lt
    omega)
   have c4:=HR4.out.cell.2.2.1;clear hs4 ht4 HRD HOW;go_simp;refine hK.out _ _ c4 (fun hHeld=>?_);clear hK KK;try simp only[Act.put,tA,tB,tC]
   refine Ze (i:=6) (by kernel_rfl) rfl (fun KK hK=>?_);go_simp;refine(HTX.out _ _ nb HR4.out.src).mono ?_;rintro e w5 ⟨rfl,hs5,ht5⟩;rw[HWD.out.1];have HR5:Hid (RdS w w5 sb (restW l3 (i+1)) true (.slice none 0 0) (.slice va i vc) x1):=by have:=HR4.out.step hs5 ht5;rw[HWD.out.2] at this;exact this
   have HO5:Hid (ZF w5 w.heap.size (.slice va i vc) (Zaz l3 i)):=ht5.row HO4.out (fun k hk e=>by
    have:=(World.ownsRow.lt HO4.out k hk).1;have:=HR4.out.lt
    omega)
   have c5:=HR5.out.cell.2.2.1;have hl5:w.heap.size+1<w5.heap.size:=(Qb HR5.out.kn).1;clear hs5 ht5 HR4 HO4 c4;go_simp;refine hK.out _ _ c5 (fun hHeld=>?_);clear hK KK;try simp only[Act.put,tA,tB,tC]
   refine Ze (i:=7) (by kernel_rfl) rfl (fun KK hK=>?_);go_simp;have HR6:Hid (∀o,RdS w (w5.alloc o) sb (restW l3 (i+1)) true (.slice none 0 0) (.slice va i vc) x1):=fun o=>HR5.out.below ((Below.refl _ _).alloc (Qa _) _);refine hK.out _ _ (HR6.out _).cell.2.2.1 (fun hHeld=>?_);clear hK KK;try simp only[Act.put,tA,tB,tC]
   refine Ze (i:=8) (by kernel_rfl) rfl (fun KK hK=>?_);have hro:(w5.alloc (.cells #[.string (ZdU (restW l3 i))] 9)).ownsRow w.heap.size 9 1 (.slice va i vc) (Zaz l3 i).length ((Zaz l3 i).map Value.string):=World.ownsRow.alloc HO5.out _;rw[Zdo] at hro;refine Zw rfl (.tmp 22) (.tmp 27) 47 rfl w.heap.size 9 i0 (.string ⟨#[]⟩) 1 16 Tryz.underlying47 hinf hz0 hz1 hz2 rfl (by decide) (.slice va i vc) i ((Zaz l3 i).map Value.string) (by simp[Act.eval]) hro ⟨w5.heap.size,0,none⟩ 1 1 [.string (ZdU (restW l3 i))] (by simp[Act.eval]) rfl ?_ ?_ (by decide) (by unfold maxLen;omega) (by omega) (by simp;omega) ?_;exact Zu w5 #[.string (ZdU (restW l3 i))] 9;intro u hu;simp at hu;subst hu;rfl;intro v6 w6 H6;obtain⟨r6,g6,d6,_,q6,p6,hv6⟩:=H6.out;subst hv6
   have HR7:Hid (RdS w w6 sb (restW l3 (i+1)) true (.slice none 0 0) (.slice va i vc) x1):=(HR6.out _).grown hro (by decide) (by decide) g6;have HO6:Hid (ZF w6 w.heap.size (.slice (some ⟨q6,0,none⟩) (i+1) p6) (Zaz l3 (i+1))):=(by show ZF _ _ _ _;rw[ZmB];refine ZF.more ?_;rw[Zdo];exact r6);obtain⟨_,_,c6,_,fz6⟩:=HR7.out.cell;have f6:=fz6 2;clear H6 r6 g6 d6 hro HR6 HR5 HO5 c5 hl5 fz6;refine hK.out _ _ c6 (fun hHeld=>?_);clear hK KK;try simp only[Act.put,tA,tB,tC]
   refine Zo 9 ?_;refine Zo 10 ?_;refine Zl (i:=11) (by kernel_rfl) rfl (by kernel_rfl) (fun KK hK=>?_);go_simp;refine hK.out _ _ ?_;clear hK KK;try simp only[Act.put,tA,tB,tC]
   refine Zn (by kernel_rfl) ?_ _;have HR8:Hid (RdS w (w6.setCell ⟨w.heap.size+1,2,none⟩ (.slice (some ⟨q6,0,none⟩) (i+1) p6)) sb (restW l3 (i+1)) true (.slice none 0 0) (.slice (some ⟨q6,0,none⟩) (i+1) p6) x1):=HR7.out.put 2 _ rfl;have HO7:Hid (ZF (w6.setCell ⟨w.heap.size+1,2,none⟩ (.slice (some ⟨q6,0,none⟩) (i+1) p6)) w.heap.size (.slice (some ⟨q6,0,none⟩) (i+1) p6) (Zaz l3 (i+1))):=Zm HO6.out HR7.out.kn (by decide);clear HR7 HO6 HNB HWD;go_wp2;go_roundw;case rel=>exact⟨i+1,_,_,by go_num,by omega,HR8,HO7⟩
   case measure=>simp[intOf];omega
  have hni:¬(i:Int)<(c:Int):=(by omega);have hii:i=c:=(by omega);subst hii;have r0:=HRD.out.rs;have s0:wr.cell? ⟨w.heap.size,0,none⟩=some (.bool false):=cell_of_row _ _ 0 _ 172 (0,0) r0;have s1:wr.cell? ⟨w.heap.size,1,none⟩=some (.slice none 0 0):=cell_of_row _ _ 1 _ 172 (0,0) r0;have s2:wr.cell? ⟨w.heap.size,2,none⟩=some (.slice none 0 0):=cell_of_row _ _ 2 _ 172 (0,0) r0;have s3:wr.cell? ⟨w.heap.size,3,none⟩=some (.int .i64 0):=cell_of_row _ _ 3 _ 172 (0,0) r0;have g0:wr.frozen? ⟨w.heap.size,0,none⟩=false:=frozen_of_row _ _ 0 _ 172 r0;have g1:wr.frozen? ⟨w.heap.size,1,none⟩=false:=frozen_of_row _ _ 1 _ 172 r0;have g2:wr.frozen? ⟨w.heap.size,2,none⟩=false:=frozen_of_row _ _ 2 _ 172 r0;have g3:wr.frozen? ⟨w.heap.size,3,none⟩=false:=frozen_of_row _ _ 3 _ 172 r0
  have HF:Hid (∀v0 v1 v2 v3,ZF ((((wr.setCell ⟨w.heap.size,0,none⟩ v0).setCell ⟨w.heap.size,1,none⟩ v1).setCell ⟨w.heap.size,2,none⟩ v2).setCell ⟨w.heap.size,3,none⟩ v3) w.heap.size (.slice va i vc) (Zaz l3 i)/\ZM ((((wr.setCell ⟨w.heap.size,0,none⟩ v0).setCell ⟨w.heap.size,1,none⟩ v1).setCell ⟨w.heap.size,2,none⟩ v2).setCell ⟨w.heap.size,3,none⟩ v3) sb (restW l3 i)/\Za (fun k=>k=sb) w ((((wr.setCell ⟨w.heap.size,0,none⟩ v0).setCell ⟨w.heap.size,1,none⟩ v1).setCell ⟨w.heap.size,2,none⟩ v2).setCell ⟨w.heap.size,3,none⟩ v3)):=fun v0 v1 v2 v3=>by
   have t4:Za (fun k=>k=w.heap.size) wr ((((wr.setCell ⟨w.heap.size,0,none⟩ v0).setCell ⟨w.heap.size,1,none⟩ v1).setCell ⟨w.heap.size,2,none⟩ v2).setCell ⟨w.heap.size,3,none⟩ v3):=((((Za.refl (fun k=>k=w.heap.size) wr).setCell (p:=⟨w.heap.size,0,none⟩) (fun _=>rfl) v0).setCell (p:=⟨w.heap.size,1,none⟩) (fun _=>rfl) v1).setCell (p:=⟨w.heap.size,2,none⟩) (fun _=>rfl) v2).setCell (p:=⟨w.heap.size,3,none⟩) (fun _=>rfl) v3;refine⟨t4.row HOW.out (fun k hk e=>Zp HOW.out hk r0 (by decide) e),HRD.out.src.touch t4 (by have:=HRD.out.lt;omega),?_⟩
   exact(((HRD.out.t.setCell (p:=⟨w.heap.size,0,none⟩) (fun h=>absurd h (Nat.lt_irrefl _)) v0).setCell (p:=⟨w.heap.size,1,none⟩) (fun h=>absurd h (Nat.lt_irrefl _)) v1).setCell (p:=⟨w.heap.size,2,none⟩) (fun h=>absurd h (Nat.lt_irrefl _)) v2).setCell (p:=⟨w.heap.size,3,none⟩) (fun h=>absurd h (Nat.lt_irrefl _)) v3
  clear HRD HOW;go_wp2;refine bodyPost_ret (v:=.agg #[.bool true,.slice none 0 0,.slice va i vc,.int .i64 x1]) (by simp[results,Tryz.results224,go_sem, *]) rfl ?_;exact⟨_,rfl,HF.out _ _ _ _⟩
def Q3(l:List Int):ES:=if l.headD 0=119 then⟨true,[],Zaz (l.drop 3) (l.getD 2 0).toNat⟩ else⟨false,ZaB (l.drop 3) (l.getD 2 0).toNat,[]⟩
def rdR(l:List Int):List Int:=if l.headD 0=119 then restW (l.drop 3) (l.getD 2 0).toNat else(l.drop 3).drop (4*(l.getD 2 0).toNat)
def rdD(l:List Int):Nat:=(l.getD 1 0).toNat
theorem Zha(l:List Int):(strOfNums l).size=l.length:=by show(strOfNums l).data.size=_;simp[strOfNums]
theorem Ziw(l:List Int):∀k,(restW l k).length<=l.length
 |0=>Qa _
 |k+1=>by have:=Ziw l k;simp only[restW,Ziq,List.length_drop,List.length_tail];omega
theorem Zop{l:List Int}(hl:l.length<=140737488355328)(hc:∀x∈l,0<=x/\x<=255):(Q3 l).bs.length<=255/\(Q3 l).ww.length<=255/\∀s∈(Q3 l).ww,s.size<=200000000000000:=by have hb:=Qu hc 2;unfold Q3;split;refine⟨by simp,by rw[Zdo];omega,fun s hs=>?_⟩;obtain⟨j,_,rfl⟩:=List.mem_map.1 hs;have h1:=Ziw (l.drop 3) j;unfold ZdU;rw[Zha,List.length_take,List.length_tail];rw[List.length_drop] at h1;omega;refine⟨by rw[Zdh];omega,by simp,by simp⟩
theorem ZhP(sb:Nat)(l:List Int)(w:World)(h:ZM w sb l):Calls Tryz.prog 224 #[.pointer (some ⟨sb,0,none⟩)] w fun e w'=>∃vb vw,e=.returned (.agg #[.bool (Q3 l).wd,vb,vw,.int .i64 (rdD l:Nat)])/\Zc w' w.heap.size vb (Q3 l).bs/\ZF w' w.heap.size vw (Q3 l).ww/\ZM w' sb (rdR l)/\Za (fun k=>k=sb) w w':=by
 have hd:((rdD l:Nat):Int)=l.getD 1 0:=(by have:=Qu h.byte 1;unfold rdD;omega);rw[hd]
 by_cases hw:l.headD 0=119
 unfold Q3 rdR;rw[if_pos hw,if_pos hw];refine(Zg2 sb l w h hw).mono ?_;rintro e w' ⟨vw,h1,h2,h3,h4⟩;exact⟨.slice none 0 0,vw,h1,Zc.nil _ _,h2,h3,h4⟩;unfold Q3 rdR;rw[if_neg hw,if_neg hw];refine(ZhQ sb l w h hw).mono ?_;rintro e w' ⟨vb,h1,h2,h3,h4⟩;exact⟨vb,.slice none 0 0,h1,h2,ZF.nil _ _,h3,h4⟩
def fsK(l:List Int):Nat->Option (List KS×List Int)
 |0=>some ([],l)
 | k+1=>match fsK l k with
  |none=>none
  |some (Ks,r)=>if(Zd7 (Q3 r)&&ZaV (Q3 r) (rdD r:Nat))=true then some (Ks++[⟨Q3 r,rdD r⟩],rdR r) else none
theorem Zpo (l:List Int) {k n:Nat} (h:fsK l k=none) (hk:k<=n):fsK l n=none:=by
  induction n with
  | zero => have:k=0:=by omega
            rw[<- this];exact h
  | succ n ih=>
    by_cases e:k=n+1
    rw[<- e];exact h;simp only[fsK,ih (by omega)]
theorem QF.more{w w':World}{vK v' vb vw:Value}{kvs:List (Value×Value)}{Ks:List KS}{K:KS}(h:QF w vK kvs Ks)(hb:Zc w 0 vb K.e.bs)(hs:ZF w 0 vw K.e.ww)(g:w.grownBy w' vK.ownBlock)(r:w'.ownsRow 0 172 4 v' (Ks.length+1) (Qv Ks kvs++Q8 K (vb,vw))):QF w' v' (kvs++[(vb,vw)]) (Ks++[K]):=by
 have t:Za (fun k=>vK.ownBlock=some k) w w':=(Za.refl _ w).grown g (fun k hk _=>hk)
 have n3:∀{v:Value} {zs:List Int},Zc w 0 v zs->Zc w' 0 v zs:=fun ho=>t.row ho (fun k hk e=>by
  obtain⟨c,hc⟩:=Zg ho hk
  exact Zp h.row e hc (by decide) rfl)
 have n9:∀{v:Value} {zs:List ByteArray},ZF w 0 v zs->ZF w' 0 v zs:=fun ho=>t.row ho (fun k hk e=>by
  obtain⟨c,hc⟩:=Zg ho hk
  exact Zp h.row e hc (by decide) rfl)
 refine⟨?_,by simp[h.len],fun i hi=>?_⟩;rw[ZbQ _ _ _ _ h.len,Qe];exact r;rw[Qe] at hi;simp at hi
 by_cases e:i<Ks.length
 have e1:(kvs++[(vb,vw)]).getD i vv0=kvs.getD i vv0:=(by simp[List.getD,List.getElem?_append_left (show i<kvs.length by rw[h.len];exact e)]);have e2:(Ks++[K]).getD i Zq=Ks.getD i Zq:=(by simp[List.getD,List.getElem?_append_left e]);rw[e1,e2];exact⟨n3 (h.each i e).1,n9 (h.each i e).2⟩;have ei:i=Ks.length:=(by omega);subst ei;have e1:(kvs++[(vb,vw)]).getD Ks.length vv0=(vb,vw):=(by simp[List.getD,h.len.symm]);have e2:(Ks++[K]).getD Ks.length Zq=K:=(by simp[List.getD]);rw[e1,e2];exact⟨n3 hb,n9 hs⟩
structure FtS(w wr:World)(db sb:Nat)(l:List Int)(vK:Value)(kvs:List (Value×Value))(Ks:List KS):Prop where
 blk:wr.heap[db]? =some (.cells #[vK,.slice none 0 0,.slice none 0 0] 168 (0,0))
 kn:QF wr vK kvs Ks
 src:ZM wr sb l
 t:Za (fun k=>k=sb∨k=db) w wr
 nw:∀k,vK.ownBlock=some k->w.heap.size<=k
section
variable {w wr w2:World} {db sb:Nat} {l l2:List Int} {vK:Value} {kvs:List (Value×Value)} {Ks:List KS}
theorem FtS.step(h:FtS w wr db sb l vK kvs Ks)(hs:ZM w2 sb l2)(t:Za (fun k=>k=sb) wr w2):FtS w w2 db sb l2 vK kvs Ks:=by
 obtain⟨S,s1,_⟩:=h.src.ex;refine⟨t.at_ h.blk (fun e=>?_),h.kn.touch t (fun k cur ty hk hty e=>?_),hs,h.t.trans (t.mono (fun k _ e=>.inl e)),h.nw⟩;have hb:=h.blk;rw[e,s1] at hb;simp at hb;subst e;rw[s1] at hk;simp at hk
 rcases hty with e|e|e<;>(rw[<- hk.2] at e;exact absurd e (by decide))
theorem FtS.below(h:FtS w wr db sb l vK kvs Ks)(hb:Below wr.heap.size wr w2):FtS w w2 db sb l vK kvs Ks:=h.step (h.src.below hb) (.of_below hb)
theorem FtS.cell(h:FtS w wr db sb l vK kvs Ks):wr.cell? ⟨db,0,none⟩=some vK:=cell_of_row _ _ 0 _ 168 (0,0) h.blk
end
structure KbX(w:World)(kb:Nat)(wd:Bool)(vb vw:Value)(d:Nat):Prop where
 blk:w.heap[kb]? =some (.cells #[.bool wd,vb,vw,.int .i64 (d:Nat)] 172 (0,0))
section
variable {w w2:World} {kb d:Nat} {wd:Bool} {vb vw:Value}
theorem KbX.below(h:KbX w kb wd vb vw d)(hb:Below w.heap.size w w2):KbX w2 kb wd vb vw d:=⟨(hb.block _ (Qb h.blk).1).trans h.blk⟩
theorem KbX.c0(h:KbX w kb wd vb vw d):w.cell? ⟨kb,0,none⟩=some (.bool wd):=cell_of_row _ _ 0 _ 172 (0,0) h.blk
theorem KbX.c1(h:KbX w kb wd vb vw d):w.cell? ⟨kb,1,none⟩=some vb:=cell_of_row _ _ 1 _ 172 (0,0) h.blk
theorem KbX.c2(h:KbX w kb wd vb vw d):w.cell? ⟨kb,2,none⟩=some vw:=cell_of_row _ _ 2 _ 172 (0,0) h.blk
theorem KbX.c3(h:KbX w kb wd vb vw d):w.cell? ⟨kb,3,none⟩=some (.int .i64 (d:Nat)):=cell_of_row _ _ 3 _ 172 (0,0) h.blk
end
def FtE(w w':World)(db sb:Nat)(o:Option (List KS×List Int))(e:Ending):Prop:=match o with
 |none=>e=.returned (.bool false)/\Za (fun k=>k=sb∨k=db) w w'
 |some (Ks,r)=>e=.returned (.bool true)/\∃vK kvs,FtS w w' db sb r vK kvs Ks
theorem Ze9(db sb c:Nat)(l:List Int)(w:World)(h:ZM w sb l)(hd:w.heap[db]? =some (.cells #[.slice none 0 0,.slice none 0 0,.slice none 0 0] 168 (0,0)))(hc:c<=1000):Calls Tryz.prog 166 #[.pointer (some ⟨db,0,none⟩),.pointer (some ⟨sb,0,none⟩),.int .i64 (c:Nat)] w fun e w'=>FtE w w' db sb (fsK l c) e:=by
 have HF0:Hid (FtS w w db sb l (.slice none 0 0) [] []):=⟨hd,⟨World.ownsRow_nil _ _ _ _,rfl,by simp⟩,h,Za.refl _ _,by simp[Value.ownBlock]⟩;have HRK:Hid (∀W l,ZM W sb l->Calls Tryz.prog 224 #[.pointer (some ⟨sb,0,none⟩)] W fun e w'=>∃vb vw,e=.returned (.agg #[.bool (Q3 l).wd,vb,vw,.int .i64 (rdD l:Nat)])/\Zc w' W.heap.size vb (Q3 l).bs/\ZF w' W.heap.size vw (Q3 l).ww/\ZM w' sb (rdR l)/\Za (fun k=>k=sb) W w'):=fun W l hS=>ZhP sb l W hS;obtain⟨i0,hinf,hz0,hz1,hz2⟩:=info_parts Zm0;clear h hd;go_enter Tryz.func166,Tryz.ntmps166;go_wp2_with fail
 go_loopw [9] (fun ti wr=>∃(i:Nat) (Ks:List KS) (r:List Int) (vK:Value) (kvs:List (Value×Value)),ti=.int .i64 i/\i<=c/\Ks.length<=i/\Hid (fsK l i=some (Ks,r))/\Hid (FtS w wr db sb r vK kvs Ks)) (fun ti _=>c-(intOf ti).toNat)
 case atStart=>exact⟨0,[],l,_,_,rfl,Qg _,Qa _,rfl,HF0.out⟩
 case round=>
  clear HF0;obtain⟨i,Ks,r,vK,kvs,rfl,hi,hkl,HFK,HFT⟩:=hrel
  by_cases hic:i<c
  ·have bi:(i:Int)<(c:Int):=(by omega);obtain⟨z1,z2,z3⟩:=Zop HFT.out.src.len HFT.out.src.byte;have HNX:Hid (fsK l (i+1)=if(Zd7 (Q3 r)&&ZaV (Q3 r) (rdD r:Nat))=true then some (Ks++[⟨Q3 r,rdD r⟩],rdR r) else none):=(by show _=_;simp only[fsK,HFK.out]);have HNO:Hid (fsK l (i+1)=none->fsK l c=none):=fun hn=>Zpo l hn (by omega);obtain⟨ka,kc,hvK⟩:=HFT.out.kn.form;subst hvK;go_wp2_with fail
   refine(HRK.out _ _ HFT.out.src).mono ?_;rintro e w2 ⟨vb,vw,rfl,hob,hos,hs2,ht2⟩;obtain⟨ab,cb,rfl⟩:=hob.shape;obtain⟨aw,cw,rfl⟩:=hos.shapeW;have HF2:Hid (FtS w w2 db sb (rdR r) (.slice ka Ks.length kc) kvs Ks):=HFT.out.step hs2 ht2;have HOB:Hid (Zc w2 0 (.slice ab (Q3 r).bs.length cb) (Q3 r).bs/\ZF w2 0 (.slice aw (Q3 r).ww.length cw) (Q3 r).ww):=⟨hob.mono (Qg _),hos.mono0⟩;clear hob hos hs2 ht2 HFT;go_upto_region 4 with fail;obtain⟨nb,hnb⟩:∃nb,(Q3 r).bs.length=nb:=⟨_,rfl⟩;obtain⟨nw,hnw⟩:∃nw,(Q3 r).ww.length=nw:=⟨_,rfl⟩;rw[hnb,hnw];rw[hnb,hnw] at HOB;rw[hnb] at z1;rw[hnw] at z2;obtain⟨kb,hkb⟩:∃kb,kb=w2.heap.size:=⟨_,rfl⟩;rw[<- hkb];generalize hW3:w2.alloc (.cells #[.bool (Q3 r).wd,.slice ab nb cb,.slice aw nw cw,.int .i64 (rdD r:Nat)] 172)=w3
   have hb3:Below w2.heap.size w2 w3:=(by rw[<- hW3];exact(Below.refl _ _).alloc (Qa _) _);have HF3:Hid (FtS w w3 db sb (rdR r) (.slice ka Ks.length kc) kvs Ks):=HF2.out.below hb3;have HO3:Hid (Zc w3 0 (.slice ab nb cb) (Q3 r).bs/\ZF w3 0 (.slice aw nw cw) (Q3 r).ww):=⟨HOB.out.1.below hb3,HOB.out.2.below hb3⟩;have HK3:Hid (KbX w3 kb (Q3 r).wd (.slice ab nb cb) (.slice aw nw cw) (rdD r)):=⟨by rw[<- hW3,hkb];exact heap_alloc_new _ _⟩
   have HKN:Hid (¬(Value.slice ka Ks.length kc).ownBlock=some kb):=fun e=>by have:=(World.ownsRow.lt HF2.out.kn.row kb e).2;omega
   have HMB:Hid (∀W,Below w3.heap.size w3 W->Calls Tryz.prog 225 #[.agg #[.bool (Q3 r).wd,.slice ab nb cb,.slice aw nw cw]] W fun x w'=>x=.returned (.bool (Zd7 (Q3 r)))/\Below W.heap.size W w'):=fun W hW=>Zn5 (Q3 r) ab aw nb cb nw cw 0 W (HO3.out.1.below hW) (HO3.out.2.below hW) hnb hnw (by omega) (by omega) z3;have hcnt:(Q3 r).cnt<=1000000:=(by unfold ES.cnt Za6;split<;>omega);have HHB:Hid (∀W,Calls Tryz.prog 226 #[.agg #[.bool (Q3 r).wd,.slice ab nb cb,.slice aw nw cw,.int .i64 (rdD r:Nat)],.int .i64 (rdD r:Nat)] W fun x w'=>x=.returned (.bool (ZaV (Q3 r) (rdD r:Nat)))/\Below W.heap.size W w'):=fun W=>Zd5 (Q3 r) ab aw nb cb nw cw _ _ W hnb hnw hcnt;clear hb3 hW3 hkb HF2 HOB hnb hnw z3 hcnt;have k0:=HK3.out.c0;have k1:=HK3.out.c1;have k2:=HK3.out.c2;have k3:=HK3.out.c3
   generalize hmb:Zd7 (Q3 r)=mb at *;generalize hhb:ZaV (Q3 r) (rdD r:Nat)=hb at *;clear hmb hhb;go_wp2_with fail
   refine(HMB.out _ (Below.refl _ _)).mono ?_;rintro x w4 ⟨rfl,hb4⟩;have HF4:Hid (FtS w w4 db sb (rdR r) (.slice ka Ks.length kc) kvs Ks):=HF3.out.below hb4;have HO4:Hid (Zc w4 0 (.slice ab nb cb) (Q3 r).bs/\ZF w4 0 (.slice aw nw cw) (Q3 r).ww):=⟨HO3.out.1.below hb4,HO3.out.2.below hb4⟩;have HK4:Hid (KbX w4 kb (Q3 r).wd (.slice ab nb cb) (.slice aw nw cw) (rdD r)):=HK3.out.below hb4;clear hb4 HF3 HO3 HK3 HMB k0 k1 k2 k3;have k0:=HK4.out.c0;have k1:=HK4.out.c1;have k2:=HK4.out.c2;have k3:=HK4.out.c3
   cases mb with
   | false=>
    have HE:Hid (fsK l c=none):=HNO.out (by rw[HNX.out];simp);have HT:Hid (Za (fun k=>k=sb∨k=db) w w4):=HF4.out.t;clear HNX HNO HF4 HO4 HK4 HFK;go_wp2;go_ret;show FtE _ _ _ _ (fsK l c) _;rw[HE.out];exact⟨rfl,HT.out⟩
   | true=>
    go_wp2_with fail
    refine(HHB.out _).mono ?_;rintro x w5 ⟨rfl,hb5⟩;have HF5:Hid (FtS w w5 db sb (rdR r) (.slice ka Ks.length kc) kvs Ks):=HF4.out.below hb5;have HO5:Hid (Zc w5 0 (.slice ab nb cb) (Q3 r).bs/\ZF w5 0 (.slice aw nw cw) (Q3 r).ww):=⟨HO4.out.1.below hb5,HO4.out.2.below hb5⟩;have HK5:Hid (KbX w5 kb (Q3 r).wd (.slice ab nb cb) (.slice aw nw cw) (rdD r)):=HK4.out.below hb5;clear hb5 HF4 HO4 HK4 HHB k0 k1 k2 k3
    cases hb with
    | false=>
     have HE:Hid (fsK l c=none):=HNO.out (by rw[HNX.out];simp);have HT:Hid (Za (fun k=>k=sb∨k=db) w w5):=HF5.out.t;clear HNX HNO HF5 HO5 HK5 HFK;go_wp2;go_ret;show FtE _ _ _ _ (fsK l c) _;rw[HE.out];exact⟨rfl,HT.out⟩
    |true=>
    have HE:Hid (fsK l (i+1)=some (Ks++[⟨Q3 r,rdD r⟩],rdR r)):=(by show _=_;rw[HNX.out];rfl);clear HNX HNO HFK;have k0:=HK5.out.c0;have k1:=HK5.out.c1;have k2:=HK5.out.c2;have k3:=HK5.out.c3;have d0:=HF5.out.cell;go_upto_region 6 with fail;refine Zr (fun w'=>w'.cell? ⟨db,0,none⟩=some (.slice ka Ks.length kc)/\w'.cell? ⟨kb,0,none⟩=some (.bool (Q3 r).wd)/\w'.cell? ⟨kb,1,none⟩=some (.slice ab nb cb)/\w'.cell? ⟨kb,2,none⟩=some (.slice aw nw cw)/\w'.cell? ⟨kb,3,none⟩=some (.int .i64 (rdD r:Nat))) 10 (by kernel_rfl) ⟨d0,k0,k1,k2,k3⟩ (fun hHeld=>?_);refine Zo 0 ?_;refine Zo 1 ?_;refine Zo 2 ?_;refine Zo 3 ?_;refine Zo 4 ?_;refine Zo 5 ?_;refine Ze (i:=6) (by kernel_rfl) rfl (fun KK hK=>?_);go_simp
    have HB6:Hid (∀o,FtS w (w5.alloc o) db sb (rdR r) (.slice ka Ks.length kc) kvs Ks/\KbX (w5.alloc o) kb (Q3 r).wd (.slice ab nb cb) (.slice aw nw cw) (rdD r)):=fun o=>⟨HF5.out.below ((Below.refl _ _).alloc (Qa _) _),HK5.out.below ((Below.refl _ _).alloc (Qa _) _)⟩;refine hK.out _ _ ⟨(HB6.out _).1.cell,(HB6.out _).2.c0,(HB6.out _).2.c1,(HB6.out _).2.c2,(HB6.out _).2.c3⟩ (fun hHeld=>?_);clear hK KK;try simp only[Act.put,tA,tB,tC]
    refine Ze (i:=7) (by kernel_rfl) rfl (fun KK hK=>?_);have hrow:=(HB6.out (.cells #[.bool (Q3 r).wd,.slice ab nb cb,.slice aw nw cw,.int .i64 (rdD r:Nat)] 172)).1.kn.row;refine Zw rfl (.tmp 28) (.tmp 30) 164 rfl 0 172 i0 (.agg #[.bool false,.slice none 0 0,.slice none 0 0,.int .i64 0]) 4 64 Tryz.underlying164 hinf hz0 hz1 hz2 rfl (by decide) (.slice ka Ks.length kc) Ks.length (Qv Ks kvs) (by simp[Act.eval]) hrow ⟨w5.heap.size,0,none⟩ 1 1 [.bool (Q3 r).wd,.slice ab nb cb,.slice aw nw cw,.int .i64 (rdD r:Nat)] (by simp[Act.eval]) rfl ?_ ?_ (by decide) (by unfold maxLen;omega) ?_ (Qg _) ?_;exact Zu w5 #[.bool (Q3 r).wd,.slice ab nb cb,.slice aw nw cw,.int .i64 (rdD r:Nat)] 172
    ·intro u hu;simp at hu;rcases hu with rfl|rfl|rfl|rfl<;>rfl
    omega;intro v6 w6 H6;obtain⟨r6,g6,d6,_,q6,p6,hv6⟩:=H6.out;subst hv6;have hF6:=(HB6.out (.cells #[.bool (Q3 r).wd,.slice ab nb cb,.slice aw nw cw,.int .i64 (rdD r:Nat)] 172)).1.below (Below.refl _ _).drew;have hK6:QF w6 (.slice (some ⟨q6,0,none⟩) (Ks.length+1) p6) (kvs++[(.slice ab nb cb,.slice aw nw cw)]) (Ks++[⟨Q3 r,rdD r⟩]):=by refine hF6.kn.more (K:=⟨Q3 r,rdD r⟩) ((Zc.alloc HO5.out.1 _).below (Below.refl _ _).drew) (ZF.below (World.ownsRow.alloc HO5.out.2 _) (Below.refl _ _).drew) g6 ?_;exact r6
    have t6:Za (fun k=>(Value.slice ka Ks.length kc).ownBlock=some k) (w5.alloc (.cells #[.bool (Q3 r).wd,.slice ab nb cb,.slice aw nw cw,.int .i64 (rdD r:Nat)] 172)).drew w6:=(Za.refl _ _).grown g6 (fun k hk _=>hk);have hblk6:w6.heap[db]? =some (.cells #[.slice ka Ks.length kc,.slice none 0 0,.slice none 0 0] 168 (0,0)):=t6.at_ hF6.blk (fun e=>Zp hF6.kn.row e hF6.blk (by decide) rfl);have hsrc6:ZM w6 sb (rdR r):=(by obtain⟨S,s1,s2,s3⟩:=hF6.src.ex;exact⟨S,t6.at_ s1 (fun e=>Zp hF6.kn.row e s1 (by decide) rfl),s2,s3⟩);have hT6:Za (fun k=>k=sb∨k=db) w w6:=hF6.t.grown g6 (fun k hk hkl=>absurd (hF6.nw k hk) (by omega))
    have HFN:Hid (FtS w (w6.setCell ⟨db,0,none⟩ (.slice (some ⟨q6,0,none⟩) (Ks.length+1) p6)) db sb (rdR r) (.slice (some ⟨q6,0,none⟩) (Ks.length+1) p6) (kvs++[(.slice ab nb cb,.slice aw nw cw)]) (Ks++[⟨Q3 r,rdD r⟩])):=by
     have t7:Za (fun k=>k=db) w6 (w6.setCell ⟨db,0,none⟩ (.slice (some ⟨q6,0,none⟩) (Ks.length+1) p6)):=(Za.refl (fun k=>k=db) w6).setCell (p:=⟨db,0,none⟩) (fun _=>rfl) _;obtain⟨S,s1,s2,s3⟩:=hsrc6.ex;refine⟨?_,hK6.touch t7 (fun k cur ty hk hty e=>?_),⟨S,t7.at_ s1 (fun e=>?_),s2,s3⟩,hT6.setCell (p:=⟨db,0,none⟩) (fun _=>.inr rfl) _,fun k hk=>?_⟩;rw[heap_setCell_same _ db 0 _ 168 _ hblk6];rfl
     ·subst e;rw[hblk6] at hk;simp at hk
      rcases hty with e|e|e<;>(rw[<- hk.2] at e;exact absurd e (by decide))
     have h2:=hblk6;rw[<- e,s1] at h2;simp at h2
     rcases d6 with e|e
     rw[e] at hk;exact hF6.nw k hk;rw[e.1] at hk;injection hk with hk;have:=hF6.t.size;omega
    have c6:w6.cell? ⟨db,0,none⟩=some (.slice ka Ks.length kc):=cell_of_row _ _ 0 _ 168 (0,0) hblk6;have f6:w6.frozen? ⟨db,0,none⟩=false:=frozen_of_row _ _ 0 _ 168 hblk6;have hkb6:¬(Value.slice ka Ks.length kc).ownBlock=some kb:=HKN.out;have hKb6:KbX w6 kb (Q3 r).wd (.slice ab nb cb) (.slice aw nw cw) (rdD r):=⟨t6.at_ ((HB6.out _).2.below (Below.refl _ _).drew).blk hkb6⟩;have s0:=hKb6.c0;have s1:=hKb6.c1;have s2:=hKb6.c2;have s3:=hKb6.c3;clear H6 r6 g6 d6 hrow hF6 hK6 t6 hblk6 hsrc6 hT6 hkb6 hKb6 HB6 HF5 HK5 HO5;refine hK.out _ _ ⟨c6,s0,s1,s2,s3⟩ (fun hHeld=>?_);clear hK KK;try simp only[Act.put,tA,tB,tC]
    refine Zo 8 ?_;refine Zo 9 ?_;refine Zl (i:=10) (by kernel_rfl) rfl (by kernel_rfl) (fun KK hK=>?_);go_simp;refine hK.out _ _ ?_;clear hK KK;try simp only[Act.put,tA,tB,tC]
    refine Zn (by kernel_rfl) ?_ _;go_wp2;go_roundw;case rel=>exact⟨i+1,_,_,_,_,by go_num,by omega,by simp;omega,HE,HFN⟩
    case measure=>simp[intOf];omega
  have hni:¬(i:Int)<(c:Int):=(by omega);have hii:i=c:=(by omega);subst hii;go_wp2;go_ret;show FtE _ _ _ _ (fsK l i) _;rw[HFK.out];exact⟨rfl,_,_,HFT.out⟩
end Go.Proofs.YtfcgnpchbcmdeaaGreat
