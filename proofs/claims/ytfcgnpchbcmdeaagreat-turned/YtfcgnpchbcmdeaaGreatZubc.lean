import Derived.Test.YtfcgnpchbcmdeaaGreatZuas
import Derived.Test.YtfcgnpchbcmdeaaGreatZuau
namespace Go.Proofs.YtfcgnpchbcmdeaaGreat
set_option maxRecDepth 100000
set_option maxHeartbeats 4000000
set_option linter.unusedSimpArgs false
open Go.RowKit
def Zb(b:ByteArray):List Int:=b.data.toList.map (fun u=>(u.toNat:Int))
def Zj(n:Nat)(wd:Nat->Bool)(sc:Nat->Int):RS->List Int->Nat->Except (Int×Nat) RS
 |s,[],_=>.ok s
 | s,c::r,k=>match Yy n wd sc s c with
  |.error z=>.error (z,k)
  |.ok s'=>Zj n wd sc s' r (k+1)
theorem Z1(n:Nat)(wd:Nat->Bool)(sc:Nat->Int):∀(a b:List Int) (s:RS) (k:Nat),Zj n wd sc s (a++b) k=match Zj n wd sc s a k with
  |.error z=>.error z
  |.ok s'=>Zj n wd sc s' b (k+a.length)
 |[],b,s,k=>by simp[Zj]
 | c ::a,b,s,k=>by
  simp only[List.cons_append,Zj]
  cases Yy n wd sc s c with
  |error z=>rfl
  | ok s'=>
   have:=Z1 n wd sc a b s' (k+1);simp only;rw[this,show k+1+a.length=k+(c::a).length by simp;omega]
theorem QO.takes{n:Nat}{wd:Nat->Bool}{sc:Nat->Int}(hn:1<=n)(hsc:∀i,i<n->wd i=false->0<=sc i/\sc i<=3):∀(l:List Int) {s s':RS} {k:Nat},QO n s->Zj n wd sc s l k=.ok s'->QO n s'
 |[],s,s',k,h,e=>by injection e with e;subst e;exact h
 | c::l,s,s',k,h,e=>by
  simp only[Zj] at e
  cases ht:Yy n wd sc s c with
  |error z=>rw[ht] at e;cases e
  |ok s1=>rw[ht] at e;exact QO.takes hn hsc l (h.take hn hsc ht) e
theorem Zh1{n:Nat}{wd:Nat->Bool}{sc:Nat->Int}{s:RS}{c z:Int}(h:Yy n wd sc s c=.error z):z=2∨z=3:=by
 unfold Yy at h;split at h;injection h with h;exact .inr h.symm;split at h
 ·split at h;injection h with h;exact .inl h.symm
  ·cases h
  cases h
 split at h
 ·cases h
 split at h
 ·cases h
 injection h with h;exact .inl h.symm
structure InX(w:World)(K M:Nat->Prop)(ib tb rb fb cb n:Nat)(wd:Nat->Bool)(sc ct:Nat->Int)(bins size budget:Int)(s:RS)(len:Nat):Prop where
 ik:w.heap[ib]? =some (.cells #[.pointer (some ⟨tb,0,none⟩),.bool false,.int .i64 0,.int .i64 0] 119 (0,0))
 tx:w.heap[tb]? =some (.cells #[.slice (some ⟨fb,0,none⟩) n n,.int .i64 budget,.pointer (some ⟨rb,0,none⟩),.int .i64 len] 158 (0,0))
 rd:RdM w K M rb fb cb n wd sc ct bins size s
 ni:¬K ib/\¬M ib
 nt:¬K tb/\¬M tb
section
variable {w:World} {K M:Nat->Prop} {ib tb rb fb cb n:Nat} {wd:Nat->Bool} {sc ct:Nat->Int} {bins size budget:Int} {s:RS} {len:Nat}
theorem InX.ne(h:InX w K M ib tb rb fb cb n wd sc ct bins size budget s len):ib≠tb:=fun e=>by have h1:=h.ik;rw[e,h.tx] at h1;simp at h1
def ZiR(w:World)(K M:Nat->Prop)(ib tb rb fb cb n:Nat)(wd:Nat->Bool)(sc ct:Nat->Int)(bins size budget:Int)(len:Nat)(o:Except (Int×Nat) RS)(w':World):Prop:=
 (match o with
 |.error (z,p)=>w'.heap[ib]? =some (.cells #[.pointer none,.bool false,.int .i64 z,.int .i64 p] 119 (0,0))
 |.ok s'=>∃M',InX w' K M' ib tb rb fb cb n wd sc ct bins size budget s' len/\(∀k,M' k->M k∨w.heap.size<=k))/\Za (fun k=>M k∨k=ib∨k=tb) w w'
theorem ZkQ(b:ByteArray)(hX:InX w K M ib tb rb fb cb n wd sc ct bins size budget s len)(hI:QO n s)(hn1:1<=n)(hn:n<=4)(hsc:∀i,i<n->wd i=false->0<=sc i/\sc i<=3)(hlen:len+b.size<=4000000000000000000):Calls Tryz.prog 58 #[.pointer (some ⟨ib,0,none⟩),.string b] w fun e w'=>e=.returned (.tuple #[])/\ZiR w K M ib tb rb fb cb n wd sc ct bins size budget (len+b.size) (Zj n wd sc s (Zb b) len) w':=by
 have HX:Hid (InX w K M ib tb rb fb cb n wd sc ct bins size budget s len):=hX;clear hX;go_enter Tryz.func58,Tryz.ntmps58;go_wp2_with fail
 go_loopw [8] (fun ti wr=>∃(k:Nat) (sk:RS) (Mk:Nat->Prop),k<=b.size/\ti=.int .i64 k/\Hid (Zj n wd sc s ((Zb b).take k) len=.ok sk)/\Hid (InX wr K Mk ib tb rb fb cb n wd sc ct bins size budget sk (len+k))/\Hid ((∀z,Mk z->M z∨w.heap.size<=z)/\Za (fun z=>M z∨z=ib∨z=tb) w wr)) (fun ti _=>b.size-(intOf ti).toNat)
 case atStart=>exact⟨0,s,M,Qg _,rfl,rfl,HX.out,fun _ e=>.inl e,Za.refl _ _⟩
 case round=>
  obtain⟨k,sk,Mk,hk,rfl,HR,HXk,HT⟩:=hrel;have i0:wr.cell? ⟨ib,0,none⟩=some (.pointer (some ⟨tb,0,none⟩)):=cell_of_row _ _ 0 _ 119 (0,0) HXk.out.ik;have i2:wr.cell? ⟨ib,2,none⟩=some (.int .i64 0):=cell_of_row _ _ 2 _ 119 (0,0) HXk.out.ik;have i3:wr.cell? ⟨ib,3,none⟩=some (.int .i64 0):=cell_of_row _ _ 3 _ 119 (0,0) HXk.out.ik;have t2:wr.cell? ⟨tb,2,none⟩=some (.pointer (some ⟨rb,0,none⟩)):=cell_of_row _ _ 2 _ 158 (0,0) HXk.out.tx
  by_cases hlt:k<b.size
  ·have bk1:(0:Int)<=(k:Int):=(by omega);have bk2:(k:Int)<(b.size:Int):=(by omega);go_upto_region 3 with fail;have HC:Hid (Calls Tryz.prog 98 #[.pointer (some ⟨rb,0,none⟩),.int .u8 (b[k].toNat:Int)] wr.drew fun e w'=>ZlQ wr.drew K Mk rb fb cb n wd sc ct bins size (Yy n wd sc sk (b[k].toNat:Int)) e w'):=ZoT (w:=wr.drew) _ (HXk.out.rd.touch (w':=wr.drew) (S:=fun _=>False) (Za.refl _ wr).drew (fun _ _=>id)) (QO.takes hn1 hsc _ hI HR.out) hn hsc (by omega) (by have:=UInt8.toNat_lt b[k];omega);refine Zn (fun w'=>w'.cell? ⟨ib,0,none⟩=some (.pointer (some ⟨tb,0,none⟩))/\w'.cell? ⟨tb,2,none⟩=some (.pointer (some ⟨rb,0,none⟩))) 10 (by kernel_rfl) ⟨i0,t2⟩ (fun hHeld=>?_);refine ZF [1,2,3,4,5,6,10,11] 0 (v:=?_) ?_ ?_
   rotate_left;· intro w hSw;go_simp;try with_reducible rfl
   try simp only[Act.put,sA,sB,sC]
   refine ZF [2,3,4,5,6,10,11] 1 (v:=?_) ?_ ?_
   rotate_left;· intro w hSw;go_simp;try with_reducible rfl
   try simp only[Act.put,sA,sB,sC]
   refine ZF [3,4,5,6,10,11] 2 (v:=?_) ?_ ?_
   rotate_left;· intro w hSw;go_simp;try with_reducible rfl
   try simp only[Act.put,sA,sB,sC]
   refine ZF [4,5,6,10,11] 3 (v:=?_) ?_ ?_
   rotate_left
   ·intro w hSw;try obtain⟨_,_⟩:=hSw
    go_simp;try with_reducible rfl
   try simp only[Act.put,sA,sB,sC]
   refine ZF [5,6,10,11] 4 (v:=?_) ?_ ?_
   rotate_left;· intro w hSw;go_simp;try with_reducible rfl
   try simp only[Act.put,sA,sB,sC]
   refine ZF [6,10,11] 5 (v:=?_) ?_ ?_
   rotate_left;· intro w hSw;go_simp;try with_reducible rfl
   try simp only[Act.put,sA,sB,sC]
   refine ZF [10,11] 6 (v:=?_) ?_ ?_
   rotate_left
   ·intro w hSw;try obtain⟨_,_⟩:=hSw
    go_simp;try with_reducible rfl
   try simp only[Act.put,sA,sB,sC]
   refine ZF [9,10,11] 7 (v:=?_) ?_ ?_
   rotate_left;· intro w hSw;go_simp;try with_reducible rfl
   try simp only[Act.put,sA,sB,sC]
   refine ZF [9,10,11] 8 (v:=?_) ?_ ?_
   rotate_left;· intro w hSw;go_simp;try with_reducible rfl
   try simp only[Act.put,sA,sB,sC]
   refine ZF [10,11] 9 (v:=?_) ?_ ?_
   rotate_left;· intro w hSw;go_simp;try with_reducible rfl
   try simp only[Act.put,sA,sB,sC]
   refine Zi (i:=10) (by kernel_rfl) rfl (by kernel_rfl) (fun KK hK=>?_);go_simp;refine(HC.out).mono ?_;intro e w1 hP;have HP:Hid (ZlQ wr.drew K Mk rb fb cb n wd sc ct bins size (Yy n wd sc sk (b[k].toNat:Int)) e w1):=hP
   have he:∃z:Int,e=.returned (.int .i64 z):=by
    unfold ZlQ at hP
    cases ht:Yy n wd sc sk (b[k].toNat:Int) with
    |error z=>rw[ht] at hP;exact⟨z,hP.1⟩
    |ok s'=>rw[ht] at hP;exact⟨0,hP.1⟩
   obtain⟨z,rfl⟩:=he;clear hP;go_simp;refine hK.out _ _ ?_;clear hK KK;try simp only[Act.put,sA,sB,sC]
   refine Zi (i:=11) (by kernel_rfl) rfl (by kernel_rfl) (fun KK hK=>?_);go_simp;refine hK.out _ _ ?_;clear hK KK;try simp only[Act.put,sA,sB,sC]
   refine Zl (by kernel_rfl) ?_ _;have HKB:Hid ((Zb b).take (k+1)=(Zb b).take k++[(b[k].toNat:Int)]):=(by show _=_;rw[Qi (by unfold Zb;rw[List.length_map];exact hlt)];congr 2;simp only[Zb,List.getElem_map];rfl);have HRS:Hid (Zj n wd sc s ((Zb b).take (k+1)) len=match Yy n wd sc sk (b[k].toNat:Int) with|.error z=>.error (z,len+k)|.ok s'=>.ok s'):=(by show _=_;rw[HKB.out,Z1,HR.out];have hl:((Zb b).take k).length=k:=(by rw[List.length_take];unfold Zb;rw[List.length_map];exact Nat.min_eq_left hk);simp only[hl,Zj]);clear HC hHeld i0 i2 i3 t2;have hne:=HXk.out.ne
   cases hrt:Yy n wd sc sk (b[k].toNat:Int) with
   | error y=>
    rw[hrt] at HP HRS;have HPO:Hid (Value.int .i64 z=.int .i64 y/\Za Mk wr.drew w1):=⟨by have:=HP.out.1;injection this,HP.out.2⟩;obtain⟨hz,ht⟩:=HPO.out;injection hz with _ hz;subst hz;have hT1:Za Mk wr w1:=ht.undrew;have hi1:w1.heap[ib]? =some (.cells #[.pointer (some ⟨tb,0,none⟩),.bool false,.int .i64 0,.int .i64 0] 119 (0,0)):=hT1.at_ HXk.out.ik HXk.out.ni.2;have htx1:w1.heap[tb]? =some (.cells #[.slice (some ⟨fb,0,none⟩) n n,.int .i64 budget,.pointer (some ⟨rb,0,none⟩),.int .i64 ((len+k:Nat):Int)] 158 (0,0)):=hT1.at_ HXk.out.tx HXk.out.nt.2;have j0:w1.cell? ⟨ib,0,none⟩=some (.pointer (some ⟨tb,0,none⟩)):=cell_of_row _ _ 0 _ 119 (0,0) hi1;have j2:w1.cell? ⟨ib,2,none⟩=some (.int .i64 0):=cell_of_row _ _ 2 _ 119 (0,0) hi1
    have j3:w1.cell? ⟨ib,3,none⟩=some (.int .i64 0):=cell_of_row _ _ 3 _ 119 (0,0) hi1;have jf:∀o,w1.frozen? ⟨ib,o,none⟩=false:=fun o=>frozen_of_row _ _ o _ 119 hi1;have x3:w1.cell? ⟨tb,3,none⟩=some (.int .i64 ((len+k:Nat):Int)):=cell_of_row _ _ 3 _ 158 (0,0) htx1;have hfin:(((w1.setCell ⟨ib,2,none⟩ (.int .i64 z)).setCell ⟨ib,3,none⟩ (.int .i64 ((len+k:Nat):Int))).setCell ⟨ib,0,none⟩ (.pointer none)).heap[ib]? =some (.cells #[.pointer none,.bool false,.int .i64 z,.int .i64 ((len+k:Nat):Int)] 119 (0,0)):=heap_setCell_same _ ib 0 _ 119 _ (heap_setCell_same _ ib 3 _ 119 _ (heap_setCell_same w1 ib 2 _ 119 _ hi1))
    have HFIN:Hid (ZiR w K M ib tb rb fb cb n wd sc ct bins size budget (len+b.size) (Zj n wd sc s (Zb b) len) (((w1.setCell ⟨ib,2,none⟩ (.int .i64 z)).setCell ⟨ib,3,none⟩ (.int .i64 ((len+k:Nat):Int))).setCell ⟨ib,0,none⟩ (.pointer none))):=by have e:Zj n wd sc s (Zb b) len=.error (z,len+k):=(by have:Zb b=(Zb b).take (k+1)++(Zb b).drop (k+1):=(List.take_append_drop _ _).symm;rw[this,Z1,HRS.out]);rw[e];refine⟨hfin,?_⟩;have t1:Za (fun q=>M q∨q=ib∨q=tb) w w1:=HT.out.2.trans2 hT1 (fun q hq=>by rcases HT.out.1 q hq with h1|h1;exact .inl (.inl h1);exact .inr h1);exact((t1.setCell (p:=⟨ib,2,none⟩) (fun _=>.inr (.inl rfl)) _).setCell (p:=⟨ib,3,none⟩) (fun _=>.inr (.inl rfl)) _).setCell (p:=⟨ib,0,none⟩) (fun _=>.inr (.inl rfl)) _
    have HZ:Hid (z=2∨z=3):=Zh1 hrt;clear hrt HPO ht hT1 hi1 htx1 hfin HRS HP
    rcases HZ.out with rfl|rfl
    ·go_wp2;exact bodyPost_ret (results_none rfl _ _ _) rfl ⟨rfl,HFIN.out⟩
    go_wp2;exact bodyPost_ret (results_none rfl _ _ _) rfl ⟨rfl,HFIN.out⟩
   | ok s1=>
    rw[hrt] at HP HRS;have HPO:Hid (Value.int .i64 z=.int .i64 0/\ZiV wr.drew K Mk rb fb cb n wd sc ct bins size s1 w1):=⟨by have:=HP.out.1;injection this,HP.out.2⟩;obtain⟨hz,⟨M1,hR1,hM1⟩,ht⟩:=HPO.out;injection hz with _ hz;subst hz;have hT1:Za Mk wr w1:=ht.undrew;have hi1:w1.heap[ib]? =some (.cells #[.pointer (some ⟨tb,0,none⟩),.bool false,.int .i64 0,.int .i64 0] 119 (0,0)):=hT1.at_ HXk.out.ik HXk.out.ni.2;have htx1:w1.heap[tb]? =some (.cells #[.slice (some ⟨fb,0,none⟩) n n,.int .i64 budget,.pointer (some ⟨rb,0,none⟩),.int .i64 ((len+k:Nat):Int)] 158 (0,0)):=hT1.at_ HXk.out.tx HXk.out.nt.2;have j0:w1.cell? ⟨ib,0,none⟩=some (.pointer (some ⟨tb,0,none⟩)):=cell_of_row _ _ 0 _ 119 (0,0) hi1;have x3:w1.cell? ⟨tb,3,none⟩=some (.int .i64 ((len+k:Nat):Int)):=cell_of_row _ _ 3 _ 158 (0,0) htx1
    have xf:∀o,w1.frozen? ⟨tb,o,none⟩=false:=fun o=>frozen_of_row _ _ o _ 158 htx1;have hib:ib<wr.heap.size:=(Qb HXk.out.ik).1;have htb:tb<wr.heap.size:=(Qb HXk.out.tx).1
    have ni1:¬M1 ib:=fun e=>by rcases hM1 ib e with h1|h1;exact HXk.out.ni.2 h1;exact absurd hib (by simpa using h1)
    have nt1:¬M1 tb:=fun e=>by rcases hM1 tb e with h1|h1;exact HXk.out.nt.2 h1;exact absurd htb (by simpa using h1)
    have HNX:Hid (InX (w1.setCell ⟨tb,3,none⟩ (.int .i64 (((len+k:Nat):Int)+1))) K M1 ib tb rb fb cb n wd sc ct bins size budget s1 (len+(k+1))):=by
     refine⟨(Below.heap_setCell _ _ _ _ (fun e=>hne e)).trans hi1,?_,hR1.touch ((Za.refl (fun q=>q=tb) w1).setCell (p:=⟨tb,3,none⟩) (fun _=>rfl) _) ?_,⟨HXk.out.ni.1,ni1⟩,⟨HXk.out.nt.1,nt1⟩⟩;have:=heap_setCell_same w1 tb 3 _ 158 (.int .i64 (((len+k:Nat):Int)+1)) htx1;rw[this];have:(((len+k:Nat):Int)+1)=((len+(k+1):Nat):Int):=(by omega);rw[this];rfl;intro q hq e;subst e
     rcases hq with h1|h1
     exact HXk.out.nt.1 h1;exact nt1 h1
    have HNT:Hid ((∀q,M1 q->M q∨w.heap.size<=q)/\Za (fun q=>M q∨q=ib∨q=tb) w (w1.setCell ⟨tb,3,none⟩ (.int .i64 (((len+k:Nat):Int)+1)))):=by
     refine⟨fun q hq=>?_,?_⟩
     ·rcases hM1 q hq with h1|h1
      exact HT.out.1 q h1;exact .inr (Nat.le_trans HT.out.2.size h1)
     exact(HT.out.2.trans2 hT1 (fun q hq=>by rcases HT.out.1 q hq with h1|h1;exact .inl (.inl h1);exact .inr h1)).setCell (p:=⟨tb,3,none⟩) (fun _=>.inr (.inr rfl)) _
    have hwr:IntKind.i64.wrap (((len+k:Nat):Int)+1)=((len+k:Nat):Int)+1:=Zw (by omega) (by omega);generalize ((len+k:Nat):Int)=lk at *;clear hrt HPO hR1 hM1 ht hT1 hi1 htx1 HP HXk HT ni1 nt1;go_wp2;go_roundw;case rel=>exact⟨k+1,s1,M1,by omega,by go_num,HRS.out,HNX.out,HNT.out⟩
    case measure=>simp[intOf];omega
  obtain rfl:k=b.size:=(by omega);have HE:Hid ((Zb b).take b.size=Zb b):=List.take_of_length_le (by unfold Zb;rw[List.length_map];exact Qa _);go_wp2;go_end0;refine⟨rfl,?_,HT.out.2⟩;rw[<- HE.out,HR.out];exact⟨Mk,HXk.out,HT.out.1⟩
end
def Yj:Except (Int×Nat) RS->Int×Int
  |.error (z,p)=>(z,p)
  |.ok _=>(0,0)
def ZiQ(w:World)(ib:Nat)(cl:Bool)(z p:Int):Prop:=w.heap[ib]? =some (.cells #[.pointer none,.bool cl,.int .i64 z,.int .i64 p] 119 (0,0))
section
variable {w:World} {K M:Nat->Prop} {ib tb rb fb cb n:Nat} {wd:Nat->Bool} {sc ct:Nat->Int} {bins size budget:Int} {s:RS} {len:Nat}
theorem ZiR.drewN{o:Except (Int×Nat) RS}{w':World}(h:ZiR w K M ib tb rb fb cb n wd sc ct bins size budget len o w')(m:Nat):ZiR w K M ib tb rb fb cb n wd sc ct bins size budget len o (w'.drewN m):=by
 obtain⟨h1,h2⟩:=h;refine⟨?_,⟨h2.os,h2.tape,h2.output,h2.size,h2.block⟩⟩
 cases o with
 |error q=>exact h1
 | ok s'=>
  obtain⟨M',hX,hM⟩:=h1;exact⟨M',⟨hX.ik,hX.tx,hX.rd.touch (w':=w'.drewN m) (S:=fun _=>False) ⟨rfl,rfl,rfl,Qa _,fun _ _ _=>rfl⟩ (fun _ _=>id),hX.ni,hX.nt⟩,hM⟩
theorem Zoe(b:ByteArray)(hX:InX w K M ib tb rb fb cb n wd sc ct bins size budget s len)(hI:QO n s)(hn1:1<=n)(hn:n<=4)(hsc:∀i,i<n->wd i=false->0<=sc i/\sc i<=3)(hlen:len+b.size<=4000000000000000000):Calls Tryz.prog 32 #[.pointer (some ⟨ib,0,none⟩),.string b] w fun e w'=>e=.returned (.tuple #[.int .i64 (Yj (Zj n wd sc s (Zb b) len)).1,.int .i64 (Yj (Zj n wd sc s (Zb b) len)).2])/\ZiR w K M ib tb rb fb cb n wd sc ct bins size budget (len+b.size) (Zj n wd sc s (Zb b) len) w':=by
 have HC:Hid (Calls Tryz.prog 58 #[.pointer (some ⟨ib,0,none⟩),.string b] w fun e w'=>e=.returned (.tuple #[])/\ZiR w K M ib tb rb fb cb n wd sc ct bins size budget (len+b.size) (Zj n wd sc s (Zb b) len) w'):=ZkQ b hX hI hn1 hn hsc hlen;have i1:w.cell? ⟨ib,1,none⟩=some (.bool false):=cell_of_row _ _ 1 _ 119 (0,0) hX.ik;have i2:w.cell? ⟨ib,2,none⟩=some (.int .i64 0):=cell_of_row _ _ 2 _ 119 (0,0) hX.ik;clear hX;go_enter Tryz.func32,Tryz.ntmps32;go_wp2_with fail
 refine HC.out.mono ?_;rintro e w1 ⟨rfl,hF⟩;have HF:Hid (ZiR w K M ib tb rb fb cb n wd sc ct bins size budget (len+b.size) (Zj n wd sc s (Zb b) len) w1):=hF
 have hc:w1.cell? ⟨ib,2,none⟩=some (.int .i64 (Yj (Zj n wd sc s (Zb b) len)).1)/\w1.cell? ⟨ib,3,none⟩=some (.int .i64 (Yj (Zj n wd sc s (Zb b) len)).2):=by
  cases hr:Zj n wd sc s (Zb b) len with
  | error q=>
   rw[hr] at hF;exact⟨cell_of_row _ _ 2 _ 119 (0,0) hF.1,cell_of_row _ _ 3 _ 119 (0,0) hF.1⟩
  | ok s'=>
   rw[hr] at hF;obtain⟨⟨M',hX,_⟩,_⟩:=hF;exact⟨cell_of_row _ _ 2 _ 119 (0,0) hX.ik,cell_of_row _ _ 3 _ 119 (0,0) hX.ik⟩
 obtain⟨c2,c3⟩:=hc;clear hF i1 i2 HC;go_wp2_with fail
 go_big_quiet (fail);go_wp2;go_ret2
 exact⟨rfl,HF.out.drewN _⟩
end
theorem ZkI(b:ByteArray)(ib:Nat)(z p:Int)(w:World)(h:ZiQ w ib false z p)(hz:z=2∨z=3):Calls Tryz.prog 32 #[.pointer (some ⟨ib,0,none⟩),.string b] w fun e w'=>e=.returned (.tuple #[.int .i64 z,.int .i64 p])/\∃m,w'=w.drewN m:=by
 have i1:w.cell? ⟨ib,1,none⟩=some (.bool false):=cell_of_row _ _ 1 _ 119 (0,0) h;have i2:w.cell? ⟨ib,2,none⟩=some (.int .i64 z):=cell_of_row _ _ 2 _ 119 (0,0) h;have i3:w.cell? ⟨ib,3,none⟩=some (.int .i64 p):=cell_of_row _ _ 3 _ 119 (0,0) h;clear h
 rcases hz with rfl|rfl
 all_goals go_enter Tryz.func32,Tryz.ntmps32
 all_goals go_wp2_with fail
 all_goals go_big_quiet (fail)
 all_goals go_wp2
 all_goals go_ret2
 all_goals exact⟨rfl,_,rfl⟩
end Go.Proofs.YtfcgnpchbcmdeaaGreat
