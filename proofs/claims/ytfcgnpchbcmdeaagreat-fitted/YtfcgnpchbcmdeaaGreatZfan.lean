import Derived.Test.YtfcgnpchbcmdeaaGreatZfal
import Derived.Test.YtfcgnpchbcmdeaaGreatZfam
import Derived.Deep.CutBlock
import Derived.Laws.AppendOwnNone
namespace Go.Proofs.YtfcgnpchbcmdeaaGreat
set_option linter.unusedSimpArgs false
set_option maxRecDepth 100000
set_option maxHeartbeats 4000000
open Go.RowKit
def atK(L:List Zm)(s k:Nat):Nat:=if k=0 then 1 else Q6 L s k
theorem ZlX{L:List Zm}(g:Zy L){s k r:Nat}{whole rest:Int}(h3:3<=L.length)(hs:2<=s)(hr:0<=rest)(hl:rest<(s:Int)-1)(he:whole*((s:Int)-1)+rest=4*((k+1:Nat):Int)*Zc L)(hn:ZkC L (if 0<rest then whole+1 else whole) (atK L s k) r):r=Q6 L s (k+1):=by
 have key:∀i,Zds L i+Zds L (i+1)<(if 0<rest then whole+1 else whole)↔Zdt L s (k+1) i=true:=fun i=>by rw[Zm0 (by omega) hr hl he];unfold Zdt;rw[decide_eq_true_eq]
 have hpos:1<=atK L s k:=(by unfold atK;split;exact Qa _;exact(QK L s k h3).pos);refine ZhX.unique ⟨Nat.le_trans hpos hn.ge,hn.le,fun i h1 h2=>?_,?_⟩ (QK L s (k+1) h3)
 ·by_cases hi:atK L s k<=i
  exact(key i).1 (hn.yes i hi h2);unfold atK at hi;split at hi;omega;exact ZgR g ((QK L s k h3).yes i h1 (by omega))
 rcases hn.no with e|e
 exact .inl e;right;have:=mt (key r).2 e
 simpa using this
theorem Zpe{L:List Zm}(s k:Nat)(h3:3<=L.length):atK L s k+2<=L.length:=by unfold atK;split;omega;exact(QK L s k h3).le
theorem Zix{L:List Zm}(s:Nat):∀k,(YF L s k).length<=k+1
 |0=>by simp[YF]
 |k+1=>by have:=Zix (L:=L) s k;simp only[YF];split;omega;simp;omega
theorem ZjO{w:World}{b off:Nat}{L:List Zm}(h:QC w b off L):∀j u,(ZO L)[j]? =some u->w.cell? ((⟨b,off,none⟩:Addr).add j)=some u:=by
 intro j u hu;have hj:j<L.length*4:=by rw[<- YM];exact(List.getElem?_eq_some_iff.1 hu).1
 have key:∀(L:List Zm) (i r:Nat),i<L.length->r<4->(ZO L)[i*4+r]? =(YL (L.getD i e0))[r]?:=by
  intro L
  induction L with
  |nil=>intro i r hi;simp at hi
  | cons e L ih=>
   intro i r hi hr
   cases i with
   |zero=>simp only[ZO,Nat.zero_mul,Nat.zero_add,List.getD_cons_zero];rw[List.getElem?_append_left (by simpa [YL] using hr)]
   | succ i=>
    simp only[ZO,List.getD_cons_succ];rw[List.getElem?_append_right (by simp[YL];omega)];have:=ih i r (by simpa using hi) hr;rw[<- this];congr 1;simp[YL];omega
 have hk:=key L (j/4) (j%4) (by omega) (by omega);rw[show j/4*4+j%4=j by omega,hu] at hk;have hadd:(⟨b,off,none⟩:Addr).add j=⟨b,off+j,none⟩:=Go.WideShapes.add_plain b off j;rw[hadd];have hi:j/4<L.length:=(by omega);have hm:j%4<4:=by omega
 rcases(show j%4=0∨j%4=1∨j%4=2∨j%4=3 by omega) with e|e|e|e
 rw[e] at hk;rw[show off+j=off+j/4*4 by omega,h.v _ hi];exact hk.symm;rw[e] at hk;rw[show off+j=off+j/4*4+1 by omega,h.lo _ hi];exact hk.symm;rw[e] at hk;rw[show off+j=off+j/4*4+2 by omega,h.hi _ hi];exact hk.symm;rw[e] at hk;rw[show off+j=off+j/4*4+3 by omega,h.wt _ hi];exact hk.symm
theorem Zgc(L:List Zm):∀u∈ZO L,u.oneCell'=true:=by
 induction L with
 |nil=>simp[ZO]
 | cons e L ih=>
  intro u hu;simp only[ZO,List.mem_append] at hu
  rcases hu with hu|hu
  ·simp[YL] at hu;rcases hu with rfl|rfl|rfl|rfl<;>rfl
  exact ih u hu
theorem Zip(a b c d:Int):∀u∈[Value.int .i64 a,.int .i64 b,.int .i64 c,.int .i64 d],u.oneCell'=true:=by intro u hu;simp at hu;rcases hu with rfl|rfl|rfl|rfl<;>rfl
theorem Zje{whole rest parts k t4:Int}(hp:0<parts)(hr:0<=rest)(hk:k<=parts)(ht:0<=t4)(h:whole*parts+rest=k*t4):whole<=t4:=by have h1:whole*parts<=t4*parts:=(by have:k*t4<=parts*t4:=Int.mul_le_mul_of_nonneg_right hk ht;rw[Int.mul_comm t4];omega);exact Int.le_of_mul_le_mul_right h1 hp
theorem Zh.kept{w w':World}{base:Nat}{v:Value}{L:List Zm}{r:Nat}(h:Zh w base v L)(hg:w.grownBy w' (some r))(hne:v.ownBlock≠some r):Zh w' base v L:=World.ownsRow.kept h hg (.inr hne)
theorem Zh.not_mul{w:World}{base:Nat}{v:Value}{L:List Zm}{b:Nat}{x0 x1 x2 x3:Int}(h:Zh w base v L)(hM:Za6 w b x0 x1 x2 x3):v.ownBlock≠some b:=by
 intro e
 rcases h.2 with⟨rfl,_⟩|⟨g,cap,cur,rfl,_,hg,_⟩
 simp[Value.ownBlock] at e;simp[Value.ownBlock] at e;subst e;rw[hM] at hg;simp at hg
theorem ZkS(a:Option Addr)(L:List Zm)(cap:Nat)(size:Int)(w:World)(h:Yp w a L)(g:Zy L)(hn:a=none->cap=0):Calls Tryz.prog 47 #[.slice a L.length cap,.int .i64 size] w fun e w'=>∃v,e=.returned v/\Zh w' w.heap.size v (Yz L size)/\Below w.heap.size w w':=by
 obtain⟨i0,hinf,hz0,hz1,hz2⟩:=info_parts Zhw;have hl:=h.1;have HE:Hid (Yp w a L):=h;have HG:Hid (Zy L):=g;clear h g;obtain⟨s,hs⟩:∃s:Nat,max size 2=(s:Int):=⟨(max size 2).toNat,by omega⟩;have hs2:2<=s:=by omega
 have HC:Hid (Yz L size=if L.length<=s then L else YF L s (s-2)++[L.getD (L.length-1) e0]):=show _=_ by unfold Yz;rw[hs,Int.toNat_natCast];by_cases hc:L.length<=s;rw[if_pos hc,if_pos (by omega)];rw[if_neg hc,if_neg (by omega)]
 have HS:Hid (max size 2=(s:Int)):=hs;clear hs;go_enter Tryz.func47,Tryz.ntmps47;go_upto_region 1 with fail;go_cut [1] (fun v wx=>v=.int .i64 s/\wx=w)
 case first=>
  have hsz:=HS.out
  by_cases h2:size<2
  ·have e:(s:Int)=2:=(by omega);go_wp2;go_meet
   exact⟨by rw[e],rfl⟩
  have e:(s:Int)=size:=(by omega);go_wp2;go_meet
  exact⟨by rw[e],rfl⟩
 case rest=>
  obtain⟨rfl,hw⟩:=hcut;have hw2:=hw.symm;clear hw;subst hw2
  by_cases hle:L.length<=s
  ·have HC2:Hid (Yz L size=L):=show _=_ by rw[HC.out,if_pos hle]
   have dl:decide ((L.length:Int)<=(s:Int))=true:=decide_eq_true (by omega)
   by_cases h0:L.length=0
   ·have hL:L=[]:=List.eq_nil_of_length_eq_zero h0;subst hL
    cases a with
    | none=>
     have hcap:=hn rfl;subst hcap;clear hn;go_wp2_with (at_builtin;refine wpList_append_own_none rfl (.const (.slice none 0 0)) (.tmp 16) 29 rfl w.heap.size 98 i0 4 Tryz.underlying29 hinf (.slice none 0 0) 0 [] rfl (Zh.nil _ _) rfl ?_)
     go_ret;exact⟨_,rfl,by rw[HC2.out];exact Zh.nil _ _,Below.refl _ _⟩
    | some ad=>
     clear hn;go_wp2_with (at_builtin;refine wpList_append_own _ rfl (.const (.slice none 0 0)) (.tmp 16) 29 rfl w.heap.size 98 i0 (.agg #[.int .i64 0,.int .i64 0,.int .i64 0,.int .i64 0]) 4 32 Tryz.underlying29 hinf hz0 hz1 hz2 rfl (by decide) (.slice none 0 0) 0 [] rfl (Zh.nil _ _) ad 0 cap [] rfl rfl (by simp) (by simp) ?_ ?_ ?_ ?_)
     unfold maxLen;omega;omega;exact Qa _;intro v3 w3 hown3 hgrow _;have hb:Below w.heap.size w w3:=(Below.refl _ _).grown hgrow (Qa _) (fun k hk=>by simp[Value.ownBlock] at hk)
     have hF:Zh w3 w.heap.size v3 []:=by simpa [Zh,ZO] using hown3
     have HF:Hid (Zh w3 w.heap.size v3 []):=hF;clear hown3 hgrow hF;go_wp2;go_ret;exact⟨_,rfl,by rw[HC2.out];exact HF.out,hb⟩
   rcases HE.out with⟨_,h1|⟨b,off,rfl,hA⟩⟩;exact absurd h1 h0;clear hn;go_wp2_with (at_builtin;refine wpList_append_own _ rfl (.const (.slice none 0 0)) (.tmp 16) 29 rfl w.heap.size 98 i0 (.agg #[.int .i64 0,.int .i64 0,.int .i64 0,.int .i64 0]) 4 32 Tryz.underlying29 hinf hz0 hz1 hz2 rfl (by decide) (.slice none 0 0) 0 [] rfl (Zh.nil _ _) ⟨b,off,none⟩ L.length cap (ZO L) rfl (YM L) (ZjO hA) (Zgc L) ?_ ?_ ?_ ?_)
   unfold maxLen;omega;omega;exact Qa _;intro v3 w3 hown3 hgrow _;have hb:Below w.heap.size w w3:=(Below.refl _ _).grown hgrow (Qa _) (fun k hk=>by simp[Value.ownBlock] at hk)
   have hF:Zh w3 w.heap.size v3 L:=by simpa [Zh] using hown3
   have HF:Hid (Zh w3 w.heap.size v3 L):=hF;clear hown3 hgrow hF;go_wp2;go_ret;exact⟨_,rfl,by rw[HC2.out];exact HF.out,hb⟩
  clear hn;have h3:3<=L.length:=(by omega);have hsl:s<=4194304:=by omega
  have HC2:Hid (Yz L size=YF L s (s-2)++[L.getD (L.length-1) e0]):=show _=_ by rw[HC.out,if_neg hle]
  have dl:decide ((L.length:Int)<=(s:Int))=false:=decide_eq_false (by omega);rcases HE.out with⟨_,h0|⟨b,off,rfl,hA⟩⟩;omega;have hbb:=hA.lt (by omega);have hmk:∀W:World,(Instr.makeSlice 29 (.int .i64 0) (.int .i64 (s:Int))).run Tryz.prog W=.ok (.slice (some ⟨W.heap.size,0,none⟩) 0 s) (W.alloc (.cells (madeCells #[.int .i64 0,.int .i64 0,.int .i64 0,.int .i64 0] (s*4)) 98)):=by intro W;have:=run_make (P:=Tryz.prog) W 29 98 i0 _ Tryz.underlying29 hinf hz0 .i64 .i64 0 (s:Int) (by omega) (by omega) (by rw[hz2];omega) (by omega);rw[hz1] at this;rw[this,Int.toNat_natCast];rfl
  obtain⟨a0,a1,a2,a3⟩:w.cell? ⟨b,off,none⟩=some (.int .i64 (L.getD 0 e0).v)/\w.cell? ⟨b,off+1,none⟩=some (.int .i64 (L.getD 0 e0).lo)/\w.cell? ⟨b,off+2,none⟩=some (.int .i64 (L.getD 0 e0).hi)/\w.cell? ⟨b,off+3,none⟩=some (.int .i64 (L.getD 0 e0).wt):=by have h0:=hA.v 0 (by omega);have h1:=hA.lo 0 (by omega);have h2:=hA.hi 0 (by omega);have h3:=hA.wt 0 (by omega);simp only[Nat.zero_mul,Nat.add_zero] at h0 h1 h2 h3;exact⟨h0,h1,h2,h3⟩
  have HK0:Hid (YF L s 0=[L.getD 0 e0]):=show _=_ from rfl
  clear hA;generalize L.getD 0 e0=x at *;have b1:(0:Int)<(L.length:Int):=(by omega);have b2:0<L.length:=(by omega);have HMA:Hid (Zh (((w.alloc (.cells (madeCells #[.int .i64 0,.int .i64 0,.int .i64 0,.int .i64 0] (s*4)) 98)).alloc (.cells #[.int .i64 x.v,.int .i64 x.lo,.int .i64 x.hi,.int .i64 x.wt] 98)).drew) w.heap.size (.slice (some ⟨w.heap.size,0,none⟩) 0 s) []):=((World.ownsRow_made w _ s (Qa _) (by unfold maxLen;omega) (size_madeCells _ _):Zh _ _ _ []).alloc _)
  have HMB:Hid (Zh (((w.alloc (.cells #[.int .i64 x.v,.int .i64 x.lo,.int .i64 x.hi,.int .i64 x.wt] 98)).alloc (.cells (madeCells #[.int .i64 0,.int .i64 0,.int .i64 0,.int .i64 0] (s*4)) 98)).drew) w.heap.size (.slice (some ⟨w.heap.size+1,0,none⟩) 0 s) []):=by have:=World.ownsRow_made (base:=w.heap.size) (size:=4) (e:=98) (w.alloc (.cells #[.int .i64 x.v,.int .i64 x.lo,.int .i64 x.hi,.int .i64 x.wt] 98)) (madeCells #[.int .i64 0,.int .i64 0,.int .i64 0,.int .i64 0] (s*4)) s (by simp) (by unfold maxLen;omega) (size_madeCells _ _);rw[show(w.alloc (.cells #[.int .i64 x.v,.int .i64 x.lo,.int .i64 x.hi,.int .i64 x.wt] 98)).heap.size=w.heap.size+1 by simp] at this;exact this
  have HNA:Hid (∀j u,([.int .i64 x.v,.int .i64 x.lo,.int .i64 x.hi,.int .i64 x.wt]:List Value)[j]? =some u->(((w.alloc (.cells (madeCells #[.int .i64 0,.int .i64 0,.int .i64 0,.int .i64 0] (s*4)) 98)).alloc (.cells #[.int .i64 x.v,.int .i64 x.lo,.int .i64 x.hi,.int .i64 x.wt] 98)).drew).cell? ((⟨w.heap.size+1,0,none⟩:Addr).add j)=some u):=by have:=Zu (w.alloc (.cells (madeCells #[.int .i64 0,.int .i64 0,.int .i64 0,.int .i64 0] (s*4)) 98)) #[.int .i64 x.v,.int .i64 x.lo,.int .i64 x.hi,.int .i64 x.wt] 98;rw[show(w.alloc (.cells (madeCells #[.int .i64 0,.int .i64 0,.int .i64 0,.int .i64 0] (s*4)) 98)).heap.size=w.heap.size+1 by simp] at this;exact this
  have HNB:Hid (∀j u,([.int .i64 x.v,.int .i64 x.lo,.int .i64 x.hi,.int .i64 x.wt]:List Value)[j]? =some u->(((w.alloc (.cells #[.int .i64 x.v,.int .i64 x.lo,.int .i64 x.hi,.int .i64 x.wt] 98)).alloc (.cells (madeCells #[.int .i64 0,.int .i64 0,.int .i64 0,.int .i64 0] (s*4)) 98)).drew).cell? ((⟨w.heap.size,0,none⟩:Addr).add j)=some u):=fun j u hu=>by have h1:=Zu w #[.int .i64 x.v,.int .i64 x.lo,.int .i64 x.hi,.int .i64 x.wt] 98 j u hu;have hlt:=World.block_lt_of_cell? _ _ h1;have h2:=World.cell?_alloc_lt (w.alloc (.cells #[.int .i64 x.v,.int .i64 x.lo,.int .i64 x.hi,.int .i64 x.wt] 98)) (.cells (madeCells #[.int .i64 0,.int .i64 0,.int .i64 0,.int .i64 0] (s*4)) 98) ((⟨w.heap.size,0,none⟩:Addr).add j) hlt;exact h2.trans h1
  have HBA:Hid (Below w.heap.size w (((w.alloc (.cells (madeCells #[.int .i64 0,.int .i64 0,.int .i64 0,.int .i64 0] (s*4)) 98)).alloc (.cells #[.int .i64 x.v,.int .i64 x.lo,.int .i64 x.hi,.int .i64 x.wt] 98)).drew)):=(((Below.refl _ _).alloc (Qa _) _).alloc (by simp) _).drew;have HBB:Hid (Below w.heap.size w (((w.alloc (.cells #[.int .i64 x.v,.int .i64 x.lo,.int .i64 x.hi,.int .i64 x.wt] 98)).alloc (.cells (madeCells #[.int .i64 0,.int .i64 0,.int .i64 0,.int .i64 0] (s*4)) 98)).drew)):=(((Below.refl _ _).alloc (Qa _) _).alloc (by simp) _).drew;go_upto_region 5 with fail;go_cut [6] (fun v wx=>Hid (Zh wx w.heap.size v [x])/\Below w.heap.size w wx)
  case first=>
   go_region_law (first|(refine Zam rfl (.tmp 22) (.tmp 26) 29 rfl w.heap.size 98 i0 (.agg #[.int .i64 0,.int .i64 0,.int .i64 0,.int .i64 0]) 4 32 Tryz.underlying29 hinf hz0 hz1 hz2 rfl (by decide) (.slice (some ⟨w.heap.size,0,none⟩) 0 s) 0 [] rfl HMA.out ⟨w.heap.size+1,0,none⟩ 1 1 [.int .i64 x.v,.int .i64 x.lo,.int .i64 x.hi,.int .i64 x.wt] rfl rfl HNA.out (by intro u hu;simp at hu;rcases hu with rfl|rfl|rfl|rfl<;>rfl) (by unfold maxLen;omega) (by omega) (by simp<;>omega) ?_;intro v3 w3 hown3 hgrow;have hb3:Below w.heap.size w w3:=HBA.out.grown hgrow (by simp<;>omega) (fun k hk=>by simp[Value.ownBlock] at hk;omega);clear hgrow)|(refine Zam rfl (.tmp 22) (.tmp 26) 29 rfl w.heap.size 98 i0 (.agg #[.int .i64 0,.int .i64 0,.int .i64 0,.int .i64 0]) 4 32 Tryz.underlying29 hinf hz0 hz1 hz2 rfl (by decide) (.slice (some ⟨w.heap.size+1,0,none⟩) 0 s) 0 [] rfl HMB.out ⟨w.heap.size,0,none⟩ 1 1 [.int .i64 x.v,.int .i64 x.lo,.int .i64 x.hi,.int .i64 x.wt] rfl rfl HNB.out (by intro u hu;simp at hu;rcases hu with rfl|rfl|rfl|rfl<;>rfl) (by unfold maxLen;omega) (by omega) (by simp<;>omega) ?_;intro v3 w3 hown3 hgrow;have hb3:Below w.heap.size w w3:=HBB.out.grown hgrow (by simp<;>omega) (fun k hk=>by simp[Value.ownBlock] at hk;omega);clear hgrow))
   all_goals go_wp2
   all_goals go_meet
   all_goals exact⟨by simpa [Zh,ZO,YL,Hid] using hown3,hb3⟩
  case rest=>
   clear HMA HMB HNA HNB HBA HBB hmk a0 a1 a2 a3;obtain⟨HO,hbc⟩:=hcut;have htp:=Yv HG.out;obtain⟨t1,t2⟩:=htp;have hfo:=hbc.size;have HBW:Hid (w.heap.size<=wc.heap.size):=hbc.size;go_wp2_with fail
   refine(Zjb _ L cap _ (HE.out.below hbc)).mono ?_;rintro e w' ⟨rfl,rfl⟩
   have HTOT:Hid (∀k:Nat,4*(k:Int)*Zc L=(k:Int)*(4*Zc L)):=fun k=>by rw[<- Int.mul_assoc,Int.mul_comm (k:Int) 4]
   generalize htt:Zc L=t at *;have HT:Hid (Zc L=t):=htt;clear htt;go_wp2_with fail
   go_loopw [6,8,9,36] (fun o ta tt tk wr=>∃(k:Nat) (whole rest:Int),k<=s-2/\ta=.int .i64 (atK L s k:Nat)/\tt=.int .i64 (Za2 L s k:Nat)/\tk=.int .i64 k/\Hid (Zh wr w.heap.size o (YF L s k)/\Za6 wr w'.heap.size (4*t) ((s:Int)-1) whole rest/\whole*((s:Int)-1)+rest=(k:Int)*(4*t)/\0<=rest/\rest<(s:Int)-1/\0<=whole)/\Below w.heap.size w wr) (fun _ _ _ tk _=>s-(intOf tk).toNat)
   case atStart=>
    refine⟨0,0,0,Qg _,rfl,rfl,rfl,⟨?_,?_,by simp,by omega,by omega,by omega⟩,hbc.alloc hbc.size _⟩;rw[HK0.out];exact HO.out.alloc _;exact heap_alloc_new w' _
   case round=>
    clear HO hbc hfo;obtain⟨k,whole,rest,hk,rfl,rfl,rfl,HR,hbel⟩:=hrel;obtain⟨hown,hM,heq,hr1,hr2,hw1⟩:=HR.out;have hw2:whole<=4*t:=Zje (by omega) hr1 (by omega) (by omega) heq;have HO:Hid (Zh wr w.heap.size u6 (YF L s k)):=hown;have HM:Hid (Za6 wr w'.heap.size (4*t) ((s:Int)-1) whole rest):=hM;have HQ:Hid (whole*((s:Int)-1)+rest=(k:Int)*(4*t)):=heq;have hsz:=hbel.size;have HA:Hid (atK L s k+2<=L.length):=Zpe s k h3;have hkl:=Zix (L:=L) s k;clear HR hown hM heq
    by_cases hks:k<s-2
    ·have hlt:(k:Int)<(s:Int)-2:=(by omega);go_wp2_with fail
     refine(Znd w'.heap.size (4*t) ((s:Int)-1) whole rest wr HM.out (by omega) (by omega) (by omega) (by omega)).mono ?_;rintro e w1 ⟨rfl,wh,re,hM1,hq1,q1,q2,q3,q4,hg1⟩;have hne:=HO.out.not_mul HM.out;have HO1:Hid (Zh w1 w.heap.size u6 (YF L s k)):=HO.out.kept hg1 hne;have HM1:Hid (Za6 w1 w'.heap.size (4*t) ((s:Int)-1) wh re):=hM1;have hbw:w.heap.size<=w'.heap.size:=HBW.out;have hb1:Below w.heap.size w w1:=hbel.grown hg1 hsz (fun q hq=>by simp at hq;omega);have hq2:wh*((s:Int)-1)+re=((k+1:Nat):Int)*(4*t):=(by rw[hq1,HQ.out];rw[show((k+1:Nat):Int)=(k:Int)+1 by omega,Int.add_mul,Int.one_mul]);have hwh:wh<=4*t:=Zje (by omega) q1 (by omega) (by omega) hq2;have HQ2:Hid (wh*((s:Int)-1)+re=((k+1:Nat):Int)*(4*t)):=hq2
     have HE1:Hid (Yp w1 (some ⟨b,off,none⟩) L):=HE.out.below hb1;have HMono:Hid (w'.heap.size<w1.heap.size):=hM1.lt;clear hM1 hq1 hq2 hg1 hne;go_wp2_with fail
     refine(Zgk w'.heap.size (4*t) ((s:Int)-1) wh re w1 HM1.out (by omega)).mono ?_;rintro e w2 ⟨rfl,rfl⟩;generalize hgoal:(if 0<re then wh+1 else wh)=goal;have HGO:Hid ((if 0<re then wh+1 else wh)=goal):=hgoal;clear hgoal;generalize hat:atK L s k=at0 at *;have HAT:Hid (atK L s k=at0):=hat;clear hat;go_wp2_with fail
     refine(ZiM _ L cap at0 goal _ HE1.out HG.out HA.out).mono ?_;rintro e w3 ⟨r,rfl,hN,hb3⟩;have hrb:r=Q6 L s (k+1):=ZlX HG.out h3 hs2 q1 q2 (by rw[HT.out,HQ2.out,<- Int.mul_assoc,Int.mul_comm 4 ((k+1:Nat):Int),Int.mul_assoc]) (by rw[HAT.out,HGO.out];exact hN);have HRB:Hid (r=Q6 L s (k+1)):=hrb;have hrl:=hN.le;have HO3:Hid (Zh w3 w.heap.size u6 (YF L s k)):=HO1.out.below hb3
     have HM3:Hid (Za6 w3 w'.heap.size (4*t) ((s:Int)-1) wh re):=show _=_ from(hb3.block _ HM1.out.lt).trans HM1.out
     have hb4:Below w.heap.size w w3:=hb1.trans (hb3.mono hb1.size);have hs4:=hb4.size;have HE3:Hid (Yp w3 (some ⟨b,off,none⟩) L):=HE.out.below hb4;clear hrb hN hb3 HE1 HO1 HM1;generalize hprev:Za2 L s k=prev at *;have HPR:Hid (Za2 L s k=prev):=hprev;clear hprev
     have HA2:Hid (atK L s (k+1)=r):=show _=_ by rw[HRB.out];simp[atK]
     have HP2:Hid (Za2 L s (k+1)=r):=show _=_ by rw[HRB.out];simp[Za2]
     have hr0:(0:Int)<=(r:Int):=(by omega);have hr3:(r:Int)<(L.length:Int):=by omega
     by_cases hrp:r=prev
     ·have HK2:Hid (YF L s (k+1)=YF L s k):=show _=_ by simp only[YF];rw[if_pos (by rw[<- HRB.out,HPR.out];exact hrp)]
      have hbq:((r:Int) !=(prev:Int))=false:=(by rw[bne_eq_false_iff_eq];omega);have HRP:Hid (r=prev):=hrp;clear hrp;go_wp2;go_roundw;case rel=>exact⟨k+1,wh,re,by omega,by rw[HA2.out],by rw[HP2.out,HRP.out],by go_num,⟨by rw[HK2.out];exact HO3.out,HM3.out,HQ2.out,q1,q2,q3⟩,hb4⟩
      case measure=>simp[intOf];omega
     have HK2:Hid (YF L s (k+1)=YF L s k++[L.getD r e0]):=show _=_ by simp only[YF];rw[if_neg (by rw[<- HRB.out,HPR.out];exact hrp),<- HRB.out]
     have hbq:((r:Int) !=(prev:Int))=true:=(by rw[bne_iff_ne];omega);rcases HE3.out with⟨_,h0|⟨b',off',heb,hA⟩⟩;omega;simp only[Option.some.injEq,Addr.mk.injEq,and_true] at heb;obtain⟨rfl,rfl⟩:=heb;obtain⟨c0,c1,c2,c3⟩:w3.cell? ⟨b,off+r*4,none⟩=some (.int .i64 (L.getD r e0).v)/\w3.cell? ⟨b,off+r*4+1,none⟩=some (.int .i64 (L.getD r e0).lo)/\w3.cell? ⟨b,off+r*4+2,none⟩=some (.int .i64 (L.getD r e0).hi)/\w3.cell? ⟨b,off+r*4+3,none⟩=some (.int .i64 (L.getD r e0).wt):=⟨hA.v r (by omega),hA.lo r (by omega),hA.hi r (by omega),hA.wt r (by omega)⟩;clear hA;generalize L.getD r e0=y at *;generalize hkk:YF L s k=kk at *;have HKK:Hid (YF L s k=kk):=hkk;clear hkk
     go_wp2_with (at_builtin;refine wpList_append_own _ rfl (.tmp 46) (.tmp 51) 29 rfl w.heap.size 98 i0 (.agg #[.int .i64 0,.int .i64 0,.int .i64 0,.int .i64 0]) 4 32 Tryz.underlying29 hinf hz0 hz1 hz2 rfl (by decide) _ kk.length (ZO kk) rfl (HO3.out.alloc _) ⟨w3.heap.size,0,none⟩ 1 1 [.int .i64 y.v,.int .i64 y.lo,.int .i64 y.hi,.int .i64 y.wt] rfl rfl ?_ ?_ ?_ ?_ ?_ ?_)
     exact Zu w3 #[.int .i64 y.v,.int .i64 y.lo,.int .i64 y.hi,.int .i64 y.wt] 98
     ·intro u hu;simp at hu;rcases hu with rfl|rfl|rfl|rfl<;>rfl
     unfold maxLen;omega;omega;simp;omega;intro v5 w5 hown5 hg5 _;have hb5:Below w.heap.size w w5:=(hb4.alloc hs4 _).grown hg5 (by simp;omega) (fun q hq=>(HO3.out.lt q hq).1);have HF:Hid (Zh w5 w.heap.size v5 (kk++[y])):=Zh.more hown5
     have HM5:Hid (Za6 w5 w'.heap.size (4*t) ((s:Int)-1) wh re):=show _=_ by have hlt3:=HM3.out.lt;have hx:=HO3.out.not_mul HM3.out;rw[hg5.block _ (by simp;omega) (fun e=>hx e.symm),Below.heap_alloc w3 _ _ hlt3];exact HM3.out
     clear hown5 hg5 c0 c1 c2 c3;go_wp2;go_roundw;case rel=>exact⟨k+1,wh,re,by omega,by rw[HA2.out],by rw[HP2.out],by go_num,⟨by rw[HK2.out];exact HF.out,HM5.out,HQ2.out,q1,q2,q3⟩,hb5⟩
     case measure=>simp[intOf];omega
    have hks2:s-2=k:=(by omega);have hnk:¬(k:Int)<(s:Int)-2:=by omega
    have HC3:Hid (Yz L size=YF L s k++[L.getD (L.length-1) e0]):=show _=_ by rw[HC2.out,hks2]
    rcases(HE.out.below hbel) with⟨_,h0|⟨b',off',heb,hA⟩⟩;omega;simp only[Option.some.injEq,Addr.mk.injEq,and_true] at heb;obtain⟨rfl,rfl⟩:=heb;obtain⟨c0,c1,c2,c3⟩:wr.cell? ⟨b,off+(L.length-1)*4,none⟩=some (.int .i64 (L.getD (L.length-1) e0).v)/\wr.cell? ⟨b,off+(L.length-1)*4+1,none⟩=some (.int .i64 (L.getD (L.length-1) e0).lo)/\wr.cell? ⟨b,off+(L.length-1)*4+2,none⟩=some (.int .i64 (L.getD (L.length-1) e0).hi)/\wr.cell? ⟨b,off+(L.length-1)*4+3,none⟩=some (.int .i64 (L.getD (L.length-1) e0).wt):=⟨hA.v _ (by omega),hA.lo _ (by omega),hA.hi _ (by omega),hA.wt _ (by omega)⟩;clear hA;generalize L.getD (L.length-1) e0=y at *;generalize hkk:YF L s k=kk at *;clear hkk hks hks2;obtain⟨m,hm⟩:∃m,L.length=m+1:=⟨L.length-1,by omega⟩;have hm1:L.length-1=m:=by omega
    rw[hm1] at c0 c1 c2 c3;have hmi:(L.length:Int)-1=(m:Int):=(by omega);go_wp2_with (at_builtin;refine wpList_append_own _ rfl (.tmp 55) (.tmp 60) 29 rfl w.heap.size 98 i0 (.agg #[.int .i64 0,.int .i64 0,.int .i64 0,.int .i64 0]) 4 32 Tryz.underlying29 hinf hz0 hz1 hz2 rfl (by decide) _ kk.length (ZO kk) rfl (HO.out.alloc _) ⟨wr.heap.size,0,none⟩ 1 1 [.int .i64 y.v,.int .i64 y.lo,.int .i64 y.hi,.int .i64 y.wt] rfl rfl (Zu wr #[.int .i64 y.v,.int .i64 y.lo,.int .i64 y.hi,.int .i64 y.wt] 98) (Zip y.v y.lo y.hi y.wt) (by unfold maxLen;omega) (by omega) (by simp;omega) ?_)
    intro v5 w5 hown5 hg5 _;have hb5:Below w.heap.size w w5:=(hbel.alloc hsz _).grown hg5 (by simp;omega) (fun q hq=>(HO.out.lt q hq).1);have HF:Hid (Zh w5 w.heap.size v5 (kk++[y])):=Zh.more hown5;clear hown5 hg5 c0 c1 c2 c3;go_wp2;go_ret;exact⟨_,rfl,by rw[HC3.out];exact HF.out,hb5⟩
def YQ(p:Int×Int):Zm:=⟨p.1,0,0,p.2⟩
theorem ZeI{A B:List Zm}{x:Zm}{k c:Nat}(hk:A.length=k)(hc:c<4)(u:Value):(ZO (A++x::B)).set (k*4+c) u=ZO A++((YL x).set c u++ZO B):=by rw[Yg];have hl:(ZO A).length=k*4:=(by rw[YM,hk]);rw[List.set_append_right _ _ (by omega),show k*4+c-(ZO A).length=c by omega];congr 1;simp only[ZO];rw[List.set_append_left _ _ (by simpa [YL] using hc)]
theorem ZgC{A B:List Zm}{x:Zm}{k:Nat}(hk:A.length=k)(y:Int):(ZO (A++x::B)).set (k*4+1) (.int .i64 y)=ZO (A++⟨x.v,y,x.hi,x.wt⟩::B):=by rw[ZeI hk (by omega),Yg];rfl
theorem ZgD{A B:List Zm}{x:Zm}{k:Nat}(hk:A.length=k)(y:Int):(ZO (A++x::B)).set (k*4+2) (.int .i64 y)=ZO (A++⟨x.v,x.lo,y,x.wt⟩::B):=by rw[ZeI hk (by omega),Yg];rfl
theorem ZgE{A B:List Zm}{x:Zm}{k:Nat}(hk:A.length=k)(y:Int):(ZO (A++x::B)).set (k*4+3) (.int .i64 y)=ZO (A++⟨x.v,x.lo,x.hi,y⟩::B):=by rw[ZeI hk (by omega),Yg];rfl
theorem Zh.at{w:World}{base g cap:Nat}{A B:List Zm}{x:Zm}{k n:Nat}(h:Zh w base (.slice (some ⟨g,0,none⟩) n cap) (A++x::B))(hn:n=(A++x::B).length)(hk:A.length=k):w.cell? ⟨g,k*4,none⟩=some (.int .i64 x.v)/\w.cell? ⟨g,k*4+1,none⟩=some (.int .i64 x.lo)/\w.cell? ⟨g,k*4+2,none⟩=some (.int .i64 x.hi)/\w.cell? ⟨g,k*4+3,none⟩=some (.int .i64 x.wt)/\∀o,w.frozen? ⟨g,o,none⟩=false:=by
 subst hn
 have key:∀c,c<4->w.cell? ⟨g,k*4+c,none⟩=(YL x)[c]?:=fun c hc=>by rw[World.ownsRow.cellAt h (k*4+c) (by simp;omega),Yg];have hl:(ZO A).length=k*4:=(by rw[YM,hk]);rw[List.getElem?_append_right (by omega),show k*4+c-(ZO A).length=c by omega];simp only[ZO];rw[List.getElem?_append_left (by simpa [YL] using hc)]
 exact⟨key 0 (by omega),key 1 (by omega),key 2 (by omega),key 3 (by omega),fun o=>World.ownsRow.frozenAt h o⟩
theorem Zh.store{w:World}{base g cap n j:Nat}{L L':List Zm}{u:Value}(h:Zh w base (.slice (some ⟨g,0,none⟩) n cap) L)(hn:n=L.length)(hl:L'.length=L.length)(he:(ZO L).set j u=ZO L'):Zh (w.setCell ⟨g,j,none⟩ u) base (.slice (some ⟨g,0,none⟩) n cap) L':=by subst hn;have:=(World.ownsRow.stored h j u).1;unfold Zh;rw[hl,<- he];exact this
theorem ZdG{M:List (Int×Int)}(hp:∀p∈M,0<=p.2)(k:Nat):0<=ZY (M.take k)/\ZY (M.take k)<=ZY M:=by
 have h1:∀N:List (Int×Int),(∀p∈N,0<=p.2)->0<=ZY N:=by
  intro N hN
  induction N with
  |nil=>simp[ZY]
  |cons p r ih=>simp only[ZY];have:=hN p (by simp);have:=ih (fun x hx=>hN x (by simp[hx]));omega
 have h2:=Zel (M.take k) (M.drop k);rw[List.take_append_drop] at h2;have h3:=h1 (M.take k) (fun p hp'=>hp p (List.mem_of_mem_take hp'));have h4:=h1 (M.drop k) (fun p hp'=>hp p (List.mem_of_mem_drop hp'));omega
def Zce(M:List (Int×Int))(k:Nat):List Zm:=ZN 0 (M.take k)++(M.drop k).map YQ
theorem Zl7(M:List (Int×Int))(k:Nat):(Zce M k).length=M.length:=by simp[Zce,ZgV];omega
theorem Znl(g cap:Nat)(M:List (Int×Int))(base:Nat)(w:World)(h:Zh w base (.slice (some ⟨g,0,none⟩) M.length cap) (M.map YQ))(hp:∀p∈M,0<=p.2)(hs:ZY M<=1000000000000)(hl:M.length<=4194304):Calls Tryz.prog 84 #[.slice (some ⟨g,0,none⟩) M.length cap] w fun e w'=>e=.returned (.tuple #[])/\Zh w' base (.slice (some ⟨g,0,none⟩) M.length cap) (ZN 0 M)/\w.grownBy w' (some g):=by
 have HO:Hid (Zh w base (.slice (some ⟨g,0,none⟩) M.length cap) (M.map YQ)):=h;have HP:Hid (∀p∈M,0<=p.2):=hp;clear h hp;go_enter Tryz.func84,Tryz.ntmps84;go_wp2_with fail
 go_loopw [2,7] (fun tt ti wr=>∃k:Nat,k<=M.length/\ti=.int .i64 k/\tt=.int .i64 (ZY (M.take k))/\Hid (Zh wr base (.slice (some ⟨g,0,none⟩) M.length cap) (Zce M k)/\w.grownBy wr (some g))) (fun _ ti _=>M.length-(intOf ti).toNat)
 case atStart=>exact⟨0,Qg _,rfl,rfl,by simpa [Zce,ZN] using HO.out,Zq _ _⟩
 case round=>
  obtain⟨k,hk,rfl,rfl,HR⟩:=hrel;obtain⟨hown,hgr⟩:=HR.out;have HG:Hid (w.grownBy wr (some g)):=hgr
  by_cases hkl:k<M.length
  ·have hsp:M.drop k=M[k]::M.drop (k+1):=List.drop_eq_getElem_cons hkl;have hcat:Zce M k=ZN 0 (M.take k)++YQ M[k]::(M.drop (k+1)).map YQ:=(by unfold Zce;rw[hsp];rfl);have hlenA:(ZN 0 (M.take k)).length=k:=(by rw[ZgV];simp;omega);have hlenR:=Zl7 M k;rw[hcat] at hown hlenR;obtain⟨c0,c1,c2,c3,cf⟩:=hown.at (by rw[hlenR]) hlenA;have ht:=ZdG HP.out k;have ht2:=ZdG HP.out (k+1);have hts:ZY (M.take (k+1))=ZY (M.take k)+M[k].2:=by rw[Qi hkl,Zel];simp[ZY]
   have HN:Hid (Zh ((wr.setCell ⟨g,k*4+1,none⟩ (.int .i64 (ZY (M.take k)))).setCell ⟨g,k*4+2,none⟩ (.int .i64 (ZY (M.take k)+M[k].2))) base (.slice (some ⟨g,0,none⟩) M.length cap) (Zce M (k+1))):=by have s1:=hown.store (by rw[hlenR]) (by simp) (ZgC hlenA (ZY (M.take k)));have s2:=s1.store (by rw[<- hlenR];simp) (by simp) (ZgD hlenA (ZY (M.take k)+M[k].2));have e:Zce M (k+1)=ZN 0 (M.take k)++(⟨M[k].1,ZY (M.take k),ZY (M.take k)+M[k].2,M[k].2⟩:Zm)::(M.drop (k+1)).map YQ:=(by unfold Zce;rw[Qi hkl,ZhI];simp[ZN]);rw[e];exact s2
   have HTS:Hid (ZY (M.take (k+1))=ZY (M.take k)+M[k].2):=hts;have hw0:=HP.out M[k] (Qf hkl);simp only[YQ] at c0 c1 c2 c3;rw[hts] at ht2;clear hsp hcat hown hts hgr HR;generalize ZY (M.take k)=tot at *;generalize M[k].2=wt at *;generalize M[k].1=vv at *;have bk1:(0:Int)<=(k:Int):=(by omega);have bk2:(k:Int)<(M.length:Int):=(by omega);go_wp2;go_roundw;case rel=>exact⟨k+1,by omega,by go_num,by rw[HTS.out],HN.out,ZB (ZB HG.out _ _) _ _⟩
   case measure=>simp[intOf];omega
  have hke:M.length=k:=(by omega);have HF:Hid (Zh wr base (.slice (some ⟨g,0,none⟩) M.length cap) (ZN 0 M)):=(by have:Zce M k=ZN 0 M:=(by unfold Zce;rw[List.take_of_length_le (by omega),List.drop_eq_nil_of_le (by omega)];simp);rw[<- this];exact hown);clear hown hgr HR hke;go_wp2;go_end0;exact⟨rfl,HF.out,HG.out⟩
theorem Zhu(aa ab:Option Addr)(a b:List Zm)(ca cb:Nat)(w:World)(hA:Yp w aa a)(hB:Yp w ab b)(ga:Zy a)(gb:Zy b):Calls Tryz.prog 20 #[.slice aa a.length ca,.slice ab b.length cb] w fun e w'=>∃v,e=.returned v/\Zh w' w.heap.size v (Zr a b)/\Below w.heap.size w w':=by
 go_enter Tryz.func20,Tryz.ntmps20;go_wp2_with fail
 refine(Zfh aa ab a b ca cb w hA hB ga gb).mono ?_;rintro e w' ⟨v,rfl,h2,h3⟩;have H1:Hid (Zh w' w.heap.size v (Zr a b)/\Below w.heap.size w w'):=⟨h2,h3⟩;clear h2 h3;go_wp2;go_ret;exact⟨_,rfl,H1.out.1,H1.out.2⟩
end Go.Proofs.YtfcgnpchbcmdeaaGreat
