import Derived.Test.YtfcgnpchbcmdeaaGreatZfan
import Derived.Deep.Light
import Derived.Test.YtfcgnpchbcmdeaaGreatZfaj
import Derived.Test.YtfcgnpchbcmdeaaGreatZfal
import Derived.Test.YtfcgnpchbcmdeaaGreatZfac
import Derived.Deep.RegionHeld3
namespace Go.Proofs.YtfcgnpchbcmdeaaGreat
set_option linter.unusedSimpArgs false
set_option maxRecDepth 100000
set_option maxHeartbeats 4000000
open Go.RowKit
theorem ZaO{w:World}{ops:Array Oper}{rest:List Oper}{o:Oper}{a:Act}{Q:Exit->Act->World->Prop}(hgd:o.guard=none)(s x:Operand)(ho:o.op=.call {callee:=.builtin .append,args:=#[s,x],argTypes:=#[29,29]})(i:TypeInfo)(hi:Tryz.prog.info? 98=some i)(hsize:i.size=4)(base g cap n m:Nat)(A B:List Zm)(y z:Zm)(hA:A.length=m)(hn:n=(A++y::B).length)(hs:a.eval s=.slice (some ⟨g,0,none⟩) m cap)(h0:Zh w base (.slice (some ⟨g,0,none⟩) n cap) (A++y::B))(ad:Addr)(c:Nat)(hx:a.eval x=.slice (some ad) 1 c)(hnews:∀j u,[Value.int .i64 z.v,.int .i64 z.lo,.int .i64 z.hi,.int .i64 z.wt][j]? =some u->w.cell? (ad.add j)=some u)(h:∀w',Zh w' base (.slice (some ⟨g,0,none⟩) n cap) (A++z::B)->w.grownBy w' (some g)->wpList Tryz.prog ops Q rest (a.put o.dst (.slice (some ⟨g,0,none⟩) (m+1) cap)) w'):wpList Tryz.prog ops Q (o::rest) a w:=by
 subst hn
 rcases h0.2 with⟨e,_⟩|⟨g',cap',cur,e,hb,hg,hnc,hcm,hcs,htake⟩
 simp at e;simp only[Value.slice.injEq,Option.some.injEq,Addr.mk.injEq,and_true,true_and] at e;obtain⟨rfl,rfl⟩:=e;have hlen:(A++y::B).length=m+1+B.length:=(by simp[hA];omega);have hfa:(ZO A).length=m*4:=(by rw[YM,hA]);refine wpList_plain hgd fun K hK=>?_;have hrun:=run_append_room (P:=Tryz.prog) w 29 o.type 98 i Tryz.underlying29 hi g m cap cur hg ad 1 c [.int .i64 z.v,.int .i64 z.lo,.int .i64 z.hi,.int .i64 z.wt] (by rw[hsize];rfl) hnews (Zip z.v z.lo z.hi z.wt) (by omega) (by rw[hsize,hcs];simp;omega);rw[hsize] at hrun;have hcl:cur.toList=ZO (A++y::B)++cur.toList.drop ((A++y::B).length*4):=by rw[<- htake,List.take_append_drop]
 have hnew:cur.toList.take (m*4)++[Value.int .i64 z.v,.int .i64 z.lo,.int .i64 z.hi,.int .i64 z.wt]++cur.toList.drop (m*4+4)=ZO (A++z::B)++cur.toList.drop ((A++y::B).length*4):=by
  rw[hcl];generalize cur.toList.drop ((A++y::B).length*4)=T;rw[Yg,Yg];have e1:(ZO A++ZO (y::B)++T).take (m*4)=ZO A:=by rw[List.append_assoc,<- hfa,List.take_left]
  have e2:(ZO A++ZO (y::B)++T).drop (m*4+4)=ZO B++T:=(by rw[List.append_assoc,<- List.drop_drop,<- hfa,List.drop_left];simp[ZO,YL]);have e3:List.drop ((A++y::B).length*4) (ZO A++ZO (y::B)++T)=T:=(by rw[<- Yg,<- YM,List.drop_left]);rw[e1,e2,e3];simp[ZO,YL]
 have hsz:(ZO (A++z::B)++cur.toList.drop ((A++y::B).length*4)).length=cap*4:=(by have hct:cur.toList.length=cap*4:=(by rw[Array.length_toList,hcs]);rw[Qe,YM,List.length_drop,hct];rw[hlen] at hnc ⊢;have:(A++z::B).length=m+1+B.length:=(by simp[hA]<;>omega);omega);unfold Oper.wp;simp only[execOp,ho,resolve,invoke,builtin,Sem.run_bind,Sem.run_pure,Result.andThen_ok,List.map_toArray,List.map_cons,List.map_nil,hs,hx,hrun];refine hK _ _ (h _ ?_ ?_)
 ·refine⟨by rw[YM],.inr ⟨g,cap,_,by simp,hb,setRow_heap w g cur _ 98 _ hg,?_,hcm,?_,?_⟩⟩
  ·simpa using hnc
  simp only[List.length_cons,List.length_nil] at hnew ⊢;rw[List.size_toArray];simp only[Nat.zero_add,Nat.reduceAdd];rw[hnew];exact hsz;simp only[List.length_cons,List.length_nil,Nat.zero_add,Nat.reduceAdd];rw[hnew,show(A++z::B).length*4=(ZO (A++z::B)).length by rw[YM],List.take_left]
 exact⟨rfl,rfl,rfl,by simp[World.setRow],fun k _ hk=>setRow_other w g k _ (fun e=>hk (by rw[e]))⟩
theorem Zh.pfx{w:World}{base g cap n m:Nat}{A B:List Zm}(h:Zh w base (.slice (some ⟨g,0,none⟩) n cap) (A++B))(hn:n=(A++B).length)(hm:m=A.length):Zh w base (.slice (some ⟨g,0,none⟩) m cap) A:=by
 subst hn hm
 rcases h.2 with⟨e,_⟩|⟨g',cap',cur,e,hb,hg,hnc,hcm,hcs,htake⟩
 simp at e;simp only[Value.slice.injEq,Option.some.injEq,Addr.mk.injEq,and_true,true_and] at e;obtain⟨rfl,rfl⟩:=e;refine⟨YM A,.inr ⟨g,cap,cur,rfl,hb,hg,by simp at hnc;omega,hcm,hcs,?_⟩⟩;have:(ZO (A++B)).take (A.length*4)=ZO A:=(by rw[Yg,<- YM,List.take_left]);rw[<- this,<- htake,List.take_take];congr 1;simp<;>omega
theorem Zo8{ps:List (Int×Int)}(hp:∀p∈ps,1<=p.2)(v:Int):wOf ps v<=ZY ps:=by
 induction ps with
 |nil=>simp[wOf,ZY]
 | cons p r ih=>
  have h1:=ih (fun q hq=>hp q (by simp[hq]));have h2:=hp p (by simp);simp only[wOf,ZY];split<;>omega
theorem ZfA(W:World){n:Nat}(hW:W.heap.size=n)(c:Array Value):∀j u,c.toList[j]? =some u->(W.alloc (.cells c 98)).cell? ((⟨n,0,none⟩:Addr).add j)=some u:=by subst hW;exact Zu W c 98
theorem Zab{w w' w'':World}{r:Option Nat}(h:w.grownBy w' r)(k:w'.grownBy w'' r):w.grownBy w'' r:=
 ⟨k.os.trans h.os,k.tape.trans h.tape,k.output.trans h.output,Nat.le_trans h.size k.size,fun i hi hne=>(k.block i (Qh hi h.size) hne).trans (h.block i hi hne)⟩
theorem Zb6{w w':World}{r:Option Nat}(h:Below w.heap.size w w'):w.grownBy w' r:=⟨h.os,h.tape,h.output,h.size,fun k hk _=>h.block k hk⟩
structure ZaB(S:List (Int×Int))(i:Nat)(M:List (Int×Int))(G:List Zm):Prop where
 sum:Ys (S.take i) M
 len:M.length+G.length=i
def Yw(S:List (Int×Int))(i:Nat)(M:List (Int×Int))(G:List Zm):List Zm:=M.map YQ++(G++(S.drop i).map YQ)
theorem Zj4{S:List (Int×Int)}{i:Nat}{M:List (Int×Int)}{G:List Zm}(h:ZaB S i M G)(hi:i<=S.length):(Yw S i M G).length=S.length:=by have:=h.len;simp[Yw];omega
theorem ZfS{S:List (Int×Int)}{i:Nat}(hi:i<S.length):S.take (i+1)=S.take i++[S[i]]:=Qi hi
theorem Zj5{S:List (Int×Int)}{i:Nat}{M:List (Int×Int)}{G:List Zm}{v w:Int}(h:ZaB S i (M++[(v,w)]) G)(hi:i<S.length)(he:v=S[i].1):ZaB S (i+1) (M++[(v,w+S[i].2)]) (G++[YQ S[i]]):=by refine⟨?_,by have:=h.len;simp at this ⊢;omega⟩;rw[ZfS hi];have:=h.sum.same S[i].2;rw[show S[i]=(v,S[i].2) from Prod.ext he.symm rfl];exact this
theorem Zfw{S:List (Int×Int)}{i:Nat}{M:List (Int×Int)}{G:List Zm}(h:ZaB S i M G)(hi:i<S.length)(hs:S.Pairwise fun p q=>p.1<=q.1)(hne:∀v w N,M=N++[(v,w)]->v≠S[i].1):Ys (S.take (i+1)) (M++[S[i]]):=by
 rw[ZfS hi];refine h.sum.more S[i] fun q hq=>?_;have hle:q.1<=S[i].1:=by obtain⟨j,hj,e⟩:=List.mem_iff_getElem.1 hq;rw[List.getElem_take] at e;rw[<- e];exact List.pairwise_iff_getElem.1 hs j i (by simp at hj;omega) hi (by simp at hj;omega)
 rcases Int.lt_or_eq_of_le hle with h1|h1
 exact h1;exfalso;obtain⟨r,hr,er⟩:=h.sum.all q hq;have hM:M≠[]:=List.ne_nil_of_mem hr;have hsp:M=M.dropLast++[M.getLast hM]:=(List.dropLast_concat_getLast hM).symm;refine hne (M.getLast hM).1 (M.getLast hM).2 M.dropLast hsp ?_;have h2:(M.getLast hM).1<=S[i].1:=by obtain⟨q',hq',eq'⟩:=h.sum.sub _ (List.getLast_mem hM);obtain⟨j,hj,e⟩:=List.mem_iff_getElem.1 hq';rw[List.getElem_take] at e;rw[<- eq',<- e];exact List.pairwise_iff_getElem.1 hs j i (by simp at hj;omega) hi (by simp at hj;omega)
 have h3:r.1<=(M.getLast hM).1:=by
  have hrise:=h.sum.rise;rw[hsp] at hr hrise
  rcases List.mem_append.1 hr with hr|hr
  have:=(List.pairwise_append.1 hrise).2.2 r hr (M.getLast hM) (by simp);omega;simp at hr;rw[hr];exact Int.le_refl _
 omega
theorem Zeh{S:List (Int×Int)}{i:Nat}{M:List (Int×Int)}{G:List Zm}(h:ZaB S i M G)(hi:i<S.length):∃y B G',Yw S i M G=M.map YQ++y::B/\Yw S (i+1) (M++[S[i]]) G'=M.map YQ++YQ S[i]::B/\(M++[S[i]]).length+G'.length=i+1:=by
 have hl:=h.len;have hsp:S.drop i=S[i]::S.drop (i+1):=List.drop_eq_getElem_cons hi
 cases G with
 |nil=>exact⟨YQ S[i],(S.drop (i+1)).map YQ,[],by unfold Yw;rw[hsp,List.map_cons,List.nil_append],by unfold Yw;simp,by simp at hl ⊢;omega⟩
 |cons y G=>exact⟨y,G++YQ S[i]::(S.drop (i+1)).map YQ,G++[YQ S[i]],by unfold Yw;rw[hsp,List.map_cons];rfl,by unfold Yw;simp,by simp at hl ⊢;omega⟩
theorem Zfv(g cap:Nat)(S:List (Int×Int))(base:Nat)(w:World)(h:Zh w base (.slice (some ⟨g,0,none⟩) S.length cap) (S.map YQ))(hs:S.Pairwise fun p q=>p.1<=q.1)(hp:∀p∈S,1<=p.2/\p.2<=1000)(hl:S.length<=2097152):Calls Tryz.prog 83 #[.slice (some ⟨g,0,none⟩) S.length cap] w fun e w'=>∃M,e=.returned (.slice (some ⟨g,0,none⟩) M.length cap)/\Ys S M/\M.length<=S.length/\Zh w' base (.slice (some ⟨g,0,none⟩) M.length cap) (M.map YQ)/\w.grownBy w' (some g):=by
 obtain⟨i0,hinf,hz0,hz1,hz2⟩:=info_parts Zhw;have hgw:g<w.heap.size:=(World.ownsRow.lt h g rfl).2
 have hcap:S.length<=cap:=by
  rcases h.2 with⟨e,_⟩|⟨g',cap',cur,e,hb,hg,hnc,_⟩
  simp at e;simp only[Value.slice.injEq,Option.some.injEq,Addr.mk.injEq,and_true] at e;simp at hnc;omega
 have HO:Hid (Zh w base (.slice (some ⟨g,0,none⟩) S.length cap) (S.map YQ)):=h;have HS:Hid (S.Pairwise fun p q=>p.1<=q.1):=hs;have HP:Hid (∀p∈S,1<=p.2/\p.2<=1000):=hp;clear h hs hp;go_enter Tryz.func83,Tryz.ntmps83;go_wp2_with fail
 go_loopw [3,11] (fun tm ti wr=>∃(i:Nat) (M:List (Int×Int)) (G:List Zm),i<=S.length/\ti=.int .i64 i/\tm=.slice (some ⟨g,0,none⟩) M.length cap/\Hid (ZaB S i M G/\Zh wr base (.slice (some ⟨g,0,none⟩) S.length cap) (Yw S i M G)/\w.grownBy wr (some g))) (fun _ ti _=>S.length-(intOf ti).toNat)
 case atStart=>exact⟨0,[],[],Qg _,rfl,rfl,⟨Ys.nil,rfl⟩,by simpa [Yw] using HO.out,Zq _ _⟩
 case round=>
  obtain⟨i,M,G,hi,rfl,rfl,HR⟩:=hrel;obtain⟨hR,hown,hgr⟩:=HR.out;have HG:Hid (w.grownBy wr (some g)):=hgr;have hsz:=hgr.size;have hgr2:g<wr.heap.size:=by omega
  by_cases hil:i<S.length
  ·have hRl:=hR.len;have hsp:S.drop i=S[i]::S.drop (i+1):=List.drop_eq_getElem_cons hil;have hcat:Yw S i M G=(M.map YQ++G)++YQ S[i]::(S.drop (i+1)).map YQ:=(by unfold Yw;rw[hsp,List.map_cons,List.append_assoc]);have hml:=Zj4 hR (by omega);have hown':=hown;rw[hcat] at hown';obtain⟨c0,c1,c2,c3,cf⟩:=hown'.at (by rw[<- hcat,hml]) (show(M.map YQ++G).length=i by simp;omega);simp only[YQ] at c0 c1 c2 c3;have hpi:=HP.out S[i] (Qf hil);have bi1:(0:Int)<=(i:Int):=(by omega);have bi2:(i:Int)<(S.length:Int):=(by omega);have HOW:Hid (Zh wr base (.slice (some ⟨g,0,none⟩) S.length cap) (Yw S i M G)):=hown;clear hown hown' hgr HR
   rcases List.eq_nil_or_concat M with hM|⟨N,p,hM⟩
   ·subst hM;obtain⟨y,B,G2,hs1,hs2,hs3⟩:=Zeh hR hil;have hRn:ZaB S (i+1) ([]++[S[i]]) G2:=⟨Zfw hR hil HS.out (fun v w N e=>by simp at e),hs3⟩;have HRN:Hid (ZaB S (i+1) ([]++[S[i]]) G2):=hRn;have HS2:Hid (Yw S (i+1) ([]++[S[i]]) G2=[].map YQ++YQ S[i]::B):=hs2;have HOY:Hid (Zh wr base (.slice (some ⟨g,0,none⟩) S.length cap) ([].map YQ++y::B)):=hs1 ▸ HOW.out
    have HLN:Hid (S.length=([].map YQ++y::B).length):=show _=_ by rw[<- hs1,hml]
    clear hRn hs1 hs2 hs3;generalize S[i]=q at *;go_wp2_with fail
    go_big_quiet (fail);go_wp2_with (at_builtin;refine ZaO rfl (.tmp 40) (.tmp 42) rfl i0 hinf hz1 base g cap S.length 0 [] B y (YQ q) rfl HLN.out rfl (HOY.out.below (by repeat(first|with_reducible exact Below.refl _ _|with_reducible refine below_drewN ?_ _|with_reducible refine Below.drew ?_|with_reducible refine Below.alloc ?_ (by simp<;>omega) _))) ⟨wr.heap.size+1,0,none⟩ 1 rfl (ZfA _ (by simp) #[.int .i64 q.1,.int .i64 0,.int .i64 0,.int .i64 q.2]) ?_)
    intro w5 hown5 hg5;have HW5:Hid (Zh w5 base (.slice (some ⟨g,0,none⟩) S.length cap) (Yw S (i+1) ([]++[q]) G2)):=(by rw[HS2.out];exact hown5);have HG5:Hid (w.grownBy w5 (some g)):=Zab HG.out (Zab (Zb6 (by repeat(first|with_reducible exact Below.refl _ _|with_reducible refine below_drewN ?_ _|with_reducible refine Below.drew ?_|with_reducible refine Below.alloc ?_ (by simp<;>omega) _))) hg5);clear hown5 hg5;go_wp2;go_roundw;case rel=>exact⟨i+1,[]++[q],G2,by omega,by go_num,by simp,HRN.out,HW5.out,HG5.out⟩
    case measure=>simp[intOf];omega
   rw[List.concat_eq_append] at hM;subst hM;obtain⟨pv,pw⟩:=p;have hcat2:Yw S i (N++[(pv,pw)]) G=N.map YQ++YQ (pv,pw)::(G++(S.drop i).map YQ):=(by unfold Yw;simp);have hown2:=HOW.out;rw[hcat2] at hown2;obtain⟨d0,d1,d2,d3,_⟩:=hown2.at (by rw[<- hcat2,hml]) (show(N.map YQ).length=N.length by simp);simp only[YQ] at d0 d1 d2 d3;have hpw:pw=wOf (S.take i) pv:=hR.sum.wt (pv,pw) (by simp);have hpt:∀r∈S.take i,1<=r.2:=fun r hr=>(HP.out r (List.mem_of_mem_take hr)).1;have hpw1:0<=pw/\pw<=1000*2097152:=by have h1:=ZhQ hpt pv;have h2:=Zo8 hpt pv;have h3:=ZeN (ps:=S.take i) (fun r hr=>(HP.out r (List.mem_of_mem_take hr)).2);have h4:(S.take i).length<=2097152:=(by simp;omega);omega
   have bl1:(0:Int)<=(N.length:Int):=(by omega);have hNi:N.length<i:=(by have:=hR.len;simp at this;omega);have bl2:(N.length:Int)<(N.length:Int)+1:=(by omega);have dg:decide ((0:Int)<=(N.length:Int))=true:=decide_eq_true (by omega)
   by_cases hv:pv=S[i].1
   ·have hRn:=Zj5 hR hil hv;have HRN:Hid (ZaB S (i+1) (N++[(pv,pw+S[i].2)]) (G++[YQ S[i]])):=hRn
    have HE2:Hid (Yw S (i+1) (N++[(pv,pw+S[i].2)]) (G++[YQ S[i]])=N.map YQ++(⟨pv,0,0,pw+S[i].2⟩:Zm)::(G++(S.drop i).map YQ)):=show _=_ by unfold Yw;rw[hsp];simp only[List.map_append,List.map_cons,List.map_nil,List.append_assoc,List.cons_append,List.nil_append,YQ]
    have HOW2:Hid (Zh wr base (.slice (some ⟨g,0,none⟩) S.length cap) (N.map YQ++YQ (pv,pw)::(G++(S.drop i).map YQ))):=hown2
    have HLL:Hid (S.length=(N.map YQ++YQ (pv,pw)::(G++(S.drop i).map YQ)).length):=show _=_ by rw[<- hcat2,hml]
    have hvb:(pv==S[i].1)=true:=beq_iff_eq.2 hv;clear hRn hpw hown2 hcat2 hv;generalize S[i]=q at *;go_wp2_with fail
    go_big_quiet (fail);go_wp2_with fail
    go_region
    all_goals go_wp2
    all_goals
     go_roundw
     case rel=>
      refine⟨i+1,N++[(pv,pw+q.2)],G++[YQ q],by omega,by go_num,by simp,HRN.out,?_,?_⟩;rw[HE2.out];exact(HOW2.out.below (by repeat(first|with_reducible exact Below.refl _ _|with_reducible refine below_drewN ?_ _|with_reducible refine Below.drew ?_|with_reducible refine Below.alloc ?_ (by simp<;>omega) _))).store HLL.out (by simp) (ZgE (by simp) _);refine ZB (Zab HG.out (Zb6 ?_)) _ _
      repeat(first|with_reducible exact Below.refl _ _|with_reducible refine below_drewN ?_ _|with_reducible refine Below.drew ?_|with_reducible refine Below.alloc ?_ (by simp<;>omega) _)
     case measure=>simp[intOf];omega
   have hvb:(pv==S[i].1)=false:=beq_eq_false_iff_ne.2 hv;obtain⟨y,B,G2,hs1,hs2,hs3⟩:=Zeh hR hil;have hRn:ZaB S (i+1) ((N++[(pv,pw)])++[S[i]]) G2:=⟨Zfw hR hil HS.out (fun v w N2 e=>by have:=(List.append_inj_right' e rfl);simp at this;rw[<- this.1];exact hv),hs3⟩;have HRN:Hid (ZaB S (i+1) ((N++[(pv,pw)])++[S[i]]) G2):=hRn;have HS2:Hid (Yw S (i+1) ((N++[(pv,pw)])++[S[i]]) G2=(N++[(pv,pw)]).map YQ++YQ S[i]::B):=hs2;have HOY:Hid (Zh wr base (.slice (some ⟨g,0,none⟩) S.length cap) ((N++[(pv,pw)]).map YQ++y::B)):=hs1 ▸ HOW.out
   have HLN:Hid (S.length=((N++[(pv,pw)]).map YQ++y::B).length):=show _=_ by rw[<- hs1,hml]
   clear hRn hs1 hs2 hs3;clear hpw hown2 hcat2 hv;generalize S[i]=q at *;go_wp2_with fail
   go_big_quiet (fail);go_wp2_with (at_builtin;refine ZaO rfl (.tmp 40) (.tmp 42) rfl i0 hinf hz1 base g cap S.length (N++[(pv,pw)]).length ((N++[(pv,pw)]).map YQ) B y (YQ q) (by simp) HLN.out rfl (HOY.out.below (by repeat(first|with_reducible exact Below.refl _ _|with_reducible refine below_drewN ?_ _|with_reducible refine Below.drew ?_|with_reducible refine Below.alloc ?_ (by simp<;>omega) _))) ⟨wr.heap.size+1,0,none⟩ 1 rfl (ZfA _ (by simp) #[.int .i64 q.1,.int .i64 0,.int .i64 0,.int .i64 q.2]) ?_)
   intro w5 hown5 hg5;have HW5:Hid (Zh w5 base (.slice (some ⟨g,0,none⟩) S.length cap) (Yw S (i+1) ((N++[(pv,pw)])++[q]) G2)):=(by rw[HS2.out];simp only[List.map_append,List.map_cons,List.map_nil,List.append_assoc,List.cons_append,List.nil_append];exact hown5);have HG5:Hid (w.grownBy w5 (some g)):=Zab HG.out (Zab (Zb6 (by repeat(first|with_reducible exact Below.refl _ _|with_reducible refine below_drewN ?_ _|with_reducible refine Below.drew ?_|with_reducible refine Below.alloc ?_ (by simp<;>omega) _))) hg5);clear hown5 hg5;go_wp2;go_roundw;case rel=>exact⟨i+1,(N++[(pv,pw)])++[q],G2,by omega,by go_num,by simp,HRN.out,HW5.out,HG5.out⟩
   case measure=>simp[intOf];omega
  have hie:S.length=i:=(by omega);have HF:Hid (Ys S M/\Zh wr base (.slice (some ⟨g,0,none⟩) M.length cap) (M.map YQ)):=by refine⟨by have:=hR.sum;rwa [List.take_of_length_le (by omega)] at this,?_⟩;have hd:Yw S i M G=M.map YQ++G:=(by unfold Yw;rw[List.drop_eq_nil_of_le (by omega)];simp);rw[hd] at hown;exact hown.pfx (by have:=hR.len;simp;omega) (by simp)
  have HL:Hid (M.length<=S.length):=show _<=_ by have:=hR.len;omega
  clear hown hgr HR hie hR;go_wp2;go_ret;exact⟨M,rfl,HF.out.1,HL.out,HF.out.2,HG.out⟩
theorem Zn2:(Tryz.prog.info? 29).map (fun i=>(i.zero,i.size,i.bytes))=some (some (.slice none 0 0),1,24):=by kernel_rfl
theorem Zh.seen{w:World}{base:Nat}{v:Value}{L:List Zm}(h:Zh w base v L)(hl:L.length<=4194304):∃a c,v=.slice a L.length c/\Yp w a L/\(a=none->c=0)/\L.length<=c:=by
 have h':=h
 rcases h.2 with⟨rfl,h0⟩|⟨g,cap,cur,rfl,_,hh,hnc,_⟩
 exact⟨none,0,by rw[h0],⟨hl,.inl h0⟩,fun _=>rfl,by omega⟩;refine⟨_,cap,rfl,⟨hl,.inr ⟨g,0,rfl,?_⟩⟩,(fun e=>by cases e),hnc⟩
 have key:∀i,i<L.length->w.cell? ⟨g,i*4,none⟩=some (.int .i64 (L.getD i e0).v)/\w.cell? ⟨g,i*4+1,none⟩=some (.int .i64 (L.getD i e0).lo)/\w.cell? ⟨g,i*4+2,none⟩=some (.int .i64 (L.getD i e0).hi)/\w.cell? ⟨g,i*4+3,none⟩=some (.int .i64 (L.getD i e0).wt)/\∀o,w.frozen? ⟨g,o,none⟩=false:=fun i hi=>by have e:L=L.take i++L.getD i e0::L.drop (i+1):=(by have:L.getD i e0=L[i]:=(by simp[List.getD,hi]);rw[this,<- List.drop_eq_getElem_cons hi,List.take_append_drop]);rw[e] at h';exact Zh.at (n:=L.length) (by rw[<- e] at h' ⊢;exact h') (by rw[<- e]) (by simp;omega)
 refine⟨fun _=>(Qb hh).1,fun i hi=>?_,fun i hi=>?_,fun i hi=>?_,fun i hi=>?_⟩;rw[Nat.zero_add];exact(key i hi).1;rw[Nat.zero_add];exact(key i hi).2.1;rw[Nat.zero_add];exact(key i hi).2.2.1;rw[Nat.zero_add];exact(key i hi).2.2.2.1
theorem Zh.mono{w:World}{b b':Nat}{v:Value}{L:List Zm}(h:Zh w b' v L)(hb:b<=b'):Zh w b v L:=by
 refine⟨h.1,?_⟩
 rcases h.2 with hn|⟨g,cap,cur,e,hg,r⟩
 exact .inl hn;exact .inr ⟨g,cap,cur,e,Nat.le_trans hb hg,r⟩
structure ZcV(w:World)(base:Nat)(v:Value)(vs:List Value)(Ls:List (List Zm)):Prop where
 row:w.ownsRow base 29 1 v Ls.length vs
 each:∀i,i<Ls.length->Zh w base (vs.getD i (.slice none 0 0)) (Ls.getD i [])
def Zh4(w:World)(base:Nat)(v:Value)(Ls:List (List Zm)):Prop:=∃vs,ZcV w base v vs Ls
theorem Zh.grown{w w':World}{base b2 e2 s2 n2:Nat}{v u:Value}{L:List Zm}{xs:List Value}(h:Zh w base v L)(g:w.ownsRow b2 e2 s2 u n2 xs)(hne:e2≠98)(hg:w.grownBy w' u.ownBlock):Zh w' base v L:=
 World.ownsRow.kept h hg (Za4 g h hne)
theorem ZcV.below{w w':World}{base:Nat}{v:Value}{vs:List Value}{Ls:List (List Zm)}(h:ZcV w base v vs Ls)(hb:Below w.heap.size w w'):ZcV w' base v vs Ls:=
 ⟨(Za.of_below (S:=fun _=>False) hb).row h.row (fun _ _=>id),fun i hi=>(h.each i hi).below hb⟩
theorem ZcV.put{w:World}{base g cap n i:Nat}{vs:List Value}{Ls:List (List Zm)}{u:Value}{l:List Zm}(h:ZcV w base (.slice (some ⟨g,0,none⟩) n cap) vs Ls)(hn:n=Ls.length)(hu:Zh w base u l)(hi:i<n):ZcV (w.setCell ⟨g,i,none⟩ u) base (.slice (some ⟨g,0,none⟩) n cap) (vs.set i u) (Ls.set i l)/\w.grownBy (w.setCell ⟨g,i,none⟩ u) (some g):=by
 subst hn;obtain⟨h1,h2⟩:=World.ownsRow.stored h.row i u;have hl:vs.length=Ls.length:=(by have:=h.row.1;omega);refine⟨⟨by simpa using h1,fun j hj=>?_⟩,h2⟩;simp only[List.length_set] at hj
 by_cases e:j=i
 subst e;have e1:(vs.set j u).getD j (.slice none 0 0)=u:=(by simp[List.getD,hl,hj]);have e2:(Ls.set j l).getD j []=l:=(by simp[List.getD,hj]);rw[e1,e2];exact hu.grown h.row (by decide) h2;have e1:(vs.set i u).getD j (.slice none 0 0)=vs.getD j (.slice none 0 0):=(by simp[List.getD,Ne.symm e]);have e2:(Ls.set i l).getD j []=Ls.getD j []:=(by simp[List.getD,Ne.symm e]);rw[e1,e2];exact(h.each j hj).grown h.row (by decide) h2
theorem ZcV.view{w:World}{base:Nat}{v:Value}{vs:List Value}{Ls:List (List Zm)}(h:ZcV w base v vs Ls)(h0:0<Ls.length):∃g cap,v=.slice (some ⟨g,0,none⟩) Ls.length cap/\base<=g/\g<w.heap.size/\(∀i,i<Ls.length->w.cell? ⟨g,i,none⟩=some (vs.getD i (.slice none 0 0)))/\∀i,w.frozen? ⟨g,i,none⟩=false:=by
 have hl:vs.length=Ls.length:=by have:=h.row.1;omega
 rcases h.row.2 with⟨_,h1⟩|⟨g,cap,cur,rfl,hb,hh,_⟩
 omega;refine⟨g,cap,rfl,hb,(Qb hh).1,fun i hi=>?_,fun i=>World.ownsRow.frozenAt h.row i⟩;rw[World.ownsRow.cellAt h.row i (by omega)];simp[List.getD,hl,hi]
def Zbd(Ls:List (List Zm))(k:Nat):List (List Zm):=List.replicate k []++Ls.drop k
theorem Zfp{Ls:List (List Zm)}{k:Nat}(h:k<=Ls.length):(Zbd Ls k).length=Ls.length:=by simp[Zbd];omega
theorem Zn8{Ls:List (List Zm)}{k:Nat}:(Zbd Ls k).getD k []=Ls.getD k []:=by simp[Zbd,List.getD,List.getElem?_append_right]
theorem ZiF{Ls:List (List Zm)}{k:Nat}(h:k<Ls.length)(l:List Zm):(Zbd Ls k).set k l=List.replicate k []++l::Ls.drop (k+1):=by unfold Zbd;rw[List.drop_eq_getElem_cons h,List.set_append_right _ _ (by simp),List.length_replicate,Nat.sub_self,List.set_cons_zero]
theorem ZlO{Ls:List (List Zm)}{k:Nat}(h:k<Ls.length):(Zbd Ls k).set k []=Zbd Ls (k+1):=by rw[ZiF h,Zbd,List.replicate_succ',List.append_assoc];rfl
theorem Zkn{size:Int}{Ls:List (List Zm)}{l:List Zm}{k:Nat}(h:k<Ls.length)(h0:(Ls.getD k []).length=0):Zt size (Ls.drop k) l=l::Ls.drop (k+1):=by rw[List.drop_eq_getElem_cons h];have:Ls.getD k []=Ls[k]:=(by simp[List.getD,h]);rw[this] at h0;simp only[Zt];rw[if_pos h0]
theorem Zi8{size:Int}{Ls:List (List Zm)}{l:List Zm}{k:Nat}(h:k<Ls.length)(h0:(Ls.getD k []).length≠0):Zt size (Ls.drop k) l=[]::Zt size (Ls.drop (k+1)) (Yz (Zr (Ls.getD k []) l) size):=by rw[List.drop_eq_getElem_cons h];have:Ls.getD k []=Ls[k]:=(by simp[List.getD,h]);rw[this] at h0 ⊢;simp only[Zt];rw[if_neg h0]
theorem Zen{Ls:List (List Zm)}{k:Nat}(h:k<Ls.length):Zw (Ls.drop k)=Zc (Ls.getD k [])+Zw (Ls.drop (k+1)):=by rw[List.drop_eq_getElem_cons h];have:Ls.getD k []=Ls[k]:=(by simp[List.getD,h]);rw[this];rfl
theorem Zcr{Ls:List (List Zm)}{k:Nat}(h:k<Ls.length):Ls.getD k []∈Ls:=by simp[List.getD,h]
theorem Zkm(base:Nat)(v u:Value)(Ls:List (List Zm))(l:List Zm)(size:Int)(w:World)(hL:Zh4 w base v Ls)(hu:Zh w base u l)(hok:Yt Ls)(hg:Zy l)(hll:l.length<=32)(hs:2<=size)(hs2:size<=32)(ht:Zw Ls+Zc l<=1000000000000)(hn:Ls.length<=1000)(hbase:base<=w.heap.size):Calls Tryz.prog 318 #[v,u,.int .i64 size] w fun e w'=>∃v',e=.returned v'/\Zh4 w' base v' (Zt size Ls l)/\Below base w w':=by
 obtain⟨vs0,hX0⟩:=hL;obtain⟨j0,jinf,jz0,jz1,jz2⟩:=info_parts Zn2
 have hvf:∃a c,v=.slice a Ls.length c:=by
  rcases hX0.row.2 with⟨rfl,h1⟩|⟨g,cap,cur,rfl,_⟩
  exact⟨none,0,by rw[h1]⟩;exact⟨_,_,rfl⟩
 obtain⟨va,vcap,rfl⟩:=hvf;have HX0:Hid (ZcV w base (.slice va Ls.length vcap) vs0 Ls):=hX0;have HU:Hid (Zh w base u l/\Zy l/\l.length<=32/\Zw Ls+Zc l<=1000000000000):=⟨hu,hg,hll,ht⟩;have HOK:Hid (Yt Ls):=hok;obtain⟨n,hnn⟩:∃n,n=Ls.length:=⟨_,rfl⟩;have HN:Hid (n=Ls.length):=hnn;rw[<- hnn] at hn ⊢;clear hX0 hu hok hg hll ht hnn;go_enter Tryz.func318,Tryz.ntmps318;go_wp2_with fail
 go_loopw [11,1] (fun ti tu wr=>∃(k:Nat) (lk:List Zm) (vs:List Value),ti=.int .i64 k/\k<=n/\Hid (ZcV wr base (.slice va n vcap) vs (Zbd Ls k)/\Zh wr base tu lk/\Zy lk/\lk.length<=32/\Zw (Ls.drop k)+Zc lk<=1000000000000/\Zt size Ls l=List.replicate k []++Zt size (Ls.drop k) lk)/\Below base w wr) (fun ti _ _=>n-(intOf ti).toNat)
 case atStart=>exact⟨0,l,vs0,rfl,Qg _,⟨by have:=HX0.out;rw[<- HN.out] at this;exact this,HU.out.1,HU.out.2.1,HU.out.2.2.1,HU.out.2.2.2,rfl⟩,Below.refl _ _⟩
 case round=>
  clear HX0 HU;obtain⟨k,lk,vs,rfl,hk,HR,hbel⟩:=hrel;obtain⟨hX,hu,hg,hll,ht,heq⟩:=HR.out;clear HR;have hsz:=hbel.size
  by_cases hkn:k<n
  ·have hkl:k<Ls.length:=(by rw[<- HN.out];exact hkn);have hlen:=Zfp (show k<=Ls.length by omega);obtain⟨g,cap,hv,hgb,hgl,hcell,hfr⟩:=hX.view (by omega);injection hv with hv1 hv2 hv3;subst hv1 hv3;clear hv2;have hck:=hcell k (by omega);have hE:=hX.each k (by omega);rw[Zn8] at hE;have gO:=HOK.out.good _ (Zcr hkl);have lO:=HOK.out.len _ (Zcr hkl);have tO:=Zen hkl;obtain⟨ao,co,hvo,hEo,hno,_⟩:=hE.seen (by omega);rw[hvo] at hck;have hfk:=hfr k;have bk1:(0:Int)<=(k:Int):=(by omega);have bk2:(k:Int)<(n:Int):=(by omega);have HX:Hid (ZcV wr base (.slice (some ⟨g,0,none⟩) n vcap) vs (Zbd Ls k)):=hX;obtain⟨al,cl,hvl,hEl,hnl,_⟩:=hu.seen (by omega);subst hvl
   by_cases h0:(Ls.getD k []).length=0
   ·have hT:=Zkn (size:=size) (l:=lk) hkl h0;have HF:Hid (Zh4 (wr.setCell ⟨g,k,none⟩ (.slice al lk.length cl)) base (.slice (some ⟨g,0,none⟩) n vcap) (Zt size Ls l)/\Below base w (wr.setCell ⟨g,k,none⟩ (.slice al lk.length cl))):=(by obtain⟨p1,p2⟩:=hX.put (i:=k) (by rw[hlen];exact HN.out) hu hkn;refine⟨⟨vs.set k (.slice al lk.length cl),?_⟩,hbel.setCell hgb _⟩;rw[heq,hT,<- ZiF hkl];exact p1);rw[h0] at hck;clear hX hu hcell hE hEo hEl hvo heq hfr hT hlen hnl;go_wp2;go_ret;exact⟨_,rfl,HF.out.1,HF.out.2⟩
   have hT:=Zi8 (size:=size) (l:=lk) hkl h0;have hb0:(((Ls.getD k []).length:Int)==0)=false:=beq_eq_false_iff_ne.2 (by omega);have pj:=(Yv gO).1;have pl:=(Yv hg).1;have pr:=Yn (Ls:=Ls.drop (k+1)) (fun x hx=>HOK.out.good x (List.mem_of_mem_drop hx));have gj:Zy (Zr (Ls.getD k []) lk):=Y6 gO hg (by omega);have gc:Zy (Yz (Zr (Ls.getD k []) lk) size):=gj.sub (Q9 gj size);have lc:=Zbj (Zr (Ls.getD k []) lk) hs;have lj:=Zcv (Ls.getD k []) lk;have tc:Zc (Yz (Zr (Ls.getD k []) lk) size)=Zc (Ls.getD k [])+Zc lk:=by rw[Zaz,Y9]
   have HJ:Hid (Calls Tryz.prog 46 #[.slice ao (Ls.getD k []).length co,.slice al lk.length cl] wr fun e w'=>∃v,e=.returned v/\Zh w' wr.heap.size v (Zr (Ls.getD k []) lk)/\Below wr.heap.size wr w'):=Zfh ao al _ lk co cl wr hEo hEl gO hg;have HREST:Hid (Zy (Zr (Ls.getD k []) lk)/\(Zr (Ls.getD k []) lk).length<=64/\Zy (Yz (Zr (Ls.getD k []) lk) size)/\(Yz (Zr (Ls.getD k []) lk) size).length<=32/\Zw (Ls.drop (k+1))+Zc (Yz (Zr (Ls.getD k []) lk) size)<=1000000000000/\Zt size Ls l=List.replicate (k+1) []++Zt size (Ls.drop (k+1)) (Yz (Zr (Ls.getD k []) lk) size)):=by refine⟨gj,by omega,gc,by omega,by omega,?_⟩;rw[heq,hT,List.replicate_succ',List.append_assoc];rfl
   have HKL:Hid (k<Ls.length):=hkl;clear hX hu hcell hE hEo hEl hvo heq hfr hT hlen gj gc lc lj tc pj pl pr gO lO tO ht hg hno hnl h0 hkl;generalize (Ls.getD k []).length=no at *;go_wp2_with fail
   refine HJ.out.mono ?_;rintro e w1 ⟨vj,rfl,hoj,hbj⟩;have hs1:=hbj.size;obtain⟨aj,cj,rfl,hEj,hnj,_⟩:=hoj.seen (by have:=HREST.out.2.1;omega);have HCJ:Hid (Calls Tryz.prog 47 #[.slice aj (Zr (Ls.getD k []) lk).length cj,.int .i64 size] w1 fun e w'=>∃v,e=.returned v/\Zh w' w1.heap.size v (Yz (Zr (Ls.getD k []) lk) size)/\Below w1.heap.size w1 w'):=ZkS aj _ cj size w1 hEj HREST.out.1 hnj;clear hoj hEj hnj HJ;generalize (Zr (Ls.getD k []) lk).length=nj at *;go_wp2_with fail
   refine HCJ.out.mono ?_;rintro e w2 ⟨vc,rfl,hoc,hbc⟩;have hs2:=hbc.size;have hb12:Below wr.heap.size wr w2:=hbj.trans (hbc.mono hs1)
   have hfin:∃vs',Hid (ZcV (w2.setCell ⟨g,k,none⟩ (.slice none 0 0)) base (.slice (some ⟨g,0,none⟩) n vcap) vs' (Zbd Ls (k+1))/\Zh (w2.setCell ⟨g,k,none⟩ (.slice none 0 0)) base vc (Yz (Zr (Ls.getD k []) lk) size)/\Zy (Yz (Zr (Ls.getD k []) lk) size)/\(Yz (Zr (Ls.getD k []) lk) size).length<=32/\Zw (Ls.drop (k+1))+Zc (Yz (Zr (Ls.getD k []) lk) size)<=1000000000000/\Zt size Ls l=List.replicate (k+1) []++Zt size (Ls.drop (k+1)) (Yz (Zr (Ls.getD k []) lk) size))/\Below base w (w2.setCell ⟨g,k,none⟩ (.slice none 0 0))/\w2.cell? ⟨g,k,none⟩=some (.slice ao no co)/\w2.frozen? ⟨g,k,none⟩=false:=by
    have hX2:=HX.out.below hb12;have hkl:k<Ls.length:=HKL.out;have hnl:n=(Zbd Ls k).length:=(by rw[Zfp (Nat.le_of_lt hkl)];exact HN.out);obtain⟨p1,p2⟩:=hX2.put (i:=k) hnl (Zh.nil w2 base) hkn;rw[ZlO hkl] at p1;have hoc2:=(hoc.mono (show base<=w1.heap.size by omega)).grown hX2.row (by decide) p2;refine⟨_,⟨p1,hoc2,HREST.out.2.2⟩,?_,?_,?_⟩;exact(hbel.trans (hb12.mono (by omega))).setCell hgb _;exact(hb12.cell (p:=⟨g,k,none⟩) hgl).trans hck;have h2:=hX2.row;rw[<- hnl] at h2;exact World.ownsRow.frozenAt h2 k
   obtain⟨vs',HFIN,hbf,hck2,hfk2⟩:=hfin;clear hoc hbc hb12 hbj HX HCJ HREST hck hfk;go_wp2;go_roundw;case rel=>exact⟨k+1,_,vs',by go_num,by omega,HFIN,hbf⟩
   case measure=>simp[intOf];omega
  have hkn2:k=n:=(by omega);have hT:Zt size Ls l=List.replicate k []++[lk]:=(by rw[heq,List.drop_eq_nil_of_le (by have:=HN.out;omega)];rfl);have hnl:(Zbd Ls k).length=n:=(by rw[Zfp (by have:=HN.out;omega)];exact HN.out.symm);have hlk:Zbd Ls k=List.replicate k []:=(by unfold Zbd;rw[List.drop_eq_nil_of_le (by have:=HN.out;omega),List.append_nil]);have hnk:¬(k:Int)<(n:Int):=(by omega);obtain⟨al,cl,hvl,hEl,hnl',_⟩:=hu.seen (by omega);subst hvl;have HX:Hid (ZcV wr base (.slice va n vcap) vs (Zbd Ls k)):=hX;have HROW:Hid (wr.ownsRow base 29 1 (.slice va n vcap) n vs):=(by have:=hX.row;rw[hnl] at this;exact this);have HU2:Hid (Zh wr base (.slice al lk.length cl) lk):=hu;have HT:Hid (Zt size Ls l=Zbd Ls k++[lk]):=(by rw[hlk];exact hT);clear hX hu hT hlk heq hg ht hEl hnl'
  go_wp2_with (at_builtin;refine Zd rfl (.tmp 33) (.tmp 35) 80 rfl base 29 j0 (.slice none 0 0) 1 24 Tryz.underlying80 jinf jz0 jz1 jz2 rfl (by decide) _ n vs rfl (HROW.out.alloc _) ⟨wr.heap.size,0,none⟩ 1 1 [.slice al lk.length cl] rfl rfl ?_ ?_ ?_ ?_ ?_ ?_ ?_)
  rfl;unfold maxLen;omega;omega;omega;intro v3 w3 H3
  have HF:Hid (Zh4 w3 base v3 (Zt size Ls l)/\Below base w w3):=by
   obtain⟨q1,q2,q3,_⟩:=H3.out;have hvl:vs.length=n:=(by have:=HROW.out.1;omega);refine⟨⟨vs++[.slice al lk.length cl],?_⟩,?_⟩
   ·rw[HT.out];refine⟨by rw[Qe,hnl];exact q1,fun i hi=>?_⟩;rw[Qe,hnl] at hi;simp at hi
    by_cases hin:i<n
    have e1:(vs++[Value.slice al lk.length cl]).getD i (.slice none 0 0)=vs.getD i (.slice none 0 0):=(by simp[List.getD,List.getElem?_append_left,hvl,hin]);have e2:(Zbd Ls k++[lk]).getD i []=(Zbd Ls k).getD i []:=(by simp[List.getD,List.getElem?_append_left,hnl,hin]);rw[e1,e2];exact((HX.out.each i (by omega)).alloc _).grown (HROW.out.alloc _) (by decide) q2;have e0:i=n:=(by omega);subst e0;have e1:(vs++[Value.slice al lk.length cl]).getD i (.slice none 0 0)=.slice al lk.length cl:=(by simp[List.getD,<- hvl]);have e2:(Zbd Ls k++[lk]).getD i []=lk:=(by simp[List.getD,<- hnl]);rw[e1,e2];exact(HU2.out.alloc _).grown (HROW.out.alloc _) (by decide) q2
   exact hbel.trans (((Below.refl _ _).alloc (by omega) _).grown q2 (by simp;omega) (fun k hk=>(HROW.out.lt k hk).1))
  clear H3;go_wp2;go_ret;exact⟨_,rfl,HF.out.1,HF.out.2⟩
def Zjo:Prop:=∀(va wa:Option Addr) (vl vc wl wc:Nat) (vz wz:List Int) (w:World),ZM w va vl vz->ZM w wa wl wz->vl<=2097152->wl<=2097152->
  Calls Tryz.prog 45 #[.slice va vl vc,.slice wa wl wc] w fun e w'=>∃v M,e=.returned v/\Ys (Zg vz wz) M/\Zh w' w.heap.size v (ZN 0 M)/\Below w.heap.size w w'
theorem ZeM{vs ws:List Int}(h:vs.length<=2097152):Zy (ZbG vs ws)/\(ZbG vs ws).length<=vs.length/\Zc (ZbG vs ws)<=1000*(vs.length:Int):=by
 have hs:=Zci (Zg vs ws);have hg:Zy (ZbG vs ws):=hs.good h;have hl:=Za1 vs ws;refine⟨hg,?_,?_⟩
 ·have:=hg.len (U:=(Zg vs ws).map fun p=>p.1) (fun e he=>by
   obtain⟨p,hp,h1,_⟩:=(Zbp (Zch (Zg vs ws)) 0).1 e he;obtain⟨q,hq,e2⟩:=hs.sub p hp;rw[List.mem_map]
   exact⟨q,hq,by omega⟩)
  simp at this;omega
 have h1:=(Zg8.of_sum hs).total;have h2:=ZeN (ps:=Zg vs ws) (fun p hp=>(Zcd hp).1.2);unfold ZbG;rw[h1];have:((Zg vs ws).length:Int)<=(vs.length:Int):=(by omega);omega
theorem ZM.part{w:World}{b off n fr m:Nat}{zs:List Int}(h:ZM w (some ⟨b,off,none⟩) n zs)(hm:fr+m<=n):ZM w (some ⟨b,off+fr,none⟩) m ((zs.drop fr).take m):=by
 obtain⟨h1,h2,h3⟩:=h;refine⟨by simp;omega,fun z hz=>h2 z (List.mem_of_mem_drop (List.mem_of_mem_take hz)),?_⟩
 by_cases h0:m=0
 exact .inl h0
 rcases h3 with h3|⟨b',o',e,hlt,hc⟩
 omega;injection e with e;injection e with e1 e2;subst e1 e2;refine .inr ⟨b,off+fr,rfl,hlt,fun i hi=>?_⟩;rw[show off+fr+i=off+(fr+i) by omega,hc (fr+i) (by omega)];congr 2;simp[List.getD,List.getElem?_drop,hi]
theorem ZgG{w w':World}{b off n B:Nat}{zs:List Int}(h:ZM w (some ⟨b,off,none⟩) n zs)(hb:Below B w w')(hlt:b<B):ZM w' (some ⟨b,off,none⟩) n zs:=by
 obtain⟨h1,h2,h3⟩:=h;refine⟨h1,h2,?_⟩
 rcases h3 with h3|⟨b',o',e,hlt',hc⟩
 exact .inl h3;injection e with e;injection e with e1 e2;subst e1 e2;exact .inr ⟨b,off,rfl,Qh hlt' hb.size,fun i hi=>(hb.cell (p:=⟨b,off+i,none⟩) hlt).trans (hc i hi)⟩
theorem Zhv(hOf:Zjo)(va wa:Option Addr)(n vcap wcap size:Nat)(vz wz:List Int)(w:World)(hv:ZM w va n vz)(hw:ZM w wa n wz)(hn:n<=1000)(hc1:n<=vcap)(hc2:n<=wcap)(hs:2<=size)(hs2:size<=32):Calls Tryz.prog 274 #[.slice va n vcap,.slice wa n wcap,.int .i64 size] w fun e w'=>∃v,e=.returned v/\Zh w' w.heap.size v (ZW size vz wz)/\Below w.heap.size w w':=by
 have HV:Hid (ZM w va n vz):=hv;have HW:Hid (ZM w wa n wz):=hw;have HOF:Hid Zjo:=hOf;have HLV:Hid (vz.length=n/\wz.length=n):=⟨hv.1,hw.1⟩;clear hv hw hOf;go_enter Tryz.func274,Tryz.ntmps274;go_wp2_with fail
 go_loopw [7,8] (fun tl tf wr=>∃(fr fu:Nat) (Ls:List (List Zm)),tf=.int .i64 fr/\fr<=n+size/\Hid (Zh4 wr w.heap.size tl Ls/\Yt Ls/\Zw Ls<=1000*(fr:Int)/\Ls.length<=fr/\n-fr<=fu/\Yj size fu Ls (vz.drop fr) (wz.drop fr)=Yj size n [] vz wz)/\Below w.heap.size w wr) (fun _ tf _=>n+size-(intOf tf).toNat)
 case atStart=>exact⟨0,n,[],rfl,Qg _,⟨⟨[],World.ownsRow_nil _ _ _ _,fun i hi=>by simp at hi⟩,Yt.nil,by simp[Zw],by simp,by omega,rfl⟩,Below.refl _ _⟩
 case round=>
  obtain⟨fr,fu,Ls,rfl,hfr,HR,hbel⟩:=hrel;have hsz:=hbel.size
  by_cases hkn:fr<n
  ·rcases HV.out with⟨_,_,h0|⟨b1,o1,rfl,hb1,_⟩⟩;omega;rcases HW.out with⟨_,_,h0|⟨b2,o2,rfl,hb2,_⟩⟩;omega;obtain⟨te,hto⟩:∃te,te=min (fr+size) n:=⟨_,rfl⟩;have hlt1:(fr:Int)<(n:Int):=(by omega);have hle1:(fr:Int)<=(te:Int):=(by omega);have hle2:(te:Int)<=(vcap:Int):=(by omega);have hle3:(te:Int)<=(wcap:Int):=(by omega);have hne1:¬vcap=fr:=(by omega);have hne2:¬wcap=fr:=(by omega);have HTO:Hid (te=min (fr+size) n):=hto;clear hto;have hmm:te-fr<=size:=(by have:=HTO.out;omega);go_upto_region 5 with fail;go_cut [9] (fun v wx=>v=.int .i64 te/\wx=wr)
   case first=>
    by_cases hc:(fr:Int)+(size:Int)<=(n:Int)
    ·have e1:(te:Int)=(fr:Int)+(size:Int):=(by have:=HTO.out;omega);have E1:Hid ((te:Int)=(fr:Int)+(size:Int)):=e1;clear e1 hle1 hle2 hle3;go_wp2;go_meet
     exact⟨by rw[E1.out],rfl⟩
    have e1:(te:Int)=(n:Int):=(by have:=HTO.out;omega);have E1:Hid ((te:Int)=(n:Int)):=e1;clear e1 hle1 hle2 hle3;go_wp2;go_meet
    exact⟨by rw[E1.out],rfl⟩
   case rest=>
    obtain⟨rfl,hwc⟩:=hcut;obtain rfl:=hwc.symm;clear hwc
    have h25:Hid (∀W:World,Below w.heap.size w W->Calls Tryz.prog 45 #[.slice (some ⟨b1,o1+fr,none⟩) (te-fr) (vcap-fr),.slice (some ⟨b2,o2+fr,none⟩) (te-fr) (wcap-fr)] W fun e w'=>∃v,e=.returned v/\Zh w' W.heap.size v (ZbG ((vz.drop fr).take size) ((wz.drop fr).take size))/\Below W.heap.size W w'):=by
     intro W hW;have hp1:=(ZgG HV.out hW hb1);have hp2:=(ZgG HW.out hW hb2);have q1:=hp1.part (fr:=fr) (m:=te-fr) (by have:=HTO.out;omega);have q2:=hp2.part (fr:=fr) (m:=te-fr) (by have:=HTO.out;omega)
     have el:∀z:List Int,z.length=n->(z.drop fr).take (te-fr)=(z.drop fr).take size:=fun z hz=>by
      by_cases hc:fr+size<=n
      rw[show te-fr=size by have:=HTO.out;omega];rw[List.take_of_length_le (by simp;have:=HTO.out;omega),List.take_of_length_le (by simp;omega)]
     rw[el _ HLV.out.1] at q1;rw[el _ HLV.out.2] at q2;refine(HOF.out _ _ _ (vcap-fr) _ (wcap-fr) _ _ W q1 q2 (by omega) (by omega)).mono ?_;rintro e w' ⟨v,M,rfl,hM,ho,hb⟩;refine⟨v,rfl,?_,hb⟩;unfold ZbG;rw[ZfL hM];exact ho
    obtain⟨hL,hok,htot,hll,hfu,heq⟩:=HR.out;have hsum:=ZeM (vs:=(vz.drop fr).take size) (ws:=(wz.drop fr).take size) (by simp;have:=HLV.out;omega);have hclen:((vz.drop fr).take size).length<=size:=(by simp;omega);have htk:=Zbq (size:=(size:Int)) (by omega) (by omega) hok hsum.1 (by omega) (by omega);obtain⟨f',hf'⟩:∃f',fu=f'+1:=⟨fu-1,by omega⟩;have heq2:Yj size f' (Zt size Ls (ZbG ((vz.drop fr).take size) ((wz.drop fr).take size))) (vz.drop (fr+size)) (wz.drop (fr+size))=Yj size n [] vz wz:=by rw[<- heq,hf'];simp only[Yj];rw[if_neg (by simp;have:=HLV.out;omega),List.drop_drop,List.drop_drop]
    have HNX:Hid (Yt (Zt size Ls (ZbG ((vz.drop fr).take size) ((wz.drop fr).take size)))/\Zw (Zt size Ls (ZbG ((vz.drop fr).take size) ((wz.drop fr).take size)))<=1000*((fr+size:Nat):Int)/\(Zt size Ls (ZbG ((vz.drop fr).take size) ((wz.drop fr).take size))).length<=fr+size/\n-(fr+size)<=f'/\Yj size f' (Zt size Ls (ZbG ((vz.drop fr).take size) ((wz.drop fr).take size))) (vz.drop (fr+size)) (wz.drop (fr+size))=Yj size n [] vz wz):=by refine⟨htk.1,?_,?_,by omega,heq2⟩;rw[htk.2];omega;have:=ZfO (size:Int) Ls (ZbG ((vz.drop fr).take size) ((wz.drop fr).take size));omega
    have HTK:Hid (∀(W:World) (u:Value),Below wr.heap.size wr W->Zh W w.heap.size u (ZbG ((vz.drop fr).take size) ((wz.drop fr).take size))->Calls Tryz.prog 318 #[u7,u,.int .i64 size] W fun e w'=>∃v',e=.returned v'/\Zh4 w' w.heap.size v' (Zt size Ls (ZbG ((vz.drop fr).take size) ((wz.drop fr).take size)))/\Below w.heap.size W w'):=(by intro W u hW hu;obtain⟨vs,hX⟩:=hL;exact Zkm w.heap.size u7 u Ls _ size W ⟨vs,hX.below hW⟩ hu hok hsum.1 (by omega) (by omega) (by omega) (by omega) (by omega) (by have:=hW.size;omega));clear hL hok htot hll hfu heq hsum hclen htk heq2 HR;generalize ZbG ((vz.drop fr).take size) ((wz.drop fr).take size)=sE at *;go_wp2_with fail
    go_region_held3 (fun _=>True) (trivial) (first|(go_at_call 45;refine(h25.out wr.drew hbel.drew).mono ?_;rintro e w1 ⟨vv,rfl,ho1,hb1'⟩)|(go_at_call 318;refine(HTK.out w1 vv ((Below.refl _ _).drew.trans hb1') (ho1.mono (by have:=hb1'.size;simp at this ⊢;omega))).mono ?_;rintro e w2 ⟨v2,rfl,hL2,hb2'⟩))
    have HF:Hid (Zh4 w2 w.heap.size v2 (Zt size Ls sE)):=hL2;have hb4:Below w.heap.size w w2:=(hbel.drew.trans (hb1'.mono hsz)).trans hb2';clear hL2 hb2' hb1' ho1 h25 HTK hf';go_wp2;go_roundw;case rel=>exact⟨fr+size,f',_,by go_num,by omega,⟨HF.out,HNX.out⟩,hb4⟩
    case measure=>simp[intOf];omega
  have hnk:¬(fr:Int)<(n:Int):=by omega
  have HR2:Hid (Zh4 wr w.heap.size u7 Ls/\Yt Ls/\Zw Ls<=2000000/\Ls.length<=2000/\ZW size vz wz=YC size [] Ls):=by
   obtain⟨h1,h2,h3,h4,h5,h6⟩:=HR.out;refine⟨h1,h2,by omega,by omega,?_⟩;unfold ZW;rw[HLV.out.1,<- h6]
   cases fu with
   |zero=>rfl
   | succ f=>
    simp only[Yj];rw[if_pos (by simp;have:=HLV.out;omega)]
  obtain⟨vs,hX⟩:=HR2.out.1
  have hvf:∃a c,u7=.slice a Ls.length c:=by
   rcases hX.row.2 with⟨rfl,h1⟩|⟨g,cap,cur,rfl,_⟩
   exact⟨none,0,by rw[h1]⟩;exact⟨_,_,rfl⟩
  obtain⟨la,lc,rfl⟩:=hvf;have HX:Hid (ZcV wr w.heap.size (.slice la Ls.length lc) vs Ls):=hX;have HRR:Hid (Yt Ls/\Zw Ls<=2000000/\ZW size vz wz=YC size [] Ls):=⟨HR2.out.2.1,HR2.out.2.2.1,HR2.out.2.2.2.2⟩;have hln:=HR2.out.2.2.2.1;obtain⟨m,hm⟩:∃m,m=Ls.length:=⟨_,rfl⟩;have HM:Hid (m=Ls.length):=hm;rw[<- hm] at hln ⊢;clear hX hm HR HR2 HOF;obtain⟨wl,hwl⟩:∃wl,wl=wr:=⟨wr,rfl⟩;subst hwl;go_wp2_with fail
  go_loopw [40,10] (fun ti tal wr=>∃(k:Nat) (al:List Zm),ti=.int .i64 k/\k<=m/\Hid (Zh wr w.heap.size tal al/\Zy al/\al.length<=32/\Zc al+Zw (Ls.drop k)<=2000000/\YC size al (Ls.drop k)=YC size [] Ls)/\Below wl.heap.size wl wr) (fun ti _ _=>m-(intOf ti).toNat)
  case atStart=>exact⟨0,[],rfl,Qg _,⟨Zh.nil _ _,Zy.nil,by simp,by have:=HRR.out.2.1;simpa [Zc] using this,rfl⟩,Below.refl _ _⟩
  case round=>
   obtain⟨k,al,rfl,hk,HR,hbq⟩:=hrel;have hsq:=hbq.size
   by_cases hkm:k<m
   ·have hkl:k<Ls.length:=(by rw[<- HM.out];exact hkm);obtain⟨hal,gal,lal,tal,heq⟩:=HR.out;have hXq:=HX.out.below hbq;obtain⟨g,cap,hv,hgb,hgl,hcell,_⟩:=hXq.view (by omega);injection hv with hv1 hv2 hv3;subst hv1 hv3;clear hv2;have hck:=hcell k hkl;have hE:=hXq.each k hkl;have gO:=HRR.out.1.good _ (Zcr hkl);have lO:=HRR.out.1.len _ (Zcr hkl);have tO:=Zen hkl;have tP:=Yn (Ls:=Ls.drop (k+1)) (fun x hx=>HRR.out.1.good x (List.mem_of_mem_drop hx));obtain⟨ao,co,hvo,hEo,hno,_⟩:=hE.seen (by omega);rw[hvo] at hck;obtain⟨aa,ca,hva,hEa,hna,_⟩:=hal.seen (by omega);subst hva;have hd:Ls.drop k=Ls.getD k []::Ls.drop (k+1):=by rw[List.drop_eq_getElem_cons hkl];simp[List.getD,hkl]
    rw[hd] at heq;simp only[YC] at heq;have gj:Zy (Zr al (Ls.getD k [])):=Y6 gal gO (by omega);have gc:Zy (Yz (Zr al (Ls.getD k [])) size):=gj.sub (Q9 gj size);have lcu:=Zbj (Zr al (Ls.getD k [])) (size:=(size:Int)) (by omega);have lj:=Zcv al (Ls.getD k []);have tc:Zc (Yz (Zr al (Ls.getD k [])) size)=Zc al+Zc (Ls.getD k []):=(by rw[Zaz,Y9]);have HJ:Hid (Calls Tryz.prog 46 #[.slice aa al.length ca,.slice ao (Ls.getD k []).length co] wr fun e w'=>∃v,e=.returned v/\Zh w' wr.heap.size v (Zr al (Ls.getD k []))/\Below wr.heap.size wr w'):=Zfh aa ao al _ ca co wr hEa hEo gal gO
    have HREST:Hid (Zy (Zr al (Ls.getD k []))/\(Zr al (Ls.getD k [])).length<=64/\Zy (Yz (Zr al (Ls.getD k [])) size)/\(Yz (Zr al (Ls.getD k [])) size).length<=32/\Zc (Yz (Zr al (Ls.getD k [])) size)+Zw (Ls.drop (k+1))<=2000000/\YC size (Yz (Zr al (Ls.getD k [])) size) (Ls.drop (k+1))=YC size [] Ls):=⟨gj,by omega,gc,by omega,by omega,heq⟩;have bk1:(0:Int)<=(k:Int):=(by omega);have bk2:(k:Int)<(m:Int):=(by omega);clear hal gal tal heq hXq hcell hE gO lO tO tP hvo hEo hno hEa hna hd gj gc lcu lj tc HR;generalize (Ls.getD k []).length=no at *;go_wp2_with fail
    refine HJ.out.mono ?_;rintro e w1 ⟨vj,rfl,hoj,hbj⟩;have hs1:=hbj.size;obtain⟨aj,cj,rfl,hEj,hnj,_⟩:=hoj.seen (by have:=HREST.out.2.1;omega);have HCJ:Hid (Calls Tryz.prog 47 #[.slice aj (Zr al (Ls.getD k [])).length cj,.int .i64 size] w1 fun e w'=>∃v,e=.returned v/\Zh w' w1.heap.size v (Yz (Zr al (Ls.getD k [])) size)/\Below w1.heap.size w1 w'):=ZkS aj _ cj size w1 hEj HREST.out.1 hnj;clear hoj hEj hnj HJ;generalize (Zr al (Ls.getD k [])).length=nj at *;go_wp2_with fail
    refine HCJ.out.mono ?_;rintro e w2 ⟨vc,rfl,hoc,hbc⟩;have hs2:=hbc.size;have hb4:Below wl.heap.size wl w2:=hbq.trans ((hbj.trans (hbc.mono hs1)).mono hsq);have HF:Hid (Zh w2 w.heap.size vc (Yz (Zr al (Ls.getD k [])) size)):=hoc.mono (by omega);clear hoc hbc hbj HCJ hck;go_wp2;go_roundw;case rel=>exact⟨k+1,_,by go_num,by omega,⟨HF.out,HREST.out.2.2⟩,hb4⟩
    case measure=>simp[intOf];omega
   have hnk2:¬(k:Int)<(m:Int):=(by omega);have HF:Hid (Zh wr w.heap.size u10 (ZW size vz wz)/\Below w.heap.size w wr):=(by obtain⟨h1,_,_,_,h5⟩:=HR.out;rw[List.drop_eq_nil_of_le (by have:=HM.out;omega)] at h5;simp only[YC] at h5;rw[HRR.out.2.2,<- h5];exact⟨h1,hbel.trans (hbq.mono hsz)⟩);clear HR;go_wp2;go_ret;exact⟨_,rfl,HF.out.1,HF.out.2⟩
def Zh2:Prop:=∀w:World,Calls Tryz.prog 16 #[] w fun e w'=>e=.returned (.bool true)/\Below w.heap.size w w'
end Go.Proofs.YtfcgnpchbcmdeaaGreat
