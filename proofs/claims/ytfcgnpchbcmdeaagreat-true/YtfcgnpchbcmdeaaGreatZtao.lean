import Derived.Test.YtfcgnpchbcmdeaaGreatZtan
import Derived.Deep.Light
import Derived.Test.YtfcgnpchbcmdeaaGreatZtai
import Derived.Test.YtfcgnpchbcmdeaaGreatZtak
import Derived.Test.YtfcgnpchbcmdeaaGreatZtac
import Derived.Deep.RegionHeld3
namespace Go.Proofs.YtfcgnpchbcmdeaaGreat
set_option maxRecDepth 100000
set_option maxHeartbeats 4000000
open Go.RowKit
theorem Q5{w:World}{ops:Array Oper}{rest:List Oper}{o:Oper}{a:Act}{Q:Exit->Act->World->Prop}(hgd:o.guard=none)(s x:Operand)(ho:o.op=.call {callee:=.builtin .append,args:=#[s,x],argTypes:=#[29,29]})(i:TypeInfo)(hi:Tryz.prog.info? 98=some i)(hsize:i.size=4)(base g cap n m:Nat)(A B:List Zk)(y z:Zk)(hA:A.length=m)(hn:n=(A++y::B).length)(hs:a.eval s=.slice (some ⟨g,0,none⟩) m cap)(h0:Ze w base (.slice (some ⟨g,0,none⟩) n cap) (A++y::B))(ad:Addr)(c:Nat)(hx:a.eval x=.slice (some ad) 1 c)(hnews:∀j u,[Value.int .i64 z.v,.int .i64 z.lo,.int .i64 z.hi,.int .i64 z.wt][j]? =some u->w.cell? (ad.add j)=some u)(h:∀w',Ze w' base (.slice (some ⟨g,0,none⟩) n cap) (A++z::B)->w.grownBy w' (some g)->wpList Tryz.prog ops Q rest (a.put o.dst (.slice (some ⟨g,0,none⟩) (m+1) cap)) w'):wpList Tryz.prog ops Q (o::rest) a w:=by
 subst hn
 rcases h0.2 with⟨e,_⟩|⟨g',cap',cur,e,hb,hg,hnc,hcm,hcs,htake⟩
 simp at e;simp only[Value.slice.injEq,Option.some.injEq,Addr.mk.injEq,and_true,true_and] at e;obtain⟨rfl,rfl⟩:=e;have hlen:(A++y::B).length=m+1+B.length:=(by simp[hA];omega);have hfa:(ZD A).length=m*4:=(by rw[Yt,hA]);refine wpList_plain hgd fun K hK=>?_;have hrun:=run_append_room (P:=Tryz.prog) w 29 o.type 98 i Tryz.underlying29 hi g m cap cur hg ad 1 c [.int .i64 z.v,.int .i64 z.lo,.int .i64 z.hi,.int .i64 z.wt] (by rw[hsize];rfl) hnews (ZfJ z.v z.lo z.hi z.wt) (by omega) (by rw[hsize,hcs];simp;omega);rw[hsize] at hrun;have hcl:cur.toList=ZD (A++y::B)++cur.toList.drop ((A++y::B).length*4):=by rw[<- htake,List.take_append_drop]
 have hnew:cur.toList.take (m*4)++[Value.int .i64 z.v,.int .i64 z.lo,.int .i64 z.hi,.int .i64 z.wt]++cur.toList.drop (m*4+4)=ZD (A++z::B)++cur.toList.drop ((A++y::B).length*4):=by
  rw[hcl];generalize cur.toList.drop ((A++y::B).length*4)=T;rw[ZZ,ZZ];have e1:(ZD A++ZD (y::B)++T).take (m*4)=ZD A:=by rw[List.append_assoc,<- hfa,List.take_left]
  have e2:(ZD A++ZD (y::B)++T).drop (m*4+4)=ZD B++T:=(by rw[List.append_assoc,<- List.drop_drop,<- hfa,List.drop_left];simp[ZD,Yr]);have e3:List.drop ((A++y::B).length*4) (ZD A++ZD (y::B)++T)=T:=(by rw[<- ZZ,<- Yt,List.drop_left]);rw[e1,e2,e3];simp[ZD,Yr]
 have hsz:(ZD (A++z::B)++cur.toList.drop ((A++y::B).length*4)).length=cap*4:=(by have hct:cur.toList.length=cap*4:=(by rw[Array.length_toList,hcs]);rw[Qe,Yt,List.length_drop,hct];rw[hlen] at hnc ⊢;have:(A++z::B).length=m+1+B.length:=(by simp[hA]<;>omega);omega);unfold Oper.wp;simp only[execOp,ho,resolve,invoke,builtin,Sem.run_bind,Sem.run_pure,Result.andThen_ok,List.map_toArray,List.map_cons,List.map_nil,hs,hx,hrun];refine hK _ _ (h _ ?_ ?_)
 ·refine⟨by rw[Yt],.inr ⟨g,cap,_,by simp,hb,setRow_heap w g cur _ 98 _ hg,?_,hcm,?_,?_⟩⟩
  ·simpa using hnc
  simp only[List.length_cons,List.length_nil] at hnew ⊢;rw[List.size_toArray];simp only[Nat.zero_add,Nat.reduceAdd];rw[hnew];exact hsz;simp only[List.length_cons,List.length_nil,Nat.zero_add,Nat.reduceAdd];rw[hnew,show(A++z::B).length*4=(ZD (A++z::B)).length by rw[Yt],List.take_left]
 exact⟨rfl,rfl,rfl,by simp[World.setRow],fun k _ hk=>setRow_other w g k _ (fun e=>hk (by rw[e]))⟩
theorem Ze.pfx{w:World}{base g cap n m:Nat}{A B:List Zk}(h:Ze w base (.slice (some ⟨g,0,none⟩) n cap) (A++B))(hn:n=(A++B).length)(hm:m=A.length):Ze w base (.slice (some ⟨g,0,none⟩) m cap) A:=by
 subst hn hm
 rcases h.2 with⟨e,_⟩|⟨g',cap',cur,e,hb,hg,hnc,hcm,hcs,htake⟩
 simp at e;simp only[Value.slice.injEq,Option.some.injEq,Addr.mk.injEq,and_true,true_and] at e;obtain⟨rfl,rfl⟩:=e;refine⟨Yt A,.inr ⟨g,cap,cur,rfl,hb,hg,by simp at hnc;omega,hcm,hcs,?_⟩⟩;have:(ZD (A++B)).take (A.length*4)=ZD A:=(by rw[ZZ,<- Yt,List.take_left]);rw[<- this,<- htake,List.take_take];congr 1;simp<;>omega
theorem ZkD{ps:List (Int×Int)}(hp:∀p∈ps,1<=p.2)(v:Int):YN ps v<=Zs ps:=by
 induction ps with
 |nil=>simp[YN,Zs]
 | cons p r ih=>
  have h1:=ih (fun q hq=>hp q (by simp[hq]));have h2:=hp p (by simp);simp only[YN,Zs];split<;>omega
theorem ZdJ(W:World){n:Nat}(hW:W.heap.size=n)(c:Array Value):∀j u,c.toList[j]? =some u->(W.alloc (.cells c 98)).cell? ((⟨n,0,none⟩:Addr).add j)=some u:=by subst hW;exact Zu W c 98
theorem Qy{w w' w'':World}{r:Option Nat}(h:w.grownBy w' r)(k:w'.grownBy w'' r):w.grownBy w'' r:=
 ⟨k.os.trans h.os,k.tape.trans h.tape,k.output.trans h.output,Nat.le_trans h.size k.size,fun i hi hne=>(k.block i (Qh hi h.size) hne).trans (h.block i hi hne)⟩
theorem Za0{w w':World}{r:Option Nat}(h:Below w.heap.size w w'):w.grownBy w' r:=⟨h.os,h.tape,h.output,h.size,fun k hk _=>h.block k hk⟩
structure QS(S:List (Int×Int))(i:Nat)(M:List (Int×Int))(G:List Zk):Prop where
 sum:Z1 (S.take i) M
 len:M.length+G.length=i
def Yg(S:List (Int×Int))(i:Nat)(M:List (Int×Int))(G:List Zk):List Zk:=M.map Yv++(G++(S.drop i).map Yv)
theorem Zg3{S:List (Int×Int)}{i:Nat}{M:List (Int×Int)}{G:List Zk}(h:QS S i M G)(hi:i<=S.length):(Yg S i M G).length=S.length:=by have:=h.len;simp[Yg];omega
theorem ZdY{S:List (Int×Int)}{i:Nat}(hi:i<S.length):S.take (i+1)=S.take i++[S[i]]:=Qi hi
theorem Zg4{S:List (Int×Int)}{i:Nat}{M:List (Int×Int)}{G:List Zk}{v w:Int}(h:QS S i (M++[(v,w)]) G)(hi:i<S.length)(he:v=S[i].1):QS S (i+1) (M++[(v,w+S[i].2)]) (G++[Yv S[i]]):=by refine⟨?_,by have:=h.len;simp at this ⊢;omega⟩;rw[ZdY hi];have:=h.sum.same S[i].2;rw[show S[i]=(v,S[i].2) from Prod.ext he.symm rfl];exact this
theorem ZdG{S:List (Int×Int)}{i:Nat}{M:List (Int×Int)}{G:List Zk}(h:QS S i M G)(hi:i<S.length)(hs:S.Pairwise fun p q=>p.1<=q.1)(hne:∀v w N,M=N++[(v,w)]->v≠S[i].1):Z1 (S.take (i+1)) (M++[S[i]]):=by
 rw[ZdY hi];refine h.sum.more S[i] fun q hq=>?_;have hle:q.1<=S[i].1:=by obtain⟨j,hj,e⟩:=List.mem_iff_getElem.1 hq;rw[List.getElem_take] at e;rw[<- e];exact List.pairwise_iff_getElem.1 hs j i (by simp at hj;omega) hi (by simp at hj;omega)
 rcases Int.lt_or_eq_of_le hle with h1|h1
 exact h1;exfalso;obtain⟨r,hr,er⟩:=h.sum.all q hq;have hM:M≠[]:=List.ne_nil_of_mem hr;have hsp:M=M.dropLast++[M.getLast hM]:=(List.dropLast_concat_getLast hM).symm;refine hne (M.getLast hM).1 (M.getLast hM).2 M.dropLast hsp ?_;have h2:(M.getLast hM).1<=S[i].1:=by obtain⟨q',hq',eq'⟩:=h.sum.sub _ (List.getLast_mem hM);obtain⟨j,hj,e⟩:=List.mem_iff_getElem.1 hq';rw[List.getElem_take] at e;rw[<- eq',<- e];exact List.pairwise_iff_getElem.1 hs j i (by simp at hj;omega) hi (by simp at hj;omega)
 have h3:r.1<=(M.getLast hM).1:=by
  have hrise:=h.sum.rise;rw[hsp] at hr hrise
  rcases List.mem_append.1 hr with hr|hr
  have:=(List.pairwise_append.1 hrise).2.2 r hr (M.getLast hM) (by simp);omega;simp at hr;rw[hr];exact Int.le_refl _
 omega
theorem ZcF{S:List (Int×Int)}{i:Nat}{M:List (Int×Int)}{G:List Zk}(h:QS S i M G)(hi:i<S.length):∃y B G',Yg S i M G=M.map Yv++y::B/\Yg S (i+1) (M++[S[i]]) G'=M.map Yv++Yv S[i]::B/\(M++[S[i]]).length+G'.length=i+1:=by
 have hl:=h.len;have hsp:S.drop i=S[i]::S.drop (i+1):=List.drop_eq_getElem_cons hi
 cases G with
 |nil=>exact⟨Yv S[i],(S.drop (i+1)).map Yv,[],by unfold Yg;rw[hsp,List.map_cons,List.nil_append],by unfold Yg;simp,by simp at hl ⊢;omega⟩
 |cons y G=>exact⟨y,G++Yv S[i]::(S.drop (i+1)).map Yv,G++[Yv S[i]],by unfold Yg;rw[hsp,List.map_cons];rfl,by unfold Yg;simp,by simp at hl ⊢;omega⟩
theorem ZdF(g cap:Nat)(S:List (Int×Int))(base:Nat)(w:World)(h:Ze w base (.slice (some ⟨g,0,none⟩) S.length cap) (S.map Yv))(hs:S.Pairwise fun p q=>p.1<=q.1)(hp:∀p∈S,1<=p.2/\p.2<=1000)(hl:S.length<=2097152):Calls Tryz.prog 83 #[.slice (some ⟨g,0,none⟩) S.length cap] w fun e w'=>∃M,e=.returned (.slice (some ⟨g,0,none⟩) M.length cap)/\Z1 S M/\M.length<=S.length/\Ze w' base (.slice (some ⟨g,0,none⟩) M.length cap) (M.map Yv)/\w.grownBy w' (some g):=by
 obtain⟨i0,hinf,hz0,hz1,hz2⟩:=info_parts Ze4;have hgw:g<w.heap.size:=(World.ownsRow.lt h g rfl).2
 have hcap:S.length<=cap:=by
  rcases h.2 with⟨e,_⟩|⟨g',cap',cur,e,hb,hg,hnc,_⟩
  simp at e;simp only[Value.slice.injEq,Option.some.injEq,Addr.mk.injEq,and_true] at e;simp at hnc;omega
 have HO:Hid (Ze w base (.slice (some ⟨g,0,none⟩) S.length cap) (S.map Yv)):=h;have HS:Hid (S.Pairwise fun p q=>p.1<=q.1):=hs;have HP:Hid (∀p∈S,1<=p.2/\p.2<=1000):=hp;clear h hs hp;go_enter Tryz.func83,Tryz.ntmps83;go_wp2_with fail
 go_loopw [3,11] (fun tm ti wr=>∃(i:Nat) (M:List (Int×Int)) (G:List Zk),i<=S.length/\ti=.int .i64 i/\tm=.slice (some ⟨g,0,none⟩) M.length cap/\Hid (QS S i M G/\Ze wr base (.slice (some ⟨g,0,none⟩) S.length cap) (Yg S i M G)/\w.grownBy wr (some g))) (fun _ ti _=>S.length-(intOf ti).toNat)
 case atStart=>exact⟨0,[],[],Qg _,rfl,rfl,⟨Z1.nil,rfl⟩,by simpa [Yg] using HO.out,Zm _ _⟩
 case round=>
  obtain⟨i,M,G,hi,rfl,rfl,HR⟩:=hrel;obtain⟨hR,hown,hgr⟩:=HR.out;have HG:Hid (w.grownBy wr (some g)):=hgr;have hsz:=hgr.size;have hgr2:g<wr.heap.size:=by omega
  by_cases hil:i<S.length
  ·have hRl:=hR.len;have hsp:S.drop i=S[i]::S.drop (i+1):=List.drop_eq_getElem_cons hil;have hcat:Yg S i M G=(M.map Yv++G)++Yv S[i]::(S.drop (i+1)).map Yv:=(by unfold Yg;rw[hsp,List.map_cons,List.append_assoc]);have hml:=Zg3 hR (by omega);have hown':=hown;rw[hcat] at hown';obtain⟨c0,c1,c2,c3,cf⟩:=hown'.at (by rw[<- hcat,hml]) (show(M.map Yv++G).length=i by simp;omega);simp only[Yv] at c0 c1 c2 c3;have hpi:=HP.out S[i] (Qf hil);have bi1:(0:Int)<=(i:Int):=(by omega);have bi2:(i:Int)<(S.length:Int):=(by omega);have HOW:Hid (Ze wr base (.slice (some ⟨g,0,none⟩) S.length cap) (Yg S i M G)):=hown;clear hown hown' hgr HR
   rcases List.eq_nil_or_concat M with hM|⟨N,p,hM⟩
   ·subst hM;obtain⟨y,B,G2,hs1,hs2,hs3⟩:=ZcF hR hil;have hRn:QS S (i+1) ([]++[S[i]]) G2:=⟨ZdG hR hil HS.out (fun v w N e=>by simp at e),hs3⟩;have HRN:Hid (QS S (i+1) ([]++[S[i]]) G2):=hRn;have HS2:Hid (Yg S (i+1) ([]++[S[i]]) G2=[].map Yv++Yv S[i]::B):=hs2;have HOY:Hid (Ze wr base (.slice (some ⟨g,0,none⟩) S.length cap) ([].map Yv++y::B)):=hs1 ▸ HOW.out
    have HLN:Hid (S.length=([].map Yv++y::B).length):=show _=_ by rw[<- hs1,hml]
    clear hRn hs1 hs2 hs3;generalize S[i]=q at *;go_wp2_with fail
    go_big_quiet (fail);go_wp2_with (at_builtin;refine Q5 rfl (.tmp 40) (.tmp 42) rfl i0 hinf hz1 base g cap S.length 0 [] B y (Yv q) rfl HLN.out rfl (HOY.out.below (by repeat(first|with_reducible exact Below.refl _ _|with_reducible refine below_drewN ?_ _|with_reducible refine Below.drew ?_|with_reducible refine Below.alloc ?_ (by simp<;>omega) _))) ⟨wr.heap.size+1,0,none⟩ 1 rfl (ZdJ _ (by simp) #[.int .i64 q.1,.int .i64 0,.int .i64 0,.int .i64 q.2]) ?_)
    intro w5 hown5 hg5;have HW5:Hid (Ze w5 base (.slice (some ⟨g,0,none⟩) S.length cap) (Yg S (i+1) ([]++[q]) G2)):=(by rw[HS2.out];exact hown5);have HG5:Hid (w.grownBy w5 (some g)):=Qy HG.out (Qy (Za0 (by repeat(first|with_reducible exact Below.refl _ _|with_reducible refine below_drewN ?_ _|with_reducible refine Below.drew ?_|with_reducible refine Below.alloc ?_ (by simp<;>omega) _))) hg5);clear hown5 hg5;go_wp2;go_roundw;case rel=>exact⟨i+1,[]++[q],G2,by omega,by go_num,by simp,HRN.out,HW5.out,HG5.out⟩
    case measure=>simp[intOf];omega
   rw[List.concat_eq_append] at hM;subst hM;obtain⟨pv,pw⟩:=p;have hcat2:Yg S i (N++[(pv,pw)]) G=N.map Yv++Yv (pv,pw)::(G++(S.drop i).map Yv):=(by unfold Yg;simp);have hown2:=HOW.out;rw[hcat2] at hown2;obtain⟨d0,d1,d2,d3,_⟩:=hown2.at (by rw[<- hcat2,hml]) (show(N.map Yv).length=N.length by simp);simp only[Yv] at d0 d1 d2 d3;have hpw:pw=YN (S.take i) pv:=hR.sum.wt (pv,pw) (by simp);have hpt:∀r∈S.take i,1<=r.2:=fun r hr=>(HP.out r (List.mem_of_mem_take hr)).1;have hpw1:0<=pw/\pw<=1000*2097152:=by have h1:=Zff hpt pv;have h2:=ZkD hpt pv;have h3:=Zb9 (ps:=S.take i) (fun r hr=>(HP.out r (List.mem_of_mem_take hr)).2);have h4:(S.take i).length<=2097152:=(by simp;omega);omega
   have bl1:(0:Int)<=(N.length:Int):=(by omega);have hNi:N.length<i:=(by have:=hR.len;simp at this;omega);have bl2:(N.length:Int)<(N.length:Int)+1:=(by omega);have dg:decide ((0:Int)<=(N.length:Int))=true:=decide_eq_true (by omega)
   by_cases hv:pv=S[i].1
   ·have hRn:=Zg4 hR hil hv;have HRN:Hid (QS S (i+1) (N++[(pv,pw+S[i].2)]) (G++[Yv S[i]])):=hRn
    have HE2:Hid (Yg S (i+1) (N++[(pv,pw+S[i].2)]) (G++[Yv S[i]])=N.map Yv++(⟨pv,0,0,pw+S[i].2⟩:Zk)::(G++(S.drop i).map Yv)):=show _=_ by unfold Yg;rw[hsp];simp only[List.map_append,List.map_cons,List.map_nil,List.append_assoc,List.cons_append,List.nil_append,Yv]
    have HOW2:Hid (Ze wr base (.slice (some ⟨g,0,none⟩) S.length cap) (N.map Yv++Yv (pv,pw)::(G++(S.drop i).map Yv))):=hown2
    have HLL:Hid (S.length=(N.map Yv++Yv (pv,pw)::(G++(S.drop i).map Yv)).length):=show _=_ by rw[<- hcat2,hml]
    have hvb:(pv==S[i].1)=true:=beq_iff_eq.2 hv;clear hRn hpw hown2 hcat2 hv;generalize S[i]=q at *;go_wp2_with fail
    go_big_quiet (fail);go_wp2_with fail
    go_region
    all_goals go_wp2
    all_goals
     go_roundw
     case rel=>
      refine⟨i+1,N++[(pv,pw+q.2)],G++[Yv q],by omega,by go_num,by simp,HRN.out,?_,?_⟩;rw[HE2.out];exact(HOW2.out.below (by repeat(first|with_reducible exact Below.refl _ _|with_reducible refine below_drewN ?_ _|with_reducible refine Below.drew ?_|with_reducible refine Below.alloc ?_ (by simp<;>omega) _))).store HLL.out (by simp) (Zez (by simp) _);refine Zt (Qy HG.out (Za0 ?_)) _ _
      repeat(first|with_reducible exact Below.refl _ _|with_reducible refine below_drewN ?_ _|with_reducible refine Below.drew ?_|with_reducible refine Below.alloc ?_ (by simp<;>omega) _)
     case measure=>simp[intOf];omega
   have hvb:(pv==S[i].1)=false:=beq_eq_false_iff_ne.2 hv;obtain⟨y,B,G2,hs1,hs2,hs3⟩:=ZcF hR hil;have hRn:QS S (i+1) ((N++[(pv,pw)])++[S[i]]) G2:=⟨ZdG hR hil HS.out (fun v w N2 e=>by have:=(List.append_inj_right' e rfl);simp at this;rw[<- this.1];exact hv),hs3⟩;have HRN:Hid (QS S (i+1) ((N++[(pv,pw)])++[S[i]]) G2):=hRn;have HS2:Hid (Yg S (i+1) ((N++[(pv,pw)])++[S[i]]) G2=(N++[(pv,pw)]).map Yv++Yv S[i]::B):=hs2;have HOY:Hid (Ze wr base (.slice (some ⟨g,0,none⟩) S.length cap) ((N++[(pv,pw)]).map Yv++y::B)):=hs1 ▸ HOW.out
   have HLN:Hid (S.length=((N++[(pv,pw)]).map Yv++y::B).length):=show _=_ by rw[<- hs1,hml]
   clear hRn hs1 hs2 hs3;clear hpw hown2 hcat2 hv;generalize S[i]=q at *;go_wp2_with fail
   go_big_quiet (fail);go_wp2_with (at_builtin;refine Q5 rfl (.tmp 40) (.tmp 42) rfl i0 hinf hz1 base g cap S.length (N++[(pv,pw)]).length ((N++[(pv,pw)]).map Yv) B y (Yv q) (by simp) HLN.out rfl (HOY.out.below (by repeat(first|with_reducible exact Below.refl _ _|with_reducible refine below_drewN ?_ _|with_reducible refine Below.drew ?_|with_reducible refine Below.alloc ?_ (by simp<;>omega) _))) ⟨wr.heap.size+1,0,none⟩ 1 rfl (ZdJ _ (by simp) #[.int .i64 q.1,.int .i64 0,.int .i64 0,.int .i64 q.2]) ?_)
   intro w5 hown5 hg5;have HW5:Hid (Ze w5 base (.slice (some ⟨g,0,none⟩) S.length cap) (Yg S (i+1) ((N++[(pv,pw)])++[q]) G2)):=(by rw[HS2.out];simp only[List.map_append,List.map_cons,List.map_nil,List.append_assoc,List.cons_append,List.nil_append];exact hown5);have HG5:Hid (w.grownBy w5 (some g)):=Qy HG.out (Qy (Za0 (by repeat(first|with_reducible exact Below.refl _ _|with_reducible refine below_drewN ?_ _|with_reducible refine Below.drew ?_|with_reducible refine Below.alloc ?_ (by simp<;>omega) _))) hg5);clear hown5 hg5;go_wp2;go_roundw;case rel=>exact⟨i+1,(N++[(pv,pw)])++[q],G2,by omega,by go_num,by simp,HRN.out,HW5.out,HG5.out⟩
   case measure=>simp[intOf];omega
  have hie:S.length=i:=(by omega);have HF:Hid (Z1 S M/\Ze wr base (.slice (some ⟨g,0,none⟩) M.length cap) (M.map Yv)):=by refine⟨by have:=hR.sum;rwa [List.take_of_length_le (by omega)] at this,?_⟩;have hd:Yg S i M G=M.map Yv++G:=(by unfold Yg;rw[List.drop_eq_nil_of_le (by omega)];simp);rw[hd] at hown;exact hown.pfx (by have:=hR.len;simp;omega) (by simp)
  have HL:Hid (M.length<=S.length):=show _<=_ by have:=hR.len;omega
  clear hown hgr HR hie hR;go_wp2;go_ret;exact⟨M,rfl,HF.out.1,HL.out,HF.out.2,HG.out⟩
theorem ZjY:(Tryz.prog.info? 29).map (fun i=>(i.zero,i.size,i.bytes))=some (some (.slice none 0 0),1,24):=by kernel_rfl
theorem Ze.seen{w:World}{base:Nat}{v:Value}{L:List Zk}(h:Ze w base v L)(hl:L.length<=4194304):∃a c,v=.slice a L.length c/\ZQ w a L/\(a=none->c=0)/\L.length<=c:=by
 have h':=h
 rcases h.2 with⟨rfl,h0⟩|⟨g,cap,cur,rfl,_,hh,hnc,_⟩
 exact⟨none,0,by rw[h0],⟨hl,.inl h0⟩,fun _=>rfl,by omega⟩;refine⟨_,cap,rfl,⟨hl,.inr ⟨g,0,rfl,?_⟩⟩,(fun e=>by cases e),hnc⟩
 have key:∀i,i<L.length->w.cell? ⟨g,i*4,none⟩=some (.int .i64 (L.getD i e0).v)/\w.cell? ⟨g,i*4+1,none⟩=some (.int .i64 (L.getD i e0).lo)/\w.cell? ⟨g,i*4+2,none⟩=some (.int .i64 (L.getD i e0).hi)/\w.cell? ⟨g,i*4+3,none⟩=some (.int .i64 (L.getD i e0).wt)/\∀o,w.frozen? ⟨g,o,none⟩=false:=fun i hi=>by have e:L=L.take i++L.getD i e0::L.drop (i+1):=(by have:L.getD i e0=L[i]:=(by simp[List.getD,hi]);rw[this,<- List.drop_eq_getElem_cons hi,List.take_append_drop]);rw[e] at h';exact Ze.at (n:=L.length) (by rw[<- e] at h' ⊢;exact h') (by rw[<- e]) (by simp;omega)
 refine⟨fun _=>(Qb hh).1,fun i hi=>?_,fun i hi=>?_,fun i hi=>?_,fun i hi=>?_⟩;rw[Nat.zero_add];exact(key i hi).1;rw[Nat.zero_add];exact(key i hi).2.1;rw[Nat.zero_add];exact(key i hi).2.2.1;rw[Nat.zero_add];exact(key i hi).2.2.2.1
theorem Ze.mono{w:World}{b b':Nat}{v:Value}{L:List Zk}(h:Ze w b' v L)(hb:b<=b'):Ze w b v L:=by
 refine⟨h.1,?_⟩
 rcases h.2 with hn|⟨g,cap,cur,e,hg,r⟩
 exact .inl hn;exact .inr ⟨g,cap,cur,e,Nat.le_trans hb hg,r⟩
structure ZbF(w:World)(base:Nat)(v:Value)(vs:List Value)(Ls:List (List Zk)):Prop where
 row:w.ownsRow base 29 1 v Ls.length vs
 each:∀i,i<Ls.length->Ze w base (vs.getD i (.slice none 0 0)) (Ls.getD i [])
def Zfp(w:World)(base:Nat)(v:Value)(Ls:List (List Zk)):Prop:=∃vs,ZbF w base v vs Ls
theorem Ze.grown{w w':World}{base b2 e2 s2 n2:Nat}{v u:Value}{L:List Zk}{xs:List Value}(h:Ze w base v L)(g:w.ownsRow b2 e2 s2 u n2 xs)(hne:e2≠98)(hg:w.grownBy w' u.ownBlock):Ze w' base v L:=
 World.ownsRow.kept h hg (Zah g h hne)
theorem ZbF.below{w w':World}{base:Nat}{v:Value}{vs:List Value}{Ls:List (List Zk)}(h:ZbF w base v vs Ls)(hb:Below w.heap.size w w'):ZbF w' base v vs Ls:=
 ⟨(Za.of_below (S:=fun _=>False) hb).row h.row (fun _ _=>id),fun i hi=>(h.each i hi).below hb⟩
theorem ZbF.put{w:World}{base g cap n i:Nat}{vs:List Value}{Ls:List (List Zk)}{u:Value}{l:List Zk}(h:ZbF w base (.slice (some ⟨g,0,none⟩) n cap) vs Ls)(hn:n=Ls.length)(hu:Ze w base u l)(hi:i<n):ZbF (w.setCell ⟨g,i,none⟩ u) base (.slice (some ⟨g,0,none⟩) n cap) (vs.set i u) (Ls.set i l)/\w.grownBy (w.setCell ⟨g,i,none⟩ u) (some g):=by
 subst hn;obtain⟨h1,h2⟩:=World.ownsRow.stored h.row i u;have hl:vs.length=Ls.length:=(by have:=h.row.1;omega);refine⟨⟨by simpa using h1,fun j hj=>?_⟩,h2⟩;simp only[List.length_set] at hj
 by_cases e:j=i
 subst e;have e1:(vs.set j u).getD j (.slice none 0 0)=u:=(by simp[List.getD,hl,hj]);have e2:(Ls.set j l).getD j []=l:=(by simp[List.getD,hj]);rw[e1,e2];exact hu.grown h.row (by decide) h2;have e1:(vs.set i u).getD j (.slice none 0 0)=vs.getD j (.slice none 0 0):=(by simp[List.getD,Ne.symm e]);have e2:(Ls.set i l).getD j []=Ls.getD j []:=(by simp[List.getD,Ne.symm e]);rw[e1,e2];exact(h.each j hj).grown h.row (by decide) h2
theorem ZbF.view{w:World}{base:Nat}{v:Value}{vs:List Value}{Ls:List (List Zk)}(h:ZbF w base v vs Ls)(h0:0<Ls.length):∃g cap,v=.slice (some ⟨g,0,none⟩) Ls.length cap/\base<=g/\g<w.heap.size/\(∀i,i<Ls.length->w.cell? ⟨g,i,none⟩=some (vs.getD i (.slice none 0 0)))/\∀i,w.frozen? ⟨g,i,none⟩=false:=by
 have hl:vs.length=Ls.length:=by have:=h.row.1;omega
 rcases h.row.2 with⟨_,h1⟩|⟨g,cap,cur,rfl,hb,hh,_⟩
 omega;refine⟨g,cap,rfl,hb,(Qb hh).1,fun i hi=>?_,fun i=>World.ownsRow.frozenAt h.row i⟩;rw[World.ownsRow.cellAt h.row i (by omega)];simp[List.getD,hl,hi]
def Zap(Ls:List (List Zk))(k:Nat):List (List Zk):=List.replicate k []++Ls.drop k
theorem ZdC{Ls:List (List Zk)}{k:Nat}(h:k<=Ls.length):(Zap Ls k).length=Ls.length:=by simp[Zap];omega
theorem Zj2{Ls:List (List Zk)}{k:Nat}:(Zap Ls k).getD k []=Ls.getD k []:=by simp[Zap,List.getD,List.getElem?_append_right]
theorem ZfW{Ls:List (List Zk)}{k:Nat}(h:k<Ls.length)(l:List Zk):(Zap Ls k).set k l=List.replicate k []++l::Ls.drop (k+1):=by unfold Zap;rw[List.drop_eq_getElem_cons h,List.set_append_right _ _ (by simp),List.length_replicate,Nat.sub_self,List.set_cons_zero]
theorem Zii{Ls:List (List Zk)}{k:Nat}(h:k<Ls.length):(Zap Ls k).set k []=Zap Ls (k+1):=by rw[ZfW h,Zap,List.replicate_succ',List.append_assoc];rfl
theorem Zhi{size:Int}{Ls:List (List Zk)}{l:List Zk}{k:Nat}(h:k<Ls.length)(h0:(Ls.getD k []).length=0):Zw size (Ls.drop k) l=l::Ls.drop (k+1):=by rw[List.drop_eq_getElem_cons h];have:Ls.getD k []=Ls[k]:=(by simp[List.getD,h]);rw[this] at h0;simp only[Zw];rw[if_pos h0]
theorem Zgi{size:Int}{Ls:List (List Zk)}{l:List Zk}{k:Nat}(h:k<Ls.length)(h0:(Ls.getD k []).length≠0):Zw size (Ls.drop k) l=[]::Zw size (Ls.drop (k+1)) (ZV (Zn (Ls.getD k []) l) size):=by rw[List.drop_eq_getElem_cons h];have:Ls.getD k []=Ls[k]:=(by simp[List.getD,h]);rw[this] at h0 ⊢;simp only[Zw];rw[if_neg h0]
theorem ZcI{Ls:List (List Zk)}{k:Nat}(h:k<Ls.length):ZM (Ls.drop k)=Zb (Ls.getD k [])+ZM (Ls.drop (k+1)):=by rw[List.drop_eq_getElem_cons h];have:Ls.getD k []=Ls[k]:=(by simp[List.getD,h]);rw[this];rfl
theorem Zbg{Ls:List (List Zk)}{k:Nat}(h:k<Ls.length):Ls.getD k []∈Ls:=by simp[List.getD,h]
theorem Zhh(base:Nat)(v u:Value)(Ls:List (List Zk))(l:List Zk)(size:Int)(w:World)(hL:Zfp w base v Ls)(hu:Ze w base u l)(hok:Qv Ls)(hg:Zo l)(hll:l.length<=32)(hs:2<=size)(hs2:size<=32)(ht:ZM Ls+Zb l<=1000000000000)(hn:Ls.length<=1000)(hbase:base<=w.heap.size):Calls Tryz.prog 318 #[v,u,.int .i64 size] w fun e w'=>∃v',e=.returned v'/\Zfp w' base v' (Zw size Ls l)/\Below base w w':=by
 obtain⟨vs0,hX0⟩:=hL;obtain⟨j0,jinf,jz0,jz1,jz2⟩:=info_parts ZjY
 have hvf:∃a c,v=.slice a Ls.length c:=by
  rcases hX0.row.2 with⟨rfl,h1⟩|⟨g,cap,cur,rfl,_⟩
  exact⟨none,0,by rw[h1]⟩;exact⟨_,_,rfl⟩
 obtain⟨va,vcap,rfl⟩:=hvf;have HX0:Hid (ZbF w base (.slice va Ls.length vcap) vs0 Ls):=hX0;have HU:Hid (Ze w base u l/\Zo l/\l.length<=32/\ZM Ls+Zb l<=1000000000000):=⟨hu,hg,hll,ht⟩;have HOK:Hid (Qv Ls):=hok;obtain⟨n,hnn⟩:∃n,n=Ls.length:=⟨_,rfl⟩;have HN:Hid (n=Ls.length):=hnn;rw[<- hnn] at hn ⊢;clear hX0 hu hok hg hll ht hnn;go_enter Tryz.func318,Tryz.ntmps318;go_wp2_with fail
 go_loopw [11,1] (fun ti tu wr=>∃(k:Nat) (lk:List Zk) (vs:List Value),ti=.int .i64 k/\k<=n/\Hid (ZbF wr base (.slice va n vcap) vs (Zap Ls k)/\Ze wr base tu lk/\Zo lk/\lk.length<=32/\ZM (Ls.drop k)+Zb lk<=1000000000000/\Zw size Ls l=List.replicate k []++Zw size (Ls.drop k) lk)/\Below base w wr) (fun ti _ _=>n-(intOf ti).toNat)
 case atStart=>exact⟨0,l,vs0,rfl,Qg _,⟨by have:=HX0.out;rw[<- HN.out] at this;exact this,HU.out.1,HU.out.2.1,HU.out.2.2.1,HU.out.2.2.2,rfl⟩,Below.refl _ _⟩
 case round=>
  clear HX0 HU;obtain⟨k,lk,vs,rfl,hk,HR,hbel⟩:=hrel;obtain⟨hX,hu,hg,hll,ht,heq⟩:=HR.out;clear HR;have hsz:=hbel.size
  by_cases hkn:k<n
  ·have hkl:k<Ls.length:=(by rw[<- HN.out];exact hkn);have hlen:=ZdC (show k<=Ls.length by omega);obtain⟨g,cap,hv,hgb,hgl,hcell,hfr⟩:=hX.view (by omega);injection hv with hv1 hv2 hv3;subst hv1 hv3;clear hv2;have hck:=hcell k (by omega);have hE:=hX.each k (by omega);rw[Zj2] at hE;have gO:=HOK.out.good _ (Zbg hkl);have lO:=HOK.out.len _ (Zbg hkl);have tO:=ZcI hkl;obtain⟨ao,co,hvo,hEo,hno,_⟩:=hE.seen (by omega);rw[hvo] at hck;have hfk:=hfr k;have bk1:(0:Int)<=(k:Int):=(by omega);have bk2:(k:Int)<(n:Int):=(by omega);have HX:Hid (ZbF wr base (.slice (some ⟨g,0,none⟩) n vcap) vs (Zap Ls k)):=hX;obtain⟨al,cl,hvl,hEl,hnl,_⟩:=hu.seen (by omega);subst hvl
   by_cases h0:(Ls.getD k []).length=0
   ·have hT:=Zhi (size:=size) (l:=lk) hkl h0;have HF:Hid (Zfp (wr.setCell ⟨g,k,none⟩ (.slice al lk.length cl)) base (.slice (some ⟨g,0,none⟩) n vcap) (Zw size Ls l)/\Below base w (wr.setCell ⟨g,k,none⟩ (.slice al lk.length cl))):=(by obtain⟨p1,p2⟩:=hX.put (i:=k) (by rw[hlen];exact HN.out) hu hkn;refine⟨⟨vs.set k (.slice al lk.length cl),?_⟩,hbel.setCell hgb _⟩;rw[heq,hT,<- ZfW hkl];exact p1);rw[h0] at hck;clear hX hu hcell hE hEo hEl hvo heq hfr hT hlen hnl;go_wp2;go_ret;exact⟨_,rfl,HF.out.1,HF.out.2⟩
   have hT:=Zgi (size:=size) (l:=lk) hkl h0;have hb0:(((Ls.getD k []).length:Int)==0)=false:=beq_eq_false_iff_ne.2 (by omega);have pj:=(YM gO).1;have pl:=(YM hg).1;have pr:=Qu (Ls:=Ls.drop (k+1)) (fun x hx=>HOK.out.good x (List.mem_of_mem_drop hx));have gj:Zo (Zn (Ls.getD k []) lk):=QY gO hg (by omega);have gc:Zo (ZV (Zn (Ls.getD k []) lk) size):=gj.sub (QV gj size);have lc:=ZaY (Zn (Ls.getD k []) lk) hs;have lj:=Zbj (Ls.getD k []) lk;have tc:Zb (ZV (Zn (Ls.getD k []) lk) size)=Zb (Ls.getD k [])+Zb lk:=by rw[Zbn,ZaK]
   have HJ:Hid (Calls Tryz.prog 46 #[.slice ao (Ls.getD k []).length co,.slice al lk.length cl] wr fun e w'=>∃v,e=.returned v/\Ze w' wr.heap.size v (Zn (Ls.getD k []) lk)/\Below wr.heap.size wr w'):=Zdz ao al _ lk co cl wr hEo hEl gO hg;have HREST:Hid (Zo (Zn (Ls.getD k []) lk)/\(Zn (Ls.getD k []) lk).length<=64/\Zo (ZV (Zn (Ls.getD k []) lk) size)/\(ZV (Zn (Ls.getD k []) lk) size).length<=32/\ZM (Ls.drop (k+1))+Zb (ZV (Zn (Ls.getD k []) lk) size)<=1000000000000/\Zw size Ls l=List.replicate (k+1) []++Zw size (Ls.drop (k+1)) (ZV (Zn (Ls.getD k []) lk) size)):=by refine⟨gj,by omega,gc,by omega,by omega,?_⟩;rw[heq,hT,List.replicate_succ',List.append_assoc];rfl
   have HKL:Hid (k<Ls.length):=hkl;clear hX hu hcell hE hEo hEl hvo heq hfr hT hlen gj gc lc lj tc pj pl pr gO lO tO ht hg hno hnl h0 hkl;generalize (Ls.getD k []).length=no at *;go_wp2_with fail
   refine HJ.out.mono ?_;rintro e w1 ⟨vj,rfl,hoj,hbj⟩;have hs1:=hbj.size;obtain⟨aj,cj,rfl,hEj,hnj,_⟩:=hoj.seen (by have:=HREST.out.2.1;omega);have HCJ:Hid (Calls Tryz.prog 47 #[.slice aj (Zn (Ls.getD k []) lk).length cj,.int .i64 size] w1 fun e w'=>∃v,e=.returned v/\Ze w' w1.heap.size v (ZV (Zn (Ls.getD k []) lk) size)/\Below w1.heap.size w1 w'):=ZeY aj _ cj size w1 hEj HREST.out.1 hnj;clear hoj hEj hnj HJ;generalize (Zn (Ls.getD k []) lk).length=nj at *;go_wp2_with fail
   refine HCJ.out.mono ?_;rintro e w2 ⟨vc,rfl,hoc,hbc⟩;have hs2:=hbc.size;have hb12:Below wr.heap.size wr w2:=hbj.trans (hbc.mono hs1)
   have hfin:∃vs',Hid (ZbF (w2.setCell ⟨g,k,none⟩ (.slice none 0 0)) base (.slice (some ⟨g,0,none⟩) n vcap) vs' (Zap Ls (k+1))/\Ze (w2.setCell ⟨g,k,none⟩ (.slice none 0 0)) base vc (ZV (Zn (Ls.getD k []) lk) size)/\Zo (ZV (Zn (Ls.getD k []) lk) size)/\(ZV (Zn (Ls.getD k []) lk) size).length<=32/\ZM (Ls.drop (k+1))+Zb (ZV (Zn (Ls.getD k []) lk) size)<=1000000000000/\Zw size Ls l=List.replicate (k+1) []++Zw size (Ls.drop (k+1)) (ZV (Zn (Ls.getD k []) lk) size))/\Below base w (w2.setCell ⟨g,k,none⟩ (.slice none 0 0))/\w2.cell? ⟨g,k,none⟩=some (.slice ao no co)/\w2.frozen? ⟨g,k,none⟩=false:=by
    have hX2:=HX.out.below hb12;have hkl:k<Ls.length:=HKL.out;have hnl:n=(Zap Ls k).length:=(by rw[ZdC (Nat.le_of_lt hkl)];exact HN.out);obtain⟨p1,p2⟩:=hX2.put (i:=k) hnl (Ze.nil w2 base) hkn;rw[Zii hkl] at p1;have hoc2:=(hoc.mono (show base<=w1.heap.size by omega)).grown hX2.row (by decide) p2;refine⟨_,⟨p1,hoc2,HREST.out.2.2⟩,?_,?_,?_⟩;exact(hbel.trans (hb12.mono (by omega))).setCell hgb _;exact(hb12.cell (p:=⟨g,k,none⟩) hgl).trans hck;have h2:=hX2.row;rw[<- hnl] at h2;exact World.ownsRow.frozenAt h2 k
   obtain⟨vs',HFIN,hbf,hck2,hfk2⟩:=hfin;clear hoc hbc hb12 hbj HX HCJ HREST hck hfk;go_wp2;go_roundw;case rel=>exact⟨k+1,_,vs',by go_num,by omega,HFIN,hbf⟩
   case measure=>simp[intOf];omega
  have hkn2:k=n:=(by omega);have hT:Zw size Ls l=List.replicate k []++[lk]:=(by rw[heq,List.drop_eq_nil_of_le (by have:=HN.out;omega)];rfl);have hnl:(Zap Ls k).length=n:=(by rw[ZdC (by have:=HN.out;omega)];exact HN.out.symm);have hlk:Zap Ls k=List.replicate k []:=(by unfold Zap;rw[List.drop_eq_nil_of_le (by have:=HN.out;omega),List.append_nil]);have hnk:¬(k:Int)<(n:Int):=(by omega);obtain⟨al,cl,hvl,hEl,hnl',_⟩:=hu.seen (by omega);subst hvl;have HX:Hid (ZbF wr base (.slice va n vcap) vs (Zap Ls k)):=hX;have HROW:Hid (wr.ownsRow base 29 1 (.slice va n vcap) n vs):=(by have:=hX.row;rw[hnl] at this;exact this);have HU2:Hid (Ze wr base (.slice al lk.length cl) lk):=hu;have HT:Hid (Zw size Ls l=Zap Ls k++[lk]):=(by rw[hlk];exact hT);clear hX hu hT hlk heq hg ht hEl hnl'
  go_wp2_with (at_builtin;refine Zi rfl (.tmp 33) (.tmp 35) 80 rfl base 29 j0 (.slice none 0 0) 1 24 Tryz.underlying80 jinf jz0 jz1 jz2 rfl (by decide) _ n vs rfl (HROW.out.alloc _) ⟨wr.heap.size,0,none⟩ 1 1 [.slice al lk.length cl] rfl rfl ?_ ?_ ?_ ?_ ?_ ?_ ?_)
  rfl;unfold maxLen;omega;omega;omega;intro v3 w3 H3
  have HF:Hid (Zfp w3 base v3 (Zw size Ls l)/\Below base w w3):=by
   obtain⟨q1,q2,q3,_⟩:=H3.out;have hvl:vs.length=n:=(by have:=HROW.out.1;omega);refine⟨⟨vs++[.slice al lk.length cl],?_⟩,?_⟩
   ·rw[HT.out];refine⟨by rw[Qe,hnl];exact q1,fun i hi=>?_⟩;rw[Qe,hnl] at hi;simp at hi
    by_cases hin:i<n
    have e1:(vs++[Value.slice al lk.length cl]).getD i (.slice none 0 0)=vs.getD i (.slice none 0 0):=(by simp[List.getD,List.getElem?_append_left,hvl,hin]);have e2:(Zap Ls k++[lk]).getD i []=(Zap Ls k).getD i []:=(by simp[List.getD,List.getElem?_append_left,hnl,hin]);rw[e1,e2];exact((HX.out.each i (by omega)).alloc _).grown (HROW.out.alloc _) (by decide) q2;have e0:i=n:=(by omega);subst e0;have e1:(vs++[Value.slice al lk.length cl]).getD i (.slice none 0 0)=.slice al lk.length cl:=(by simp[List.getD,<- hvl]);have e2:(Zap Ls k++[lk]).getD i []=lk:=(by simp[List.getD,<- hnl]);rw[e1,e2];exact(HU2.out.alloc _).grown (HROW.out.alloc _) (by decide) q2
   exact hbel.trans (((Below.refl _ _).alloc (by omega) _).grown q2 (by simp;omega) (fun k hk=>(HROW.out.lt k hk).1))
  clear H3;go_wp2;go_ret;exact⟨_,rfl,HF.out.1,HF.out.2⟩
def ZgA:Prop:=∀(va wa:Option Addr) (vl vc wl wc:Nat) (vz wz:List Int) (w:World),Zx w va vl vz->Zx w wa wl wz->vl<=2097152->wl<=2097152->
  Calls Tryz.prog 45 #[.slice va vl vc,.slice wa wl wc] w fun e w'=>∃v M,e=.returned v/\Z1 (Zg vz wz) M/\Ze w' w.heap.size v (ZB 0 M)/\Below w.heap.size w w'
theorem ZhO{vs ws:List Int}(h:vs.length<=2097152):Zo (Zbb vs ws)/\(Zbb vs ws).length<=vs.length/\Zb (Zbb vs ws)<=1000*(vs.length:Int):=by
 have hs:=ZdS (Zg vs ws);have hg:Zo (Zbb vs ws):=hs.good h;have hl:=Zae vs ws;refine⟨hg,?_,?_⟩
 ·have:=hg.len (U:=(Zg vs ws).map fun p=>p.1) (fun e he=>by
   obtain⟨p,hp,h1,_⟩:=(Zbm (Zb8 (Zg vs ws)) 0).1 e he;obtain⟨q,hq,e2⟩:=hs.sub p hp;rw[List.mem_map]
   exact⟨q,hq,by omega⟩)
  simp at this;omega
 have h1:=(ZE.of_sum hs).total;have h2:=Zb9 (ps:=Zg vs ws) (fun p hp=>(Za7 hp).1.2);unfold Zbb;rw[h1];have:((Zg vs ws).length:Int)<=(vs.length:Int):=(by omega);omega
theorem Zx.part{w:World}{b off n fr m:Nat}{zs:List Int}(h:Zx w (some ⟨b,off,none⟩) n zs)(hm:fr+m<=n):Zx w (some ⟨b,off+fr,none⟩) m ((zs.drop fr).take m):=by
 obtain⟨h1,h2,h3⟩:=h;refine⟨by simp;omega,fun z hz=>h2 z (List.mem_of_mem_drop (List.mem_of_mem_take hz)),?_⟩
 by_cases h0:m=0
 exact .inl h0
 rcases h3 with h3|⟨b',o',e,hlt,hc⟩
 omega;injection e with e;injection e with e1 e2;subst e1 e2;refine .inr ⟨b,off+fr,rfl,hlt,fun i hi=>?_⟩;rw[show off+fr+i=off+(fr+i) by omega,hc (fr+i) (by omega)];congr 2;simp[List.getD,List.getElem?_drop,hi]
theorem ZeB{w w':World}{b off n B:Nat}{zs:List Int}(h:Zx w (some ⟨b,off,none⟩) n zs)(hb:Below B w w')(hlt:b<B):Zx w' (some ⟨b,off,none⟩) n zs:=by
 obtain⟨h1,h2,h3⟩:=h;refine⟨h1,h2,?_⟩
 rcases h3 with h3|⟨b',o',e,hlt',hc⟩
 exact .inl h3;injection e with e;injection e with e1 e2;subst e1 e2;exact .inr ⟨b,off,rfl,Qh hlt' hb.size,fun i hi=>(hb.cell (p:=⟨b,off+i,none⟩) hlt).trans (hc i hi)⟩
theorem Ze3(hOf:ZgA)(va wa:Option Addr)(n vcap wcap size:Nat)(vz wz:List Int)(w:World)(hv:Zx w va n vz)(hw:Zx w wa n wz)(hn:n<=1000)(hc1:n<=vcap)(hc2:n<=wcap)(hs:2<=size)(hs2:size<=32):Calls Tryz.prog 274 #[.slice va n vcap,.slice wa n wcap,.int .i64 size] w fun e w'=>∃v,e=.returned v/\Ze w' w.heap.size v (Yd size vz wz)/\Below w.heap.size w w':=by
 have HV:Hid (Zx w va n vz):=hv;have HW:Hid (Zx w wa n wz):=hw;have HOF:Hid ZgA:=hOf;have HLV:Hid (vz.length=n/\wz.length=n):=⟨hv.1,hw.1⟩;clear hv hw hOf;go_enter Tryz.func274,Tryz.ntmps274;go_wp2_with fail
 go_loopw [7,8] (fun tl tf wr=>∃(fr fu:Nat) (Ls:List (List Zk)),tf=.int .i64 fr/\fr<=n+size/\Hid (Zfp wr w.heap.size tl Ls/\Qv Ls/\ZM Ls<=1000*(fr:Int)/\Ls.length<=fr/\n-fr<=fu/\YC size fu Ls (vz.drop fr) (wz.drop fr)=YC size n [] vz wz)/\Below w.heap.size w wr) (fun _ tf _=>n+size-(intOf tf).toNat)
 case atStart=>exact⟨0,n,[],rfl,Qg _,⟨⟨[],World.ownsRow_nil _ _ _ _,fun i hi=>by simp at hi⟩,Qv.nil,by simp[ZM],by simp,by omega,rfl⟩,Below.refl _ _⟩
 case round=>
  obtain⟨fr,fu,Ls,rfl,hfr,HR,hbel⟩:=hrel;have hsz:=hbel.size
  by_cases hkn:fr<n
  ·rcases HV.out with⟨_,_,h0|⟨b1,o1,rfl,hb1,_⟩⟩;omega;rcases HW.out with⟨_,_,h0|⟨b2,o2,rfl,hb2,_⟩⟩;omega;obtain⟨te,hto⟩:∃te,te=min (fr+size) n:=⟨_,rfl⟩;have hlt1:(fr:Int)<(n:Int):=(by omega);have hle1:(fr:Int)<=(te:Int):=(by omega);have hle2:(te:Int)<=(vcap:Int):=(by omega);have hle3:(te:Int)<=(wcap:Int):=(by omega);have hne1:¬vcap=fr:=(by omega);have hne2:¬wcap=fr:=(by omega);have HTO:Hid (te=min (fr+size) n):=hto;clear hto;have hmm:te-fr<=size:=(by have:=HTO.out;omega);go_upto_region 5 with fail;go_cut [9] (fun v wx=>v=.int .i64 te/\wx=wr)
   case first=>
    by_cases hc:(fr:Int)+(size:Int)<=(n:Int)
    ·have e1:(te:Int)=(fr:Int)+(size:Int):=(by have:=HTO.out;omega);have E1:Hid ((te:Int)=(fr:Int)+(size:Int)):=e1;clear e1 hle1 hle2 hle3;go_wp2;go_meet
     exact⟨by rw[E1.out],rfl⟩
    have e1:(te:Int)=(n:Int):=(by have:=HTO.out;omega);have E1:Hid ((te:Int)=(n:Int)):=e1;clear e1 hle1 hle2 hle3;go_wp2;go_meet
    exact⟨by rw[E1.out],rfl⟩
   case rest=>
    obtain⟨rfl,hwc⟩:=hcut;obtain rfl:=hwc.symm;clear hwc
    have h25:Hid (∀W:World,Below w.heap.size w W->Calls Tryz.prog 45 #[.slice (some ⟨b1,o1+fr,none⟩) (te-fr) (vcap-fr),.slice (some ⟨b2,o2+fr,none⟩) (te-fr) (wcap-fr)] W fun e w'=>∃v,e=.returned v/\Ze w' W.heap.size v (Zbb ((vz.drop fr).take size) ((wz.drop fr).take size))/\Below W.heap.size W w'):=by
     intro W hW;have hp1:=(ZeB HV.out hW hb1);have hp2:=(ZeB HW.out hW hb2);have q1:=hp1.part (fr:=fr) (m:=te-fr) (by have:=HTO.out;omega);have q2:=hp2.part (fr:=fr) (m:=te-fr) (by have:=HTO.out;omega)
     have el:∀z:List Int,z.length=n->(z.drop fr).take (te-fr)=(z.drop fr).take size:=fun z hz=>by
      by_cases hc:fr+size<=n
      rw[show te-fr=size by have:=HTO.out;omega];rw[List.take_of_length_le (by simp;have:=HTO.out;omega),List.take_of_length_le (by simp;omega)]
     rw[el _ HLV.out.1] at q1;rw[el _ HLV.out.2] at q2;refine(HOF.out _ _ _ (vcap-fr) _ (wcap-fr) _ _ W q1 q2 (by omega) (by omega)).mono ?_;rintro e w' ⟨v,M,rfl,hM,ho,hb⟩;refine⟨v,rfl,?_,hb⟩;unfold Zbb;rw[ZdR hM];exact ho
    obtain⟨hL,hok,htot,hll,hfu,heq⟩:=HR.out;have hsum:=ZhO (vs:=(vz.drop fr).take size) (ws:=(wz.drop fr).take size) (by simp;have:=HLV.out;omega);have hclen:((vz.drop fr).take size).length<=size:=(by simp;omega);have htk:=Zcw (size:=(size:Int)) (by omega) (by omega) hok hsum.1 (by omega) (by omega);obtain⟨f',hf'⟩:∃f',fu=f'+1:=⟨fu-1,by omega⟩;have heq2:YC size f' (Zw size Ls (Zbb ((vz.drop fr).take size) ((wz.drop fr).take size))) (vz.drop (fr+size)) (wz.drop (fr+size))=YC size n [] vz wz:=by rw[<- heq,hf'];simp only[YC];rw[if_neg (by simp;have:=HLV.out;omega),List.drop_drop,List.drop_drop]
    have HNX:Hid (Qv (Zw size Ls (Zbb ((vz.drop fr).take size) ((wz.drop fr).take size)))/\ZM (Zw size Ls (Zbb ((vz.drop fr).take size) ((wz.drop fr).take size)))<=1000*((fr+size:Nat):Int)/\(Zw size Ls (Zbb ((vz.drop fr).take size) ((wz.drop fr).take size))).length<=fr+size/\n-(fr+size)<=f'/\YC size f' (Zw size Ls (Zbb ((vz.drop fr).take size) ((wz.drop fr).take size))) (vz.drop (fr+size)) (wz.drop (fr+size))=YC size n [] vz wz):=by refine⟨htk.1,?_,?_,by omega,heq2⟩;rw[htk.2];omega;have:=ZdV (size:Int) Ls (Zbb ((vz.drop fr).take size) ((wz.drop fr).take size));omega
    have HTK:Hid (∀(W:World) (u:Value),Below wr.heap.size wr W->Ze W w.heap.size u (Zbb ((vz.drop fr).take size) ((wz.drop fr).take size))->Calls Tryz.prog 318 #[u7,u,.int .i64 size] W fun e w'=>∃v',e=.returned v'/\Zfp w' w.heap.size v' (Zw size Ls (Zbb ((vz.drop fr).take size) ((wz.drop fr).take size)))/\Below w.heap.size W w'):=(by intro W u hW hu;obtain⟨vs,hX⟩:=hL;exact Zhh w.heap.size u7 u Ls _ size W ⟨vs,hX.below hW⟩ hu hok hsum.1 (by omega) (by omega) (by omega) (by omega) (by omega) (by have:=hW.size;omega));clear hL hok htot hll hfu heq hsum hclen htk heq2 HR;generalize Zbb ((vz.drop fr).take size) ((wz.drop fr).take size)=sE at *;go_wp2_with fail
    go_region_held3 (fun _=>True) (trivial) (first|(go_at_call 45;refine(h25.out wr.drew hbel.drew).mono ?_;rintro e w1 ⟨vv,rfl,ho1,hb1'⟩)|(go_at_call 318;refine(HTK.out w1 vv ((Below.refl _ _).drew.trans hb1') (ho1.mono (by have:=hb1'.size;simp at this ⊢;omega))).mono ?_;rintro e w2 ⟨v2,rfl,hL2,hb2'⟩))
    have HF:Hid (Zfp w2 w.heap.size v2 (Zw size Ls sE)):=hL2;have hb4:Below w.heap.size w w2:=(hbel.drew.trans (hb1'.mono hsz)).trans hb2';clear hL2 hb2' hb1' ho1 h25 HTK hf';go_wp2;go_roundw;case rel=>exact⟨fr+size,f',_,by go_num,by omega,⟨HF.out,HNX.out⟩,hb4⟩
    case measure=>simp[intOf];omega
  have hnk:¬(fr:Int)<(n:Int):=by omega
  have HR2:Hid (Zfp wr w.heap.size u7 Ls/\Qv Ls/\ZM Ls<=2000000/\Ls.length<=2000/\Yd size vz wz=YJ size [] Ls):=by
   obtain⟨h1,h2,h3,h4,h5,h6⟩:=HR.out;refine⟨h1,h2,by omega,by omega,?_⟩;unfold Yd;rw[HLV.out.1,<- h6]
   cases fu with
   |zero=>rfl
   | succ f=>
    simp only[YC];rw[if_pos (by simp;have:=HLV.out;omega)]
  obtain⟨vs,hX⟩:=HR2.out.1
  have hvf:∃a c,u7=.slice a Ls.length c:=by
   rcases hX.row.2 with⟨rfl,h1⟩|⟨g,cap,cur,rfl,_⟩
   exact⟨none,0,by rw[h1]⟩;exact⟨_,_,rfl⟩
  obtain⟨la,lc,rfl⟩:=hvf;have HX:Hid (ZbF wr w.heap.size (.slice la Ls.length lc) vs Ls):=hX;have HRR:Hid (Qv Ls/\ZM Ls<=2000000/\Yd size vz wz=YJ size [] Ls):=⟨HR2.out.2.1,HR2.out.2.2.1,HR2.out.2.2.2.2⟩;have hln:=HR2.out.2.2.2.1;obtain⟨m,hm⟩:∃m,m=Ls.length:=⟨_,rfl⟩;have HM:Hid (m=Ls.length):=hm;rw[<- hm] at hln ⊢;clear hX hm HR HR2 HOF;obtain⟨wl,hwl⟩:∃wl,wl=wr:=⟨wr,rfl⟩;subst hwl;go_wp2_with fail
  go_loopw [40,10] (fun ti tal wr=>∃(k:Nat) (al:List Zk),ti=.int .i64 k/\k<=m/\Hid (Ze wr w.heap.size tal al/\Zo al/\al.length<=32/\Zb al+ZM (Ls.drop k)<=2000000/\YJ size al (Ls.drop k)=YJ size [] Ls)/\Below wl.heap.size wl wr) (fun ti _ _=>m-(intOf ti).toNat)
  case atStart=>exact⟨0,[],rfl,Qg _,⟨Ze.nil _ _,Zo.nil,by simp,by have:=HRR.out.2.1;simpa [Zb] using this,rfl⟩,Below.refl _ _⟩
  case round=>
   obtain⟨k,al,rfl,hk,HR,hbq⟩:=hrel;have hsq:=hbq.size
   by_cases hkm:k<m
   ·have hkl:k<Ls.length:=(by rw[<- HM.out];exact hkm);obtain⟨hal,gal,lal,tal,heq⟩:=HR.out;have hXq:=HX.out.below hbq;obtain⟨g,cap,hv,hgb,hgl,hcell,_⟩:=hXq.view (by omega);injection hv with hv1 hv2 hv3;subst hv1 hv3;clear hv2;have hck:=hcell k hkl;have hE:=hXq.each k hkl;have gO:=HRR.out.1.good _ (Zbg hkl);have lO:=HRR.out.1.len _ (Zbg hkl);have tO:=ZcI hkl;have tP:=Qu (Ls:=Ls.drop (k+1)) (fun x hx=>HRR.out.1.good x (List.mem_of_mem_drop hx));obtain⟨ao,co,hvo,hEo,hno,_⟩:=hE.seen (by omega);rw[hvo] at hck;obtain⟨aa,ca,hva,hEa,hna,_⟩:=hal.seen (by omega);subst hva;have hd:Ls.drop k=Ls.getD k []::Ls.drop (k+1):=by rw[List.drop_eq_getElem_cons hkl];simp[List.getD,hkl]
    rw[hd] at heq;simp only[YJ] at heq;have gj:Zo (Zn al (Ls.getD k [])):=QY gal gO (by omega);have gc:Zo (ZV (Zn al (Ls.getD k [])) size):=gj.sub (QV gj size);have lcu:=ZaY (Zn al (Ls.getD k [])) (size:=(size:Int)) (by omega);have lj:=Zbj al (Ls.getD k []);have tc:Zb (ZV (Zn al (Ls.getD k [])) size)=Zb al+Zb (Ls.getD k []):=(by rw[Zbn,ZaK]);have HJ:Hid (Calls Tryz.prog 46 #[.slice aa al.length ca,.slice ao (Ls.getD k []).length co] wr fun e w'=>∃v,e=.returned v/\Ze w' wr.heap.size v (Zn al (Ls.getD k []))/\Below wr.heap.size wr w'):=Zdz aa ao al _ ca co wr hEa hEo gal gO
    have HREST:Hid (Zo (Zn al (Ls.getD k []))/\(Zn al (Ls.getD k [])).length<=64/\Zo (ZV (Zn al (Ls.getD k [])) size)/\(ZV (Zn al (Ls.getD k [])) size).length<=32/\Zb (ZV (Zn al (Ls.getD k [])) size)+ZM (Ls.drop (k+1))<=2000000/\YJ size (ZV (Zn al (Ls.getD k [])) size) (Ls.drop (k+1))=YJ size [] Ls):=⟨gj,by omega,gc,by omega,by omega,heq⟩;have bk1:(0:Int)<=(k:Int):=(by omega);have bk2:(k:Int)<(m:Int):=(by omega);clear hal gal tal heq hXq hcell hE gO lO tO tP hvo hEo hno hEa hna hd gj gc lcu lj tc HR;generalize (Ls.getD k []).length=no at *;go_wp2_with fail
    refine HJ.out.mono ?_;rintro e w1 ⟨vj,rfl,hoj,hbj⟩;have hs1:=hbj.size;obtain⟨aj,cj,rfl,hEj,hnj,_⟩:=hoj.seen (by have:=HREST.out.2.1;omega);have HCJ:Hid (Calls Tryz.prog 47 #[.slice aj (Zn al (Ls.getD k [])).length cj,.int .i64 size] w1 fun e w'=>∃v,e=.returned v/\Ze w' w1.heap.size v (ZV (Zn al (Ls.getD k [])) size)/\Below w1.heap.size w1 w'):=ZeY aj _ cj size w1 hEj HREST.out.1 hnj;clear hoj hEj hnj HJ;generalize (Zn al (Ls.getD k [])).length=nj at *;go_wp2_with fail
    refine HCJ.out.mono ?_;rintro e w2 ⟨vc,rfl,hoc,hbc⟩;have hs2:=hbc.size;have hb4:Below wl.heap.size wl w2:=hbq.trans ((hbj.trans (hbc.mono hs1)).mono hsq);have HF:Hid (Ze w2 w.heap.size vc (ZV (Zn al (Ls.getD k [])) size)):=hoc.mono (by omega);clear hoc hbc hbj HCJ hck;go_wp2;go_roundw;case rel=>exact⟨k+1,_,by go_num,by omega,⟨HF.out,HREST.out.2.2⟩,hb4⟩
    case measure=>simp[intOf];omega
   have hnk2:¬(k:Int)<(m:Int):=(by omega);have HF:Hid (Ze wr w.heap.size u10 (Yd size vz wz)/\Below w.heap.size w wr):=(by obtain⟨h1,_,_,_,h5⟩:=HR.out;rw[List.drop_eq_nil_of_le (by have:=HM.out;omega)] at h5;simp only[YJ] at h5;rw[HRR.out.2.2,<- h5];exact⟨h1,hbel.trans (hbq.mono hsz)⟩);clear HR;go_wp2;go_ret;exact⟨_,rfl,HF.out.1,HF.out.2⟩
def ZcC:Prop:=∀(va wa:Option Addr) (vl vc wl wc:Nat) (vz wz:List Int) (w:World),Zx w va vl vz->Zx w wa wl wz->vl<=2097152->wl<=2097152->
  Calls Tryz.prog 19 #[.slice va vl vc,.slice wa wl wc] w fun e w'=>∃v M,e=.returned v/\Z1 (Zg vz wz) M/\Ze w' w.heap.size v (ZB 0 M)/\Below w.heap.size w w'
def Zdf:Prop:=∀w:World,Calls Tryz.prog 16 #[] w fun e w'=>e=.returned (.bool true)/\Below w.heap.size w w'
def Zcx(vz:List Int)(k:Nat):List Int:=(List.range k).map fun i=>((Yh (vz.getD i 0) 50:Nat):Int)-25
def Zcy(wz:List Int)(k:Nat):List Int:=(List.range k).map fun i=>1+((Yh (Ql wz i) 9:Nat):Int)
theorem Zgo(vz:List Int)(k:Nat):(Zcx vz k).length=k:=by simp[Zcx]
theorem Zgq(wz:List Int)(k:Nat):(Zcy wz k).length=k:=by simp[Zcy]
theorem ZiL(vz:List Int)(k:Nat):Zcx vz (k+1)=Zcx vz k++[((Yh (vz.getD k 0) 50:Nat):Int)-25]:=by simp[Zcx,List.range_succ]
theorem ZiN(wz:List Int)(k:Nat):Zcy wz (k+1)=Zcy wz k++[1+((Yh (Ql wz k) 9:Nat):Int)]:=by simp[Zcy,List.range_succ]
theorem Zkc{vz:List Int}{k:Nat}{z:Int}(h:z∈Zcx vz k): -25<=z/\z<=24:=by obtain⟨i,_,rfl⟩:=List.mem_map.1 h;have:=QE (vz.getD i 0) (show 0<50 by omega);omega
theorem Zkd{wz:List Int}{k:Nat}{z:Int}(h:z∈Zcy wz k):1<=z/\z<=9:=by obtain⟨i,_,rfl⟩:=List.mem_map.1 h;have:=QE (Ql wz i) (show 0<9 by omega);omega
theorem Y2{w w':World}{a:Option Addr}{n:Nat}{zs:List Int}(h:Zx w a n zs)(hb:Below w.heap.size w w'):Zx w' a n zs:=by rcases h with⟨h1,h2,h3|⟨b,off,rfl,hlt,hc⟩⟩;exact⟨h1,h2,.inl h3⟩;exact⟨h1,h2,.inr ⟨b,off,rfl,Qh hlt hb.size,fun i hi=>(hb.cell (p:=⟨b,off+i,none⟩) hlt).trans (hc i hi)⟩⟩
theorem ZhJ{w:World}{a:Option Addr}{n:Nat}{zs:List Int}(h:Zx w a n zs)(i:Nat):(Lit.int .i64 (Ql zs i)).wf=true:=by unfold Ql;split;decide;rename_i h0;have hl:i%zs.length<zs.length:=Nat.mod_lt _ (by omega);rw[Qc,Qd hl];exact h.2.1 _ (Qf _)
theorem ZjQ{w:World}{a:Option Addr}{n:Nat}{zs:List Int}(h:Zx w a n zs){i:Nat}(hi:i<n):(Lit.int .i64 (zs.getD i 0)).wf=true:=by have hl:i<zs.length:=(by rw[h.1];exact hi);rw[Qc,Qd hl];exact h.2.1 _ (Qf _)
theorem Zd.seenK{w:World}{base:Nat}{v:Value}{zs:List Int}(h:Zd w base v zs)(hr:∀z∈zs,-1000<=z/\z<=1000):∃a c,v=.slice a zs.length c/\Zx w a zs.length zs/\zs.length<=c/\(0<zs.length->∃g,a=some ⟨g,0,none⟩):=by
 have h':=h
 have wf:∀z∈zs,(Lit.int .i64 z).wf=true:=fun z hz=>by have:=hr z hz;simp[Lit.wf,IntKind.min,IntKind.max,IntKind.bits,IntKind.signed];omega
 rcases h.2 with⟨rfl,h0⟩|⟨g,cap,cur,rfl,_,hh,hnc,_⟩
 exact⟨none,0,by rw[h0],⟨rfl,wf,.inl h0⟩,by omega,fun e=>by omega⟩;refine⟨_,cap,rfl,⟨rfl,wf,.inr ⟨g,0,rfl,(Qb hh).1,fun i hi=>?_⟩⟩,hnc,fun _=>⟨g,rfl⟩⟩;rw[Nat.zero_add,World.ownsRow.cellAt h' i (by omega)];simp[List.getD,hi]
structure Qj(V:List Int)(ps:List (Int×Int))(S:List Zk):Prop where
 good:Zo S
 true:ZE ps S
 from_:∀e∈S,e.v∈V
theorem Qj.len{V:List Int}{ps:List (Int×Int)}{S:List Zk}(h:Qj V ps S):S.length<=V.length:=h.good.len h.from_
theorem ZE.swap{a b:List (Int×Int)}{S:List Zk}(h:ZE (b++a) S):ZE (a++b) S:=by refine⟨fun e he=>?_,fun q hq=>h.least q (by simp at hq ⊢;exact hq.symm),fun q hq=>h.most q (by simp at hq ⊢;exact hq.symm),?_⟩;have:=h.each e he;rw[QC,Zcb] at this ⊢;omega;rw[h.total,Yw,Yw];omega
theorem Qj.nil(V:List Int):Qj V [] []:=⟨Zo.nil,ZE.nil,by simp⟩
theorem Qj.join{V:List Int}{a b:List (Int×Int)}{S T:List Zk}(h:Qj V a S)(k:Qj V b T)(pa:Pos a)(pb:Pos b)(hs:Zs a+Zs b<=1000000000000):Qj V (a++b) (Zn S T):=by
 refine⟨QY h.good k.good (by rw[h.true.total,k.true.total];exact hs),ZE.join pa pb h.good k.good h.true k.true,fun f hf=>?_⟩
 rcases ZgX h.good k.good f hf with⟨e,he,hv⟩|⟨e,he,hv⟩
 rw[<- hv];exact h.from_ e he;rw[<- hv];exact k.from_ e he
theorem Qj.join'{V:List Int}{a b:List (Int×Int)}{S T:List Zk}(h:Qj V a S)(k:Qj V b T)(pa:Pos a)(pb:Pos b)(hs:Zs a+Zs b<=1000000000000):Qj V (a++b) (Zn T S):=by have:=k.join h pb pa (by omega);exact⟨this.good,this.true.swap,this.from_⟩
theorem Qj.cut{V:List Int}{a:List (Int×Int)}{S:List Zk}(h:Qj V a S)(size:Int):Qj V a (ZV S size):=
 ⟨h.good.sub (QV h.good size),h.true.cut h.good size,fun e he=>h.from_ e ((QV h.good size).subset he)⟩
theorem Zjs{vs ws:List Int}(hv:∀z∈vs,-25<=z/\z<=24)(hw:∀z∈ws,1<=z/\z<=9):Zg vs ws=vs.zip ws:=by
 unfold Zg
 conv=>rhs;rw[<- List.map_id (vs.zip ws)]
 apply List.map_congr_left;rintro⟨a,b⟩ h;obtain⟨h1,h2⟩:=List.of_mem_zip h;have:=hv a h1;have:=hw b h2;show(QU a,Zan b)=(a,b);unfold QU Zan;rw[if_neg (by omega),if_neg (by omega),if_neg (by omega)]
theorem Zgu(vs ws:List Int)(a n:Nat):((vs.drop a).take n).zip ((ws.drop a).take n)=((vs.zip ws).drop a).take n:=by simp only[List.zip,List.drop_zipWith,List.take_zipWith]
theorem Qj.block{V W:List Int}{a n:Nat}{M:List (Int×Int)}(hv:∀z∈V,-25<=z/\z<=24)(hw:∀z∈W,1<=z/\z<=9)(hl:V.length<=200)(h:Z1 (Zg ((V.drop a).take n) ((W.drop a).take n)) M):Qj V (((V.zip W).drop a).take n) (ZB 0 M):=by have e:Zg ((V.drop a).take n) ((W.drop a).take n)=((V.zip W).drop a).take n:=(by rw[Zjs (fun z hz=>hv z (List.mem_of_mem_drop (List.mem_of_mem_take hz))) (fun z hz=>hw z (List.mem_of_mem_drop (List.mem_of_mem_take hz))),Zgu]);have g:=h.good (by simp;omega);rw[e] at h;refine⟨g,ZE.of_sum h,fun x hx=>?_⟩;obtain⟨p,hp,h1,_⟩:=(Zbm M 0).1 x hx;obtain⟨q,hq,h2⟩:=h.sub p hp;rw[<- h1,<- h2];exact(List.of_mem_zip (List.mem_of_mem_drop (List.mem_of_mem_take hq))).1
theorem Ze6(hS:ZcC)(hH:Zdf)(va wa ha:Option Addr)(vn vc wn wc hn hc:Nat)(vz wz hz:List Int)(size:Int)(w:World)(hv:Zx w va vn vz)(hw:Zx w wa wn wz)(hh:Zx w ha hn hz)(hsz:(Lit.int .i64 size).wf=true)(lv:vn<=9223372036854775807)(lw:wn<=9223372036854775807)(lh:hn<=9223372036854775807):Calls Tryz.prog 6 #[.slice va vn vc,.slice wa wn wc,.int .i64 size,.slice ha hn hc] w fun e w'=>e=.returned (.bool true)/\Below w.heap.size w w':=by
 obtain⟨j0,jinf,jz0,jz1,jz2⟩:=info_parts Zhz;have HV:Hid (Zx w va vn vz):=hv;have HW:Hid (Zx w wa wn wz):=hw;have HH:Hid (Zx w ha hn hz):=hh;have HS:Hid ZcC:=hS;have HHD:Hid Zdf:=hH;clear hv hw hh hS hH;obtain⟨N,hN⟩:∃N,N=min vn 200:=⟨_,rfl⟩;have HN:Hid (N=min vn 200):=hN;clear hN;go_enter Tryz.func6,Tryz.ntmps6;go_wp2_with fail
 refine(HHD.out w).mono ?_;rintro e w1 ⟨rfl,hb1⟩;have HB1:Hid (Below w.heap.size w w1):=hb1;clear hb1;go_wp2_with fail
 go_loopw [10,11,12] (fun tv tw ti wr=>∃k:Nat,k<=N/\ti=.int .i64 k/\Hid (Zd wr w.heap.size tv (Zcx vz k)/\Zd wr w.heap.size tw (Zcy wz k)/\Y4 tv tw)/\Hid (Below w.heap.size w wr)) (fun _ _ ti _=>N-(intOf ti).toNat)
 case atStart=>exact⟨0,Qg _,rfl,⟨Zd.nil _ _,Zd.nil _ _,.inl rfl⟩,HB1.out⟩
 case round=>
  clear HB1;obtain⟨k,hk,rfl,HR,HB⟩:=hrel
  by_cases hkk:k<N
  ·have hkv:k<vn:=(by have:=HN.out;omega);have hk2:k<200:=by have:=HN.out;omega
   obtain⟨b1,o1,rfl,hb1,hv3⟩:∃b off,va=some ⟨b,off,none⟩/\b<w.heap.size/\∀i,i<vn->w.cell? ⟨b,off+i,none⟩=some (.int .i64 (vz.getD i 0)):=by
    rcases HV.out.2.2 with e|e
    omega;exact e
   have d1:wr.cell? ⟨b1,o1+k,none⟩=some (.int .i64 (vz.getD k 0)):=(HB.out.cell (p:=⟨b1,o1+k,none⟩) hb1).trans (hv3 k hkv);have HWF:Hid ((Lit.int .i64 (vz.getD k 0)).wf=true):=ZjQ HV.out hkv;have HWF2:Hid ((Lit.int .i64 (Ql wz k)).wf=true):=ZhJ HW.out k;have bk1:(0:Int)<=(k:Int):=(by omega);have bk2:(k:Int)<(vn:Int):=(by omega);have bk3:(k:Int)<200:=(by omega);obtain⟨cx,hcx⟩:∃cx:Int,cx=((Yh (vz.getD k 0) 50:Nat):Int)-25:=⟨_,rfl⟩;obtain⟨cy,hcy⟩:∃cy:Int,cy=1+((Yh (Ql wz k) 9:Nat):Int):=⟨_,rfl⟩;have p1:=QE (vz.getD k 0) (show 0<50 by omega);have p2:=QE (Ql wz k) (show 0<9 by omega);have q1:IntKind.i64.wrap (((Yh (vz.getD k 0) 50:Nat):Int)-25)=cx:=by rw[Qr (by omega) (by omega),hcx]
   have q2:IntKind.i64.wrap (1+((Yh (Ql wz k) 9:Nat):Int))=cy:=(by rw[Qr (by omega) (by omega),hcy]);have HVS:Hid (Zcx vz (k+1)=Zcx vz k++[cx]):=(by show _=_;rw[hcx];exact ZiL vz k);have HWS:Hid (Zcy wz (k+1)=Zcy wz k++[cy]):=(by show _=_;rw[hcy];exact ZiN wz k);have HRW:Hid (∀W,Below w.heap.size w W->Calls Tryz.prog 18 #[.slice wa wn wc,.int .i64 (k:Nat)] W fun e w'=>e=.returned (.int .i64 (Ql wz k))/\w'=W):=fun W hW=>Za3 wa wn wc k wz W (Y2 HW.out hW) (by omega) lw;clear hcx hcy hv3 p1 p2;obtain⟨ho1,ho2,hap⟩:=HR.out;have HO1:Hid (Zd wr w.heap.size u10 (Zcx vz k)):=ho1;have HO2:Hid (Zd wr w.heap.size u11 (Zcy wz k)):=ho2;have HAP:Hid (Y4 u10 u11):=hap;have lQ:(Zcx vz k).length=k:=Zgo vz k
   have lR:(Zcy wz k).length=k:=Zgq wz k;have hsw:=HB.out.size;clear HR ho1 ho2 hap;generalize Zcx vz k=Q at *;generalize Zcy wz k=R at *;generalize vz.getD k 0=x at *;generalize Ql wz k=y at *;go_wp2_with fail
   refine(Yy x 50 _ HWF.out (by omega) (by omega)).mono ?_;rintro e w2 ⟨rfl,hw2⟩;obtain rfl:=hw2.symm;generalize Yh x 50=px at *;go_wp2_with (at_builtin;go_loud (refine Q6 rfl (.tmp 33) (.tmp 40) 25 rfl w.heap.size 3 j0 (.int .i64 0) 1 8 Tryz.underlying25 jinf jz0 jz1 jz2 rfl (by decide) u10 Q.length (Q.map (Value.int .i64)) rfl (HO1.out.below ((Below.refl _ _).alloc (Qa _) _)) ⟨wr.heap.size,0,none⟩ 1 1 [.int .i64 cx] rfl rfl (ZhE wr rfl cx) (by simp[Value.oneCell']) (by decide) (by unfold maxLen;(try simp);omega) (by(try simp);omega) (by(try simp);omega) ?_))
   intro v1 w3 hX;obtain⟨hn1,hg1,hm1,_,gg1,cc1,hf1⟩:=hX.out;have hO2:Zd (wr.alloc (.cells #[.int .i64 cx] 3)) w.heap.size u11 R:=HO2.out.below ((Below.refl _ _).alloc (Qa _) _);have HV1:Hid (Zd w3 w.heap.size v1 (Q++[cx])):=Zd.more (by rw[lQ];exact hn1);have HU1:Hid (Zd w3 w.heap.size u11 R):=hO2.kept hg1 HAP.out.keeps;have HA1:Hid (Y4 v1 u11):=HAP.out.moved hO2 (by simpa using hm1);have hbl:∀q,u10.ownBlock=some q->w.heap.size<=q:=fun q hq=>(World.ownsRow.lt HO1.out q hq).1;have HB3:Hid (Below w.heap.size w w3):=(HB.out.alloc hsw _).grown hg1 (by simp;omega) hbl;have hsz1:=HB3.out.size;clear hX hn1 hg1 hm1 hO2 hbl hf1 d1;go_wp2_with fail
   refine(HRW.out _ HB3.out).mono ?_;rintro e w4 ⟨rfl,hw4⟩;obtain rfl:=hw4.symm;go_wp2_with fail
   refine(Yy y 9 _ HWF2.out (by omega) (by omega)).mono ?_;rintro e w5 ⟨rfl,hw5⟩;obtain rfl:=hw5.symm;generalize Yh y 9=py at *;go_wp2_with (at_builtin;refine Q6 rfl (.tmp 42) (.tmp 48) 25 rfl w.heap.size 3 j0 (.int .i64 0) 1 8 Tryz.underlying25 jinf jz0 jz1 jz2 rfl (by decide) u11 R.length (R.map (Value.int .i64)) rfl (HU1.out.below ((Below.refl _ _).alloc (Qa _) _)) ⟨w3.heap.size,0,none⟩ 1 1 [.int .i64 cy] rfl rfl (ZhE w3 rfl cy) (by simp[Value.oneCell']) (by decide) (by unfold maxLen;(try simp);omega) (by(try simp);omega) (by(try simp);omega) ?_)
   intro v2 w6 hX;obtain⟨hn2,hg2,hm2,_,gg2,cc2,hf2⟩:=hX.out;have hV2:Zd (w3.alloc (.cells #[.int .i64 cy] 3)) w.heap.size v1 (Q++[cx]):=HV1.out.below ((Below.refl _ _).alloc (Qa _) _);have HU2:Hid (Zd w6 w.heap.size v2 (R++[cy])):=Zd.more (by rw[lR];exact hn2);have HV2:Hid (Zd w6 w.heap.size v1 (Q++[cx])):=hV2.kept hg2 HA1.out.symm.keeps;have HA2:Hid (Y4 v1 v2):=(HA1.out.symm.moved hV2 (by simpa using hm2)).symm;have hbl2:∀q,u11.ownBlock=some q->w.heap.size<=q:=fun q hq=>(World.ownsRow.lt HU1.out q hq).1;have HB6:Hid (Below w.heap.size w w6):=(HB3.out.alloc hsz1 _).grown hg2 (by simp;omega) hbl2;clear hX hn2 hg2 hm2 hV2 hbl2 hf2;go_wp2;go_roundw;case rel=>exact⟨k+1,by omega,by go_num,⟨by rw[HVS.out];exact HV2.out,by rw[HWS.out];exact HU2.out,HA2.out⟩,HB6.out⟩
   case measure=>simp[intOf];omega
  have hkN:k=N:=(by omega);subst hkN;have HKN:Hid (k=min vn 200):=HN;go_upto_region 7 with fail;go_cut [30] (fun v wx=>v=.bool false/\wx=wr)
  case first=>
   by_cases hvn:vn<=200
   ·have q:¬(k:Int)<(vn:Int):=(by have:=HKN.out;omega);go_wp2;go_meet
    exact⟨rfl,rfl⟩
   have q:(k:Int)<(vn:Int):=(by have:=HKN.out;omega);have q2:¬(k:Int)<200:=(by have:=HKN.out;omega);go_wp2;go_meet
   exact⟨rfl,rfl⟩
  case rest =>
   obtain⟨rfl,hwx⟩:=hcut;obtain rfl:=hwx.symm;clear hwx;obtain⟨ho1,ho2,_⟩:=HR.out;obtain⟨V,hV⟩:∃V,V=Zcx vz k:=⟨_,rfl⟩;obtain⟨Wt,hWt⟩:∃Wt,Wt=Zcy wz k:=⟨_,rfl⟩;rw[<- hV] at ho1;rw[<- hWt] at ho2
   have HVI:Hid (∀z∈V,-25<=z/\z<=24):=fun z hz=>by rw[hV] at hz;exact Zkc hz
   have HWI:Hid (∀z∈Wt,1<=z/\z<=9):=fun z hz=>by rw[hWt] at hz;exact Zkd hz
   obtain⟨a1,c1,rfl,hI1,hc1,hg1⟩:=ho1.seenK (fun z hz=>by have:=HVI.out z hz;omega);obtain⟨a2,c2,rfl,hI2,hc2,hg2⟩:=ho2.seenK (fun z hz=>by have:=HWI.out z hz;omega);have lV:V.length=k:=(by rw[hV];exact Zgo vz k);have lW:Wt.length=k:=(by rw[hWt];exact Zgq wz k);have hk200:k<=200:=(by have:=HKN.out;omega);rw[lV] at hI1 hc1 hg1 ⊢;rw[lW] at hI2 hc2 hg2 ⊢;have HLN:Hid (V.length=k/\Wt.length=k):=⟨lV,lW⟩;clear lV lW hV hWt ho1 ho2 HR;generalize wr=wl at *;have HI1:Hid (Zx wl a1 k V):=hI1;have HI2:Hid (Zx wl a2 k Wt):=hI2;have HG1:Hid (0<k->∃g,a1=some ⟨g,0,none⟩):=hg1;have HG2:Hid (0<k->∃g,a2=some ⟨g,0,none⟩):=hg2;clear hI1 hI2 hg1 hg2;go_wp2_with fail
   refine(Yy size 20 _ hsz (by omega) (by omega)).mono ?_;rintro e w2 ⟨rfl,hw2⟩;obtain rfl:=hw2.symm;obtain⟨sz,hszz⟩:∃sz:Int,sz=2+((Yh size 20:Nat):Int):=⟨_,rfl⟩;have psz:=QE size (show 0<20 by omega);have qsz:IntKind.i64.wrap (2+((Yh size 20:Nat):Int))=sz:=(by rw[Qr (by omega) (by omega),hszz]);have hs2:2<=sz:=(by omega);clear psz hszz;generalize Yh size 20=px at *;have HPP:Hid (Pos (V.zip Wt)):=fun q hq=>(HWI.out _ (List.of_mem_zip hq).2).1;have HPL:Hid ((V.zip Wt).length=k):=by show _=_;rw[List.length_zip,HLN.out.1,HLN.out.2];omega
   have HSU:Hid (Zs (V.zip Wt)<=1000*(V.zip Wt).length):=Zb9 fun q hq=>by have:=HWI.out _ (List.of_mem_zip hq).2;omega
   go_wp2_with fail
   go_loopw [13,14,15] (fun ts tt ta wr=>∃(a:Nat) (S:List Zk),a<=k/\ta=.int .i64 a/\tt=.int .i64 (Zs ((V.zip Wt).take a))/\Hid (Ze wr wl.heap.size ts S/\Qj V ((V.zip Wt).take a) S)/\Hid (Below wl.heap.size wl wr)) (fun _ _ ta _=>k-(intOf ta).toNat)
   case atStart=>exact⟨0,[],Qg _,rfl,rfl,⟨Ze.nil _ _,Qj.nil V⟩,Below.refl _ _⟩
   case round=>
    obtain⟨a,S,hale,rfl,rfl,HR,HBB⟩:=hrel
    by_cases hak:a<k
    ·obtain⟨hoS,hPS⟩:=HR.out;have lS:=hPS.len;rw[HLN.out.1] at lS;obtain⟨sa,cs,rfl,hES,hcs,_⟩:=hoS.seen (by omega);have HOS:Hid (Ze wr wl.heap.size (.slice sa S.length cs) S/\Qj V ((V.zip Wt).take a) S):=⟨hoS,hPS⟩;obtain⟨g1,rfl⟩:=HG1.out (by omega);obtain⟨g2,rfl⟩:=HG2.out (by omega);clear HR hoS hPS hES;obtain⟨n0,hn0⟩:∃n0:Nat,n0=1+Yh (Ql hz a) 12:=⟨_,rfl⟩;obtain⟨n,hnn⟩:∃n:Nat,n=min n0 (k-a):=⟨_,rfl⟩;have p12:=QE (Ql hz a) (show 0<12 by omega);have HN0:Hid (n0=1+Yh (Ql hz a) 12/\n=min n0 (k-a)/\1<=n/\a+n<=k):=⟨hn0,hnn,by omega,by omega⟩;have q1:IntKind.i64.wrap (1+((Yh (Ql hz a) 12:Nat):Int))=(n0:Int):=by rw[Qr (by omega) (by omega)];omega
     have HRW:Hid (∀W (i:Nat),i<=1000->Below wl.heap.size wl W->Calls Tryz.prog 18 #[.slice ha hn hc,.int .i64 (i:Nat)] W fun e w'=>e=.returned (.int .i64 (Ql hz i))/\w'=W):=fun W i hi hW=>Za3 ha hn hc i hz W (Y2 HH.out (HB.out.trans (hW.mono HB.out.size))) (by omega) lh;have HRF:Hid (∀i,(Lit.int .i64 (Ql hz i)).wf=true):=fun i=>ZhJ HH.out i;have bak:(a:Int)<(k:Int):=(by omega);clear hn0 hnn p12;go_wp2_with fail
     refine(HRW.out _ a (by omega) HBB.out).mono ?_;rintro e w3 ⟨rfl,hw3⟩;obtain rfl:=hw3.symm;go_wp2_with fail
     refine(Yy _ 12 _ (HRF.out a) (by omega) (by omega)).mono ?_;rintro e w4 ⟨rfl,hw4⟩;obtain rfl:=hw4.symm;generalize Yh (Ql hz a) 12=px at *;have q2:IntKind.i64.wrap ((k:Int)-(a:Int))=(k:Int)-(a:Int):=Qr (by omega) (by omega);go_upto_if 67 with fail
     go_cut [16] (fun v wx=>v=.int .i64 (n:Nat)/\wx=wr)
     case first=>
      by_cases hc:(k:Int)-(a:Int)<(n0:Int)
      ·have E1:Hid ((n:Int)=(k:Int)-(a:Int)):=(by show _=_;have:=HN0.out;omega);go_wp2;go_meet
       exact⟨by rw[E1.out],rfl⟩
      have E1:Hid ((n:Int)=(n0:Int)):=(by show _=_;have:=HN0.out;omega);go_wp2;go_meet
      exact⟨by rw[E1.out],rfl⟩
     case rest=>
      obtain⟨rfl,hwx⟩:=hcut;obtain rfl:=hwx.symm;clear hwx q1 q2;have hn1:=HN0.out.2.2.1;have han:=HN0.out.2.2.2;obtain⟨te,hte⟩:∃te,te=a+n:=⟨_,rfl⟩;have hle1:(a:Int)<=(te:Int):=(by omega);have hle2:(te:Int)<=(c1:Int):=(by omega);have hle3:(te:Int)<=(c2:Int):=(by omega);have hne1:¬c1=a:=(by omega);have hne2:¬c2=a:=(by omega);have q3:IntKind.i64.wrap ((a:Int)+(n:Int))=(te:Int):=(by rw[Qr (by omega) (by omega)];omega);have q4:te-a=n:=(by omega);have HTE:Hid (te=a+n):=hte;clear hte
      have h19:Hid (∀W:World,Below wl.heap.size wl W->Calls Tryz.prog 19 #[.slice (some ⟨g1,a,none⟩) n (c1-a),.slice (some ⟨g2,a,none⟩) n (c2-a)] W fun e w'=>∃v T,e=.returned v/\Ze w' W.heap.size v T/\Qj V (((V.zip Wt).drop a).take n) T/\Below W.heap.size W w'):=(by intro W hW;have p1:=(Y2 HI1.out hW).part (fr:=a) (m:=n) (by omega);have p2:=(Y2 HI2.out hW).part (fr:=a) (m:=n) (by omega);rw[Nat.zero_add] at p1 p2;refine(HS.out _ _ _ (c1-a) _ (c2-a) _ _ W p1 p2 (by omega) (by omega)).mono ?_;rintro e w' ⟨v,M,rfl,hM,ho,hb⟩;exact⟨v,_,rfl,ho,Qj.block HVI.out HWI.out (by rw[HLN.out.1];exact hk200) hM,hb⟩);go_wp2_with fail
      go_region_held3 (fun _=>True) (trivial) (first|(go_at_call 19;refine(h19.out _ HBB.out.drew).mono ?_;rintro e w3 ⟨vT,T,rfl,hoT,hPT,hbT⟩))
      have HB3:Hid (Below wl.heap.size wl w3):=HBB.out.drew.trans (hbT.mono (by have:=HBB.out.size;simpa using this));have HT3:Hid (Ze w3 wl.heap.size vT T/\Qj V (((V.zip Wt).drop a).take n) T):=⟨hoT.mono (by have:=HBB.out.size;simpa using this),hPT⟩;have HS3:Hid (Ze w3 wl.heap.size (.slice sa S.length cs) S/\Qj V ((V.zip Wt).take a) S):=⟨HOS.out.1.below ((Below.refl _ _).drew.trans (hbT.mono (by simp))),HOS.out.2⟩;clear hoT hPT hbT h19 HOS HBB;go_wp2_with fail
      generalize wr=wy at *;go_loopw [14,18] (fun tt ti wr=>∃j:Nat,a<=j/\j<=te/\ti=.int .i64 j/\tt=.int .i64 (Zs ((V.zip Wt).take j))/\wr=w3) (fun _ ti _=>te-(intOf ti).toNat)
      case atStart=>exact⟨a,Qa _,by have:=HTE.out;omega,rfl,rfl,rfl⟩
      case round=>
       obtain⟨j,hj1,hj2,rfl,rfl,hwj⟩:=hrel;obtain rfl:=hwj.symm;clear hwj
       by_cases hjt:j<te
       ·have bj1:(0:Int)<=(j:Int):=(by omega);have bj2:(j:Int)<(k:Int):=(by have:=HTE.out;omega);have bj3:(j:Int)<(te:Int):=(by omega);obtain⟨_,_,h0|⟨gb,go,e,hgl,hgc⟩⟩:=Y2 HI2.out HB3.out;omega;injection e with e;injection e with e1 e2;subst e1 e2;have c0:w3.cell? ⟨g2,j,none⟩=some (.int .i64 (Wt.getD j 0)):=(by have:=hgc j (by omega);rwa [Nat.zero_add] at this);have hsu:=Zay HPP.out j;have hsu2:=ZcH (HPP.out.take j);have hsl:=HSU.out;rw[HPL.out] at hsl;have hsn:(V.zip Wt).take (j+1)=(V.zip Wt).take j++[(V.getD j 0,Wt.getD j 0)]:=ZbC (by rw[HLN.out.1];omega) (by rw[HLN.out.2];omega);have HSN:Hid (Zs ((V.zip Wt).take (j+1))=Zs ((V.zip Wt).take j)+Wt.getD j 0):=by show _=_;rw[hsn,Yw];simp[Zs]
        have hwj:=HWI.out (Wt.getD j 0) (by
         have hl:j<Wt.length:=by rw[HLN.out.2];omega
         rw[Qc,Qd hl];exact Qf _)
        have q5:IntKind.i64.wrap (Zs ((V.zip Wt).take j)+Wt.getD j 0)=Zs ((V.zip Wt).take j)+Wt.getD j 0:=Qr (by omega) (by omega);clear hgc hsn hsu hsu2 hsl;generalize Zs ((V.zip Wt).take j)=sj at *;generalize Wt.getD j 0=wj at *;go_wp2;go_roundw;case rel=>exact⟨j+1,by omega,by omega,by go_num,by rw[HSN.out],by simp⟩
        case measure=>simp[intOf];omega
       have hjte:j=te:=(by omega);subst hjte;have bj3:¬(j:Int)<(j:Int):=(by omega);have lT:=HT3.out.2.len;rw[HLN.out.1] at lT;obtain⟨ta,tc,rfl,_,_,_⟩:=HT3.out.1.seen (by omega);have HTK:Hid ((V.zip Wt).take j=(V.zip Wt).take a++((V.zip Wt).drop a).take n):=by show _=_;rw[HTE.out,List.take_add]
       have HSB:Hid (Zs ((V.zip Wt).take a)+Zs (((V.zip Wt).drop a).take n)<=1000000000000):=(by have h1:=Zay HPP.out j;rw[HTK.out,Yw] at h1;have h2:=HSU.out;rw[HPL.out] at h2;show _<=_;omega);have HPA:Hid (Pos ((V.zip Wt).take a)/\Pos (((V.zip Wt).drop a).take n)):=⟨HPP.out.take a,fun q hq=>HPP.out q (List.mem_of_mem_drop (List.mem_of_mem_take hq))⟩;obtain⟨p2,hp2⟩:∃p2,p2=Yh (Ql hz a) 2:=⟨_,rfl⟩;have hp2l:p2<2:=(by rw[hp2];exact QE _ (by omega));obtain⟨p3,hp3⟩:∃p3,p3=Yh (Ql hz (a+1)) 3:=⟨_,rfl⟩;have HP2:Hid (p2=Yh (Ql hz a) 2/\p3=Yh (Ql hz (a+1)) 3):=⟨hp2,hp3⟩;clear hp2 hp3;go_wp2_with fail
       refine(HRW.out _ a (by omega) HB3.out).mono ?_;rintro e w5 ⟨rfl,hw5⟩;obtain rfl:=hw5.symm;go_wp2_with fail
       refine(Yy _ 2 _ (HRF.out a) (by omega) (by omega)).mono ?_;rintro e w6 ⟨rfl,hw6⟩;obtain rfl:=hw6.symm;rw[<- HP2.out.1];go_upto_if 103 with fail
       go_cut [13] (fun v wx=>∃U,Hid (Ze wx wl.heap.size v U/\Qj V ((V.zip Wt).take j) U)/\Hid (Below wl.heap.size wl wx))
       case first=>
        obtain⟨eT,hET,_⟩:∃(_:True),ZQ w3 ta T/\True:=⟨trivial,by
         obtain⟨a',c',e,h,_⟩:=HT3.out.1.seen (by omega);injection e with e1 _ _;subst e1
         exact⟨h,trivial⟩⟩
        obtain⟨eS,hES,_⟩:∃(_:True),ZQ w3 sa S/\True:=⟨trivial,by
         obtain⟨a',c',e,h,_⟩:=HS3.out.1.seen (by omega);injection e with e1 _ _;subst e1
         exact⟨h,trivial⟩⟩
        have HJ1:Hid (Calls Tryz.prog 20 #[.slice sa S.length cs,.slice ta T.length tc] w3 fun e w'=>∃v,e=.returned v/\Ze w' w3.heap.size v (Zn S T)/\Below w3.heap.size w3 w'):=ZaB sa ta S T cs tc w3 hES hET HS3.out.2.good HT3.out.2.good;have HJ2:Hid (Calls Tryz.prog 20 #[.slice ta T.length tc,.slice sa S.length cs] w3 fun e w'=>∃v,e=.returned v/\Ze w' w3.heap.size v (Zn T S)/\Below w3.heap.size w3 w'):=ZaB ta sa T S tc cs w3 hET hES HT3.out.2.good HS3.out.2.good;clear hET hES
        by_cases h0:p2=0
        ·have q6:((p2:Int)==0)=true:=(by rw[h0];rfl);have H0:Hid (p2=0):=h0;clear h0;go_wp2_with fail
         refine HJ1.out.mono ?_;rintro e w7 ⟨v7,rfl,ho7,hb7⟩;have HF:Hid (Ze w7 wl.heap.size v7 (Zn S T)/\Qj V ((V.zip Wt).take j) (Zn S T)):=⟨ho7.mono HB3.out.size,by rw[HTK.out];exact HS3.out.2.join HT3.out.2 HPA.out.1 HPA.out.2 HSB.out⟩;have HB7:Hid (Below wl.heap.size wl w7):=HB3.out.trans (hb7.mono HB3.out.size);clear ho7 hb7;go_wp2;go_meet
         exact⟨_,HF.out,HB7.out⟩
        have q6:((p2:Int)==0)=false:=(by rw[beq_eq_false_iff_ne];omega);go_wp2_with fail
        refine HJ2.out.mono ?_;rintro e w7 ⟨v7,rfl,ho7,hb7⟩;have HF:Hid (Ze w7 wl.heap.size v7 (Zn T S)/\Qj V ((V.zip Wt).take j) (Zn T S)):=⟨ho7.mono HB3.out.size,by rw[HTK.out];exact HS3.out.2.join' HT3.out.2 HPA.out.1 HPA.out.2 HSB.out⟩;have HB7:Hid (Below wl.heap.size wl w7):=HB3.out.trans (hb7.mono HB3.out.size);clear ho7 hb7;go_wp2;go_meet
        exact⟨_,HF.out,HB7.out⟩
       case rest=>
        obtain⟨U,HU,HB7⟩:=hcut;clear HT3 HS3 HB3 HTK HSB HPA;have q7:IntKind.i64.wrap ((a:Int)+1)=((a+1:Nat):Int):=(by rw[Qr (by omega) (by omega)];omega);go_wp2_with fail
        refine(HRW.out _ (a+1) (by omega) HB7.out).mono ?_;rintro e w5 ⟨rfl,hw5⟩;obtain rfl:=hw5.symm;go_wp2_with fail
        refine(Yy _ 3 _ (HRF.out (a+1)) (by omega) (by omega)).mono ?_;rintro e w6 ⟨rfl,hw6⟩;obtain rfl:=hw6.symm;rw[<- HP2.out.2];clear q7;have lU:=HU.out.2.len;rw[HLN.out.1] at lU;obtain⟨ua,uc,rfl,hEU,hnU,_⟩:=HU.out.1.seen (by omega);have HCU:=ZfN ua U uc sz _ hEU HU.out.2.good hnU;clear hEU hnU;go_upto_if 115 with fail
        go_cut [13] (fun v wx=>∃U',Hid (Ze wx wl.heap.size v U'/\Qj V ((V.zip Wt).take j) U')/\Hid (Below wl.heap.size wl wx))
        case first=>
         by_cases h0:p3=0
         ·have q6:¬(0:Int)<(p3:Int):=(by omega);have H0:Hid (p3=0):=h0;clear h0;go_wp2;go_meet
          exact⟨_,HU.out,HB7.out⟩
         have q6:(0:Int)<(p3:Int):=(by omega);go_wp2_with fail
         refine HCU.mono ?_;rintro e w7 ⟨v7,rfl,ho7,hb7⟩;have hP7:=HU.out.2.cut sz;have l7:=hP7.len;rw[HLN.out.1] at l7;obtain⟨xa,xc,rfl,_,_,_⟩:=ho7.seen (by omega);have HF:Hid (Ze w7 wl.heap.size (.slice xa (ZV U sz).length xc) (ZV U sz)/\Qj V ((V.zip Wt).take j) (ZV U sz)):=⟨ho7.mono HB7.out.size,hP7⟩;have HB8:Hid (Below wl.heap.size wl w7):=HB7.out.trans (hb7.mono HB7.out.size);have q8:¬sz<((ZV U sz).length:Int):=(by have:=ZaY U hs2;omega);clear ho7 hb7 hP7;generalize ZV U sz=X at *;go_wp2;go_meet
         exact⟨_,HF.out,HB8.out⟩
        case rest=>
         obtain⟨X,HX,HB9⟩:=hcut;clear HU HB7 HCU;have lX:=HX.out.2.len;rw[HLN.out.1] at lX;obtain⟨xa,xc,rfl,_,_,_⟩:=HX.out.1.seen (by omega);have hjk:j<=k:=(by have:=HTE.out;omega);have hj1:1<=j:=(by have:=HTE.out;omega);have b0:(0:Int)<=(j:Int):=(by omega);have hc10:¬c1=0:=(by omega);have hc20:¬c2=0:=by omega
         have h22:Hid (∀W:World,Below wc.heap.size wc W->Calls Tryz.prog 22 #[.slice xa X.length xc,.slice (some ⟨g1,0,none⟩) j c1,.slice (some ⟨g2,0,none⟩) j c2,.int .i64 (Zs ((V.zip Wt).take j))] W fun e w'=>e=.returned (.bool true)/\Below W.heap.size W w'):=by
          intro W hW;have hWl:Below wl.heap.size wl W:=HB9.out.trans (hW.mono HB9.out.size);have p1:=(Y2 HI1.out hWl).part (fr:=0) (m:=j) (by omega);have p2:=(Y2 HI2.out hWl).part (fr:=0) (m:=j) (by omega);have ez:((V.drop 0).take j).zip ((Wt.drop 0).take j)=(V.zip Wt).take j:=(by rw[Zgu];rfl);have hXW:=HX.out.1.below hW;obtain⟨a',c',e,hE,_⟩:=hXW.seen (by omega);injection e with e1 _ _;subst e1;have hsm:=Zay HPP.out j;have hsl:=HSU.out;rw[HPL.out] at hsl;refine ZcP xa _ _ X xc j c1 c2 _ _ _ W hE p1 p2 HX.out.2.good ?_ ?_ ?_ ?_ (by omega) (by omega);rw[ez];exact HPP.out.take j;rw[ez];exact HX.out.2.true
          ·intro e
           have hm:((V.zip Wt).take j)≠[]:=fun e2=>by have h3:((V.zip Wt).take j).length=0:=(by rw[e2];rfl);rw[List.length_take,HPL.out] at h3;omega
           obtain⟨q,hq⟩:=List.exists_mem_of_ne_nil _ hm;obtain⟨x,hx,_⟩:=HX.out.2.true.least q hq;rw[e] at hx;simp at hx
          rw[ez]
         go_wp2_with fail
         go_region_held3 (fun _=>True) (trivial) (first|(go_at_call 22;refine(h22.out _ (Below.refl _ _).drew).mono ?_;rintro e wz2 ⟨rfl,hbz⟩))
         have HZ:Hid (Ze wz2 wl.heap.size (.slice xa X.length xc) X/\Qj V ((V.zip Wt).take j) X):=⟨HX.out.1.below ((Below.refl _ _).drew.trans (hbz.mono (by simp))),HX.out.2⟩;have HBZ:Hid (Below wl.heap.size wl wz2):=HB9.out.drew.trans (hbz.mono (by have:=HB9.out.size;simpa using this));clear hbz h22 HX HB9;go_wp2;go_roundw;case rel=>exact⟨j,X,hjk,rfl,rfl,HZ.out,HBZ.out⟩
         case measure=>simp[intOf];have:=HTE.out;omega
    have hak2:a=k:=(by omega);subst hak2;have bak:¬(a:Int)<(a:Int):=(by omega);go_wp2;go_ret;exact⟨rfl,HB.out.trans (HBB.out.mono HB.out.size)⟩
end Go.Proofs.YtfcgnpchbcmdeaaGreat
