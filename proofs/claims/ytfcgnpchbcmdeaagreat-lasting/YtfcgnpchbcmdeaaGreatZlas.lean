import Derived.Test.YtfcgnpchbcmdeaaGreatZlar
import Derived.Deep.Light
import Derived.Test.YtfcgnpchbcmdeaaGreatZlaj
import Derived.Test.YtfcgnpchbcmdeaaGreatZlal
import Derived.Test.YtfcgnpchbcmdeaaGreatZlac
import Derived.Deep.RegionHeld3
namespace Go.Proofs.YtfcgnpchbcmdeaaGreat
set_option maxRecDepth 100000
set_option maxHeartbeats 4000000
open Go.RowKit
theorem Zbo{w:World}{ops:Array Oper}{rest:List Oper}{o:Oper}{a:Act}{Q:Exit->Act->World->Prop}(hgd:o.guard=none)(s x:Operand)(ho:o.op=.call {callee:=.builtin .append,args:=#[s,x],argTypes:=#[29,29]})(i:TypeInfo)(hi:Tryz.prog.info? 98=some i)(hsize:i.size=4)(base g cap n m:Nat)(A B:List Zt)(y z:Zt)(hA:A.length=m)(hn:n=(A++y::B).length)(hs:a.eval s=.slice (some ⟨g,0,none⟩) m cap)(h0:Zl w base (.slice (some ⟨g,0,none⟩) n cap) (A++y::B))(ad:Addr)(c:Nat)(hx:a.eval x=.slice (some ad) 1 c)(hnews:∀j u,[Value.int .i64 z.v,.int .i64 z.lo,.int .i64 z.hi,.int .i64 z.wt][j]? =some u->w.cell? (ad.add j)=some u)(h:∀w',Zl w' base (.slice (some ⟨g,0,none⟩) n cap) (A++z::B)->w.grownBy w' (some g)->wpList Tryz.prog ops Q rest (a.put o.dst (.slice (some ⟨g,0,none⟩) (m+1) cap)) w'):wpList Tryz.prog ops Q (o::rest) a w:=by
 subst hn
 rcases h0.2 with⟨e,_⟩|⟨g',cap',cur,e,hb,hg,hnc,hcm,hcs,htake⟩
 simp at e;simp only[Value.slice.injEq,Option.some.injEq,Addr.mk.injEq,and_true,true_and] at e;obtain⟨rfl,rfl⟩:=e;have hlen:(A++y::B).length=m+1+B.length:=(by simp[hA];omega);have hfa:(flat A).length=m*4:=(by rw[YY,hA]);refine wpList_plain hgd fun K hK=>?_;have hrun:=run_append_room (P:=Tryz.prog) w 29 o.type 98 i Tryz.underlying29 hi g m cap cur hg ad 1 c [.int .i64 z.v,.int .i64 z.lo,.int .i64 z.hi,.int .i64 z.wt] (by rw[hsize];rfl) hnews (Zkd z.v z.lo z.hi z.wt) (by omega) (by rw[hsize,hcs];simp;omega);rw[hsize] at hrun;have hcl:cur.toList=flat (A++y::B)++cur.toList.drop ((A++y::B).length*4):=by rw[<- htake,List.take_append_drop]
 have hnew:cur.toList.take (m*4)++[Value.int .i64 z.v,.int .i64 z.lo,.int .i64 z.hi,.int .i64 z.wt]++cur.toList.drop (m*4+4)=flat (A++z::B)++cur.toList.drop ((A++y::B).length*4):=by
  rw[hcl];generalize cur.toList.drop ((A++y::B).length*4)=T;rw[Yq,Yq];have e1:(flat A++flat (y::B)++T).take (m*4)=flat A:=by rw[List.append_assoc,<- hfa,List.take_left]
  have e2:(flat A++flat (y::B)++T).drop (m*4+4)=flat B++T:=(by rw[List.append_assoc,<- List.drop_drop,<- hfa,List.drop_left];simp[flat,YX]);have e3:List.drop ((A++y::B).length*4) (flat A++flat (y::B)++T)=T:=(by rw[<- Yq,<- YY,List.drop_left]);rw[e1,e2,e3];simp[flat,YX]
 have hsz:(flat (A++z::B)++cur.toList.drop ((A++y::B).length*4)).length=cap*4:=(by have hct:cur.toList.length=cap*4:=(by rw[Array.length_toList,hcs]);rw[Qe,YY,List.length_drop,hct];rw[hlen] at hnc ⊢;have:(A++z::B).length=m+1+B.length:=(by simp[hA]<;>omega);omega);unfold Oper.wp;simp only[execOp,ho,resolve,invoke,builtin,Sem.run_bind,Sem.run_pure,Result.andThen_ok,List.map_toArray,List.map_cons,List.map_nil,hs,hx,hrun];refine hK _ _ (h _ ?_ ?_)
 ·refine⟨by rw[YY],.inr ⟨g,cap,_,by simp,hb,setRow_heap w g cur _ 98 _ hg,?_,hcm,?_,?_⟩⟩
  ·simpa using hnc
  simp only[List.length_cons,List.length_nil] at hnew ⊢;rw[List.size_toArray];simp only[Nat.zero_add,Nat.reduceAdd];rw[hnew];exact hsz;simp only[List.length_cons,List.length_nil,Nat.zero_add,Nat.reduceAdd];rw[hnew,show(A++z::B).length*4=(flat (A++z::B)).length by rw[YY],List.take_left]
 exact⟨rfl,rfl,rfl,by simp[World.setRow],fun k _ hk=>setRow_other w g k _ (fun e=>hk (by rw[e]))⟩
theorem Zl.pfx{w:World}{base g cap n m:Nat}{A B:List Zt}(h:Zl w base (.slice (some ⟨g,0,none⟩) n cap) (A++B))(hn:n=(A++B).length)(hm:m=A.length):Zl w base (.slice (some ⟨g,0,none⟩) m cap) A:=by
 subst hn hm
 rcases h.2 with⟨e,_⟩|⟨g',cap',cur,e,hb,hg,hnc,hcm,hcs,htake⟩
 simp at e;simp only[Value.slice.injEq,Option.some.injEq,Addr.mk.injEq,and_true,true_and] at e;obtain⟨rfl,rfl⟩:=e;refine⟨YY A,.inr ⟨g,cap,cur,rfl,hb,hg,by simp at hnc;omega,hcm,hcs,?_⟩⟩;have:(flat (A++B)).take (A.length*4)=flat A:=(by rw[Yq,<- YY,List.take_left]);rw[<- this,<- htake,List.take_take];congr 1;simp<;>omega
theorem Zsg{ps:List (Int×Int)}(hp:∀p∈ps,1<=p.2)(v:Int):wOf ps v<=Z3 ps:=by
 induction ps with
 |nil=>simp[wOf,Z3]
 | cons p r ih=>
  have h1:=ih (fun q hq=>hp q (by simp[hq]));have h2:=hp p (by simp);simp only[wOf,Z3];split<;>omega
theorem Zg9(W:World){n:Nat}(hW:W.heap.size=n)(c:Array Value):∀j u,c.toList[j]? =some u->(W.alloc (.cells c 98)).cell? ((⟨n,0,none⟩:Addr).add j)=some u:=by subst hW;exact Zu W c 98
theorem ZaK{w w' w'':World}{r:Option Nat}(h:w.grownBy w' r)(k:w'.grownBy w'' r):w.grownBy w'' r:=
 ⟨k.os.trans h.os,k.tape.trans h.tape,k.output.trans h.output,Nat.le_trans h.size k.size,fun i hi hne=>(k.block i (Qh hi h.size) hne).trans (h.block i hi hne)⟩
theorem ZcS{w w':World}{r:Option Nat}(h:Below w.heap.size w w'):w.grownBy w' r:=⟨h.os,h.tape,h.output,h.size,fun k hk _=>h.block k hk⟩
structure Za9(S:List (Int×Int))(i:Nat)(M:List (Int×Int))(G:List Zt):Prop where
 sum:YC (S.take i) M
 len:M.length+G.length=i
def YH(S:List (Int×Int))(i:Nat)(M:List (Int×Int))(G:List Zt):List Zt:=M.map Y4++(G++(S.drop i).map Y4)
theorem Zma{S:List (Int×Int)}{i:Nat}{M:List (Int×Int)}{G:List Zt}(h:Za9 S i M G)(hi:i<=S.length):(YH S i M G).length=S.length:=by have:=h.len;simp[YH];omega
theorem Zhu{S:List (Int×Int)}{i:Nat}(hi:i<S.length):S.take (i+1)=S.take i++[S[i]]:=Qi hi
theorem Zmb{S:List (Int×Int)}{i:Nat}{M:List (Int×Int)}{G:List Zt}{v w:Int}(h:Za9 S i (M++[(v,w)]) G)(hi:i<S.length)(he:v=S[i].1):Za9 S (i+1) (M++[(v,w+S[i].2)]) (G++[Y4 S[i]]):=by refine⟨?_,by have:=h.len;simp at this ⊢;omega⟩;rw[Zhu hi];have:=h.sum.same S[i].2;rw[show S[i]=(v,S[i].2) from Prod.ext he.symm rfl];exact this
theorem Zg6{S:List (Int×Int)}{i:Nat}{M:List (Int×Int)}{G:List Zt}(h:Za9 S i M G)(hi:i<S.length)(hs:S.Pairwise fun p q=>p.1<=q.1)(hne:∀v w N,M=N++[(v,w)]->v≠S[i].1):YC (S.take (i+1)) (M++[S[i]]):=by
 rw[Zhu hi];refine h.sum.more S[i] fun q hq=>?_;have hle:q.1<=S[i].1:=by obtain⟨j,hj,e⟩:=List.mem_iff_getElem.1 hq;rw[List.getElem_take] at e;rw[<- e];exact List.pairwise_iff_getElem.1 hs j i (by simp at hj;omega) hi (by simp at hj;omega)
 rcases Int.lt_or_eq_of_le hle with h1|h1
 exact h1;exfalso;obtain⟨r,hr,er⟩:=h.sum.all q hq;have hM:M≠[]:=List.ne_nil_of_mem hr;have hsp:M=M.dropLast++[M.getLast hM]:=(List.dropLast_concat_getLast hM).symm;refine hne (M.getLast hM).1 (M.getLast hM).2 M.dropLast hsp ?_;have h2:(M.getLast hM).1<=S[i].1:=by obtain⟨q',hq',eq'⟩:=h.sum.sub _ (List.getLast_mem hM);obtain⟨j,hj,e⟩:=List.mem_iff_getElem.1 hq';rw[List.getElem_take] at e;rw[<- eq',<- e];exact List.pairwise_iff_getElem.1 hs j i (by simp at hj;omega) hi (by simp at hj;omega)
 have h3:r.1<=(M.getLast hM).1:=by
  have hrise:=h.sum.rise;rw[hsp] at hr hrise
  rcases List.mem_append.1 hr with hr|hr
  have:=(List.pairwise_append.1 hrise).2.2 r hr (M.getLast hM) (by simp);omega;simp at hr;rw[hr];exact Int.le_refl _
 omega
theorem ZfC{S:List (Int×Int)}{i:Nat}{M:List (Int×Int)}{G:List Zt}(h:Za9 S i M G)(hi:i<S.length):∃y B G',YH S i M G=M.map Y4++y::B/\YH S (i+1) (M++[S[i]]) G'=M.map Y4++Y4 S[i]::B/\(M++[S[i]]).length+G'.length=i+1:=by
 have hl:=h.len;have hsp:S.drop i=S[i]::S.drop (i+1):=List.drop_eq_getElem_cons hi
 cases G with
 |nil=>exact⟨Y4 S[i],(S.drop (i+1)).map Y4,[],by unfold YH;rw[hsp,List.map_cons,List.nil_append],by unfold YH;simp,by simp at hl ⊢;omega⟩
 |cons y G=>exact⟨y,G++Y4 S[i]::(S.drop (i+1)).map Y4,G++[Y4 S[i]],by unfold YH;rw[hsp,List.map_cons];rfl,by unfold YH;simp,by simp at hl ⊢;omega⟩
theorem Zg5(g cap:Nat)(S:List (Int×Int))(base:Nat)(w:World)(h:Zl w base (.slice (some ⟨g,0,none⟩) S.length cap) (S.map Y4))(hs:S.Pairwise fun p q=>p.1<=q.1)(hp:∀p∈S,1<=p.2/\p.2<=1000)(hl:S.length<=2097152):Calls Tryz.prog 83 #[.slice (some ⟨g,0,none⟩) S.length cap] w fun e w'=>∃M,e=.returned (.slice (some ⟨g,0,none⟩) M.length cap)/\YC S M/\M.length<=S.length/\Zl w' base (.slice (some ⟨g,0,none⟩) M.length cap) (M.map Y4)/\w.grownBy w' (some g):=by
 obtain⟨i0,hinf,hz0,hz1,hz2⟩:=info_parts Zjm;have hgw:g<w.heap.size:=(World.ownsRow.lt h g rfl).2
 have hcap:S.length<=cap:=by
  rcases h.2 with⟨e,_⟩|⟨g',cap',cur,e,hb,hg,hnc,_⟩
  simp at e;simp only[Value.slice.injEq,Option.some.injEq,Addr.mk.injEq,and_true] at e;simp at hnc;omega
 have HO:Hid (Zl w base (.slice (some ⟨g,0,none⟩) S.length cap) (S.map Y4)):=h;have HS:Hid (S.Pairwise fun p q=>p.1<=q.1):=hs;have HP:Hid (∀p∈S,1<=p.2/\p.2<=1000):=hp;clear h hs hp;go_enter Tryz.func83,Tryz.ntmps83;go_wp2_with fail
 go_loopw [3,11] (fun tm ti wr=>∃(i:Nat) (M:List (Int×Int)) (G:List Zt),i<=S.length/\ti=.int .i64 i/\tm=.slice (some ⟨g,0,none⟩) M.length cap/\Hid (Za9 S i M G/\Zl wr base (.slice (some ⟨g,0,none⟩) S.length cap) (YH S i M G)/\w.grownBy wr (some g))) (fun _ ti _=>S.length-(intOf ti).toNat)
 case atStart=>exact⟨0,[],[],Qg _,rfl,rfl,⟨YC.nil,rfl⟩,by simpa [YH] using HO.out,Zx _ _⟩
 case round=>
  obtain⟨i,M,G,hi,rfl,rfl,HR⟩:=hrel;obtain⟨hR,hown,hgr⟩:=HR.out;have HG:Hid (w.grownBy wr (some g)):=hgr;have hsz:=hgr.size;have hgr2:g<wr.heap.size:=by omega
  by_cases hil:i<S.length
  ·have hRl:=hR.len;have hsp:S.drop i=S[i]::S.drop (i+1):=List.drop_eq_getElem_cons hil;have hcat:YH S i M G=(M.map Y4++G)++Y4 S[i]::(S.drop (i+1)).map Y4:=(by unfold YH;rw[hsp,List.map_cons,List.append_assoc]);have hml:=Zma hR (by omega);have hown':=hown;rw[hcat] at hown';obtain⟨c0,c1,c2,c3,cf⟩:=hown'.at (by rw[<- hcat,hml]) (show(M.map Y4++G).length=i by simp;omega);simp only[Y4] at c0 c1 c2 c3;have hpi:=HP.out S[i] (Qf hil);have bi1:(0:Int)<=(i:Int):=(by omega);have bi2:(i:Int)<(S.length:Int):=(by omega);have HOW:Hid (Zl wr base (.slice (some ⟨g,0,none⟩) S.length cap) (YH S i M G)):=hown;clear hown hown' hgr HR
   rcases List.eq_nil_or_concat M with hM|⟨N,p,hM⟩
   ·subst hM;obtain⟨y,B,G2,hs1,hs2,hs3⟩:=ZfC hR hil;have hRn:Za9 S (i+1) ([]++[S[i]]) G2:=⟨Zg6 hR hil HS.out (fun v w N e=>by simp at e),hs3⟩;have HRN:Hid (Za9 S (i+1) ([]++[S[i]]) G2):=hRn;have HS2:Hid (YH S (i+1) ([]++[S[i]]) G2=[].map Y4++Y4 S[i]::B):=hs2;have HOY:Hid (Zl wr base (.slice (some ⟨g,0,none⟩) S.length cap) ([].map Y4++y::B)):=hs1 ▸ HOW.out
    have HLN:Hid (S.length=([].map Y4++y::B).length):=show _=_ by rw[<- hs1,hml]
    clear hRn hs1 hs2 hs3;generalize S[i]=q at *;go_wp2_with fail
    go_big_quiet (fail);go_wp2_with (at_builtin;refine Zbo rfl (.tmp 40) (.tmp 42) rfl i0 hinf hz1 base g cap S.length 0 [] B y (Y4 q) rfl HLN.out rfl (HOY.out.below (by repeat(first|with_reducible exact Below.refl _ _|with_reducible refine below_drewN ?_ _|with_reducible refine Below.drew ?_|with_reducible refine Below.alloc ?_ (by simp<;>omega) _))) ⟨wr.heap.size+1,0,none⟩ 1 rfl (Zg9 _ (by simp) #[.int .i64 q.1,.int .i64 0,.int .i64 0,.int .i64 q.2]) ?_)
    intro w5 hown5 hg5;have HW5:Hid (Zl w5 base (.slice (some ⟨g,0,none⟩) S.length cap) (YH S (i+1) ([]++[q]) G2)):=(by rw[HS2.out];exact hown5);have HG5:Hid (w.grownBy w5 (some g)):=ZaK HG.out (ZaK (ZcS (by repeat(first|with_reducible exact Below.refl _ _|with_reducible refine below_drewN ?_ _|with_reducible refine Below.drew ?_|with_reducible refine Below.alloc ?_ (by simp<;>omega) _))) hg5);clear hown5 hg5;go_wp2;go_roundw;case rel=>exact⟨i+1,[]++[q],G2,by omega,by go_num,by simp,HRN.out,HW5.out,HG5.out⟩
    case measure=>simp[intOf];omega
   rw[List.concat_eq_append] at hM;subst hM;obtain⟨pv,pw⟩:=p;have hcat2:YH S i (N++[(pv,pw)]) G=N.map Y4++Y4 (pv,pw)::(G++(S.drop i).map Y4):=(by unfold YH;simp);have hown2:=HOW.out;rw[hcat2] at hown2;obtain⟨d0,d1,d2,d3,_⟩:=hown2.at (by rw[<- hcat2,hml]) (show(N.map Y4).length=N.length by simp);simp only[Y4] at d0 d1 d2 d3;have hpw:pw=wOf (S.take i) pv:=hR.sum.wt (pv,pw) (by simp);have hpt:∀r∈S.take i,1<=r.2:=fun r hr=>(HP.out r (List.mem_of_mem_take hr)).1;have hpw1:0<=pw/\pw<=1000*2097152:=by have h1:=ZjC hpt pv;have h2:=Zsg hpt pv;have h3:=Zgc (ps:=S.take i) (fun r hr=>(HP.out r (List.mem_of_mem_take hr)).2);have h4:(S.take i).length<=2097152:=(by simp;omega);omega
   have bl1:(0:Int)<=(N.length:Int):=(by omega);have hNi:N.length<i:=(by have:=hR.len;simp at this;omega);have bl2:(N.length:Int)<(N.length:Int)+1:=(by omega);have dg:decide ((0:Int)<=(N.length:Int))=true:=decide_eq_true (by omega)
   by_cases hv:pv=S[i].1
   ·have hRn:=Zmb hR hil hv;have HRN:Hid (Za9 S (i+1) (N++[(pv,pw+S[i].2)]) (G++[Y4 S[i]])):=hRn
    have HE2:Hid (YH S (i+1) (N++[(pv,pw+S[i].2)]) (G++[Y4 S[i]])=N.map Y4++(⟨pv,0,0,pw+S[i].2⟩:Zt)::(G++(S.drop i).map Y4)):=show _=_ by unfold YH;rw[hsp];simp only[List.map_append,List.map_cons,List.map_nil,List.append_assoc,List.cons_append,List.nil_append,Y4]
    have HOW2:Hid (Zl wr base (.slice (some ⟨g,0,none⟩) S.length cap) (N.map Y4++Y4 (pv,pw)::(G++(S.drop i).map Y4))):=hown2
    have HLL:Hid (S.length=(N.map Y4++Y4 (pv,pw)::(G++(S.drop i).map Y4)).length):=show _=_ by rw[<- hcat2,hml]
    have hvb:(pv==S[i].1)=true:=beq_iff_eq.2 hv;clear hRn hpw hown2 hcat2 hv;generalize S[i]=q at *;go_wp2_with fail
    go_big_quiet (fail);go_wp2_with fail
    go_region
    all_goals go_wp2
    all_goals
     go_roundw
     case rel=>
      refine⟨i+1,N++[(pv,pw+q.2)],G++[Y4 q],by omega,by go_num,by simp,HRN.out,?_,?_⟩;rw[HE2.out];exact(HOW2.out.below (by repeat(first|with_reducible exact Below.refl _ _|with_reducible refine below_drewN ?_ _|with_reducible refine Below.drew ?_|with_reducible refine Below.alloc ?_ (by simp<;>omega) _))).store HLL.out (by simp) (Ziu (by simp) _);refine ZF (ZaK HG.out (ZcS ?_)) _ _
      repeat(first|with_reducible exact Below.refl _ _|with_reducible refine below_drewN ?_ _|with_reducible refine Below.drew ?_|with_reducible refine Below.alloc ?_ (by simp<;>omega) _)
     case measure=>simp[intOf];omega
   have hvb:(pv==S[i].1)=false:=beq_eq_false_iff_ne.2 hv;obtain⟨y,B,G2,hs1,hs2,hs3⟩:=ZfC hR hil;have hRn:Za9 S (i+1) ((N++[(pv,pw)])++[S[i]]) G2:=⟨Zg6 hR hil HS.out (fun v w N2 e=>by have:=(List.append_inj_right' e rfl);simp at this;rw[<- this.1];exact hv),hs3⟩;have HRN:Hid (Za9 S (i+1) ((N++[(pv,pw)])++[S[i]]) G2):=hRn;have HS2:Hid (YH S (i+1) ((N++[(pv,pw)])++[S[i]]) G2=(N++[(pv,pw)]).map Y4++Y4 S[i]::B):=hs2;have HOY:Hid (Zl wr base (.slice (some ⟨g,0,none⟩) S.length cap) ((N++[(pv,pw)]).map Y4++y::B)):=hs1 ▸ HOW.out
   have HLN:Hid (S.length=((N++[(pv,pw)]).map Y4++y::B).length):=show _=_ by rw[<- hs1,hml]
   clear hRn hs1 hs2 hs3;clear hpw hown2 hcat2 hv;generalize S[i]=q at *;go_wp2_with fail
   go_big_quiet (fail);go_wp2_with (at_builtin;refine Zbo rfl (.tmp 40) (.tmp 42) rfl i0 hinf hz1 base g cap S.length (N++[(pv,pw)]).length ((N++[(pv,pw)]).map Y4) B y (Y4 q) (by simp) HLN.out rfl (HOY.out.below (by repeat(first|with_reducible exact Below.refl _ _|with_reducible refine below_drewN ?_ _|with_reducible refine Below.drew ?_|with_reducible refine Below.alloc ?_ (by simp<;>omega) _))) ⟨wr.heap.size+1,0,none⟩ 1 rfl (Zg9 _ (by simp) #[.int .i64 q.1,.int .i64 0,.int .i64 0,.int .i64 q.2]) ?_)
   intro w5 hown5 hg5;have HW5:Hid (Zl w5 base (.slice (some ⟨g,0,none⟩) S.length cap) (YH S (i+1) ((N++[(pv,pw)])++[q]) G2)):=(by rw[HS2.out];simp only[List.map_append,List.map_cons,List.map_nil,List.append_assoc,List.cons_append,List.nil_append];exact hown5);have HG5:Hid (w.grownBy w5 (some g)):=ZaK HG.out (ZaK (ZcS (by repeat(first|with_reducible exact Below.refl _ _|with_reducible refine below_drewN ?_ _|with_reducible refine Below.drew ?_|with_reducible refine Below.alloc ?_ (by simp<;>omega) _))) hg5);clear hown5 hg5;go_wp2;go_roundw;case rel=>exact⟨i+1,(N++[(pv,pw)])++[q],G2,by omega,by go_num,by simp,HRN.out,HW5.out,HG5.out⟩
   case measure=>simp[intOf];omega
  have hie:S.length=i:=(by omega);have HF:Hid (YC S M/\Zl wr base (.slice (some ⟨g,0,none⟩) M.length cap) (M.map Y4)):=by refine⟨by have:=hR.sum;rwa [List.take_of_length_le (by omega)] at this,?_⟩;have hd:YH S i M G=M.map Y4++G:=(by unfold YH;rw[List.drop_eq_nil_of_le (by omega)];simp);rw[hd] at hown;exact hown.pfx (by have:=hR.len;simp;omega) (by simp)
  have HL:Hid (M.length<=S.length):=show _<=_ by have:=hR.len;omega
  clear hown hgr HR hie hR;go_wp2;go_ret;exact⟨M,rfl,HF.out.1,HL.out,HF.out.2,HG.out⟩
theorem Zq3:(Tryz.prog.info? 29).map (fun i=>(i.zero,i.size,i.bytes))=some (some (.slice none 0 0),1,24):=by kernel_rfl
theorem Zl.seen{w:World}{base:Nat}{v:Value}{L:List Zt}(h:Zl w base v L)(hl:L.length<=4194304):∃a c,v=.slice a L.length c/\Yy w a L/\(a=none->c=0)/\L.length<=c:=by
 have h':=h
 rcases h.2 with⟨rfl,h0⟩|⟨g,cap,cur,rfl,_,hh,hnc,_⟩
 exact⟨none,0,by rw[h0],⟨hl,.inl h0⟩,fun _=>rfl,by omega⟩;refine⟨_,cap,rfl,⟨hl,.inr ⟨g,0,rfl,?_⟩⟩,(fun e=>by cases e),hnc⟩
 have key:∀i,i<L.length->w.cell? ⟨g,i*4,none⟩=some (.int .i64 (L.getD i e0).v)/\w.cell? ⟨g,i*4+1,none⟩=some (.int .i64 (L.getD i e0).lo)/\w.cell? ⟨g,i*4+2,none⟩=some (.int .i64 (L.getD i e0).hi)/\w.cell? ⟨g,i*4+3,none⟩=some (.int .i64 (L.getD i e0).wt)/\∀o,w.frozen? ⟨g,o,none⟩=false:=fun i hi=>by have e:L=L.take i++L.getD i e0::L.drop (i+1):=(by have:L.getD i e0=L[i]:=(by simp[List.getD,hi]);rw[this,<- List.drop_eq_getElem_cons hi,List.take_append_drop]);rw[e] at h';exact Zl.at (n:=L.length) (by rw[<- e] at h' ⊢;exact h') (by rw[<- e]) (by simp;omega)
 refine⟨fun _=>(Qb hh).1,fun i hi=>?_,fun i hi=>?_,fun i hi=>?_,fun i hi=>?_⟩;rw[Nat.zero_add];exact(key i hi).1;rw[Nat.zero_add];exact(key i hi).2.1;rw[Nat.zero_add];exact(key i hi).2.2.1;rw[Nat.zero_add];exact(key i hi).2.2.2.1
theorem Zl.mono{w:World}{b b':Nat}{v:Value}{L:List Zt}(h:Zl w b' v L)(hb:b<=b'):Zl w b v L:=by
 refine⟨h.1,?_⟩
 rcases h.2 with hn|⟨g,cap,cur,e,hg,r⟩
 exact .inl hn;exact .inr ⟨g,cap,cur,e,Nat.le_trans hb hg,r⟩
structure Zd2(w:World)(base:Nat)(v:Value)(vs:List Value)(Ls:List (List Zt)):Prop where
 row:w.ownsRow base 29 1 v Ls.length vs
 each:∀i,i<Ls.length->Zl w base (vs.getD i (.slice none 0 0)) (Ls.getD i [])
def ZjO(w:World)(base:Nat)(v:Value)(Ls:List (List Zt)):Prop:=∃vs,Zd2 w base v vs Ls
theorem Zl.grown{w w':World}{base b2 e2 s2 n2:Nat}{v u:Value}{L:List Zt}{xs:List Value}(h:Zl w base v L)(g:w.ownsRow b2 e2 s2 u n2 xs)(hne:e2≠98)(hg:w.grownBy w' u.ownBlock):Zl w' base v L:=
 World.ownsRow.kept h hg (ZbG g h hne)
theorem Zd2.below{w w':World}{base:Nat}{v:Value}{vs:List Value}{Ls:List (List Zt)}(h:Zd2 w base v vs Ls)(hb:Below w.heap.size w w'):Zd2 w' base v vs Ls:=
 ⟨(Za.of_below (S:=fun _=>False) hb).row h.row (fun _ _=>id),fun i hi=>(h.each i hi).below hb⟩
theorem Zd2.put{w:World}{base g cap n i:Nat}{vs:List Value}{Ls:List (List Zt)}{u:Value}{l:List Zt}(h:Zd2 w base (.slice (some ⟨g,0,none⟩) n cap) vs Ls)(hn:n=Ls.length)(hu:Zl w base u l)(hi:i<n):Zd2 (w.setCell ⟨g,i,none⟩ u) base (.slice (some ⟨g,0,none⟩) n cap) (vs.set i u) (Ls.set i l)/\w.grownBy (w.setCell ⟨g,i,none⟩ u) (some g):=by
 subst hn;obtain⟨h1,h2⟩:=World.ownsRow.stored h.row i u;have hl:vs.length=Ls.length:=(by have:=h.row.1;omega);refine⟨⟨by simpa using h1,fun j hj=>?_⟩,h2⟩;simp only[List.length_set] at hj
 by_cases e:j=i
 subst e;have e1:(vs.set j u).getD j (.slice none 0 0)=u:=(by simp[List.getD,hl,hj]);have e2:(Ls.set j l).getD j []=l:=(by simp[List.getD,hj]);rw[e1,e2];exact hu.grown h.row (by decide) h2;have e1:(vs.set i u).getD j (.slice none 0 0)=vs.getD j (.slice none 0 0):=(by simp[List.getD,Ne.symm e]);have e2:(Ls.set i l).getD j []=Ls.getD j []:=(by simp[List.getD,Ne.symm e]);rw[e1,e2];exact(h.each j hj).grown h.row (by decide) h2
theorem Zd2.view{w:World}{base:Nat}{v:Value}{vs:List Value}{Ls:List (List Zt)}(h:Zd2 w base v vs Ls)(h0:0<Ls.length):∃g cap,v=.slice (some ⟨g,0,none⟩) Ls.length cap/\base<=g/\g<w.heap.size/\(∀i,i<Ls.length->w.cell? ⟨g,i,none⟩=some (vs.getD i (.slice none 0 0)))/\∀i,w.frozen? ⟨g,i,none⟩=false:=by
 have hl:vs.length=Ls.length:=by have:=h.row.1;omega
 rcases h.row.2 with⟨_,h1⟩|⟨g,cap,cur,rfl,hb,hh,_⟩
 omega;refine⟨g,cap,rfl,hb,(Qb hh).1,fun i hi=>?_,fun i=>World.ownsRow.frozenAt h.row i⟩;rw[World.ownsRow.cellAt h.row i (by omega)];simp[List.getD,hl,hi]
def ZbS(Ls:List (List Zt))(k:Nat):List (List Zt):=List.replicate k []++Ls.drop k
theorem Zg1{Ls:List (List Zt)}{k:Nat}(h:k<=Ls.length):(ZbS Ls k).length=Ls.length:=by simp[ZbS];omega
theorem Zq9{Ls:List (List Zt)}{k:Nat}:(ZbS Ls k).getD k []=Ls.getD k []:=by simp[ZbS,List.getD,List.getElem?_append_right]
theorem Zkt{Ls:List (List Zt)}{k:Nat}(h:k<Ls.length)(l:List Zt):(ZbS Ls k).set k l=List.replicate k []++l::Ls.drop (k+1):=by unfold ZbS;rw[List.drop_eq_getElem_cons h,List.set_append_right _ _ (by simp),List.length_replicate,Nat.sub_self,List.set_cons_zero]
theorem Zom{Ls:List (List Zt)}{k:Nat}(h:k<Ls.length):(ZbS Ls k).set k []=ZbS Ls (k+1):=by rw[Zkt h,ZbS,List.replicate_succ',List.append_assoc];rfl
theorem ZmE{size:Int}{Ls:List (List Zt)}{l:List Zt}{k:Nat}(h:k<Ls.length)(h0:(Ls.getD k []).length=0):ZC size (Ls.drop k) l=l::Ls.drop (k+1):=by rw[List.drop_eq_getElem_cons h];have:Ls.getD k []=Ls[k]:=(by simp[List.getD,h]);rw[this] at h0;simp only[ZC];rw[if_pos h0]
theorem Zk8{size:Int}{Ls:List (List Zt)}{l:List Zt}{k:Nat}(h:k<Ls.length)(h0:(Ls.getD k []).length≠0):ZC size (Ls.drop k) l=[]::ZC size (Ls.drop (k+1)) (YV (ZA (Ls.getD k []) l) size):=by rw[List.drop_eq_getElem_cons h];have:Ls.getD k []=Ls[k]:=(by simp[List.getD,h]);rw[this] at h0 ⊢;simp only[ZC];rw[if_neg h0]
theorem ZfJ{Ls:List (List Zt)}{k:Nat}(h:k<Ls.length):ZM (Ls.drop k)=Zd (Ls.getD k [])+ZM (Ls.drop (k+1)):=by rw[List.drop_eq_getElem_cons h];have:Ls.getD k []=Ls[k]:=(by simp[List.getD,h]);rw[this];rfl
theorem Zde{Ls:List (List Zt)}{k:Nat}(h:k<Ls.length):Ls.getD k []∈Ls:=by simp[List.getD,h]
theorem ZmD(base:Nat)(v u:Value)(Ls:List (List Zt))(l:List Zt)(size:Int)(w:World)(hL:ZjO w base v Ls)(hu:Zl w base u l)(hok:Qs Ls)(hg:ZE l)(hll:l.length<=32)(hs:2<=size)(hs2:size<=32)(ht:ZM Ls+Zd l<=1000000000000)(hn:Ls.length<=1000)(hbase:base<=w.heap.size):Calls Tryz.prog 318 #[v,u,.int .i64 size] w fun e w'=>∃v',e=.returned v'/\ZjO w' base v' (ZC size Ls l)/\Below base w w':=by
 obtain⟨vs0,hX0⟩:=hL;obtain⟨j0,jinf,jz0,jz1,jz2⟩:=info_parts Zq3
 have hvf:∃a c,v=.slice a Ls.length c:=by
  rcases hX0.row.2 with⟨rfl,h1⟩|⟨g,cap,cur,rfl,_⟩
  exact⟨none,0,by rw[h1]⟩;exact⟨_,_,rfl⟩
 obtain⟨va,vcap,rfl⟩:=hvf;have HX0:Hid (Zd2 w base (.slice va Ls.length vcap) vs0 Ls):=hX0;have HU:Hid (Zl w base u l/\ZE l/\l.length<=32/\ZM Ls+Zd l<=1000000000000):=⟨hu,hg,hll,ht⟩;have HOK:Hid (Qs Ls):=hok;obtain⟨n,hnn⟩:∃n,n=Ls.length:=⟨_,rfl⟩;have HN:Hid (n=Ls.length):=hnn;rw[<- hnn] at hn ⊢;clear hX0 hu hok hg hll ht hnn;go_enter Tryz.func318,Tryz.ntmps318;go_wp2_with fail
 go_loopw [11,1] (fun ti tu wr=>∃(k:Nat) (lk:List Zt) (vs:List Value),ti=.int .i64 k/\k<=n/\Hid (Zd2 wr base (.slice va n vcap) vs (ZbS Ls k)/\Zl wr base tu lk/\ZE lk/\lk.length<=32/\ZM (Ls.drop k)+Zd lk<=1000000000000/\ZC size Ls l=List.replicate k []++ZC size (Ls.drop k) lk)/\Below base w wr) (fun ti _ _=>n-(intOf ti).toNat)
 case atStart=>exact⟨0,l,vs0,rfl,Qg _,⟨by have:=HX0.out;rw[<- HN.out] at this;exact this,HU.out.1,HU.out.2.1,HU.out.2.2.1,HU.out.2.2.2,rfl⟩,Below.refl _ _⟩
 case round=>
  clear HX0 HU;obtain⟨k,lk,vs,rfl,hk,HR,hbel⟩:=hrel;obtain⟨hX,hu,hg,hll,ht,heq⟩:=HR.out;clear HR;have hsz:=hbel.size
  by_cases hkn:k<n
  ·have hkl:k<Ls.length:=(by rw[<- HN.out];exact hkn);have hlen:=Zg1 (show k<=Ls.length by omega);obtain⟨g,cap,hv,hgb,hgl,hcell,hfr⟩:=hX.view (by omega);injection hv with hv1 hv2 hv3;subst hv1 hv3;clear hv2;have hck:=hcell k (by omega);have hE:=hX.each k (by omega);rw[Zq9] at hE;have gO:=HOK.out.good _ (Zde hkl);have lO:=HOK.out.len _ (Zde hkl);have tO:=ZfJ hkl;obtain⟨ao,co,hvo,hEo,hno,_⟩:=hE.seen (by omega);rw[hvo] at hck;have hfk:=hfr k;have bk1:(0:Int)<=(k:Int):=(by omega);have bk2:(k:Int)<(n:Int):=(by omega);have HX:Hid (Zd2 wr base (.slice (some ⟨g,0,none⟩) n vcap) vs (ZbS Ls k)):=hX;obtain⟨al,cl,hvl,hEl,hnl,_⟩:=hu.seen (by omega);subst hvl
   by_cases h0:(Ls.getD k []).length=0
   ·have hT:=ZmE (size:=size) (l:=lk) hkl h0;have HF:Hid (ZjO (wr.setCell ⟨g,k,none⟩ (.slice al lk.length cl)) base (.slice (some ⟨g,0,none⟩) n vcap) (ZC size Ls l)/\Below base w (wr.setCell ⟨g,k,none⟩ (.slice al lk.length cl))):=(by obtain⟨p1,p2⟩:=hX.put (i:=k) (by rw[hlen];exact HN.out) hu hkn;refine⟨⟨vs.set k (.slice al lk.length cl),?_⟩,hbel.setCell hgb _⟩;rw[heq,hT,<- Zkt hkl];exact p1);rw[h0] at hck;clear hX hu hcell hE hEo hEl hvo heq hfr hT hlen hnl;go_wp2;go_ret;exact⟨_,rfl,HF.out.1,HF.out.2⟩
   have hT:=Zk8 (size:=size) (l:=lk) hkl h0;have hb0:(((Ls.getD k []).length:Int)==0)=false:=beq_eq_false_iff_ne.2 (by omega);have pj:=(Y0 gO).1;have pl:=(Y0 hg).1;have pr:=Qj (Ls:=Ls.drop (k+1)) (fun x hx=>HOK.out.good x (List.mem_of_mem_drop hx));have gj:ZE (ZA (Ls.getD k []) lk):=Zay gO hg (by omega);have gc:ZE (YV (ZA (Ls.getD k []) lk) size):=gj.sub (ZaI gj size);have lc:=Zb2 (ZA (Ls.getD k []) lk) hs;have lj:=Zdi (Ls.getD k []) lk;have tc:Zd (YV (ZA (Ls.getD k []) lk) size)=Zd (Ls.getD k [])+Zd lk:=by rw[Za7,ZaD]
   have HJ:Hid (Calls Tryz.prog 46 #[.slice ao (Ls.getD k []).length co,.slice al lk.length cl] wr fun e w'=>∃v,e=.returned v/\Zl w' wr.heap.size v (ZA (Ls.getD k []) lk)/\Below wr.heap.size wr w'):=ZgS ao al _ lk co cl wr hEo hEl gO hg;have HREST:Hid (ZE (ZA (Ls.getD k []) lk)/\(ZA (Ls.getD k []) lk).length<=64/\ZE (YV (ZA (Ls.getD k []) lk) size)/\(YV (ZA (Ls.getD k []) lk) size).length<=32/\ZM (Ls.drop (k+1))+Zd (YV (ZA (Ls.getD k []) lk) size)<=1000000000000/\ZC size Ls l=List.replicate (k+1) []++ZC size (Ls.drop (k+1)) (YV (ZA (Ls.getD k []) lk) size)):=by refine⟨gj,by omega,gc,by omega,by omega,?_⟩;rw[heq,hT,List.replicate_succ',List.append_assoc];rfl
   have HKL:Hid (k<Ls.length):=hkl;clear hX hu hcell hE hEo hEl hvo heq hfr hT hlen gj gc lc lj tc pj pl pr gO lO tO ht hg hno hnl h0 hkl;generalize (Ls.getD k []).length=no at *;go_wp2_with fail
   refine HJ.out.mono ?_;rintro e w1 ⟨vj,rfl,hoj,hbj⟩;have hs1:=hbj.size;obtain⟨aj,cj,rfl,hEj,hnj,_⟩:=hoj.seen (by have:=HREST.out.2.1;omega);have HCJ:Hid (Calls Tryz.prog 47 #[.slice aj (ZA (Ls.getD k []) lk).length cj,.int .i64 size] w1 fun e w'=>∃v,e=.returned v/\Zl w' w1.heap.size v (YV (ZA (Ls.getD k []) lk) size)/\Below w1.heap.size w1 w'):=Zne aj _ cj size w1 hEj HREST.out.1 hnj;clear hoj hEj hnj HJ;generalize (ZA (Ls.getD k []) lk).length=nj at *;go_wp2_with fail
   refine HCJ.out.mono ?_;rintro e w2 ⟨vc,rfl,hoc,hbc⟩;have hs2:=hbc.size;have hb12:Below wr.heap.size wr w2:=hbj.trans (hbc.mono hs1)
   have hfin:∃vs',Hid (Zd2 (w2.setCell ⟨g,k,none⟩ (.slice none 0 0)) base (.slice (some ⟨g,0,none⟩) n vcap) vs' (ZbS Ls (k+1))/\Zl (w2.setCell ⟨g,k,none⟩ (.slice none 0 0)) base vc (YV (ZA (Ls.getD k []) lk) size)/\ZE (YV (ZA (Ls.getD k []) lk) size)/\(YV (ZA (Ls.getD k []) lk) size).length<=32/\ZM (Ls.drop (k+1))+Zd (YV (ZA (Ls.getD k []) lk) size)<=1000000000000/\ZC size Ls l=List.replicate (k+1) []++ZC size (Ls.drop (k+1)) (YV (ZA (Ls.getD k []) lk) size))/\Below base w (w2.setCell ⟨g,k,none⟩ (.slice none 0 0))/\w2.cell? ⟨g,k,none⟩=some (.slice ao no co)/\w2.frozen? ⟨g,k,none⟩=false:=by
    have hX2:=HX.out.below hb12;have hkl:k<Ls.length:=HKL.out;have hnl:n=(ZbS Ls k).length:=(by rw[Zg1 (Nat.le_of_lt hkl)];exact HN.out);obtain⟨p1,p2⟩:=hX2.put (i:=k) hnl (Zl.nil w2 base) hkn;rw[Zom hkl] at p1;have hoc2:=(hoc.mono (show base<=w1.heap.size by omega)).grown hX2.row (by decide) p2;refine⟨_,⟨p1,hoc2,HREST.out.2.2⟩,?_,?_,?_⟩;exact(hbel.trans (hb12.mono (by omega))).setCell hgb _;exact(hb12.cell (p:=⟨g,k,none⟩) hgl).trans hck;have h2:=hX2.row;rw[<- hnl] at h2;exact World.ownsRow.frozenAt h2 k
   obtain⟨vs',HFIN,hbf,hck2,hfk2⟩:=hfin;clear hoc hbc hb12 hbj HX HCJ HREST hck hfk;go_wp2;go_roundw;case rel=>exact⟨k+1,_,vs',by go_num,by omega,HFIN,hbf⟩
   case measure=>simp[intOf];omega
  have hkn2:k=n:=(by omega);have hT:ZC size Ls l=List.replicate k []++[lk]:=(by rw[heq,List.drop_eq_nil_of_le (by have:=HN.out;omega)];rfl);have hnl:(ZbS Ls k).length=n:=(by rw[Zg1 (by have:=HN.out;omega)];exact HN.out.symm);have hlk:ZbS Ls k=List.replicate k []:=(by unfold ZbS;rw[List.drop_eq_nil_of_le (by have:=HN.out;omega),List.append_nil]);have hnk:¬(k:Int)<(n:Int):=(by omega);obtain⟨al,cl,hvl,hEl,hnl',_⟩:=hu.seen (by omega);subst hvl;have HX:Hid (Zd2 wr base (.slice va n vcap) vs (ZbS Ls k)):=hX;have HROW:Hid (wr.ownsRow base 29 1 (.slice va n vcap) n vs):=(by have:=hX.row;rw[hnl] at this;exact this);have HU2:Hid (Zl wr base (.slice al lk.length cl) lk):=hu;have HT:Hid (ZC size Ls l=ZbS Ls k++[lk]):=(by rw[hlk];exact hT);clear hX hu hT hlk heq hg ht hEl hnl'
  go_wp2_with (at_builtin;refine Zf rfl (.tmp 33) (.tmp 35) 80 rfl base 29 j0 (.slice none 0 0) 1 24 Tryz.underlying80 jinf jz0 jz1 jz2 rfl (by decide) _ n vs rfl (HROW.out.alloc _) ⟨wr.heap.size,0,none⟩ 1 1 [.slice al lk.length cl] rfl rfl ?_ ?_ ?_ ?_ ?_ ?_ ?_)
  rfl;unfold maxLen;omega;omega;omega;intro v3 w3 H3
  have HF:Hid (ZjO w3 base v3 (ZC size Ls l)/\Below base w w3):=by
   obtain⟨q1,q2,q3,_⟩:=H3.out;have hvl:vs.length=n:=(by have:=HROW.out.1;omega);refine⟨⟨vs++[.slice al lk.length cl],?_⟩,?_⟩
   ·rw[HT.out];refine⟨by rw[Qe,hnl];exact q1,fun i hi=>?_⟩;rw[Qe,hnl] at hi;simp at hi
    by_cases hin:i<n
    have e1:(vs++[Value.slice al lk.length cl]).getD i (.slice none 0 0)=vs.getD i (.slice none 0 0):=(by simp[List.getD,List.getElem?_append_left,hvl,hin]);have e2:(ZbS Ls k++[lk]).getD i []=(ZbS Ls k).getD i []:=(by simp[List.getD,List.getElem?_append_left,hnl,hin]);rw[e1,e2];exact((HX.out.each i (by omega)).alloc _).grown (HROW.out.alloc _) (by decide) q2;have e0:i=n:=(by omega);subst e0;have e1:(vs++[Value.slice al lk.length cl]).getD i (.slice none 0 0)=.slice al lk.length cl:=(by simp[List.getD,<- hvl]);have e2:(ZbS Ls k++[lk]).getD i []=lk:=(by simp[List.getD,<- hnl]);rw[e1,e2];exact(HU2.out.alloc _).grown (HROW.out.alloc _) (by decide) q2
   exact hbel.trans (((Below.refl _ _).alloc (by omega) _).grown q2 (by simp;omega) (fun k hk=>(HROW.out.lt k hk).1))
  clear H3;go_wp2;go_ret;exact⟨_,rfl,HF.out.1,HF.out.2⟩
def Zlm:Prop:=∀(va wa:Option Addr) (vl vc wl wc:Nat) (vz wz:List Int) (w:World),ZT w va vl vz->ZT w wa wl wz->vl<=2097152->wl<=2097152->
  Calls Tryz.prog 45 #[.slice va vl vc,.slice wa wl wc] w fun e w'=>∃v M,e=.returned v/\YC (Zn vz wz) M/\Zl w' w.heap.size v (ZS 0 M)/\Below w.heap.size w w'
theorem Zjy{vs ws:List Int}(h:vs.length<=2097152):ZE (ZcF vs ws)/\(ZcF vs ws).length<=vs.length/\Zd (ZcF vs ws)<=1000*(vs.length:Int):=by
 have hs:=ZeO (Zn vs ws);have hg:ZE (ZcF vs ws):=hs.good h;have hl:=ZbC vs ws;refine⟨hg,?_,?_⟩
 ·have:=hg.len (U:=(Zn vs ws).map fun p=>p.1) (fun e he=>by
   obtain⟨p,hp,h1,_⟩:=(Zdn (ZdU (Zn vs ws)) 0).1 e he;obtain⟨q,hq,e2⟩:=hs.sub p hp;rw[List.mem_map]
   exact⟨q,hq,by omega⟩)
  simp at this;omega
 have h1:=(Zi1.of_sum hs).total;have h2:=Zgc (ps:=Zn vs ws) (fun p hp=>(ZcY hp).1.2);unfold ZcF;rw[h1];have:((Zn vs ws).length:Int)<=(vs.length:Int):=(by omega);omega
theorem ZT.part{w:World}{b off n fr m:Nat}{zs:List Int}(h:ZT w (some ⟨b,off,none⟩) n zs)(hm:fr+m<=n):ZT w (some ⟨b,off+fr,none⟩) m ((zs.drop fr).take m):=by
 obtain⟨h1,h2,h3⟩:=h;refine⟨by simp;omega,fun z hz=>h2 z (List.mem_of_mem_drop (List.mem_of_mem_take hz)),?_⟩
 by_cases h0:m=0
 exact .inl h0
 rcases h3 with h3|⟨b',o',e,hlt,hc⟩
 omega;injection e with e;injection e with e1 e2;subst e1 e2;refine .inr ⟨b,off+fr,rfl,hlt,fun i hi=>?_⟩;rw[show off+fr+i=off+(fr+i) by omega,hc (fr+i) (by omega)];congr 2;simp[List.getD,List.getElem?_drop,hi]
theorem Zix{w w':World}{b off n B:Nat}{zs:List Int}(h:ZT w (some ⟨b,off,none⟩) n zs)(hb:Below B w w')(hlt:b<B):ZT w' (some ⟨b,off,none⟩) n zs:=by
 obtain⟨h1,h2,h3⟩:=h;refine⟨h1,h2,?_⟩
 rcases h3 with h3|⟨b',o',e,hlt',hc⟩
 exact .inl h3;injection e with e;injection e with e1 e2;subst e1 e2;exact .inr ⟨b,off,rfl,Qh hlt' hb.size,fun i hi=>(hb.cell (p:=⟨b,off+i,none⟩) hlt).trans (hc i hi)⟩
theorem Zjl(hOf:Zlm)(va wa:Option Addr)(n vcap wcap size:Nat)(vz wz:List Int)(w:World)(hv:ZT w va n vz)(hw:ZT w wa n wz)(hn:n<=1000)(hc1:n<=vcap)(hc2:n<=wcap)(hs:2<=size)(hs2:size<=32):Calls Tryz.prog 274 #[.slice va n vcap,.slice wa n wcap,.int .i64 size] w fun e w'=>∃v,e=.returned v/\Zl w' w.heap.size v (Yt size vz wz)/\Below w.heap.size w w':=by
 have HV:Hid (ZT w va n vz):=hv;have HW:Hid (ZT w wa n wz):=hw;have HOF:Hid Zlm:=hOf;have HLV:Hid (vz.length=n/\wz.length=n):=⟨hv.1,hw.1⟩;clear hv hw hOf;go_enter Tryz.func274,Tryz.ntmps274;go_wp2_with fail
 go_loopw [7,8] (fun tl tf wr=>∃(fr fu:Nat) (Ls:List (List Zt)),tf=.int .i64 fr/\fr<=n+size/\Hid (ZjO wr w.heap.size tl Ls/\Qs Ls/\ZM Ls<=1000*(fr:Int)/\Ls.length<=fr/\n-fr<=fu/\YN size fu Ls (vz.drop fr) (wz.drop fr)=YN size n [] vz wz)/\Below w.heap.size w wr) (fun _ tf _=>n+size-(intOf tf).toNat)
 case atStart=>exact⟨0,n,[],rfl,Qg _,⟨⟨[],World.ownsRow_nil _ _ _ _,fun i hi=>by simp at hi⟩,Qs.nil,by simp[ZM],by simp,by omega,rfl⟩,Below.refl _ _⟩
 case round=>
  obtain⟨fr,fu,Ls,rfl,hfr,HR,hbel⟩:=hrel;have hsz:=hbel.size
  by_cases hkn:fr<n
  ·rcases HV.out with⟨_,_,h0|⟨b1,o1,rfl,hb1,_⟩⟩;omega;rcases HW.out with⟨_,_,h0|⟨b2,o2,rfl,hb2,_⟩⟩;omega;obtain⟨te,hto⟩:∃te,te=min (fr+size) n:=⟨_,rfl⟩;have hlt1:(fr:Int)<(n:Int):=(by omega);have hle1:(fr:Int)<=(te:Int):=(by omega);have hle2:(te:Int)<=(vcap:Int):=(by omega);have hle3:(te:Int)<=(wcap:Int):=(by omega);have hne1:¬vcap=fr:=(by omega);have hne2:¬wcap=fr:=(by omega);have HTO:Hid (te=min (fr+size) n):=hto;clear hto;have hmm:te-fr<=size:=(by have:=HTO.out;omega);go_upto_region 5 with fail;go_cut [9] (fun v wx=>v=.int .i64 te/\wx=wr)
   case first=>
    by_cases hc:(fr:Int)+(size:Int)<=(n:Int)
    ·have e1:(te:Int)=(fr:Int)+(size:Int):=(by have:=HTO.out;omega);have E1:Hid ((te:Int)=(fr:Int)+(size:Int)):=e1;clear e1 hle1 hle2 hle3;go_wp2;go_meet
     exact⟨by rw[E1.out],rfl⟩
    have e1:(te:Int)=(n:Int):=(by have:=HTO.out;omega);have E1:Hid ((te:Int)=(n:Int)):=e1;clear e1 hle1 hle2 hle3;go_wp2;go_meet
    exact⟨by rw[E1.out],rfl⟩
   case rest=>
    obtain⟨rfl,hwc⟩:=hcut;obtain rfl:=hwc.symm;clear hwc
    have h25:Hid (∀W:World,Below w.heap.size w W->Calls Tryz.prog 45 #[.slice (some ⟨b1,o1+fr,none⟩) (te-fr) (vcap-fr),.slice (some ⟨b2,o2+fr,none⟩) (te-fr) (wcap-fr)] W fun e w'=>∃v,e=.returned v/\Zl w' W.heap.size v (ZcF ((vz.drop fr).take size) ((wz.drop fr).take size))/\Below W.heap.size W w'):=by
     intro W hW;have hp1:=(Zix HV.out hW hb1);have hp2:=(Zix HW.out hW hb2);have q1:=hp1.part (fr:=fr) (m:=te-fr) (by have:=HTO.out;omega);have q2:=hp2.part (fr:=fr) (m:=te-fr) (by have:=HTO.out;omega)
     have el:∀z:List Int,z.length=n->(z.drop fr).take (te-fr)=(z.drop fr).take size:=fun z hz=>by
      by_cases hc:fr+size<=n
      rw[show te-fr=size by have:=HTO.out;omega];rw[List.take_of_length_le (by simp;have:=HTO.out;omega),List.take_of_length_le (by simp;omega)]
     rw[el _ HLV.out.1] at q1;rw[el _ HLV.out.2] at q2;refine(HOF.out _ _ _ (vcap-fr) _ (wcap-fr) _ _ W q1 q2 (by omega) (by omega)).mono ?_;rintro e w' ⟨v,M,rfl,hM,ho,hb⟩;refine⟨v,rfl,?_,hb⟩;unfold ZcF;rw[Zhn hM];exact ho
    obtain⟨hL,hok,htot,hll,hfu,heq⟩:=HR.out;have hsum:=Zjy (vs:=(vz.drop fr).take size) (ws:=(wz.drop fr).take size) (by simp;have:=HLV.out;omega);have hclen:((vz.drop fr).take size).length<=size:=(by simp;omega);have htk:=Zds (size:=(size:Int)) (by omega) (by omega) hok hsum.1 (by omega) (by omega);obtain⟨f',hf'⟩:∃f',fu=f'+1:=⟨fu-1,by omega⟩;have heq2:YN size f' (ZC size Ls (ZcF ((vz.drop fr).take size) ((wz.drop fr).take size))) (vz.drop (fr+size)) (wz.drop (fr+size))=YN size n [] vz wz:=by rw[<- heq,hf'];simp only[YN];rw[if_neg (by simp;have:=HLV.out;omega),List.drop_drop,List.drop_drop]
    have HNX:Hid (Qs (ZC size Ls (ZcF ((vz.drop fr).take size) ((wz.drop fr).take size)))/\ZM (ZC size Ls (ZcF ((vz.drop fr).take size) ((wz.drop fr).take size)))<=1000*((fr+size:Nat):Int)/\(ZC size Ls (ZcF ((vz.drop fr).take size) ((wz.drop fr).take size))).length<=fr+size/\n-(fr+size)<=f'/\YN size f' (ZC size Ls (ZcF ((vz.drop fr).take size) ((wz.drop fr).take size))) (vz.drop (fr+size)) (wz.drop (fr+size))=YN size n [] vz wz):=by refine⟨htk.1,?_,?_,by omega,heq2⟩;rw[htk.2];omega;have:=Zhq (size:Int) Ls (ZcF ((vz.drop fr).take size) ((wz.drop fr).take size));omega
    have HTK:Hid (∀(W:World) (u:Value),Below wr.heap.size wr W->Zl W w.heap.size u (ZcF ((vz.drop fr).take size) ((wz.drop fr).take size))->Calls Tryz.prog 318 #[u7,u,.int .i64 size] W fun e w'=>∃v',e=.returned v'/\ZjO w' w.heap.size v' (ZC size Ls (ZcF ((vz.drop fr).take size) ((wz.drop fr).take size)))/\Below w.heap.size W w'):=(by intro W u hW hu;obtain⟨vs,hX⟩:=hL;exact ZmD w.heap.size u7 u Ls _ size W ⟨vs,hX.below hW⟩ hu hok hsum.1 (by omega) (by omega) (by omega) (by omega) (by omega) (by have:=hW.size;omega));clear hL hok htot hll hfu heq hsum hclen htk heq2 HR;generalize ZcF ((vz.drop fr).take size) ((wz.drop fr).take size)=sE at *;go_wp2_with fail
    go_region_held3 (fun _=>True) (trivial) (first|(go_at_call 45;refine(h25.out wr.drew hbel.drew).mono ?_;rintro e w1 ⟨vv,rfl,ho1,hb1'⟩)|(go_at_call 318;refine(HTK.out w1 vv ((Below.refl _ _).drew.trans hb1') (ho1.mono (by have:=hb1'.size;simp at this ⊢;omega))).mono ?_;rintro e w2 ⟨v2,rfl,hL2,hb2'⟩))
    have HF:Hid (ZjO w2 w.heap.size v2 (ZC size Ls sE)):=hL2;have hb4:Below w.heap.size w w2:=(hbel.drew.trans (hb1'.mono hsz)).trans hb2';clear hL2 hb2' hb1' ho1 h25 HTK hf';go_wp2;go_roundw;case rel=>exact⟨fr+size,f',_,by go_num,by omega,⟨HF.out,HNX.out⟩,hb4⟩
    case measure=>simp[intOf];omega
  have hnk:¬(fr:Int)<(n:Int):=by omega
  have HR2:Hid (ZjO wr w.heap.size u7 Ls/\Qs Ls/\ZM Ls<=2000000/\Ls.length<=2000/\Yt size vz wz=Y9 size [] Ls):=by
   obtain⟨h1,h2,h3,h4,h5,h6⟩:=HR.out;refine⟨h1,h2,by omega,by omega,?_⟩;unfold Yt;rw[HLV.out.1,<- h6]
   cases fu with
   |zero=>rfl
   | succ f=>
    simp only[YN];rw[if_pos (by simp;have:=HLV.out;omega)]
  obtain⟨vs,hX⟩:=HR2.out.1
  have hvf:∃a c,u7=.slice a Ls.length c:=by
   rcases hX.row.2 with⟨rfl,h1⟩|⟨g,cap,cur,rfl,_⟩
   exact⟨none,0,by rw[h1]⟩;exact⟨_,_,rfl⟩
  obtain⟨la,lc,rfl⟩:=hvf;have HX:Hid (Zd2 wr w.heap.size (.slice la Ls.length lc) vs Ls):=hX;have HRR:Hid (Qs Ls/\ZM Ls<=2000000/\Yt size vz wz=Y9 size [] Ls):=⟨HR2.out.2.1,HR2.out.2.2.1,HR2.out.2.2.2.2⟩;have hln:=HR2.out.2.2.2.1;obtain⟨m,hm⟩:∃m,m=Ls.length:=⟨_,rfl⟩;have HM:Hid (m=Ls.length):=hm;rw[<- hm] at hln ⊢;clear hX hm HR HR2 HOF;obtain⟨wl,hwl⟩:∃wl,wl=wr:=⟨wr,rfl⟩;subst hwl;go_wp2_with fail
  go_loopw [40,10] (fun ti tal wr=>∃(k:Nat) (al:List Zt),ti=.int .i64 k/\k<=m/\Hid (Zl wr w.heap.size tal al/\ZE al/\al.length<=32/\Zd al+ZM (Ls.drop k)<=2000000/\Y9 size al (Ls.drop k)=Y9 size [] Ls)/\Below wl.heap.size wl wr) (fun ti _ _=>m-(intOf ti).toNat)
  case atStart=>exact⟨0,[],rfl,Qg _,⟨Zl.nil _ _,ZE.nil,by simp,by have:=HRR.out.2.1;simpa [Zd] using this,rfl⟩,Below.refl _ _⟩
  case round=>
   obtain⟨k,al,rfl,hk,HR,hbq⟩:=hrel;have hsq:=hbq.size
   by_cases hkm:k<m
   ·have hkl:k<Ls.length:=(by rw[<- HM.out];exact hkm);obtain⟨hal,gal,lal,tal,heq⟩:=HR.out;have hXq:=HX.out.below hbq;obtain⟨g,cap,hv,hgb,hgl,hcell,_⟩:=hXq.view (by omega);injection hv with hv1 hv2 hv3;subst hv1 hv3;clear hv2;have hck:=hcell k hkl;have hE:=hXq.each k hkl;have gO:=HRR.out.1.good _ (Zde hkl);have lO:=HRR.out.1.len _ (Zde hkl);have tO:=ZfJ hkl;have tP:=Qj (Ls:=Ls.drop (k+1)) (fun x hx=>HRR.out.1.good x (List.mem_of_mem_drop hx));obtain⟨ao,co,hvo,hEo,hno,_⟩:=hE.seen (by omega);rw[hvo] at hck;obtain⟨aa,ca,hva,hEa,hna,_⟩:=hal.seen (by omega);subst hva;have hd:Ls.drop k=Ls.getD k []::Ls.drop (k+1):=by rw[List.drop_eq_getElem_cons hkl];simp[List.getD,hkl]
    rw[hd] at heq;simp only[Y9] at heq;have gj:ZE (ZA al (Ls.getD k [])):=Zay gal gO (by omega);have gc:ZE (YV (ZA al (Ls.getD k [])) size):=gj.sub (ZaI gj size);have lcu:=Zb2 (ZA al (Ls.getD k [])) (size:=(size:Int)) (by omega);have lj:=Zdi al (Ls.getD k []);have tc:Zd (YV (ZA al (Ls.getD k [])) size)=Zd al+Zd (Ls.getD k []):=(by rw[Za7,ZaD]);have HJ:Hid (Calls Tryz.prog 46 #[.slice aa al.length ca,.slice ao (Ls.getD k []).length co] wr fun e w'=>∃v,e=.returned v/\Zl w' wr.heap.size v (ZA al (Ls.getD k []))/\Below wr.heap.size wr w'):=ZgS aa ao al _ ca co wr hEa hEo gal gO
    have HREST:Hid (ZE (ZA al (Ls.getD k []))/\(ZA al (Ls.getD k [])).length<=64/\ZE (YV (ZA al (Ls.getD k [])) size)/\(YV (ZA al (Ls.getD k [])) size).length<=32/\Zd (YV (ZA al (Ls.getD k [])) size)+ZM (Ls.drop (k+1))<=2000000/\Y9 size (YV (ZA al (Ls.getD k [])) size) (Ls.drop (k+1))=Y9 size [] Ls):=⟨gj,by omega,gc,by omega,by omega,heq⟩;have bk1:(0:Int)<=(k:Int):=(by omega);have bk2:(k:Int)<(m:Int):=(by omega);clear hal gal tal heq hXq hcell hE gO lO tO tP hvo hEo hno hEa hna hd gj gc lcu lj tc HR;generalize (Ls.getD k []).length=no at *;go_wp2_with fail
    refine HJ.out.mono ?_;rintro e w1 ⟨vj,rfl,hoj,hbj⟩;have hs1:=hbj.size;obtain⟨aj,cj,rfl,hEj,hnj,_⟩:=hoj.seen (by have:=HREST.out.2.1;omega);have HCJ:Hid (Calls Tryz.prog 47 #[.slice aj (ZA al (Ls.getD k [])).length cj,.int .i64 size] w1 fun e w'=>∃v,e=.returned v/\Zl w' w1.heap.size v (YV (ZA al (Ls.getD k [])) size)/\Below w1.heap.size w1 w'):=Zne aj _ cj size w1 hEj HREST.out.1 hnj;clear hoj hEj hnj HJ;generalize (ZA al (Ls.getD k [])).length=nj at *;go_wp2_with fail
    refine HCJ.out.mono ?_;rintro e w2 ⟨vc,rfl,hoc,hbc⟩;have hs2:=hbc.size;have hb4:Below wl.heap.size wl w2:=hbq.trans ((hbj.trans (hbc.mono hs1)).mono hsq);have HF:Hid (Zl w2 w.heap.size vc (YV (ZA al (Ls.getD k [])) size)):=hoc.mono (by omega);clear hoc hbc hbj HCJ hck;go_wp2;go_roundw;case rel=>exact⟨k+1,_,by go_num,by omega,⟨HF.out,HREST.out.2.2⟩,hb4⟩
    case measure=>simp[intOf];omega
   have hnk2:¬(k:Int)<(m:Int):=(by omega);have HF:Hid (Zl wr w.heap.size u10 (Yt size vz wz)/\Below w.heap.size w wr):=(by obtain⟨h1,_,_,_,h5⟩:=HR.out;rw[List.drop_eq_nil_of_le (by have:=HM.out;omega)] at h5;simp only[Y9] at h5;rw[HRR.out.2.2,<- h5];exact⟨h1,hbel.trans (hbq.mono hsz)⟩);clear HR;go_wp2;go_ret;exact⟨_,rfl,HF.out.1,HF.out.2⟩
def ZjM:Prop:=∀w:World,Calls Tryz.prog 16 #[] w fun e w'=>e=.returned (.bool true)/\Below w.heap.size w w'
end Go.Proofs.YtfcgnpchbcmdeaaGreat
