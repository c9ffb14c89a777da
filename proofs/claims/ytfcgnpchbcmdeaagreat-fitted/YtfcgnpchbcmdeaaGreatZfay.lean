import Derived.Test.YtfcgnpchbcmdeaaGreatZfaw
namespace Go.Proofs.YtfcgnpchbcmdeaaGreat
set_option linter.unusedSimpArgs false
set_option maxRecDepth 100000
set_option maxHeartbeats 4000000
open Go.RowKit
def Zau(n:Nat):GS:=⟨[],List.replicate n false,0,0⟩
def ZE(Ks:List KS)(Os:List (List Bool))(n budget:Nat)(Gs:List GS)(f:Nat):List GS:=
 if Gs.findIdx (YI (Os.getD f []) (Ks.getD f ZK).many budget)<Gs.length then Gs.set (Gs.findIdx (YI (Os.getD f []) (Ks.getD f ZK).many budget)) (Zbt (Gs.getD (Gs.findIdx (YI (Os.getD f []) (Ks.getD f ZK).many budget)) g0S) f (Os.getD f []) (Ks.getD f ZK).many)
 else Gs++[Zbt (Zau n) f (Os.getD f []) (Ks.getD f ZK).many]
def Zat(m:Nat)(Ks:List KS)(Os:List (List Bool))(n budget:Nat):List GS:=(ZbE m Os).foldl (ZE Ks Os n budget) []
structure Zf1(n k:Nat)(Gs:List GS):Prop where
 len:Gs.length<=k
 each:∀G∈Gs,G.out.length=n/\G.conf<=400/\G.bins<=400/\G.fs.length<=k
theorem ZmR{a b:List Bool}(h:a.length=b.length):Y4 a b<=b.length:=by have:=ZeG (Qy a b);rw[Zcn h] at this;exact this
theorem Zf1.step{n k budget:Nat}{Ks:List KS}{Os:List (List Bool)}{Gs:List GS}{f:Nat}(h:Zf1 n k Gs)(hO:(Os.getD f []).length=n)(hn:n<=200)(hb:budget<=20)(hm:(Ks.getD f ZK).many<=100):Zf1 n (k+1) (ZE Ks Os n budget Gs f):=by
 unfold ZE;split
 ·rename_i hi;have hroom:=List.findIdx_getElem (w:=hi);generalize Gs.findIdx (YI (Os.getD f []) (Ks.getD f ZK).many budget)=i at *;have eG:Gs.getD i g0S=Gs[i]:=(by simp[List.getD,hi]);rw[eG];obtain⟨g1,g2,g3,g4⟩:=h.each Gs[i] (Qf hi);simp only[YI,Bool.and_eq_true,decide_eq_true_eq] at hroom;refine⟨by rw[List.length_set];have:=h.len;omega,fun G hG=>?_⟩
  rcases List.mem_or_eq_of_mem_set hG with hG|rfl
  obtain⟨a1,a2,a3,a4⟩:=h.each G hG;exact⟨a1,a2,a3,by omega⟩;refine⟨?_,?_,?_,?_⟩;show(orL _ _).length=n;rw[Za0 (by omega)];exact g1;show Gs[i].conf+Y4 Gs[i].out (Os.getD f [])<=400;omega;show Gs[i].bins+_<=400;omega;show(Gs[i].fs++[f]).length<=k+1;simp;omega
 refine⟨by rw[Qe];have:=h.len;simp;omega,fun G hG=>?_⟩
 rcases List.mem_append.1 hG with hG|hG
 obtain⟨a1,a2,a3,a4⟩:=h.each G hG;exact⟨a1,a2,a3,by omega⟩;simp only[List.mem_cons,List.not_mem_nil,or_false] at hG;subst hG;have hl:(Zau n).out.length=(Os.getD f []).length:=(by rw[hO];exact List.length_replicate);refine⟨?_,?_,?_,?_⟩;show(orL _ _).length=n;rw[Za0 hl];simp[Zau];show 0+Y4 (Zau n).out (Os.getD f [])<=400;have:=ZmR hl;omega;show 0+_<=400;omega;show([]++[f]).length<=k+1;simp
theorem Zf1.ok{n k:Nat}{Gs:List GS}(h:Zf1 n k Gs)(hk:k<=100):∀G∈Gs,GOk n G:=fun G hG=>by obtain⟨a1,a2,a3,a4⟩:=h.each G hG;exact⟨a1,by omega,by omega,by omega⟩
theorem Zas.at2{w:World}{q n c:Nat}{vs:List (Value×Value)}{Ks:List KS}(h:Zas w (.slice (some ⟨q,0,none⟩) n c) vs Ks){i:Nat}(hi:i<Ks.length):∃ab cb aw cw,q<w.heap.size/\w.cell? ⟨q,i*4,none⟩=some (.bool (Ks.getD i ZK).e.wd)/\w.cell? ⟨q,i*4+1,none⟩=some (.slice ab (Ks.getD i ZK).e.bs.length cb)/\w.cell? ⟨q,i*4+2,none⟩=some (.slice aw (Ks.getD i ZK).e.ww.length cw)/\w.cell? ⟨q,i*4+3,none⟩=some (.int .i64 ((Ks.getD i ZK).d:Nat))/\Ze w 0 (.slice ab (Ks.getD i ZK).e.bs.length cb) (Ks.getD i ZK).e.bs/\ZR w 0 (.slice aw (Ks.getD i ZK).e.ww.length cw) (Ks.getD i ZK).e.ww:=by obtain⟨q',c',ab,cb,aw,cw,e,r⟩:=h.at hi;injection e with e _ _;injection e with e;injection e with e _;subst e;exact⟨ab,cb,aw,cw,r⟩
theorem YV.at2{w:World}{q n c:Nat}{vs:List Value}{Os:List (List Bool)}(h:YV w (.slice (some ⟨q,0,none⟩) n c) vs Os){i:Nat}(hi:i<Os.length):q<w.heap.size/\w.cell? ⟨q,i,none⟩=some (vs.getD i (.slice none 0 0)):=by obtain⟨q',c',e,r⟩:=h.at hi;injection e with e _ _;injection e with e;injection e with e _;subst e;exact r
theorem Zn3:(Tryz.prog.info? 313).map (fun i=>(i.zero,i.size,i.bytes))=some (some (.pointer none),1,8):=by kernel_rfl
theorem KS.many_eq(k:KS):((ZaR k.e.wd k.e.bs.length k.e.ww.length:Nat):Int)+2=((k.many:Nat):Int):=by unfold KS.many ES.cnt;omega
def ZpF(w:World)(N:Nat)(v:Value)(Gs:List GS):Prop:=∃base gbs Kk,N<=base/\QJ w base v gbs Kk Gs
theorem Zew(m n budget qk kc qo oc:Nat)(vs:List (Value×Value))(os:List Value)(Ks:List KS)(Os:List (List Bool))(w:World)(hm:m+1<=4)(hKl:Ks.length=m+1)(hOl:Os.length=m+1)(hK:Zas w (.slice (some ⟨qk,0,none⟩) (m+1) kc) vs Ks)(hO:YV w (.slice (some ⟨qo,0,none⟩) (m+1) oc) os Os)(hl:∀O∈Os,O.length=n)(hn:n<=200)(hb:budget<=20)(hcn:∀K∈Ks,K.many<=100):Calls Tryz.prog 206 #[.slice (some ⟨qk,0,none⟩) (m+1) kc,.slice (some ⟨qo,0,none⟩) (m+1) oc,.int .i64 budget] w fun e w'=>∃v,e=.returned v/\ZpF w' w.heap.size v (Zat m Ks Os n budget)/\Below w.heap.size w w':=by
 have HBY:Hid (Calls Tryz.prog 254 #[.slice (some ⟨qo,0,none⟩) (m+1) oc] w fun e w'=>∃v,e=.returned v/\Ze w' w.heap.size v (ZP (ZbE m Os))/\Below w.heap.size w w'):=Zdd m qo oc n os Os w hm hOl hO hl hn;have HH:Hid (Zas w (.slice (some ⟨qk,0,none⟩) (m+1) kc) vs Ks/\YV w (.slice (some ⟨qo,0,none⟩) (m+1) oc) os Os/\Ks.length=m+1/\Os.length=m+1/\(∀O∈Os,O.length=n)/\∀K∈Ks,K.many<=100):=⟨hK,hO,hKl,hOl,hl,hcn⟩;have HOL:Hid ((ZbE m Os).length=m+1/\∀f∈ZbE m Os,f<m+1):=⟨ZiU m Os,Zk9 m Os⟩;obtain⟨j0,jinf,jz0,jz1,jz2⟩:=info_parts Zn3;clear hKl hOl hK hO hl hcn;go_enter Tryz.func206,Tryz.ntmps206;go_wp2_with fail
 refine HBY.out.mono ?_;rintro e w1 ⟨vord,rfl,hord,hb1⟩;obtain⟨oa,occ,hvo⟩:=hord.shape;rw[ZQ,HOL.out.1] at hvo;subst hvo;obtain⟨qr,hqr,hqrl,hqrb,_,_⟩:=hord.atK (k:=0) (by rw[ZQ];exact HOL.out.1) (by omega);subst hqr;have hs1:=hb1.size;have HORD:Hid (Ze w1 w.heap.size (.slice (some ⟨qr,0,none⟩) (m+1) occ) (ZP (ZbE m Os))):=hord;have HB1:Hid (Below w.heap.size w w1):=hb1;have HLAY:Hid (Zat m Ks Os n budget=(ZbE m Os).foldl (ZE Ks Os n budget) []):=rfl;clear hord hb1 HBY;generalize ZbE m Os=ord at *;go_wp2_with fail
 go_loopw [15,7] (fun ti tG wr=>∃(k:Nat) (gbs:List Nat) (Kk:Nat->Nat->Prop),ti=.int .i64 k/\k<=m+1/\Hid (QJ wr w1.heap.size tG gbs Kk ((ord.take k).foldl (ZE Ks Os n budget) [])/\Zf1 n k ((ord.take k).foldl (ZE Ks Os n budget) []))/\Hid (Below w1.heap.size w1 wr)) (fun ti _ _=>m+1-(intOf ti).toNat)
 case atStart=>
  refine⟨0,[],fun _ _=>False,rfl,Qg _,⟨⟨⟨World.ownsRow_nil _ _ _ _,rfl,(fun i hi=>by simp at hi),(fun i j hi=>by simp at hi)⟩,(fun i hi=>by simp at hi),(fun k hk=>by simp[Value.ownBlock] at hk),(fun i hi=>by simp at hi)⟩,⟨by simp,by simp⟩⟩,Below.refl _ _⟩
 case round=>
  obtain⟨k,gbs,Kk,rfl,hk,HG,HB⟩:=hrel;have hsz:=HB.out.size
  by_cases hkm:k<m+1
  ·have hkl:k<ord.length:=(by rw[HOL.out.1];exact hkm);have hfm:ord.getD k 0<m+1:=(by have:ord.getD k 0=ord[k]:=(by simp[List.getD,hkl]);rw[this];exact HOL.out.2 _ (Qf hkl));have hfold:(ord.take (k+1)).foldl (ZE Ks Os n budget) []=ZE Ks Os n budget ((ord.take k).foldl (ZE Ks Os n budget) []) (ord.getD k 0):=(by rw[Qi hkl,List.foldl_append];simp[List.getD,hkl]);have HNX:Hid ((ord.take (k+1)).foldl (ZE Ks Os n budget) []=ZE Ks Os n budget ((ord.take k).foldl (ZE Ks Os n budget) []) (ord.getD k 0)):=hfold;have hc0:wr.cell? ⟨qr,k,none⟩=some (.int .i64 ((ord.getD k 0:Nat):Int)):=by have:=(HORD.out.cellK (by rw[ZQ];exact HOL.out.1.symm) hkm).1;rw[YO] at this;exact(HB.out.cell (p:=⟨qr,k,none⟩) hqrl).trans this
   clear hfold;generalize ord.getD k 0=f at *;generalize (ord.take k).foldl (ZE Ks Os n budget) []=Gs at *;have hbw:Below w.heap.size w wr:=HB1.out.trans (HB.out.mono hs1);have hKw:=HH.out.1.below hbw;have hOw:=HH.out.2.1.below hbw;obtain⟨ab,cb,aw,cw,hqkl,k0,k1,k2,k3,_,_⟩:=hKw.at2 (i:=f) (by rw[HH.out.2.2.1];exact hfm);obtain⟨hqol,o0⟩:=hOw.at2 (i:=f) (by rw[HH.out.2.2.2.1];exact hfm);have hOf:=hOw.each f (by rw[HH.out.2.2.2.1];exact hfm);have hOfl:(Os.getD f []).length=n:=HH.out.2.2.2.2.1 _ (by simp[List.getD,show f<Os.length by rw[HH.out.2.2.2.1];exact hfm]);have hmany:(Ks.getD f ZK).many<=100:=HH.out.2.2.2.2.2 _ (by simp[List.getD,show f<Ks.length by rw[HH.out.2.2.1];exact hfm]);obtain⟨fa,fc,hfv⟩:=hOf.shape;rw[hfv] at o0 hOf;rw[hOfl] at o0 hOf;have HMN:=KS.many_eq (Ks.getD f ZK)
   have HHM:Hid (∀W:World,Calls Tryz.prog 146 #[.agg #[.bool (Ks.getD f ZK).e.wd,.slice ab (Ks.getD f ZK).e.bs.length cb,.slice aw (Ks.getD f ZK).e.ww.length cw]] W fun e w'=>e=.returned (.int .i64 (((Ks.getD f ZK).many:Nat):Int))/\Below W.heap.size W w'):=fun W=>by rw[<- HMN];exact Y5 _ ab aw _ cb _ cw W (by unfold KS.many ES.cnt at hmany;omega)
   have HOF:Hid (Z7 wr 0 (.slice fa n fc) (Os.getD f [])/\(Os.getD f []).length=n):=⟨hOf,hOfl⟩;have HSTEP:Hid (ZE Ks Os n budget Gs f=if Gs.findIdx (YI (Os.getD f []) (Ks.getD f ZK).many budget)<Gs.length then Gs.set (Gs.findIdx (YI (Os.getD f []) (Ks.getD f ZK).many budget)) (Zbt (Gs.getD (Gs.findIdx (YI (Os.getD f []) (Ks.getD f ZK).many budget)) g0S) f (Os.getD f []) (Ks.getD f ZK).many) else Gs++[Zbt (Zau n) f (Os.getD f []) (Ks.getD f ZK).many]):=rfl;have HINV:Hid (Zf1 n (k+1) (ZE Ks Os n budget Gs f)):=HG.out.2.step hOfl hn hb hmany
   have hfaw:∀q,fa=some ⟨q,0,none⟩->q<w.heap.size:=fun q hq=>by have h0:=HH.out.2.1.each f (by rw[HH.out.2.2.2.1];exact hfm);rw[hfv,hq] at h0;exact(World.ownsRow.lt h0 q rfl).2
   clear hKw hOw hfv HMN k3 hOf hOfl hbw;generalize Ks.getD f ZK=Kf at *;generalize Os.getD f []=Of at *;generalize Kf.e.wd=kwd at *;generalize Kf.e.bs.length=knb at *;generalize Kf.e.ww.length=knw at *;generalize Kf.many=km at *;generalize ZE Ks Os n budget Gs f=Gs' at *;obtain⟨ga,gc,hgv⟩:=HG.out.1.x.form;subst hgv;have bk1:(0:Int)<=(k:Int):=(by omega);have bk2:(k:Int)<(m:Int)+1:=(by omega);have bf1:(0:Int)<=(f:Int):=(by omega);have bf2:(f:Int)<(m:Int)+1:=(by omega);go_wp2_with fail
   refine(HHM.out _).mono ?_;rintro e w2 ⟨rfl,hb2⟩;have hs2:=hb2.size;have o2:w2.cell? ⟨qo,f,none⟩=some (.slice fa n fc):=(hb2.cell (p:=⟨qo,f,none⟩) hqol).trans o0;have HG2:Hid (QJ w2 w1.heap.size (.slice ga Gs.length gc) gbs Kk Gs):=by refine HG.out.1.touch (S:=fun _=>False) (Za.of_below hb2) (fun _ _=>id)
   have HOF2:Hid (Z7 w2 0 (.slice fa n fc) Of/\Of.length=n):=⟨HOF.out.1.below hb2,HOF.out.2⟩;have HB2:Hid (Below w1.heap.size w1 w2):=HB.out.trans (hb2.mono hsz);have HOK:Hid (Zf1 n k Gs):=HG.out.2;have HFW:Hid (Calls Tryz.prog 255 #[.slice ga Gs.length gc,.slice fa n fc,.int .i64 km,.int .i64 budget] w2 fun e w'=>e=.returned (Zir gbs Gs.length (Gs.findIdx (YI Of km budget)))/\Below w2.heap.size w2 w'):=Zdi ga fa gc n fc km budget gbs Kk Gs Of w2 HG2.out.x (HOK.out.ok (by omega)) HOF2.out.1 HOF2.out.2 hn (by omega) (by have:=HOK.out.len;omega);clear HG HOF HB hb2 k0 k1 k2 o0 hc0;generalize hgl:Gs.length=gl at *;have HGL:Hid (Gs.length=gl):=hgl;clear hgl;go_wp2_with fail
   refine HFW.out.mono ?_;rintro e w3 ⟨rfl,hb3⟩;have hs3:=hb3.size;have o3:w3.cell? ⟨qo,f,none⟩=some (.slice fa n fc):=(hb3.cell (p:=⟨qo,f,none⟩) (by show qo<_;omega)).trans o2;have HG3:Hid (QJ w3 w1.heap.size (.slice ga gl gc) gbs Kk Gs):=HG2.out.touch (S:=fun _=>False) (Za.of_below hb3) (fun _ _=>id);have HOF3:Hid (Z7 w3 0 (.slice fa n fc) Of/\Of.length=n):=⟨HOF2.out.1.below hb3,HOF2.out.2⟩;have HB3:Hid (Below w1.heap.size w1 w3):=HB2.out.trans (hb3.mono (by omega));clear HG2 HOF2 HB2 HFW hb3 o2;generalize Gs.findIdx (YI Of km budget)=ix at *
   by_cases hix:ix<gl
   ·have hfv:Zir gbs gl ix=.pointer (some ⟨gbs.getD ix 0,0,none⟩):=(by unfold Zir;rw[if_pos hix];rfl);rw[hfv];obtain⟨vf,vo,hGK⟩:=HG3.out.x.each ix (by rw[HGL.out];exact hix);have hok:=HOK.out.ok (by omega) (Gs.getD ix g0S) (by simp[List.getD,show ix<Gs.length by rw[HGL.out];exact hix])
    have HAD:Hid (Calls Tryz.prog 256 #[.pointer (some ⟨gbs.getD ix 0,0,none⟩),.int .i64 f,.slice fa n fc,.int .i64 km] w3 fun e w'=>e=.returned (.tuple #[])/\(∃K',ZeS w' K' (gbs.getD ix 0) (Zbt (Gs.getD ix g0S) f Of km)/\∀k,K' k->Kk ix k∨w3.heap.size<=k)/\Za (Kk ix) w3 w'):=
     ZkH (Kk ix) _ f km vf vo fa n fc Of _ w3 hGK HOF3.out.1 hok.out HOF3.out.2 hn hok.conf hok.bins (by omega) hok.fs (fun q hq h1=>by
      have h2:=HG3.out.kb ix (by rw[HGL.out];exact hix) q h1
      have h3:fa=some ⟨q,0,none⟩:=by
       rcases HOF3.out.1.2 with⟨e,_⟩|⟨g,cap,cur,e,_⟩
       rw[e] at hq;cases hq;injection e with e _ _;rw[e] at hq ⊢;simp[Value.ownBlock] at hq;rw[hq]
      have:=hfaw q h3
      omega)
    have HST2:Hid (Gs'=Gs.set ix (Zbt (Gs.getD ix g0S) f Of km)):=(by have:=HSTEP.out;rw[if_pos hix] at this;exact this);clear hGK hok hfv;obtain⟨gb,hgb⟩:∃gb,gb=gbs.getD ix 0:=⟨_,rfl⟩;have HGB:Hid (gb=gbs.getD ix 0):=hgb;rw[<- hgb] at HAD ⊢;clear hgb;go_wp2_with fail
    refine HAD.out.mono ?_;rintro e w4 ⟨rfl,⟨K',hG',hK'⟩,t4⟩;have HF:Hid (QJ w4 w1.heap.size (.slice ga gl gc) gbs (fun j=>if j=ix then K' else Kk j) ((ord.take (k+1)).foldl (ZE Ks Os n budget) [])):=(by rw[HNX.out,HST2.out];exact HG3.out.put (by rw[HGL.out];exact hix) t4 (by rw[<- HGB.out];exact hG') hK' (by omega));have HBF:Hid (Below w1.heap.size w1 w4):=by have h3:=HB3.out;exact⟨t4.os.trans h3.os,t4.tape.trans h3.tape,t4.output.trans h3.output,Nat.le_trans h3.size t4.size,fun q hq=>(t4.block q (by omega) (fun h=>by have:=HG3.out.kb ix (by rw[HGL.out];exact hix) q h;omega)).trans (h3.block q hq)⟩
    have HIN:Hid (Zf1 n (k+1) ((ord.take (k+1)).foldl (ZE Ks Os n budget) [])):=(by rw[HNX.out];exact HINV.out);clear hG' hK' t4 HAD HG3 HB3 HOF3 o3;go_wp2;go_roundw;case rel=>exact⟨k+1,gbs,_,by go_num,by omega,⟨HF.out,HIN.out⟩,HBF⟩
    case measure=>simp[intOf];omega
   have hfv:Zir gbs gl ix=.pointer none:=(by unfold Zir;rw[if_neg hix]);rw[hfv];have HST2:Hid (Gs'=Gs++[Zbt (Zau n) f Of km]):=(by have:=HSTEP.out;rw[if_neg hix] at this;exact this);have hmk:=Zfs n (by omega);clear hfv;have HROW:Hid (w3.ownsRow 0 313 1 (.slice ga gl gc) gl (gbs.map ZfD)):=(by have:=HG3.out.x.row;rw[HGL.out] at this;exact this);go_wp2_with (at_builtin;refine Zd rfl (.tmp 43) (.tmp 45) 311 rfl 0 313 j0 (.pointer none) 1 8 Tryz.underlying311 jinf jz0 jz1 jz2 rfl (by decide) _ gl (gbs.map ZfD) rfl (((HROW.out.alloc _).alloc _).alloc _) ⟨w3.heap.size+1+1,0,none⟩ 1 1 [.pointer (some ⟨w3.heap.size+1,0,none⟩)] rfl rfl ?_ ?_ ?_ ?_ ?_ ?_ ?_)
   ·intro j u hj
    cases j with
    |zero=>simp at hj;subst hj;simp[go_sem,Addr.add]
    |succ j=>simp at hj
   intro u hu;simp at hu;subst hu;rfl;decide;unfold maxLen;have:=HOK.out.len;have:=HGL.out;omega;have:=HOK.out.len;have:=HGL.out;omega;omega;intro v4 w4 H4;obtain⟨r4,g4,d4,_,_⟩:=H4.out;obtain⟨wx,hwx⟩:∃wx,wx=((w3.alloc (.cells (madeCells #[.bool false] n) 4)).alloc (.cells #[.slice none 0 0,.slice (some ⟨w3.heap.size,0,none⟩) n n,.int .i64 0,.int .i64 0] 351)).alloc (.cells #[.pointer (some ⟨w3.heap.size+1,0,none⟩)] 313):=⟨_,rfl⟩;rw[<- hwx] at g4 d4;have hxs:wx.heap.size=w3.heap.size+1+1+1:=(by rw[hwx];simp);have hbx:Below w3.heap.size w3 wx:=(by rw[hwx];exact(((Below.refl _ _).alloc (Qa _) _).alloc (by simp) _).alloc (by simp;omega) _);have hGx:QJ wx w1.heap.size (.slice ga gl gc) gbs Kk Gs:=HG3.out.touch (S:=fun _=>False) (Za.of_below hbx) (fun _ _=>id)
   have hflag:Z7 (w3.alloc (.cells (madeCells #[.bool false] n) 4)) 0 (.slice (some ⟨w3.heap.size,0,none⟩) n n) (List.replicate n false):=Zfq n w3 0 (by omega) (Qg _)
   have hnew:ZeS wx (fun q=>q=w3.heap.size∨q=w3.heap.size+1) (w3.heap.size+1) (Zau n):=by refine⟨.slice none 0 0,.slice (some ⟨w3.heap.size,0,none⟩) n n,⟨?_,Ze.nil _ _,?_,.inr rfl,fun q hq=>by simp[Value.ownBlock] at hq,fun q hq=>by simp[Value.ownBlock] at hq;exact .inl hq.symm,fun q hq=>by rcases hq with e|e<;>omega⟩⟩;rw[hwx];have:=heap_alloc_new (w3.alloc (.cells (madeCells #[.bool false] n) 4)) (.cells #[.slice none 0 0,.slice (some ⟨w3.heap.size,0,none⟩) n n,.int .i64 0,.int .i64 0] 351);rw[show(w3.alloc (.cells (madeCells #[.bool false] n) 4)).heap.size=w3.heap.size+1 by simp] at this;exact(Below.heap_alloc _ _ _ (by simp)).trans this;rw[hwx];exact(hflag.alloc _).alloc _
   have hGY:QJ w4 w1.heap.size v4 (gbs++[w3.heap.size+1]) (fun j=>if j=Gs.length then(fun q=>q=w3.heap.size∨q=w3.heap.size+1) else Kk j) (Gs++[Zau n]):=by
    refine hGx.snoc (by rw[HGL.out];exact r4) g4 ?_ hnew (fun i hi q hq h1=>?_) (fun q hq h1=>?_) (fun q hq=>by rcases hq with e|e<;>omega) (by omega)
    ·rcases d4 with e|e
     exact .inl e;exact .inr ⟨_,e.1,by omega⟩
    ·obtain⟨vf,vo,hG⟩:=HG3.out.x.each i hi;have:=hG.kl q hq
     rcases h1 with e|e<;>omega
    have:=(World.ownsRow.lt HROW.out q hq).2
    rcases h1 with e|e<;>omega
   have hb4:Below w3.heap.size w3 wx:=hbx;have t34:Za (fun q=>(Value.slice ga gl gc).ownBlock=some q) w3 w4:=(Za.of_below hbx).trans ((Za.refl _ wx).grown g4 (fun q hq _=>hq));have hs4:w3.heap.size+1+1+1<=w4.heap.size:=by rw[<- hxs];exact g4.size
   have o4:w4.cell? ⟨qo,f,none⟩=some (.slice fa n fc):=by
    have:w4.heap[qo]? =w3.heap[qo]?:=t34.block qo (by omega) (fun hq=>by
     obtain⟨cur,hc⟩:=Zf HROW.out hq;have h1:=HG3.out.rb qo hq;have:=HH.out.2.1.at2 (i:=f) (by rw[HH.out.2.2.2.1];exact hfm)
     omega)
    rw[World.cell?_of_block (a:=⟨qo,f,none⟩) this];exact o3
   have hOF4:Z7 w4 0 (.slice fa n fc) Of:=t34.row HOF3.out.1 (fun q hq h1=>by
    have h2:=HG3.out.rb q h1
    have h3:fa=some ⟨q,0,none⟩:=by
     rcases HOF3.out.1.2 with⟨e,_⟩|⟨g,cap,cur,e,_⟩
     rw[e] at hq;cases hq;injection e with e _ _;rw[e] at hq ⊢;simp[Value.ownBlock] at hq;rw[hq]
    have:=hfaw q h3
    omega)
   obtain⟨vf,vo,hGK⟩:=hGY.x.each Gs.length (by simp);have e1:(Gs++[Zau n]).getD Gs.length g0S=Zau n:=(by simp[List.getD]);have e2:(gbs++[w3.heap.size+1]).getD Gs.length 0=w3.heap.size+1:=(by have:=HG3.out.x.len;simp[List.getD,<- this]);rw[e1,e2] at hGK;simp only[if_true] at hGK
   have HAD:Hid (Calls Tryz.prog 256 #[.pointer (some ⟨w3.heap.size+1,0,none⟩),.int .i64 f,.slice fa n fc,.int .i64 km] w4 fun e w'=>e=.returned (.tuple #[])/\(∃K',ZeS w' K' (w3.heap.size+1) (Zbt (Zau n) f Of km)/\∀k,K' k->(k=w3.heap.size∨k=w3.heap.size+1)∨w4.heap.size<=k)/\Za (fun q=>q=w3.heap.size∨q=w3.heap.size+1) w4 w'):=
    ZkH (fun q=>q=w3.heap.size∨q=w3.heap.size+1) _ f km vf vo fa n fc Of _ w4 hGK hOF4 (by simp[Zau]) HOF3.out.2 hn (by simp[Zau]) (by simp[Zau]) (by omega) (by simp[Zau]) (fun q hq h1=>by
     have h3:fa=some ⟨q,0,none⟩:=by
      rcases HOF3.out.1.2 with⟨e,_⟩|⟨g,cap,cur,e,_⟩
      rw[e] at hq;cases hq;injection e with e _ _;rw[e] at hq ⊢;simp[Value.ownBlock] at hq;rw[hq]
     have:=hfaw q h3
     rcases h1 with e|e<;>omega)
   have HGY:Hid (QJ w4 w1.heap.size v4 (gbs++[w3.heap.size+1]) (fun j=>if j=Gs.length then(fun q=>q=w3.heap.size∨q=w3.heap.size+1) else Kk j) (Gs++[Zau n])):=hGY;have HB4:Hid (Below w1.heap.size w1 w4):=(by have h3:=HB3.out;exact⟨t34.os.trans h3.os,t34.tape.trans h3.tape,t34.output.trans h3.output,Nat.le_trans h3.size t34.size,fun q hq=>(t34.block q (by omega) (fun h=>by have:=HG3.out.rb q h;omega)).trans (h3.block q hq)⟩);obtain⟨ga4,gc4,hv4⟩:=hGY.x.form;rw[Qe] at hv4;simp only[List.length_cons,List.length_nil,Nat.zero_add,HGL.out] at hv4;subst hv4;have HE2:Hid ((gbs++[w3.heap.size+1]).getD Gs.length 0=w3.heap.size+1):=e2;clear H4 r4 g4 d4 hwx hxs hbx hGx hflag hnew hGY hb4 t34 hOF4 hGK e1 e2 hmk o3 HG3 HB3 HROW HOF3;go_wp2_with fail
   refine HAD.out.mono ?_;rintro e w5 ⟨rfl,⟨K',hG',hK'⟩,t5⟩;have HF:Hid (QJ w5 w1.heap.size (.slice ga4 (gl+1) gc4) (gbs++[w3.heap.size+1]) (fun j=>if j=Gs.length then K' else(if j=Gs.length then(fun q=>q=w3.heap.size∨q=w3.heap.size+1) else Kk j)) ((ord.take (k+1)).foldl (ZE Ks Os n budget) [])):=by rw[HNX.out,HST2.out];have:=HGY.out.put (i:=Gs.length) (K':=K') (G':=Zbt (Zau n) f Of km) (by simp) (by simpa using t5) (by rw[HE2.out];exact hG') (by simpa using hK') (by omega);have e:(Gs++[Zau n]).set Gs.length (Zbt (Zau n) f Of km)=Gs++[Zbt (Zau n) f Of km]:=(by rw[List.set_append_right _ _ (Qa _),Nat.sub_self,List.set_cons_zero]);rw[e] at this;exact this
   have HBF:Hid (Below w1.heap.size w1 w5):=by have h3:=HB4.out;exact⟨t5.os.trans h3.os,t5.tape.trans h3.tape,t5.output.trans h3.output,Nat.le_trans h3.size t5.size,fun q hq=>(t5.block q (by omega) (fun h=>by rcases h with e|e<;>omega)).trans (h3.block q hq)⟩
   have HIN:Hid (Zf1 n (k+1) ((ord.take (k+1)).foldl (ZE Ks Os n budget) [])):=(by rw[HNX.out];exact HINV.out);clear hG' hK' t5 HAD HGY HB4 o4 HE2;go_wp2;go_roundw;case rel=>exact⟨k+1,_,_,by go_num,by omega,⟨HF.out,HIN.out⟩,HBF⟩
   case measure=>simp[intOf];omega
  have hnk:¬(k:Int)<(m:Int)+1:=(by omega);have HF:Hid (QJ wr w1.heap.size u7 gbs Kk (Zat m Ks Os n budget)/\Below w.heap.size w wr):=(by have h1:=HG.out.1;rw[List.take_of_length_le (by have:=HOL.out.1;omega)] at h1;rw[HLAY.out];exact⟨h1,HB1.out.trans (HB.out.mono hs1)⟩);clear HG HB;go_wp2;go_ret;exact⟨_,rfl,⟨_,_,_,hs1,HF.out.1⟩,HF.out.2⟩
end Go.Proofs.YtfcgnpchbcmdeaaGreat
