import Derived.Test.YtfcgnpchbcmdeaaGreatZabo
import Derived.Test.YtfcgnpchbcmdeaaGreatZabn
import Derived.Test.YtfcgnpchbcmdeaaGreatZabp
import Derived.Test.YtfcgnpchbcmdeaaGreatZabh
import Derived.Test.YtfcgnpchbcmdeaaGreatZabs
import Derived.Test.YtfcgnpchbcmdeaaGreatZabl
namespace Go.Proofs.YtfcgnpchbcmdeaaGreat
set_option linter.unusedSimpArgs false
set_option maxRecDepth 100000
set_option maxHeartbeats 16000000
open Go.RowKit
theorem Zsc(z:Int):YV z 4=[z%256,z/256%256,z/256/256%256,z/256/256/256%256]:=rfl
theorem Zqq{z:Int}(h1: -2147483648<=z)(h2:z<=2147483647)(r:List Int):ZcY (YV z 4++r)=z:=by rw[Zsc];unfold ZcY;simp only[ZaT,List.cons_append,List.nil_append,List.getD_cons_zero,List.getD_cons_succ,Nat.mul_zero,Nat.pow_zero,Nat.mul_one,Nat.reduceMul,Nat.reducePow,Nat.zero_add];simp[IntKind.wrap,IntKind.bits,IntKind.signed];omega
theorem Zsz{n:Nat}(h:n<65536)(r:List Int):ZaT (YV (n:Nat) 2++r) 2=n/\(YV (n:Nat) 2++r).drop 2=r:=by refine⟨?_,rfl⟩;show ZaT ([(n:Int)%256,(n:Int)/256%256]++r) 2=n;simp only[ZaT,List.cons_append,List.nil_append,List.getD_cons_zero,List.getD_cons_succ,Nat.mul_zero,Nat.pow_zero,Nat.mul_one,Nat.reducePow,Nat.zero_add];omega
theorem Zib(b:Int)(bs r:List Int):Zbh (b::bs)++r=YV b 4++(Zbh bs++r):=by unfold Zbh;rw[List.flatMap_cons,List.append_assoc]
theorem ZiI(s:ByteArray)(ws:List ByteArray)(r:List Int):ZbV (s::ws)++r=((s.size:Nat):Int)%256::Zb s++(ZbV ws++r):=by unfold ZbV;rw[List.flatMap_cons,List.append_assoc]
theorem ZeY(r:List Int):∀(bs:List Int) (j:Nat),j<=bs.length->(Zbh bs++r).drop (4*j)=Zbh (bs.drop j)++r
 |_,0,_=>rfl
 |[],j+1,h=>by simp at h
 |b::bs,j+1,h=>by rw[Zib,show 4*(j+1)=4+4*j by omega,<- List.drop_drop,List.drop_left' (Zbr b 4),List.drop_succ_cons];exact ZeY r bs j (by simpa using h)
theorem Zom{bs:List Int}(h:∀z∈bs,-2147483648<=z/\z<=2147483647)(r:List Int):ZaB (Zbh bs++r) bs.length=bs:=by unfold ZaB;apply List.ext_getElem;simp;intro j h1 h2;rw[List.getElem_map,List.getElem_range,ZeY r bs j (by omega),List.drop_eq_getElem_cons h2];rw[Zib];have:=h _ (Qf h2);exact Zqq this.1 this.2 _
theorem Zij{s:ByteArray}(h:s.size<256)(r:List Int):Zh7 (((s.size:Nat):Int)%256::Zb s++r)=r/\ZdJ (((s.size:Nat):Int)%256::Zb s++r)=s:=by have e:((((s.size:Nat):Int)%256::Zb s++r).headD 0).toNat=s.size:=(by show((((s.size:Nat):Int)%256)).toNat=s.size;omega);constructor;unfold Zh7;rw[e];exact List.drop_left' (ZY s);unfold ZdJ;rw[e];show strOfNums ((Zb s++r).take s.size)=s;rw[List.take_left' (ZY s),ZbJ]
theorem Zfb(r:List Int):∀(k:Nat) (ws:List ByteArray),(∀s∈ws,s.size<256)->k<=ws.length->restW (ZbV ws++r) k=ZbV (ws.drop k)++r
 |0,_,_,_=>rfl
 |k+1,ws,h,hk=>by have hlt:k<ws.length:=(by omega);simp only[restW];rw[Zfb r k ws h (by omega),List.drop_eq_getElem_cons hlt];rw[ZiI];exact(Zij (h _ (Qf hlt)) _).1
theorem ZnC{ws:List ByteArray}(h:∀s∈ws,s.size<256)(r:List Int):Zar (ZbV ws++r) ws.length=ws:=by unfold Zar;apply List.ext_getElem;simp;intro j h1 h2;rw[List.getElem_map,List.getElem_range,Zfb r j ws h (by omega),List.drop_eq_getElem_cons h2];rw[ZiI];exact(Zij (h _ (Qf h2)) _).2
structure KRt(K:KS):Prop where
 ok:KOk K
 num:∀z∈K.e.bs,-2147483648<=z/\z<=2147483647
theorem ZrR{K:KS}(h:KRt K)(r:List Int):Q4 (knA K++r)=K.e/\rdD (knA K++r)=K.d/\rdR (knA K++r)=r:=by
 have hd:=h.ok.hd;have hc:=h.ok.cn;obtain⟨e,d⟩:=K;obtain⟨wd,bs,ww⟩:=e;have hk:=h.ok.kn;have hn:=h.num;unfold Zdx at hk;simp only at hk hd hc hn
 rcases hk with⟨h1,h2,h3,_⟩|⟨h1,h2,h3,h4⟩
 subst h1 h2;have hcn:(⟨false,bs,[]⟩:ES).cnt=bs.length:=rfl;rw[hcn] at hc hd;have e0:knA ⟨⟨false,bs,[]⟩,d⟩++r=110::((d:Nat):Int)%256::((bs.length:Nat):Int)%256::(Zbh bs++r):=(by unfold knA knB;simp[hcn]);rw[e0];have en:((((bs.length:Nat):Int)%256)).toNat=bs.length:=(by omega);refine⟨?_,?_,?_⟩;unfold Q4;rw[if_neg (by simp)];show(⟨false,ZaB (Zbh bs++r) ((((bs.length:Nat):Int)%256)).toNat,[]⟩:ES)=_;rw[en,Zom hn];show((((d:Nat):Int)%256)).toNat=d;omega;unfold rdR;rw[if_neg (by simp)];show(Zbh bs++r).drop (4*((((bs.length:Nat):Int)%256)).toNat)=r;rw[en,ZeY r bs _ (Qa _),List.drop_length];rfl
 subst h1 h2;have hcn:(⟨true,[],ww⟩:ES).cnt=ww.length:=rfl;rw[hcn] at hc hd;have e0:knA ⟨⟨true,[],ww⟩,d⟩++r=119::((d:Nat):Int)%256::((ww.length:Nat):Int)%256::(ZbV ww++r):=by unfold knA ZhZ;simp[hcn]
 rw[e0];have en:((((ww.length:Nat):Int)%256)).toNat=ww.length:=by omega
 have h8:∀s∈ww,s.size<256:=fun s hs=>by have:=h4 s hs;omega
 refine⟨?_,?_,?_⟩;unfold Q4;rw[if_pos (by simp)];show(⟨true,[],Zar (ZbV ww++r) ((((ww.length:Nat):Int)%256)).toNat⟩:ES)=_;rw[en,ZnC h8];show((((d:Nat):Int)%256)).toNat=d;omega;unfold rdR;rw[if_pos (by simp)];show restW (ZbV ww++r) ((((ww.length:Nat):Int)%256)).toNat=r;rw[en,Zfb r _ ww h8 (Qa _),List.drop_length];rfl
theorem Znj{Ks:List KS}(h:∀K∈Ks,KRt K)(r:List Int):∀j,j<=Ks.length->fsK (Ks.flatMap knA++r) j=some (Ks.take j,(Ks.drop j).flatMap knA++r)
 |0,_=>by simp[fsK]
 | j +1,hj=>by
  have hlt:j<Ks.length:=(by omega);have hK:=h _ (Qf hlt);simp only[fsK];rw[Znj h r j (by omega)];have e:(Ks.drop j).flatMap knA++r=knA Ks[j]++((Ks.drop (j+1)).flatMap knA++r):=(by rw[List.drop_eq_getElem_cons hlt,List.flatMap_cons,List.append_assoc]);simp only;rw[e];obtain⟨e1,e2,e3⟩:=ZrR hK ((Ks.drop (j+1)).flatMap knA++r)
  rw[e1,e2,e3,if_pos (by
   rw[hK.ok.mb,Bool.true_and];unfold ZaU;rw[decide_eq_true_eq];have:=hK.ok.hd
   omega),Qi hlt]
theorem Ziv(a b:List Int){k:Nat}(h:k<a.length):(a++b).getD k 0=a.getD k 0:=by rw[Qc,Qc,List.getElem?_append_left h]
theorem Zgj(a b:List Int)(k:Nat):(a++b).getD (a.length+k) 0=b.getD k 0:=by rw[Qc,Qc,List.getElem?_append_right (by omega),Nat.add_sub_cancel_left]
theorem Zp3(L:List (Nat×Nat)):∀(m:Nat) (r:List Int) (k:Nat),k<m->(spK L m++r).getD (2*k) 0=((((L.getD k (0,0)).1:Nat):Int)-Ye L k)%256/\(spK L m++r).getD (2*k+1) 0=(((L.getD k (0,0)).2:Nat):Int)%256
 |0,_,_,h=>by omega
 | m+1,r,k,h=>by
  simp only[spK];rw[List.append_assoc]
  rcases Nat.lt_or_ge k m with h1|h1
  exact Zp3 L m _ k h1;have e:k=m:=(by omega);subst e;have hl:=Zc2 L k;constructor;rw[show 2*k=(spK L k).length+0 by omega,Zgj];rfl;rw[show 2*k+1=(spK L k).length+1 by omega,Zgj];rfl
theorem Zrc{N:List Nat}{n k:Nat}(hk:k<(Yg N n).length):((Yg N n).getD k (0,0)).1<n/\((Yg N n).getD k (0,0)).2=N.getD ((Yg N n).getD k (0,0)).1 0:=by have hm:(Yg N n).getD k (0,0)∈Yg N n:=(by rw[Qc,Qd hk];exact Qf _);have:=(Zck N n _).1 hm;exact⟨this.1,this.2.1⟩
theorem ZiJ{N:List Nat}{n j k:Nat}(hjk:j<k)(hk:k<(Yg N n).length):((Yg N n).getD j (0,0)).1<((Yg N n).getD k (0,0)).1:=by
 have:=List.pairwise_iff_getElem.1 (ZeB N n) j k (by omega) hk hjk
 simpa [Qc,Qd hk,Qd (show j<(Yg N n).length by omega)] using this
theorem ZjT{N:List Nat}{n i:Nat}(hi:i<n)(h:N.getD i 0≠0):∃j,j<(Yg N n).length/\((Yg N n).getD j (0,0)).1=i:=by have hm:(i,N.getD i 0)∈Yg N n:=(Zck N n _).2 ⟨hi,rfl,h⟩;obtain⟨j,hj,e⟩:=List.getElem_of_mem hm;exact⟨j,hj,by rw[Qc,Qd hj,Option.getD_some,e]⟩
theorem Zo2(L:List (Nat×Nat))(k:Nat): -1<=Ye L k:=by unfold Ye;split<;>omega
theorem Zp6{N:List Nat}{n k:Nat}(hk:k<(Yg N n).length):Ye (Yg N n) k<(((Yg N n).getD k (0,0)).1:Nat):=by unfold Ye;split;omega;have:=ZiJ (N:=N) (n:=n) (j:=k-1) (k:=k) (by omega) hk;omega
theorem Znl{N:List Nat}{n:Nat}(hn:n<=200)(hN:N.length=n)(hle:∀x∈N,x<=255)(r:List Int):∀k,k<=(Yg N n).length->(spS (List.replicate n 0) (spK (Yg N n) (Yg N n).length++r) k).1=Ye (Yg N n) k/\∀i,i<n->(spS (List.replicate n 0) (spK (Yg N n) (Yg N n).length++r) k).2.getD i 0=if(i:Int)<=Ye (Yg N n) k then((N.getD i 0:Nat):Int) else 0
 |0,_=>by refine⟨rfl,fun i hi=>?_⟩;have ha:Ye (Yg N n) 0= -1:=rfl;rw[ha,if_neg (by omega)];simp only[spS];rw[Qc,List.getElem?_replicate,if_pos hi];rfl
 | k + 1,hk=>by
  obtain⟨i1,i2⟩:=Znl hn hN hle r k (by omega);obtain⟨b1,b2⟩:=Zp3 (Yg N n) (Yg N n).length r k (by omega);obtain⟨p1,p2⟩:=Zrc (N:=N) (n:=n) (k:=k) (by omega);have hal:=Zp6 (N:=N) (n:=n) (k:=k) (by omega);have hag:=Zo2 (Yg N n) k;have hA:Ye (Yg N n) (k+1)=((((Yg N n).getD k (0,0)).1:Nat):Int):=by unfold Ye;rw[if_neg (by omega),Nat.add_sub_cancel]
  have hgap:∀i,i<n->Ye (Yg N n) k<(i:Int)->i<((Yg N n).getD k (0,0)).1->N.getD i 0=0:=fun i hi h1 h2=>by
   by_cases hz:N.getD i 0=0
   exact hz;exfalso;obtain⟨j,hj,e⟩:=ZjT hi hz
   rcases Nat.lt_or_ge j k with h3|h3
   ·unfold Ye at h1;rw[if_neg (by omega)] at h1
    rcases Nat.lt_or_ge j (k-1) with h4|h4
    have:=ZiJ (N:=N) (n:=n) h4 (by omega);omega;have e2:j=k-1:=(by omega);rw[e2] at e;omega
   rcases Nat.lt_or_ge k j with h4|h4
   have:=ZiJ (N:=N) (n:=n) h4 hj;omega;have e2:j=k:=(by omega);rw[e2] at e;omega
  have hv:N.getD ((Yg N n).getD k (0,0)).1 0<=255:=(by rw[Qc,Qd (by omega)];exact hle _ (Qf _));have hsum:Ye (Yg N n) k+((((Yg N n).getD k (0,0)).1:Nat)-Ye (Yg N n) k)%256=((((Yg N n).getD k (0,0)).1:Nat):Int):=(by omega);simp only[spS];rw[i1,b1,b2,hA,hsum,p2];generalize ((Yg N n).getD k (0,0)).1=p at *;refine⟨rfl,fun i hi=>?_⟩;rw[if_pos ⟨by omega,by rw[List.length_replicate];omega⟩,Zg2 _ _ _ _ (by rw[Zdm,List.length_replicate];omega),Int.toNat_natCast]
  by_cases e:p=i
  subst e;rw[if_pos rfl,if_pos (Int.le_refl _)];omega;rw[if_neg e,i2 i hi]
  by_cases h1:(i:Int)<=Ye (Yg N n) k
  rw[if_pos h1,if_pos (by omega)];rw[if_neg h1]
  by_cases h2:i<p
  rw[if_pos (by omega),hgap i hi (by omega) h2];rfl;rw[if_neg (by omega)]
theorem Zhj{a b:List Int}(hl:a.length=b.length)(h:∀i,i<a.length->a.getD i 0=b.getD i 0):a=b:=by
 apply List.ext_getElem hl;intro i h1 h2;have:=h i h1
 simpa [Qc,Qd h1,Qd h2] using this
theorem Zcq(N:List Nat):(ZC N).map Int.toNat=N:=by
 unfold ZC;rw[List.map_map]
 conv=>rhs;rw[<- List.map_id N]
 exact List.map_congr_left fun x _=>rfl
theorem ZnE{N:List Nat}{n:Nat}(hn:n<=200)(hN:N.length=n)(hle:∀x∈N,x<=255)(g:Nat)(r:List Int):Zap (Zhi (Yg N n)++r) n g=ZC N/\rdColR (Zhi (Yg N n)++r) n g=r:=by
 have hl:=Zdk N n;have e:Zhi (Yg N n)++r=115::(((Yg N n).length:Nat):Int)%256::(spK (Yg N n) (Yg N n).length++r):=(by unfold Zhi;simp);have en:(((((Yg N n).length:Nat):Int)%256)).toNat=(Yg N n).length:=(by omega);rw[e];constructor
 ·unfold Zap;rw[if_pos (by rfl)];show(spS (List.replicate n 0) (spK (Yg N n) (Yg N n).length++r) ((((Yg N n).length:Nat):Int)%256).toNat).2=_;rw[en];obtain⟨_,h2⟩:=Znl hn hN hle r (Yg N n).length (Qa _);refine Zhj (by rw[Zdm,List.length_replicate,ZG,hN]) (fun i hi=>?_);rw[Zdm,List.length_replicate] at hi;rw[h2 i hi,Yu]
  by_cases h1:(i:Int)<=Ye (Yg N n) (Yg N n).length
  rw[if_pos h1];rw[if_neg h1]
  by_cases hz:N.getD i 0=0
  rw[hz];rfl;exfalso;obtain⟨j,hj,e⟩:=ZjT hi hz;unfold Ye at h1;rw[if_neg (by omega)] at h1
  rcases Nat.lt_or_ge j ((Yg N n).length-1) with h4|h4
  have:=ZiJ (N:=N) (n:=n) h4 (by omega);omega;have e2:j=(Yg N n).length-1:=(by omega);rw[e2] at e;omega
 unfold rdColR;rw[if_pos (by rfl)];show(spK (Yg N n) (Yg N n).length++r).drop (2*((((Yg N n).length:Nat):Int)%256).toNat)=r;rw[en];exact List.drop_left' (by rw[Zc2];omega)
theorem ZoU{N:List Nat}{n g:Nat}(hN:N.length=n)(hle:∀x∈N,x<=g)(hg:g<64)(r:List Int):Zap (100::ZO (YF N (Lib.bitLen g)) ((n*Lib.bitLen g+7)/8) (n*Lib.bitLen g)++r) n g=ZC N/\rdColR (100::ZO (YF N (Lib.bitLen g)) ((n*Lib.bitLen g+7)/8) (n*Lib.bitLen g)++r) n g=r:=by
 have hlt:=Ze7 hg;constructor
 ·unfold Zap;rw[if_neg (by simp)];show dnN (ZO (YF N (Lib.bitLen g)) ((n*Lib.bitLen g+7)/8) (n*Lib.bitLen g)++r) n (Lib.bitLen g)=_;generalize Lib.bitLen g=d at *
  have hbit:∀t,t<n*d->ZdB (ZO (YF N d) ((n*d+7)/8) (n*d)++r) t=YF N d t:=fun t ht=>by unfold ZdB;have h8:t/8<(n*d+7)/8:=(by omega);rw[Ziv _ _ (by rw[QU];exact h8),ZdX _ _ h8,Int.toNat_natCast];exact ZiF (fun t=>Zbn _ _ t) ht
  unfold dnN;refine Zhj (by simp[ZG,hN]) (fun row h1=>?_)
  have h2:row<n:=by simpa using h1
  rw[Yu,Qc,Qd h1,Option.getD_some,List.getElem_map,List.getElem_range];have hrd:row*d+d<=n*d:=(by rw[<- Nat.succ_mul];exact Nat.mul_le_mul_right _ h2);rw[ZcQ (N.getD row 0) (row*d) d (fun i hi=>by rw[hbit _ (by omega)];exact Zex N hi)];have hx:N.getD row 0<=g:=(by rw[Qc,Qd (by omega)];exact hle _ (Qf _));rw[Nat.mod_eq_of_lt (by omega)]
 unfold rdColR;rw[if_neg (by simp)];exact List.drop_left' (QU _ _ _)
theorem Zrm{N:List Nat}{n g:Nat}(hn:n<=200)(hN:N.length=n)(hle:∀x∈N,x<=g)(hg:g<64)(r:List Int):QA (Zb1 N g++r) n g=N/\rdColR (Zb1 N g++r) n g=r:=by unfold QA Zb1;rw[hN];split;obtain⟨h1,h2⟩:=ZnE hn hN (fun x hx=>by have:=hle x hx;omega) g r;rw[h1,h2,Zcq];exact⟨rfl,rfl⟩;obtain⟨h1,h2⟩:=ZoU hN hle hg r;rw[h1,h2,Zcq];exact⟨rfl,rfl⟩
theorem ZpF{N:List Nat}{g:Nat}(hle:∀x∈N,x<=g)(hg:g<64):atN N g=N:=by
 unfold atN;split;rfl
 conv=>rhs;rw[<- List.map_id N]
 refine List.map_congr_left fun x hx=>?_;have h1:=hle x hx;have h2:=Ze7 hg;exact Nat.mod_eq_of_lt (by omega)
theorem ZqY{fs:List Nat}(hl:fs.length<256)(hf:∀f∈fs,f<256)(r:List Int):lstK ([((fs.length:Nat):Int)%256]++byN fs++r)=ZC fs/\lstR ([((fs.length:Nat):Int)%256]++byN fs++r)=r:=by
 have e:[((fs.length:Nat):Int)%256]++byN fs++r=((fs.length:Nat):Int)%256::(byN fs++r):=(by simp);have en:((((fs.length:Nat):Int)%256)).toNat=fs.length:=(by omega);have hbl:(byN fs).length=fs.length:=(by simp[byN]);rw[e];constructor
 ·show(List.range ((((fs.length:Nat):Int)%256)).toNat).map (fun j=>(byN fs++r).getD j 0)=_;rw[en];refine Zhj (by simp[ZG]) (fun j h1=>?_)
  have h2:j<fs.length:=by simpa using h1
  rw[Yu,Qc,Qd h1,Option.getD_some,List.getElem_map,List.getElem_range,Ziv _ _ (by omega)];have:=hf _ (Qf h2);unfold byN;simp[Qc,Qd h2];omega
 show(byN fs++r).drop ((((fs.length:Nat):Int)%256)).toNat=r;rw[en];exact List.drop_left' hbl
theorem Zit(Ks:List KS)(a:Nat)(A:List Nat):Qn Ks (a::A)=(Ks.getD a Zp).many+Qn Ks A:=by unfold Qn;simp
theorem Zof(a:Nat)(A:List Nat):ZC (a::A)=(a:Int)::ZC A:=rfl
theorem Zkt(Ks:List KS)(f b:Nat)(C:List Nat)(hb:b<(Ks.getD f Zp).many):∀A:List Nat,Zay Ks (ZC (A++f::C)) ((Qn Ks A+b:Nat):Int)=ZdC (Ks.getD f Zp).e (Ks.getD f Zp).d (b:Nat)
 |[]=>by show Zay Ks ((f:Int)::ZC C) _=_;simp only[Zay,Int.toNat_natCast];rw[show Qn Ks []=0 from rfl,Nat.zero_add,if_pos];unfold ZaU;rw[decide_eq_true_eq];unfold KS.many at hb;omega
 | a ::A=>by
  rw[List.cons_append,Zof,Zit];simp only[Zay,Int.toNat_natCast]
  rw[if_neg (by
   unfold ZaU KS.many;rw[decide_eq_true_eq]
   omega)]
  have e:(((Ks.getD a Zp).many+Qn Ks A+b:Nat):Int)-(((Ks.getD a Zp).e.cnt:Nat)+2)=((Qn Ks A+b:Nat):Int):=(by unfold KS.many;omega);rw[e];exact Zkt Ks f b C hb A
section
variable {Ks:List KS} {Os:List (List Bool)} {Bb:List (List Nat)} {n:Nat}
theorem ZjI:∀(fs:List Nat) (s:CS) (r:Nat),r<n->0<s.off->s.N.getD r 0=0->(fs.foldl (Zh Ks Os Bb n) s).N.getD r 0≠0->∃A f C,fs=A++f::C/\(fs.foldl (Zh Ks Os Bb n) s).N.getD r 0=s.off+Qn Ks A+(Bb.getD f []).getD r 0/\(Os.getD f []).getD r false=true
 |[],s,r,_,_,h,h1=>absurd h h1
 | f::fs,s,r,hr,h0,h,h1=>by
  simp only[List.foldl_cons] at h1 ⊢;have hg:(Zh Ks Os Bb n s f).N.getD r 0=ZcM s.off (Os.getD f []) (Bb.getD f []) s.N r:=Zgy _ _ _ _ hr;have ho:(Zh Ks Os Bb n s f).off=s.off+(Ks.getD f Zp).many:=rfl
  by_cases hO:(Os.getD f []).getD r false=true
  have e:(Zh Ks Os Bb n s f).N.getD r 0=s.off+(Bb.getD f []).getD r 0:=(by rw[hg];unfold ZcM;rw[if_pos ⟨hO,h⟩]);refine⟨[],f,fs,rfl,?_,hO⟩;rw[(Zdh fs (Zh Ks Os Bb n s f) (by rw[ho];omega) r hr).1 (by rw[e];omega),e];rfl;have e:(Zh Ks Os Bb n s f).N.getD r 0=0:=(by rw[hg];unfold ZcM;rw[if_neg (fun hc=>hO hc.1)];exact h);obtain⟨A,g,C,rfl,h2,h3⟩:=ZjI fs (Zh Ks Os Bb n s f) r hr (by rw[ho];omega) e h1;refine⟨f::A,g,C,rfl,?_,h3⟩;rw[h2,ho,Zit];omega
theorem ZqZ{fs:List Nat}(hin:∀f∈fs,∀r,r<n->(Bb.getD f []).getD r 0<(Ks.getD f Zp).many/\((Os.getD f []).getD r false=true->(Bb.getD f []).getD r 0≠(Ks.getD f Zp).d))(hl:(Zav Ks Os Bb n fs).length=n):Yi Ks (ZC fs) (Zav Ks Os Bb n fs)=true:=by
 unfold Yi;rw[List.all_eq_true];intro x hx;obtain⟨r,hr,rfl⟩:=List.getElem_of_mem hx;have e:(Zav Ks Os Bb n fs)[r]=(Zav Ks Os Bb n fs).getD r 0:=(by simp[Qc,Qd hr]);rw[e];rw[hl] at hr
 by_cases hz:(Zav Ks Os Bb n fs).getD r 0=0
 rw[decide_eq_true hz];rfl;rw[decide_eq_false hz,Bool.false_or];obtain⟨A,f,C,hfs,h2,h3⟩:=ZjI (Ks:=Ks) (Os:=Os) (Bb:=Bb) (n:=n) fs ⟨List.replicate n 0,[],1⟩ r hr Nat.zero_lt_one (by simp[Qc,hr]) hz;have hf:=hin f (by rw[hfs];simp) r hr;have e2:(((Zav Ks Os Bb n fs).getD r 0:Nat):Int)-1=((Qn Ks A+(Bb.getD f []).getD r 0:Nat):Int):=(by have h4:(Zav Ks Os Bb n fs).getD r 0=1+Qn Ks A+(Bb.getD f []).getD r 0:=h2;omega);rw[e2,hfs,Zkt Ks f _ C hf.1 A];unfold ZdC ZaU;have h5:=hf.1;have h6:=hf.2 h3;unfold KS.many at h5;simp only[Bool.and_eq_true,decide_eq_true_eq,Bool.not_eq_true',decide_eq_false_iff_not];omega
end
theorem Zip{f:Nat}:∀(A A' C C':List Nat),(A++f::C).Nodup->A++f::C=A'++f::C'->A=A'
 |[],[],_,_,_,_=>rfl
 |[],a::A',C,C',h,e=>by simp only[List.nil_append,List.cons_append,List.cons.injEq] at e;have:=(List.nodup_cons.1 h).1;rw[e.2] at this;simp at this
 |a::A,[],C,C',h,e=>by simp only[List.nil_append,List.cons_append,List.cons.injEq] at e;have:=(List.nodup_cons.1 h).1;rw[e.1] at this;simp at this
 |a::A,b::A',C,C',h,e=>by simp only[List.cons_append,List.cons.injEq] at e;rw[e.1,Zip A A' C C' (List.nodup_cons.1 h).2 e.2]
theorem ZiD{f:Nat}:∀(Gs:List GS),(Gs.flatMap (fun G=>G.fs)).Nodup->∀G∈Gs,∀H∈Gs,f∈G.fs->f∈H.fs->G.fs=H.fs/\G.fs.Nodup
 |[],_,G,hG,_,_,_,_=>by simp at hG
 | K ::Gs,h,G,hG,H,hH,hf,hf'=>by
  rw[List.flatMap_cons,List.nodup_append] at h;obtain⟨h1,h2,h3⟩:=h
  rcases List.mem_cons.1 hG with e1|hG2
  ·rcases List.mem_cons.1 hH with e2|hH2
   rw[e1,e2];exact⟨rfl,h1⟩;exact absurd rfl (h3 f (by rw[<- e1];exact hf) f (List.mem_flatMap.2 ⟨H,hH2,hf'⟩))
  rcases List.mem_cons.1 hH with e2|hH2
  exact absurd rfl (h3 f (by rw[<- e2];exact hf') f (List.mem_flatMap.2 ⟨G,hG2,hf⟩));exact ZiD Gs h2 G hG2 H hH2 hf hf'
end Go.Proofs.YtfcgnpchbcmdeaaGreat
namespace Go.Proofs.YtfcgnpchbcmdeaaGreat
set_option linter.unusedSimpArgs false
set_option maxRecDepth 100000
set_option maxHeartbeats 16000000
open Go.RowKit Go.Lib Go.Sort
structure BRt(Ks:List KS)(n:Nat)(b:BS):Prop where
 len:b.N.length=n
 le:∀x∈b.N,x<=b.g
 g40:b.g<=40
 f0:0<b.fs.length
 fl:b.fs.length<256
 fk:∀f∈b.fs,f<Ks.length
 sum:b.g=Qn Ks b.fs
 col:Yi Ks (ZC b.fs) b.N=true
theorem ZjV{Ks:List KS}{n:Nat}{bs:List BS}(hn:n<=200)(hk:Ks.length<256)(h:∀b∈bs,BRt Ks n b)(r:List Int):∀j,j<=bs.length->∃st,bdK Ks n (bs.flatMap YQ++r) j=some (bs.take j,st,(bs.drop j).flatMap YQ++r)
 |0,_=>⟨_,rfl⟩
 | j +1,hj=>by
  have hlt:j<bs.length:=(by omega);have hB:=h _ (Qf hlt);obtain⟨st,ih⟩:=ZjV hn hk h r j (by omega);have e:(bs.drop j).flatMap YQ++r=[((bs[j].fs.length:Nat):Int)%256]++byN bs[j].fs++(Zb1 bs[j].N bs[j].g++((bs.drop (j+1)).flatMap YQ++r)):=(by rw[List.drop_eq_getElem_cons hlt,List.flatMap_cons];unfold YQ;simp only[List.append_assoc]);simp only[bdK];rw[ih];simp only;rw[e];obtain⟨e1,e2⟩:=ZqY hB.fl (fun f hf=>by have:=hB.fk f hf;omega) (Zb1 bs[j].N bs[j].g++((bs.drop (j+1)).flatMap YQ++r));have hbin:Yf Ks (ZC bs[j].fs)=bs[j].g:=(by rw[ZgH,Zcq,hB.sum]);obtain⟨e3,e4⟩:=Zrm hn hB.len hB.le (by have:=hB.g40;omega) ((bs.drop (j+1)).flatMap YQ++r)
  rw[e1,e2,hbin,e3,e4,Zcq,ZpF hB.le (by have:=hB.g40;omega),if_pos (by
   rw[hB.col,Bool.and_true];unfold Zd6;rw[hbin];simp only[Bool.and_eq_true,decide_eq_true_eq,List.all_eq_true];refine⟨fun f hf=>?_,by rw[ZG];exact hB.f0,hB.g40⟩;unfold ZC at hf;obtain⟨g,hg,rfl⟩:=List.mem_map.1 hf;have:=hB.fk g hg
   omega)]
  exact⟨_,by rw[Qi hlt]⟩
def Zi6(X:List XS):Prop:=X.Pairwise fun x y=>x.row<y.row∨x.row=y.row/\x.f<y.f
theorem ZkI{X:List XS}(hs:Zi6 X){j:Nat}(hj:j<X.length):Zag (X.take j) X[j]=true:=by
 unfold Zag;rw[List.length_take,Nat.min_eq_left (by omega)]
 by_cases h0:j=0
 subst h0;rfl;rw[decide_eq_false h0,Bool.false_or,decide_eq_true_eq];have e:(X.take j).getD (j-1) QD=X[j-1]:=(by rw[Qc,List.getElem?_take,if_pos (by omega),Qd (by omega)];rfl);rw[e];have h1:=List.pairwise_iff_getElem.1 hs (j-1) j (by omega) hj (by omega);have h2:=ltX X[j-1] X[j];rw[decide_eq_true h1] at h2;unfold ltOf at h2
 simpa using h2
theorem Zrx{x:XS}(h:x.row<256/\x.f<256/\x.bin<256)(r:List Int):rdX (xB x++r)=x/\(xB x++r).drop 3=r:=by refine⟨?_,rfl⟩;obtain⟨a,b,c⟩:=x;simp only at h;show(⟨((a:Int)%256).toNat,((b:Int)%256).toNat,((c:Int)%256).toNat⟩:XS)=_;rw[show((a:Int)%256).toNat=a by omega,show((b:Int)%256).toNat=b by omega,show((c:Int)%256).toNat=c by omega]
theorem Zo4{D:YZ}{n:Nat}{X:List XS}(hs:Zi6 X)(hm:∀x∈X,Y1 D n x=true)(hb:∀x∈X,x.row<256/\x.f<256/\x.bin<256)(r:List Int):∀j,j<=X.length->exK D n (X.flatMap xB++r) j=some (X.take j,(X.drop j).flatMap xB++r)
 |0,_=>by simp[exK]
 |j+1,hj=>by have hlt:j<X.length:=(by omega);simp only[exK];rw[Zo4 hs hm hb r j (by omega)];have e:(X.drop j).flatMap xB++r=xB X[j]++((X.drop (j+1)).flatMap xB++r):=(by rw[List.drop_eq_getElem_cons hlt,List.flatMap_cons,List.append_assoc]);simp only;rw[e];obtain⟨e1,e2⟩:=Zrx (hb _ (Qf hlt)) ((X.drop (j+1)).flatMap xB++r);rw[e1,e2,if_pos (by rw[ZkI hs hlt,hm _ (Qf hlt)];rfl),Qi hlt]
structure DRt(n:Nat)(D:YZ)(X:List XS):Prop where
 n2:n<=200
 k0:0<D.ks.length
 k4:D.ks.length<=4
 b0:0<D.bs.length
 b4:D.bs.length<=4
 ks:∀K∈D.ks,KRt K
 bs:∀b∈D.bs,BRt D.ks n b
 once:(D.bs.flatMap (·.fs)).Perm (List.range D.ks.length)
 xs:Zi6 X
 xe:∀x∈X,Y1 ⟨D.ks,D.bs,[]⟩ n x=true
 xl:X.length<=800
theorem ZjH{n:Nat}{D:YZ}{X:List XS}(h:DRt n D X):Zcv (ZU D X)=some (⟨D.ks,D.bs,X⟩,YV (ZeZ (Zam D X)) 4):=by
 have hn0:(D.bs.getD 0 ZA).N.length=n:=(by rw[Qc,Qd h.b0];exact(h.bs _ (Qf _)).len);obtain⟨T,hT⟩:∃T,T=YV (ZeZ (Zam D X)) 4:=⟨_,rfl⟩;have hTB:ByI T:=(by rw[hT];exact Zjz _ _);have h2:=h.n2;have h4:=h.k4;have hk0:=h.k0;have hb4:=h.b4;have hxl:=h.xl;have e:ZU D X=71::82::(n:Int)%256::(D.ks.length:Int)%256::(D.ks.flatMap knA++((D.bs.length:Int)%256::(D.bs.flatMap YQ++(YV (X.length:Nat) 2++(X.flatMap xB++T))))):=by unfold ZU;rw[<- hT];unfold Zam;rw[hn0];simp only[List.append_assoc,List.cons_append,List.nil_append]
 rw[<- hT];have hby:=ZdY D X;rw[e] at hby ⊢;have hR:ByI (D.bs.flatMap YQ++(YV (X.length:Nat) 2++(X.flatMap xB++T))):=fun x hx=>hby x (List.mem_cons_of_mem _ (List.mem_cons_of_mem _ (List.mem_cons_of_mem _ (List.mem_cons_of_mem _ (List.mem_append_right _ (List.mem_cons_of_mem _ hx))))));have en:((71::82::(n:Int)%256::(D.ks.length:Int)%256::(D.ks.flatMap knA++((D.bs.length:Int)%256::(D.bs.flatMap YQ++(YV (X.length:Nat) 2++(X.flatMap xB++T))))):List Int).getD 2 0).toNat=n:=(by show((n:Int)%256).toNat=n;omega);have ek:((71::82::(n:Int)%256::(D.ks.length:Int)%256::(D.ks.flatMap knA++((D.bs.length:Int)%256::(D.bs.flatMap YQ++(YV (X.length:Nat) 2++(X.flatMap xB++T))))):List Int).getD 3 0).toNat=D.ks.length:=by show((D.ks.length:Int)%256).toNat=D.ks.length;omega
 unfold Zcv;rw[en,ek,if_neg (by omega)];have ed:(71::82::(n:Int)%256::(D.ks.length:Int)%256::(D.ks.flatMap knA++((D.bs.length:Int)%256::(D.bs.flatMap YQ++(YV (X.length:Nat) 2++(X.flatMap xB++T))))):List Int).drop 4=D.ks.flatMap knA++((D.bs.length:Int)%256::(D.bs.flatMap YQ++(YV (X.length:Nat) 2++(X.flatMap xB++T)))):=rfl;rw[ed,Znj h.ks _ D.ks.length (Qa _),List.take_length,List.drop_length];simp only[List.flatMap_nil,List.nil_append,List.tail_cons,List.headD_cons];rw[show((D.bs.length:Int)%256).toNat=D.bs.length by omega];obtain⟨st,hst⟩:=ZjV h.n2 (by omega) h.bs (YV (X.length:Nat) 2++(X.flatMap xB++T)) D.bs.length (Qa _);rw[hst];rw[List.take_length,List.drop_length] at hst ⊢;simp only[List.flatMap_nil,List.nil_append] at hst ⊢
 obtain⟨_,hsl,_,hoc,_⟩:=Zi7 hR _ _ _ _ hst
 have hone:Yv st=true:=by
  unfold Yv;rw[List.all_eq_true];intro z hz;obtain⟨f,hf,rfl⟩:=List.getElem_of_mem hz;have h1:=hoc f;rw[h.once.count_eq f,List.nodup_range.count,if_pos (List.mem_range.2 (by omega)),Qc,Qd hf] at h1
  simpa using h1
 rw[if_pos hone];obtain⟨e5,e6⟩:=Zsz (n:=X.length) (by omega) (X.flatMap xB++T);rw[e5,e6,Zo4 h.xs h.xe (fun x hx=>?_) T X.length (Qa _),List.take_length,List.drop_length];rfl;have h1:=Zdl (h.xe x hx);simp only at h1;have h3:=(h.ks (D.ks.getD x.f Zp) (by rw[Qc,Qd h1.2.1];exact Qf _)).ok.cn;omega
theorem ZoG{n:Nat}{D:YZ}{X:List XS}(h:DRt n D X):opD (ZU D X)=some ⟨D.ks,D.bs,X⟩:=by unfold opD;rw[ZjH h];exact if_pos rfl
end Go.Proofs.YtfcgnpchbcmdeaaGreat
namespace Go.Proofs.YtfcgnpchbcmdeaaGreat
set_option linter.unusedSimpArgs false
set_option maxRecDepth 100000
set_option maxHeartbeats 16000000
open Go.RowKit
theorem Zfk{S:Int->Prop}{size:Int}(hs:2<=size)(hs2:size<=32):∀{Ls:List (List Zs)} {l:List Zs},QB Ls->ZI l->l.length<=32->ZQ Ls+Zd l<=1000000000000->(∀L∈Ls,∀e∈L,S e.v)->(∀e∈l,S e.v)->∀L∈ZE size Ls l,∀e∈L,S e.v
 |[],l,_,_,_,_,_,hv=>by simpa [ZE] using hv
 | o ::r,l,h,g,hl,ht,hL,hv=>by
  have go:=h.good o (by simp);have hr:QB r:=⟨fun x hx=>h.good x (by simp[hx]),fun x hx=>h.len x (by simp[hx])⟩;have p1:=Qp hr.good;have p2:=(Y2 go).1;have p3:=(Y2 g).1;simp only[ZQ] at ht;simp only[ZE];split
  ·intro L hx
   rcases List.mem_cons.1 hx with rfl|hx
   exact hv;exact hL L (by simp[hx])
  have gj:=ZaI go g (by omega);have gc:ZI (YY (ZD o l) size):=gj.sub (ZaN gj size);have tc:Zd (YY (ZD o l) size)=Zd o+Zd l:=(by rw[Zbd,ZaC]);have lc:=Zb3 (ZD o l) hs
  have ih:=Zfk (S:=S) hs hs2 hr gc (by omega) (by omega) (fun L hx=>hL L (by simp[hx])) (fun e he=>by
   rcases ZgV go g e ((ZaN gj size).subset he) with⟨x,hx,e1⟩|⟨x,hx,e1⟩
   rw[<- e1];exact hL o (by simp) x hx
   rw[<- e1];exact hv x hx)
  intro L hx
  rcases List.mem_cons.1 hx with rfl|hx
  simp;exact ih L hx
theorem Zow{S:Int->Prop}{vs ws:List Int}(h:∀v∈vs,S v/\ -1000000000<=v/\v<=1000000000):∀e∈Zcy vs ws,S e.v:=fun e he=>by have hs:=Zeq (Zk vs ws);obtain⟨p,hp,h1,_⟩:=(Zdg (ZdH (Zk vs ws)) 0).1 e he;obtain⟨q,hq,e2⟩:=hs.sub p hp;unfold Zk at hq;obtain⟨z,hz,rfl⟩:=List.mem_map.1 hq;have hz1:z.1∈vs:=(List.of_mem_zip (a:=z.1) (b:=z.2) hz).1;obtain⟨a,b,c⟩:=h z.1 hz1;rw[<- h1,<- e2];show S (Zbk z.1);unfold Zbk;rw[if_neg (by omega),if_neg (by omega)];exact a
theorem ZeC{S:Int->Prop}{size:Nat}(hs:2<=size)(hs2:size<=32):∀(f:Nat) (Ls:List (List Zs)) (vs ws:List Int),QB Ls->ZQ Ls+1000*(vs.length:Int)<=1000000000000->vs.length<=2097152->(∀L∈Ls,∀e∈L,S e.v)->(∀v∈vs,S v/\ -1000000000<=v/\v<=1000000000)->∀L∈YT size f Ls vs ws,∀e∈L,S e.v
 |0,Ls,vs,ws,_,_,_,hL,_=>by simp only[YT];exact hL
 |f+1,Ls,vs,ws,h,ht,hl,hL,hv=>by simp only[YT];split;exact hL;have h1:=Zjr (vs:=vs.take size) (ws:=ws.take size) (by simp;omega);have hp:=Qp h.good;have hlen:(vs.take size).length+(vs.drop size).length=vs.length:=(by simp;omega);have hlt:(vs.take size).length<=size:=(by simp;omega);obtain⟨t1,t2⟩:=Zc4 (size:=(size:Int)) (by omega) (by omega) h h1.1 (by omega) (by omega);refine ZeC hs hs2 f _ (vs.drop size) (ws.drop size) t1 (by omega) (by omega) ?_ (fun v hv2=>hv v (List.mem_of_mem_drop hv2));exact Zfk (by omega) (by omega) h h1.1 (by omega) (by omega) hL (Zow (fun v hv2=>hv v (List.mem_of_mem_take hv2)))
theorem ZeO{S:Int->Prop}{size:Int}(hs:2<=size)(hs2:size<=32):∀(Ls:List (List Zs)) (al:List Zs),QB Ls->ZI al->al.length<=32->Zd al+ZQ Ls<=1000000000000->(∀L∈Ls,∀e∈L,S e.v)->(∀e∈al,S e.v)->∀e∈Ql size al Ls,S e.v
 |[],al,_,_,_,_,_,hv=>hv
 | l ::r,al,h,g,hl,ht,hL,hv=>by
  have gl:=h.good l (by simp);have hr:QB r:=⟨fun x hx=>h.good x (by simp[hx]),fun x hx=>h.len x (by simp[hx])⟩;have p1:=Qp hr.good;simp only[ZQ] at ht;have gj:=ZaI g gl (by omega);have lc:=Zb3 (ZD al l) hs;have tc:Zd (YY (ZD al l) size)=Zd al+Zd l:=(by rw[Zbd,ZaC]);simp only[Ql]
  exact ZeO hs hs2 r _ hr (gj.sub (ZaN gj size)) (by omega) (by omega) (fun L hx=>hL L (by simp[hx])) (fun e he=>by
   rcases ZgV g gl e ((ZaN gj size).subset he) with⟨x,hx,e1⟩|⟨x,hx,e1⟩
   rw[<- e1];exact hv x hx
   rw[<- e1];exact hL l (by simp) x hx)
theorem ZhS{S:Int->Prop}{size:Nat}(hs:2<=size)(hs2:size<=32)(vs ws:List Int)(hl:vs.length<=2097152)(hv:∀v∈vs,S v/\ -1000000000<=v/\v<=1000000000):∀e∈Ys size vs ws,S e.v:=by obtain⟨h1,h2⟩:=Zef hs hs2 vs.length [] vs ws QB.nil (by simp[ZQ];omega) hl;exact ZeO (by omega) (by omega) _ [] h1 ZI.nil (by simp) (by simp[Zd,ZQ] at h2 ⊢;omega) (ZeC hs hs2 _ _ _ _ QB.nil (by simp[ZQ];omega) hl (by simp) hv) (by simp)
theorem Ze5:∀(L:List VS) (ws:List Int) (x:Int×Int),x∈ZM L ws->∃v∈L,v.miss=false/\v.num=x.1
 |[],_,x,h=>by simp[ZM] at h
 |_::_,[],x,h=>by simp[ZM] at h
 | v::L,z::ws,x,h=>by
  simp only[ZM] at h;split at h;obtain⟨u,hu,h1⟩:=Ze5 L ws x h;exact⟨u,by simp[hu],h1⟩;rename_i hm
  rcases List.mem_cons.1 h with rfl|h
  exact⟨v,by simp,by simpa using hm,rfl⟩;obtain⟨u,hu,h1⟩:=Ze5 L ws x h;exact⟨u,by simp[hu],h1⟩
theorem Zfp{L:List VS}{ws:List Int}{bins:Int}{size:Nat}(hL:L.length<=200)(hs:2<=size)(hs2:size<=32)(hr:∀v∈L,-1000000000<=v.num/\v.num<=1000000000):∀x∈Yr L ws bins size,∃v∈L,v.miss=false/\v.num=x:=fun x hx=>by have hl:((ZM L ws).map Prod.fst).length<=2097152:=(by have:=Zb8 L ws;simp;omega);unfold Yr at hx;have h1:=(Zft _ bins).subset hx;obtain⟨e,he,rfl⟩:=List.mem_map.1 h1;refine ZhS (S:=fun y=>∃v∈L,v.miss=false/\v.num=y) hs hs2 _ _ hl (fun v hv=>?_) e (List.mem_of_mem_take he);obtain⟨p,hp,rfl⟩:=List.mem_map.1 hv;obtain⟨u,hu,h2,h3⟩:=Ze5 L ws p hp;have:=hr u hu;exact⟨⟨u,hu,h2,h3⟩,by omega,by omega⟩
theorem ZkU{L:List VS}{ws:List Int}{ct bins:Int}:∀x∈(lwF L ws ct bins).ww,∃v∈L,v.miss=false/\v.word=x:=fun x hx=>by
 unfold lwF at hx;simp only at hx;obtain⟨y,hy,rfl⟩:=List.mem_map.1 hx;have h1:=(List.mem_mergeSort).1 (List.mem_of_mem_take hy);have h2:=((Zd4 _ _ _).1 h1).1;unfold Zdt at h2;obtain⟨p,hp,h3⟩:=List.any_eq_true.1 h2;unfold Zem at h3;simp only[Bool.and_eq_true,Bool.not_eq_true',decide_eq_true_eq] at h3;refine⟨p.1,(List.of_mem_zip (a:=p.1) (b:=p.2) hp).1,h3.1,?_⟩;have h4:=h3.2
 cases hw:p.1.word with
 | mk d=>
  cases hy2:y.wd with
  | mk d2=>
   rw[hw,hy2] at h4;simp only at h4;rw[Array.toList_inj.1 h4]
theorem Zkl{wd:Bool}{ct bins:Int}{size d:Nat}{L:List VS}{ws:List Int}(hL:L.length<=200)(hs:2<=size)(hs2:size<=32)(hb:2<=bins)(hb2:bins<=16)(hr:∀v∈L,(-1000000000<=v.num/\v.num<=1000000000)/\v.word.size<=8):Zdx ⟨ZT lwF wd ct bins size L ws,d⟩:=by
 cases wd
 left;have e:ZT lwF false ct bins size L ws=⟨false,Yr L ws bins size,[]⟩:=(by simp[ZT]);rw[e];refine⟨rfl,rfl,?_,fun x hx=>?_⟩;have:=(ZeT L ws hL hs hs2 hb).2;show(Yr L ws bins size).length<=1000;omega;obtain⟨v,hv,_,rfl⟩:=Zfp hL hs hs2 (fun v hv=>(hr v hv).1) x hx;have:=(hr v hv).1;omega;right;have e:ZT lwF true ct bins size L ws=lwF L ws ct bins:=(by simp[ZT]);rw[e];refine⟨rfl,rfl,?_,fun x hx=>?_⟩;show(List.map _ (List.take bins.toNat _)).length<=1000;rw[List.length_map,List.length_take];omega;obtain⟨v,hv,_,rfl⟩:=ZkU x hx;exact(hr v hv).2
def ZlO(L:List VS)(ws:List Int)(ct:Int):List WS:=(ZaF (L.zip ws) ct).mergeSort fun x y=>decide (leW x y)
theorem Zrp(L:List VS)(ws:List Int)(ct bins:Int):(lwF L ws ct bins).ww=((ZlO L ws ct).take bins.toNat).map WS.wd:=rfl
theorem Zkv(L:List VS)(ws:List Int)(ct:Int):(ZlO L ws ct).Pairwise leW:=by
 have h:=List.pairwise_mergeSort (le:=fun x y=>decide (leW x y)) (fun a b c h1 h2=>decide_eq_true (Zim (of_decide_eq_true h1) (of_decide_eq_true h2))) (fun a b=>by
  rcases ZiH a b with h|h
  simp[h]
  simp[h]) (ZaF (L.zip ws) ct)
 exact h.imp (fun h=>of_decide_eq_true h)
theorem ZkM(L:List VS)(ws:List Int)(ct:Int)(x:WS):x∈ZlO L ws ct↔Zdt (L.zip ws) x.wd.data.toList=true/\x.wt=QZ (L.zip ws) x.wd.data.toList/\ct<=x.wt:=by unfold ZlO;rw[List.mem_mergeSort];exact Zd4 _ _ x
theorem Zmr(L:List VS)(ws:List Int)(ct:Int):(ZlO L ws ct).Nodup:=((List.mergeSort_perm _ _).nodup_iff).2 (Zel _ _)
def ZlQ(ps:List (VS×Int))(x y:ByteArray):Prop:=QZ ps y.data.toList<QZ ps x.data.toList∨QZ ps y.data.toList=QZ ps x.data.toList/\ZaR x y
theorem Zor(L:List VS)(ws:List Int)(ct bins:Int):(lwF L ws ct bins).ww.Pairwise (ZlQ (L.zip ws)):=by
 rw[Zrp];have h:(ZlO L ws ct).Pairwise (fun x y=>leW x y/\x≠y):=(Zkv L ws ct).and (Zmr L ws ct)
 have h2:((ZlO L ws ct).take bins.toNat).Pairwise (fun x y=>ZlQ (L.zip ws) x.wd y.wd):=by
  refine List.Pairwise.imp_of_mem ?_ (h.sublist (List.take_sublist _ _));intro x y hx hy hxy;obtain⟨_,x2,_⟩:=(ZkM L ws ct x).1 (List.mem_of_mem_take hx);obtain⟨_,y2,_⟩:=(ZkM L ws ct y).1 (List.mem_of_mem_take hy);obtain⟨h1,h2⟩:=hxy;unfold leW at h1;unfold ZlQ;rw[<- x2,<- y2]
  by_cases e:y.wt=x.wt
  ·refine .inr ⟨e,?_⟩;apply Classical.byContradiction;intro hn;apply h2;have hwd:x.wd=y.wd:=Zlj hn (fun h3=>h1 (.inr ⟨e,h3⟩))
   cases x;cases y
   simp only at e hwd;rw[e,hwd]
  left;have:¬x.wt<y.wt:=fun h3=>h1 (.inl h3);omega
 exact List.Pairwise.map _ (fun a b h=>h) h2
theorem Zoz(L:List VS)(ws:List Int)(ct bins:Int):(lwF L ws ct bins).ww.Nodup:=by
 refine(Zor L ws ct bins).imp (fun {a b} h=>?_);rintro rfl
 rcases h with h|⟨_,h⟩
 omega;exact ZdS _ h
structure Zp9(w:World)(gb n nk:Nat)(sb:ByteArray)(Ls:List (List Int))(E:Nat->ES)(B:Nat->Nat->Nat):Prop where
 rows:∀W:World,Below w.heap.size w W->Calls Tryz.prog 26 #[.pointer (some ⟨gb,0,none⟩)] W fun e w'=>e=.returned (.int .i64 (n:Nat))/\Below w.heap.size w w'
 bytes:∀W:World,Below w.heap.size w W->Calls Tryz.prog 34 #[.pointer (some ⟨gb,0,none⟩)] W fun e w'=>e=.returned (.string sb)/\Below w.heap.size w w'
 bundles:∀W:World,Below w.heap.size w W->Calls Tryz.prog 55 #[.pointer (some ⟨gb,0,none⟩)] W fun e w'=>∃q,e=.returned (.slice (some ⟨q,0,none⟩) Ls.length Ls.length)/\Yo w' 0 q Ls.length Ls.length Ls/\Below W.heap.size W w'
 bounds:∀W:World,Below w.heap.size w W->∀f,f<nk->Calls Tryz.prog 27 #[.pointer (some ⟨gb,0,none⟩),.int .i64 (f:Nat)] W fun e w'=>ZrF W (E f) e w'
 look:∀W:World,Below w.heap.size w W->∀f row,f<nk->row<n->Calls Tryz.prog 44 #[.pointer (some ⟨gb,0,none⟩),.int .i64 (row:Nat),.int .i64 (f:Nat)] W fun e w'=>e=.returned (.tuple #[.int .i64 (B f row:Nat),.int .i64 0])/\Below w.heap.size w w'
def ZlA(w wr:World)(v1 v2 v3 v4:Value)(bI:List Int)(bS:List ByteArray):Prop:=Below w.heap.size w wr/\Zc wr 0 v1 bI/\ZF wr 0 v2 bS/\Zc wr 0 v3 bI/\ZF wr 0 v4 bS
theorem ZlA.drew{w wr:World}{v1 v2 v3 v4:Value}{bI:List Int}{bS:List ByteArray}(h:ZlA w wr v1 v2 v3 v4 bI bS)(n:Nat):ZlA w (wr.drewN n) v1 v2 v3 v4 bI bS:=
 ⟨below_drewN h.1 _,h.2.1.below (below_drewN (Below.refl _ _) _),h.2.2.1.below (below_drewN (Below.refl _ _) _),h.2.2.2.1.below (below_drewN (Below.refl _ _) _),h.2.2.2.2.below (below_drewN (Below.refl _ _) _)⟩
theorem ZoO(ga gb n nk:Nat)(sb:ByteArray)(Ls:List (List Int))(E:Nat->ES)(B:Nat->Nat->Nat)(w:World)(ha:Zp9 w ga n nk sb Ls E B)(hb:Zp9 w gb n nk sb Ls E B)(hn:n<=1000)(hk:nk<=1000)(hl:Ls.length<=1000)(hl2:∀L∈Ls,L.length<=1000)(hE:∀f,f<nk->(bdI (E f)).length<=1000/\(bdS (E f)).length<=1000):Calls Tryz.prog 30 #[.pointer (some ⟨ga,0,none⟩),.pointer (some ⟨gb,0,none⟩),.int .i64 (nk:Nat)] w fun e w'=>e=.returned (.bool true)/\Below w.heap.size w w':=by
 have HA:Hid (Zp9 w ga n nk sb Ls E B):=ha;have HB:Hid (Zp9 w gb n nk sb Ls E B):=hb
 have HL2:Hid (∀i,i<Ls.length->(Ls.getD i []).length<=1000):=fun i hi=>by rw[Qc,Qd hi];exact hl2 _ (Qf _)
 have HE:Hid (∀f,f<nk->(bdI (E f)).length<=1000/\(bdS (E f)).length<=1000):=hE;clear ha hb hl2 hE;generalize hnl:Ls.length=nl at *;have HNL:Hid (Ls.length=nl):=hnl;clear hnl;go_enter Tryz.func30,Tryz.ntmps30;go_wp2_with fail
 refine(HA.out.rows _ (Below.refl _ _)).mono ?_;rintro e w1 ⟨rfl,h1⟩;have H1:Hid (Below w.heap.size w w1):=h1;clear h1;go_wp2_with fail
 refine(HB.out.rows _ H1.out).mono ?_;rintro e w2 ⟨rfl,h2⟩;have H2:Hid (Below w.heap.size w w2):=h2;clear h2 H1;go_wp2_with fail
 refine(HA.out.bytes _ H2.out).mono ?_;rintro e w3 ⟨rfl,h3⟩;have H3:Hid (Below w.heap.size w w3):=h3;clear h3 H2;go_wp2_with fail
 refine(HB.out.bytes _ H3.out).mono ?_;rintro e w4 ⟨rfl,h4⟩;have H4:Hid (Below w.heap.size w w4):=h4;clear h4 H3;go_wp2_with fail
 refine(HA.out.bundles _ H4.out).mono ?_;rintro e w5 ⟨qa,rfl,hqa,h5⟩;have H5:Hid (Below w.heap.size w w5):=H4.out.trans (h5.mono H4.out.size);have HQA:Hid (Yo w5 0 qa nl nl Ls):=(by have:=hqa;rw[HNL.out] at this;exact this);rw[HNL.out];clear h5 hqa H4;go_wp2_with fail
 refine(HB.out.bundles _ H5.out).mono ?_;rintro e w6 ⟨qb,rfl,hqb,h6⟩;have H6:Hid (Below w.heap.size w w6/\Yo w6 0 qa nl nl Ls/\Yo w6 0 qb nl nl Ls):=⟨H5.out.trans (h6.mono H5.out.size),HQA.out.below h6,by have:=hqb;rw[HNL.out] at this;exact this⟩;rw[HNL.out];clear h6 hqb H5 HQA;go_wp2_with fail
 go_loopw [9] (fun ti wr=>∃(i:Nat),ti=.int .i64 i/\i<=nl/\Hid (Below w.heap.size w wr/\Yo wr 0 qa nl nl Ls/\Yo wr 0 qb nl nl Ls)) (fun ti _=>nl-(intOf ti).toNat)
 case atStart=>exact⟨0,rfl,Qg _,H6.out⟩
 case round=>
  clear H6;obtain⟨i,rfl,hib,HR⟩:=hrel
  by_cases hin:i<nl
  ·have bi1:(0:Int)<=(i:Int):=(by omega);have bi2:(i:Int)<(nl:Int):=(by omega);obtain⟨aa,ca,xa,hqal,_⟩:=HR.out.2.1.at hin;obtain⟨ab,cb,xb,hqbl,_⟩:=HR.out.2.2.at hin;have HLL:=HL2.out i hin;generalize hll:(Ls.getD i []).length=ll at *;have HLN:Hid ((Ls.getD i []).length=ll):=hll;clear hll;go_upto_region 10 with fail;go_quiet (fail);go_wp2_with fail
   obtain⟨wl,hwl⟩:∃wl,wl=wr:=⟨wr,rfl⟩;subst hwl;go_loopw [10] (fun tk wr=>∃(k:Nat),tk=.int .i64 k/\k<=ll/\Hid (Below w.heap.size w wr/\Yo wr 0 qa nl nl Ls/\Yo wr 0 qb nl nl Ls)) (fun tk _=>ll-(intOf tk).toNat)
   case atStart=>exact⟨0,rfl,Qg _,below_drewN HR.out.1 _,HR.out.2.1.below (below_drewN (Below.refl _ _) _),HR.out.2.2.below (below_drewN (Below.refl _ _) _)⟩
   case round=>
    clear HR xa xb;obtain⟨k,rfl,hkb,HR⟩:=hrel;obtain⟨aa,ca,xa,hqal,hoa⟩:=HR.out.2.1.at hin;obtain⟨ab,cb,xb,hqbl,hob⟩:=HR.out.2.2.at hin;rw[HLN.out] at xa xb hoa hob
    by_cases hkn:k<ll
    ·have bk1:(0:Int)<=(k:Int):=(by omega);have bk2:(k:Int)<(ll:Int):=(by omega);obtain⟨q1,rfl,_,_,y1,_⟩:=hoa.atK HLN.out hkn;obtain⟨q2,rfl,_,_,y2,_⟩:=hob.atK HLN.out hkn;clear hoa hob;generalize (Ls.getD i []).getD k 0=z at *;go_upto_region 15 with fail;go_quiet (fail);go_wp2;go_roundw;case rel=>exact⟨k+1,by go_num,by omega,below_drewN HR.out.1 _,HR.out.2.1.below (below_drewN (Below.refl _ _) _),HR.out.2.2.below (below_drewN (Below.refl _ _) _)⟩
     case measure=>simp[intOf];omega
    have hnk:¬(k:Int)<(ll:Int):=(by omega);clear hoa hob;go_wp2;go_roundw;case rel=>exact⟨i+1,by go_num,by omega,HR.out⟩
    case measure=>simp[intOf];omega
  have hni:¬(i:Int)<(nl:Int):=(by omega);have H7:Hid (Below w.heap.size w wr):=HR.out.1;clear HR;go_wp2_with fail
  obtain⟨wl,hwl⟩:∃wl,wl=wr:=⟨wr,rfl⟩;subst hwl;go_loopw [11] (fun tf wr=>∃(f:Nat),tf=.int .i64 f/\f<=nk/\Hid (Below w.heap.size w wr)) (fun tf _=>nk-(intOf tf).toNat)
  case atStart=>exact⟨0,rfl,Qg _,H7⟩
  case round=>
   clear H7;obtain⟨f,rfl,hfb,HR⟩:=hrel
   by_cases hfn:f<nk
   ·have bf1:(f:Int)<(nk:Int):=(by omega);go_wp2_with fail
    refine(HA.out.bounds _ HR.out f hfn).mono ?_;rintro e v1 ⟨vb,vw,rfl,hx⟩;obtain⟨a1,c1,hs1⟩:=hx.nb.shape;obtain⟨a2,c2,hs2⟩:=hx.nw.form;subst hs1 hs2;have HV1:Hid (Below w.heap.size w v1/\Zc v1 0 (.slice a1 (bdI (E f)).length c1) (bdI (E f))/\ZF v1 0 (.slice a2 (bdS (E f)).length c2) (bdS (E f))):=⟨HR.out.trans (hx.low.mono HR.out.size),hx.nb.mono (Qg _),hx.nw.mono0⟩;clear hx;go_wp2_with fail
    refine(HB.out.bounds _ HV1.out.1 f hfn).mono ?_;rintro e v2 ⟨vb,vw,rfl,hx⟩;obtain⟨a3,c3,hs1⟩:=hx.nb.shape;obtain⟨a4,c4,hs2⟩:=hx.nw.form;subst hs1 hs2;have HV2:Hid (Below w.heap.size w v2/\Zc v2 0 (.slice a1 (bdI (E f)).length c1) (bdI (E f))/\ZF v2 0 (.slice a2 (bdS (E f)).length c2) (bdS (E f))/\Zc v2 0 (.slice a3 (bdI (E f)).length c3) (bdI (E f))/\ZF v2 0 (.slice a4 (bdS (E f)).length c4) (bdS (E f))):=⟨HV1.out.1.trans (hx.low.mono HV1.out.1.size),HV1.out.2.1.below hx.low,HV1.out.2.2.below hx.low,hx.nb.mono (Qg _),hx.nw.mono0⟩;clear hx HV1;obtain⟨hel1,hel2⟩:=HE.out f hfn;generalize bdI (E f)=bI at *;generalize bdS (E f)=bS at *;generalize hnI:bI.length=nI at *;generalize hnS:bS.length=nS at *;have HNI:Hid (bI.length=nI/\bS.length=nS):=⟨hnI,hnS⟩;clear hnI hnS
    have HT:Hid (ZlA w v2 (.slice a1 nI c1) (.slice a2 nS c2) (.slice a3 nI c3) (.slice a4 nS c4) bI bS):=HV2.out;clear HV2 HR;go_wp2_with fail
    go_loopw [18] (fun tk wr=>∃(k:Nat),tk=.int .i64 k/\k<=nI/\Hid (ZlA w wr (.slice a1 nI c1) (.slice a2 nS c2) (.slice a3 nI c3) (.slice a4 nS c4) bI bS)) (fun tk _=>nI-(intOf tk).toNat)
    case atStart=>exact⟨0,rfl,Qg _,HT⟩
    case round=>
     clear HT;obtain⟨k,rfl,hkb,HR⟩:=hrel
     by_cases hkn:k<nI
     ·have bk1:(0:Int)<=(k:Int):=(by omega);have bk2:(k:Int)<(nI:Int):=(by omega);obtain⟨q1,hq1,_,_,y1,_⟩:=HR.out.2.1.atK HNI.out.1 hkn;obtain⟨q2,hq2,_,_,y2,_⟩:=HR.out.2.2.2.1.atK HNI.out.1 hkn;subst hq1 hq2;generalize bI.getD k 0=z at *;go_upto_region 27 with fail;go_quiet (fail);go_wp2;go_roundw;case rel=>exact⟨k+1,by go_num,by omega,HR.out.drew _⟩
      case measure=>simp[intOf];omega
     have hnk:¬(k:Int)<(nI:Int):=(by omega);have HT:Hid (ZlA w wr (.slice a1 nI c1) (.slice a2 nS c2) (.slice a3 nI c3) (.slice a4 nS c4) bI bS):=HR;clear HR;go_wp2_with fail
     obtain⟨wm,hwm⟩:∃wm,wm=wr:=⟨wr,rfl⟩;subst hwm;go_loopw [19] (fun tk wr=>∃(k:Nat),tk=.int .i64 k/\k<=nS/\Hid (ZlA w wr (.slice a1 nI c1) (.slice a2 nS c2) (.slice a3 nI c3) (.slice a4 nS c4) bI bS)) (fun tk _=>nS-(intOf tk).toNat)
     case atStart=>exact⟨0,rfl,Qg _,HT⟩
     case round=>
      clear HT;obtain⟨k2,rfl,hkb2,HR⟩:=hrel
      by_cases hkn2:k2<nS
      ·have bk1:(0:Int)<=(k2:Int):=(by omega);have bk2:(k2:Int)<(nS:Int):=(by omega);obtain⟨q1,hq1,_,y1⟩:=HR.out.2.2.1.atW HNI.out.2 hkn2 ⟨#[]⟩;obtain⟨q2,hq2,_,y2⟩:=HR.out.2.2.2.2.atW HNI.out.2 hkn2 ⟨#[]⟩;subst hq1 hq2;generalize bS.getD k2 ⟨#[]⟩=z at *;go_upto_region 32 with fail;go_quiet (fail);go_wp2;go_roundw;case rel=>exact⟨k2+1,by go_num,by omega,HR.out.drew _⟩
       case measure=>simp[intOf];omega
      have hnk2:¬(k2:Int)<(nS:Int):=(by omega);have HT:Hid (Below w.heap.size w wr):=HR.out.1;clear HR;go_wp2_with fail
      obtain⟨wn,hwn⟩:∃wn,wn=wr:=⟨wr,rfl⟩;subst hwn;go_loopw [20] (fun ti wr=>∃(i:Nat),ti=.int .i64 i/\i<=n/\Hid (Below w.heap.size w wr)) (fun ti _=>n-(intOf ti).toNat)
      case atStart=>exact⟨0,rfl,Qg _,HT⟩
      case round=>
       clear HT;obtain⟨r,rfl,hrb,HR⟩:=hrel;go_wp2_with fail
       refine(HA.out.rows _ HR.out).mono ?_;rintro e u1 ⟨rfl,hu1⟩;have HU1:Hid (Below w.heap.size w u1):=hu1;clear hu1 HR
       by_cases hrn:r<n
       ·have br2:(r:Int)<(n:Int):=(by omega);go_wp2_with fail
        refine(HA.out.look _ HU1.out f r hfn hrn).mono ?_;rintro e u2 ⟨rfl,hu2⟩;have HU2:Hid (Below w.heap.size w u2):=hu2;clear hu2 HU1;go_wp2_with fail
        refine(HB.out.look _ HU2.out f r hfn hrn).mono ?_;rintro e u3 ⟨rfl,hu3⟩;have HU3:Hid (Below w.heap.size w u3):=hu3;clear hu3 HU2;generalize B f r=bfr at *;go_wp2;go_roundw;case rel=>exact⟨r+1,by go_num,by omega,HU3⟩
        case measure=>simp[intOf];omega
       have hnr:¬(r:Int)<(n:Int):=(by omega);go_wp2;go_roundw;case rel=>exact⟨f+1,by go_num,by omega,HU1⟩
       case measure=>simp[intOf];omega
   have hnf:¬(f:Int)<(nk:Int):=(by omega);go_wp2;go_ret;exact⟨rfl,HR.out⟩
theorem Yo.mono0{w:World}{b q n i:Nat}{Ls:List (List Int)}(h:Yo w b q n i Ls):Yo w 0 q n i Ls:=by
 obtain⟨c,h1,h2,h3⟩:=h.cur
 exact⟨c,h1,h2,fun j hj=>by
  obtain⟨v,hv,ho⟩:=h3 j hj
  exact⟨v,hv,ho.mono (Qg _)⟩⟩
theorem YM.says{w:World}{gb db m n budget:Nat}{es:List ES}{Bb:List (List Nat)}(h:YM w gb db (ZH m n budget es Bb))(hm:m+1<=4)(hn:n<=200)(hk:ZdW m n es Bb)(hkn:∀K∈(ZH m n budget es Bb).ks,Zdx K){X:List XS}(hX:X.Perm (ZH m n budget es Bb).xs)(hs:Qo X):Zp9 w gb n (m+1) (strOfNums (ZU (ZH m n budget es Bb) X)) (Zdw (ZH m n budget es Bb)) (fun f=>((ZH m n budget es Bb).ks.getD f Zp).e) (fun f row=>(Bb.getD f []).getD row 0):=by
 have hd:=ZbZ (budget:=budget) hm hn hk;have hkl:(ZH m n budget es Bb).ks.length=m+1:=(by rw[show(ZH m n budget es Bb).ks=_ from Zax _ _ _ _ _];exact YJ es Bb (m+1));have hll:(Zdw (ZH m n budget es Bb)).length=(ZH m n budget es Bb).bs.length:=(by unfold Zdw;rw[List.length_map]);refine⟨fun W hW=>?_,fun W hW=>?_,fun W hW=>?_,fun W hW f hf=>?_,fun W hW f row hf hr=>?_⟩;exact(ZlN gb db n _ W (h.below hW) hd).mono (fun _ _ h=>⟨h.1,hW.trans (h.2.mono hW.size)⟩);exact(Zfq gb db n _ W (h.below hW) hd hkn X hX hs).mono (fun _ _ h=>⟨h.1,hW.trans (h.2.mono hW.size)⟩);refine(ZhX gb db n _ W (h.below hW) hd).mono ?_;rintro e w' ⟨q,rfl,_,hL,hb⟩;rw[hll];exact⟨q,rfl,hL.mono0,hb⟩
 exact Zi1 gb db f n _ W (h.below hW) hd (by rw[hkl];exact hf);exact(ZkL gb db f row m n budget es Bb W (h.below hW) hm hn hk hf hr).mono (fun _ _ h=>⟨h.1,hW.trans (h.2.mono hW.size)⟩)
theorem ZoF{w:World}{ga da gb db m n budget:Nat}{es:List ES}{Bb:List (List Nat)}(ha:YM w ga da (ZH m n budget es Bb))(hb:YM w gb db (ZH m n budget es Bb))(hm:m+1<=4)(hn:n<=200)(hk:ZdW m n es Bb)(hkn:∀K∈(ZH m n budget es Bb).ks,Zdx K):Calls Tryz.prog 30 #[.pointer (some ⟨ga,0,none⟩),.pointer (some ⟨gb,0,none⟩),.int .i64 ((m:Int)+1)] w fun e w'=>e=.returned (.bool true)/\Below w.heap.size w w':=by
 have hd:=ZbZ (budget:=budget) hm hn hk;have hkl:(ZH m n budget es Bb).ks.length=m+1:=(by rw[show(ZH m n budget es Bb).ks=_ from Zax _ _ _ _ _];exact YJ es Bb (m+1));obtain⟨vK,vB,vX,kvs,bvs,X,hX⟩:=ha.md
 have h1:=ZoO ga gb n (m+1) _ _ _ _ w (ha.says hm hn hk hkn hX.perm hX.sorted) (hb.says hm hn hk hkn hX.perm hX.sorted) (by omega) (by omega) (by unfold Zdw;rw[List.length_map];have:=hd.b4;omega) (fun L hL=>by
  unfold Zdw at hL;obtain⟨b,hb,rfl⟩:=List.mem_map.1 hL;rw[ZG];have:=hd.f4 b hb
  omega) (fun f hf=>by
  have:=hd.edg f (by rw[hkl];exact hf);unfold bdI bdS;have h1:=this.lb;have h2:=this.lw;constructor;split;exact Qg _;exact h1;split;exact h2
  exact Qg _)
 exact h1
def esD(m:Nat)(wd:Nat->Bool)(ct:Nat->Int)(bins:Int)(size:Nat)(s:RS):List ES:=(List.range (m+1)).map (fun i=>ZT lwF (wd i) (ct i) bins size (s.cols i) s.ws)
def bbD(m:Nat)(wd:Nat->Bool)(ct:Nat->Int)(bins:Int)(size:Nat)(s:RS):List (List Nat):=(List.range (m+1)).map (fun i=>(s.cols i).map (YN (ZT lwF (wd i) (ct i) bins size (s.cols i) s.ws)))
def Zas(m:Nat)(wd:Nat->Bool)(ct:Nat->Int)(bins:Int)(size budget:Nat)(s:RS):YZ:=ZH m s.ws.length budget (esD m wd ct bins size s) (bbD m wd ct bins size s)
section
variable {m:Nat} {wd:Nat->Bool} {sc ct:Nat->Int} {bins:Int} {size budget:Nat} {l:List Int} {s:RS}
theorem Zez{i:Nat}(hi:i<m+1):(esD m wd ct bins size s).getD i e0S=ZT lwF (wd i) (ct i) bins size (s.cols i) s.ws:=by simp[esD,Qc,hi]
theorem ZmS{i:Nat}(hi:i<m+1):(bbD m wd ct bins size s).getD i []=(s.cols i).map (YN (ZT lwF (wd i) (ct i) bins size (s.cols i) s.ws)):=by simp[bbD,Qc,hi]
structure Zhe(m:Nat)(s:RS):Prop where
 inv:Zae (m+1) s
 val:Zer (m+1) s
theorem ZsA(hsc:∀i,i<m+1->wd i=false->0<=sc i/\sc i<=3)(h:Zi (m+1) wd sc RS.start l 0=.ok s):Zhe m s:=
 ⟨Zae.takes (by omega) hsc l (Zae.start (show 1<=m+1 by omega)) h,Zer.takes (by omega) hsc l (Zer.start (m+1)) (Zae.start (show 1<=m+1 by omega)) h⟩
theorem Zhe.binok(h:Zhe m s)(hc:Zaa lwF m wd ct bins size s):ZdW m s.ws.length (esD m wd ct bins size s) (bbD m wd ct bins size s):=by refine⟨by simp[esD],fun i hi=>?_,fun i hi=>?_,fun i hi=>?_,fun i hi b hb=>?_⟩;rw[ZmS hi,List.length_map];exact h.inv.col i hi;rw[Zez hi];exact(hc.ok i hi).1;rw[Zez hi];exact(hc.ok i hi).2.2;rw[ZmS hi] at hb;rw[Zez hi];obtain⟨v,_,rfl⟩:=List.mem_map.1 hb;exact ZmV _ _
theorem Zhe.kn(h:Zhe m s)(hs:2<=size)(hs2:size<=32)(hb:2<=bins)(hb2:bins<=16):∀K∈(Zas m wd ct bins size budget s).ks,Zdx K:=by intro K hK;rw[show(Zas m wd ct bins size budget s).ks=Z8 (esD m wd ct bins size s) (bbD m wd ct bins size s) (m+1) from Zax _ _ _ _ _] at hK;unfold Z8 at hK;obtain⟨i,hi,rfl⟩:=List.mem_map.1 hK;have hi:=List.mem_range.1 hi;unfold kF;rw[Zez hi];exact Zkl (by rw[h.inv.col i hi];exact h.inv.ws) hs hs2 hb hb2 (h.val.col i hi)
theorem ZpM{w:World}{ga da gb db:Nat}(ha:YM w ga da (Zas m wd ct bins size budget s))(hb:YM w gb db (Zas m wd ct bins size budget s))(h:Zhe m s)(hc:Zaa lwF m wd ct bins size s)(hm:m+1<=4)(hs:2<=size)(hs2:size<=32)(hb1:2<=bins)(hb2:bins<=16):Calls Tryz.prog 30 #[.pointer (some ⟨ga,0,none⟩),.pointer (some ⟨gb,0,none⟩),.int .i64 ((m:Int)+1)] w fun e w'=>e=.returned (.bool true)/\Below w.heap.size w w':=
 ZoF ha hb hm h.inv.ws (h.binok hc) (h.kn hs hs2 hb1 hb2)
end
def Zr1(m:Nat)(wd:Nat->Bool)(ct:Nat->Int)(bins:Int)(size budget len:Nat)(o:Except (Int×Nat) RS)(e:Ending)(w':World):Prop:=
 match o with
 |.error (z,p)=>e=.returned (.tuple #[.pointer none,.int .i64 z,.int .i64 (p:Nat)])
 |.ok s=>(s.wt≠0/\e=.returned (.tuple #[.pointer none,.int .i64 2,.int .i64 (len:Nat)]))∨
   (s.wt=0/\∃gb db,e=.returned (.tuple #[.pointer (some ⟨gb,0,none⟩),.int .i64 0,.int .i64 0])/\YM w' gb db (Zas m wd ct bins size budget s))
theorem ZqT(b:ByteArray)(fk m fc cn cc:Nat)(ca:Option Addr)(cz:List Int)(bins:Int)(size budget:Nat)(wd:Nat->Bool)(sc ct:Nat->Int)(w:World)(hF:QH w fk 0 (m+1) wd sc ct)(hc:ZcS (m+1) bins size budget wd sc ct=true)(hcut:ZX w ca cn cz)(hcn:cn<=9223372036854775807)(hb:b.size<=200000000000000):Calls Tryz.prog 25 #[.agg #[.slice (some ⟨fk,0,none⟩) (m+1) fc,.int .i64 bins,.int .i64 (size:Nat),.int .i64 (budget:Nat)],.string b,.slice ca cn cc] w fun e w'=>Zr1 m wd ct bins size budget b.size (Zi (m+1) wd sc RS.start (Zb b) 0) e w'/\Below w.heap.size w w':=by
 obtain⟨h1,h4,c1,c2,c3,c4,c5,c6,hfe⟩:=Zcn hc
 have hsc:∀i,i<m+1->wd i=false->0<=sc i/\sc i<=3:=fun i hi hw=>by have:=hfe i hi;unfold ZaM at this;rw[hw] at this;simp at this;omega
 exact Zfz lwF b fk 0 m fc cn cc ca cz bins size budget wd sc ct w hF hc hcut hcn hb (fun s hs _=>Zfw hsc (by omega) (by omega) (by omega) (by omega) hs)
end Go.Proofs.YtfcgnpchbcmdeaaGreat
namespace Go.Proofs.YtfcgnpchbcmdeaaGreat
set_option linter.unusedSimpArgs false
set_option maxRecDepth 100000
set_option maxHeartbeats 16000000
open Go.RowKit Go.Lib Go.Sort
def Zcz(l:List Int):Prop:=∀c∈l,QW c=true
def Zo9(v:VS):Prop:=Zcz (Zb v.word)
theorem ZoY{c:Int}(h:QW c=true):0<=c/\c<=255:=by unfold QW Q9 at h;simp only[Bool.or_eq_true,Bool.and_eq_true,decide_eq_true_eq] at h;omega
theorem Zcz.val{bs:List Int}(h:Zcz bs)(p:ZB):Zo9 (Y4 p bs):=by show Zcz (Zb (strOfNums bs));rw[Zcl (fun c hc=>ZoY (h c hc))];exact h
theorem Zcz.more{bs:List Int}{c:Int}(h:Zcz bs)(hc:QW c=true):Zcz (bs++[c]):=fun x hx=>by
 rcases List.mem_append.1 hx with h1|h1
 exact h x h1;rw[List.mem_singleton.1 h1];exact hc
theorem Zgx{bs:List Int}{c:Int}{q:Int×List Int}(h:Zcz bs)(e:QC bs c=some q):Zcz q.2:=by
 unfold QC at e;split at e;rename_i hc;injection e with e;rw[<- e];exact h.more (by unfold QW;rw[hc.1];rfl)
 cases e
theorem ZpO{st:Int}{bs:List Int}{c:Int}{q:Int×List Int}(h:Zcz bs)(e:Z1 st bs c=some q):Zcz q.2:=by
 unfold Z1 at e;split at e
 ·by_cases hc:c=34
  rw[if_pos hc] at e;injection e with e;rw[<- e];exact h;rw[if_neg hc] at e;exact Zgx h e
 split at e;exact Zgx h e;split at e
 ·by_cases hc:c=34
  rw[if_pos hc] at e;injection e with e;rw[<- e];exact h;rw[if_neg hc] at e;have e:ZcR st bs c=some q:=e;unfold ZcR at e;split at e;rename_i hs;injection e with e;rw[<- e];exact h.more hs.1
  cases e
 unfold ZaK at e;split at e;rename_i hs;injection e with e;rw[<- e];exact h.more (by rw[hs.1];rfl)
 cases e
theorem Znz{wd:Bool}{u:Int}{p:ZB}{bs:List Int}{c:Int}{q:ZB×List Int}(h:Zcz bs)(e:ZZ wd u p bs c=some q):Zcz q.2:=by unfold ZZ at e;split at e;obtain⟨r,hr,e⟩:=Option.map_eq_some_iff.1 e;rw[<- e];exact ZpO h hr;obtain⟨r,hr,e⟩:=Option.map_eq_some_iff.1 e;rw[<- e];exact h
structure ZeE(n:Nat)(s:RS):Prop where
 bs:Zcz s.bs
 row:∀v∈s.row,Zo9 v
 col:∀i,i<n->∀v∈s.cols i,Zo9 v
theorem ZeE.start(n:Nat):ZeE n RS.start:=⟨by simp[RS.start,Zcz],by simp[RS.start],by simp[RS.start]⟩
theorem ZeE.take{n:Nat}{wd:Nat->Bool}{sc:Nat->Int}{s s':RS}{c:Int}(h:ZeE n s)(ht:Yt n wd sc s c=.ok s'):ZeE n s':=by
 unfold Yt at ht;split at ht
 ·cases ht
 split at ht
 ·split at ht
  ·cases ht
  injection ht with ht;subst ht;exact⟨h.bs,h.row,h.col⟩;injection ht with ht;subst ht;exact⟨h.bs,h.row,h.col⟩
 split at ht;rename_i hf;injection ht with ht;subst ht;exact⟨Znz h.bs hf,h.row,h.col⟩;split at ht
 ·injection ht with ht;subst ht
  have hrow:∀v∈s.row++[Y4 s.p s.bs],Zo9 v:=fun v hv=>by
   rcases List.mem_append.1 hv with e|e
   exact h.row v e;simp only[List.mem_singleton] at e;rw[e];exact h.bs.val _
  unfold Qx;split
  ·refine⟨by simp[Zcz],by simp,fun i hi v hv=>?_⟩;simp only[hi,if_true] at hv
   rcases List.mem_append.1 hv with e|e
   exact h.col i hi v e;simp only[List.mem_singleton] at e;rw[e];rename_i hl;have hil:i<(s.row++[Y4 s.p s.bs]).length:=(by rw[hl];exact hi);rw[Qc,Qd hil];exact hrow _ (Qf _)
  exact⟨by simp[Zcz],hrow,h.col⟩
 cases ht
theorem ZeE.takes{n:Nat}{wd:Nat->Bool}{sc:Nat->Int}:∀(l:List Int) {s s':RS} {k:Nat},ZeE n s->Zi n wd sc s l k=.ok s'->ZeE n s'
 |[],s,s',k,h,e=>by injection e with e;subst e;exact h
 | c::l,s,s',k,h,e=>by
  simp only[Zi] at e
  cases ht:Yt n wd sc s c with
  |error z=>rw[ht] at e;cases e
  |ok s1=>rw[ht] at e;exact ZeE.takes l (h.take ht) e
theorem ZqW{zs:List Int}(h:zs.Pairwise (· < ·)):Zc0 zs=true:=by unfold Zc0 ZbY;rw[List.all_eq_true];intro j hj;have hj:=List.mem_range.1 hj;rw[decide_eq_true_eq,Qc,Qc,Qd (show j<zs.length by omega),Qd (show j+1<zs.length by omega)];exact List.pairwise_iff_getElem.1 h j (j+1) (by omega) (by omega) (by omega)
theorem Zpg{ws:List ByteArray}(h:∀s∈ws,Zcz (Zb s)/\s.size<=8)(hn:ws.Nodup):Yb ws=true:=by unfold Yb Zat;rw[List.all_eq_true];intro j hj;have hj:=List.mem_range.1 hj;rw[Qc,Qd hj,Option.getD_some];have h1:=h _ (Qf hj);rw[Bool.and_eq_true];constructor;unfold Q8;rw[Bool.and_eq_true,List.all_eq_true,decide_eq_true_eq];exact⟨h1.1,h1.2⟩;rw[Bool.not_eq_true',<- Bool.not_eq_true,containsS_iff];intro hm;obtain⟨i,hi,e⟩:=List.getElem_of_mem hm;rw[List.length_take] at hi;rw[List.getElem_take] at e;exact List.pairwise_iff_getElem.1 hn i j (by omega) hj (by omega) e
theorem ZnR{wd:Bool}{ct bins:Int}{size d:Nat}{L:List VS}{ws:List Int}(hL:L.length<=200)(hs:2<=size)(hs2:size<=32)(hb:2<=bins)(hb2:bins<=16)(hr:∀v∈L,(-1000000000<=v.num/\v.num<=1000000000)/\v.word.size<=8)(hg:∀v∈L,Zo9 v)(hd:d<(ZT lwF wd ct bins size L ws).cnt+2):KRt ⟨ZT lwF wd ct bins size L ws,d⟩:=by
 have hkn:=Zkl (wd:=wd) (ct:=ct) (d:=d) (ws:=ws) hL hs hs2 hb hb2 hr
 cases wd
 have e:ZT lwF false ct bins size L ws=⟨false,Yr L ws bins size,[]⟩:=(by simp[ZT]);rw[e] at hkn hd ⊢;obtain⟨h1,h2⟩:=ZeT L ws hL hs hs2 hb;have hc:(⟨false,Yr L ws bins size,[]⟩:ES).cnt=(Yr L ws bins size).length:=rfl;refine⟨⟨hkn,?_,?_,hd⟩,fun z hz=>?_⟩;show(⟨false,Yr L ws bins size,[]⟩:ES).cnt<=16;omega;show Zee ⟨false,Yr L ws bins size,[]⟩=true;unfold Zee;rw[hc,decide_eq_true (show(Yr L ws bins size).length<=16 by omega),ZqW h1];rfl;obtain⟨v,hv,_,rfl⟩:=Zfp hL hs hs2 (fun v hv=>(hr v hv).1) z hz;have:=(hr v hv).1;omega
 have e:ZT lwF true ct bins size L ws=lwF L ws ct bins:=(by simp[ZT]);rw[e] at hkn hd ⊢;have hf:=Zj1.fine L ws ct bins hL hb hb2;refine⟨⟨hkn,hf.2.2,?_,hd⟩,fun z hz=>?_⟩;show Zee (lwF L ws ct bins)=true;unfold Zee;rw[decide_eq_true hf.2.2,Zpg (fun s hs=>?_) (Zoz L ws ct bins)];rfl;obtain⟨v,hv,_,rfl⟩:=ZkU s hs;exact⟨hg v hv,(hr v hv).2⟩;have hz:z∈([]:List Int):=hz;simp at hz
theorem Znw{m n budget:Nat}{es:List ES}{Bb:List (List Nat)}(hm:m+1<=4)(hn:n<=200)(hk:ZdW m n es Bb)(hK:∀K∈(ZH m n budget es Bb).ks,KRt K){X:List XS}(hX:X.Perm (ZH m n budget es Bb).xs)(hs:Qo X):DRt n (ZH m n budget es Bb) X:=by
 have hd:=ZbZ (budget:=budget) hm hn hk;have hks:(ZH m n budget es Bb).ks=Z8 es Bb (m+1):=Zax _ _ _ _ _;have hkl:(Z8 es Bb (m+1)).length=m+1:=YJ es Bb (m+1)
 have hbin:∀g,g<m+1->∀r,(Bb.getD g []).getD r 0<((Z8 es Bb (m+1)).getD g Zp).many:=fun g hg r=>by
  rw[QG es Bb hg];show _<(es.getD g e0S).cnt+2;rw[Qc]
  rcases Nat.lt_or_ge r (Bb.getD g []).length with h1|h1
  rw[Qd h1];exact hk.bin g hg _ (Qf h1);rw[List.getElem?_eq_none h1];simp
 have hmem:∀x,x∈(ZH m n budget es Bb).xs↔_:=fun x=>ZgY (Ks:=Z8 es Bb (m+1)) (Os:=Qs es Bb (m+1)) (Bb:=Bb) (n:=n) (Zau m (Z8 es Bb (m+1)) (Qs es Bb (m+1)) n budget) ⟨Z8 es Bb (m+1),[],[]⟩ x rfl;have hN:∀b∈(ZH m n budget es Bb).bs,b.N=Zav (Z8 es Bb (m+1)) (Qs es Bb (m+1)) Bb n b.fs:=Zld (Zau m (Z8 es Bb (m+1)) (Qs es Bb (m+1)) n budget) ⟨Z8 es Bb (m+1),[],[]⟩ rfl (by simp);have hall:=Zej m (Z8 es Bb (m+1)) (Qs es Bb (m+1)) n budget;have hnd:=ZgT m (Z8 es Bb (m+1)) (Qs es Bb (m+1)) n budget
 have hbf:(ZH m n budget es Bb).bs.map (fun b=>b.fs)=(Zau m (Z8 es Bb (m+1)) (Qs es Bb (m+1)) n budget).map (fun G=>G.fs):=by have h1:=(ZfZ (Os:=Qs es Bb (m+1)) (Bb:=Bb) (n:=n) (Ks:=Z8 es Bb (m+1)) (Zau m (Z8 es Bb (m+1)) (Qs es Bb (m+1)) n budget) ⟨Z8 es Bb (m+1),[],[]⟩ rfl (fun G hG g hg=>hbin g (List.mem_range.1 (hall.mem_iff.1 (List.mem_flatMap.2 ⟨G,hG,hg⟩)))) (by simp)).2;rw[show(ZH m n budget es Bb).bs=_ from rfl];exact h1
 have hO:∀f,f<m+1->∀row,row<n->((Qs es Bb (m+1)).getD f []).getD row false=decide ((Bb.getD f []).getD row 0≠((Z8 es Bb (m+1)).getD f Zp).d):=fun f hf row hr=>by rw[ZcP es Bb hf,QG es Bb hf];have hl:row<(Bb.getD f []).length:=(by rw[hk.lb f hf];exact hr);unfold oF ZbU;rw[Qc,List.getElem?_map,Qd hl,Qc (l:=Bb.getD f []),Qd hl];rfl
 have hkey:=hd.keys;have hxl:=hd.xl;generalize ZH m n budget es Bb=D at *;generalize Zau m (Z8 es Bb (m+1)) (Qs es Bb (m+1)) n budget=Gs at *
 have hfk:∀b∈D.bs,∀f∈b.fs,f<m+1:=fun b hb f hf=>by have:=hd.fk b hb f hf;rw[hks,hkl] at this;exact this
 have hGb:∀b∈D.bs,∃G∈Gs,G.fs=b.fs:=fun b hb=>by have:b.fs∈D.bs.map (fun b=>b.fs):=List.mem_map.2 ⟨b,hb,rfl⟩;rw[hbf] at this;obtain⟨G,hG,e⟩:=List.mem_map.1 this;exact⟨G,hG,e⟩
 refine⟨hn,hd.k0,hd.k4,hd.b0,hd.b4,hK,fun b hb=>?_,?_,?_,fun x hx=>?_,by rw[hX.length_eq];exact hxl⟩
 ·refine⟨(hd.bok b hb).len,(hd.bok b hb).le,hd.g40 b hb,hd.f0 b hb,by have:=hd.f4 b hb;omega,hd.fk b hb,(hd.bok b hb).sum,?_⟩;rw[hks];have h1:=hN b hb;rw[h1];refine ZqZ (fun f hf r hr=>⟨hbin f (hfk b hb f hf) r,fun h2=>?_⟩) (by rw[<- h1];exact(hd.bok b hb).len);rw[hO f (hfk b hb f hf) r hr] at h2
  simpa using h2
 have e:D.bs.flatMap (·.fs)=Zbv Gs:=(by show D.bs.flatMap (fun b=>b.fs)=Gs.flatMap (fun G=>G.fs);rw[List.flatMap_def,List.flatMap_def,hbf]);rw[e,hks,hkl];exact hall;have hkX:ZbH X:=(hX.symm.pairwise_iff (R:=fun x y:XS=>x.row≠y.row∨x.f≠y.f) (fun h=>by omega)).1 hkey;exact(hs.and hkX).imp (fun h=>by omega)
 rcases(hmem x).1 (hX.subset hx) with h1|⟨G,hG,A,C,hf,hr,h3,h4,h5⟩
 simp at h1;have hxf:x.f<m+1:=List.mem_range.1 (hall.mem_iff.1 (List.mem_flatMap.2 ⟨G,hG,by rw[hf];simp⟩));have hseat:=hd.seat (f:=x.f) (by rw[hks,hkl];exact hxf);unfold Y1;have eB:Zu ⟨D.ks,D.bs,[]⟩ x.f=Zu D x.f:=rfl;have eP:Q0 ⟨D.ks,D.bs,[]⟩ x.f=Q0 D x.f:=rfl;have eO:Y6 ⟨D.ks,D.bs,[]⟩ (Zu D x.f) (Q0 D x.f)=Y6 D (Zu D x.f) (Q0 D x.f):=rfl;simp only[eB,eP,eO];generalize Zu D x.f=bi at *;generalize Q0 D x.f=p at *;have hbm:D.bs.getD bi ZA∈D.bs:=(by rw[Qc,Qd hseat.hb];exact Qf _);have hNb:=hN _ hbm
 have hsp:(D.bs.getD bi ZA).fs=(D.bs.getD bi ZA).fs.take p++x.f::(D.bs.getD bi ZA).fs.drop (p+1):=by have h1:=hseat.at_;rw[Qc (l:=(D.bs.getD bi ZA).fs),Qd hseat.hp] at h1;simp only[Option.getD_some] at h1;have h2:=List.take_append_drop p (D.bs.getD bi ZA).fs;rw[List.drop_eq_getElem_cons hseat.hp,h1] at h2;exact h2.symm
 have hoff:Y6 D bi p=1+Qn (Z8 es Bb (m+1)) ((D.bs.getD bi ZA).fs.take p):=(by unfold Y6;rw[hks]);obtain⟨G',hG',e'⟩:=hGb _ hbm;have hone:=ZiD (f:=x.f) Gs hnd G hG G' hG' (by rw[hf];simp) (by rw[e',hsp];simp);have hA:A=(D.bs.getD bi ZA).fs.take p:=Zip A _ C ((D.bs.getD bi ZA).fs.drop (p+1)) (by rw[<- hf];exact hone.2) (by rw[<- hf,hone.1,e'];exact hsp);rw[ZpF (hd.bok _ hbm).le (by have:=hd.g40 _ hbm;omega),hNb,hoff,<- hA];have hfs:(D.bs.getD bi ZA).fs=A++x.f::C:=(by rw[<- e',<- hone.1,hf]);have hAm:∀g∈A,g<m+1:=fun g hg=>hfk _ hbm g (by rw[hfs];exact List.mem_append_left _ hg);rw[hfs];have hcol:Znv n (QQ (Z8 es Bb (m+1)) (Qs es Bb (m+1)) Bb n [] A):=Zjb (fun g hg=>hbin g (hAm g hg));have hcoff:=Zeo (Z8 es Bb (m+1)) (Qs es Bb (m+1)) Bb n [] A
 have hlt:(Zav (Z8 es Bb (m+1)) (Qs es Bb (m+1)) Bb n A).getD x.row 0<1+Qn (Z8 es Bb (m+1)) A:=by rw[<- hcoff,Qc];have hl:x.row<(Zav (Z8 es Bb (m+1)) (Qs es Bb (m+1)) Bb n A).length:=(by unfold Zav;rw[hcol.len];exact hr);rw[Qd hl];exact hcol.lt _ (Qf _)
 have hfin:(Zav (Z8 es Bb (m+1)) (Qs es Bb (m+1)) Bb n (A++x.f::C)).getD x.row 0=(Zav (Z8 es Bb (m+1)) (Qs es Bb (m+1)) Bb n A).getD x.row 0:=by have h6:=(Zdh (Ks:=Z8 es Bb (m+1)) (Os:=Qs es Bb (m+1)) (Bb:=Bb) (n:=n) (x.f::C) (QQ (Z8 es Bb (m+1)) (Qs es Bb (m+1)) Bb n [] A) hcol.pos x.row hr).1 h4;have h7:Zav (Z8 es Bb (m+1)) (Qs es Bb (m+1)) Bb n (A++x.f::C)=((x.f::C).foldl (Zh (Z8 es Bb (m+1)) (Qs es Bb (m+1)) Bb n) (QQ (Z8 es Bb (m+1)) (Qs es Bb (m+1)) Bb n [] A)).N:=(by unfold Zav QQ;rw[List.foldl_append]);rw[h7];exact h6
 rw[hfin,hks];rw[hO x.f hxf x.row hr] at h3;have h8:=hbin x.f hxf x.row;unfold KS.many at h8;unfold ZdC ZaU;simp only[Bool.and_eq_true,decide_eq_true_eq,Bool.not_eq_true',decide_eq_false_iff_not];refine⟨hr,by rw[hkl];exact hxf,⟨by rw[h5];omega,?_⟩,by omega,hlt⟩;rw[h5];have h9:=of_decide_eq_true h3;omega
section
variable {m:Nat} {wd:Nat->Bool} {sc ct:Nat->Int} {bins:Int} {size budget:Nat} {l:List Int} {s:RS}
theorem Zhe.krt(h:Zhe m s)(hg:ZeE (m+1) s)(hs:2<=size)(hs2:size<=32)(hb:2<=bins)(hb2:bins<=16):∀K∈(Zas m wd ct bins size budget s).ks,KRt K:=by intro K hK;rw[show(Zas m wd ct bins size budget s).ks=Z8 (esD m wd ct bins size s) (bbD m wd ct bins size s) (m+1) from Zax _ _ _ _ _] at hK;unfold Z8 at hK;obtain⟨i,hi,rfl⟩:=List.mem_map.1 hK;have hi:=List.mem_range.1 hi;unfold kF;rw[Zez hi];refine ZnR (by rw[h.inv.col i hi];exact h.inv.ws) hs hs2 hb hb2 (h.val.col i hi) (hg.col i hi) ?_;have:=ZgB ((bbD m wd ct bins size s).getD i []) (show 0<(ZT lwF (wd i) (ct i) bins size (s.cols i) s.ws).cnt+2 by omega);rw[Zi8] at this;omega
theorem ZqJ(h:Zhe m s)(hg:ZeE (m+1) s)(hc:Zaa lwF m wd ct bins size s)(hm:m+1<=4)(hs:2<=size)(hs2:size<=32)(hb:2<=bins)(hb2:bins<=16){X:List XS}(hX:X.Perm (Zas m wd ct bins size budget s).xs)(hx:Qo X):opD (ZU (Zas m wd ct bins size budget s) X)=some ⟨(Zas m wd ct bins size budget s).ks,(Zas m wd ct bins size budget s).bs,X⟩:=
 ZoG (Znw hm h.inv.ws (h.binok hc) (h.krt hg hs hs2 hb hb2) hX hx)
end
end Go.Proofs.YtfcgnpchbcmdeaaGreat
namespace Go.Proofs.YtfcgnpchbcmdeaaGreat
set_option linter.unusedSimpArgs false
set_option maxRecDepth 100000
set_option maxHeartbeats 16000000
open Go.RowKit
theorem ZbK{α:Type}(f:α->List Int)(c:Nat):∀(L:List α),(∀x∈L,(f x).length<=c)->(L.flatMap f).length<=L.length*c
 |[],_=>by simp
 |x::L,h=>by have h1:=h x (by simp);have h2:=ZbK f c L (fun y hy=>h y (by simp[hy]));rw[List.flatMap_cons,Qe,List.length_cons,Nat.succ_mul];omega
theorem Zmw{n:Nat}{D:YZ}(hd:ZbE n D)(hk:∀K∈D.ks,Zdx K){X:List XS}(hX:X.Perm D.xs):(ZU D X).length<=100000:=by have h1:=ZbK knA 9003 D.ks (fun K hK=>Znk (hk K hK));have h2:=ZbK YQ 5000 D.bs (fun b hb=>(hd.bun b hb).2.2.2.2);have h3:=ZbK xB 3 X (fun x _=>Qa _);have h4:=hd.k4;have h5:=hd.b4;have h6:=hd.xl;rw[<- hX.length_eq] at h6;unfold ZU Zam;simp only[Qe,List.length_cons,List.length_nil,Zbr];have h7:D.ks.length*9003<=4*9003:=Nat.mul_le_mul_right _ h4;have h8:D.bs.length*5000<=4*5000:=Nat.mul_le_mul_right _ h5;omega
theorem YM.of_perm{w:World}{gb db:Nat}{D:YZ}{X:List XS}(h:YM w gb db ⟨D.ks,D.bs,X⟩)(hX:X.Perm D.xs):YM w gb db D:=by obtain⟨hg,vK,vB,vX,kvs,bvs,Y,hM⟩:=h;exact⟨hg,vK,vB,vX,kvs,bvs,Y,hM.ds,hM.kn,hM.perm.trans hX,hM.sorted⟩
section
variable {m:Nat} {wd:Nat->Bool} {sc ct:Nat->Int} {B S U:Nat} {l:List Int} {s:RS}
theorem ZnI{w:World}{gb db:Nat}(ho:YM w gb db (Zas m wd ct (B:Nat) S U s))(h:Zhe m s)(hc:Zaa lwF m wd ct (B:Nat) S s)(hm:m+1<=4)(hs:2<=S)(hs2:S<=32)(hb1:2<=B)(hb2:B<=16):∃X,X.Perm (Zas m wd ct (B:Nat) S U s).xs/\Qo X/\(ZU (Zas m wd ct (B:Nat) S U s) X).length<=100000/\Calls Tryz.prog 34 #[.pointer (some ⟨gb,0,none⟩)] w fun e w'=>e=.returned (.string (strOfNums (ZU (Zas m wd ct (B:Nat) S U s) X)))/\Below w.heap.size w w':=by have hd:ZbE s.ws.length (Zas m wd ct (B:Nat) S U s):=ZbZ hm h.inv.ws (h.binok hc);have hkn:=h.kn (wd:=wd) (ct:=ct) (budget:=U) (bins:=(B:Nat)) hs hs2 (by omega) (by omega);obtain⟨vK,vB,vX,kvs,bvs,X,hM⟩:=ho.md;exact⟨X,hM.perm,hM.sorted,Zmw hd hkn hM.perm,Zfq gb db _ _ w ho hd hkn X hM.perm hM.sorted⟩
theorem Zo7{w:World}{X:List XS}(h:Zhe m s)(hg:ZeE (m+1) s)(hc:Zaa lwF m wd ct (B:Nat) S s)(hm:m+1<=4)(hs:2<=S)(hs2:S<=32)(hb1:2<=B)(hb2:B<=16)(hX:X.Perm (Zas m wd ct (B:Nat) S U s).xs)(hx:Qo X)(hl:(ZU (Zas m wd ct (B:Nat) S U s) X).length<=100000):Calls Tryz.prog 33 #[.string (strOfNums (ZU (Zas m wd ct (B:Nat) S U s) X))] w fun e w'=>∃gb db,e=.returned (.tuple #[.pointer (some ⟨gb,0,none⟩),.int .i64 0])/\YM w' gb db (Zas m wd ct (B:Nat) S U s)/\Below w.heap.size w w':=by
 have hz:(strOfNums (ZU (Zas m wd ct (B:Nat) S U s) X)).size=(ZU (Zas m wd ct (B:Nat) S U s) X).length:=(by simp[strOfNums,ByteArray.size]);refine(Zoa (strOfNums (ZU (Zas m wd ct (B:Nat) S U s) X)) w (by omega)).mono ?_;intro e w' hG;rw[Zcl (ZdY _ _),ZqJ h hg hc hm hs hs2 (by omega) (by omega) hX hx] at hG;obtain⟨gb,db,e1,hO,hb⟩:=hG;exact⟨gb,db,e1,hO.out.of_perm hX,hb⟩
end
theorem ZhP(ca la:Option Addr)(cn cc ln lc:Nat)(cs l:List Int)(w:World)(hcs:ZX w ca cn cs)(hl:ZX w la ln l)(hcn:cn<=9223372036854775807)(hln:ln<=9223372036854775807):Calls Tryz.prog 11 #[.slice ca cn cc,.slice la ln lc] w fun e w'=>e=.returned (.bool true)/\Below w.heap.size w w':=by
 have HCS:=fun W (hW:Below w.heap.size w W)=>Zhk ca cn cc cs W (hcs.below hW) hcn;have HLI:Hid (∀W,Below w.heap.size w W->ZX W la ln l):=fun W hW=>hl.below hW;have HHD:Hid Zj6:=ZpL;have hcf:=Zks cs;have hconf:=ZqA cs;have hmany:Qj cs l<=150:=(by unfold Qj;omega);have hts:=Zd0 cs l (Qj cs l);have htk:=ZmU cs l (Qj cs l) hmany;have hst:=ZlT cs l (Qj cs l);obtain⟨h1,h4,c1,c2,c3,c4,c5,c6,hfe⟩:=Zcn hconf
 have hsc:∀i,i<YH cs+1->cfW cs i=false->0<=cfC cs i/\cfC cs i<=3:=fun i hi hw=>by have:=hfe i hi;unfold ZaM at this;rw[hw] at this;simp at this;omega
 have htook:=ZsA hsc htk;have hsig:=ZeE.takes (n:=YH cs+1) _ (ZeE.start (YH cs+1)) htk;have hclo:Zaa lwF (YH cs) (cfW cs) (cfT cs) (cfB cs:Nat) (cfS cs) (stR cs l (Qj cs l)):=Zfw hsc (by omega) (by omega) (by omega) (by omega) htk;have HT0:Hid (Zi (YH cs+1) (cfW cs) (cfC cs) RS.start (Zb (QE cs l (Qj cs l))) 0=.ok (stR cs l (Qj cs l))/\(stR cs l (Qj cs l)).wt=0):=⟨htk,hst.wt⟩
 have HRO:Hid (∀W fk fc,Below w.heap.size w W->QH W fk 0 (YH cs+1) (cfW cs) (cfC cs) (cfT cs)->Calls Tryz.prog 24 #[.agg #[.slice (some ⟨fk,0,none⟩) (YH cs+1) fc,.int .i64 (cfB cs:Nat),.int .i64 (cfS cs:Nat),.int .i64 (cfU cs:Nat)],.slice la ln lc] W fun e w'=>∃v,e=.returned (.tuple #[v,.string (QE cs l (Qj cs l))])/\Below W.heap.size W w'):=fun W fk fc hW hF=>(Zi2 fk fc ln lc la cs l W hF (HLI.out W hW) hln).mono (fun _ _ h=>by obtain⟨v,h1,_,h3⟩:=h;exact⟨v,h1,h3⟩)
 have HFE:Hid (∀W fk fc,QH W fk 0 (YH cs+1) (cfW cs) (cfC cs) (cfT cs)->Calls Tryz.prog 25 #[.agg #[.slice (some ⟨fk,0,none⟩) (YH cs+1) fc,.int .i64 (cfB cs:Nat),.int .i64 (cfS cs:Nat),.int .i64 (cfU cs:Nat)],.string (QE cs l (Qj cs l)),.slice none 0 0] W fun e w'=>Zr1 (YH cs) (cfW cs) (cfT cs) (cfB cs:Nat) (cfS cs) (cfU cs) (QE cs l (Qj cs l)).size (Zi (YH cs+1) (cfW cs) (cfC cs) RS.start (Zb (QE cs l (Qj cs l))) 0) e w'/\Below W.heap.size W w'):=fun W fk fc hF=>ZqT _ fk (YH cs) fc 0 0 none [] (cfB cs:Nat) (cfS cs) (cfU cs) (cfW cs) (cfC cs) (cfT cs) W hF hconf ⟨rfl,by simp,.inl rfl⟩ (by decide) (by omega)
 have HSA:Hid (∀(W:World) (ga da gb db:Nat),YM W ga da (Zas (YH cs) (cfW cs) (cfT cs) (cfB cs:Nat) (cfS cs) (cfU cs) (stR cs l (Qj cs l)))->YM W gb db (Zas (YH cs) (cfW cs) (cfT cs) (cfB cs:Nat) (cfS cs) (cfU cs) (stR cs l (Qj cs l)))->Calls Tryz.prog 30 #[.pointer (some ⟨ga,0,none⟩),.pointer (some ⟨gb,0,none⟩),.int .i64 ((YH cs:Int)+1)] W fun e w'=>e=.returned (.bool true)/\Below W.heap.size W w'):=fun W ga da gb db h1 h2=>ZpM h1 h2 htook hclo (by omega) (by omega) (by omega) (by omega) (by omega)
 have HBY:Hid (∀(W:World) (gb db:Nat),YM W gb db (Zas (YH cs) (cfW cs) (cfT cs) (cfB cs:Nat) (cfS cs) (cfU cs) (stR cs l (Qj cs l)))->∃t:ByteArray,(Calls Tryz.prog 34 #[.pointer (some ⟨gb,0,none⟩)] W fun e w'=>e=.returned (.string t)/\Below W.heap.size W w')/\∀V:World,Calls Tryz.prog 33 #[.string t] V fun e w'=>∃gb db,e=.returned (.tuple #[.pointer (some ⟨gb,0,none⟩),.int .i64 0])/\YM w' gb db (Zas (YH cs) (cfW cs) (cfT cs) (cfB cs:Nat) (cfS cs) (cfU cs) (stR cs l (Qj cs l)))/\Below V.heap.size V w'):=fun W gb db ho=>by obtain⟨X,hX,hx,hlen,hcall⟩:=ZnI ho htook hclo (by omega) (by omega) (by omega) (by omega) (by omega);exact⟨_,hcall,fun V=>Zo7 htook hsig hclo (by omega) (by omega) (by omega) (by omega) (by omega) hX hx hlen⟩
 have hm4:YH cs<=3:=hcf.2.2.2.2.2;clear hcf hconf hmany hts htk hst h1 h4 c1 c2 c3 c4 c5 c6 hfe hcs hl hsc htook hsig hclo;generalize QE cs l (Qj cs l)=tx at *;generalize stR cs l (Qj cs l)=s0 at *;generalize YH cs=m at *;generalize cfW cs=wd at *;generalize cfC cs=sc at *;generalize cfT cs=ct at *;generalize cfB cs=B at *;generalize cfS cs=S at *;generalize cfU cs=U at *;generalize hDD:Zas m wd ct (B:Nat) S U s0=D at *;have HDD:Hid (Zas m wd ct (B:Nat) S U s0=D):=hDD;clear hDD;go_enter Tryz.func11,Tryz.ntmps11;go_wp2_with fail
 refine(HHD.out _).mono ?_;rintro e w1 ⟨rfl,hb1⟩;have HB1:Hid (Below w.heap.size w w1):=hb1;have HC1:=HCS w1 hb1;clear hb1 HCS;go_wp2_with fail
 refine HC1.mono ?_;rintro e w2 ⟨fk,fc,rfl,hfk,hF2,hb2⟩;have HB2:Hid (Below w.heap.size w w2/\QH w2 fk 0 (m+1) wd sc ct):=⟨HB1.out.trans (hb2.mono HB1.out.size),hF2⟩;have hs2:=HB2.out.1.size;clear hb2 hF2 HC1 hfk;go_upto_region 3 with fail;generalize hW3:w2.alloc (.cells #[.slice (some ⟨fk,0,none⟩) (m+1) fc,.int .i64 (B:Nat),.int .i64 (S:Nat),.int .i64 (U:Nat)] 37)=w3;have hX3:w3.heap[w2.heap.size]? =some (.cells #[.slice (some ⟨fk,0,none⟩) (m+1) fc,.int .i64 (B:Nat),.int .i64 (S:Nat),.int .i64 (U:Nat)] 37 (0,0)):=(by rw[<- hW3];exact heap_alloc_new _ _);have hb3:Below w2.heap.size w2 w3:=(by rw[<- hW3];exact(Below.refl _ _).alloc (Qa _) _);have hkl:w2.heap.size<w3.heap.size:=(Qb hX3).1
 have HW:Hid (∀W,Below w3.heap.size w3 W->Below w.heap.size w W/\QH W fk 0 (m+1) wd sc ct/\W.cell? ⟨w2.heap.size,0,none⟩=some (.slice (some ⟨fk,0,none⟩) (m+1) fc)/\W.cell? ⟨w2.heap.size,1,none⟩=some (.int .i64 (B:Nat))/\W.cell? ⟨w2.heap.size,2,none⟩=some (.int .i64 (S:Nat))/\W.cell? ⟨w2.heap.size,3,none⟩=some (.int .i64 (U:Nat))):=fun W hW=>by
  have hb:Below w2.heap.size w2 W:=hb3.trans (hW.mono hb3.size);refine⟨HB2.out.1.trans (hb.mono hs2),HB2.out.2.below hb,?_,?_,?_,?_⟩;exact(hW.cell (p:=⟨w2.heap.size,0,none⟩) hkl).trans (cell_of_row _ _ 0 _ 37 (0,0) hX3);exact(hW.cell (p:=⟨w2.heap.size,1,none⟩) hkl).trans (cell_of_row _ _ 1 _ 37 (0,0) hX3);exact(hW.cell (p:=⟨w2.heap.size,2,none⟩) hkl).trans (cell_of_row _ _ 2 _ 37 (0,0) hX3);exact(hW.cell (p:=⟨w2.heap.size,3,none⟩) hkl).trans (cell_of_row _ _ 3 _ 37 (0,0) hX3)
 clear hW3 hX3 hb3 HB2 HB1 hs2;obtain⟨_,_,e0,e1,e2,e3⟩:=HW.out w3 (Below.refl _ _);go_wp2_with fail
 refine(HRO.out _ _ _ (HW.out w3 (Below.refl _ _)).1 (HW.out w3 (Below.refl _ _)).2.1).mono ?_;rintro e w4 ⟨vr,rfl,hb4⟩;have HB4:Hid (Below w3.heap.size w3 w4):=hb4;clear hb4 e0 e1 e2 e3;obtain⟨_,_,e0,e1,e2,e3⟩:=HW.out w4 HB4.out;go_wp2_with fail
 refine(HFE.out w4 fk fc (HW.out w4 HB4.out).2.1).mono ?_;rintro e w5 ⟨hA,hb5⟩;rw[HT0.out.1] at hA
 rcases hA with⟨hne,_⟩|⟨_,ga,da,rfl,hO5⟩
 exact absurd HT0.out.2 hne;rw[HDD.out] at hO5;have HB5:Hid (Below w3.heap.size w3 w5/\YM w5 ga da D):=⟨HB4.out.trans (hb5.mono HB4.out.size),hO5⟩;clear hb5 hO5 e0 e1 e2 e3 HB4;obtain⟨t,hT,HOP⟩:=HBY.out w5 ga da HB5.out.2;go_wp2_with fail
 refine hT.mono ?_;rintro e w6 ⟨rfl,hb6⟩;have HB6:Hid (Below w3.heap.size w3 w6/\YM w6 ga da D):=⟨HB5.out.1.trans (hb6.mono HB5.out.1.size),HB5.out.2.below hb6⟩;clear hb6 HB5 hT HBY;go_wp2_with fail
 refine(HOP w6).mono ?_;rintro e w7 ⟨gb,db,rfl,hO7,hb7⟩;have HB7:Hid (Below w3.heap.size w3 w7/\YM w7 ga da D/\YM w7 gb db D):=⟨HB6.out.1.trans (hb7.mono HB6.out.1.size),HB6.out.2.below hb7,hO7⟩;clear hb7 HB6 hO7 HOP;obtain⟨_,_,e0,e1,e2,e3⟩:=HW.out w7 HB7.out.1;go_wp2_with fail
 refine(HSA.out w7 ga da gb db HB7.out.2.1 HB7.out.2.2).mono ?_;rintro e w8 ⟨rfl,hb8⟩;have HFI:Hid (Below w.heap.size w w8):=(HW.out w8 (HB7.out.1.trans (hb8.mono HB7.out.1.size))).1;clear hb8 HB7 e0 e1 e2 e3;go_wp2;go_ret;exact⟨rfl,HFI.out⟩
end Go.Proofs.YtfcgnpchbcmdeaaGreat
