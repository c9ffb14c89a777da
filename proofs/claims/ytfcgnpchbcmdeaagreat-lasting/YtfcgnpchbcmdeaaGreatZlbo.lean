import Derived.Test.YtfcgnpchbcmdeaaGreatZlbn
import Derived.Test.YtfcgnpchbcmdeaaGreatZlbm
import Derived.Test.YtfcgnpchbcmdeaaGreatZlbl
import Derived.Test.YtfcgnpchbcmdeaaGreatZlbg
import Derived.Test.YtfcgnpchbcmdeaaGreatZlbh
import Derived.Test.YtfcgnpchbcmdeaaGreatZlbp
import Derived.Test.YtfcgnpchbcmdeaaGreatZlbk
namespace Go.Proofs.YtfcgnpchbcmdeaaGreat
set_option linter.unusedSimpArgs false
open Go.RowKit
theorem Zsy(z:Int):YT z 4=[z%256,z/256%256,z/256/256%256,z/256/256/256%256]:=rfl
theorem Zrt{z:Int}(h1: -2147483648<=z)(h2:z<=2147483647)(r:List Int):Zc1 (YT z 4++r)=z:=by rw[Zsy];unfold Zc1;simp only[ZaQ,List.cons_append,List.nil_append,List.getD_cons_zero,List.getD_cons_succ,Nat.mul_zero,Nat.pow_zero,Nat.mul_one,Nat.reduceMul,Nat.reducePow,Nat.zero_add];simp[IntKind.wrap,IntKind.bits,IntKind.signed];omega
theorem Zs7{n:Nat}(h:n<65536)(r:List Int):ZaQ (YT (n:Nat) 2++r) 2=n/\(YT (n:Nat) 2++r).drop 2=r:=by refine⟨?_,rfl⟩;show ZaQ ([(n:Int)%256,(n:Int)/256%256]++r) 2=n;simp only[ZaQ,List.cons_append,List.nil_append,List.getD_cons_zero,List.getD_cons_succ,Nat.mul_zero,Nat.pow_zero,Nat.mul_one,Nat.reducePow,Nat.zero_add];omega
theorem Zih(b:Int)(bs r:List Int):Zbe (b::bs)++r=YT b 4++(Zbe bs++r):=by unfold Zbe;rw[List.flatMap_cons,List.append_assoc]
theorem ZiW(s:ByteArray)(ws:List ByteArray)(r:List Int):ZbV (s::ws)++r=((s.size:Nat):Int)%256::Zb s++(ZbV ws++r):=by unfold ZbV;rw[List.flatMap_cons,List.append_assoc]
theorem ZeY(r:List Int):∀(bs:List Int) (j:Nat),j<=bs.length->(Zbe bs++r).drop (4*j)=Zbe (bs.drop j)++r
 |_,0,_=>rfl
 |[],j+1,h=>by simp at h
 |b::bs,j+1,h=>by rw[Zih,show 4*(j+1)=4+4*j by omega,<- List.drop_drop,List.drop_left' (Zbk b 4),List.drop_succ_cons];exact ZeY r bs j (by simpa using h)
theorem ZoA{bs:List Int}(h:∀z∈bs,-2147483648<=z/\z<=2147483647)(r:List Int):Zar (Zbe bs++r) bs.length=bs:=by unfold Zar;apply List.ext_getElem;simp;intro j h1 h2;rw[List.getElem_map,List.getElem_range,ZeY r bs j (by omega),List.drop_eq_getElem_cons h2];rw[Zih];have:=h _ (Qf h2);exact Zrt this.1 this.2 _
theorem ZiF{s:ByteArray}(h:s.size<256)(r:List Int):ZiE (((s.size:Nat):Int)%256::Zb s++r)=r/\ZdY (((s.size:Nat):Int)%256::Zb s++r)=s:=by have e:((((s.size:Nat):Int)%256::Zb s++r).headD 0).toNat=s.size:=(by show((((s.size:Nat):Int)%256)).toNat=s.size;omega);constructor;unfold ZiE;rw[e];exact List.drop_left' (ZV s);unfold ZdY;rw[e];show strOfNums ((Zb s++r).take s.size)=s;rw[List.take_left' (ZV s),ZbF]
theorem Zfh(r:List Int):∀(k:Nat) (ws:List ByteArray),(∀s∈ws,s.size<256)->k<=ws.length->restW (ZbV ws++r) k=ZbV (ws.drop k)++r
 |0,_,_,_=>rfl
 |k+1,ws,h,hk=>by have hlt:k<ws.length:=(by omega);simp only[restW];rw[Zfh r k ws h (by omega),List.drop_eq_getElem_cons hlt];rw[ZiW];exact(ZiF (h _ (Qf hlt)) _).1
theorem Zo9{ws:List ByteArray}(h:∀s∈ws,s.size<256)(r:List Int):Zam (ZbV ws++r) ws.length=ws:=by unfold Zam;apply List.ext_getElem;simp;intro j h1 h2;rw[List.getElem_map,List.getElem_range,Zfh r j ws h (by omega),List.drop_eq_getElem_cons h2];rw[ZiW];exact(ZiF (h _ (Qf h2)) _).2
structure KRt(K:KS):Prop where
 ok:KOk K
 num:∀z∈K.e.bs,-2147483648<=z/\z<=2147483647
theorem ZsB{K:KS}(h:KRt K)(r:List Int):QW (knA K++r)=K.e/\rdD (knA K++r)=K.d/\rdR (knA K++r)=r:=by
 have hd:=h.ok.hd;have hc:=h.ok.cn;obtain⟨e,d⟩:=K;obtain⟨wd,bs,ww⟩:=e;have hk:=h.ok.kn;have hn:=h.num;unfold Zd1 at hk;simp only at hk hd hc hn
 rcases hk with⟨h1,h2,h3,_⟩|⟨h1,h2,h3,h4⟩
 subst h1 h2;have hcn:(⟨false,bs,[]⟩:ES).cnt=bs.length:=rfl;rw[hcn] at hc hd;have e0:knA ⟨⟨false,bs,[]⟩,d⟩++r=110::((d:Nat):Int)%256::((bs.length:Nat):Int)%256::(Zbe bs++r):=(by unfold knA knB;simp[hcn]);rw[e0];have en:((((bs.length:Nat):Int)%256)).toNat=bs.length:=(by omega);refine⟨?_,?_,?_⟩;unfold QW;rw[if_neg (by simp)];show(⟨false,Zar (Zbe bs++r) ((((bs.length:Nat):Int)%256)).toNat,[]⟩:ES)=_;rw[en,ZoA hn];show((((d:Nat):Int)%256)).toNat=d;omega;unfold rdR;rw[if_neg (by simp)];show(Zbe bs++r).drop (4*((((bs.length:Nat):Int)%256)).toNat)=r;rw[en,ZeY r bs _ (Qa _),List.drop_length];rfl
 subst h1 h2;have hcn:(⟨true,[],ww⟩:ES).cnt=ww.length:=rfl;rw[hcn] at hc hd;have e0:knA ⟨⟨true,[],ww⟩,d⟩++r=119::((d:Nat):Int)%256::((ww.length:Nat):Int)%256::(ZbV ww++r):=by unfold knA ZhS;simp[hcn]
 rw[e0];have en:((((ww.length:Nat):Int)%256)).toNat=ww.length:=by omega
 have h8:∀s∈ww,s.size<256:=fun s hs=>by have:=h4 s hs;omega
 refine⟨?_,?_,?_⟩;unfold QW;rw[if_pos (by simp)];show(⟨true,[],Zam (ZbV ww++r) ((((ww.length:Nat):Int)%256)).toNat⟩:ES)=_;rw[en,Zo9 h8];show((((d:Nat):Int)%256)).toNat=d;omega;unfold rdR;rw[if_pos (by simp)];show restW (ZbV ww++r) ((((ww.length:Nat):Int)%256)).toNat=r;rw[en,Zfh r _ ww h8 (Qa _),List.drop_length];rfl
theorem Znh{Ks:List KS}(h:∀K∈Ks,KRt K)(r:List Int):∀j,j<=Ks.length->fsK (Ks.flatMap knA++r) j=some (Ks.take j,(Ks.drop j).flatMap knA++r)
 |0,_=>by simp[fsK]
 | j +1,hj=>by
  have hlt:j<Ks.length:=(by omega);have hK:=h _ (Qf hlt);simp only[fsK];rw[Znh h r j (by omega)];have e:(Ks.drop j).flatMap knA++r=knA Ks[j]++((Ks.drop (j+1)).flatMap knA++r):=(by rw[List.drop_eq_getElem_cons hlt,List.flatMap_cons,List.append_assoc]);simp only;rw[e];obtain⟨e1,e2,e3⟩:=ZsB hK ((Ks.drop (j+1)).flatMap knA++r)
  rw[e1,e2,e3,if_pos (by
   rw[hK.ok.mb,Bool.true_and];unfold ZaP;rw[decide_eq_true_eq];have:=hK.ok.hd
   omega),Qi hlt]
theorem Ziv(a b:List Int){k:Nat}(h:k<a.length):(a++b).getD k 0=a.getD k 0:=by rw[Qc,Qc,List.getElem?_append_left h]
theorem ZgM(a b:List Int)(k:Nat):(a++b).getD (a.length+k) 0=b.getD k 0:=by rw[Qc,Qc,List.getElem?_append_right (by omega),Nat.add_sub_cancel_left]
theorem Zqt(L:List (Nat×Nat)):∀(m:Nat) (r:List Int) (k:Nat),k<m->(spK L m++r).getD (2*k) 0=((((L.getD k (0,0)).1:Nat):Int)-Ye L k)%256/\(spK L m++r).getD (2*k+1) 0=(((L.getD k (0,0)).2:Nat):Int)%256
 |0,_,_,h=>by omega
 | m+1,r,k,h=>by
  simp only[spK];rw[List.append_assoc]
  rcases Nat.lt_or_ge k m with h1|h1
  exact Zqt L m _ k h1;have e:k=m:=(by omega);subst e;have hl:=Zdq L k;constructor;rw[show 2*k=(spK L k).length+0 by omega,ZgM];rfl;rw[show 2*k+1=(spK L k).length+1 by omega,ZgM];rfl
theorem Zr9{N:List Nat}{n k:Nat}(hk:k<(Yl N n).length):((Yl N n).getD k (0,0)).1<n/\((Yl N n).getD k (0,0)).2=N.getD ((Yl N n).getD k (0,0)).1 0:=by have hm:(Yl N n).getD k (0,0)∈Yl N n:=(by rw[Qc,Qd hk];exact Qf _);have:=(Zco N n _).1 hm;exact⟨this.1,this.2.1⟩
theorem Zjx{N:List Nat}{n j k:Nat}(hjk:j<k)(hk:k<(Yl N n).length):((Yl N n).getD j (0,0)).1<((Yl N n).getD k (0,0)).1:=by
 have:=List.pairwise_iff_getElem.1 (ZeM N n) j k (by omega) hk hjk
 simpa [Qc,Qd hk,Qd (show j<(Yl N n).length by omega)] using this
theorem Zk4{N:List Nat}{n i:Nat}(hi:i<n)(h:N.getD i 0≠0):∃j,j<(Yl N n).length/\((Yl N n).getD j (0,0)).1=i:=by have hm:(i,N.getD i 0)∈Yl N n:=(Zco N n _).2 ⟨hi,rfl,h⟩;obtain⟨j,hj,e⟩:=List.getElem_of_mem hm;exact⟨j,hj,by rw[Qc,Qd hj,Option.getD_some,e]⟩
theorem Zpt(L:List (Nat×Nat))(k:Nat): -1<=Ye L k:=by unfold Ye;split<;>omega
theorem Zpu{N:List Nat}{n k:Nat}(hk:k<(Yl N n).length):Ye (Yl N n) k<(((Yl N n).getD k (0,0)).1:Nat):=by unfold Ye;split;omega;have:=Zjx (N:=N) (n:=n) (j:=k-1) (k:=k) (by omega) hk;omega
theorem ZnD{N:List Nat}{n:Nat}(hn:n<=200)(hN:N.length=n)(hle:∀x∈N,x<=255)(r:List Int):∀k,k<=(Yl N n).length->(spS (List.replicate n 0) (spK (Yl N n) (Yl N n).length++r) k).1=Ye (Yl N n) k/\∀i,i<n->(spS (List.replicate n 0) (spK (Yl N n) (Yl N n).length++r) k).2.getD i 0=if(i:Int)<=Ye (Yl N n) k then((N.getD i 0:Nat):Int) else 0
 |0,_=>by refine⟨rfl,fun i hi=>?_⟩;have ha:Ye (Yl N n) 0= -1:=rfl;rw[ha,if_neg (by omega)];simp only[spS];rw[Qc,List.getElem?_replicate,if_pos hi];rfl
 | k + 1,hk=>by
  obtain⟨i1,i2⟩:=ZnD hn hN hle r k (by omega);obtain⟨b1,b2⟩:=Zqt (Yl N n) (Yl N n).length r k (by omega);obtain⟨p1,p2⟩:=Zr9 (N:=N) (n:=n) (k:=k) (by omega);have hal:=Zpu (N:=N) (n:=n) (k:=k) (by omega);have hag:=Zpt (Yl N n) k;have hA:Ye (Yl N n) (k+1)=((((Yl N n).getD k (0,0)).1:Nat):Int):=by unfold Ye;rw[if_neg (by omega),Nat.add_sub_cancel]
  have hgap:∀i,i<n->Ye (Yl N n) k<(i:Int)->i<((Yl N n).getD k (0,0)).1->N.getD i 0=0:=fun i hi h1 h2=>by
   by_cases hz:N.getD i 0=0
   exact hz;exfalso;obtain⟨j,hj,e⟩:=Zk4 hi hz
   rcases Nat.lt_or_ge j k with h3|h3
   ·unfold Ye at h1;rw[if_neg (by omega)] at h1
    rcases Nat.lt_or_ge j (k-1) with h4|h4
    have:=Zjx (N:=N) (n:=n) h4 (by omega);omega;have e2:j=k-1:=(by omega);rw[e2] at e;omega
   rcases Nat.lt_or_ge k j with h4|h4
   have:=Zjx (N:=N) (n:=n) h4 hj;omega;have e2:j=k:=(by omega);rw[e2] at e;omega
  have hv:N.getD ((Yl N n).getD k (0,0)).1 0<=255:=(by rw[Qc,Qd (by omega)];exact hle _ (Qf _));have hsum:Ye (Yl N n) k+((((Yl N n).getD k (0,0)).1:Nat)-Ye (Yl N n) k)%256=((((Yl N n).getD k (0,0)).1:Nat):Int):=(by omega);simp only[spS];rw[i1,b1,b2,hA,hsum,p2];generalize ((Yl N n).getD k (0,0)).1=p at *;refine⟨rfl,fun i hi=>?_⟩;rw[if_pos ⟨by omega,by rw[List.length_replicate];omega⟩,ZgN _ _ _ _ (by rw[Zdr,List.length_replicate];omega),Int.toNat_natCast]
  by_cases e:p=i
  subst e;rw[if_pos rfl,if_pos (Int.le_refl _)];omega;rw[if_neg e,i2 i hi]
  by_cases h1:(i:Int)<=Ye (Yl N n) k
  rw[if_pos h1,if_pos (by omega)];rw[if_neg h1]
  by_cases h2:i<p
  rw[if_pos (by omega),hgap i hi (by omega) h2];rfl;rw[if_neg (by omega)]
theorem ZgL{a b:List Int}(hl:a.length=b.length)(h:∀i,i<a.length->a.getD i 0=b.getD i 0):a=b:=by
 apply List.ext_getElem hl;intro i h1 h2;have:=h i h1
 simpa [Qc,Qd h1,Qd h2] using this
theorem Zcs(N:List Nat):(ZG N).map Int.toNat=N:=by
 unfold ZG;rw[List.map_map]
 conv=>rhs;rw[<- List.map_id N]
 exact List.map_congr_left fun x _=>rfl
theorem ZoR{N:List Nat}{n:Nat}(hn:n<=200)(hN:N.length=n)(hle:∀x∈N,x<=255)(g:Nat)(r:List Int):Zah (Zhj (Yl N n)++r) n g=ZG N/\rdColR (Zhj (Yl N n)++r) n g=r:=by
 have hl:=Zdp N n;have e:Zhj (Yl N n)++r=115::(((Yl N n).length:Nat):Int)%256::(spK (Yl N n) (Yl N n).length++r):=(by unfold Zhj;simp);have en:(((((Yl N n).length:Nat):Int)%256)).toNat=(Yl N n).length:=(by omega);rw[e];constructor
 ·unfold Zah;rw[if_pos (by rfl)];show(spS (List.replicate n 0) (spK (Yl N n) (Yl N n).length++r) ((((Yl N n).length:Nat):Int)%256).toNat).2=_;rw[en];obtain⟨_,h2⟩:=ZnD hn hN hle r (Yl N n).length (Qa _);refine ZgL (by rw[Zdr,List.length_replicate,ZN,hN]) (fun i hi=>?_);rw[Zdr,List.length_replicate] at hi;rw[h2 i hi,Yu]
  by_cases h1:(i:Int)<=Ye (Yl N n) (Yl N n).length
  rw[if_pos h1];rw[if_neg h1]
  by_cases hz:N.getD i 0=0
  rw[hz];rfl;exfalso;obtain⟨j,hj,e⟩:=Zk4 hi hz;unfold Ye at h1;rw[if_neg (by omega)] at h1
  rcases Nat.lt_or_ge j ((Yl N n).length-1) with h4|h4
  have:=Zjx (N:=N) (n:=n) h4 (by omega);omega;have e2:j=(Yl N n).length-1:=(by omega);rw[e2] at e;omega
 unfold rdColR;rw[if_pos (by rfl)];show(spK (Yl N n) (Yl N n).length++r).drop (2*((((Yl N n).length:Nat):Int)%256).toNat)=r;rw[en];exact List.drop_left' (by rw[Zdq];omega)
theorem Zqj{N:List Nat}{n g:Nat}(hN:N.length=n)(hle:∀x∈N,x<=g)(hg:g<64)(r:List Int):Zah (100::ZK (YG N (Lib.bitLen g)) ((n*Lib.bitLen g+7)/8) (n*Lib.bitLen g)++r) n g=ZG N/\rdColR (100::ZK (YG N (Lib.bitLen g)) ((n*Lib.bitLen g+7)/8) (n*Lib.bitLen g)++r) n g=r:=by
 have hlt:=Zig hg;constructor
 ·unfold Zah;rw[if_neg (by simp)];show dnN (ZK (YG N (Lib.bitLen g)) ((n*Lib.bitLen g+7)/8) (n*Lib.bitLen g)++r) n (Lib.bitLen g)=_;generalize Lib.bitLen g=d at *
  have hbit:∀t,t<n*d->Zdx (ZK (YG N d) ((n*d+7)/8) (n*d)++r) t=YG N d t:=fun t ht=>by unfold Zdx;have h8:t/8<(n*d+7)/8:=(by omega);rw[Ziv _ _ (by rw[QM];exact h8),Zed _ _ h8,Int.toNat_natCast];exact Zii (fun t=>ZbY _ _ t) ht
  unfold dnN;refine ZgL (by simp[ZN,hN]) (fun row h1=>?_)
  have h2:row<n:=by simpa using h1
  rw[Yu,Qc,Qd h1,Option.getD_some,List.getElem_map,List.getElem_range];have hrd:row*d+d<=n*d:=(by rw[<- Nat.succ_mul];exact Nat.mul_le_mul_right _ h2);rw[ZcV (N.getD row 0) (row*d) d (fun i hi=>by rw[hbit _ (by omega)];exact Zem N hi)];have hx:N.getD row 0<=g:=(by rw[Qc,Qd (by omega)];exact hle _ (Qf _));rw[Nat.mod_eq_of_lt (by omega)]
 unfold rdColR;rw[if_neg (by simp)];exact List.drop_left' (QM _ _ _)
theorem Zr7{N:List Nat}{n g:Nat}(hn:n<=200)(hN:N.length=n)(hle:∀x∈N,x<=g)(hg:g<64)(r:List Int):Qw (ZbZ N g++r) n g=N/\rdColR (ZbZ N g++r) n g=r:=by unfold Qw ZbZ;rw[hN];split;obtain⟨h1,h2⟩:=ZoR hn hN (fun x hx=>by have:=hle x hx;omega) g r;rw[h1,h2,Zcs];exact⟨rfl,rfl⟩;obtain⟨h1,h2⟩:=Zqj hN hle hg r;rw[h1,h2,Zcs];exact⟨rfl,rfl⟩
theorem Zpv{N:List Nat}{g:Nat}(hle:∀x∈N,x<=g)(hg:g<64):atN N g=N:=by
 unfold atN;split;rfl
 conv=>rhs;rw[<- List.map_id N]
 refine List.map_congr_left fun x hx=>?_;have h1:=hle x hx;have h2:=Zig hg;exact Nat.mod_eq_of_lt (by omega)
theorem Zrp{fs:List Nat}(hl:fs.length<256)(hf:∀f∈fs,f<256)(r:List Int):lstK ([((fs.length:Nat):Int)%256]++byN fs++r)=ZG fs/\lstR ([((fs.length:Nat):Int)%256]++byN fs++r)=r:=by
 have e:[((fs.length:Nat):Int)%256]++byN fs++r=((fs.length:Nat):Int)%256::(byN fs++r):=(by simp);have en:((((fs.length:Nat):Int)%256)).toNat=fs.length:=(by omega);have hbl:(byN fs).length=fs.length:=(by simp[byN]);rw[e];constructor
 ·show(List.range ((((fs.length:Nat):Int)%256)).toNat).map (fun j=>(byN fs++r).getD j 0)=_;rw[en];refine ZgL (by simp[ZN]) (fun j h1=>?_)
  have h2:j<fs.length:=by simpa using h1
  rw[Yu,Qc,Qd h1,Option.getD_some,List.getElem_map,List.getElem_range,Ziv _ _ (by omega)];have:=hf _ (Qf h2);unfold byN;simp[Qc,Qd h2];omega
 show(byN fs++r).drop ((((fs.length:Nat):Int)%256)).toNat=r;rw[en];exact List.drop_left' hbl
theorem ZiR(Ks:List KS)(a:Nat)(A:List Nat):QO Ks (a::A)=(Ks.getD a ZB).many+QO Ks A:=by unfold QO;simp
theorem Zox(a:Nat)(A:List Nat):ZG (a::A)=(a:Int)::ZG A:=rfl
theorem ZkZ(Ks:List KS)(f b:Nat)(C:List Nat)(hb:b<(Ks.getD f ZB).many):∀A:List Nat,Zai Ks (ZG (A++f::C)) ((QO Ks A+b:Nat):Int)=ZdC (Ks.getD f ZB).e (Ks.getD f ZB).d (b:Nat)
 |[]=>by show Zai Ks ((f:Int)::ZG C) _=_;simp only[Zai,Int.toNat_natCast];rw[show QO Ks []=0 from rfl,Nat.zero_add,if_pos];unfold ZaP;rw[decide_eq_true_eq];unfold KS.many at hb;omega
 | a ::A=>by
  rw[List.cons_append,Zox,ZiR];simp only[Zai,Int.toNat_natCast]
  rw[if_neg (by
   unfold ZaP KS.many;rw[decide_eq_true_eq]
   omega)]
  have e:(((Ks.getD a ZB).many+QO Ks A+b:Nat):Int)-(((Ks.getD a ZB).e.cnt:Nat)+2)=((QO Ks A+b:Nat):Int):=(by unfold KS.many;omega);rw[e];exact ZkZ Ks f b C hb A
section
variable {Ks:List KS} {Os:List (List Bool)} {Bb:List (List Nat)} {n:Nat}
theorem Zj7:∀(fs:List Nat) (s:CS) (r:Nat),r<n->0<s.off->s.N.getD r 0=0->(fs.foldl (Zi Ks Os Bb n) s).N.getD r 0≠0->∃A f C,fs=A++f::C/\(fs.foldl (Zi Ks Os Bb n) s).N.getD r 0=s.off+QO Ks A+(Bb.getD f []).getD r 0/\(Os.getD f []).getD r false=true
 |[],s,r,_,_,h,h1=>absurd h h1
 | f::fs,s,r,hr,h0,h,h1=>by
  simp only[List.foldl_cons] at h1 ⊢;have hg:(Zi Ks Os Bb n s f).N.getD r 0=Zef s.off (Os.getD f []) (Bb.getD f []) s.N r:=ZkO _ _ _ _ hr;have ho:(Zi Ks Os Bb n s f).off=s.off+(Ks.getD f ZB).many:=rfl
  by_cases hO:(Os.getD f []).getD r false=true
  have e:(Zi Ks Os Bb n s f).N.getD r 0=s.off+(Bb.getD f []).getD r 0:=(by rw[hg];unfold Zef;rw[if_pos ⟨hO,h⟩]);refine⟨[],f,fs,rfl,?_,hO⟩;rw[(Ze2 fs (Zi Ks Os Bb n s f) (by rw[ho];omega) r hr).1 (by rw[e];omega),e];rfl;have e:(Zi Ks Os Bb n s f).N.getD r 0=0:=(by rw[hg];unfold Zef;rw[if_neg (fun hc=>hO hc.1)];exact h);obtain⟨A,g,C,rfl,h2,h3⟩:=Zj7 fs (Zi Ks Os Bb n s f) r hr (by rw[ho];omega) e h1;refine⟨f::A,g,C,rfl,?_,h3⟩;rw[h2,ho,ZiR];omega
theorem ZqS{fs:List Nat}(hin:∀f∈fs,∀r,r<n->(Bb.getD f []).getD r 0<(Ks.getD f ZB).many/\((Os.getD f []).getD r false=true->(Bb.getD f []).getD r 0≠(Ks.getD f ZB).d))(hl:(Zb0 Ks Os Bb n fs).length=n):Yk Ks (ZG fs) (Zb0 Ks Os Bb n fs)=true:=by
 unfold Yk;rw[List.all_eq_true];intro x hx;obtain⟨r,hr,rfl⟩:=List.getElem_of_mem hx;have e:(Zb0 Ks Os Bb n fs)[r]=(Zb0 Ks Os Bb n fs).getD r 0:=(by simp[Qc,Qd hr]);rw[e];rw[hl] at hr
 by_cases hz:(Zb0 Ks Os Bb n fs).getD r 0=0
 rw[decide_eq_true hz];rfl;rw[decide_eq_false hz,Bool.false_or];obtain⟨A,f,C,hfs,h2,h3⟩:=Zj7 (Ks:=Ks) (Os:=Os) (Bb:=Bb) (n:=n) fs ⟨List.replicate n 0,[],1⟩ r hr Nat.zero_lt_one (by simp[Qc,hr]) hz;have hf:=hin f (by rw[hfs];simp) r hr;have e2:(((Zb0 Ks Os Bb n fs).getD r 0:Nat):Int)-1=((QO Ks A+(Bb.getD f []).getD r 0:Nat):Int):=(by have h4:(Zb0 Ks Os Bb n fs).getD r 0=1+QO Ks A+(Bb.getD f []).getD r 0:=h2;omega);rw[e2,hfs,ZkZ Ks f _ C hf.1 A];unfold ZdC ZaP;have h5:=hf.1;have h6:=hf.2 h3;unfold KS.many at h5;simp only[Bool.and_eq_true,decide_eq_true_eq,Bool.not_eq_true',decide_eq_false_iff_not];omega
end
theorem ZiQ{f:Nat}:∀(A A' C C':List Nat),(A++f::C).Nodup->A++f::C=A'++f::C'->A=A'
 |[],[],_,_,_,_=>rfl
 |[],a::A',C,C',h,e=>by simp only[List.nil_append,List.cons_append,List.cons.injEq] at e;have:=(List.nodup_cons.1 h).1;rw[e.2] at this;simp at this
 |a::A,[],C,C',h,e=>by simp only[List.nil_append,List.cons_append,List.cons.injEq] at e;have:=(List.nodup_cons.1 h).1;rw[e.1] at this;simp at this
 |a::A,b::A',C,C',h,e=>by simp only[List.cons_append,List.cons.injEq] at e;rw[e.1,ZiQ A A' C C' (List.nodup_cons.1 h).2 e.2]
theorem Zio{f:Nat}:∀(Gs:List GS),(Gs.flatMap (fun G=>G.fs)).Nodup->∀G∈Gs,∀H∈Gs,f∈G.fs->f∈H.fs->G.fs=H.fs/\G.fs.Nodup
 |[],_,G,hG,_,_,_,_=>by simp at hG
 | K ::Gs,h,G,hG,H,hH,hf,hf'=>by
  rw[List.flatMap_cons,List.nodup_append] at h;obtain⟨h1,h2,h3⟩:=h
  rcases List.mem_cons.1 hG with e1|hG2
  ·rcases List.mem_cons.1 hH with e2|hH2
   rw[e1,e2];exact⟨rfl,h1⟩;exact absurd rfl (h3 f (by rw[<- e1];exact hf) f (List.mem_flatMap.2 ⟨H,hH2,hf'⟩))
  rcases List.mem_cons.1 hH with e2|hH2
  exact absurd rfl (h3 f (by rw[<- e2];exact hf') f (List.mem_flatMap.2 ⟨G,hG2,hf⟩));exact Zio Gs h2 G hG2 H hH2 hf hf'
end Go.Proofs.YtfcgnpchbcmdeaaGreat
namespace Go.Proofs.YtfcgnpchbcmdeaaGreat
set_option linter.unusedSimpArgs false
open Go.RowKit Go.Lib Go.Sort
structure BRt(Ks:List KS)(n:Nat)(b:BS):Prop where
 len:b.N.length=n
 le:∀x∈b.N,x<=b.g
 g40:b.g<=40
 f0:0<b.fs.length
 fl:b.fs.length<256
 fk:∀f∈b.fs,f<Ks.length
 sum:b.g=QO Ks b.fs
 col:Yk Ks (ZG b.fs) b.N=true
theorem ZjU{Ks:List KS}{n:Nat}{bs:List BS}(hn:n<=200)(hk:Ks.length<256)(h:∀b∈bs,BRt Ks n b)(r:List Int):∀j,j<=bs.length->∃st,bdK Ks n (bs.flatMap YO++r) j=some (bs.take j,st,(bs.drop j).flatMap YO++r)
 |0,_=>⟨_,rfl⟩
 | j +1,hj=>by
  have hlt:j<bs.length:=(by omega);have hB:=h _ (Qf hlt);obtain⟨st,ih⟩:=ZjU hn hk h r j (by omega);have e:(bs.drop j).flatMap YO++r=[((bs[j].fs.length:Nat):Int)%256]++byN bs[j].fs++(ZbZ bs[j].N bs[j].g++((bs.drop (j+1)).flatMap YO++r)):=(by rw[List.drop_eq_getElem_cons hlt,List.flatMap_cons];unfold YO;simp only[List.append_assoc]);simp only[bdK];rw[ih];simp only;rw[e];obtain⟨e1,e2⟩:=Zrp hB.fl (fun f hf=>by have:=hB.fk f hf;omega) (ZbZ bs[j].N bs[j].g++((bs.drop (j+1)).flatMap YO++r));have hbin:Yg Ks (ZG bs[j].fs)=bs[j].g:=(by rw[Zgq,Zcs,hB.sum]);obtain⟨e3,e4⟩:=Zr7 hn hB.len hB.le (by have:=hB.g40;omega) ((bs.drop (j+1)).flatMap YO++r)
  rw[e1,e2,hbin,e3,e4,Zcs,Zpv hB.le (by have:=hB.g40;omega),if_pos (by
   rw[hB.col,Bool.and_true];unfold Zea;rw[hbin];simp only[Bool.and_eq_true,decide_eq_true_eq,List.all_eq_true];refine⟨fun f hf=>?_,by rw[ZN];exact hB.f0,hB.g40⟩;unfold ZG at hf;obtain⟨g,hg,rfl⟩:=List.mem_map.1 hf;have:=hB.fk g hg
   omega)]
  exact⟨_,by rw[Qi hlt]⟩
def Zi0(X:List XS):Prop:=X.Pairwise fun x y=>x.row<y.row∨x.row=y.row/\x.f<y.f
theorem Zkc{X:List XS}(hs:Zi0 X){j:Nat}(hj:j<X.length):Q6 (X.take j) X[j]=true:=by
 unfold Q6;rw[List.length_take,Nat.min_eq_left (by omega)]
 by_cases h0:j=0
 subst h0;rfl;rw[decide_eq_false h0,Bool.false_or,decide_eq_true_eq];have e:(X.take j).getD (j-1) x0S=X[j-1]:=(by rw[Qc,List.getElem?_take,if_pos (by omega),Qd (by omega)];rfl);rw[e];have h1:=List.pairwise_iff_getElem.1 hs (j-1) j (by omega) hj (by omega);have h2:=ltX X[j-1] X[j];rw[decide_eq_true h1] at h2;unfold ltOf at h2
 simpa using h2
theorem Zr6{x:XS}(h:x.row<256/\x.f<256/\x.bin<256)(r:List Int):rdX (xB x++r)=x/\(xB x++r).drop 3=r:=by refine⟨?_,rfl⟩;obtain⟨a,b,c⟩:=x;simp only at h;show(⟨((a:Int)%256).toNat,((b:Int)%256).toNat,((c:Int)%256).toNat⟩:XS)=_;rw[show((a:Int)%256).toNat=a by omega,show((b:Int)%256).toNat=b by omega,show((c:Int)%256).toNat=c by omega]
theorem ZpO{D:QP}{n:Nat}{X:List XS}(hs:Zi0 X)(hm:∀x∈X,YZ D n x=true)(hb:∀x∈X,x.row<256/\x.f<256/\x.bin<256)(r:List Int):∀j,j<=X.length->exK D n (X.flatMap xB++r) j=some (X.take j,(X.drop j).flatMap xB++r)
 |0,_=>by simp[exK]
 |j+1,hj=>by have hlt:j<X.length:=(by omega);simp only[exK];rw[ZpO hs hm hb r j (by omega)];have e:(X.drop j).flatMap xB++r=xB X[j]++((X.drop (j+1)).flatMap xB++r):=(by rw[List.drop_eq_getElem_cons hlt,List.flatMap_cons,List.append_assoc]);simp only;rw[e];obtain⟨e1,e2⟩:=Zr6 (hb _ (Qf hlt)) ((X.drop (j+1)).flatMap xB++r);rw[e1,e2,if_pos (by rw[Zkc hs hlt,hm _ (Qf hlt)];rfl),Qi hlt]
structure DRt(n:Nat)(D:QP)(X:List XS):Prop where
 n2:n<=200
 k0:0<D.ks.length
 k4:D.ks.length<=4
 b0:0<D.bs.length
 b4:D.bs.length<=4
 ks:∀K∈D.ks,KRt K
 bs:∀b∈D.bs,BRt D.ks n b
 once:(D.bs.flatMap (·.fs)).Perm (List.range D.ks.length)
 xs:Zi0 X
 xe:∀x∈X,YZ ⟨D.ks,D.bs,[]⟩ n x=true
 xl:X.length<=800
theorem ZkS{n:Nat}{D:QP}{X:List XS}(h:DRt n D X):Zcx (Z6 D X)=some (⟨D.ks,D.bs,X⟩,YT (Ze3 (Zag D X)) 4):=by
 have hn0:(D.bs.getD 0 Z0).N.length=n:=(by rw[Qc,Qd h.b0];exact(h.bs _ (Qf _)).len);obtain⟨T,hT⟩:∃T,T=YT (Ze3 (Zag D X)) 4:=⟨_,rfl⟩;have hTB:ByI T:=(by rw[hT];exact Zkv _ _);have h2:=h.n2;have h4:=h.k4;have hk0:=h.k0;have hb4:=h.b4;have hxl:=h.xl;have e:Z6 D X=71::82::(n:Int)%256::(D.ks.length:Int)%256::(D.ks.flatMap knA++((D.bs.length:Int)%256::(D.bs.flatMap YO++(YT (X.length:Nat) 2++(X.flatMap xB++T))))):=by unfold Z6;rw[<- hT];unfold Zag;rw[hn0];simp only[List.append_assoc,List.cons_append,List.nil_append]
 rw[<- hT];have hby:=Zcd D X;rw[e] at hby ⊢;have hR:ByI (D.bs.flatMap YO++(YT (X.length:Nat) 2++(X.flatMap xB++T))):=fun x hx=>hby x (List.mem_cons_of_mem _ (List.mem_cons_of_mem _ (List.mem_cons_of_mem _ (List.mem_cons_of_mem _ (List.mem_append_right _ (List.mem_cons_of_mem _ hx))))));have en:((71::82::(n:Int)%256::(D.ks.length:Int)%256::(D.ks.flatMap knA++((D.bs.length:Int)%256::(D.bs.flatMap YO++(YT (X.length:Nat) 2++(X.flatMap xB++T))))):List Int).getD 2 0).toNat=n:=(by show((n:Int)%256).toNat=n;omega);have ek:((71::82::(n:Int)%256::(D.ks.length:Int)%256::(D.ks.flatMap knA++((D.bs.length:Int)%256::(D.bs.flatMap YO++(YT (X.length:Nat) 2++(X.flatMap xB++T))))):List Int).getD 3 0).toNat=D.ks.length:=by show((D.ks.length:Int)%256).toNat=D.ks.length;omega
 unfold Zcx;rw[en,ek,if_neg (by omega)];have ed:(71::82::(n:Int)%256::(D.ks.length:Int)%256::(D.ks.flatMap knA++((D.bs.length:Int)%256::(D.bs.flatMap YO++(YT (X.length:Nat) 2++(X.flatMap xB++T))))):List Int).drop 4=D.ks.flatMap knA++((D.bs.length:Int)%256::(D.bs.flatMap YO++(YT (X.length:Nat) 2++(X.flatMap xB++T)))):=rfl;rw[ed,Znh h.ks _ D.ks.length (Qa _),List.take_length,List.drop_length];simp only[List.flatMap_nil,List.nil_append,List.tail_cons,List.headD_cons];rw[show((D.bs.length:Int)%256).toNat=D.bs.length by omega];obtain⟨st,hst⟩:=ZjU h.n2 (by omega) h.bs (YT (X.length:Nat) 2++(X.flatMap xB++T)) D.bs.length (Qa _);rw[hst];rw[List.take_length,List.drop_length] at hst ⊢;simp only[List.flatMap_nil,List.nil_append] at hst ⊢
 obtain⟨_,hsl,_,hoc,_⟩:=Zi4 hR _ _ _ _ hst
 have hone:Ys st=true:=by
  unfold Ys;rw[List.all_eq_true];intro z hz;obtain⟨f,hf,rfl⟩:=List.getElem_of_mem hz;have h1:=hoc f;rw[h.once.count_eq f,List.nodup_range.count,if_pos (List.mem_range.2 (by omega)),Qc,Qd hf] at h1
  simpa using h1
 rw[if_pos hone];obtain⟨e5,e6⟩:=Zs7 (n:=X.length) (by omega) (X.flatMap xB++T);rw[e5,e6,ZpO h.xs h.xe (fun x hx=>?_) T X.length (Qa _),List.take_length,List.drop_length];rfl;have h1:=Zdk (h.xe x hx);simp only at h1;have h3:=(h.ks (D.ks.getD x.f ZB) (by rw[Qc,Qd h1.2.1];exact Qf _)).ok.cn;omega
theorem ZoD{n:Nat}{D:QP}{X:List XS}(h:DRt n D X):opD (Z6 D X)=some ⟨D.ks,D.bs,X⟩:=by unfold opD;rw[ZkS h];exact if_pos rfl
end Go.Proofs.YtfcgnpchbcmdeaaGreat
namespace Go.Proofs.YtfcgnpchbcmdeaaGreat
set_option linter.unusedSimpArgs false
open Go.RowKit
theorem ZfI{S:Int->Prop}{size:Int}(hs:2<=size)(hs2:size<=32):∀{Ls:List (List Zt)} {l:List Zt},Qs Ls->ZE l->l.length<=32->ZM Ls+Zd l<=1000000000000->(∀L∈Ls,∀e∈L,S e.v)->(∀e∈l,S e.v)->∀L∈ZC size Ls l,∀e∈L,S e.v
 |[],l,_,_,_,_,_,hv=>by simpa [ZC] using hv
 | o ::r,l,h,g,hl,ht,hL,hv=>by
  have go:=h.good o (by simp);have hr:Qs r:=⟨fun x hx=>h.good x (by simp[hx]),fun x hx=>h.len x (by simp[hx])⟩;have p1:=Qj hr.good;have p2:=(Y0 go).1;have p3:=(Y0 g).1;simp only[ZM] at ht;simp only[ZC];split
  ·intro L hx
   rcases List.mem_cons.1 hx with rfl|hx
   exact hv;exact hL L (by simp[hx])
  have gj:=Zay go g (by omega);have gc:ZE (YV (ZA o l) size):=gj.sub (ZaI gj size);have tc:Zd (YV (ZA o l) size)=Zd o+Zd l:=(by rw[Za7,ZaD]);have lc:=Zb2 (ZA o l) hs
  have ih:=ZfI (S:=S) hs hs2 hr gc (by omega) (by omega) (fun L hx=>hL L (by simp[hx])) (fun e he=>by
   rcases ZgR go g e ((ZaI gj size).subset he) with⟨x,hx,e1⟩|⟨x,hx,e1⟩
   rw[<- e1];exact hL o (by simp) x hx
   rw[<- e1];exact hv x hx)
  intro L hx
  rcases List.mem_cons.1 hx with rfl|hx
  simp;exact ih L hx
theorem Zo1{S:Int->Prop}{vs ws:List Int}(h:∀v∈vs,S v/\ -1000000000<=v/\v<=1000000000):∀e∈ZcF vs ws,S e.v:=fun e he=>by have hs:=ZeO (Zn vs ws);obtain⟨p,hp,h1,_⟩:=(Zdn (ZdU (Zn vs ws)) 0).1 e he;obtain⟨q,hq,e2⟩:=hs.sub p hp;unfold Zn at hq;obtain⟨z,hz,rfl⟩:=List.mem_map.1 hq;have hz1:z.1∈vs:=(List.of_mem_zip (a:=z.1) (b:=z.2) hz).1;obtain⟨a,b,c⟩:=h z.1 hz1;rw[<- h1,<- e2];show S (Zbf z.1);unfold Zbf;rw[if_neg (by omega),if_neg (by omega)];exact a
theorem Zen{S:Int->Prop}{size:Nat}(hs:2<=size)(hs2:size<=32):∀(f:Nat) (Ls:List (List Zt)) (vs ws:List Int),Qs Ls->ZM Ls+1000*(vs.length:Int)<=1000000000000->vs.length<=2097152->(∀L∈Ls,∀e∈L,S e.v)->(∀v∈vs,S v/\ -1000000000<=v/\v<=1000000000)->∀L∈YN size f Ls vs ws,∀e∈L,S e.v
 |0,Ls,vs,ws,_,_,_,hL,_=>by simp only[YN];exact hL
 |f+1,Ls,vs,ws,h,ht,hl,hL,hv=>by simp only[YN];split;exact hL;have h1:=Zjy (vs:=vs.take size) (ws:=ws.take size) (by simp;omega);have hp:=Qj h.good;have hlen:(vs.take size).length+(vs.drop size).length=vs.length:=(by simp;omega);have hlt:(vs.take size).length<=size:=(by simp;omega);obtain⟨t1,t2⟩:=Zds (size:=(size:Int)) (by omega) (by omega) h h1.1 (by omega) (by omega);refine Zen hs hs2 f _ (vs.drop size) (ws.drop size) t1 (by omega) (by omega) ?_ (fun v hv2=>hv v (List.mem_of_mem_drop hv2));exact ZfI (by omega) (by omega) h h1.1 (by omega) (by omega) hL (Zo1 (fun v hv2=>hv v (List.mem_of_mem_take hv2)))
theorem Zet{S:Int->Prop}{size:Int}(hs:2<=size)(hs2:size<=32):∀(Ls:List (List Zt)) (al:List Zt),Qs Ls->ZE al->al.length<=32->Zd al+ZM Ls<=1000000000000->(∀L∈Ls,∀e∈L,S e.v)->(∀e∈al,S e.v)->∀e∈Y9 size al Ls,S e.v
 |[],al,_,_,_,_,_,hv=>hv
 | l ::r,al,h,g,hl,ht,hL,hv=>by
  have gl:=h.good l (by simp);have hr:Qs r:=⟨fun x hx=>h.good x (by simp[hx]),fun x hx=>h.len x (by simp[hx])⟩;have p1:=Qj hr.good;simp only[ZM] at ht;have gj:=Zay g gl (by omega);have lc:=Zb2 (ZA al l) hs;have tc:Zd (YV (ZA al l) size)=Zd al+Zd l:=(by rw[Za7,ZaD]);simp only[Y9]
  exact Zet hs hs2 r _ hr (gj.sub (ZaI gj size)) (by omega) (by omega) (fun L hx=>hL L (by simp[hx])) (fun e he=>by
   rcases ZgR g gl e ((ZaI gj size).subset he) with⟨x,hx,e1⟩|⟨x,hx,e1⟩
   rw[<- e1];exact hv x hx
   rw[<- e1];exact hL l (by simp) x hx)
theorem ZhQ{S:Int->Prop}{size:Nat}(hs:2<=size)(hs2:size<=32)(vs ws:List Int)(hl:vs.length<=2097152)(hv:∀v∈vs,S v/\ -1000000000<=v/\v<=1000000000):∀e∈Yt size vs ws,S e.v:=by obtain⟨h1,h2⟩:=Zd3 hs hs2 vs.length [] vs ws Qs.nil (by simp[ZM];omega) hl;exact Zet (by omega) (by omega) _ [] h1 ZE.nil (by simp) (by simp[Zd,ZM] at h2 ⊢;omega) (Zen hs hs2 _ _ _ _ Qs.nil (by simp[ZM];omega) hl (by simp) hv) (by simp)
theorem Zfc:∀(L:List VS) (ws:List Int) (x:Int×Int),x∈ZJ L ws->∃v∈L,v.miss=false/\v.num=x.1
 |[],_,x,h=>by simp[ZJ] at h
 |_::_,[],x,h=>by simp[ZJ] at h
 | v::L,z::ws,x,h=>by
  simp only[ZJ] at h;split at h;obtain⟨u,hu,h1⟩:=Zfc L ws x h;exact⟨u,by simp[hu],h1⟩;rename_i hm
  rcases List.mem_cons.1 h with rfl|h
  exact⟨v,by simp,by simpa using hm,rfl⟩;obtain⟨u,hu,h1⟩:=Zfc L ws x h;exact⟨u,by simp[hu],h1⟩
theorem ZfB{L:List VS}{ws:List Int}{bins:Int}{size:Nat}(hL:L.length<=200)(hs:2<=size)(hs2:size<=32)(hr:∀v∈L,-1000000000<=v.num/\v.num<=1000000000):∀x∈Yr L ws bins size,∃v∈L,v.miss=false/\v.num=x:=fun x hx=>by have hl:((ZJ L ws).map Prod.fst).length<=2097152:=(by have:=Zb6 L ws;simp;omega);unfold Yr at hx;have h1:=(Zfq _ bins).subset hx;obtain⟨e,he,rfl⟩:=List.mem_map.1 h1;refine ZhQ (S:=fun y=>∃v∈L,v.miss=false/\v.num=y) hs hs2 _ _ hl (fun v hv=>?_) e (List.mem_of_mem_take he);obtain⟨p,hp,rfl⟩:=List.mem_map.1 hv;obtain⟨u,hu,h2,h3⟩:=Zfc L ws p hp;have:=hr u hu;exact⟨⟨u,hu,h2,h3⟩,by omega,by omega⟩
theorem Zkx{L:List VS}{ws:List Int}{ct bins:Int}:∀x∈(lwF L ws ct bins).ww,∃v∈L,v.miss=false/\v.word=x:=fun x hx=>by
 unfold lwF at hx;simp only at hx;obtain⟨y,hy,rfl⟩:=List.mem_map.1 hx;have h1:=(List.mem_mergeSort).1 (List.mem_of_mem_take hy);have h2:=((Zec _ _ _).1 h1).1;unfold ZdH at h2;obtain⟨p,hp,h3⟩:=List.any_eq_true.1 h2;unfold Zey at h3;simp only[Bool.and_eq_true,Bool.not_eq_true',decide_eq_true_eq] at h3;refine⟨p.1,(List.of_mem_zip (a:=p.1) (b:=p.2) hp).1,h3.1,?_⟩;have h4:=h3.2
 cases hw:p.1.word with
 | mk d=>
  cases hy2:y.wd with
  | mk d2=>
   rw[hw,hy2] at h4;simp only at h4;rw[Array.toList_inj.1 h4]
theorem Zks{wd:Bool}{ct bins:Int}{size d:Nat}{L:List VS}{ws:List Int}(hL:L.length<=200)(hs:2<=size)(hs2:size<=32)(hb:2<=bins)(hb2:bins<=16)(hr:∀v∈L,(-1000000000<=v.num/\v.num<=1000000000)/\v.word.size<=8):Zd1 ⟨ZQ lwF wd ct bins size L ws,d⟩:=by
 cases wd
 left;have e:ZQ lwF false ct bins size L ws=⟨false,Yr L ws bins size,[]⟩:=(by simp[ZQ]);rw[e];refine⟨rfl,rfl,?_,fun x hx=>?_⟩;have:=(Zfb L ws hL hs hs2 hb).2;show(Yr L ws bins size).length<=1000;omega;obtain⟨v,hv,_,rfl⟩:=ZfB hL hs hs2 (fun v hv=>(hr v hv).1) x hx;have:=(hr v hv).1;omega;right;have e:ZQ lwF true ct bins size L ws=lwF L ws ct bins:=(by simp[ZQ]);rw[e];refine⟨rfl,rfl,?_,fun x hx=>?_⟩;show(List.map _ (List.take bins.toNat _)).length<=1000;rw[List.length_map,List.length_take];omega;obtain⟨v,hv,_,rfl⟩:=Zkx x hx;exact(hr v hv).2
def ZlL(L:List VS)(ws:List Int)(ct:Int):List WS:=(Zax (L.zip ws) ct).mergeSort fun x y=>decide (leW x y)
theorem Zr1(L:List VS)(ws:List Int)(ct bins:Int):(lwF L ws ct bins).ww=((ZlL L ws ct).take bins.toNat).map WS.wd:=rfl
theorem Zkb(L:List VS)(ws:List Int)(ct:Int):(ZlL L ws ct).Pairwise leW:=by
 have h:=List.pairwise_mergeSort (le:=fun x y=>decide (leW x y)) (fun a b c h1 h2=>decide_eq_true (ZiA (of_decide_eq_true h1) (of_decide_eq_true h2))) (fun a b=>by
  rcases Ziz a b with h|h
  rw[decide_eq_true h];rfl
  rw[decide_eq_true h,Bool.or_true]) (Zax (L.zip ws) ct)
 exact h.imp (fun h=>of_decide_eq_true h)
theorem ZkA(L:List VS)(ws:List Int)(ct:Int)(x:WS):x∈ZlL L ws ct↔ZdH (L.zip ws) x.wd.data.toList=true/\x.wt=QT (L.zip ws) x.wd.data.toList/\ct<=x.wt:=by unfold ZlL;rw[List.mem_mergeSort];exact Zec _ _ x
theorem ZlM(L:List VS)(ws:List Int)(ct:Int):(ZlL L ws ct).Nodup:=((List.mergeSort_perm _ _).nodup_iff).2 (Zex _ _)
def Zlp(ps:List (VS×Int))(x y:ByteArray):Prop:=QT ps y.data.toList<QT ps x.data.toList∨QT ps y.data.toList=QT ps x.data.toList/\Zbj x y
theorem Zoq(L:List VS)(ws:List Int)(ct bins:Int):(lwF L ws ct bins).ww.Pairwise (Zlp (L.zip ws)):=by
 rw[Zr1];have h:(ZlL L ws ct).Pairwise (fun x y=>leW x y/\x≠y):=(Zkb L ws ct).and (ZlM L ws ct)
 have h2:((ZlL L ws ct).take bins.toNat).Pairwise (fun x y=>Zlp (L.zip ws) x.wd y.wd):=by
  refine List.Pairwise.imp_of_mem ?_ (h.sublist (List.take_sublist _ _));intro x y hx hy hxy;obtain⟨_,x2,_⟩:=(ZkA L ws ct x).1 (List.mem_of_mem_take hx);obtain⟨_,y2,_⟩:=(ZkA L ws ct y).1 (List.mem_of_mem_take hy);obtain⟨h1,h2⟩:=hxy;unfold leW at h1;unfold Zlp;rw[<- x2,<- y2]
  by_cases e:y.wt=x.wt
  ·refine .inr ⟨e,?_⟩;apply Classical.byContradiction;intro hn;apply h2;have hwd:x.wd=y.wd:=ZlP hn (fun h3=>h1 (.inr ⟨e,h3⟩))
   cases x;cases y
   simp only at e hwd;rw[e,hwd]
  left;have:¬x.wt<y.wt:=fun h3=>h1 (.inl h3);omega
 exact List.Pairwise.map _ (fun a b h=>h) h2
theorem Zop(L:List VS)(ws:List Int)(ct bins:Int):(lwF L ws ct bins).ww.Nodup:=by
 refine(Zoq L ws ct bins).imp (fun {a b} h=>?_);rintro rfl
 rcases h with h|⟨_,h⟩
 omega;exact ZhY _ h
def esD(m:Nat)(wd:Nat->Bool)(ct:Nat->Int)(bins:Int)(size:Nat)(s:RS):List ES:=(List.range (m+1)).map (fun i=>ZQ lwF (wd i) (ct i) bins size (s.cols i) s.ws)
def bbD(m:Nat)(wd:Nat->Bool)(ct:Nat->Int)(bins:Int)(size:Nat)(s:RS):List (List Nat):=(List.range (m+1)).map (fun i=>(s.cols i).map (YJ (ZQ lwF (wd i) (ct i) bins size (s.cols i) s.ws)))
def ZhL(m:Nat)(wd:Nat->Bool)(ct:Nat->Int)(bins:Int)(size budget:Nat)(s:RS):QP:=YD m s.ws.length budget (esD m wd ct bins size s) (bbD m wd ct bins size s)
section
variable {m:Nat} {wd:Nat->Bool} {sc ct:Nat->Int} {bins:Int} {size budget:Nat} {l:List Int} {s:RS}
theorem Zer{i:Nat}(hi:i<m+1):(esD m wd ct bins size s).getD i e0S=ZQ lwF (wd i) (ct i) bins size (s.cols i) s.ws:=by simp[esD,Qc,hi]
theorem Zm1{i:Nat}(hi:i<m+1):(bbD m wd ct bins size s).getD i []=(s.cols i).map (YJ (ZQ lwF (wd i) (ct i) bins size (s.cols i) s.ws)):=by simp[bbD,Qc,hi]
structure ZjS(m:Nat)(s:RS):Prop where
 inv:Q4 (m+1) s
 val:Zek (m+1) s
theorem Ztd(hsc:∀i,i<m+1->wd i=false->0<=sc i/\sc i<=3)(h:Zk (m+1) wd sc RS.start l 0=.ok s):ZjS m s:=
 ⟨Q4.takes (by omega) hsc l (Q4.start (show 1<=m+1 by omega)) h,Zek.takes (by omega) hsc l (Zek.start (m+1)) (Q4.start (show 1<=m+1 by omega)) h⟩
theorem ZjS.binok(h:ZjS m s)(hc:ZaZ lwF m wd ct bins size s):Zid m s.ws.length (esD m wd ct bins size s) (bbD m wd ct bins size s):=by refine⟨by simp[esD],fun i hi=>?_,fun i hi=>?_,fun i hi=>?_,fun i hi b hb=>?_⟩;rw[Zm1 hi,List.length_map];exact h.inv.col i hi;rw[Zer hi];exact(hc.ok i hi).1;rw[Zer hi];exact(hc.ok i hi).2.2;rw[Zm1 hi] at hb;rw[Zer hi];obtain⟨v,_,rfl⟩:=List.mem_map.1 hb;exact Zm2 _ _
theorem ZjS.kn(h:ZjS m s)(hs:2<=size)(hs2:size<=32)(hb:2<=bins)(hb2:bins<=16):∀K∈(ZhL m wd ct bins size budget s).ks,Zd1 K:=by intro K hK;rw[show(ZhL m wd ct bins size budget s).ks=Qn (esD m wd ct bins size s) (bbD m wd ct bins size s) (m+1) from ZcI _ _ _ _ _] at hK;unfold Qn at hK;obtain⟨i,hi,rfl⟩:=List.mem_map.1 hK;have hi:=List.mem_range.1 hi;unfold kF;rw[Zer hi];exact Zks (by rw[h.inv.col i hi];exact h.inv.ws) hs hs2 hb hb2 (h.val.col i hi)
end
def ZsZ(m:Nat)(wd:Nat->Bool)(ct:Nat->Int)(bins:Int)(size budget len:Nat)(o:Except (Int×Nat) RS)(e:Ending)(w':World):Prop:=
 match o with
 |.error (z,p)=>e=.returned (.tuple #[.pointer none,.int .i64 z,.int .i64 (p:Nat)])
 |.ok s=>(s.wt≠0/\e=.returned (.tuple #[.pointer none,.int .i64 2,.int .i64 (len:Nat)]))∨
   (s.wt=0/\∃gb db,e=.returned (.tuple #[.pointer (some ⟨gb,0,none⟩),.int .i64 0,.int .i64 0])/\Zba w' gb db (ZhL m wd ct bins size budget s))
theorem ZqW(b:ByteArray)(fk m fc cn cc:Nat)(ca:Option Addr)(cz:List Int)(bins:Int)(size budget:Nat)(wd:Nat->Bool)(sc ct:Nat->Int)(w:World)(hF:Qr w fk 0 (m+1) wd sc ct)(hc:ZcP (m+1) bins size budget wd sc ct=true)(hcut:ZT w ca cn cz)(hcn:cn<=9223372036854775807)(hb:b.size<=200000000000000):Calls Tryz.prog 25 #[.agg #[.slice (some ⟨fk,0,none⟩) (m+1) fc,.int .i64 bins,.int .i64 (size:Nat),.int .i64 (budget:Nat)],.string b,.slice ca cn cc] w fun e w'=>ZsZ m wd ct bins size budget b.size (Zk (m+1) wd sc RS.start (Zb b) 0) e w'/\Below w.heap.size w w':=by
 obtain⟨h1,h4,c1,c2,c3,c4,c5,c6,hfe⟩:=Zav hc
 have hsc:∀i,i<m+1->wd i=false->0<=sc i/\sc i<=3:=fun i hi hw=>by have:=hfe i hi;unfold ZaJ at this;rw[hw] at this;simp at this;omega
 exact Zfy lwF b fk 0 m fc cn cc ca cz bins size budget wd sc ct w hF hc hcut hcn hb (fun s hs _=>Zfr hsc (by omega) (by omega) (by omega) (by omega) hs)
end Go.Proofs.YtfcgnpchbcmdeaaGreat
namespace Go.Proofs.YtfcgnpchbcmdeaaGreat
set_option linter.unusedSimpArgs false
open Go.RowKit Go.Lib Go.Sort
def ZcE(l:List Int):Prop:=∀c∈l,QS c=true
def Zpo(v:VS):Prop:=ZcE (Zb v.word)
theorem Zqr{c:Int}(h:QS c=true):0<=c/\c<=255:=by unfold QS Q2 at h;simp only[Bool.or_eq_true,Bool.and_eq_true,decide_eq_true_eq] at h;omega
theorem ZcE.val{bs:List Int}(h:ZcE bs)(p:Zy):Zpo (Y1 p bs):=by show ZcE (Zb (strOfNums bs));rw[Zce (fun c hc=>Zqr (h c hc))];exact h
theorem ZcE.more{bs:List Int}{c:Int}(h:ZcE bs)(hc:QS c=true):ZcE (bs++[c]):=fun x hx=>by
 rcases List.mem_append.1 hx with h1|h1
 exact h x h1;rw[List.mem_singleton.1 h1];exact hc
theorem Zg0{bs:List Int}{c:Int}{q:Int×List Int}(h:ZcE bs)(e:Qv bs c=some q):ZcE q.2:=by
 unfold Qv at e;split at e;rename_i hc;injection e with e;rw[<- e];exact h.more (by unfold QS;rw[hc.1];rfl)
 cases e
theorem ZqC{st:Int}{bs:List Int}{c:Int}{q:Int×List Int}(h:ZcE bs)(e:ZY st bs c=some q):ZcE q.2:=by
 unfold ZY at e;split at e
 ·by_cases hc:c=34
  rw[if_pos hc] at e;injection e with e;rw[<- e];exact h;rw[if_neg hc] at e;exact Zg0 h e
 split at e;exact Zg0 h e;split at e
 ·by_cases hc:c=34
  rw[if_pos hc] at e;injection e with e;rw[<- e];exact h;rw[if_neg hc] at e;have e:Zc2 st bs c=some q:=e;unfold Zc2 at e;split at e;rename_i hs;injection e with e;rw[<- e];exact h.more hs.1
  cases e
 unfold ZaF at e;split at e;rename_i hs;injection e with e;rw[<- e];exact h.more (by rw[hs.1];rfl)
 cases e
theorem Zn6{wd:Bool}{u:Int}{p:Zy}{bs:List Int}{c:Int}{q:Zy×List Int}(h:ZcE bs)(e:ZW wd u p bs c=some q):ZcE q.2:=by unfold ZW at e;split at e;obtain⟨r,hr,e⟩:=Option.map_eq_some_iff.1 e;rw[<- e];exact ZqC h hr;obtain⟨r,hr,e⟩:=Option.map_eq_some_iff.1 e;rw[<- e];exact h
structure ZeW(n:Nat)(s:RS):Prop where
 bs:ZcE s.bs
 row:∀v∈s.row,Zpo v
 col:∀i,i<n->∀v∈s.cols i,Zpo v
theorem ZeW.start(n:Nat):ZeW n RS.start:=⟨by simp[RS.start,ZcE],by simp[RS.start],by simp[RS.start]⟩
theorem ZeW.take{n:Nat}{wd:Nat->Bool}{sc:Nat->Int}{s s':RS}{c:Int}(h:ZeW n s)(ht:Yv n wd sc s c=.ok s'):ZeW n s':=by
 unfold Yv at ht;split at ht
 ·cases ht
 split at ht
 ·split at ht
  ·cases ht
  injection ht with ht;subst ht;exact⟨h.bs,h.row,h.col⟩;injection ht with ht;subst ht;exact⟨h.bs,h.row,h.col⟩
 split at ht;rename_i hf;injection ht with ht;subst ht;exact⟨Zn6 h.bs hf,h.row,h.col⟩;split at ht
 ·injection ht with ht;subst ht
  have hrow:∀v∈s.row++[Y1 s.p s.bs],Zpo v:=fun v hv=>by
   rcases List.mem_append.1 hv with e|e
   exact h.row v e;simp only[List.mem_singleton] at e;rw[e];exact h.bs.val _
  unfold Qq;split
  ·refine⟨by simp[ZcE],by simp,fun i hi v hv=>?_⟩;simp only[hi,if_true] at hv
   rcases List.mem_append.1 hv with e|e
   exact h.col i hi v e;simp only[List.mem_singleton] at e;rw[e];rename_i hl;have hil:i<(s.row++[Y1 s.p s.bs]).length:=(by rw[hl];exact hi);rw[Qc,Qd hil];exact hrow _ (Qf _)
  exact⟨by simp[ZcE],hrow,h.col⟩
 cases ht
theorem ZeW.takes{n:Nat}{wd:Nat->Bool}{sc:Nat->Int}:∀(l:List Int) {s s':RS} {k:Nat},ZeW n s->Zk n wd sc s l k=.ok s'->ZeW n s'
 |[],s,s',k,h,e=>by injection e with e;subst e;exact h
 | c::l,s,s',k,h,e=>by
  simp only[Zk] at e
  cases ht:Yv n wd sc s c with
  |error z=>rw[ht] at e;cases e
  |ok s1=>rw[ht] at e;exact ZeW.takes l (h.take ht) e
theorem Zrs{zs:List Int}(h:zs.Pairwise (· < ·)):Zc0 zs=true:=by unfold Zc0 Zb7;rw[List.all_eq_true];intro j hj;have hj:=List.mem_range.1 hj;rw[decide_eq_true_eq,Qc,Qc,Qd (show j<zs.length by omega),Qd (show j+1<zs.length by omega)];exact List.pairwise_iff_getElem.1 h j (j+1) (by omega) (by omega) (by omega)
theorem ZqE{ws:List ByteArray}(h:∀s∈ws,ZcE (Zb s)/\s.size<=8)(hn:ws.Nodup):Yf ws=true:=by unfold Yf Zak;rw[List.all_eq_true];intro j hj;have hj:=List.mem_range.1 hj;rw[Qc,Qd hj,Option.getD_some];have h1:=h _ (Qf hj);rw[Bool.and_eq_true];constructor;unfold Q1;rw[Bool.and_eq_true,List.all_eq_true,decide_eq_true_eq];exact⟨h1.1,h1.2⟩;rw[Bool.not_eq_true',<- Bool.not_eq_true,containsS_iff];intro hm;obtain⟨i,hi,e⟩:=List.getElem_of_mem hm;rw[List.length_take] at hi;rw[List.getElem_take] at e;exact List.pairwise_iff_getElem.1 hn i j (by omega) hj (by omega) e
theorem Zol{wd:Bool}{ct bins:Int}{size d:Nat}{L:List VS}{ws:List Int}(hL:L.length<=200)(hs:2<=size)(hs2:size<=32)(hb:2<=bins)(hb2:bins<=16)(hr:∀v∈L,(-1000000000<=v.num/\v.num<=1000000000)/\v.word.size<=8)(hg:∀v∈L,Zpo v)(hd:d<(ZQ lwF wd ct bins size L ws).cnt+2):KRt ⟨ZQ lwF wd ct bins size L ws,d⟩:=by
 have hkn:=Zks (wd:=wd) (ct:=ct) (d:=d) (ws:=ws) hL hs hs2 hb hb2 hr
 cases wd
 have e:ZQ lwF false ct bins size L ws=⟨false,Yr L ws bins size,[]⟩:=(by simp[ZQ]);rw[e] at hkn hd ⊢;obtain⟨h1,h2⟩:=Zfb L ws hL hs hs2 hb;have hc:(⟨false,Yr L ws bins size,[]⟩:ES).cnt=(Yr L ws bins size).length:=rfl;refine⟨⟨hkn,?_,?_,hd⟩,fun z hz=>?_⟩;show(⟨false,Yr L ws bins size,[]⟩:ES).cnt<=16;omega;show Zeb ⟨false,Yr L ws bins size,[]⟩=true;unfold Zeb;rw[hc,decide_eq_true (show(Yr L ws bins size).length<=16 by omega),Zrs h1];rfl;obtain⟨v,hv,_,rfl⟩:=ZfB hL hs hs2 (fun v hv=>(hr v hv).1) z hz;have:=(hr v hv).1;omega
 have e:ZQ lwF true ct bins size L ws=lwF L ws ct bins:=(by simp[ZQ]);rw[e] at hkn hd ⊢;have hf:=Zkw.fine L ws ct bins hL hb hb2;refine⟨⟨hkn,hf.2.2,?_,hd⟩,fun z hz=>?_⟩;show Zeb (lwF L ws ct bins)=true;unfold Zeb;rw[decide_eq_true hf.2.2,ZqE (fun s hs=>?_) (Zop L ws ct bins)];rfl;obtain⟨v,hv,_,rfl⟩:=Zkx s hs;exact⟨hg v hv,(hr v hv).2⟩;have hz:z∈([]:List Int):=hz;simp at hz
theorem Zot{m n budget:Nat}{es:List ES}{Bb:List (List Nat)}(hm:m+1<=4)(hn:n<=200)(hk:Zid m n es Bb)(hK:∀K∈(YD m n budget es Bb).ks,KRt K){X:List XS}(hX:X.Perm (YD m n budget es Bb).xs)(hs:ZaE X):DRt n (YD m n budget es Bb) X:=by
 have hd:=Zky (budget:=budget) hm hn hk;have hks:(YD m n budget es Bb).ks=Qn es Bb (m+1):=ZcI _ _ _ _ _;have hkl:(Qn es Bb (m+1)).length=m+1:=Qu es Bb (m+1)
 have hbin:∀g,g<m+1->∀r,(Bb.getD g []).getD r 0<((Qn es Bb (m+1)).getD g ZB).many:=fun g hg r=>by
  rw[Zae es Bb hg];show _<(es.getD g e0S).cnt+2;rw[Qc]
  rcases Nat.lt_or_ge r (Bb.getD g []).length with h1|h1
  rw[Qd h1];exact hk.bin g hg _ (Qf h1);rw[List.getElem?_eq_none h1];simp
 have hmem:∀x,x∈(YD m n budget es Bb).xs↔_:=fun x=>Zkz (Ks:=Qn es Bb (m+1)) (Os:=osF es Bb (m+1)) (Bb:=Bb) (n:=n) (Za2 m (Qn es Bb (m+1)) (osF es Bb (m+1)) n budget) ⟨Qn es Bb (m+1),[],[]⟩ x rfl;have hN:∀b∈(YD m n budget es Bb).bs,b.N=Zb0 (Qn es Bb (m+1)) (osF es Bb (m+1)) Bb n b.fs:=Zps (Za2 m (Qn es Bb (m+1)) (osF es Bb (m+1)) n budget) ⟨Qn es Bb (m+1),[],[]⟩ rfl (by simp);have hall:=ZgX m (Qn es Bb (m+1)) (osF es Bb (m+1)) n budget;have hnd:=ZgY m (Qn es Bb (m+1)) (osF es Bb (m+1)) n budget
 have hbf:(YD m n budget es Bb).bs.map (fun b=>b.fs)=(Za2 m (Qn es Bb (m+1)) (osF es Bb (m+1)) n budget).map (fun G=>G.fs):=by have h1:=(Zi2 (Os:=osF es Bb (m+1)) (Bb:=Bb) (n:=n) (Ks:=Qn es Bb (m+1)) (Za2 m (Qn es Bb (m+1)) (osF es Bb (m+1)) n budget) ⟨Qn es Bb (m+1),[],[]⟩ rfl (fun G hG g hg=>hbin g (List.mem_range.1 (hall.mem_iff.1 (List.mem_flatMap.2 ⟨G,hG,hg⟩)))) (by simp)).2;rw[show(YD m n budget es Bb).bs=_ from rfl];exact h1
 have hO:∀f,f<m+1->∀row,row<n->((osF es Bb (m+1)).getD f []).getD row false=decide ((Bb.getD f []).getD row 0≠((Qn es Bb (m+1)).getD f ZB).d):=fun f hf row hr=>by rw[ZeE es Bb hf,Zae es Bb hf];have hl:row<(Bb.getD f []).length:=(by rw[hk.lb f hf];exact hr);unfold oF Zcq;rw[Qc,List.getElem?_map,Qd hl,Qc (l:=Bb.getD f []),Qd hl];rfl
 have hkey:=hd.keys;have hxl:=hd.xl;generalize YD m n budget es Bb=D at *;generalize Za2 m (Qn es Bb (m+1)) (osF es Bb (m+1)) n budget=Gs at *
 have hfk:∀b∈D.bs,∀f∈b.fs,f<m+1:=fun b hb f hf=>by have:=hd.fk b hb f hf;rw[hks,hkl] at this;exact this
 have hGb:∀b∈D.bs,∃G∈Gs,G.fs=b.fs:=fun b hb=>by have:b.fs∈D.bs.map (fun b=>b.fs):=List.mem_map.2 ⟨b,hb,rfl⟩;rw[hbf] at this;obtain⟨G,hG,e⟩:=List.mem_map.1 this;exact⟨G,hG,e⟩
 refine⟨hn,hd.k0,hd.k4,hd.b0,hd.b4,hK,fun b hb=>?_,?_,?_,fun x hx=>?_,by rw[hX.length_eq];exact hxl⟩
 ·refine⟨(hd.bok b hb).len,(hd.bok b hb).le,hd.g40 b hb,hd.f0 b hb,by have:=hd.f4 b hb;omega,hd.fk b hb,(hd.bok b hb).sum,?_⟩;rw[hks];have h1:=hN b hb;rw[h1];refine ZqS (fun f hf r hr=>⟨hbin f (hfk b hb f hf) r,fun h2=>?_⟩) (by rw[<- h1];exact(hd.bok b hb).len);rw[hO f (hfk b hb f hf) r hr] at h2
  simpa using h2
 have e:D.bs.flatMap (·.fs)=Zbr Gs:=(by show D.bs.flatMap (fun b=>b.fs)=Gs.flatMap (fun G=>G.fs);rw[List.flatMap_def,List.flatMap_def,hbf]);rw[e,hks,hkl];exact hall;have hkX:Zbt X:=(hX.symm.pairwise_iff (R:=fun x y:XS=>x.row≠y.row∨x.f≠y.f) (fun h=>by omega)).1 hkey;exact(hs.and hkX).imp (fun h=>by omega)
 rcases(hmem x).1 (hX.subset hx) with h1|⟨G,hG,A,C,hf,hr,h3,h4,h5⟩
 simp at h1;have hxf:x.f<m+1:=List.mem_range.1 (hall.mem_iff.1 (List.mem_flatMap.2 ⟨G,hG,by rw[hf];simp⟩));have hseat:=hd.seat (f:=x.f) (by rw[hks,hkl];exact hxf);unfold YZ;have eB:Z1 ⟨D.ks,D.bs,[]⟩ x.f=Z1 D x.f:=rfl;have eP:ZaY ⟨D.ks,D.bs,[]⟩ x.f=ZaY D x.f:=rfl;have eO:Zbl ⟨D.ks,D.bs,[]⟩ (Z1 D x.f) (ZaY D x.f)=Zbl D (Z1 D x.f) (ZaY D x.f):=rfl;simp only[eB,eP,eO];generalize Z1 D x.f=bi at *;generalize ZaY D x.f=p at *;have hbm:D.bs.getD bi Z0∈D.bs:=(by rw[Qc,Qd hseat.hb];exact Qf _);have hNb:=hN _ hbm
 have hsp:(D.bs.getD bi Z0).fs=(D.bs.getD bi Z0).fs.take p++x.f::(D.bs.getD bi Z0).fs.drop (p+1):=by have h1:=hseat.at_;rw[Qc (l:=(D.bs.getD bi Z0).fs),Qd hseat.hp] at h1;simp only[Option.getD_some] at h1;have h2:=List.take_append_drop p (D.bs.getD bi Z0).fs;rw[List.drop_eq_getElem_cons hseat.hp,h1] at h2;exact h2.symm
 have hoff:Zbl D bi p=1+QO (Qn es Bb (m+1)) ((D.bs.getD bi Z0).fs.take p):=(by unfold Zbl;rw[hks]);obtain⟨G',hG',e'⟩:=hGb _ hbm;have hone:=Zio (f:=x.f) Gs hnd G hG G' hG' (by rw[hf];simp) (by rw[e',hsp];simp);have hA:A=(D.bs.getD bi Z0).fs.take p:=ZiQ A _ C ((D.bs.getD bi Z0).fs.drop (p+1)) (by rw[<- hf];exact hone.2) (by rw[<- hf,hone.1,e'];exact hsp);rw[Zpv (hd.bok _ hbm).le (by have:=hd.g40 _ hbm;omega),hNb,hoff,<- hA];have hfs:(D.bs.getD bi Z0).fs=A++x.f::C:=(by rw[<- e',<- hone.1,hf]);have hAm:∀g∈A,g<m+1:=fun g hg=>hfk _ hbm g (by rw[hfs];exact List.mem_append_left _ hg);rw[hfs];have hcol:Zph n (Zap (Qn es Bb (m+1)) (osF es Bb (m+1)) Bb n [] A):=Znb (fun g hg=>hbin g (hAm g hg));have hcoff:=Zgv (Qn es Bb (m+1)) (osF es Bb (m+1)) Bb n [] A
 have hlt:(Zb0 (Qn es Bb (m+1)) (osF es Bb (m+1)) Bb n A).getD x.row 0<1+QO (Qn es Bb (m+1)) A:=by rw[<- hcoff,Qc];have hl:x.row<(Zb0 (Qn es Bb (m+1)) (osF es Bb (m+1)) Bb n A).length:=(by unfold Zb0;rw[hcol.len];exact hr);rw[Qd hl];exact hcol.lt _ (Qf _)
 have hfin:(Zb0 (Qn es Bb (m+1)) (osF es Bb (m+1)) Bb n (A++x.f::C)).getD x.row 0=(Zb0 (Qn es Bb (m+1)) (osF es Bb (m+1)) Bb n A).getD x.row 0:=by have h6:=(Ze2 (Ks:=Qn es Bb (m+1)) (Os:=osF es Bb (m+1)) (Bb:=Bb) (n:=n) (x.f::C) (Zap (Qn es Bb (m+1)) (osF es Bb (m+1)) Bb n [] A) hcol.pos x.row hr).1 h4;have h7:Zb0 (Qn es Bb (m+1)) (osF es Bb (m+1)) Bb n (A++x.f::C)=((x.f::C).foldl (Zi (Qn es Bb (m+1)) (osF es Bb (m+1)) Bb n) (Zap (Qn es Bb (m+1)) (osF es Bb (m+1)) Bb n [] A)).N:=(by unfold Zb0 Zap;rw[List.foldl_append]);rw[h7];exact h6
 rw[hfin,hks];rw[hO x.f hxf x.row hr] at h3;have h8:=hbin x.f hxf x.row;unfold KS.many at h8;unfold ZdC ZaP;simp only[Bool.and_eq_true,decide_eq_true_eq,Bool.not_eq_true',decide_eq_false_iff_not];refine⟨hr,by rw[hkl];exact hxf,⟨by rw[h5];omega,?_⟩,by omega,hlt⟩;rw[h5];have h9:=of_decide_eq_true h3;omega
section
variable {m:Nat} {wd:Nat->Bool} {sc ct:Nat->Int} {bins:Int} {size budget:Nat} {l:List Int} {s:RS}
theorem ZjS.krt(h:ZjS m s)(hg:ZeW (m+1) s)(hs:2<=size)(hs2:size<=32)(hb:2<=bins)(hb2:bins<=16):∀K∈(ZhL m wd ct bins size budget s).ks,KRt K:=by intro K hK;rw[show(ZhL m wd ct bins size budget s).ks=Qn (esD m wd ct bins size s) (bbD m wd ct bins size s) (m+1) from ZcI _ _ _ _ _] at hK;unfold Qn at hK;obtain⟨i,hi,rfl⟩:=List.mem_map.1 hK;have hi:=List.mem_range.1 hi;unfold kF;rw[Zer hi];refine Zol (by rw[h.inv.col i hi];exact h.inv.ws) hs hs2 hb hb2 (h.val.col i hi) (hg.col i hi) ?_;have:=Zg8 ((bbD m wd ct bins size s).getD i []) (show 0<(ZQ lwF (wd i) (ct i) bins size (s.cols i) s.ws).cnt+2 by omega);rw[Zje] at this;omega
theorem Zri(h:ZjS m s)(hg:ZeW (m+1) s)(hc:ZaZ lwF m wd ct bins size s)(hm:m+1<=4)(hs:2<=size)(hs2:size<=32)(hb:2<=bins)(hb2:bins<=16){X:List XS}(hX:X.Perm (ZhL m wd ct bins size budget s).xs)(hx:ZaE X):opD (Z6 (ZhL m wd ct bins size budget s) X)=some ⟨(ZhL m wd ct bins size budget s).ks,(ZhL m wd ct bins size budget s).bs,X⟩:=
 ZoD (Zot hm h.inv.ws (h.binok hc) (h.krt hg hs hs2 hb hb2) hX hx)
end
end Go.Proofs.YtfcgnpchbcmdeaaGreat
namespace Go.Proofs.YtfcgnpchbcmdeaaGreat
set_option linter.unusedSimpArgs false
open Go.RowKit
theorem Zbz{α:Type}(f:α->List Int)(c:Nat):∀(L:List α),(∀x∈L,(f x).length<=c)->(L.flatMap f).length<=L.length*c
 |[],_=>by simp
 |x::L,h=>by have h1:=h x (by simp);have h2:=Zbz f c L (fun y hy=>h y (by simp[hy]));rw[List.flatMap_cons,Qe,List.length_cons,Nat.succ_mul];omega
theorem Zlz{n:Nat}{D:QP}(hd:Zfo n D)(hk:∀K∈D.ks,Zd1 K){X:List XS}(hX:X.Perm D.xs):(Z6 D X).length<=100000:=by have h1:=Zbz knA 9003 D.ks (fun K hK=>Zno (hk K hK));have h2:=Zbz YO 5000 D.bs (fun b hb=>(hd.bun b hb).2.2.2.2);have h3:=Zbz xB 3 X (fun x _=>Qa _);have h4:=hd.k4;have h5:=hd.b4;have h6:=hd.xl;rw[<- hX.length_eq] at h6;unfold Z6 Zag;simp only[Qe,List.length_cons,List.length_nil,Zbk];have h7:D.ks.length*9003<=4*9003:=Nat.mul_le_mul_right _ h4;have h8:D.bs.length*5000<=4*5000:=Nat.mul_le_mul_right _ h5;omega
section
variable {m:Nat} {wd:Nat->Bool} {sc ct:Nat->Int} {B S U:Nat} {l:List Int} {s:RS}
end
end Go.Proofs.YtfcgnpchbcmdeaaGreat
