import Derived.Test.YtfcgnpchbcmdeaaGreatZabm
import Derived.Test.YtfcgnpchbcmdeaaGreatZabl
import Derived.Test.YtfcgnpchbcmdeaaGreatZabn
import Derived.Test.YtfcgnpchbcmdeaaGreatZabf
import Derived.Test.YtfcgnpchbcmdeaaGreatZabp
import Derived.Test.YtfcgnpchbcmdeaaGreatZabj
namespace Go.Proofs.YtfcgnpchbcmdeaaGreat
set_option linter.unusedSimpArgs false
set_option maxRecDepth 100000
set_option maxHeartbeats 16000000
open Go.RowKit
theorem Zih(a b:List Int){k:Nat}(h:k<a.length):(a++b).getD k 0=a.getD k 0:=by rw[Qc,Qc,List.getElem?_append_left h]
theorem ZgC(a b:List Int)(k:Nat):(a++b).getD (a.length+k) 0=b.getD k 0:=by rw[Qc,Qc,List.getElem?_append_right (by omega),Nat.add_sub_cancel_left]
theorem Zp1(L:List (Nat×Nat)):∀(m:Nat) (r:List Int) (k:Nat),k<m->(spK L m++r).getD (2*k) 0=((((L.getD k (0,0)).1:Nat):Int)-Yd L k)%256/\(spK L m++r).getD (2*k+1) 0=(((L.getD k (0,0)).2:Nat):Int)%256
 |0,_,_,h=>by omega
 | m+1,r,k,h=>by
  simp only[spK];rw[List.append_assoc]
  rcases Nat.lt_or_ge k m with h1|h1
  exact Zp1 L m _ k h1;have e:k=m:=(by omega);subst e;have hl:=Zdl L k;constructor;rw[show 2*k=(spK L k).length+0 by omega,ZgC];rfl;rw[show 2*k+1=(spK L k).length+1 by omega,ZgC];rfl
theorem ZrI{N:List Nat}{n k:Nat}(hk:k<(Yh N n).length):((Yh N n).getD k (0,0)).1<n/\((Yh N n).getD k (0,0)).2=N.getD ((Yh N n).getD k (0,0)).1 0:=by have hm:(Yh N n).getD k (0,0)∈Yh N n:=(by rw[Qc,Qd hk];exact Qf _);have:=(Zcl N n _).1 hm;exact⟨this.1,this.2.1⟩
theorem Zjo{N:List Nat}{n j k:Nat}(hjk:j<k)(hk:k<(Yh N n).length):((Yh N n).getD j (0,0)).1<((Yh N n).getD k (0,0)).1:=by
 have:=List.pairwise_iff_getElem.1 (ZeK N n) j k (by omega) hk hjk
 simpa [Qc,Qd hk,Qd (show j<(Yh N n).length by omega)] using this
theorem ZkS{N:List Nat}{n i:Nat}(hi:i<n)(h:N.getD i 0≠0):∃j,j<(Yh N n).length/\((Yh N n).getD j (0,0)).1=i:=by have hm:(i,N.getD i 0)∈Yh N n:=(Zcl N n _).2 ⟨hi,rfl,h⟩;obtain⟨j,hj,e⟩:=List.getElem_of_mem hm;exact⟨j,hj,by rw[Qc,Qd hj,Option.getD_some,e]⟩
theorem ZoY(L:List (Nat×Nat))(k:Nat): -1<=Yd L k:=by unfold Yd;split<;>omega
theorem ZoZ{N:List Nat}{n k:Nat}(hk:k<(Yh N n).length):Yd (Yh N n) k<(((Yh N n).getD k (0,0)).1:Nat):=by unfold Yd;split;omega;have:=Zjo (N:=N) (n:=n) (j:=k-1) (k:=k) (by omega) hk;omega
theorem Znj{N:List Nat}{n:Nat}(hn:n<=200)(hN:N.length=n)(hle:∀x∈N,x<=255)(r:List Int):∀k,k<=(Yh N n).length->(spS (List.replicate n 0) (spK (Yh N n) (Yh N n).length++r) k).1=Yd (Yh N n) k/\∀i,i<n->(spS (List.replicate n 0) (spK (Yh N n) (Yh N n).length++r) k).2.getD i 0=if(i:Int)<=Yd (Yh N n) k then((N.getD i 0:Nat):Int) else 0
 |0,_=>by refine⟨rfl,fun i hi=>?_⟩;have ha:Yd (Yh N n) 0= -1:=rfl;rw[ha,if_neg (by omega)];simp only[spS];rw[Qc,List.getElem?_replicate,if_pos hi];rfl
 | k + 1,hk=>by
  obtain⟨i1,i2⟩:=Znj hn hN hle r k (by omega);obtain⟨b1,b2⟩:=Zp1 (Yh N n) (Yh N n).length r k (by omega);obtain⟨p1,p2⟩:=ZrI (N:=N) (n:=n) (k:=k) (by omega);have hal:=ZoZ (N:=N) (n:=n) (k:=k) (by omega);have hag:=ZoY (Yh N n) k;have hA:Yd (Yh N n) (k+1)=((((Yh N n).getD k (0,0)).1:Nat):Int):=by unfold Yd;rw[if_neg (by omega),Nat.add_sub_cancel]
  have hgap:∀i,i<n->Yd (Yh N n) k<(i:Int)->i<((Yh N n).getD k (0,0)).1->N.getD i 0=0:=fun i hi h1 h2=>by
   by_cases hz:N.getD i 0=0
   exact hz;exfalso;obtain⟨j,hj,e⟩:=ZkS hi hz
   rcases Nat.lt_or_ge j k with h3|h3
   ·unfold Yd at h1;rw[if_neg (by omega)] at h1
    rcases Nat.lt_or_ge j (k-1) with h4|h4
    have:=Zjo (N:=N) (n:=n) h4 (by omega);omega;have e2:j=k-1:=(by omega);rw[e2] at e;omega
   rcases Nat.lt_or_ge k j with h4|h4
   have:=Zjo (N:=N) (n:=n) h4 hj;omega;have e2:j=k:=(by omega);rw[e2] at e;omega
  have hv:N.getD ((Yh N n).getD k (0,0)).1 0<=255:=(by rw[Qc,Qd (by omega)];exact hle _ (Qf _));have hsum:Yd (Yh N n) k+((((Yh N n).getD k (0,0)).1:Nat)-Yd (Yh N n) k)%256=((((Yh N n).getD k (0,0)).1:Nat):Int):=(by omega);simp only[spS];rw[i1,b1,b2,hA,hsum,p2];generalize ((Yh N n).getD k (0,0)).1=p at *;refine⟨rfl,fun i hi=>?_⟩;rw[if_pos ⟨by omega,by rw[List.length_replicate];omega⟩,ZgD _ _ _ _ (by rw[Zdm,List.length_replicate];omega),Int.toNat_natCast]
  by_cases e:p=i
  subst e;rw[if_pos rfl,if_pos (Int.le_refl _)];omega;rw[if_neg e,i2 i hi]
  by_cases h1:(i:Int)<=Yd (Yh N n) k
  rw[if_pos h1,if_pos (by omega)];rw[if_neg h1]
  by_cases h2:i<p
  rw[if_pos (by omega),hgap i hi (by omega) h2];rfl;rw[if_neg (by omega)]
theorem ZgB{a b:List Int}(hl:a.length=b.length)(h:∀i,i<a.length->a.getD i 0=b.getD i 0):a=b:=by
 apply List.ext_getElem hl;intro i h1 h2;have:=h i h1
 simpa [Qc,Qd h1,Qd h2] using this
theorem Zcp(N:List Nat):(ZD N).map Int.toNat=N:=by
 unfold ZD;rw[List.map_map]
 conv=>rhs;rw[<- List.map_id N]
 exact List.map_congr_left fun x _=>rfl
theorem Zoq{N:List Nat}{n:Nat}(hn:n<=200)(hN:N.length=n)(hle:∀x∈N,x<=255)(g:Nat)(r:List Int):Zau (Zg7 (Yh N n)++r) n g=ZD N/\rdColR (Zg7 (Yh N n)++r) n g=r:=by
 have hl:=Zdk N n;have e:Zg7 (Yh N n)++r=115::(((Yh N n).length:Nat):Int)%256::(spK (Yh N n) (Yh N n).length++r):=(by unfold Zg7;simp);have en:(((((Yh N n).length:Nat):Int)%256)).toNat=(Yh N n).length:=(by omega);rw[e];constructor
 ·unfold Zau;rw[if_pos (by rfl)];show(spS (List.replicate n 0) (spK (Yh N n) (Yh N n).length++r) ((((Yh N n).length:Nat):Int)%256).toNat).2=_;rw[en];obtain⟨_,h2⟩:=Znj hn hN hle r (Yh N n).length (Qa _);refine ZgB (by rw[Zdm,List.length_replicate,ZI,hN]) (fun i hi=>?_);rw[Zdm,List.length_replicate] at hi;rw[h2 i hi,Yu]
  by_cases h1:(i:Int)<=Yd (Yh N n) (Yh N n).length
  rw[if_pos h1];rw[if_neg h1]
  by_cases hz:N.getD i 0=0
  rw[hz];rfl;exfalso;obtain⟨j,hj,e⟩:=ZkS hi hz;unfold Yd at h1;rw[if_neg (by omega)] at h1
  rcases Nat.lt_or_ge j ((Yh N n).length-1) with h4|h4
  have:=Zjo (N:=N) (n:=n) h4 (by omega);omega;have e2:j=(Yh N n).length-1:=(by omega);rw[e2] at e;omega
 unfold rdColR;rw[if_pos (by rfl)];show(spK (Yh N n) (Yh N n).length++r).drop (2*((((Yh N n).length:Nat):Int)%256).toNat)=r;rw[en];exact List.drop_left' (by rw[Zdl];omega)
theorem ZpP{N:List Nat}{n g:Nat}(hN:N.length=n)(hle:∀x∈N,x<=g)(hg:g<64)(r:List Int):Zau (100::ZO (YD N (Lib.bitLen g)) ((n*Lib.bitLen g+7)/8) (n*Lib.bitLen g)++r) n g=ZD N/\rdColR (100::ZO (YD N (Lib.bitLen g)) ((n*Lib.bitLen g+7)/8) (n*Lib.bitLen g)++r) n g=r:=by
 have hlt:=ZeR hg;constructor
 ·unfold Zau;rw[if_neg (by simp)];show dnN (ZO (YD N (Lib.bitLen g)) ((n*Lib.bitLen g+7)/8) (n*Lib.bitLen g)++r) n (Lib.bitLen g)=_;generalize Lib.bitLen g=d at *
  have hbit:∀t,t<n*d->Zdt (ZO (YD N d) ((n*d+7)/8) (n*d)++r) t=YD N d t:=fun t ht=>by unfold Zdt;have h8:t/8<(n*d+7)/8:=(by omega);rw[Zih _ _ (by rw[QT];exact h8),Zd9 _ _ h8,Int.toNat_natCast];exact Zh5 (fun t=>Zbi _ _ t) ht
  unfold dnN;refine ZgB (by simp[ZI,hN]) (fun row h1=>?_)
  have h2:row<n:=by simpa using h1
  rw[Yu,Qc,Qd h1,Option.getD_some,List.getElem_map,List.getElem_range];have hrd:row*d+d<=n*d:=(by rw[<- Nat.succ_mul];exact Nat.mul_le_mul_right _ h2);rw[ZcO (N.getD row 0) (row*d) d (fun i hi=>by rw[hbit _ (by omega)];exact Zei N hi)];have hx:N.getD row 0<=g:=(by rw[Qc,Qd (by omega)];exact hle _ (Qf _));rw[Nat.mod_eq_of_lt (by omega)]
 unfold rdColR;rw[if_neg (by simp)];exact List.drop_left' (QT _ _ _)
theorem ZrG{N:List Nat}{n g:Nat}(hn:n<=200)(hN:N.length=n)(hle:∀x∈N,x<=g)(hg:g<64)(r:List Int):QB (ZbY N g++r) n g=N/\rdColR (ZbY N g++r) n g=r:=by unfold QB ZbY;rw[hN];split;obtain⟨h1,h2⟩:=Zoq hn hN (fun x hx=>by have:=hle x hx;omega) g r;rw[h1,h2,Zcp];exact⟨rfl,rfl⟩;obtain⟨h1,h2⟩:=ZpP hN hle hg r;rw[h1,h2,Zcp];exact⟨rfl,rfl⟩
theorem Zo0{N:List Nat}{g:Nat}(hle:∀x∈N,x<=g)(hg:g<64):atN N g=N:=by
 unfold atN;split;rfl
 conv=>rhs;rw[<- List.map_id N]
 refine List.map_congr_left fun x hx=>?_;have h1:=hle x hx;have h2:=ZeR hg;exact Nat.mod_eq_of_lt (by omega)
theorem ZqZ{fs:List Nat}(hl:fs.length<256)(hf:∀f∈fs,f<256)(r:List Int):lstK ([((fs.length:Nat):Int)%256]++byN fs++r)=ZD fs/\lstR ([((fs.length:Nat):Int)%256]++byN fs++r)=r:=by
 have e:[((fs.length:Nat):Int)%256]++byN fs++r=((fs.length:Nat):Int)%256::(byN fs++r):=(by simp);have en:((((fs.length:Nat):Int)%256)).toNat=fs.length:=(by omega);have hbl:(byN fs).length=fs.length:=(by simp[byN]);rw[e];constructor
 ·show(List.range ((((fs.length:Nat):Int)%256)).toNat).map (fun j=>(byN fs++r).getD j 0)=_;rw[en];refine ZgB (by simp[ZI]) (fun j h1=>?_)
  have h2:j<fs.length:=by simpa using h1
  rw[Yu,Qc,Qd h1,Option.getD_some,List.getElem_map,List.getElem_range,Zih _ _ (by omega)];have:=hf _ (Qf h2);unfold byN;simp[Qc,Qd h2];omega
 show(byN fs++r).drop ((((fs.length:Nat):Int)%256)).toNat=r;rw[en];exact List.drop_left' hbl
theorem ZiD(Ks:List KS)(a:Nat)(A:List Nat):Qp Ks (a::A)=(Ks.getD a Zq).many+Qp Ks A:=by unfold Qp;simp
theorem Zn6(a:Nat)(A:List Nat):ZD (a::A)=(a:Int)::ZD A:=rfl
theorem ZkO(Ks:List KS)(f b:Nat)(C:List Nat)(hb:b<(Ks.getD f Zq).many):∀A:List Nat,Zav Ks (ZD (A++f::C)) ((Qp Ks A+b:Nat):Int)=Zdy (Ks.getD f Zq).e (Ks.getD f Zq).d (b:Nat)
 |[]=>by show Zav Ks ((f:Int)::ZD C) _=_;simp only[Zav,Int.toNat_natCast];rw[show Qp Ks []=0 from rfl,Nat.zero_add,if_pos];unfold ZaV;rw[decide_eq_true_eq];unfold KS.many at hb;omega
 | a ::A=>by
  rw[List.cons_append,Zn6,ZiD];simp only[Zav,Int.toNat_natCast]
  rw[if_neg (by
   unfold ZaV KS.many;rw[decide_eq_true_eq]
   omega)]
  have e:(((Ks.getD a Zq).many+Qp Ks A+b:Nat):Int)-(((Ks.getD a Zq).e.cnt:Nat)+2)=((Qp Ks A+b:Nat):Int):=(by unfold KS.many;omega);rw[e];exact ZkO Ks f b C hb A
section
variable {Ks:List KS} {Os:List (List Bool)} {Bb:List (List Nat)} {n:Nat}
theorem ZjY:∀(fs:List Nat) (s:CS) (r:Nat),r<n->0<s.off->s.N.getD r 0=0->(fs.foldl (Zh Ks Os Bb n) s).N.getD r 0≠0->∃A f C,fs=A++f::C/\(fs.foldl (Zh Ks Os Bb n) s).N.getD r 0=s.off+Qp Ks A+(Bb.getD f []).getD r 0/\(Os.getD f []).getD r false=true
 |[],s,r,_,_,h,h1=>absurd h h1
 | f::fs,s,r,hr,h0,h,h1=>by
  simp only[List.foldl_cons] at h1 ⊢;have hg:(Zh Ks Os Bb n s f).N.getD r 0=ZcV s.off (Os.getD f []) (Bb.getD f []) s.N r:=ZgZ _ _ _ _ hr;have ho:(Zh Ks Os Bb n s f).off=s.off+(Ks.getD f Zq).many:=rfl
  by_cases hO:(Os.getD f []).getD r false=true
  have e:(Zh Ks Os Bb n s f).N.getD r 0=s.off+(Bb.getD f []).getD r 0:=(by rw[hg];unfold ZcV;rw[if_pos ⟨hO,h⟩]);refine⟨[],f,fs,rfl,?_,hO⟩;rw[(Zc3 fs (Zh Ks Os Bb n s f) (by rw[ho];omega) r hr).1 (by rw[e];omega),e];rfl;have e:(Zh Ks Os Bb n s f).N.getD r 0=0:=(by rw[hg];unfold ZcV;rw[if_neg (fun hc=>hO hc.1)];exact h);obtain⟨A,g,C,rfl,h2,h3⟩:=ZjY fs (Zh Ks Os Bb n s f) r hr (by rw[ho];omega) e h1;refine⟨f::A,g,C,rfl,?_,h3⟩;rw[h2,ho,ZiD];omega
theorem Zqv{fs:List Nat}(hin:∀f∈fs,∀r,r<n->(Bb.getD f []).getD r 0<(Ks.getD f Zq).many/\((Os.getD f []).getD r false=true->(Bb.getD f []).getD r 0≠(Ks.getD f Zq).d))(hl:(Zap Ks Os Bb n fs).length=n):Yj Ks (ZD fs) (Zap Ks Os Bb n fs)=true:=by
 unfold Yj;rw[List.all_eq_true];intro x hx;obtain⟨r,hr,rfl⟩:=List.getElem_of_mem hx;have e:(Zap Ks Os Bb n fs)[r]=(Zap Ks Os Bb n fs).getD r 0:=(by simp[Qc,Qd hr]);rw[e];rw[hl] at hr
 by_cases hz:(Zap Ks Os Bb n fs).getD r 0=0
 rw[decide_eq_true hz];rfl;rw[decide_eq_false hz,Bool.false_or];obtain⟨A,f,C,hfs,h2,h3⟩:=ZjY (Ks:=Ks) (Os:=Os) (Bb:=Bb) (n:=n) fs ⟨List.replicate n 0,[],1⟩ r hr Nat.zero_lt_one (by simp[Qc,hr]) hz;have hf:=hin f (by rw[hfs];simp) r hr;have e2:(((Zap Ks Os Bb n fs).getD r 0:Nat):Int)-1=((Qp Ks A+(Bb.getD f []).getD r 0:Nat):Int):=(by have h4:(Zap Ks Os Bb n fs).getD r 0=1+Qp Ks A+(Bb.getD f []).getD r 0:=h2;omega);rw[e2,hfs,ZkO Ks f _ C hf.1 A];unfold Zdy ZaV;have h5:=hf.1;have h6:=hf.2 h3;unfold KS.many at h5;simp only[Bool.and_eq_true,decide_eq_true_eq,Bool.not_eq_true',decide_eq_false_iff_not];omega
end
theorem ZiC{f:Nat}:∀(A A' C C':List Nat),(A++f::C).Nodup->A++f::C=A'++f::C'->A=A'
 |[],[],_,_,_,_=>rfl
 |[],a::A',C,C',h,e=>by simp only[List.nil_append,List.cons_append,List.cons.injEq] at e;have:=(List.nodup_cons.1 h).1;rw[e.2] at this;simp at this
 |a::A,[],C,C',h,e=>by simp only[List.nil_append,List.cons_append,List.cons.injEq] at e;have:=(List.nodup_cons.1 h).1;rw[e.1] at this;simp at this
 |a::A,b::A',C,C',h,e=>by simp only[List.cons_append,List.cons.injEq] at e;rw[e.1,ZiC A A' C C' (List.nodup_cons.1 h).2 e.2]
theorem Zia{f:Nat}:∀(Gs:List GS),(Gs.flatMap (fun G=>G.fs)).Nodup->∀G∈Gs,∀H∈Gs,f∈G.fs->f∈H.fs->G.fs=H.fs/\G.fs.Nodup
 |[],_,G,hG,_,_,_,_=>by simp at hG
 | K ::Gs,h,G,hG,H,hH,hf,hf'=>by
  rw[List.flatMap_cons,List.nodup_append] at h;obtain⟨h1,h2,h3⟩:=h
  rcases List.mem_cons.1 hG with e1|hG2
  ·rcases List.mem_cons.1 hH with e2|hH2
   rw[e1,e2];exact⟨rfl,h1⟩;exact absurd rfl (h3 f (by rw[<- e1];exact hf) f (List.mem_flatMap.2 ⟨H,hH2,hf'⟩))
  rcases List.mem_cons.1 hH with e2|hH2
  exact absurd rfl (h3 f (by rw[<- e2];exact hf') f (List.mem_flatMap.2 ⟨G,hG2,hf⟩));exact Zia Gs h2 G hG2 H hH2 hf hf'
end Go.Proofs.YtfcgnpchbcmdeaaGreat
namespace Go.Proofs.YtfcgnpchbcmdeaaGreat
set_option linter.unusedSimpArgs false
set_option maxRecDepth 100000
set_option maxHeartbeats 16000000
open Go.RowKit Go.Lib Go.Sort
structure BRt(Ks:List KS)(n:Nat)(b:BS):Prop where
 len:b.N.length=n
 le:∀x∈b.N,x<=b.g
 g40:b.g<=40
 f0:0<b.fs.length
 fl:b.fs.length<256
 fk:∀f∈b.fs,f<Ks.length
 sum:b.g=Qp Ks b.fs
 col:Yj Ks (ZD b.fs) b.N=true
theorem ZjK{Ks:List KS}{n:Nat}{bs:List BS}(hn:n<=200)(hk:Ks.length<256)(h:∀b∈bs,BRt Ks n b)(r:List Int):∀j,j<=bs.length->∃st,bdK Ks n (bs.flatMap YP++r) j=some (bs.take j,st,(bs.drop j).flatMap YP++r)
 |0,_=>⟨_,rfl⟩
 | j +1,hj=>by
  have hlt:j<bs.length:=(by omega);have hB:=h _ (Qf hlt);obtain⟨st,ih⟩:=ZjK hn hk h r j (by omega);have e:(bs.drop j).flatMap YP++r=[((bs[j].fs.length:Nat):Int)%256]++byN bs[j].fs++(ZbY bs[j].N bs[j].g++((bs.drop (j+1)).flatMap YP++r)):=(by rw[List.drop_eq_getElem_cons hlt,List.flatMap_cons];unfold YP;simp only[List.append_assoc]);simp only[bdK];rw[ih];simp only;rw[e];obtain⟨e1,e2⟩:=ZqZ hB.fl (fun f hf=>by have:=hB.fk f hf;omega) (ZbY bs[j].N bs[j].g++((bs.drop (j+1)).flatMap YP++r));have hbin:Yf Ks (ZD bs[j].fs)=bs[j].g:=(by rw[Zgh,Zcp,hB.sum]);obtain⟨e3,e4⟩:=ZrG hn hB.len hB.le (by have:=hB.g40;omega) ((bs.drop (j+1)).flatMap YP++r)
  rw[e1,e2,hbin,e3,e4,Zcp,Zo0 hB.le (by have:=hB.g40;omega),if_pos (by
   rw[hB.col,Bool.and_true];unfold Zd6;rw[hbin];simp only[Bool.and_eq_true,decide_eq_true_eq,List.all_eq_true];refine⟨fun f hf=>?_,by rw[ZI];exact hB.f0,hB.g40⟩;unfold ZD at hf;obtain⟨g,hg,rfl⟩:=List.mem_map.1 hf;have:=hB.fk g hg
   omega)]
  exact⟨_,by rw[Qi hlt]⟩
def ZiL(X:List XS):Prop:=X.Pairwise fun x y=>x.row<y.row∨x.row=y.row/\x.f<y.f
theorem Zj3{X:List XS}(hs:ZiL X){j:Nat}(hj:j<X.length):Zae (X.take j) X[j]=true:=by
 unfold Zae;rw[List.length_take,Nat.min_eq_left (by omega)]
 by_cases h0:j=0
 subst h0;rfl;rw[decide_eq_false h0,Bool.false_or,decide_eq_true_eq];have e:(X.take j).getD (j-1) QD=X[j-1]:=(by rw[Qc,List.getElem?_take,if_pos (by omega),Qd (by omega)];rfl);rw[e];have h1:=List.pairwise_iff_getElem.1 hs (j-1) j (by omega) hj (by omega);have h2:=ltX X[j-1] X[j];rw[decide_eq_true h1] at h2;unfold ltOf at h2
 simpa using h2
theorem ZrF{x:XS}(h:x.row<256/\x.f<256/\x.bin<256)(r:List Int):rdX (xB x++r)=x/\(xB x++r).drop 3=r:=by refine⟨?_,rfl⟩;obtain⟨a,b,c⟩:=x;simp only at h;show(⟨((a:Int)%256).toNat,((b:Int)%256).toNat,((c:Int)%256).toNat⟩:XS)=_;rw[show((a:Int)%256).toNat=a by omega,show((b:Int)%256).toNat=b by omega,show((c:Int)%256).toNat=c by omega]
theorem Zph{D:YY}{n:Nat}{X:List XS}(hs:ZiL X)(hm:∀x∈X,Y2 D n x=true)(hb:∀x∈X,x.row<256/\x.f<256/\x.bin<256)(r:List Int):∀j,j<=X.length->exK D n (X.flatMap xB++r) j=some (X.take j,(X.drop j).flatMap xB++r)
 |0,_=>by simp[exK]
 |j+1,hj=>by have hlt:j<X.length:=(by omega);simp only[exK];rw[Zph hs hm hb r j (by omega)];have e:(X.drop j).flatMap xB++r=xB X[j]++((X.drop (j+1)).flatMap xB++r):=(by rw[List.drop_eq_getElem_cons hlt,List.flatMap_cons,List.append_assoc]);simp only;rw[e];obtain⟨e1,e2⟩:=ZrF (hb _ (Qf hlt)) ((X.drop (j+1)).flatMap xB++r);rw[e1,e2,if_pos (by rw[Zj3 hs hlt,hm _ (Qf hlt)];rfl),Qi hlt]
structure DRt(n:Nat)(D:YY)(X:List XS):Prop where
 n2:n<=200
 k0:0<D.ks.length
 k4:D.ks.length<=4
 b0:0<D.bs.length
 b4:D.bs.length<=4
 ks:∀K∈D.ks,KRt K
 bs:∀b∈D.bs,BRt D.ks n b
 once:(D.bs.flatMap (·.fs)).Perm (List.range D.ks.length)
 xs:ZiL X
 xe:∀x∈X,Y2 ⟨D.ks,D.bs,[]⟩ n x=true
 xl:X.length<=800
theorem ZkI{n:Nat}{D:YY}{X:List XS}(h:DRt n D X):Zcu (ZU D X)=some (⟨D.ks,D.bs,X⟩,YV (ZeW (Zat D X)) 4):=by
 have hn0:(D.bs.getD 0 ZB).N.length=n:=(by rw[Qc,Qd h.b0];exact(h.bs _ (Qf _)).len);obtain⟨T,hT⟩:∃T,T=YV (ZeW (Zat D X)) 4:=⟨_,rfl⟩;have hTB:ByI T:=(by rw[hT];exact Zkn _ _);have h2:=h.n2;have h4:=h.k4;have hk0:=h.k0;have hb4:=h.b4;have hxl:=h.xl;have e:ZU D X=71::82::(n:Int)%256::(D.ks.length:Int)%256::(D.ks.flatMap knA++((D.bs.length:Int)%256::(D.bs.flatMap YP++(YV (X.length:Nat) 2++(X.flatMap xB++T))))):=by unfold ZU;rw[<- hT];unfold Zat;rw[hn0];simp only[List.append_assoc,List.cons_append,List.nil_append]
 rw[<- hT];have hby:=ZdZ D X;rw[e] at hby ⊢;have hR:ByI (D.bs.flatMap YP++(YV (X.length:Nat) 2++(X.flatMap xB++T))):=fun x hx=>hby x (List.mem_cons_of_mem _ (List.mem_cons_of_mem _ (List.mem_cons_of_mem _ (List.mem_cons_of_mem _ (List.mem_append_right _ (List.mem_cons_of_mem _ hx))))));have en:((71::82::(n:Int)%256::(D.ks.length:Int)%256::(D.ks.flatMap knA++((D.bs.length:Int)%256::(D.bs.flatMap YP++(YV (X.length:Nat) 2++(X.flatMap xB++T))))):List Int).getD 2 0).toNat=n:=(by show((n:Int)%256).toNat=n;omega);have ek:((71::82::(n:Int)%256::(D.ks.length:Int)%256::(D.ks.flatMap knA++((D.bs.length:Int)%256::(D.bs.flatMap YP++(YV (X.length:Nat) 2++(X.flatMap xB++T))))):List Int).getD 3 0).toNat=D.ks.length:=by show((D.ks.length:Int)%256).toNat=D.ks.length;omega
 unfold Zcu;rw[en,ek,if_neg (by omega)];have ed:(71::82::(n:Int)%256::(D.ks.length:Int)%256::(D.ks.flatMap knA++((D.bs.length:Int)%256::(D.bs.flatMap YP++(YV (X.length:Nat) 2++(X.flatMap xB++T))))):List Int).drop 4=D.ks.flatMap knA++((D.bs.length:Int)%256::(D.bs.flatMap YP++(YV (X.length:Nat) 2++(X.flatMap xB++T)))):=rfl;rw[ed,ZmY h.ks _ D.ks.length (Qa _),List.take_length,List.drop_length];simp only[List.flatMap_nil,List.nil_append,List.tail_cons,List.headD_cons];rw[show((D.bs.length:Int)%256).toNat=D.bs.length by omega];obtain⟨st,hst⟩:=ZjK h.n2 (by omega) h.bs (YV (X.length:Nat) 2++(X.flatMap xB++T)) D.bs.length (Qa _);rw[hst];rw[List.take_length,List.drop_length] at hst ⊢;simp only[List.flatMap_nil,List.nil_append] at hst ⊢
 obtain⟨_,hsl,_,hoc,_⟩:=ZiP hR _ _ _ _ hst
 have hone:Ys st=true:=by
  unfold Ys;rw[List.all_eq_true];intro z hz;obtain⟨f,hf,rfl⟩:=List.getElem_of_mem hz;have h1:=hoc f;rw[h.once.count_eq f,List.nodup_range.count,if_pos (List.mem_range.2 (by omega)),Qc,Qd hf] at h1
  simpa using h1
 rw[if_pos hone];obtain⟨e5,e6⟩:=ZsB (n:=X.length) (by omega) (X.flatMap xB++T);rw[e5,e6,Zph h.xs h.xe (fun x hx=>?_) T X.length (Qa _),List.take_length,List.drop_length];rfl;have h1:=Zdf (h.xe x hx);simp only at h1;have h3:=(h.ks (D.ks.getD x.f Zq) (by rw[Qc,Qd h1.2.1];exact Qf _)).ok.cn;omega
theorem Zoc{n:Nat}{D:YY}{X:List XS}(h:DRt n D X):opD (ZU D X)=some ⟨D.ks,D.bs,X⟩:=by unfold opD;rw[ZkI h];exact if_pos rfl
end Go.Proofs.YtfcgnpchbcmdeaaGreat
namespace Go.Proofs.YtfcgnpchbcmdeaaGreat
set_option linter.unusedSimpArgs false
set_option maxRecDepth 100000
set_option maxHeartbeats 16000000
open Go.RowKit
theorem ZfC{S:Int->Prop}{size:Int}(hs:2<=size)(hs2:size<=32):∀{Ls:List (List Zt)} {l:List Zt},Qy Ls->ZJ l->l.length<=32->ZQ Ls+Zd l<=1000000000000->(∀L∈Ls,∀e∈L,S e.v)->(∀e∈l,S e.v)->∀L∈ZG size Ls l,∀e∈L,S e.v
 |[],l,_,_,_,_,_,hv=>by simpa [ZG] using hv
 | o ::r,l,h,g,hl,ht,hL,hv=>by
  have go:=h.good o (by simp);have hr:Qy r:=⟨fun x hx=>h.good x (by simp[hx]),fun x hx=>h.len x (by simp[hx])⟩;have p1:=Qq hr.good;have p2:=(Y3 go).1;have p3:=(Y3 g).1;simp only[ZQ] at ht;simp only[ZG];split
  ·intro L hx
   rcases List.mem_cons.1 hx with rfl|hx
   exact hv;exact hL L (by simp[hx])
  have gj:=ZaE go g (by omega);have gc:ZJ (YX (ZE o l) size):=gj.sub (ZaM gj size);have tc:Zd (YX (ZE o l) size)=Zd o+Zd l:=(by rw[Zbb,ZaJ]);have lc:=Zb0 (ZE o l) hs
  have ih:=ZfC (S:=S) hs hs2 hr gc (by omega) (by omega) (fun L hx=>hL L (by simp[hx])) (fun e he=>by
   rcases ZgG go g e ((ZaM gj size).subset he) with⟨x,hx,e1⟩|⟨x,hx,e1⟩
   rw[<- e1];exact hL o (by simp) x hx
   rw[<- e1];exact hv x hx)
  intro L hx
  rcases List.mem_cons.1 hx with rfl|hx
  simp;exact ih L hx
theorem Zoz{S:Int->Prop}{vs ws:List Int}(h:∀v∈vs,S v/\ -1000000000<=v/\v<=1000000000):∀e∈Zcz vs ws,S e.v:=fun e he=>by have hs:=ZeL (Zk vs ws);obtain⟨p,hp,h1,_⟩:=(Zdi (ZdQ (Zk vs ws)) 0).1 e he;obtain⟨q,hq,e2⟩:=hs.sub p hp;unfold Zk at hq;obtain⟨z,hz,rfl⟩:=List.mem_map.1 hq;have hz1:z.1∈vs:=(List.of_mem_zip (a:=z.1) (b:=z.2) hz).1;obtain⟨a,b,c⟩:=h z.1 hz1;rw[<- h1,<- e2];show S (Zbk z.1);unfold Zbk;rw[if_neg (by omega),if_neg (by omega)];exact a
theorem Zej{S:Int->Prop}{size:Nat}(hs:2<=size)(hs2:size<=32):∀(f:Nat) (Ls:List (List Zt)) (vs ws:List Int),Qy Ls->ZQ Ls+1000*(vs.length:Int)<=1000000000000->vs.length<=2097152->(∀L∈Ls,∀e∈L,S e.v)->(∀v∈vs,S v/\ -1000000000<=v/\v<=1000000000)->∀L∈YO size f Ls vs ws,∀e∈L,S e.v
 |0,Ls,vs,ws,_,_,_,hL,_=>by simp only[YO];exact hL
 |f+1,Ls,vs,ws,h,ht,hl,hL,hv=>by simp only[YO];split;exact hL;have h1:=Zjp (vs:=vs.take size) (ws:=ws.take size) (by simp;omega);have hp:=Qq h.good;have hlen:(vs.take size).length+(vs.drop size).length=vs.length:=(by simp;omega);have hlt:(vs.take size).length<=size:=(by simp;omega);obtain⟨t1,t2⟩:=Zdn (size:=(size:Int)) (by omega) (by omega) h h1.1 (by omega) (by omega);refine Zej hs hs2 f _ (vs.drop size) (ws.drop size) t1 (by omega) (by omega) ?_ (fun v hv2=>hv v (List.mem_of_mem_drop hv2));exact ZfC (by omega) (by omega) h h1.1 (by omega) (by omega) hL (Zoz (fun v hv2=>hv v (List.mem_of_mem_take hv2)))
theorem Zeq{S:Int->Prop}{size:Int}(hs:2<=size)(hs2:size<=32):∀(Ls:List (List Zt)) (al:List Zt),Qy Ls->ZJ al->al.length<=32->Zd al+ZQ Ls<=1000000000000->(∀L∈Ls,∀e∈L,S e.v)->(∀e∈al,S e.v)->∀e∈Qn size al Ls,S e.v
 |[],al,_,_,_,_,_,hv=>hv
 | l ::r,al,h,g,hl,ht,hL,hv=>by
  have gl:=h.good l (by simp);have hr:Qy r:=⟨fun x hx=>h.good x (by simp[hx]),fun x hx=>h.len x (by simp[hx])⟩;have p1:=Qq hr.good;simp only[ZQ] at ht;have gj:=ZaE g gl (by omega);have lc:=Zb0 (ZE al l) hs;have tc:Zd (YX (ZE al l) size)=Zd al+Zd l:=(by rw[Zbb,ZaJ]);simp only[Qn]
  exact Zeq hs hs2 r _ hr (gj.sub (ZaM gj size)) (by omega) (by omega) (fun L hx=>hL L (by simp[hx])) (fun e he=>by
   rcases ZgG g gl e ((ZaM gj size).subset he) with⟨x,hx,e1⟩|⟨x,hx,e1⟩
   rw[<- e1];exact hv x hx
   rw[<- e1];exact hL l (by simp) x hx)
theorem ZhC{S:Int->Prop}{size:Nat}(hs:2<=size)(hs2:size<=32)(vs ws:List Int)(hl:vs.length<=2097152)(hv:∀v∈vs,S v/\ -1000000000<=v/\v<=1000000000):∀e∈Yt size vs ws,S e.v:=by obtain⟨h1,h2⟩:=ZdY hs hs2 vs.length [] vs ws Qy.nil (by simp[ZQ];omega) hl;exact Zeq (by omega) (by omega) _ [] h1 ZJ.nil (by simp) (by simp[Zd,ZQ] at h2 ⊢;omega) (Zej hs hs2 _ _ _ _ Qy.nil (by simp[ZQ];omega) hl (by simp) hv) (by simp)
theorem Ze5:∀(L:List VS) (ws:List Int) (x:Int×Int),x∈ZN L ws->∃v∈L,v.miss=false/\v.num=x.1
 |[],_,x,h=>by simp[ZN] at h
 |_::_,[],x,h=>by simp[ZN] at h
 | v::L,z::ws,x,h=>by
  simp only[ZN] at h;split at h;obtain⟨u,hu,h1⟩:=Ze5 L ws x h;exact⟨u,by simp[hu],h1⟩;rename_i hm
  rcases List.mem_cons.1 h with rfl|h
  exact⟨v,by simp,by simpa using hm,rfl⟩;obtain⟨u,hu,h1⟩:=Ze5 L ws x h;exact⟨u,by simp[hu],h1⟩
theorem Zfv{L:List VS}{ws:List Int}{bins:Int}{size:Nat}(hL:L.length<=200)(hs:2<=size)(hs2:size<=32)(hr:∀v∈L,-1000000000<=v.num/\v.num<=1000000000):∀x∈Yq L ws bins size,∃v∈L,v.miss=false/\v.num=x:=fun x hx=>by have hl:((ZN L ws).map Prod.fst).length<=2097152:=(by have:=Zb4 L ws;simp;omega);unfold Yq at hx;have h1:=(Zfi _ bins).subset hx;obtain⟨e,he,rfl⟩:=List.mem_map.1 h1;refine ZhC (S:=fun y=>∃v∈L,v.miss=false/\v.num=y) hs hs2 _ _ hl (fun v hv=>?_) e (List.mem_of_mem_take he);obtain⟨p,hp,rfl⟩:=List.mem_map.1 hv;obtain⟨u,hu,h2,h3⟩:=Ze5 L ws p hp;have:=hr u hu;exact⟨⟨u,hu,h2,h3⟩,by omega,by omega⟩
theorem Zkp{L:List VS}{ws:List Int}{ct bins:Int}:∀x∈(lwF L ws ct bins).ww,∃v∈L,v.miss=false/\v.word=x:=fun x hx=>by
 unfold lwF at hx;simp only at hx;obtain⟨y,hy,rfl⟩:=List.mem_map.1 hx;have h1:=(List.mem_mergeSort).1 (List.mem_of_mem_take hy);have h2:=((Zd8 _ _ _).1 h1).1;unfold ZdD at h2;obtain⟨p,hp,h3⟩:=List.any_eq_true.1 h2;unfold Zev at h3;simp only[Bool.and_eq_true,Bool.not_eq_true',decide_eq_true_eq] at h3;refine⟨p.1,(List.of_mem_zip (a:=p.1) (b:=p.2) hp).1,h3.1,?_⟩;have h4:=h3.2
 cases hw:p.1.word with
 | mk d=>
  cases hy2:y.wd with
  | mk d2=>
   rw[hw,hy2] at h4;simp only at h4;rw[Array.toList_inj.1 h4]
theorem Zkk{wd:Bool}{ct bins:Int}{size d:Nat}{L:List VS}{ws:List Int}(hL:L.length<=200)(hs:2<=size)(hs2:size<=32)(hb:2<=bins)(hb2:bins<=16)(hr:∀v∈L,(-1000000000<=v.num/\v.num<=1000000000)/\v.word.size<=8):Zdq ⟨ZT lwF wd ct bins size L ws,d⟩:=by
 cases wd
 left;have e:ZT lwF false ct bins size L ws=⟨false,Yq L ws bins size,[]⟩:=(by simp[ZT]);rw[e];refine⟨rfl,rfl,?_,fun x hx=>?_⟩;have:=(Ze4 L ws hL hs hs2 hb).2;show(Yq L ws bins size).length<=1000;omega;obtain⟨v,hv,_,rfl⟩:=Zfv hL hs hs2 (fun v hv=>(hr v hv).1) x hx;have:=(hr v hv).1;omega;right;have e:ZT lwF true ct bins size L ws=lwF L ws ct bins:=(by simp[ZT]);rw[e];refine⟨rfl,rfl,?_,fun x hx=>?_⟩;show(List.map _ (List.take bins.toNat _)).length<=1000;rw[List.length_map,List.length_take];omega;obtain⟨v,hv,_,rfl⟩:=Zkp x hx;exact(hr v hv).2
def Zlz(L:List VS)(ws:List Int)(ct:Int):List WS:=(ZaD (L.zip ws) ct).mergeSort fun x y=>decide (leW x y)
theorem ZrA(L:List VS)(ws:List Int)(ct bins:Int):(lwF L ws ct bins).ww=((Zlz L ws ct).take bins.toNat).map WS.wd:=rfl
theorem Zj2(L:List VS)(ws:List Int)(ct:Int):(Zlz L ws ct).Pairwise leW:=by
 have h:=List.pairwise_mergeSort (le:=fun x y=>decide (leW x y)) (fun a b c h1 h2=>decide_eq_true (Zim (of_decide_eq_true h1) (of_decide_eq_true h2))) (fun a b=>by
  rcases Zil a b with h|h
  rw[decide_eq_true h];rfl
  rw[decide_eq_true h,Bool.or_true]) (ZaD (L.zip ws) ct)
 exact h.imp (fun h=>of_decide_eq_true h)
theorem Zkq(L:List VS)(ws:List Int)(ct:Int)(x:WS):x∈Zlz L ws ct↔ZdD (L.zip ws) x.wd.data.toList=true/\x.wt=QZ (L.zip ws) x.wd.data.toList/\ct<=x.wt:=by unfold Zlz;rw[List.mem_mergeSort];exact Zd8 _ _ x
theorem ZlA(L:List VS)(ws:List Int)(ct:Int):(Zlz L ws ct).Nodup:=((List.mergeSort_perm _ _).nodup_iff).2 (Zeu _ _)
def Zlf(ps:List (VS×Int))(x y:ByteArray):Prop:=QZ ps y.data.toList<QZ ps x.data.toList∨QZ ps y.data.toList=QZ ps x.data.toList/\Zbo x y
theorem ZnZ(L:List VS)(ws:List Int)(ct bins:Int):(lwF L ws ct bins).ww.Pairwise (Zlf (L.zip ws)):=by
 rw[ZrA];have h:(Zlz L ws ct).Pairwise (fun x y=>leW x y/\x≠y):=(Zj2 L ws ct).and (ZlA L ws ct)
 have h2:((Zlz L ws ct).take bins.toNat).Pairwise (fun x y=>Zlf (L.zip ws) x.wd y.wd):=by
  refine List.Pairwise.imp_of_mem ?_ (h.sublist (List.take_sublist _ _));intro x y hx hy hxy;obtain⟨_,x2,_⟩:=(Zkq L ws ct x).1 (List.mem_of_mem_take hx);obtain⟨_,y2,_⟩:=(Zkq L ws ct y).1 (List.mem_of_mem_take hy);obtain⟨h1,h2⟩:=hxy;unfold leW at h1;unfold Zlf;rw[<- x2,<- y2]
  by_cases e:y.wt=x.wt
  ·refine .inr ⟨e,?_⟩;apply Classical.byContradiction;intro hn;apply h2;have hwd:x.wd=y.wd:=ZlD hn (fun h3=>h1 (.inr ⟨e,h3⟩))
   cases x;cases y
   simp only at e hwd;rw[e,hwd]
  left;have:¬x.wt<y.wt:=fun h3=>h1 (.inl h3);omega
 exact List.Pairwise.map _ (fun a b h=>h) h2
theorem ZnY(L:List VS)(ws:List Int)(ct bins:Int):(lwF L ws ct bins).ww.Nodup:=by
 refine(ZnZ L ws ct bins).imp (fun {a b} h=>?_);rintro rfl
 rcases h with h|⟨_,h⟩
 omega;exact ZhM _ h
structure ZoU(w:World)(gb n nk:Nat)(sb:ByteArray)(Ls:List (List Int))(E:Nat->ES)(B:Nat->Nat->Nat):Prop where
 rows:∀W:World,Below w.heap.size w W->Calls Tryz.prog 26 #[.pointer (some ⟨gb,0,none⟩)] W fun e w'=>e=.returned (.int .i64 (n:Nat))/\Below w.heap.size w w'
 bytes:∀W:World,Below w.heap.size w W->Calls Tryz.prog 34 #[.pointer (some ⟨gb,0,none⟩)] W fun e w'=>e=.returned (.string sb)/\Below w.heap.size w w'
 bundles:∀W:World,Below w.heap.size w W->Calls Tryz.prog 55 #[.pointer (some ⟨gb,0,none⟩)] W fun e w'=>∃q,e=.returned (.slice (some ⟨q,0,none⟩) Ls.length Ls.length)/\Yk w' 0 q Ls.length Ls.length Ls/\Below W.heap.size W w'
 bounds:∀W:World,Below w.heap.size w W->∀f,f<nk->Calls Tryz.prog 27 #[.pointer (some ⟨gb,0,none⟩),.int .i64 (f:Nat)] W fun e w'=>Zrc W (E f) e w'
 look:∀W:World,Below w.heap.size w W->∀f row,f<nk->row<n->Calls Tryz.prog 44 #[.pointer (some ⟨gb,0,none⟩),.int .i64 (row:Nat),.int .i64 (f:Nat)] W fun e w'=>e=.returned (.tuple #[.int .i64 (B f row:Nat),.int .i64 0])/\Below w.heap.size w w'
def Zla(w wr:World)(v1 v2 v3 v4:Value)(bI:List Int)(bS:List ByteArray):Prop:=Below w.heap.size w wr/\Zc wr 0 v1 bI/\ZF wr 0 v2 bS/\Zc wr 0 v3 bI/\ZF wr 0 v4 bS
theorem Zla.drew{w wr:World}{v1 v2 v3 v4:Value}{bI:List Int}{bS:List ByteArray}(h:Zla w wr v1 v2 v3 v4 bI bS)(n:Nat):Zla w (wr.drewN n) v1 v2 v3 v4 bI bS:=
 ⟨below_drewN h.1 _,h.2.1.below (below_drewN (Below.refl _ _) _),h.2.2.1.below (below_drewN (Below.refl _ _) _),h.2.2.2.1.below (below_drewN (Below.refl _ _) _),h.2.2.2.2.below (below_drewN (Below.refl _ _) _)⟩
theorem ZpW(ga gb n nk:Nat)(sb:ByteArray)(Ls:List (List Int))(E:Nat->ES)(B:Nat->Nat->Nat)(w:World)(ha:ZoU w ga n nk sb Ls E B)(hb:ZoU w gb n nk sb Ls E B)(hn:n<=1000)(hk:nk<=1000)(hl:Ls.length<=1000)(hl2:∀L∈Ls,L.length<=1000)(hE:∀f,f<nk->(bdI (E f)).length<=1000/\(bdS (E f)).length<=1000):Calls Tryz.prog 30 #[.pointer (some ⟨ga,0,none⟩),.pointer (some ⟨gb,0,none⟩),.int .i64 (nk:Nat)] w fun e w'=>e=.returned (.bool true)/\Below w.heap.size w w':=by
 have HA:Hid (ZoU w ga n nk sb Ls E B):=ha;have HB:Hid (ZoU w gb n nk sb Ls E B):=hb
 have HL2:Hid (∀i,i<Ls.length->(Ls.getD i []).length<=1000):=fun i hi=>by rw[Qc,Qd hi];exact hl2 _ (Qf _)
 have HE:Hid (∀f,f<nk->(bdI (E f)).length<=1000/\(bdS (E f)).length<=1000):=hE;clear ha hb hl2 hE;generalize hnl:Ls.length=nl at *;have HNL:Hid (Ls.length=nl):=hnl;clear hnl;go_enter Tryz.func30,Tryz.ntmps30;go_wp2_with fail
 refine(HA.out.rows _ (Below.refl _ _)).mono ?_;rintro e w1 ⟨rfl,h1⟩;have H1:Hid (Below w.heap.size w w1):=h1;clear h1;go_wp2_with fail
 refine(HB.out.rows _ H1.out).mono ?_;rintro e w2 ⟨rfl,h2⟩;have H2:Hid (Below w.heap.size w w2):=h2;clear h2 H1;go_wp2_with fail
 refine(HA.out.bytes _ H2.out).mono ?_;rintro e w3 ⟨rfl,h3⟩;have H3:Hid (Below w.heap.size w w3):=h3;clear h3 H2;go_wp2_with fail
 refine(HB.out.bytes _ H3.out).mono ?_;rintro e w4 ⟨rfl,h4⟩;have H4:Hid (Below w.heap.size w w4):=h4;clear h4 H3;go_wp2_with fail
 refine(HA.out.bundles _ H4.out).mono ?_;rintro e w5 ⟨qa,rfl,hqa,h5⟩;have H5:Hid (Below w.heap.size w w5):=H4.out.trans (h5.mono H4.out.size);have HQA:Hid (Yk w5 0 qa nl nl Ls):=(by have:=hqa;rw[HNL.out] at this;exact this);rw[HNL.out];clear h5 hqa H4;go_wp2_with fail
 refine(HB.out.bundles _ H5.out).mono ?_;rintro e w6 ⟨qb,rfl,hqb,h6⟩;have H6:Hid (Below w.heap.size w w6/\Yk w6 0 qa nl nl Ls/\Yk w6 0 qb nl nl Ls):=⟨H5.out.trans (h6.mono H5.out.size),HQA.out.below h6,by have:=hqb;rw[HNL.out] at this;exact this⟩;rw[HNL.out];clear h6 hqb H5 HQA;go_wp2_with fail
 go_loopw [9] (fun ti wr=>∃(i:Nat),ti=.int .i64 i/\i<=nl/\Hid (Below w.heap.size w wr/\Yk wr 0 qa nl nl Ls/\Yk wr 0 qb nl nl Ls)) (fun ti _=>nl-(intOf ti).toNat)
 case atStart=>exact⟨0,rfl,Qg _,H6.out⟩
 case round=>
  clear H6;obtain⟨i,rfl,hib,HR⟩:=hrel
  by_cases hin:i<nl
  ·have bi1:(0:Int)<=(i:Int):=(by omega);have bi2:(i:Int)<(nl:Int):=(by omega);obtain⟨aa,ca,xa,hqal,_⟩:=HR.out.2.1.at hin;obtain⟨ab,cb,xb,hqbl,_⟩:=HR.out.2.2.at hin;have HLL:=HL2.out i hin;generalize hll:(Ls.getD i []).length=ll at *;have HLN:Hid ((Ls.getD i []).length=ll):=hll;clear hll;go_upto_region 10 with fail;go_quiet (fail);go_wp2_with fail
   obtain⟨wl,hwl⟩:∃wl,wl=wr:=⟨wr,rfl⟩;subst hwl;go_loopw [10] (fun tk wr=>∃(k:Nat),tk=.int .i64 k/\k<=ll/\Hid (Below w.heap.size w wr/\Yk wr 0 qa nl nl Ls/\Yk wr 0 qb nl nl Ls)) (fun tk _=>ll-(intOf tk).toNat)
   case atStart=>exact⟨0,rfl,Qg _,below_drewN HR.out.1 _,HR.out.2.1.below (below_drewN (Below.refl _ _) _),HR.out.2.2.below (below_drewN (Below.refl _ _) _)⟩
   case round=>
    clear HR xa xb;obtain⟨k,rfl,hkb,HR⟩:=hrel;obtain⟨aa,ca,xa,hqal,hoa⟩:=HR.out.2.1.at hin;obtain⟨ab,cb,xb,hqbl,hob⟩:=HR.out.2.2.at hin;rw[HLN.out] at xa xb hoa hob
    by_cases hkn:k<ll
    ·have bk1:(0:Int)<=(k:Int):=(by omega);have bk2:(k:Int)<(ll:Int):=(by omega);obtain⟨q1,rfl,_,_,y1,_⟩:=hoa.atK HLN.out hkn;obtain⟨q2,rfl,_,_,y2,_⟩:=hob.atK HLN.out hkn;clear hoa hob;generalize (Ls.getD i []).getD k 0=z at *;go_upto_region 15 with fail;go_quiet (fail);go_wp2;go_roundw;case rel=>exact⟨k+1,by go_num,by omega,below_drewN HR.out.1 _,HR.out.2.1.below (below_drewN (Below.refl _ _) _),HR.out.2.2.below (below_drewN (Below.refl _ _) _)⟩
     case measure=>simp[intOf];omega
    have hnk:¬(k:Int)<(ll:Int):=(by omega);clear hoa hob;go_wp2;go_roundw;case rel=>exact⟨i+1,by go_num,by omega,HR.out⟩
    case measure=>simp[intOf];omega
  have hni:¬(i:Int)<(nl:Int):=(by omega);have H7:Hid (Below w.heap.size w wr):=HR.out.1;clear HR;go_wp2_with fail
  obtain⟨wl,hwl⟩:∃wl,wl=wr:=⟨wr,rfl⟩;subst hwl;go_loopw [11] (fun tf wr=>∃(f:Nat),tf=.int .i64 f/\f<=nk/\Hid (Below w.heap.size w wr)) (fun tf _=>nk-(intOf tf).toNat)
  case atStart=>exact⟨0,rfl,Qg _,H7⟩
  case round=>
   clear H7;obtain⟨f,rfl,hfb,HR⟩:=hrel
   by_cases hfn:f<nk
   ·have bf1:(f:Int)<(nk:Int):=(by omega);go_wp2_with fail
    refine(HA.out.bounds _ HR.out f hfn).mono ?_;rintro e v1 ⟨vb,vw,rfl,hx⟩;obtain⟨a1,c1,hs1⟩:=hx.nb.shape;obtain⟨a2,c2,hs2⟩:=hx.nw.form;subst hs1 hs2;have HV1:Hid (Below w.heap.size w v1/\Zc v1 0 (.slice a1 (bdI (E f)).length c1) (bdI (E f))/\ZF v1 0 (.slice a2 (bdS (E f)).length c2) (bdS (E f))):=⟨HR.out.trans (hx.low.mono HR.out.size),hx.nb.mono (Qg _),hx.nw.mono0⟩;clear hx;go_wp2_with fail
    refine(HB.out.bounds _ HV1.out.1 f hfn).mono ?_;rintro e v2 ⟨vb,vw,rfl,hx⟩;obtain⟨a3,c3,hs1⟩:=hx.nb.shape;obtain⟨a4,c4,hs2⟩:=hx.nw.form;subst hs1 hs2;have HV2:Hid (Below w.heap.size w v2/\Zc v2 0 (.slice a1 (bdI (E f)).length c1) (bdI (E f))/\ZF v2 0 (.slice a2 (bdS (E f)).length c2) (bdS (E f))/\Zc v2 0 (.slice a3 (bdI (E f)).length c3) (bdI (E f))/\ZF v2 0 (.slice a4 (bdS (E f)).length c4) (bdS (E f))):=⟨HV1.out.1.trans (hx.low.mono HV1.out.1.size),HV1.out.2.1.below hx.low,HV1.out.2.2.below hx.low,hx.nb.mono (Qg _),hx.nw.mono0⟩;clear hx HV1;obtain⟨hel1,hel2⟩:=HE.out f hfn;generalize bdI (E f)=bI at *;generalize bdS (E f)=bS at *;generalize hnI:bI.length=nI at *;generalize hnS:bS.length=nS at *;have HNI:Hid (bI.length=nI/\bS.length=nS):=⟨hnI,hnS⟩;clear hnI hnS
    have HT:Hid (Zla w v2 (.slice a1 nI c1) (.slice a2 nS c2) (.slice a3 nI c3) (.slice a4 nS c4) bI bS):=HV2.out;clear HV2 HR;go_wp2_with fail
    go_loopw [18] (fun tk wr=>∃(k:Nat),tk=.int .i64 k/\k<=nI/\Hid (Zla w wr (.slice a1 nI c1) (.slice a2 nS c2) (.slice a3 nI c3) (.slice a4 nS c4) bI bS)) (fun tk _=>nI-(intOf tk).toNat)
    case atStart=>exact⟨0,rfl,Qg _,HT⟩
    case round=>
     clear HT;obtain⟨k,rfl,hkb,HR⟩:=hrel
     by_cases hkn:k<nI
     ·have bk1:(0:Int)<=(k:Int):=(by omega);have bk2:(k:Int)<(nI:Int):=(by omega);obtain⟨q1,hq1,_,_,y1,_⟩:=HR.out.2.1.atK HNI.out.1 hkn;obtain⟨q2,hq2,_,_,y2,_⟩:=HR.out.2.2.2.1.atK HNI.out.1 hkn;subst hq1 hq2;generalize bI.getD k 0=z at *;go_upto_region 27 with fail;go_quiet (fail);go_wp2;go_roundw;case rel=>exact⟨k+1,by go_num,by omega,HR.out.drew _⟩
      case measure=>simp[intOf];omega
     have hnk:¬(k:Int)<(nI:Int):=(by omega);have HT:Hid (Zla w wr (.slice a1 nI c1) (.slice a2 nS c2) (.slice a3 nI c3) (.slice a4 nS c4) bI bS):=HR;clear HR;go_wp2_with fail
     obtain⟨wm,hwm⟩:∃wm,wm=wr:=⟨wr,rfl⟩;subst hwm;go_loopw [19] (fun tk wr=>∃(k:Nat),tk=.int .i64 k/\k<=nS/\Hid (Zla w wr (.slice a1 nI c1) (.slice a2 nS c2) (.slice a3 nI c3) (.slice a4 nS c4) bI bS)) (fun tk _=>nS-(intOf tk).toNat)
     case atStart=>exact⟨0,rfl,Qg _,HT⟩
     case round=>
      clear HT;obtain⟨k2,rfl,hkb2,HR⟩:=hrel
      by_cases hkn2:k2<nS
      ·have bk1:(0:Int)<=(k2:Int):=(by omega);have bk2:(k2:Int)<(nS:Int):=(by omega);obtain⟨q1,hq1,_,y1⟩:=HR.out.2.2.1.atW HNI.out.2 hkn2 ⟨#[]⟩;obtain⟨q2,hq2,_,y2⟩:=HR.out.2.2.2.2.atW HNI.out.2 hkn2 ⟨#[]⟩;subst hq1 hq2;generalize bS.getD k2 ⟨#[]⟩=z at *;go_upto_region 32 with fail;go_quiet (fail);go_wp2;go_roundw;case rel=>exact⟨k2+1,by go_num,by omega,HR.out.drew _⟩
       case measure=>simp[intOf];omega
      have hnk2:¬(k2:Int)<(nS:Int):=(by omega);have HT:Hid (Below w.heap.size w wr):=HR.out.1;clear HR;go_wp2_with fail
      obtain⟨wn,hwn⟩:∃wn,wn=wr:=⟨wr,rfl⟩;subst hwn;go_loopw [20] (fun ti wr=>∃(i:Nat),ti=.int .i64 i/\i<=n/\Hid (Below w.heap.size w wr)) (fun ti _=>n-(intOf ti).toNat)
      case atStart=>exact⟨0,rfl,Qg _,HT⟩
      case round=>
       clear HT;obtain⟨r,rfl,hrb,HR⟩:=hrel;go_wp2_with fail
       refine(HA.out.rows _ HR.out).mono ?_;rintro e u1 ⟨rfl,hu1⟩;have HU1:Hid (Below w.heap.size w u1):=hu1;clear hu1 HR
       by_cases hrn:r<n
       ·have br2:(r:Int)<(n:Int):=(by omega);go_wp2_with fail
        refine(HA.out.look _ HU1.out f r hfn hrn).mono ?_;rintro e u2 ⟨rfl,hu2⟩;have HU2:Hid (Below w.heap.size w u2):=hu2;clear hu2 HU1;go_wp2_with fail
        refine(HB.out.look _ HU2.out f r hfn hrn).mono ?_;rintro e u3 ⟨rfl,hu3⟩;have HU3:Hid (Below w.heap.size w u3):=hu3;clear hu3 HU2;generalize B f r=bfr at *;go_wp2;go_roundw;case rel=>exact⟨r+1,by go_num,by omega,HU3⟩
        case measure=>simp[intOf];omega
       have hnr:¬(r:Int)<(n:Int):=(by omega);go_wp2;go_roundw;case rel=>exact⟨f+1,by go_num,by omega,HU1⟩
       case measure=>simp[intOf];omega
   have hnf:¬(f:Int)<(nk:Int):=(by omega);go_wp2;go_ret;exact⟨rfl,HR.out⟩
theorem Yk.mono0{w:World}{b q n i:Nat}{Ls:List (List Int)}(h:Yk w b q n i Ls):Yk w 0 q n i Ls:=by
 obtain⟨c,h1,h2,h3⟩:=h.cur
 exact⟨c,h1,h2,fun j hj=>by
  obtain⟨v,hv,ho⟩:=h3 j hj
  exact⟨v,hv,ho.mono (Qg _)⟩⟩
theorem YL.says{w:World}{gb db m n budget:Nat}{es:List ES}{Bb:List (List Nat)}(h:YL w gb db (ZH m n budget es Bb))(hm:m+1<=4)(hn:n<=200)(hk:ZdE m n es Bb)(hkn:∀K∈(ZH m n budget es Bb).ks,Zdq K){X:List XS}(hX:X.Perm (ZH m n budget es Bb).xs)(hs:Qj X):ZoU w gb n (m+1) (strOfNums (ZU (ZH m n budget es Bb) X)) (Zdx (ZH m n budget es Bb)) (fun f=>((ZH m n budget es Bb).ks.getD f Zq).e) (fun f row=>(Bb.getD f []).getD row 0):=by
 have hd:=Zb5 (budget:=budget) hm hn hk;have hkl:(ZH m n budget es Bb).ks.length=m+1:=(by rw[show(ZH m n budget es Bb).ks=_ from Zam _ _ _ _ _];exact YJ es Bb (m+1));have hll:(Zdx (ZH m n budget es Bb)).length=(ZH m n budget es Bb).bs.length:=(by unfold Zdx;rw[List.length_map]);refine⟨fun W hW=>?_,fun W hW=>?_,fun W hW=>?_,fun W hW f hf=>?_,fun W hW f row hf hr=>?_⟩;exact(ZlK gb db n _ W (h.below hW) hd).mono (fun _ _ h=>⟨h.1,hW.trans (h.2.mono hW.size)⟩);exact(Zfn gb db n _ W (h.below hW) hd hkn X hX hs).mono (fun _ _ h=>⟨h.1,hW.trans (h.2.mono hW.size)⟩);refine(ZhB gb db n _ W (h.below hW) hd).mono ?_;rintro e w' ⟨q,rfl,_,hL,hb⟩;rw[hll];exact⟨q,rfl,hL.mono0,hb⟩
 exact Zi6 gb db f n _ W (h.below hW) hd (by rw[hkl];exact hf);exact(Zj8 gb db f row m n budget es Bb W (h.below hW) hm hn hk hf hr).mono (fun _ _ h=>⟨h.1,hW.trans (h.2.mono hW.size)⟩)
theorem Zov{w:World}{ga da gb db m n budget:Nat}{es:List ES}{Bb:List (List Nat)}(ha:YL w ga da (ZH m n budget es Bb))(hb:YL w gb db (ZH m n budget es Bb))(hm:m+1<=4)(hn:n<=200)(hk:ZdE m n es Bb)(hkn:∀K∈(ZH m n budget es Bb).ks,Zdq K):Calls Tryz.prog 30 #[.pointer (some ⟨ga,0,none⟩),.pointer (some ⟨gb,0,none⟩),.int .i64 ((m:Int)+1)] w fun e w'=>e=.returned (.bool true)/\Below w.heap.size w w':=by
 have hd:=Zb5 (budget:=budget) hm hn hk;have hkl:(ZH m n budget es Bb).ks.length=m+1:=(by rw[show(ZH m n budget es Bb).ks=_ from Zam _ _ _ _ _];exact YJ es Bb (m+1));obtain⟨vK,vB,vX,kvs,bvs,X,hX⟩:=ha.md
 have h1:=ZpW ga gb n (m+1) _ _ _ _ w (ha.says hm hn hk hkn hX.perm hX.sorted) (hb.says hm hn hk hkn hX.perm hX.sorted) (by omega) (by omega) (by unfold Zdx;rw[List.length_map];have:=hd.b4;omega) (fun L hL=>by
  unfold Zdx at hL;obtain⟨b,hb,rfl⟩:=List.mem_map.1 hL;rw[ZI];have:=hd.f4 b hb
  omega) (fun f hf=>by
  have:=hd.edg f (by rw[hkl];exact hf);unfold bdI bdS;have h1:=this.lb;have h2:=this.lw;constructor;split;exact Qg _;exact h1;split;exact h2
  exact Qg _)
 exact h1
def esD(m:Nat)(wd:Nat->Bool)(ct:Nat->Int)(bins:Int)(size:Nat)(s:RS):List ES:=(List.range (m+1)).map (fun i=>ZT lwF (wd i) (ct i) bins size (s.cols i) s.ws)
def bbD(m:Nat)(wd:Nat->Bool)(ct:Nat->Int)(bins:Int)(size:Nat)(s:RS):List (List Nat):=(List.range (m+1)).map (fun i=>(s.cols i).map (YM (ZT lwF (wd i) (ct i) bins size (s.cols i) s.ws)))
def Zaq(m:Nat)(wd:Nat->Bool)(ct:Nat->Int)(bins:Int)(size budget:Nat)(s:RS):YY:=ZH m s.ws.length budget (esD m wd ct bins size s) (bbD m wd ct bins size s)
section
variable {m:Nat} {wd:Nat->Bool} {sc ct:Nat->Int} {bins:Int} {size budget:Nat} {l:List Int} {s:RS}
theorem Zeo{i:Nat}(hi:i<m+1):(esD m wd ct bins size s).getD i e0S=ZT lwF (wd i) (ct i) bins size (s.cols i) s.ws:=by simp[esD,Qc,hi]
theorem ZmN{i:Nat}(hi:i<m+1):(bbD m wd ct bins size s).getD i []=(s.cols i).map (YM (ZT lwF (wd i) (ct i) bins size (s.cols i) s.ws)):=by simp[bbD,Qc,hi]
structure Zge(m:Nat)(s:RS):Prop where
 inv:Zac (m+1) s
 val:Zeg (m+1) s
theorem ZsH(hsc:∀i,i<m+1->wd i=false->0<=sc i/\sc i<=3)(h:Zi (m+1) wd sc RS.start l 0=.ok s):Zge m s:=
 ⟨Zac.takes (by omega) hsc l (Zac.start (show 1<=m+1 by omega)) h,Zeg.takes (by omega) hsc l (Zeg.start (m+1)) (Zac.start (show 1<=m+1 by omega)) h⟩
theorem Zge.binok(h:Zge m s)(hc:Q6 lwF m wd ct bins size s):ZdE m s.ws.length (esD m wd ct bins size s) (bbD m wd ct bins size s):=by refine⟨by simp[esD],fun i hi=>?_,fun i hi=>?_,fun i hi=>?_,fun i hi b hb=>?_⟩;rw[ZmN hi,List.length_map];exact h.inv.col i hi;rw[Zeo hi];exact(hc.ok i hi).1;rw[Zeo hi];exact(hc.ok i hi).2.2;rw[ZmN hi] at hb;rw[Zeo hi];obtain⟨v,_,rfl⟩:=List.mem_map.1 hb;exact ZmO _ _
theorem Zge.kn(h:Zge m s)(hs:2<=size)(hs2:size<=32)(hb:2<=bins)(hb2:bins<=16):∀K∈(Zaq m wd ct bins size budget s).ks,Zdq K:=by intro K hK;rw[show(Zaq m wd ct bins size budget s).ks=Z9 (esD m wd ct bins size s) (bbD m wd ct bins size s) (m+1) from Zam _ _ _ _ _] at hK;unfold Z9 at hK;obtain⟨i,hi,rfl⟩:=List.mem_map.1 hK;have hi:=List.mem_range.1 hi;unfold kF;rw[Zeo hi];exact Zkk (by rw[h.inv.col i hi];exact h.inv.ws) hs hs2 hb hb2 (h.val.col i hi)
theorem ZpX{w:World}{ga da gb db:Nat}(ha:YL w ga da (Zaq m wd ct bins size budget s))(hb:YL w gb db (Zaq m wd ct bins size budget s))(h:Zge m s)(hc:Q6 lwF m wd ct bins size s)(hm:m+1<=4)(hs:2<=size)(hs2:size<=32)(hb1:2<=bins)(hb2:bins<=16):Calls Tryz.prog 30 #[.pointer (some ⟨ga,0,none⟩),.pointer (some ⟨gb,0,none⟩),.int .i64 ((m:Int)+1)] w fun e w'=>e=.returned (.bool true)/\Below w.heap.size w w':=
 Zov ha hb hm h.inv.ws (h.binok hc) (h.kn hs hs2 hb1 hb2)
end
def ZrT(m:Nat)(wd:Nat->Bool)(ct:Nat->Int)(bins:Int)(size budget len:Nat)(o:Except (Int×Nat) RS)(e:Ending)(w':World):Prop:=
 match o with
 |.error (z,p)=>e=.returned (.tuple #[.pointer none,.int .i64 z,.int .i64 (p:Nat)])
 |.ok s=>(s.wt≠0/\e=.returned (.tuple #[.pointer none,.int .i64 2,.int .i64 (len:Nat)]))∨
   (s.wt=0/\∃gb db,e=.returned (.tuple #[.pointer (some ⟨gb,0,none⟩),.int .i64 0,.int .i64 0])/\YL w' gb db (Zaq m wd ct bins size budget s))
theorem Zqy(b:ByteArray)(fk m fc cn cc:Nat)(ca:Option Addr)(cz:List Int)(bins:Int)(size budget:Nat)(wd:Nat->Bool)(sc ct:Nat->Int)(w:World)(hF:QE w fk 0 (m+1) wd sc ct)(hc:ZcI (m+1) bins size budget wd sc ct=true)(hcut:ZX w ca cn cz)(hcn:cn<=9223372036854775807)(hb:b.size<=200000000000000):Calls Tryz.prog 25 #[.agg #[.slice (some ⟨fk,0,none⟩) (m+1) fc,.int .i64 bins,.int .i64 (size:Nat),.int .i64 (budget:Nat)],.string b,.slice ca cn cc] w fun e w'=>ZrT m wd ct bins size budget b.size (Zi (m+1) wd sc RS.start (Zb b) 0) e w'/\Below w.heap.size w w':=by
 obtain⟨h1,h4,c1,c2,c3,c4,c5,c6,hfe⟩:=Zcd hc
 have hsc:∀i,i<m+1->wd i=false->0<=sc i/\sc i<=3:=fun i hi hw=>by have:=hfe i hi;unfold ZaO at this;rw[hw] at this;simp at this;omega
 exact Zfs lwF b fk 0 m fc cn cc ca cz bins size budget wd sc ct w hF hc hcut hcn hb (fun s hs _=>Zfj hsc (by omega) (by omega) (by omega) (by omega) hs)
end Go.Proofs.YtfcgnpchbcmdeaaGreat
namespace Go.Proofs.YtfcgnpchbcmdeaaGreat
set_option linter.unusedSimpArgs false
set_option maxRecDepth 100000
set_option maxHeartbeats 16000000
open Go.RowKit Go.Lib Go.Sort
def Zcy(l:List Int):Prop:=∀c∈l,QY c=true
def ZoV(v:VS):Prop:=Zcy (Zb v.word)
theorem ZpZ{c:Int}(h:QY c=true):0<=c/\c<=255:=by unfold QY Zaa at h;simp only[Bool.or_eq_true,Bool.and_eq_true,decide_eq_true_eq] at h;omega
theorem Zcy.val{bs:List Int}(h:Zcy bs)(p:ZC):ZoV (Y4 p bs):=by show Zcy (Zb (strOfNums bs));rw[Zcb (fun c hc=>ZpZ (h c hc))];exact h
theorem Zcy.more{bs:List Int}{c:Int}(h:Zcy bs)(hc:QY c=true):Zcy (bs++[c]):=fun x hx=>by
 rcases List.mem_append.1 hx with h1|h1
 exact h x h1;rw[List.mem_singleton.1 h1];exact hc
theorem ZgN{bs:List Int}{c:Int}{q:Int×List Int}(h:Zcy bs)(e:QA bs c=some q):Zcy q.2:=by
 unfold QA at e;split at e;rename_i hc;injection e with e;rw[<- e];exact h.more (by unfold QY;rw[hc.1];rfl)
 cases e
theorem Zqa{st:Int}{bs:List Int}{c:Int}{q:Int×List Int}(h:Zcy bs)(e:Z1 st bs c=some q):Zcy q.2:=by
 unfold Z1 at e;split at e
 ·by_cases hc:c=34
  rw[if_pos hc] at e;injection e with e;rw[<- e];exact h;rw[if_neg hc] at e;exact ZgN h e
 split at e;exact ZgN h e;split at e
 ·by_cases hc:c=34
  rw[if_pos hc] at e;injection e with e;rw[<- e];exact h;rw[if_neg hc] at e;have e:ZcX st bs c=some q:=e;unfold ZcX at e;split at e;rename_i hs;injection e with e;rw[<- e];exact h.more hs.1
  cases e
 unfold ZaK at e;split at e;rename_i hs;injection e with e;rw[<- e];exact h.more (by rw[hs.1];rfl)
 cases e
theorem ZnI{wd:Bool}{u:Int}{p:ZC}{bs:List Int}{c:Int}{q:ZC×List Int}(h:Zcy bs)(e:ZZ wd u p bs c=some q):Zcy q.2:=by unfold ZZ at e;split at e;obtain⟨r,hr,e⟩:=Option.map_eq_some_iff.1 e;rw[<- e];exact Zqa h hr;obtain⟨r,hr,e⟩:=Option.map_eq_some_iff.1 e;rw[<- e];exact h
structure Zef(n:Nat)(s:RS):Prop where
 bs:Zcy s.bs
 row:∀v∈s.row,ZoV v
 col:∀i,i<n->∀v∈s.cols i,ZoV v
theorem Zef.start(n:Nat):Zef n RS.start:=⟨by simp[RS.start,Zcy],by simp[RS.start],by simp[RS.start]⟩
theorem Zef.take{n:Nat}{wd:Nat->Bool}{sc:Nat->Int}{s s':RS}{c:Int}(h:Zef n s)(ht:Yv n wd sc s c=.ok s'):Zef n s':=by
 unfold Yv at ht;split at ht
 ·cases ht
 split at ht
 ·split at ht
  ·cases ht
  injection ht with ht;subst ht;exact⟨h.bs,h.row,h.col⟩;injection ht with ht;subst ht;exact⟨h.bs,h.row,h.col⟩
 split at ht;rename_i hf;injection ht with ht;subst ht;exact⟨ZnI h.bs hf,h.row,h.col⟩;split at ht
 ·injection ht with ht;subst ht
  have hrow:∀v∈s.row++[Y4 s.p s.bs],ZoV v:=fun v hv=>by
   rcases List.mem_append.1 hv with e|e
   exact h.row v e;simp only[List.mem_singleton] at e;rw[e];exact h.bs.val _
  unfold Qx;split
  ·refine⟨by simp[Zcy],by simp,fun i hi v hv=>?_⟩;simp only[hi,if_true] at hv
   rcases List.mem_append.1 hv with e|e
   exact h.col i hi v e;simp only[List.mem_singleton] at e;rw[e];rename_i hl;have hil:i<(s.row++[Y4 s.p s.bs]).length:=(by rw[hl];exact hi);rw[Qc,Qd hil];exact hrow _ (Qf _)
  exact⟨by simp[Zcy],hrow,h.col⟩
 cases ht
theorem Zef.takes{n:Nat}{wd:Nat->Bool}{sc:Nat->Int}:∀(l:List Int) {s s':RS} {k:Nat},Zef n s->Zi n wd sc s l k=.ok s'->Zef n s'
 |[],s,s',k,h,e=>by injection e with e;subst e;exact h
 | c::l,s,s',k,h,e=>by
  simp only[Zi] at e
  cases ht:Yv n wd sc s c with
  |error z=>rw[ht] at e;cases e
  |ok s1=>rw[ht] at e;exact Zef.takes l (h.take ht) e
theorem Zq2{zs:List Int}(h:zs.Pairwise (· < ·)):ZcU zs=true:=by unfold ZcU Zb6;rw[List.all_eq_true];intro j hj;have hj:=List.mem_range.1 hj;rw[decide_eq_true_eq,Qc,Qc,Qd (show j<zs.length by omega),Qd (show j+1<zs.length by omega)];exact List.pairwise_iff_getElem.1 h j (j+1) (by omega) (by omega) (by omega)
theorem Zqc{ws:List ByteArray}(h:∀s∈ws,Zcy (Zb s)/\s.size<=8)(hn:ws.Nodup):Ye ws=true:=by unfold Ye Zax;rw[List.all_eq_true];intro j hj;have hj:=List.mem_range.1 hj;rw[Qc,Qd hj,Option.getD_some];have h1:=h _ (Qf hj);rw[Bool.and_eq_true];constructor;unfold Q9;rw[Bool.and_eq_true,List.all_eq_true,decide_eq_true_eq];exact⟨h1.1,h1.2⟩;rw[Bool.not_eq_true',<- Bool.not_eq_true,containsS_iff];intro hm;obtain⟨i,hi,e⟩:=List.getElem_of_mem hm;rw[List.length_take] at hi;rw[List.getElem_take] at e;exact List.pairwise_iff_getElem.1 hn i j (by omega) hj (by omega) e
theorem ZnU{wd:Bool}{ct bins:Int}{size d:Nat}{L:List VS}{ws:List Int}(hL:L.length<=200)(hs:2<=size)(hs2:size<=32)(hb:2<=bins)(hb2:bins<=16)(hr:∀v∈L,(-1000000000<=v.num/\v.num<=1000000000)/\v.word.size<=8)(hg:∀v∈L,ZoV v)(hd:d<(ZT lwF wd ct bins size L ws).cnt+2):KRt ⟨ZT lwF wd ct bins size L ws,d⟩:=by
 have hkn:=Zkk (wd:=wd) (ct:=ct) (d:=d) (ws:=ws) hL hs hs2 hb hb2 hr
 cases wd
 have e:ZT lwF false ct bins size L ws=⟨false,Yq L ws bins size,[]⟩:=(by simp[ZT]);rw[e] at hkn hd ⊢;obtain⟨h1,h2⟩:=Ze4 L ws hL hs hs2 hb;have hc:(⟨false,Yq L ws bins size,[]⟩:ES).cnt=(Yq L ws bins size).length:=rfl;refine⟨⟨hkn,?_,?_,hd⟩,fun z hz=>?_⟩;show(⟨false,Yq L ws bins size,[]⟩:ES).cnt<=16;omega;show Zd7 ⟨false,Yq L ws bins size,[]⟩=true;unfold Zd7;rw[hc,decide_eq_true (show(Yq L ws bins size).length<=16 by omega),Zq2 h1];rfl;obtain⟨v,hv,_,rfl⟩:=Zfv hL hs hs2 (fun v hv=>(hr v hv).1) z hz;have:=(hr v hv).1;omega
 have e:ZT lwF true ct bins size L ws=lwF L ws ct bins:=(by simp[ZT]);rw[e] at hkn hd ⊢;have hf:=Zko.fine L ws ct bins hL hb hb2;refine⟨⟨hkn,hf.2.2,?_,hd⟩,fun z hz=>?_⟩;show Zd7 (lwF L ws ct bins)=true;unfold Zd7;rw[decide_eq_true hf.2.2,Zqc (fun s hs=>?_) (ZnY L ws ct bins)];rfl;obtain⟨v,hv,_,rfl⟩:=Zkp s hs;exact⟨hg v hv,(hr v hv).2⟩;have hz:z∈([]:List Int):=hz;simp at hz
theorem Zn2{m n budget:Nat}{es:List ES}{Bb:List (List Nat)}(hm:m+1<=4)(hn:n<=200)(hk:ZdE m n es Bb)(hK:∀K∈(ZH m n budget es Bb).ks,KRt K){X:List XS}(hX:X.Perm (ZH m n budget es Bb).xs)(hs:Qj X):DRt n (ZH m n budget es Bb) X:=by
 have hd:=Zb5 (budget:=budget) hm hn hk;have hks:(ZH m n budget es Bb).ks=Z9 es Bb (m+1):=Zam _ _ _ _ _;have hkl:(Z9 es Bb (m+1)).length=m+1:=YJ es Bb (m+1)
 have hbin:∀g,g<m+1->∀r,(Bb.getD g []).getD r 0<((Z9 es Bb (m+1)).getD g Zq).many:=fun g hg r=>by
  rw[QJ es Bb hg];show _<(es.getD g e0S).cnt+2;rw[Qc]
  rcases Nat.lt_or_ge r (Bb.getD g []).length with h1|h1
  rw[Qd h1];exact hk.bin g hg _ (Qf h1);rw[List.getElem?_eq_none h1];simp
 have hmem:∀x,x∈(ZH m n budget es Bb).xs↔_:=fun x=>ZgS (Ks:=Z9 es Bb (m+1)) (Os:=Qr es Bb (m+1)) (Bb:=Bb) (n:=n) (Zar m (Z9 es Bb (m+1)) (Qr es Bb (m+1)) n budget) ⟨Z9 es Bb (m+1),[],[]⟩ x rfl;have hN:∀b∈(ZH m n budget es Bb).bs,b.N=Zap (Z9 es Bb (m+1)) (Qr es Bb (m+1)) Bb n b.fs:=Zld (Zar m (Z9 es Bb (m+1)) (Qr es Bb (m+1)) n budget) ⟨Z9 es Bb (m+1),[],[]⟩ rfl (by simp);have hall:=Zex m (Z9 es Bb (m+1)) (Qr es Bb (m+1)) n budget;have hnd:=ZgL m (Z9 es Bb (m+1)) (Qr es Bb (m+1)) n budget
 have hbf:(ZH m n budget es Bb).bs.map (fun b=>b.fs)=(Zar m (Z9 es Bb (m+1)) (Qr es Bb (m+1)) n budget).map (fun G=>G.fs):=by have h1:=(ZfY (Os:=Qr es Bb (m+1)) (Bb:=Bb) (n:=n) (Ks:=Z9 es Bb (m+1)) (Zar m (Z9 es Bb (m+1)) (Qr es Bb (m+1)) n budget) ⟨Z9 es Bb (m+1),[],[]⟩ rfl (fun G hG g hg=>hbin g (List.mem_range.1 (hall.mem_iff.1 (List.mem_flatMap.2 ⟨G,hG,hg⟩)))) (by simp)).2;rw[show(ZH m n budget es Bb).bs=_ from rfl];exact h1
 have hO:∀f,f<m+1->∀row,row<n->((Qr es Bb (m+1)).getD f []).getD row false=decide ((Bb.getD f []).getD row 0≠((Z9 es Bb (m+1)).getD f Zq).d):=fun f hf row hr=>by rw[ZcR es Bb hf,QJ es Bb hf];have hl:row<(Bb.getD f []).length:=(by rw[hk.lb f hf];exact hr);unfold oF ZbT;rw[Qc,List.getElem?_map,Qd hl,Qc (l:=Bb.getD f []),Qd hl];rfl
 have hkey:=hd.keys;have hxl:=hd.xl;generalize ZH m n budget es Bb=D at *;generalize Zar m (Z9 es Bb (m+1)) (Qr es Bb (m+1)) n budget=Gs at *
 have hfk:∀b∈D.bs,∀f∈b.fs,f<m+1:=fun b hb f hf=>by have:=hd.fk b hb f hf;rw[hks,hkl] at this;exact this
 have hGb:∀b∈D.bs,∃G∈Gs,G.fs=b.fs:=fun b hb=>by have:b.fs∈D.bs.map (fun b=>b.fs):=List.mem_map.2 ⟨b,hb,rfl⟩;rw[hbf] at this;obtain⟨G,hG,e⟩:=List.mem_map.1 this;exact⟨G,hG,e⟩
 refine⟨hn,hd.k0,hd.k4,hd.b0,hd.b4,hK,fun b hb=>?_,?_,?_,fun x hx=>?_,by rw[hX.length_eq];exact hxl⟩
 ·refine⟨(hd.bok b hb).len,(hd.bok b hb).le,hd.g40 b hb,hd.f0 b hb,by have:=hd.f4 b hb;omega,hd.fk b hb,(hd.bok b hb).sum,?_⟩;rw[hks];have h1:=hN b hb;rw[h1];refine Zqv (fun f hf r hr=>⟨hbin f (hfk b hb f hf) r,fun h2=>?_⟩) (by rw[<- h1];exact(hd.bok b hb).len);rw[hO f (hfk b hb f hf) r hr] at h2
  simpa using h2
 have e:D.bs.flatMap (·.fs)=Zbu Gs:=(by show D.bs.flatMap (fun b=>b.fs)=Gs.flatMap (fun G=>G.fs);rw[List.flatMap_def,List.flatMap_def,hbf]);rw[e,hks,hkl];exact hall;have hkX:Zbx X:=(hX.symm.pairwise_iff (R:=fun x y:XS=>x.row≠y.row∨x.f≠y.f) (fun h=>by omega)).1 hkey;exact(hs.and hkX).imp (fun h=>by omega)
 rcases(hmem x).1 (hX.subset hx) with h1|⟨G,hG,A,C,hf,hr,h3,h4,h5⟩
 simp at h1;have hxf:x.f<m+1:=List.mem_range.1 (hall.mem_iff.1 (List.mem_flatMap.2 ⟨G,hG,by rw[hf];simp⟩));have hseat:=hd.seat (f:=x.f) (by rw[hks,hkl];exact hxf);unfold Y2;have eB:Zv ⟨D.ks,D.bs,[]⟩ x.f=Zv D x.f:=rfl;have eP:QX ⟨D.ks,D.bs,[]⟩ x.f=QX D x.f:=rfl;have eO:Y6 ⟨D.ks,D.bs,[]⟩ (Zv D x.f) (QX D x.f)=Y6 D (Zv D x.f) (QX D x.f):=rfl;simp only[eB,eP,eO];generalize Zv D x.f=bi at *;generalize QX D x.f=p at *;have hbm:D.bs.getD bi ZB∈D.bs:=(by rw[Qc,Qd hseat.hb];exact Qf _);have hNb:=hN _ hbm
 have hsp:(D.bs.getD bi ZB).fs=(D.bs.getD bi ZB).fs.take p++x.f::(D.bs.getD bi ZB).fs.drop (p+1):=by have h1:=hseat.at_;rw[Qc (l:=(D.bs.getD bi ZB).fs),Qd hseat.hp] at h1;simp only[Option.getD_some] at h1;have h2:=List.take_append_drop p (D.bs.getD bi ZB).fs;rw[List.drop_eq_getElem_cons hseat.hp,h1] at h2;exact h2.symm
 have hoff:Y6 D bi p=1+Qp (Z9 es Bb (m+1)) ((D.bs.getD bi ZB).fs.take p):=(by unfold Y6;rw[hks]);obtain⟨G',hG',e'⟩:=hGb _ hbm;have hone:=Zia (f:=x.f) Gs hnd G hG G' hG' (by rw[hf];simp) (by rw[e',hsp];simp);have hA:A=(D.bs.getD bi ZB).fs.take p:=ZiC A _ C ((D.bs.getD bi ZB).fs.drop (p+1)) (by rw[<- hf];exact hone.2) (by rw[<- hf,hone.1,e'];exact hsp);rw[Zo0 (hd.bok _ hbm).le (by have:=hd.g40 _ hbm;omega),hNb,hoff,<- hA];have hfs:(D.bs.getD bi ZB).fs=A++x.f::C:=(by rw[<- e',<- hone.1,hf]);have hAm:∀g∈A,g<m+1:=fun g hg=>hfk _ hbm g (by rw[hfs];exact List.mem_append_left _ hg);rw[hfs];have hcol:Znp n (QO (Z9 es Bb (m+1)) (Qr es Bb (m+1)) Bb n [] A):=ZiU (fun g hg=>hbin g (hAm g hg));have hcoff:=Zem (Z9 es Bb (m+1)) (Qr es Bb (m+1)) Bb n [] A
 have hlt:(Zap (Z9 es Bb (m+1)) (Qr es Bb (m+1)) Bb n A).getD x.row 0<1+Qp (Z9 es Bb (m+1)) A:=by rw[<- hcoff,Qc];have hl:x.row<(Zap (Z9 es Bb (m+1)) (Qr es Bb (m+1)) Bb n A).length:=(by unfold Zap;rw[hcol.len];exact hr);rw[Qd hl];exact hcol.lt _ (Qf _)
 have hfin:(Zap (Z9 es Bb (m+1)) (Qr es Bb (m+1)) Bb n (A++x.f::C)).getD x.row 0=(Zap (Z9 es Bb (m+1)) (Qr es Bb (m+1)) Bb n A).getD x.row 0:=by have h6:=(Zc3 (Ks:=Z9 es Bb (m+1)) (Os:=Qr es Bb (m+1)) (Bb:=Bb) (n:=n) (x.f::C) (QO (Z9 es Bb (m+1)) (Qr es Bb (m+1)) Bb n [] A) hcol.pos x.row hr).1 h4;have h7:Zap (Z9 es Bb (m+1)) (Qr es Bb (m+1)) Bb n (A++x.f::C)=((x.f::C).foldl (Zh (Z9 es Bb (m+1)) (Qr es Bb (m+1)) Bb n) (QO (Z9 es Bb (m+1)) (Qr es Bb (m+1)) Bb n [] A)).N:=(by unfold Zap QO;rw[List.foldl_append]);rw[h7];exact h6
 rw[hfin,hks];rw[hO x.f hxf x.row hr] at h3;have h8:=hbin x.f hxf x.row;unfold KS.many at h8;unfold Zdy ZaV;simp only[Bool.and_eq_true,decide_eq_true_eq,Bool.not_eq_true',decide_eq_false_iff_not];refine⟨hr,by rw[hkl];exact hxf,⟨by rw[h5];omega,?_⟩,by omega,hlt⟩;rw[h5];have h9:=of_decide_eq_true h3;omega
section
variable {m:Nat} {wd:Nat->Bool} {sc ct:Nat->Int} {bins:Int} {size budget:Nat} {l:List Int} {s:RS}
theorem Zge.krt(h:Zge m s)(hg:Zef (m+1) s)(hs:2<=size)(hs2:size<=32)(hb:2<=bins)(hb2:bins<=16):∀K∈(Zaq m wd ct bins size budget s).ks,KRt K:=by intro K hK;rw[show(Zaq m wd ct bins size budget s).ks=Z9 (esD m wd ct bins size s) (bbD m wd ct bins size s) (m+1) from Zam _ _ _ _ _] at hK;unfold Z9 at hK;obtain⟨i,hi,rfl⟩:=List.mem_map.1 hK;have hi:=List.mem_range.1 hi;unfold kF;rw[Zeo hi];refine ZnU (by rw[h.inv.col i hi];exact h.inv.ws) hs hs2 hb hb2 (h.val.col i hi) (hg.col i hi) ?_;have:=ZgW ((bbD m wd ct bins size s).getD i []) (show 0<(ZT lwF (wd i) (ct i) bins size (s.cols i) s.ws).cnt+2 by omega);rw[ZiY] at this;omega
theorem ZqU(h:Zge m s)(hg:Zef (m+1) s)(hc:Q6 lwF m wd ct bins size s)(hm:m+1<=4)(hs:2<=size)(hs2:size<=32)(hb:2<=bins)(hb2:bins<=16){X:List XS}(hX:X.Perm (Zaq m wd ct bins size budget s).xs)(hx:Qj X):opD (ZU (Zaq m wd ct bins size budget s) X)=some ⟨(Zaq m wd ct bins size budget s).ks,(Zaq m wd ct bins size budget s).bs,X⟩:=
 Zoc (Zn2 hm h.inv.ws (h.binok hc) (h.krt hg hs hs2 hb hb2) hX hx)
end
end Go.Proofs.YtfcgnpchbcmdeaaGreat
namespace Go.Proofs.YtfcgnpchbcmdeaaGreat
set_option linter.unusedSimpArgs false
set_option maxRecDepth 100000
set_option maxHeartbeats 16000000
open Go.RowKit
theorem ZbC{α:Type}(f:α->List Int)(c:Nat):∀(L:List α),(∀x∈L,(f x).length<=c)->(L.flatMap f).length<=L.length*c
 |[],_=>by simp
 |x::L,h=>by have h1:=h x (by simp);have h2:=ZbC f c L (fun y hy=>h y (by simp[hy]));rw[List.flatMap_cons,Qe,List.length_cons,Nat.succ_mul];omega
theorem Zlr{n:Nat}{D:YY}(hd:Zbw n D)(hk:∀K∈D.ks,Zdq K){X:List XS}(hX:X.Perm D.xs):(ZU D X).length<=100000:=by have h1:=ZbC knA 9003 D.ks (fun K hK=>Zm5 (hk K hK));have h2:=ZbC YP 5000 D.bs (fun b hb=>(hd.bun b hb).2.2.2.2);have h3:=ZbC xB 3 X (fun x _=>Qa _);have h4:=hd.k4;have h5:=hd.b4;have h6:=hd.xl;rw[<- hX.length_eq] at h6;unfold ZU Zat;simp only[Qe,List.length_cons,List.length_nil,Zbp];have h7:D.ks.length*9003<=4*9003:=Nat.mul_le_mul_right _ h4;have h8:D.bs.length*5000<=4*5000:=Nat.mul_le_mul_right _ h5;omega
theorem YL.of_perm{w:World}{gb db:Nat}{D:YY}{X:List XS}(h:YL w gb db ⟨D.ks,D.bs,X⟩)(hX:X.Perm D.xs):YL w gb db D:=by obtain⟨hg,vK,vB,vX,kvs,bvs,Y,hM⟩:=h;exact⟨hg,vK,vB,vX,kvs,bvs,Y,hM.ds,hM.kn,hM.perm.trans hX,hM.sorted⟩
section
variable {m:Nat} {wd:Nat->Bool} {sc ct:Nat->Int} {B S U:Nat} {l:List Int} {s:RS}
theorem Zny{w:World}{gb db:Nat}(ho:YL w gb db (Zaq m wd ct (B:Nat) S U s))(h:Zge m s)(hc:Q6 lwF m wd ct (B:Nat) S s)(hm:m+1<=4)(hs:2<=S)(hs2:S<=32)(hb1:2<=B)(hb2:B<=16):∃X,X.Perm (Zaq m wd ct (B:Nat) S U s).xs/\Qj X/\(ZU (Zaq m wd ct (B:Nat) S U s) X).length<=100000/\Calls Tryz.prog 34 #[.pointer (some ⟨gb,0,none⟩)] w fun e w'=>e=.returned (.string (strOfNums (ZU (Zaq m wd ct (B:Nat) S U s) X)))/\Below w.heap.size w w':=by have hd:Zbw s.ws.length (Zaq m wd ct (B:Nat) S U s):=Zb5 hm h.inv.ws (h.binok hc);have hkn:=h.kn (wd:=wd) (ct:=ct) (budget:=U) (bins:=(B:Nat)) hs hs2 (by omega) (by omega);obtain⟨vK,vB,vX,kvs,bvs,X,hM⟩:=ho.md;exact⟨X,hM.perm,hM.sorted,Zlr hd hkn hM.perm,Zfn gb db _ _ w ho hd hkn X hM.perm hM.sorted⟩
theorem ZpE{w:World}{X:List XS}(h:Zge m s)(hg:Zef (m+1) s)(hc:Q6 lwF m wd ct (B:Nat) S s)(hm:m+1<=4)(hs:2<=S)(hs2:S<=32)(hb1:2<=B)(hb2:B<=16)(hX:X.Perm (Zaq m wd ct (B:Nat) S U s).xs)(hx:Qj X)(hl:(ZU (Zaq m wd ct (B:Nat) S U s) X).length<=100000):Calls Tryz.prog 33 #[.string (strOfNums (ZU (Zaq m wd ct (B:Nat) S U s) X))] w fun e w'=>∃gb db,e=.returned (.tuple #[.pointer (some ⟨gb,0,none⟩),.int .i64 0])/\YL w' gb db (Zaq m wd ct (B:Nat) S U s)/\Below w.heap.size w w':=by
 have hz:(strOfNums (ZU (Zaq m wd ct (B:Nat) S U s) X)).size=(ZU (Zaq m wd ct (B:Nat) S U s) X).length:=(by simp[strOfNums,ByteArray.size]);refine(ZnP (strOfNums (ZU (Zaq m wd ct (B:Nat) S U s) X)) w (by omega)).mono ?_;intro e w' hG;rw[Zcb (ZdZ _ _),ZqU h hg hc hm hs hs2 (by omega) (by omega) hX hx] at hG;obtain⟨gb,db,e1,hO,hb⟩:=hG;exact⟨gb,db,e1,hO.out.of_perm hX,hb⟩
end
theorem ZhE(ca la:Option Addr)(cn cc ln lc:Nat)(cs l:List Int)(w:World)(hcs:ZX w ca cn cs)(hl:ZX w la ln l)(hcn:cn<=9223372036854775807)(hln:ln<=9223372036854775807):Calls Tryz.prog 11 #[.slice ca cn cc,.slice la ln lc] w fun e w'=>e=.returned (.bool true)/\Below w.heap.size w w':=by
 have HCS:=fun W (hW:Below w.heap.size w W)=>ZgI ca cn cc cs W (hcs.below hW) hcn;have HLI:Hid (∀W,Below w.heap.size w W->ZX W la ln l):=fun W hW=>hl.below hW;have HHD:Hid ZjD:=Zps;have hcf:=ZjS cs;have hconf:=Zqr cs;have hmany:Y8 cs l<=150:=(by unfold Y8;omega);have hts:=Zed cs l (Y8 cs l);have htk:=Znl cs l (Y8 cs l) hmany;have hst:=Zmm cs l (Y8 cs l);obtain⟨h1,h4,c1,c2,c3,c4,c5,c6,hfe⟩:=Zcd hconf
 have hsc:∀i,i<YH cs+1->cfW cs i=false->0<=cfC cs i/\cfC cs i<=3:=fun i hi hw=>by have:=hfe i hi;unfold ZaO at this;rw[hw] at this;simp at this;omega
 have htook:=ZsH hsc htk;have hsig:=Zef.takes (n:=YH cs+1) _ (Zef.start (YH cs+1)) htk;have hclo:Q6 lwF (YH cs) (cfW cs) (cfT cs) (cfB cs:Nat) (cfS cs) (stR cs l (Y8 cs l)):=Zfj hsc (by omega) (by omega) (by omega) (by omega) htk;have HT0:Hid (Zi (YH cs+1) (cfW cs) (cfC cs) RS.start (Zb (QC cs l (Y8 cs l))) 0=.ok (stR cs l (Y8 cs l))/\(stR cs l (Y8 cs l)).wt=0):=⟨htk,hst.wt⟩
 have HRO:Hid (∀W fk fc,Below w.heap.size w W->QE W fk 0 (YH cs+1) (cfW cs) (cfC cs) (cfT cs)->Calls Tryz.prog 24 #[.agg #[.slice (some ⟨fk,0,none⟩) (YH cs+1) fc,.int .i64 (cfB cs:Nat),.int .i64 (cfS cs:Nat),.int .i64 (cfU cs:Nat)],.slice la ln lc] W fun e w'=>∃v,e=.returned (.tuple #[v,.string (QC cs l (Y8 cs l))])/\Below W.heap.size W w'):=fun W fk fc hW hF=>(Zjd fk fc ln lc la cs l W hF (HLI.out W hW) hln).mono (fun _ _ h=>by obtain⟨v,h1,_,h3⟩:=h;exact⟨v,h1,h3⟩)
 have HFE:Hid (∀W fk fc,QE W fk 0 (YH cs+1) (cfW cs) (cfC cs) (cfT cs)->Calls Tryz.prog 25 #[.agg #[.slice (some ⟨fk,0,none⟩) (YH cs+1) fc,.int .i64 (cfB cs:Nat),.int .i64 (cfS cs:Nat),.int .i64 (cfU cs:Nat)],.string (QC cs l (Y8 cs l)),.slice none 0 0] W fun e w'=>ZrT (YH cs) (cfW cs) (cfT cs) (cfB cs:Nat) (cfS cs) (cfU cs) (QC cs l (Y8 cs l)).size (Zi (YH cs+1) (cfW cs) (cfC cs) RS.start (Zb (QC cs l (Y8 cs l))) 0) e w'/\Below W.heap.size W w'):=fun W fk fc hF=>Zqy _ fk (YH cs) fc 0 0 none [] (cfB cs:Nat) (cfS cs) (cfU cs) (cfW cs) (cfC cs) (cfT cs) W hF hconf ⟨rfl,by simp,.inl rfl⟩ (by decide) (by omega)
 have HSA:Hid (∀(W:World) (ga da gb db:Nat),YL W ga da (Zaq (YH cs) (cfW cs) (cfT cs) (cfB cs:Nat) (cfS cs) (cfU cs) (stR cs l (Y8 cs l)))->YL W gb db (Zaq (YH cs) (cfW cs) (cfT cs) (cfB cs:Nat) (cfS cs) (cfU cs) (stR cs l (Y8 cs l)))->Calls Tryz.prog 30 #[.pointer (some ⟨ga,0,none⟩),.pointer (some ⟨gb,0,none⟩),.int .i64 ((YH cs:Int)+1)] W fun e w'=>e=.returned (.bool true)/\Below W.heap.size W w'):=fun W ga da gb db h1 h2=>ZpX h1 h2 htook hclo (by omega) (by omega) (by omega) (by omega) (by omega)
 have HBY:Hid (∀(W:World) (gb db:Nat),YL W gb db (Zaq (YH cs) (cfW cs) (cfT cs) (cfB cs:Nat) (cfS cs) (cfU cs) (stR cs l (Y8 cs l)))->∃t:ByteArray,(Calls Tryz.prog 34 #[.pointer (some ⟨gb,0,none⟩)] W fun e w'=>e=.returned (.string t)/\Below W.heap.size W w')/\∀V:World,Calls Tryz.prog 33 #[.string t] V fun e w'=>∃gb db,e=.returned (.tuple #[.pointer (some ⟨gb,0,none⟩),.int .i64 0])/\YL w' gb db (Zaq (YH cs) (cfW cs) (cfT cs) (cfB cs:Nat) (cfS cs) (cfU cs) (stR cs l (Y8 cs l)))/\Below V.heap.size V w'):=fun W gb db ho=>by obtain⟨X,hX,hx,hlen,hcall⟩:=Zny ho htook hclo (by omega) (by omega) (by omega) (by omega) (by omega);exact⟨_,hcall,fun V=>ZpE htook hsig hclo (by omega) (by omega) (by omega) (by omega) (by omega) hX hx hlen⟩
 have hm4:YH cs<=3:=hcf.2.2.2.2.2;clear hcf hconf hmany hts htk hst h1 h4 c1 c2 c3 c4 c5 c6 hfe hcs hl hsc htook hsig hclo;generalize QC cs l (Y8 cs l)=tx at *;generalize stR cs l (Y8 cs l)=s0 at *;generalize YH cs=m at *;generalize cfW cs=wd at *;generalize cfC cs=sc at *;generalize cfT cs=ct at *;generalize cfB cs=B at *;generalize cfS cs=S at *;generalize cfU cs=U at *;generalize hDD:Zaq m wd ct (B:Nat) S U s0=D at *;have HDD:Hid (Zaq m wd ct (B:Nat) S U s0=D):=hDD;clear hDD;go_enter Tryz.func11,Tryz.ntmps11;go_wp2_with fail
 refine(HHD.out _).mono ?_;rintro e w1 ⟨rfl,hb1⟩;have HB1:Hid (Below w.heap.size w w1):=hb1;have HC1:=HCS w1 hb1;clear hb1 HCS;go_wp2_with fail
 refine HC1.mono ?_;rintro e w2 ⟨fk,fc,rfl,hfk,hF2,hb2⟩;have HB2:Hid (Below w.heap.size w w2/\QE w2 fk 0 (m+1) wd sc ct):=⟨HB1.out.trans (hb2.mono HB1.out.size),hF2⟩;have hs2:=HB2.out.1.size;clear hb2 hF2 HC1 hfk;go_upto_region 3 with fail;generalize hW3:w2.alloc (.cells #[.slice (some ⟨fk,0,none⟩) (m+1) fc,.int .i64 (B:Nat),.int .i64 (S:Nat),.int .i64 (U:Nat)] 37)=w3;have hX3:w3.heap[w2.heap.size]? =some (.cells #[.slice (some ⟨fk,0,none⟩) (m+1) fc,.int .i64 (B:Nat),.int .i64 (S:Nat),.int .i64 (U:Nat)] 37 (0,0)):=(by rw[<- hW3];exact heap_alloc_new _ _);have hb3:Below w2.heap.size w2 w3:=(by rw[<- hW3];exact(Below.refl _ _).alloc (Qa _) _);have hkl:w2.heap.size<w3.heap.size:=(Qb hX3).1
 have HW:Hid (∀W,Below w3.heap.size w3 W->Below w.heap.size w W/\QE W fk 0 (m+1) wd sc ct/\W.cell? ⟨w2.heap.size,0,none⟩=some (.slice (some ⟨fk,0,none⟩) (m+1) fc)/\W.cell? ⟨w2.heap.size,1,none⟩=some (.int .i64 (B:Nat))/\W.cell? ⟨w2.heap.size,2,none⟩=some (.int .i64 (S:Nat))/\W.cell? ⟨w2.heap.size,3,none⟩=some (.int .i64 (U:Nat))):=fun W hW=>by
  have hb:Below w2.heap.size w2 W:=hb3.trans (hW.mono hb3.size);refine⟨HB2.out.1.trans (hb.mono hs2),HB2.out.2.below hb,?_,?_,?_,?_⟩;exact(hW.cell (p:=⟨w2.heap.size,0,none⟩) hkl).trans (cell_of_row _ _ 0 _ 37 (0,0) hX3);exact(hW.cell (p:=⟨w2.heap.size,1,none⟩) hkl).trans (cell_of_row _ _ 1 _ 37 (0,0) hX3);exact(hW.cell (p:=⟨w2.heap.size,2,none⟩) hkl).trans (cell_of_row _ _ 2 _ 37 (0,0) hX3);exact(hW.cell (p:=⟨w2.heap.size,3,none⟩) hkl).trans (cell_of_row _ _ 3 _ 37 (0,0) hX3)
 clear hW3 hX3 hb3 HB2 HB1 hs2;obtain⟨_,_,e0,e1,e2,e3⟩:=HW.out w3 (Below.refl _ _);go_wp2_with fail
 refine(HRO.out _ _ _ (HW.out w3 (Below.refl _ _)).1 (HW.out w3 (Below.refl _ _)).2.1).mono ?_;rintro e w4 ⟨vr,rfl,hb4⟩;have HB4:Hid (Below w3.heap.size w3 w4):=hb4;clear hb4 e0 e1 e2 e3;obtain⟨_,_,e0,e1,e2,e3⟩:=HW.out w4 HB4.out;go_wp2_with fail
 refine(HFE.out w4 fk fc (HW.out w4 HB4.out).2.1).mono ?_;rintro e w5 ⟨hA,hb5⟩;rw[HT0.out.1] at hA
 rcases hA with⟨hne,_⟩|⟨_,ga,da,rfl,hO5⟩
 exact absurd HT0.out.2 hne;rw[HDD.out] at hO5;have HB5:Hid (Below w3.heap.size w3 w5/\YL w5 ga da D):=⟨HB4.out.trans (hb5.mono HB4.out.size),hO5⟩;clear hb5 hO5 e0 e1 e2 e3 HB4;obtain⟨t,hT,HOP⟩:=HBY.out w5 ga da HB5.out.2;go_wp2_with fail
 refine hT.mono ?_;rintro e w6 ⟨rfl,hb6⟩;have HB6:Hid (Below w3.heap.size w3 w6/\YL w6 ga da D):=⟨HB5.out.1.trans (hb6.mono HB5.out.1.size),HB5.out.2.below hb6⟩;clear hb6 HB5 hT HBY;go_wp2_with fail
 refine(HOP w6).mono ?_;rintro e w7 ⟨gb,db,rfl,hO7,hb7⟩;have HB7:Hid (Below w3.heap.size w3 w7/\YL w7 ga da D/\YL w7 gb db D):=⟨HB6.out.1.trans (hb7.mono HB6.out.1.size),HB6.out.2.below hb7,hO7⟩;clear hb7 HB6 hO7 HOP;obtain⟨_,_,e0,e1,e2,e3⟩:=HW.out w7 HB7.out.1;go_wp2_with fail
 refine(HSA.out w7 ga da gb db HB7.out.2.1 HB7.out.2.2).mono ?_;rintro e w8 ⟨rfl,hb8⟩;have HFI:Hid (Below w.heap.size w w8):=(HW.out w8 (HB7.out.1.trans (hb8.mono HB7.out.1.size))).1;clear hb8 HB7 e0 e1 e2 e3;go_wp2;go_ret;exact⟨rfl,HFI.out⟩
end Go.Proofs.YtfcgnpchbcmdeaaGreat
