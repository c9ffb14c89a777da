import Derived.Test.YtfcgnpchbcmdeaaGreatZfaw
import Derived.Laws.BitsLemmas
import Derived.Test.YtfcgnpchbcmdeaaGreatZfaf
import Derived.Test.YtfcgnpchbcmdeaaGreatZfay
import Derived.Deep.RegionHeld3
namespace Go.Proofs.YtfcgnpchbcmdeaaGreat
set_option linter.unusedSimpArgs false
set_option maxRecDepth 100000
set_option maxHeartbeats 8000000
open Go.RowKit
def ZbS(f:Nat->Nat)(b:Nat):Nat->Nat
 |0=>0
 |c+1=>ZbS f b c+f (b+c)*2^c
theorem Zdq{f:Nat->Nat}(hf:∀t,f t<=1)(b:Nat):∀c,ZbS f b c<2^c
 |0=>by simp[ZbS]
 |c+1=>by have:=Zdq hf b c;have h1:f (b+c)*2^c<=1*2^c:=Nat.mul_le_mul_right _ (hf _);simp only[ZbS,Nat.pow_succ];omega
def QL(f:Nat->Nat)(T j:Nat):Nat:=ZbS f (8*j) (min 8 (T-8*j))
theorem Zie{f:Nat->Nat}(hf:∀t,f t<=1)(T j:Nat):QL f T j<256:=by have h:=Zdq hf (8*j) (min 8 (T-8*j));have:(2:Nat)^(min 8 (T-8*j))<=2^8:=Nat.pow_le_pow_right (by decide) (by omega);unfold QL;omega
theorem ZmJ(f:Nat->Nat)(T:Nat):QL f (T+1) (T/8)=QL f T (T/8)+f T*2^(T%8):=by unfold QL;have e1:min 8 (T-8*(T/8))=T%8:=(by omega);have e2:min 8 (T+1-8*(T/8))=T%8+1:=(by omega);rw[e1,e2];simp only[ZbS];rw[show 8*(T/8)+T%8=T by omega]
theorem Zjy{f:Nat->Nat}(hf:∀t,f t<=1)(T:Nat):QL f T (T/8)<2^(T%8):=by unfold QL;have e1:min 8 (T-8*(T/8))=T%8:=(by omega);rw[e1];exact Zdq hf _ _
theorem Zjx(f:Nat->Nat)(T:Nat){j:Nat}(h:j≠T/8):QL f (T+1) j=QL f T j:=by unfold QL;have:min 8 (T+1-8*j)=min 8 (T-8*j):=(by omega);rw[this]
def ZV(f:Nat->Nat)(nb T:Nat):List Int:=(List.range nb).map (fun j=>((QL f T j:Nat):Int))
theorem Zbo(f:Nat->Nat)(nb T:Nat):(ZV f nb T).length=nb:=by simp[ZV]
theorem ZfC(f:Nat->Nat){nb j:Nat}(T:Nat)(h:j<nb):(ZV f nb T).getD j 0=((QL f T j:Nat):Int):=by simp[ZV,List.getD,h]
theorem Zkb(f:Nat->Nat)(nb:Nat):ZV f nb 0=List.replicate nb 0:=by apply List.ext_getElem;simp[ZV];intro i h1 h2;simp[ZV,QL,ZbS]
theorem Zl3(f:Nat->Nat)(nb T:Nat):(ZV f nb T).set (T/8) ((QL f (T+1) (T/8):Nat):Int)=ZV f nb (T+1):=by
 apply List.ext_getElem;simp[ZV];intro i h1 h2;simp only[ZV,List.getElem_set,List.getElem_map,List.getElem_range]
 by_cases e:T/8=i
 rw[if_pos e,<- e];rw[if_neg e,Zjx f T (fun h=>e h.symm)]
theorem Zjh(n:Int)(h₀:0<=n)(h₁:n<2^8):IntKind.u8.wrap n=n:=by simp[IntKind.wrap,IntKind.bits,IntKind.signed];omega
theorem Zjt(a b:Nat)(ha:a<256)(hb:b<256):bits .and .u8 a b=((a&&&b:Nat):Int)/\bits .or .u8 a b=((a|||b:Nat):Int):=bits_nat .u8 8 (by decide) Zjh a b (by omega) (by omega)
theorem ZkI(a:Nat):a&&&1=a%2:=Nat.and_one_is_mod a
theorem Zni{x b k:Nat}(hx:x<2^k):x|||(b*2^k)=x+b*2^k:=by have:=Nat.two_pow_add_eq_or_of_lt hx b;rw[Nat.or_comm,Nat.mul_comm b,<- this];omega
theorem Zd2(r d:Int)(w:World):Calls Tryz.prog 330 #[.agg #[.int .i64 r,.int .i64 d]] w fun e w'=>e=.returned (.int .i64 d)/\w'=w.alloc (.cells #[.int .i64 r,.int .i64 d] 379):=by go_enter Tryz.func330,Tryz.ntmps330;go_wp2;go_ret;exact⟨rfl,rfl⟩
theorem Zi3(r d:Int)(w:World):Calls Tryz.prog 299 #[.agg #[.int .i64 r,.int .i64 d]] w fun e w'=>e=.returned (.int .i64 r)/\w'=w.alloc (.cells #[.int .i64 r,.int .i64 d] 379):=by go_enter Tryz.func299,Tryz.ntmps299;go_wp2;go_ret;exact⟨rfl,rfl⟩
theorem Zo.put{w:World}{base g cap n k:Nat}{zs:List Int}(h:Zo w base (.slice (some ⟨g,0,none⟩) n cap) zs)(hn:n=zs.length)(z:Int):Zo (w.setCell ⟨g,k,none⟩ (.int .u8 z)) base (.slice (some ⟨g,0,none⟩) n cap) (zs.set k z)/\w.grownBy (w.setCell ⟨g,k,none⟩ (.int .u8 z)) (some g):=by subst hn;obtain⟨h1,h2⟩:=World.ownsRow.stored h k (.int .u8 z);refine⟨?_,h2⟩;unfold Zo;rw[List.length_set,List.map_set];exact h1
theorem Zo.cellK{w:World}{base g cap n k:Nat}{zs:List Int}(h:Zo w base (.slice (some ⟨g,0,none⟩) n cap) zs)(hn:n=zs.length)(hk:k<n):w.cell? ⟨g,k,none⟩=some (.int .u8 (zs.getD k 0))/\w.frozen? ⟨g,k,none⟩=false:=by subst hn;refine⟨?_,World.ownsRow.frozenAt h k⟩;rw[World.ownsRow.cellAt h k (by omega)];simp[List.getD,hk]
theorem Zo.alloc{w:World}{base:Nat}{v:Value}{zs:List Int}(h:Zo w base v zs)(o:Obj):Zo (w.alloc o) base v zs:=World.ownsRow.alloc h o
theorem Zoo(db base rows d q c nb row n:Nat)(f:Nat->Nat)(w:World)(hblk:w.heap[db]? =some (.cells #[.int .i64 (rows:Nat),.int .i64 (d:Nat),.slice (some ⟨q,0,none⟩) nb c] 396 (0,0)))(hB:Zo w base (.slice (some ⟨q,0,none⟩) nb c) (ZV f nb (row*d)))(hf:∀t,f t<=1)(hfn:∀i,i<d->f (row*d+i)=n/2^i%2)(hnb:row*d+d<=8*nb)(hr:row<=200)(hd:d<=6):Calls Tryz.prog 331 #[.pointer (some ⟨db,0,none⟩),.int .i64 row,.int .i64 n] w fun e w'=>e=.returned (.tuple #[])/\Zo w' base (.slice (some ⟨q,0,none⟩) nb c) (ZV f nb (row*d+d))/\Za (fun k=>k=q) w w':=by
 have c0:w.cell? ⟨db,0,none⟩=some (.int .i64 (rows:Nat)):=cell_of_row _ _ 0 _ 396 (0,0) hblk;have c1:w.cell? ⟨db,1,none⟩=some (.int .i64 (d:Nat)):=cell_of_row _ _ 1 _ 396 (0,0) hblk;have hdl:db<w.heap.size:=(Qb hblk).1
 have hqd:db≠q:=fun e=>by obtain⟨cur,hc⟩:=Zf hB (k:=q) rfl;rw[e,hc] at hblk;simp at hblk
 have hm0:row*d<=1200:=Nat.mul_le_mul hr hd;have hm2:(row:Int)*(d:Int)=((row*d:Nat):Int):=(by simp);have HFN:Hid (∀i,i<d->f (row*d+i)=n/2^i%2):=hfn;have HF:Hid (∀t,f t<=1):=hf;have HBLK:Hid (w.heap[db]? =some (.cells #[.int .i64 (rows:Nat),.int .i64 (d:Nat),.slice (some ⟨q,0,none⟩) nb c] 396 (0,0))):=hblk;have HOB:Hid (Zo w base (.slice (some ⟨q,0,none⟩) nb c) (ZV f nb (row*d))):=hB;clear hblk hB hf hfn;generalize row*d=P at *;go_enter Tryz.func331,Tryz.ntmps331;go_wp2_with fail
 refine(Zd2 _ _ _).mono ?_;rintro e w1 ⟨rfl,rfl⟩;go_wp2_with fail
 refine(Zd2 _ _ _).mono ?_;rintro e w1 ⟨rfl,rfl⟩;go_wp2_with fail
 go_loopw [21] (fun ti wr=>∃k:Nat,ti=.int .i64 k/\k<=d/\Hid (Zo wr base (.slice (some ⟨q,0,none⟩) nb c) (ZV f nb (P+k))/\Za (fun x=>x=q) w wr)) (fun ti _=>d-(intOf ti).toNat)
 case atStart=>exact⟨0,rfl,Qg _,(HOB.out.alloc _).alloc _,((Za.refl _ _).alloc _).alloc _⟩
 case round=>
  clear HOB c0 c1;obtain⟨k,rfl,hk,HR⟩:=hrel
  by_cases hkd:k<d
  ·have hblk2:wr.heap[db]? =some (.cells #[.int .i64 (rows:Nat),.int .i64 (d:Nat),.slice (some ⟨q,0,none⟩) nb c] 396 (0,0)):=HR.out.2.at_ HBLK.out hqd;have c2:wr.drew.cell? ⟨db,2,none⟩=some (.slice (some ⟨q,0,none⟩) nb c):=cell_of_row _ _ 2 _ 396 (0,0) hblk2;obtain⟨T,hT⟩:∃T,T=P+k:=⟨_,rfl⟩;obtain⟨J,hJ⟩:∃J,J=T/8:=⟨_,rfl⟩;obtain⟨R,hR⟩:∃R,R=T%8:=⟨_,rfl⟩;have hJn:J<nb:=(by omega);obtain⟨cf1,cf2⟩:=HR.out.1.cellK (k:=J) (by rw[Zbo]) hJn;rw[ZfC f _ hJn] at cf1;obtain⟨y,hy⟩:∃y,y=QL f (P+k) J:=⟨_,rfl⟩;obtain⟨bt,hbt⟩:∃bt,bt=n/2^k%2:=⟨_,rfl⟩;have hfb:f T=bt:=(by rw[hT,HFN.out k hkd,hbt]);have hy256:y<256:=(by rw[hy];exact Zie HF.out _ _);have hyl:y<2^R:=(by rw[hy,hJ,hR,<- hT];exact Zjy HF.out T);have hb1:bt<=1:=by omega
   have hR8:R<8:=by omega
   have h2R:2^R<=128:=by
    have:(2:Nat)^R<=2^7:=Nat.pow_le_pow_right (by decide) (by omega)
    simpa using this
   have hbm:bt*2^R<=1*2^R:=Nat.mul_le_mul_right _ hb1;have hnx:QL f (P+k+1) J=y+bt*2^R:=by rw[hy,hJ,hR,<- hT,ZmJ,hfb]
   have HSET:Hid ((ZV f nb (P+k)).set J ((y+bt*2^R:Nat):Int)=ZV f nb (P+(k+1))):=by show _=_;rw[<- hnx];have:=Zl3 f nb (P+k);rw[<- hT,<- hJ,hT] at this;exact this
   have hor:y|||bt*2^R=y+bt*2^R:=Zni hyl
   have q1:(P:Int)+(k:Int)=(T:Int):=(by omega);have q2:(T:Int).tdiv 8=(J:Int):=(by rw[Int.tdiv_eq_ediv_of_nonneg (by omega)];omega);have q3:(T:Int)/8=(J:Int):=(by omega);have q4:(T:Int).tmod 8=(R:Int):=(by rw[Int.tmod_eq_emod_of_nonneg (by omega)];omega);have q5:(T:Int)%8=(R:Int):=by omega
   have q6:bits BinOp.and IntKind.u8 ((n:Int)/2^k%256) 1=(bt:Int):=by have e:((n:Int)/2^k%256)=((n/2^k%256:Nat):Int):=(by simp);rw[e];have:=(Zjt (n/2^k%256) 1 (by omega) (by decide)).1;rw[ZkI] at this;rw[hbt];rw[show((1:Nat):Int)=1 from rfl] at this;rw[this];have:n/2^k%256%2=n/2^k%2:=(by omega);rw[this]
   have q7:IntKind.i64.wrap (T:Int)=(T:Int):=ZD (by omega) (by omega);have q8:IntKind.i64.wrap (J:Int)=(J:Int):=ZD (by omega) (by omega);obtain⟨z,hz⟩:∃z,z=bt*2^R:=⟨_,rfl⟩;have hz256:z<256:=by omega
   have q9:IntKind.u8.wrap ((bt:Int)*2^R)=(z:Int):=by
    rw[Zjh _ (by exact_mod_cast Qg (bt*2^R)) (by
     have:((bt:Int)*2^R)=((bt*2^R:Nat):Int):=by simp
     rw[this,<- hz];omega)]
    rw[hz];simp
   obtain⟨u,hu⟩:∃u,u=y+z:=⟨_,rfl⟩;have q10:bits BinOp.or IntKind.u8 (y:Int) (z:Int)=(u:Int):=by rw[(Zjt y z hy256 hz256).2,hz,hor,hu,hz]
   rw[<- hz,<- hu] at HSET;have br1:(0:Int)<=(R:Int):=(by omega);have br2:(R:Int)<=8:=(by omega);clear hz hu hor hbm hyl;rw[<- hy] at cf1;have d1:wr.drew.cell? ⟨q,J,none⟩=some (.int .u8 (y:Nat)):=cf1;have fq:wr.drew.frozen? ⟨q,J,none⟩=false:=cf2;have bk1:(0:Int)<=(k:Int):=(by omega);have bk2:(k:Int)<(d:Int):=(by omega);have bj1:(0:Int)<=(J:Int):=(by omega);have bj2:(J:Int)<(nb:Int):=(by omega);have bT:(T:Int)<=1300:=(by omega);have HRR:Hid (Zo wr base (.slice (some ⟨q,0,none⟩) nb c) (ZV f nb (P+k))/\Za (fun x=>x=q) w wr):=HR;have HQ3:Hid (P+k=T):=hT.symm;clear hblk2 hT hJ hR cf1 cf2 hy hbt hfb hnx HR;go_upto_region 5 with fail
   refine ZJ (fun w'=>w'.cell? ⟨db,2,none⟩=some (.slice (some ⟨q,0,none⟩) nb c)/\w'.cell? ⟨q,J,none⟩=some (.int .u8 (y:Nat))) 18 (by kernel_rfl) ⟨c2,d1⟩ (fun hHeld=>?_);refine ZL 0 ?_;try simp only[Act.put,sA,sB,sC]
   refine ZL 1 ?_;try simp only[Act.put,sA,sB,sC]
   refine ZL 2 ?_;try simp only[Act.put,sA,sB,sC]
   refine tkM [8,9,16,17,18] 3 (v:=?_) ?_ ?_
   rotate_left
   ·intro w hSw;try obtain⟨_,_⟩:=hSw
    go_simp;try with_reducible rfl
   try simp only[Act.put,sA,sB,sC]
   refine ZL 4 ?_;try simp only[Act.put,sA,sB,sC]
   refine ZL 5 ?_;try simp only[Act.put,sA,sB,sC]
   refine ZL 6 ?_;try simp only[Act.put,sA,sB,sC]
   refine ZL 7 ?_;try simp only[Act.put,sA,sB,sC]
   refine ZL 8 ?_;try simp only[Act.put,sA,sB,sC]
   refine tkM [16,17,18] 9 (v:=?_) ?_ ?_
   rotate_left
   ·intro w hSw;try obtain⟨_,_⟩:=hSw
    go_simp;try with_reducible rfl
   try simp only[Act.put,sA,sB,sC]
   refine ZL 10 ?_;try simp only[Act.put,sA,sB,sC]
   refine ZL 11 ?_;try simp only[Act.put,sA,sB,sC]
   refine ZL 12 ?_;try simp only[Act.put,sA,sB,sC]
   refine ZL 13 ?_;try simp only[Act.put,sA,sB,sC]
   refine ZL 14 ?_;try simp only[Act.put,sA,sB,sC]
   refine ZL 15 ?_;try simp only[Act.put,sA,sB,sC]
   refine ZL 16 ?_;try simp only[Act.put,sA,sB,sC]
   refine ZL 17 ?_;try simp only[Act.put,sA,sB,sC]
   refine Zx (i:=18) (by kernel_rfl) rfl (by kernel_rfl) (fun KK hK=>?_);go_simp;refine hK.out _ _ ?_;clear hK KK;try simp only[Act.put,sA,sB,sC]
   refine Zz (by kernel_rfl) ?_ _;have HF2:Hid (Zo (wr.setCell ⟨q,J,none⟩ (.int .u8 (u:Nat))).drew base (.slice (some ⟨q,0,none⟩) nb c) (ZV f nb (P+(k+1)))/\Za (fun x=>x=q) w (wr.setCell ⟨q,J,none⟩ (.int .u8 (u:Nat))).drew):=by rw[<- HSET.out];exact⟨World.ownsRow.drew (HRR.out.1.put (by rw[Zbo]) _).1,(HRR.out.2.setCell (p:=⟨q,J,none⟩) (fun _=>rfl) _).drew⟩
   clear HRR hHeld c2 d1 fq q1 q2 q3 q4 q5 q6 q7 q8 q9 q10;go_wp2;go_roundw;case rel=>exact⟨k+1,by go_num,by omega,HF2⟩
   case measure=>simp[intOf];omega
  have hnk:¬(k:Int)<(d:Int):=(by omega);have HF2:Hid (Zo wr base (.slice (some ⟨q,0,none⟩) nb c) (ZV f nb (P+d))/\Za (fun x=>x=q) w wr):=(by have:k=d:=(by omega);subst this;exact HR);clear HR;go_wp2;go_end0;exact⟨rfl,HF2.out.1,HF2.out.2⟩
theorem Zj2(n:Nat)(hn:n<=1000000)(W:World):(Instr.makeSlice 66 (.int .i64 (n:Int)) (.int .i64 (n:Int))).run Tryz.prog W=.ok (.slice (some ⟨W.heap.size,0,none⟩) n n) (W.alloc (.cells (madeCells #[.int .u8 0] n) 5)):=by obtain⟨i0,hinf,hz0,hz1,hz2⟩:=info_parts Zbm;have:=run_make (P:=Tryz.prog) W 66 5 i0 _ Tryz.underlying66 hinf hz0 .i64 .i64 (n:Int) (n:Int) (by omega) (by omega) (by rw[hz2];omega) (by omega);rw[hz1] at this;rw[this,Int.toNat_natCast,Nat.mul_one];rfl
theorem Zj0(n:Nat)(W:World)(base:Nat)(hn:n<=1000000)(hb:base<=W.heap.size):Zo (W.alloc (.cells (madeCells #[.int .u8 0] n) 5)) base (.slice (some ⟨W.heap.size,0,none⟩) n n) (List.replicate n 0):=by
 have:=World.ownsRow_lit (base:=base) (size:=1) (e:=5) W (madeCells #[.int .u8 0] n) n hb (by unfold maxLen;omega) (by simp[madeCells]);rw[Zcb] at this;unfold Zo
 simpa using this
def Y3(N:List Nat)(d t:Nat):Nat:=N.getD (t/d) 0/2^(t%d)%2
theorem ZeW(N:List Nat)(d:Nat):∀t,Y3 N d t<=1:=fun t=>by unfold Y3;omega
theorem ZmH(N:List Nat){d row i:Nat}(h:i<d):Y3 N d (row*d+i)=N.getD row 0/2^i%2:=by unfold Y3;have e1:(row*d+i)/d=row:=(by rw[Nat.mul_comm,Nat.mul_add_div (by omega),Nat.div_eq_of_lt h,Nat.add_zero]);have e2:(row*d+i)%d=i:=(by rw[Nat.mul_comm,Nat.mul_add_mod,Nat.mod_eq_of_lt h]);rw[e1,e2]
structure Zeo(w:World)(base db q n d:Nat)(bs:List Int):Prop where
 blk:w.heap[db]? =some (.cells #[.int .i64 (n:Nat),.int .i64 (d:Nat),.slice (some ⟨q,0,none⟩) bs.length bs.length] 396 (0,0))
 row:Zo w base (.slice (some ⟨q,0,none⟩) bs.length bs.length) bs
def Zjj(w:World)(base:Nat)(v:Value)(n d:Nat)(bs:List Int):Prop:=∃db q,v=.pointer (some ⟨db,0,none⟩)/\base<=db/\Zeo w base db q n d bs
theorem ZhD(va:Option Addr)(n d m vc:Nat)(N:List Nat)(w:World)(hv:Ze w 0 (.slice va m vc) (ZP N))(hN:N.length=m)(hmn:m<=n)(hn:n<=200)(hd:d<=6):Calls Tryz.prog 301 #[.agg #[.int .i64 n,.int .i64 d],.slice va m vc] w fun e w'=>∃v,e=.returned v/\Zjj w' w.heap.size v n d (ZV (Y3 N d) ((n*d+7)/8) (m*d))/\Below w.heap.size w w':=by
 have HV:Hid (Ze w 0 (.slice va m vc) (ZP N)/\N.length=m):=⟨hv,hN⟩;obtain⟨P,hP⟩:∃P,P=n*d:=⟨_,rfl⟩;have hP0:P<=1200:=(by rw[hP];exact Nat.mul_le_mul hn hd);have hm2:(n:Int)*(d:Int)=(P:Int):=(by rw[hP];simp);obtain⟨nb,hnb⟩:∃nb,nb=(P+7)/8:=⟨_,rfl⟩;have HNB:Hid (nb=(n*d+7)/8/\P=n*d/\nb=(P+7)/8):=⟨by rw[hnb,hP],hP,hnb⟩;have q1:((P:Int)+7).tdiv 8=(nb:Int):=(by rw[Int.tdiv_eq_ediv_of_nonneg (by omega)];omega);have q2:IntKind.i64.wrap (P:Int)=(P:Int):=ZD (by omega) (by omega);have q3:IntKind.i64.wrap ((P:Int)+7)=(P:Int)+7:=ZD (by omega) (by omega);have q4:IntKind.i64.wrap (nb:Int)=(nb:Int):=ZD (by omega) (by omega);have hmk:=Zj2 nb (by omega);have hnb2:nb<=151:=(by omega);rw[<- HNB.out.1];clear hv hN hP hnb
 go_enter Tryz.func301,Tryz.ntmps301;go_upto_region 1 with fail;obtain⟨w0,hw0⟩:∃w0,w0=w.alloc (.cells #[.int .i64 (n:Nat),.int .i64 (d:Nat)] 379):=⟨_,rfl⟩;rw[<- hw0];have hs0:w0.heap.size=w.heap.size+1:=(by rw[hw0];simp);have d0:w0.cell? ⟨w.heap.size,0,none⟩=some (.int .i64 (n:Nat)):=(by rw[hw0];simp[go_sem]);have d1:w0.cell? ⟨w.heap.size,1,none⟩=some (.int .i64 (d:Nat)):=(by rw[hw0];simp[go_sem]);have HB0:Hid (Below w.heap.size w w0):=(by show Below _ _ _;rw[hw0];exact(Below.refl _ _).alloc (Qa _) _);have hlt0:w.heap.size<w0.heap.size:=(by omega);have HS0:Hid (w0.heap.size=w.heap.size+1):=hs0;clear hw0 hs0
 go_region_held3 (fun w'=>w'.cell? ⟨w.heap.size,0,none⟩=some (.int .i64 (n:Nat))/\w'.cell? ⟨w.heap.size,1,none⟩=some (.int .i64 (d:Nat))) (exact⟨(Below.cell (B:=w0.heap.size) (w:=w0) (p:=⟨w.heap.size,0,none⟩) (by repeat(first|with_reducible exact Below.refl _ _|with_reducible apply Below.drew|(refine Below.alloc ?_ (by first|omega|(simp;omega)|simp) _))) hlt0).trans d0,(Below.cell (B:=w0.heap.size) (w:=w0) (p:=⟨w.heap.size,1,none⟩) (by repeat(first|with_reducible exact Below.refl _ _|with_reducible apply Below.drew|(refine Below.alloc ?_ (by first|omega|(simp;omega)|simp) _))) hlt0).trans d1⟩) (first|(go_at_call 299;refine(Zi3 _ _ _).mono ?_;rintro e w1 ⟨rfl,rfl⟩)|(go_at_call 330;refine(Zd2 _ _ _).mono ?_;rintro e w1 ⟨rfl,rfl⟩))
 obtain⟨w4,hw4⟩:∃w4,w4=((((w0.alloc (.cells #[.int .i64 (n:Nat),.int .i64 (d:Nat)] 379)).alloc (.cells #[.int .i64 (n:Nat),.int .i64 (d:Nat)] 379)).alloc (.cells (madeCells #[.int .u8 0] nb) 5)).alloc (.cells #[.int .i64 (n:Nat),.int .i64 (d:Nat),.slice (some ⟨w0.heap.size+1+1,0,none⟩) nb nb] 396)).drew:=⟨_,rfl⟩;rw[<- hw4];have hs4:w4.heap.size=w0.heap.size+1+1+1+1:=by rw[hw4];simp
 have HB4:Hid (Below w.heap.size w w4):=by show Below _ _ _;rw[hw4];exact(HB0.out.trans ((((((Below.refl _ _).alloc (by omega) _).alloc (by simp;omega) _).alloc (by simp;omega) _).alloc (by simp;omega) _).drew))
 have hb4:w4.heap[w0.heap.size+1+1+1]? =some (.cells #[.int .i64 (n:Nat),.int .i64 (d:Nat),.slice (some ⟨w0.heap.size+1+1,0,none⟩) nb nb] 396 (0,0)):=by rw[hw4];have:=heap_alloc_new (((w0.alloc (.cells #[.int .i64 (n:Nat),.int .i64 (d:Nat)] 379)).alloc (.cells #[.int .i64 (n:Nat),.int .i64 (d:Nat)] 379)).alloc (.cells (madeCells #[.int .u8 0] nb) 5)) (.cells #[.int .i64 (n:Nat),.int .i64 (d:Nat),.slice (some ⟨w0.heap.size+1+1,0,none⟩) nb nb] 396);rw[show(((w0.alloc (.cells #[.int .i64 (n:Nat),.int .i64 (d:Nat)] 379)).alloc (.cells #[.int .i64 (n:Nat),.int .i64 (d:Nat)] 379)).alloc (.cells (madeCells #[.int .u8 0] nb) 5)).heap.size=w0.heap.size+1+1+1 by simp] at this;exact this
 have hO4:Zo w4 w.heap.size (.slice (some ⟨w0.heap.size+1+1,0,none⟩) nb nb) (ZV (Y3 N d) nb 0):=by rw[Zkb,hw4];have:=Zj0 nb ((w0.alloc (.cells #[.int .i64 (n:Nat),.int .i64 (d:Nat)] 379)).alloc (.cells #[.int .i64 (n:Nat),.int .i64 (d:Nat)] 379)) w.heap.size (by omega) (by simp;omega);have h2:=(this.alloc (.cells #[.int .i64 (n:Nat),.int .i64 (d:Nat),.slice (some ⟨w0.heap.size+1+1,0,none⟩) nb nb] 396));rw[show((w0.alloc (.cells #[.int .i64 (n:Nat),.int .i64 (d:Nat)] 379)).alloc (.cells #[.int .i64 (n:Nat),.int .i64 (d:Nat)] 379)).heap.size=w0.heap.size+1+1 by simp] at h2;exact h2
 have HBK:Hid (w4.heap[w0.heap.size+1+1+1]? =some (.cells #[.int .i64 (n:Nat),.int .i64 (d:Nat),.slice (some ⟨w0.heap.size+1+1,0,none⟩) nb nb] 396 (0,0))):=hb4;have HO4:Hid (Zo w4 w.heap.size (.slice (some ⟨w0.heap.size+1+1,0,none⟩) nb nb) (ZV (Y3 N d) nb 0)):=hO4;clear hw4 hb4 hO4 d0 d1 hmk q1 q2 q3 q4;have hqge:w.heap.size<=w0.heap.size+1+1:=(by omega);have HQ:Hid (w0.heap.size+1+1+1<w4.heap.size/\w0.heap.size+1+1+1≠w0.heap.size+1+1):=⟨by omega,by omega⟩;generalize w0.heap.size+1+1=q at *;go_wp2_with fail
 go_loopw [21] (fun ti wr=>∃k:Nat,ti=.int .i64 k/\k<=m/\Hid (Zo wr w.heap.size (.slice (some ⟨q,0,none⟩) nb nb) (ZV (Y3 N d) nb (k*d))/\Za (fun x=>x=q) w4 wr)) (fun ti _=>m-(intOf ti).toNat)
 case atStart=>exact⟨0,rfl,Qg _,by rw[Nat.zero_mul];exact⟨HO4.out,Za.refl _ _⟩⟩
 case round=>
  clear HO4;obtain⟨k,rfl,hk,HR⟩:=hrel;have hbw:Below w.heap.size w wr:=(by have t:=HR.out.2;have h4:=HB4.out;exact⟨t.os.trans h4.os,t.tape.trans h4.tape,t.output.trans h4.output,Nat.le_trans h4.size t.size,fun x hx=>(t.block x (by have:=h4.size;omega) (by omega)).trans (h4.block x hx)⟩);have HBW:Hid (Below w.heap.size w wr):=hbw;have hblk:wr.heap[q+1]? =some (.cells #[.int .i64 (n:Nat),.int .i64 (d:Nat),.slice (some ⟨q,0,none⟩) nb nb] 396 (0,0)):=HR.out.2.at_ HBK.out HQ.out.2;have HBLK:Hid (wr.heap[q+1]? =some (.cells #[.int .i64 (n:Nat),.int .i64 (d:Nat),.slice (some ⟨q,0,none⟩) nb nb] 396 (0,0))):=hblk
  by_cases hkm:k<m
  ·obtain⟨qv,hqv,hql,_,hc,_⟩:=HV.out.1.atK (by rw[ZQ];exact HV.out.2) hkm;subst hqv;have a0:=(hbw.cell (p:=⟨qv,k,none⟩) hql).trans hc;rw[YO] at a0;have hk1:k*d+d=(k+1)*d:=(by rw[Nat.add_mul,Nat.one_mul]);have hk2:(k+1)*d<=n*d:=Nat.mul_le_mul_right _ (by omega)
   have HPUT:Hid (Calls Tryz.prog 331 #[.pointer (some ⟨q+1,0,none⟩),.int .i64 k,.int .i64 ((N.getD k 0:Nat):Int)] wr fun e w'=>e=.returned (.tuple #[])/\Zo w' w.heap.size (.slice (some ⟨q,0,none⟩) nb nb) (ZV (Y3 N d) nb (k*d+d))/\Za (fun x=>x=q) wr w'):=
    Zoo (q+1) w.heap.size n d q nb nb k (N.getD k 0) (Y3 N d) wr hblk HR.out.1 (ZeW N d) (fun i hi=>ZmH N hi) (by have:=HNB.out;omega) (by omega) hd
   rw[hk1] at HPUT;generalize N.getD k 0=x at *;have bk1:(0:Int)<=(k:Int):=(by omega);have bk2:(k:Int)<(m:Int):=(by omega);have HT:Hid (Za (fun x=>x=q) w4 wr):=HR.out.2;clear hc hk1 hk2 HR hblk hbw;go_wp2_with fail
   refine HPUT.out.mono ?_;rintro e w5 ⟨rfl,ho5,t5⟩;have HF:Hid (Zo w5 w.heap.size (.slice (some ⟨q,0,none⟩) nb nb) (ZV (Y3 N d) nb ((k+1)*d))/\Za (fun x=>x=q) w4 w5):=⟨ho5,HT.out.trans t5⟩;clear ho5 t5 HPUT HT;go_wp2;go_roundw;case rel=>exact⟨k+1,by go_num,by omega,HF⟩
   case measure=>simp[intOf];omega
  have hnk:¬(k:Int)<(m:Int):=(by omega);have HF:Hid (Zeo wr w.heap.size (q+1) q n d (ZV (Y3 N d) nb (m*d))):=(by have:k=m:=(by omega);subst this;exact⟨by rw[Zbo];exact hblk,by rw[Zbo];exact HR.out.1⟩);clear HR hblk hbw;go_wp2;go_ret;exact⟨_,rfl,⟨_,_,rfl,by omega,HF.out⟩,HBW.out⟩
def nzL(N:List Nat):List Bool:=N.map (fun x=>decide (x≠0))
def nzN(N:List Nat):Nat:=Yb (nzL N)
theorem ZhF(N:List Nat):(nzL N).length=N.length:=by simp[nzL]
theorem Zne{N:List Nat}{k:Nat}(h:k<N.length):(nzL N).getD k false=decide (N.getD k 0≠0):=by simp[nzL,List.getD,h]
theorem ZiO(va:Option Addr)(m c:Nat)(N:List Nat)(w:World)(hv:Ze w 0 (.slice va m c) (ZP N))(hN:N.length=m)(hm:m<=200):Calls Tryz.prog 298 #[.slice va m c] w fun e w'=>e=.returned (.int .i64 (nzN N:Nat))/\w'=w:=by
 have HV:Hid (Ze w 0 (.slice va m c) (ZP N)/\N.length=m):=⟨hv,hN⟩;clear hv hN;go_enter Tryz.func298,Tryz.ntmps298;go_wp2_with fail
 go_loop [8,3] (fun ti tn=>∃k:Nat,ti=.int .i64 k/\k<=m/\tn=.int .i64 (Yb ((nzL N).take k):Nat)/\Yb ((nzL N).take k)<=k) (fun ti _=>m-(intOf ti).toNat)
 case atStart=>exact⟨0,rfl,Qg _,rfl,Qa _⟩
 case round=>
  obtain⟨k,rfl,hk,rfl,hkc⟩:=hrel
  by_cases hkm:k<m
  ·obtain⟨q,rfl,hql,_,a0,_⟩:=HV.out.1.atK (by rw[ZQ];exact HV.out.2) hkm;rw[YO] at a0;have hs:=ZdM ((nzL N).take k) ((nzL N).getD k false);rw[<- Zc4 _ (by rw[ZhF];have:=HV.out.2;omega),Zne (by have:=HV.out.2;omega)] at hs;have HS:Hid (Yb ((nzL N).take (k+1))=Yb ((nzL N).take k)+(if decide (N.getD k 0≠0)=true then 1 else 0)):=hs;clear hs;generalize Yb ((nzL N).take k)=t at *;generalize N.getD k 0=x at *;have bk1:(0:Int)<=(k:Int):=(by omega);have bk2:(k:Int)<(m:Int):=by omega
   by_cases hx:x=0
   ·subst hx;have HS2:Hid (Yb ((nzL N).take (k+1))=t):=(by have:=HS.out;rw[if_neg (by decide)] at this;exact this);clear HS;go_wp2;go_roundw;case rel=>exact⟨k+1,by go_num,by omega,by rw[HS2.out],by rw[HS2.out];omega⟩
    case measure=>simp[intOf];omega
   have hne:((x:Int) !=0)=true:=(by rw[bne_iff_ne];omega);have HS2:Hid (Yb ((nzL N).take (k+1))=t+1):=(by have:=HS.out;rw[if_pos (by simpa using hx)] at this;exact this);clear HS hx;go_wp2;go_roundw;case rel=>exact⟨k+1,by go_num,by omega,by rw[HS2.out];go_num,by rw[HS2.out];omega⟩
   case measure=>simp[intOf];omega
  have hnk:¬(k:Int)<(m:Int):=(by omega);have HF:Hid (Yb ((nzL N).take k)=nzN N):=(by show _=_;rw[List.take_of_length_le (by rw[ZhF];have:=HV.out.2;omega)];rfl);generalize Yb ((nzL N).take k)=t at *;go_wp2;go_ret;exact⟨by rw[HF.out];rfl,rfl⟩
theorem Zjs(g:Nat)(w:World)(hg:g<=1000):Calls Tryz.prog 282 #[.int .i64 g] w fun e w'=>e=.returned (.int .i64 (Lib.bitLen g:Nat))/\w'=w:=by
 have HL:Hid (Calls Tryz.prog 150 #[.int .u64 (g:Nat)] w fun e w'=>e=.returned (.int .i64 (Lib.bitLen g:Nat))/\w'=w):=(by have:=Tryz.bits_Len (g:Nat) w (by omega) (by omega);rw[Int.toNat_natCast] at this;exact this);generalize Lib.bitLen g=b at *;go_enter Tryz.func282,Tryz.ntmps282;go_wp2_with fail
 refine HL.out.mono ?_;rintro e w1 ⟨rfl,rfl⟩;go_wp2;go_ret;exact⟨rfl,rfl⟩
def spF(N:List Nat):Nat->List (Nat×Nat)
 |0=>[]
 |k+1=>spF N k++(if N.getD k 0=0 then[] else[(k,N.getD k 0)])
theorem ZhK(N:List Nat):∀k,(spF N k).length<=k
 |0=>by simp[spF]
 |k+1=>by have:=ZhK N k;simp only[spF];split;simp;omega;simp;omega
def Zb0(p:Nat×Nat):List Value:=[.int .i64 (p.1:Nat),.int .i64 (p.2:Nat)]
def ZaX:List (Nat×Nat)->List Value
  |[]=>[]
  |p::L=>Zb0 p++ZaX L
theorem Zhq(a b:List (Nat×Nat)):ZaX (a++b)=ZaX a++ZaX b:=by
 induction a with
 |nil=>rfl
 |cons e L ih=>simp[ZaX,ih]
theorem Zn5:(Tryz.prog.info? 405).map (fun i=>(i.zero,i.size,i.bytes))=some (some (.agg #[.int .i64 0,.int .i64 0]),2,16):=by kernel_rfl
def ZcB(w:World)(base:Nat)(v:Value)(L:List (Nat×Nat)):Prop:=w.ownsRow base 405 2 v L.length (ZaX L)
theorem ZcB.more{w:World}{base:Nat}{v:Value}{L:List (Nat×Nat)}{x:Nat×Nat}(h:w.ownsRow base 405 2 v (L.length+1) (ZaX L++Zb0 x)):ZcB w base v (L++[x]):=by
 unfold ZcB;rw[Zhq,Qe]
 simpa [ZaX] using h
theorem ZcB.shape{w:World}{base:Nat}{v:Value}{L:List (Nat×Nat)}(h:ZcB w base v L):∃a c,v=.slice a L.length c:=by
 rcases h.2 with⟨rfl,h0⟩|⟨q,p,cur,rfl,_⟩
 exact⟨none,0,by rw[h0]⟩;exact⟨_,_,rfl⟩
structure Zf2(w:World)(base sb n d:Nat)(vc:Value)(L:List (Nat×Nat)):Prop where
 blk:w.heap[sb]? =some (.cells #[.int .i64 (n:Nat),.int .i64 (d:Nat),vc] 403 (0,0))
 row:ZcB w base vc L
def Zh6(w:World)(base:Nat)(v:Value)(n d:Nat)(L:List (Nat×Nat)):Prop:=∃sb vc,v=.pointer (some ⟨sb,0,none⟩)/\base<=sb/\Zf2 w base sb n d vc L
theorem Zgh(va:Option Addr)(n d m vc:Nat)(N:List Nat)(w:World)(hv:Ze w 0 (.slice va m vc) (ZP N))(hN:N.length=m)(hm:m<=200):Calls Tryz.prog 300 #[.agg #[.int .i64 n,.int .i64 d],.slice va m vc] w fun e w'=>∃v,e=.returned v/\Zh6 w' w.heap.size v n d (spF N m)/\Below w.heap.size w w':=by
 have HV:Hid (Ze w 0 (.slice va m vc) (ZP N)/\N.length=m):=⟨hv,hN⟩;obtain⟨i0,hinf,hz0,hz1,hz2⟩:=info_parts Zn5;clear hv hN;obtain⟨w0,hw0⟩:∃w0,w0=(w.alloc (.cells #[.int .i64 (n:Nat),.int .i64 (d:Nat)] 379)).alloc (.cells #[.int .i64 (n:Nat),.int .i64 (d:Nat),.slice none 0 0] 403):=⟨_,rfl⟩;have HB0:Hid (Below w.heap.size w w0):=(by show Below _ _ _;rw[hw0];exact((Below.refl _ _).alloc (Qa _) _).alloc (by simp) _);have hs0:w0.heap.size=w.heap.size+1+1:=by rw[hw0];simp
 have HK0:Hid (w0.heap[w.heap.size+1]? =some (.cells #[.int .i64 (n:Nat),.int .i64 (d:Nat),.slice none 0 0] 403 (0,0))):=(by show _=_;rw[hw0];have:=heap_alloc_new (w.alloc (.cells #[.int .i64 (n:Nat),.int .i64 (d:Nat)] 379)) (.cells #[.int .i64 (n:Nat),.int .i64 (d:Nat),.slice none 0 0] 403);rw[show(w.alloc (.cells #[.int .i64 (n:Nat),.int .i64 (d:Nat)] 379)).heap.size=w.heap.size+1 by simp] at this;exact this);go_enter Tryz.func300,Tryz.ntmps300;go_wp2_with fail
 go_loopw [13] (fun ti wr=>∃(k:Nat) (vk:Value),ti=.int .i64 k/\k<=m/\Hid (Zf2 wr (w.heap.size+1+1) (w.heap.size+1) n d vk (spF N k)/\Za (fun x=>x=w.heap.size+1) w0 wr)) (fun ti _=>m-(intOf ti).toNat)
 case atStart=>
  refine⟨0,.slice none 0 0,rfl,Qg _,?_,?_⟩;rw[<- hw0];exact⟨HK0.out,World.ownsRow_nil _ _ _ _⟩;rw[<- hw0];exact Za.refl _ _
 case round=>
  clear hw0 HK0;obtain⟨k,vk,rfl,hk,HR⟩:=hrel;have hsz:=HR.out.2.size
  by_cases hkm:k<m
  ·obtain⟨qv,hqv,hql,_,hc,_⟩:=HV.out.1.atK (by rw[ZQ];exact HV.out.2) hkm;subst hqv;have a0:wr.cell? ⟨qv,k,none⟩=some (.int .i64 ((N.getD k 0:Nat):Int)):=by rw[YO] at hc;rw[World.cell?_of_block (a:=⟨qv,k,none⟩) ((HR.out.2.block qv (by omega) (by omega)).trans (HB0.out.block qv hql))];exact hc
   have HSP:Hid (spF N (k+1)=spF N k++(if N.getD k 0=0 then[] else[(k,N.getD k 0)])):=rfl;obtain⟨ca,cc,hvk⟩:=HR.out.1.row.shape;subst hvk;have c2:wr.cell? ⟨w.heap.size+1,2,none⟩=some (.slice ca (spF N k).length cc):=cell_of_row _ _ 2 _ 403 (0,0) HR.out.1.blk;have hll:=ZhK N k;clear hc;generalize N.getD k 0=x at *;have bk1:(0:Int)<=(k:Int):=(by omega);have bk2:(k:Int)<(m:Int):=by omega
   by_cases hx:x=0
   ·subst hx;have HF:Hid (Zf2 wr (w.heap.size+1+1) (w.heap.size+1) n d (.slice ca (spF N k).length cc) (spF N (k+1))/\Za (fun x=>x=w.heap.size+1) w0 wr):=by rw[HSP.out,if_pos rfl,List.append_nil];exact HR.out
    clear HR HSP;go_wp2;go_roundw;case rel=>exact⟨k+1,_,by go_num,by omega,HF⟩
    case measure=>simp[intOf];omega
   have hne:((x:Int) !=0)=true:=(by rw[bne_iff_ne];omega);have HS2:Hid (spF N (k+1)=spF N k++[(k,x)]):=(by have:=HSP.out;rw[if_neg hx] at this;exact this);clear HSP hx;have hlt:w.heap.size+1<wr.heap.size:=(Qb HR.out.1.blk).1;have HRW:Hid (wr.ownsRow (w.heap.size+1+1) 405 2 (.slice ca (spF N k).length cc) (spF N k).length (ZaX (spF N k))):=HR.out.1.row;generalize hgl:(spF N k).length=sl at *;go_wp2_with (at_builtin;refine Zd rfl (.tmp 24) (.tmp 28) 401 rfl (w.heap.size+1+1) 405 i0 (.agg #[.int .i64 0,.int .i64 0]) 2 16 Tryz.underlying401 hinf hz0 hz1 hz2 rfl (by decide) _ sl (ZaX (spF N k)) rfl (HRW.out.alloc _) ⟨wr.heap.size,0,none⟩ 1 1 [.int .i64 (k:Nat),.int .i64 (x:Nat)] rfl rfl ?_ ?_ ?_ ?_ ?_ ?_ ?_)
   exact Zu wr #[.int .i64 (k:Nat),.int .i64 (x:Nat)] 405
   ·intro u hu;simp at hu;rcases hu with rfl|rfl<;>rfl
   decide;unfold maxLen;omega;omega;simp;omega;intro v4 w4 H4;obtain⟨r4,g4,d4,_,_⟩:=H4.out;have hblk4:w4.heap[w.heap.size+1]? =some (.cells #[.int .i64 (n:Nat),.int .i64 (d:Nat),.slice ca sl cc] 403 (0,0)):=(by rw[g4.block (w.heap.size+1) (by simp;omega) (fun e=>Zv HRW.out e.symm HR.out.1.blk (by decide) rfl)];have:=HR.out.1.blk;exact(Below.heap_alloc wr _ _ hlt).trans this);have c4:w4.cell? ⟨w.heap.size+1,2,none⟩=some (.slice ca sl cc):=cell_of_row _ _ 2 _ 403 (0,0) hblk4;have f4:w4.frozen? ⟨w.heap.size+1,2,none⟩=false:=frozen_of_row _ _ 2 _ 403 hblk4;have hO4:ZcB w4 (w.heap.size+1+1) v4 (spF N (k+1)):=(by rw[HS2.out];refine ZcB.more ?_;rw[hgl];exact r4);obtain⟨a5,c5,hv5⟩:=hO4.shape
   have HF:Hid (Zf2 (w4.setCell ⟨w.heap.size+1,2,none⟩ v4) (w.heap.size+1+1) (w.heap.size+1) n d v4 (spF N (k+1))/\Za (fun x=>x=w.heap.size+1) w0 (w4.setCell ⟨w.heap.size+1,2,none⟩ v4)):=by refine⟨⟨heap_setCell_same _ _ 2 _ 403 _ hblk4,Zl hO4 hblk4 (by decide)⟩,?_⟩;have t1:Za (fun x=>x=w.heap.size+1) w0 (wr.alloc (.cells #[.int .i64 (k:Nat),.int .i64 (x:Nat)] 405)):=HR.out.2.alloc _;have t2:=t1.grown g4 (fun q hq hlt2=>by have:=(World.ownsRow.lt HRW.out q hq).1;omega);exact t2.setCell (p:=⟨w.heap.size+1,2,none⟩) (fun _=>rfl) v4
   rw[hv5] at HF;subst hv5;clear H4 r4 g4 d4 hblk4 hO4 HRW HR HS2 hgl;generalize (spF N (k+1)).length=s5 at *;go_wp2;go_roundw;case rel=>exact⟨k+1,_,by go_num,by omega,HF⟩
   case measure=>simp[intOf];omega
  have hnk:¬(k:Int)<(m:Int):=by omega
  have HF:Hid (Zh6 wr w.heap.size (.pointer (some ⟨w.heap.size+1,0,none⟩)) n d (spF N m)/\Below w.heap.size w wr):=by
   have:k=m:=(by omega);subst this;have t:=HR.out.2;have h0:=HB0.out;refine⟨⟨_,_,rfl,by omega,HR.out.1.blk,?_⟩,⟨t.os.trans h0.os,t.tape.trans h0.tape,t.output.trans h0.output,Nat.le_trans h0.size t.size,fun x hx=>(t.block x (by omega) (by omega)).trans (h0.block x hx)⟩⟩;have hr:=HR.out.1.row;refine⟨hr.1,?_⟩
   rcases hr.2 with hn|⟨g,cap,cur,e,hg,r⟩
   exact .inl hn;exact .inr ⟨g,cap,cur,e,by omega,r⟩
  clear HR;go_wp2;go_ret;exact⟨_,rfl,HF.out.1,HF.out.2⟩
theorem Zjr:∀g:Fin 64,Lib.bitLen g.val<=6:=by decide+kernel
theorem Zgt{g:Nat}(h:g<64):Lib.bitLen g<=6:=Zjr ⟨g,h⟩
theorem Zhd:∀g:Fin 64,g.val<2^Lib.bitLen g.val:=by decide+kernel
theorem Zlp{g:Nat}(h:g<64):g<2^Lib.bitLen g:=Zhd ⟨g,h⟩
def Zbf(w:World)(base:Nat)(v:Value)(N:List Nat)(g:Nat):Prop:=
 (4*nzN N<N.length/\∃p,v=.iface 380 p/\Zh6 w base p N.length (Lib.bitLen g) (spF N N.length))∨
 (¬4*nzN N<N.length/\∃p,v=.iface 382 p/\Zjj w base p N.length (Lib.bitLen g) (ZV (Y3 N (Lib.bitLen g)) ((N.length*Lib.bitLen g+7)/8) (N.length*Lib.bitLen g)))
theorem Zly(va:Option Addr)(m vc g:Nat)(N:List Nat)(w:World)(hv:Ze w 0 (.slice va m vc) (ZP N))(hN:N.length=m)(hm:m<=200)(hg:g<64):Calls Tryz.prog 257 #[.slice va m vc,.int .i64 g] w fun e w'=>∃v,e=.returned v/\Zbf w' w.heap.size v N g/\Below w.heap.size w w':=by
 have hb6:=Zgt hg;have HBO:Hid (Calls Tryz.prog 282 #[.int .i64 g] w fun e w'=>e=.returned (.int .i64 (Lib.bitLen g:Nat))/\w'=w):=Zjs g w (by omega);have hnz:nzN N<=m:=(by have:=ZeG (nzL N);rw[ZhF] at this;unfold nzN;omega);have HNZ:Hid (∀W:World,Below w.heap.size w W->Calls Tryz.prog 298 #[.slice va m vc] W fun e w'=>e=.returned (.int .i64 (nzN N:Nat))/\w'=W):=fun W hW=>ZiO va m vc N W (hv.below hW) hN hm;have HSP:Hid (∀W:World,Below w.heap.size w W->Calls Tryz.prog 300 #[.agg #[.int .i64 m,.int .i64 (Lib.bitLen g:Nat)],.slice va m vc] W fun e w'=>∃v,e=.returned v/\Zh6 w' W.heap.size v m (Lib.bitLen g) (spF N m)/\Below W.heap.size W w'):=fun W hW=>Zgh va m (Lib.bitLen g) m vc N W (hv.below hW) hN hm
 have HDE:Hid (∀W:World,Below w.heap.size w W->Calls Tryz.prog 301 #[.agg #[.int .i64 m,.int .i64 (Lib.bitLen g:Nat)],.slice va m vc] W fun e w'=>∃v,e=.returned v/\Zjj w' W.heap.size v m (Lib.bitLen g) (ZV (Y3 N (Lib.bitLen g)) ((m*Lib.bitLen g+7)/8) (m*Lib.bitLen g))/\Below W.heap.size W w'):=fun W hW=>ZhD va m (Lib.bitLen g) m vc N W (hv.below hW) hN (Qa _) hm hb6
 have HCV:Hid (∀(W:World) (v:Value),((4*nzN N<m/\∃p,v=.iface 380 p/\Zh6 W w.heap.size p m (Lib.bitLen g) (spF N m))∨(¬4*nzN N<m/\∃p,v=.iface 382 p/\Zjj W w.heap.size p m (Lib.bitLen g) (ZV (Y3 N (Lib.bitLen g)) ((m*Lib.bitLen g+7)/8) (m*Lib.bitLen g))))->Zbf W w.heap.size v N g):=fun W v h=>by unfold Zbf;rw[hN];exact h
 clear hv hN;generalize Lib.bitLen g=d at *;generalize nzN N=z at *;have b1:(4:Int)*(z:Int)<=800:=(by omega);have q1:IntKind.i64.wrap (4*(z:Int))=4*(z:Int):=ZD (by omega) (by omega);go_enter Tryz.func257,Tryz.ntmps257;go_wp2_with fail
 refine HBO.out.mono ?_;rintro e w1 ⟨rfl,hw1⟩;obtain rfl:=hw1.symm;clear hw1;go_upto_region 2 with fail;obtain⟨w0,hw0⟩:∃w0,w0=w.alloc (.cells #[.int .i64 (m:Nat),.int .i64 (d:Nat)] 379):=⟨_,rfl⟩;rw[<- hw0];have hs0:w0.heap.size=w.heap.size+1:=(by rw[hw0];simp);have d0:w0.cell? ⟨w.heap.size,0,none⟩=some (.int .i64 (m:Nat)):=(by rw[hw0];simp[go_sem]);have d1:w0.cell? ⟨w.heap.size,1,none⟩=some (.int .i64 (d:Nat)):=(by rw[hw0];simp[go_sem]);have HB0:Hid (Below w.heap.size w w0):=(by show Below _ _ _;rw[hw0];exact(Below.refl _ _).alloc (Qa _) _);have hlt0:w.heap.size<w0.heap.size:=(by omega);clear hw0 hs0
 go_region_held3 (fun w'=>w'.cell? ⟨w.heap.size,0,none⟩=some (.int .i64 (m:Nat))/\w'.cell? ⟨w.heap.size,1,none⟩=some (.int .i64 (d:Nat))) (exact⟨(Below.cell (B:=w0.heap.size) (w:=w0) (p:=⟨w.heap.size,0,none⟩) (by repeat(first|with_reducible exact Below.refl _ _|with_reducible apply Below.drew|(refine Below.alloc ?_ (by first|omega|(simp;omega)|simp) _))) hlt0).trans d0,(Below.cell (B:=w0.heap.size) (w:=w0) (p:=⟨w.heap.size,1,none⟩) (by repeat(first|with_reducible exact Below.refl _ _|with_reducible apply Below.drew|(refine Below.alloc ?_ (by first|omega|(simp;omega)|simp) _))) hlt0).trans d1⟩) (first|(go_at_call 298;refine(HNZ.out _ HB0.out.drew).mono ?_;rintro e w1 ⟨rfl,rfl⟩)|(go_at_call 299;refine(Zi3 _ _ _).mono ?_;rintro e w1 ⟨rfl,rfl⟩))
 generalize hw3:(w0.alloc (.cells #[.int .i64 (m:Nat),.int .i64 (d:Nat)] 379)).drew=w3;have HB3:Hid (Below w.heap.size w w3):=(by show Below _ _ _;rw[<- hw3];exact(HB0.out.alloc (by omega) _).drew);have hs3:w3.heap.size=w0.heap.size+1:=(by rw[<- hw3];simp);have e0:w3.cell? ⟨w.heap.size,0,none⟩=some (.int .i64 (m:Nat)):=(by rw[<- hw3];exact(Below.cell (B:=w0.heap.size) (w:=w0) (p:=⟨w.heap.size,0,none⟩) ((Below.refl _ _).alloc (Qa _) _).drew hlt0).trans d0);have e1:w3.cell? ⟨w.heap.size,1,none⟩=some (.int .i64 (d:Nat)):=(by rw[<- hw3];exact(Below.cell (B:=w0.heap.size) (w:=w0) (p:=⟨w.heap.size,1,none⟩) ((Below.refl _ _).alloc (Qa _) _).drew hlt0).trans d1);have hsz3:=HB3.out.size;clear hw3 d0 d1 HB0 HNZ HBO
 by_cases hc:4*z<m
 ·have hc2:(4:Int)*(z:Int)<(m:Int):=(by omega);go_wp2_with fail
  refine(HSP.out _ HB3.out).mono ?_;rintro e w4 ⟨v4,rfl,hS4,hb4⟩;obtain⟨sb,vc4,rfl,h1,h2⟩:=hS4
  have HF:Hid (Zbf w4 w.heap.size (.iface 380 (.pointer (some ⟨sb,0,none⟩))) N g/\Below w.heap.size w w4):=by
   refine⟨HCV.out w4 _ (.inl ⟨hc,_,rfl,sb,vc4,rfl,by omega,h2.blk,?_⟩),HB3.out.trans (hb4.mono hsz3)⟩;have hr:=h2.row;refine⟨hr.1,?_⟩
   rcases hr.2 with hn|⟨g,cap,cur,e,hg,r⟩
   exact .inl hn;exact .inr ⟨g,cap,cur,e,by omega,r⟩
  clear h1 h2 hb4 HSP HDE HCV;go_wp2;go_ret;exact⟨_,rfl,HF.out.1,HF.out.2⟩
 have hc2:¬(4:Int)*(z:Int)<(m:Int):=(by omega);go_wp2_with fail
 refine(HDE.out _ HB3.out).mono ?_;rintro e w4 ⟨v4,rfl,hS4,hb4⟩;obtain⟨db,q,rfl,h1,h2⟩:=hS4
 have HF:Hid (Zbf w4 w.heap.size (.iface 382 (.pointer (some ⟨db,0,none⟩))) N g/\Below w.heap.size w w4):=by
  refine⟨HCV.out w4 _ (.inr ⟨hc,_,rfl,db,q,rfl,by omega,h2.blk,?_⟩),HB3.out.trans (hb4.mono hsz3)⟩;have hr:=h2.row;refine⟨hr.1,?_⟩
  rcases hr.2 with hn|⟨g,cap,cur,e,hg,r⟩
  exact .inl hn;exact .inr ⟨g,cap,cur,e,by omega,r⟩
 clear h1 h2 hb4 HSP HDE HCV;go_wp2;go_ret;exact⟨_,rfl,HF.out.1,HF.out.2⟩
structure XS where
 row:Nat
 f:Nat
 bin:Nat
structure BS where
 fs:List Nat
 N:List Nat
 g:Nat
structure DSS where
 ks:List KS
 bs:List BS
 xs:List XS
def Qs(x:XS):List Value:=[.int .i64 (x.row:Nat),.int .i64 (x.f:Nat),.int .i64 (x.bin:Nat)]
def QN:List XS->List Value
 |[]=>[]
 |x::L=>Qs x++QN L
theorem Zhs(a b:List XS):QN (a++b)=QN a++QN b:=by
 induction a with
 |nil=>rfl
 |cons e L ih=>simp[QN,ih]
theorem ZgB(L:List XS):(QN L).length=L.length*3:=by
 induction L with
 |nil=>rfl
 |cons e L ih=>simp[QN,Qs,ih];omega
theorem ZnY:(Tryz.prog.info? 184).map (fun i=>(i.zero,i.size,i.bytes))=some (some (.agg #[.int .i64 0,.int .i64 0,.int .i64 0]),3,24):=by kernel_rfl
theorem ZnW:(Tryz.prog.info? 163).map (fun i=>(i.zero,i.size,i.bytes))=some (some (.agg #[.slice none 0 0,.nilIface]),2,40):=by kernel_rfl
def ZaC(w:World)(base:Nat)(v:Value)(L:List XS):Prop:=w.ownsRow base 184 3 v L.length (QN L)
theorem ZaC.more{w:World}{base:Nat}{v:Value}{L:List XS}{x:XS}(h:w.ownsRow base 184 3 v (L.length+1) (QN L++Qs x)):ZaC w base v (L++[x]):=by
 unfold ZaC;rw[Zhs,Qe]
 simpa [QN] using h
theorem ZaC.shape{w:World}{base:Nat}{v:Value}{L:List XS}(h:ZaC w base v L):∃a c,v=.slice a L.length c:=by
 rcases h.2 with⟨rfl,h0⟩|⟨q,p,cur,rfl,_⟩
 exact⟨none,0,by rw[h0]⟩;exact⟨_,_,rfl⟩
def STy(S:Nat->Prop)(w:World):Prop:=∀k cur ty,w.heap[k]? =some (.cells cur ty (0,0))->S k->ty=168∨ty=163∨ty=184
theorem STy.row{S:Nat->Prop}{w:World}(h:STy S w){base e size n:Nat}{v:Value}{xs:List Value}(hr:w.ownsRow base e size v n xs)(h1:e≠168)(h2:e≠163)(h3:e≠184):∀k,v.ownBlock=some k->¬S k:=fun k hk hs=>by
 obtain⟨cur,hc⟩:=Zf hr hk
 rcases h k cur e hc hs with e1|e1|e1
 exact h1 e1;exact h2 e1;exact h3 e1
theorem STy.at{S:Nat->Prop}{w:World}(h:STy S w){k ty:Nat}{cur:Array Value}(hc:w.heap[k]? =some (.cells cur ty (0,0)))(h1:ty≠168)(h2:ty≠163)(h3:ty≠184):¬S k:=fun hs=>by
 rcases h k cur ty hc hs with e1|e1|e1
 exact h1 e1;exact h2 e1;exact h3 e1
theorem Zjj.touch{S:Nat->Prop}{w w':World}{base:Nat}{v:Value}{n d:Nat}{bs:List Int}(h:Zjj w base v n d bs)(t:Za S w w')(hs:STy S w):Zjj w' base v n d bs:=by obtain⟨db,q,e,hb,hX⟩:=h;exact⟨db,q,e,hb,t.at_ hX.blk (hs.at hX.blk (by decide) (by decide) (by decide)),t.row hX.row (hs.row hX.row (by decide) (by decide) (by decide))⟩
theorem Zh6.touch{S:Nat->Prop}{w w':World}{base:Nat}{v:Value}{n d:Nat}{L:List (Nat×Nat)}(h:Zh6 w base v n d L)(t:Za S w w')(hs:STy S w):Zh6 w' base v n d L:=by obtain⟨db,q,e,hb,hX⟩:=h;exact⟨db,q,e,hb,t.at_ hX.blk (hs.at hX.blk (by decide) (by decide) (by decide)),t.row hX.row (hs.row hX.row (by decide) (by decide) (by decide))⟩
theorem Zbf.touch{S:Nat->Prop}{w w':World}{base:Nat}{v:Value}{N:List Nat}{g:Nat}(h:Zbf w base v N g)(t:Za S w w')(hs:STy S w):Zbf w' base v N g:=by
 rcases h with⟨h1,p,e,h2⟩|⟨h1,p,e,h2⟩
 exact .inl ⟨h1,p,e,h2.touch t hs⟩;exact .inr ⟨h1,p,e,h2.touch t hs⟩
theorem STy.none(w:World):STy (fun _=>False) w:=fun _ _ _ _ h=>h.elim
theorem Zbf.below{w w':World}{base:Nat}{v:Value}{N:List Nat}{g:Nat}(h:Zbf w base v N g)(hb:Below w.heap.size w w'):Zbf w' base v N g:=h.touch (Za.of_below hb) (STy.none w)
theorem Zbf.zero{w:World}{base:Nat}{v:Value}{N:List Nat}{g:Nat}(h:Zbf w base v N g):Zbf w 0 v N g:=by
 rcases h with⟨h1,p,e,sb,vc,e2,hb,hX⟩|⟨h1,p,e,db,q,e2,hb,hX⟩
 ·refine .inl ⟨h1,p,e,sb,vc,e2,Qg _,hX.blk,hX.row.1,?_⟩
  rcases hX.row.2 with hn|⟨g,cap,cur,e,hg,r⟩
  exact .inl hn;exact .inr ⟨g,cap,cur,e,Qg _,r⟩
 refine .inr ⟨h1,p,e,db,q,e2,Qg _,hX.blk,hX.row.1,?_⟩
 rcases hX.row.2 with hn|⟨g,cap,cur,e,hg,r⟩
 exact .inl hn;exact .inr ⟨g,cap,cur,e,Qg _,r⟩
theorem Zbf.iface{w:World}{base:Nat}{v:Value}{N:List Nat}{g:Nat}(h:Zbf w base v N g):∃t p,v=.iface t (.pointer (some ⟨p,0,none⟩)):=by
 rcases h with⟨_,p,e,sb,vc,e2,_⟩|⟨_,p,e,db,q,e2,_⟩
 exact⟨380,sb,by rw[e,e2]⟩;exact⟨382,db,by rw[e,e2]⟩
def ZH:BS:=⟨[],[],0⟩
def ZaI:List (Value×Value)->List Value
  |[]=>[]
  |v::L=>[v.1,v.2]++ZaI L
theorem Zf9(a b:List (Value×Value)):ZaI (a++b)=ZaI a++ZaI b:=by
 induction a with
 |nil=>rfl
 |cons e L ih=>simp[ZaI,ih]
structure Zc6(w:World)(vB:Value)(vs:List (Value×Value))(Bs:List BS):Prop where
 row:w.ownsRow 0 163 2 vB Bs.length (ZaI vs)
 len:vs.length=Bs.length
 each:∀i,i<Bs.length->Ze w 0 (vs.getD i vv0).1 (ZP (Bs.getD i ZH).fs)/\Zbf w 0 (vs.getD i vv0).2 (Bs.getD i ZH).N (Bs.getD i ZH).g
def ZdB(off:Nat)(O:List Bool)(B N:List Nat)(r:Nat):Nat:=if O.getD r false=true/\N.getD r 0=0 then off+B.getD r 0 else N.getD r 0
def Zmc(f:Nat)(O:List Bool)(B N:List Nat)(r:Nat):List XS:=if O.getD r false=true/\N.getD r 0≠0 then[⟨r,f,B.getD r 0⟩] else[]
def putN(off:Nat)(O:List Bool)(B N:List Nat)(k:Nat):List Nat:=(List.range k).map (ZdB off O B N)++N.drop k
def Y7(f:Nat)(O:List Bool)(B N:List Nat):Nat->List XS
 |0=>[]
 |k+1=>Y7 f O B N k++Zmc f O B N k
theorem ZfE(off:Nat)(O:List Bool)(B N:List Nat){k:Nat}(h:k<=N.length):(putN off O B N k).length=N.length:=by simp[putN];omega
theorem Zl6(off:Nat)(O:List Bool)(B N:List Nat):putN off O B N 0=N:=by simp[putN]
theorem Zla(off:Nat)(O:List Bool)(B N:List Nat){k:Nat}:(putN off O B N k).getD k 0=N.getD k 0:=by simp[putN,List.getD,List.getElem?_append_right]
theorem ZiY(off:Nat)(O:List Bool)(B N:List Nat){k:Nat}(h:k<N.length):(putN off O B N k).set k (ZdB off O B N k)=putN off O B N (k+1):=by unfold putN;rw[List.drop_eq_getElem_cons h,List.set_append_right _ _ (by simp),List.length_map,List.length_range,Nat.sub_self,List.set_cons_zero,List.range_succ,List.map_append,List.append_assoc];rfl
theorem Zl5(off:Nat)(O:List Bool)(B N:List Nat){k:Nat}(h:k<N.length)(e:ZdB off O B N k=N.getD k 0):putN off O B N (k+1)=putN off O B N k:=by
 rw[<- ZiY off O B N h,e];apply List.ext_getElem;simp;intro i h1 h2;rw[List.getElem_set]
 by_cases ei:k=i
 subst ei;rw[if_pos rfl];have:=Zla off O B N (k:=k);rw[<- this];simp[List.getD,h2];rw[if_neg ei]
theorem Zdy(f:Nat)(O:List Bool)(B N:List Nat):∀k,(Y7 f O B N k).length<=k
 |0=>by simp[Y7]
 |k+1=>by have:=Zdy f O B N k;simp only[Y7,Zmc];split;simp;omega;simp;omega
structure CS where
 N:List Nat
 xs:List XS
 off:Nat
def Zi(Ks:List KS)(Os:List (List Bool))(Bb:List (List Nat))(n:Nat)(s:CS)(f:Nat):CS:=
 ⟨putN s.off (Os.getD f []) (Bb.getD f []) s.N n,s.xs++Y7 f (Os.getD f []) (Bb.getD f []) s.N n,s.off+(Ks.getD f ZK).many⟩
def QQ(Ks:List KS)(Os:List (List Bool))(Bb:List (List Nat))(n:Nat)(xs:List XS)(fs:List Nat):CS:=fs.foldl (Zi Ks Os Bb n) ⟨List.replicate n 0,xs,1⟩
def ZaE(Os:List (List Bool))(Bb:List (List Nat))(n:Nat)(D:DSS)(G:GS):DSS:=
 ⟨D.ks,D.bs++[⟨G.fs,(QQ D.ks Os Bb n D.xs G.fs).N,(QQ D.ks Os Bb n D.xs G.fs).off-1⟩],(QQ D.ks Os Bb n D.xs G.fs).xs⟩
def e0S:ES:=⟨false,[],[]⟩
def ZcG:Value×Value×Value:=(.slice none 0 0,.slice none 0 0,.slice none 0 0)
def QR(e:ES)(v:Value×Value×Value):List Value:=[.bool e.wd,v.1,v.2.1,v.2.2]
def ZaH:List ES->List (Value×Value×Value)->List Value
 |[],_=>[]
 |_::_,[]=>[]
 |k::Ks,v::vs=>QR k v++ZaH Ks vs
theorem Ze7:∀(Ks:List ES) (vs:List (Value×Value×Value)),vs.length=Ks.length->∀i,i<Ks.length->∀c,c<4->(ZaH Ks vs)[i*4+c]? =(QR (Ks.getD i e0S) (vs.getD i ZcG))[c]?
 |[],_,_,i,h=>by simp at h
 |k::Ks,[],h,_,_=>by simp at h
 |k::Ks,v::vs,_,0,_=>fun c hc=>by simp only[ZaH];rw[show 0*4+c=c by omega,List.getElem?_append_left (by simpa [QR] using hc)];rfl
 |k::Ks,v::vs,h,i+1,hi=>fun c hc=>by simp only[ZaH];rw[List.getElem?_append_right (by simp[QR];omega),show(i+1)*4+c-(QR k v).length=i*4+c by simp[QR];omega];exact Ze7 Ks vs (by simpa using h) i (by simpa using hi) c hc
structure ZcT(w:World)(vF:Value)(vs:List (Value×Value×Value))(es:List ES)(Bb:List (List Nat)):Prop where
 row:w.ownsRow 0 266 4 vF es.length (ZaH es vs)
 len:vs.length=es.length
 each:∀i,i<es.length->Ze w 0 (vs.getD i ZcG).1 (es.getD i e0S).bs/\ZR w 0 (vs.getD i ZcG).2.1 (es.getD i e0S).ww/\Ze w 0 (vs.getD i ZcG).2.2 (ZP (Bb.getD i []))
theorem ZcT.touch{S:Nat->Prop}{w w':World}{vF:Value}{vs:List (Value×Value×Value)}{es:List ES}{Bb:List (List Nat)}(h:ZcT w vF vs es Bb)(t:Za S w w')(hs:STy S w):ZcT w' vF vs es Bb:=
 ⟨t.row h.row (hs.row h.row (by decide) (by decide) (by decide)),h.len,fun i hi=>⟨t.row (h.each i hi).1 (hs.row (h.each i hi).1 (by decide) (by decide) (by decide)),t.row (h.each i hi).2.1 (hs.row (h.each i hi).2.1 (by decide) (by decide) (by decide)),t.row (h.each i hi).2.2 (hs.row (h.each i hi).2.2 (by decide) (by decide) (by decide))⟩⟩
theorem ZcT.below{w w':World}{vF:Value}{vs:List (Value×Value×Value)}{es:List ES}{Bb:List (List Nat)}(h:ZcT w vF vs es Bb)(hb:Below w.heap.size w w'):ZcT w' vF vs es Bb:=h.touch (Za.of_below hb) (STy.none w)
theorem ZcT.cells{w:World}{q n c:Nat}{vs:List (Value×Value×Value)}{es:List ES}{Bb:List (List Nat)}(h:ZcT w (.slice (some ⟨q,0,none⟩) n c) vs es Bb){i:Nat}(hi:i<es.length):q<w.heap.size/\w.cell? ⟨q,i*4,none⟩=some (.bool (es.getD i e0S).wd)/\w.cell? ⟨q,i*4+1,none⟩=some (vs.getD i ZcG).1/\w.cell? ⟨q,i*4+2,none⟩=some (vs.getD i ZcG).2.1/\w.cell? ⟨q,i*4+3,none⟩=some (vs.getD i ZcG).2.2:=by
 have hr:=h.row
 rcases h.row.2 with⟨_,h0⟩|⟨g,cap,cur,e,hb,hh,hnc,_⟩
 omega;injection e with e1 e2 e3;injection e1 with e1;injection e1 with e1 _;subst e1 e2
 have key:∀c u,c<4->(QR (es.getD i e0S) (vs.getD i ZcG))[c]? =some u->w.cell? ⟨q,i*4+c,none⟩=some u:=fun c u hc hu=>by rw[World.ownsRow.cellAt hr (i*4+c) (by omega)];exact(Ze7 es vs h.len i hi c hc).trans hu
 exact⟨(Qb hh).1,key 0 _ (by omega) rfl,key 1 _ (by omega) rfl,key 2 _ (by omega) rfl,key 3 _ (by omega) rfl⟩
theorem Zas.touchS{S:Nat->Prop}{w w':World}{vK:Value}{vs:List (Value×Value)}{Ks:List KS}(h:Zas w vK vs Ks)(t:Za S w w')(hs:STy S w):Zas w' vK vs Ks:=
 h.touch t (fun k cur ty hk hty=>hs.at hk (by rcases hty with e|e|e<;>rw[e]<;>decide) (by rcases hty with e|e|e<;>rw[e]<;>decide) (by rcases hty with e|e|e<;>rw[e]<;>decide))
theorem YV.touchS{S:Nat->Prop}{w w':World}{vO:Value}{vs:List Value}{Os:List (List Bool)}(h:YV w vO vs Os)(t:Za S w w')(hs:STy S w):YV w' vO vs Os:=
 h.touch t (fun k cur ty hk hty=>hs.at hk (by rcases hty with e|e<;>rw[e]<;>decide) (by rcases hty with e|e<;>rw[e]<;>decide) (by rcases hty with e|e<;>rw[e]<;>decide))
structure DsX(w:World)(db:Nat)(vK vB vX:Value)(bvs:List (Value×Value))(bs:List BS)(xs:List XS):Prop where
 blk:w.heap[db]? =some (.cells #[vK,vB,vX] 168 (0,0))
 bn:Zc6 w vB bvs bs
 xn:ZaC w 0 vX xs
def DsS(db:Nat)(vB vX:Value):Nat->Prop:=fun k=>k=db∨vB.ownBlock=some k∨vX.ownBlock=some k
theorem DsX.sty{w:World}{db:Nat}{vK vB vX:Value}{bvs:List (Value×Value)}{bs:List BS}{xs:List XS}(h:DsX w db vK vB vX bvs bs xs):STy (DsS db vB vX) w:=fun k cur ty hk hs=>by
 rcases hs with e|e|e
 subst e;rw[h.blk] at hk;simp at hk;exact .inl hk.2.symm;obtain⟨c2,hc⟩:=Zf h.bn.row e;rw[hc] at hk;simp at hk;exact .inr (.inl hk.2.symm);obtain⟨c2,hc⟩:=Zf h.xn e;rw[hc] at hk;simp at hk;exact .inr (.inr hk.2.symm)
theorem Zc6.touch{S:Nat->Prop}{w w':World}{vB:Value}{vs:List (Value×Value)}{Bs:List BS}(h:Zc6 w vB vs Bs)(t:Za S w w')(hr:∀k,vB.ownBlock=some k->¬S k)(hs:STy S w):Zc6 w' vB vs Bs:=
 ⟨t.row h.row hr,h.len,fun i hi=>⟨t.row (h.each i hi).1 (hs.row (h.each i hi).1 (by decide) (by decide) (by decide)),(h.each i hi).2.touch t hs⟩⟩
theorem Zc6.below{w w':World}{vB:Value}{vs:List (Value×Value)}{Bs:List BS}(h:Zc6 w vB vs Bs)(hb:Below w.heap.size w w'):Zc6 w' vB vs Bs:=h.touch (S:=fun _=>False) (Za.of_below hb) (fun _ _=>id) (STy.none w)
theorem DsX.below{w w':World}{db:Nat}{vK vB vX:Value}{bvs:List (Value×Value)}{bs:List BS}{xs:List XS}(h:DsX w db vK vB vX bvs bs xs)(hb:Below w.heap.size w w'):DsX w' db vK vB vX bvs bs xs:=
 ⟨(hb.block db (Qb h.blk).1).trans h.blk,h.bn.below hb,(Za.of_below (S:=fun _=>False) hb).row h.xn (fun _ _=>id)⟩
theorem DsX.more{w w':World}{db:Nat}{vK vB vX vX':Value}{bvs:List (Value×Value)}{bs:List BS}{xs xs':List XS}(h:DsX w db vK vB vX bvs bs xs)(hg:w.grownBy w' vX.ownBlock)(hx:ZaC w' 0 vX' xs'):DsX (w'.setCell ⟨db,2,none⟩ vX') db vK vB vX' bvs bs xs':=by
 have t:Za (fun k=>vX.ownBlock=some k) w w':=(Za.refl _ w).grown hg (fun k hk _=>hk);have hst:STy (fun k=>vX.ownBlock=some k) w:=fun k cur ty hk hs=>h.sty k cur ty hk (.inr (.inr hs))
 have hblk:w'.heap[db]? =some (.cells #[vK,vB,vX] 168 (0,0)):=t.at_ h.blk (fun e=>by
  obtain⟨c,hc⟩:=Zf h.xn e;have:=h.blk;rw[hc] at this
  simp at this)
 have hbn:Zc6 w' vB bvs bs:=h.bn.touch t (fun k hk hk2=>by
  obtain⟨c,hc⟩:=Zf h.xn hk2;obtain⟨c2,hc2⟩:=Zf h.bn.row hk;rw[hc] at hc2
  simp at hc2) hst
 have t2:Za (fun k=>k=db) w' (w'.setCell ⟨db,2,none⟩ vX'):=(Za.refl (fun k=>k=db) w').setCell (p:=⟨db,2,none⟩) (fun _=>rfl) vX'
 have hst2:STy (fun k=>k=db) w':=fun k cur ty hk hs=>by subst hs;rw[hblk] at hk;simp at hk;exact .inl hk.2.symm
 refine⟨heap_setCell_same _ db 2 _ 168 _ hblk,hbn.touch t2 (fun k hk e=>?_) hst2,Zl hx hblk (by decide)⟩;subst e;obtain⟨c2,hc2⟩:=Zf hbn.row hk;rw[hblk] at hc2;simp at hc2
theorem Znc(N:List Nat)(k x:Nat):(ZP N).set k (x:Int)=ZP (N.set k x):=by simp[ZP,List.map_set]
theorem Zb2(Ks:List KS)(Os:List (List Bool))(Bb:List (List Nat))(n:Nat):∀(fs:List Nat) (s:CS),s.off<=(fs.foldl (Zi Ks Os Bb n) s).off
 |[],s=>Qa _
 |f::fs,s=>by have:=Zb2 Ks Os Bb n fs (Zi Ks Os Bb n s f);simp only[List.foldl_cons];have h2:s.off<=(Zi Ks Os Bb n s f).off:=(by simp[Zi]);omega
theorem ZaV(Ks:List KS)(Os:List (List Bool))(Bb:List (List Nat))(n:Nat):∀(fs:List Nat) (s:CS),s.N.length=n->(fs.foldl (Zi Ks Os Bb n) s).N.length=n/\(fs.foldl (Zi Ks Os Bb n) s).xs.length<=s.xs.length+fs.length*n
 |[],s,h=>⟨h,by simp⟩
 |f::fs,s,h=>by have h1:(Zi Ks Os Bb n s f).N.length=n:=(by show(putN _ _ _ _ n).length=n;rw[ZfE _ _ _ _ (by omega)];exact h);have h2:(Zi Ks Os Bb n s f).xs.length<=s.xs.length+n:=(by show(s.xs++Y7 _ _ _ _ n).length<=_;have:=Zdy f (Os.getD f []) (Bb.getD f []) s.N n;rw[Qe];omega);obtain⟨i1,i2⟩:=ZaV Ks Os Bb n fs _ h1;simp only[List.foldl_cons,List.length_cons];refine⟨i1,?_⟩;rw[Nat.add_mul,Nat.one_mul];omega
theorem DsX.moreB{w w':World}{db:Nat}{vK vB vX vB':Value}{bvs bvs':List (Value×Value)}{bs bs':List BS}{xs:List XS}(h:DsX w db vK vB vX bvs bs xs)(hg:w.grownBy w' vB.ownBlock)(hb:Zc6 w' vB' bvs' bs'):DsX (w'.setCell ⟨db,1,none⟩ vB') db vK vB' vX bvs' bs' xs:=by
 have t:Za (fun k=>vB.ownBlock=some k) w w':=(Za.refl _ w).grown hg (fun k hk _=>hk)
 have hblk:w'.heap[db]? =some (.cells #[vK,vB,vX] 168 (0,0)):=t.at_ h.blk (fun e=>by
  obtain⟨c,hc⟩:=Zf h.bn.row e;have:=h.blk;rw[hc] at this
  simp at this)
 have hxn:ZaC w' 0 vX xs:=t.row h.xn (fun k hk hk2=>by
  obtain⟨c,hc⟩:=Zf h.xn hk;obtain⟨c2,hc2⟩:=Zf h.bn.row hk2;rw[hc] at hc2
  simp at hc2)
 have t2:Za (fun k=>k=db) w' (w'.setCell ⟨db,1,none⟩ vB'):=(Za.refl (fun k=>k=db) w').setCell (p:=⟨db,1,none⟩) (fun _=>rfl) vB'
 have hst2:STy (fun k=>k=db) w':=fun k cur ty hk hs=>by subst hs;rw[hblk] at hk;simp at hk;exact .inl hk.2.symm
 refine⟨heap_setCell_same _ db 1 _ 168 _ hblk,hb.touch t2 (fun k hk e=>?_) hst2,Zl hxn hblk (by decide)⟩;subst e;obtain⟨c2,hc2⟩:=Zf hb.row hk;rw[hblk] at hc2;simp at hc2
def ZeO(w w':World)(db:Nat)(vK vB vX:Value)(bs:List BS)(xs:List XS):Prop:=∃vB' vX' bvs',DsX w' db vK vB' vX' bvs' bs xs/\Za (DsS db vB vX) w w'/\∀k,DsS db vB' vX' k->DsS db vB vX k∨w.heap.size<=k
theorem DsX.touch{S:Nat->Prop}{w w':World}{db:Nat}{vK vB vX:Value}{bvs:List (Value×Value)}{bs:List BS}{xs:List XS}(h:DsX w db vK vB vX bvs bs xs)(t:Za S w w')(hs:∀k ty cur,w.heap[k]? =some (.cells cur ty (0,0))->ty≠3->¬S k)(hfs:∀i,i<bs.length->∀k,(bvs.getD i vv0).1.ownBlock=some k->¬S k):DsX w' db vK vB vX bvs bs xs:=by
 have hr:∀{base e size n:Nat} {v:Value} {l:List Value},w.ownsRow base e size v n l->e≠3->∀k,v.ownBlock=some k->¬S k:=fun hh he k hk=>by obtain⟨cur,hc⟩:=Zf hh hk;exact hs k _ cur hc he
 refine⟨t.at_ h.blk (hs db _ _ h.blk (by decide)),⟨t.row h.bn.row (hr h.bn.row (by decide)),h.bn.len,fun i hi=>⟨t.row (h.bn.each i hi).1 (hfs i hi),?_⟩⟩,t.row h.xn (hr h.xn (by decide))⟩
 rcases(h.bn.each i hi).2 with⟨h1,p,e,sb,vc,e2,hb,hX⟩|⟨h1,p,e,d2,q,e2,hb,hX⟩
 exact .inl ⟨h1,p,e,sb,vc,e2,hb,t.at_ hX.blk (hs _ _ _ hX.blk (by decide)),t.row hX.row (hr hX.row (by decide))⟩;exact .inr ⟨h1,p,e,d2,q,e2,hb,t.at_ hX.blk (hs _ _ _ hX.blk (by decide)),t.row hX.row (hr hX.row (by decide))⟩
structure Zep(w wr:World)(db:Nat)(vK vB vX vX':Value)(bvs:List (Value×Value))(bs:List BS)(qn n:Nat)(N:List Nat)(xs:List XS):Prop where
 ds:DsX wr db vK vB vX' bvs bs xs
 nm:Ze wr w.heap.size (.slice (some ⟨qn,0,none⟩) n n) (ZP N)
 t:Za (DsS db vB vX) w wr
 nx:∀k,vX'.ownBlock=some k->DsS db vB vX k∨w.heap.size<=k
theorem Zep.below{w wr w2:World}{db:Nat}{vK vB vX vX':Value}{bvs:List (Value×Value)}{bs:List BS}{qn n:Nat}{N:List Nat}{xs:List XS}(h:Zep w wr db vK vB vX vX' bvs bs qn n N xs)(hb:Below wr.heap.size wr w2):Zep w w2 db vK vB vX vX' bvs bs qn n N xs:=
 ⟨h.ds.below hb,h.nm.below hb,h.t.below hb,h.nx⟩
theorem Zf3(db gb m n qk kc qf fc qo oc conf bns:Nat)(vB vX vf:Value)(oa:Option Addr)(occ:Nat)(bvs kvs:List (Value×Value))(fvs:List (Value×Value×Value))(os:List Value)(bs:List BS)(xs:List XS)(Ks:List KS)(es:List ES)(Bb:List (List Nat))(Os:List (List Bool))(fs:List Nat)(w:World)(hD:DsX w db (.slice (some ⟨qk,0,none⟩) (m+1) kc) vB vX bvs bs xs)(hK:Zas w (.slice (some ⟨qk,0,none⟩) (m+1) kc) kvs Ks)(hKl:Ks.length=m+1)(hgb:w.heap[gb]? =some (.cells #[vf,.slice oa n occ,.int .i64 (conf:Nat),.int .i64 (bns:Nat)] 351 (0,0)))(hfs:Ze w 0 vf (ZP fs))(hF:ZcT w (.slice (some ⟨qf,0,none⟩) (m+1) fc) fvs es Bb)(hEl:es.length=m+1)(hO:YV w (.slice (some ⟨qo,0,none⟩) (m+1) oc) os Os)(hOl:Os.length=m+1)(hlO:∀O∈Os,O.length=n)(hlB:∀i,i<m+1->(Bb.getD i []).length=n)(hfl:∀f∈fs,f<m+1)(hn:n<=200)(hfsl:fs.length<=100)(hbin:∀i,i<m+1->∀b∈Bb.getD i [],b<=1000)(hmany:∀K∈Ks,K.many<=100)(hoff:(QQ Ks Os Bb n xs fs).off<=64)(hx:xs.length<=100000)(hbl:bs.length<=1000):Calls Tryz.prog 207 #[.pointer (some ⟨db,0,none⟩),.pointer (some ⟨gb,0,none⟩),.slice (some ⟨qf,0,none⟩) (m+1) fc,.slice (some ⟨qo,0,none⟩) (m+1) oc] w fun e w'=>e=.returned (.tuple #[])/\ZeO w w' db (.slice (some ⟨qk,0,none⟩) (m+1) kc) vB vX (bs++[⟨fs,(QQ Ks Os Bb n xs fs).N,(QQ Ks Os Bb n xs fs).off-1⟩]) (QQ Ks Os Bb n xs fs).xs:=by
 have HH:Hid (Zas w (.slice (some ⟨qk,0,none⟩) (m+1) kc) kvs Ks/\ZcT w (.slice (some ⟨qf,0,none⟩) (m+1) fc) fvs es Bb/\YV w (.slice (some ⟨qo,0,none⟩) (m+1) oc) os Os/\Ze w 0 vf (ZP fs)/\w.heap[gb]? =some (.cells #[vf,.slice oa n occ,.int .i64 (conf:Nat),.int .i64 (bns:Nat)] 351 (0,0))):=⟨hK,hF,hO,hfs,hgb⟩;have HL:Hid (Ks.length=m+1/\es.length=m+1/\Os.length=m+1/\(∀O∈Os,O.length=n)/\(∀i,i<m+1->(Bb.getD i []).length=n)/\(∀f∈fs,f<m+1)/\(∀i,i<m+1->∀b∈Bb.getD i [],b<=1000)/\∀K∈Ks,K.many<=100):=⟨hKl,hEl,hOl,hlO,hlB,hfl,hbin,hmany⟩;have HSTY:Hid (STy (DsS db vB vX) w):=hD.sty;have HD:Hid (DsX w db (.slice (some ⟨qk,0,none⟩) (m+1) kc) vB vX bvs bs xs):=hD;obtain⟨fa,fcc,hvf⟩:=hfs.shape;rw[ZQ] at hvf;subst hvf
 have g0:w.cell? ⟨gb,0,none⟩=some (.slice fa fs.length fcc):=cell_of_row _ _ 0 _ 351 (0,0) hgb;have g1:w.cell? ⟨gb,1,none⟩=some (.slice oa n occ):=cell_of_row _ _ 1 _ 351 (0,0) hgb;have hgl:gb<w.heap.size:=(Qb hgb).1;have hdl:db<w.heap.size:=(Qb hD.blk).1;have HCF:Hid (QQ Ks Os Bb n xs fs=fs.foldl (Zi Ks Os Bb n) ⟨List.replicate n 0,xs,1⟩/\(QQ Ks Os Bb n xs fs).off<=64):=⟨rfl,hoff⟩;have hmk:=Zcx n (by omega);obtain⟨fl,hfl2⟩:∃fl,fl=fs.length:=⟨_,rfl⟩;have HFL:Hid (fl=fs.length):=hfl2;rw[<- hfl2] at hfsl g0;clear hD hK hKl hgb hfs hF hEl hO hOl hlO hlB hfl hbin hmany hoff hfl2;obtain⟨i0,hinf,hz0,hz1,hz2⟩:=info_parts ZnY;obtain⟨j0,jinf,jz0,jz1,jz2⟩:=info_parts ZnW;go_enter Tryz.func207,Tryz.ntmps207;go_wp2_with fail
 go_loopw [26,9] (fun ti to_ wr=>∃(k:Nat) (vX':Value),ti=.int .i64 k/\k<=fl/\to_=.int .i64 (((fs.take k).foldl (Zi Ks Os Bb n) ⟨List.replicate n 0,xs,1⟩).off:Nat)/\Hid (Zep w wr db (.slice (some ⟨qk,0,none⟩) (m+1) kc) vB vX vX' bvs bs w.heap.size n ((fs.take k).foldl (Zi Ks Os Bb n) ⟨List.replicate n 0,xs,1⟩).N ((fs.take k).foldl (Zi Ks Os Bb n) ⟨List.replicate n 0,xs,1⟩).xs)) (fun ti _ _=>fl-(intOf ti).toNat)
 case atStart=>
  refine⟨0,vX,rfl,Qg _,rfl,?_⟩;have hm:=Zcw n w w.heap.size (by omega) (Qa _);have e:ZP (List.replicate n 0)=List.replicate n 0:=(by simp[ZP]);exact⟨HD.out.below ((Below.refl _ _).alloc (Qa _) _),by rw[List.take_zero];show Ze _ _ _ (ZP (List.replicate n 0));rw[e];exact hm,(Za.refl _ _).alloc _,fun k hk=>.inl (.inr (.inr hk))⟩
 case round=>
  clear hmk;obtain⟨k,vX',rfl,hk,rfl,HR⟩:=hrel;have hsz:=HR.out.t.size
  by_cases hkl:k<fl
  ·have hkf:k<fs.length:=(by rw[<- HFL.out];exact hkl);have htk:fs.take (k+1)=fs.take k++[fs.getD k 0]:=(by rw[Qi hkf];simp[List.getD,hkf]);have hfm:fs.getD k 0<m+1:=(by have:fs.getD k 0=fs[k]:=(by simp[List.getD,hkf]);rw[this];exact HL.out.2.2.2.2.2.1 _ (Qf hkf));have HNX:Hid ((fs.take (k+1)).foldl (Zi Ks Os Bb n) ⟨List.replicate n 0,xs,1⟩=Zi Ks Os Bb n ((fs.take k).foldl (Zi Ks Os Bb n) ⟨List.replicate n 0,xs,1⟩) (fs.getD k 0)):=by show _=_;rw[htk,List.foldl_append];rfl
   have hoff2:((fs.take (k+1)).foldl (Zi Ks Os Bb n) ⟨List.replicate n 0,xs,1⟩).off<=64:=(by have h1:=Zb2 Ks Os Bb n (fs.drop (k+1)) ((fs.take (k+1)).foldl (Zi Ks Os Bb n) ⟨List.replicate n 0,xs,1⟩);rw[<- List.foldl_append,List.take_append_drop,<- HCF.out.1] at h1;exact Nat.le_trans h1 HCF.out.2);have hlen:=ZaV Ks Os Bb n (fs.take k) ⟨List.replicate n 0,xs,1⟩ (by simp)
   have hcf:wr.cell? ⟨(match fa with|some p=>p.block|none=>0),k,none⟩=some (.int .i64 ((fs.getD k 0:Nat):Int))/\∃q,fa=some ⟨q,0,none⟩:=(by obtain⟨q,hq,hql,_,hc,_⟩:=HH.out.2.2.2.1.atK (by rw[ZQ]) hkf;subst hq;rw[YO] at hc;have hnot:=HSTY.out.row HH.out.2.2.2.1 (by decide) (by decide) (by decide) q rfl;refine⟨?_,q,rfl⟩;show wr.cell? ⟨q,k,none⟩=_;rw[World.cell?_of_block (a:=⟨q,k,none⟩) (HR.out.t.block q hql hnot)];exact hc);obtain⟨hcf,q,hq⟩:=hcf;subst hq;simp only at hcf;have HOFF:Hid (∀f,(Zi Ks Os Bb n ((fs.take k).foldl (Zi Ks Os Bb n) ⟨List.replicate n 0,xs,1⟩) f).off=((fs.take k).foldl (Zi Ks Os Bb n) ⟨List.replicate n 0,xs,1⟩).off+(Ks.getD f ZK).many):=fun f=>rfl
   have hxsl:((fs.take k).foldl (Zi Ks Os Bb n) ⟨List.replicate n 0,xs,1⟩).xs.length<=200000:=by have h1:=hlen.2;have h2:(fs.take k).length*n<=100*200:=Nat.mul_le_mul (by simp;omega) hn;simp only at h1;omega
   have HLEN:Hid (((fs.take k).foldl (Zi Ks Os Bb n) ⟨List.replicate n 0,xs,1⟩).N.length=n):=hlen.1;rw[HNX.out,HOFF.out] at hoff2;clear htk hlen;generalize fs.getD k 0=f at *;generalize (fs.take k).foldl (Zi Ks Os Bb n) ⟨List.replicate n 0,xs,1⟩=s at *;have hOw:=HH.out.2.2.1.touchS HR.out.t HSTY.out;have hOf:=hOw.each f (by rw[HL.out.2.2.1];exact hfm);obtain⟨hqol,o0⟩:=hOw.at2 (i:=f) (by rw[HL.out.2.2.1];exact hfm);have hOfl:(Os.getD f []).length=n:=HL.out.2.2.2.1 _ (by simp[List.getD,show f<Os.length by rw[HL.out.2.2.1];exact hfm]);have hBfl:=HL.out.2.2.2.2.1 f hfm;have hBin:=HL.out.2.2.2.2.2.2.1 f hfm;obtain⟨xa,xc,hxv⟩:=hOf.shape;rw[hxv] at o0 hOf;rw[hOfl] at o0 hOf
   have HSTEP:Hid (Zi Ks Os Bb n s f=⟨putN s.off (Os.getD f []) (Bb.getD f []) s.N n,s.xs++Y7 f (Os.getD f []) (Bb.getD f []) s.N n,s.off+(Ks.getD f ZK).many⟩):=rfl;have HOF:Hid (Z7 w 0 (.slice xa n xc) (Os.getD f [])/\(Os.getD f []).length=n):=by have h1:=HH.out.2.2.1.each f (by rw[HL.out.2.2.1];exact hfm);rw[hxv,hOfl] at h1;exact⟨h1,hOfl⟩
   have hBw:=HH.out.2.1.touch HR.out.t HSTY.out;obtain⟨hqfl,_,_,_,b3⟩:=hBw.cells (i:=f) (by rw[HL.out.2.1];exact hfm);have hBf:=(HH.out.2.1.each f (by rw[HL.out.2.1];exact hfm)).2.2;obtain⟨ba,bc,hbv⟩:=hBf.shape;rw[ZQ,hBfl] at hbv;rw[hbv] at b3 hBf;have hbw:Ze w 0 (.slice ba n bc) (ZP (Bb.getD f []))/\(Bb.getD f []).length=n/\∀b∈Bb.getD f [],b<=1000:=⟨hBf,hBfl,hBin⟩;have HBF:Hid (Ze w 0 (.slice ba n bc) (ZP (Bb.getD f []))/\(Bb.getD f []).length=n/\∀b∈Bb.getD f [],b<=1000):=hbw
   have HQF:Hid (∀W:World,Za (DsS db vB vX) w W->W.cell? ⟨qf,f*4+3,none⟩=some (.slice ba n bc)):=fun W hW=>by have h1:=(HH.out.2.1.touch hW HSTY.out).cells (i:=f) (by rw[HL.out.2.1];exact hfm);rw[hbv] at h1;exact h1.2.2.2.2
   clear hOw hOf hOfl hBfl hBin hBw hBf hbw hxv hbv b3;generalize Os.getD f []=Of at *;generalize Bb.getD f []=Bf at *;have bk1:(0:Int)<=(k:Int):=(by omega);have bk2:(k:Int)<(fl:Int):=(by omega);have bf1:(0:Int)<=(f:Int):=(by omega);have bf2:(f:Int)<(m:Int)+1:=(by omega);obtain⟨wl,hwl⟩:∃wl,wl=wr:=⟨wr,rfl⟩;subst hwl;go_wp2_with fail
   go_loopw [35] (fun tj wr=>∃(j:Nat) (vY:Value),tj=.int .i64 j/\j<=n/\Hid (Zep w wr db (.slice (some ⟨qk,0,none⟩) (m+1) kc) vB vX vY bvs bs w.heap.size n (putN s.off Of Bf s.N j) (s.xs++Y7 f Of Bf s.N j))) (fun tj _=>n-(intOf tj).toNat)
   case atStart=>
    refine⟨0,vX',rfl,Qg _,?_⟩;rw[Zl6];show Zep _ _ _ _ _ _ _ _ _ _ _ _ (s.xs++[]);rw[List.append_nil];exact HR.out
   case round=>
    clear HR hcf hqol o0 hsz;obtain⟨j,vY,rfl,hj,HI⟩:=hrel;have hsz:=HI.out.t.size
    by_cases hjn:j<n
    ·obtain⟨qx,hqx,hqxl,_,x0,_⟩:=HOF.out.1.atK HOF.out.2 hjn;subst hqx;obtain⟨qb,hqb,hqbl,_,y0,_⟩:=HBF.out.1.atK (by rw[ZQ];exact HBF.out.2.1) hjn;subst hqb;rw[YO] at y0;have x1:wr.cell? ⟨qx,j,none⟩=some (.bool (Of.getD j false)):=(by rw[World.cell?_of_block (a:=⟨qx,j,none⟩) (HI.out.t.block qx hqxl (HSTY.out.row HOF.out.1 (by decide) (by decide) (by decide) qx rfl))];exact x0);have y1:wr.cell? ⟨qb,j,none⟩=some (.int .i64 ((Bf.getD j 0:Nat):Int)):=by rw[World.cell?_of_block (a:=⟨qb,j,none⟩) (HI.out.t.block qb hqbl (HSTY.out.row HBF.out.1 (by decide) (by decide) (by decide) qb rfl))];exact y0
     have y2:=HQF.out wr HI.out.t;have hNl:(putN s.off Of Bf s.N j).length=n:=(by rw[ZfE _ _ _ _ (by have:=HLEN.out;omega)];exact HLEN.out);obtain⟨n1,nf⟩:=HI.out.nm.cellK (k:=j) (by rw[ZQ];exact hNl.symm) hjn;rw[YO,Zla] at n1;have hb1000:Bf.getD j 0<=1000:=by have hjb:j<Bf.length:=(by have:=HBF.out.2.1;omega);have:Bf.getD j 0=Bf[j]:=(by simp[List.getD,hjb]);rw[this];exact HBF.out.2.2 _ (Qf hjb)
     have HNL:Hid (n=(ZP (putN s.off Of Bf s.N j)).length):=(by rw[ZQ];exact hNl.symm);have HROWN:Hid (ZdB s.off Of Bf s.N j=if Of.getD j false=true/\s.N.getD j 0=0 then s.off+Bf.getD j 0 else s.N.getD j 0):=rfl;have HROWX:Hid (Y7 f Of Bf s.N (j+1)=Y7 f Of Bf s.N j++(if Of.getD j false=true/\s.N.getD j 0≠0 then[⟨j,f,Bf.getD j 0⟩] else[])):=rfl;have HPS:Hid ((putN s.off Of Bf s.N j).set j (ZdB s.off Of Bf s.N j)=putN s.off Of Bf s.N (j+1)):=ZiY s.off Of Bf s.N (by have:=HLEN.out;omega);have HPE:Hid (ZdB s.off Of Bf s.N j=s.N.getD j 0->putN s.off Of Bf s.N (j+1)=putN s.off Of Bf s.N j):=Zl5 s.off Of Bf s.N (by have:=HLEN.out;omega);have hql:qf<wr.heap.size:=by have:=(HH.out.2.1.cells (i:=f) (by rw[HL.out.2.1];exact hfm)).1;omega
     have bj1:(0:Int)<=(j:Int):=(by omega);have bj2:(j:Int)<(n:Int):=(by omega);have hs64:s.off<=64:=by omega
     have HXL:Hid ((s.xs++Y7 f Of Bf s.N j).length<=300000):=(by have:=Zdy f Of Bf s.N j;show _<=_;rw[Qe];omega);clear x0 y0 hNl;generalize Of.getD j false=ob at *;generalize Bf.getD j 0=yb at *;generalize s.N.getD j 0=nz at *
     cases ob with
     | false=>
      have HF:Hid (Zep w wr db (.slice (some ⟨qk,0,none⟩) (m+1) kc) vB vX vY bvs bs w.heap.size n (putN s.off Of Bf s.N (j+1)) (s.xs++Y7 f Of Bf s.N (j+1))):=by have h1:=HROWN.out;rw[if_neg (by simp)] at h1;rw[HPE.out h1,HROWX.out,if_neg (by simp),List.append_nil];exact HI.out
      clear HI HROWN HROWX HPS HPE n1;go_wp2;go_roundw;case rel=>exact⟨j+1,_,by go_num,by omega,HF⟩
      case measure=>simp[intOf];omega
     | true=>
      by_cases hz:nz=0
      ·subst hz
       have HF:Hid (Zep w (wr.setCell ⟨w.heap.size,j,none⟩ (.int .i64 ((s.off:Int)+(yb:Int)))) db (.slice (some ⟨qk,0,none⟩) (m+1) kc) vB vX vY bvs bs w.heap.size n (putN s.off Of Bf s.N (j+1)) (s.xs++Y7 f Of Bf s.N (j+1))):=by
        have h1:=HROWN.out;rw[if_pos ⟨rfl,rfl⟩] at h1;rw[HROWX.out,if_neg (by simp),List.append_nil,<- HPS.out,h1];obtain⟨p1,p2⟩:=HI.out.nm.put (k:=j) HNL.out ((s.off:Int)+(yb:Int));have t2:Za (fun x=>x=w.heap.size) wr (wr.setCell ⟨w.heap.size,j,none⟩ (.int .i64 ((s.off:Int)+(yb:Int)))):=(Za.refl (fun x=>x=w.heap.size) wr).setCell (p:=⟨w.heap.size,j,none⟩) (fun _=>rfl) _;obtain⟨cu,hcu⟩:=Zf HI.out.nm (k:=w.heap.size) rfl;refine⟨HI.out.ds.touch t2 (fun k ty cur hk hty e=>?_) (fun i hi k hk e=>by have:=(World.ownsRow.lt (HD.out.bn.each i hi).1 k hk).2;omega),?_,HI.out.t.setCell (p:=⟨w.heap.size,j,none⟩) (fun h=>absurd h (Nat.lt_irrefl _)) _,HI.out.nx⟩;subst e;rw[hcu] at hk;simp at hk;exact hty hk.2.symm
        show Ze _ _ _ (ZP ((putN s.off Of Bf s.N j).set j (s.off+yb)));rw[<- Znc];have:((s.off+yb:Nat):Int)=(s.off:Int)+(yb:Int):=(by omega);rw[this];exact p1
       have HWR:Hid (IntKind.i64.wrap ((s.off:Int)+(yb:Int))=(s.off:Int)+(yb:Int)):=ZD (by omega) (by omega);clear HI HROWN HROWX HPS HPE;go_wp2;go_roundw;case rel=>exact⟨j+1,_,by go_num,by omega,HF⟩
       case measure=>simp[intOf];omega
      have hzb:((nz:Int)==0)=false:=beq_eq_false_iff_ne.2 (by omega);have HXN:Hid (s.xs++Y7 f Of Bf s.N (j+1)=(s.xs++Y7 f Of Bf s.N j)++[⟨j,f,yb⟩]):=by show _=_;rw[HROWX.out,if_pos ⟨rfl,hz⟩,List.append_assoc]
      have HPN:Hid (putN s.off Of Bf s.N (j+1)=putN s.off Of Bf s.N j):=HPE.out (by rw[HROWN.out,if_neg (fun h=>hz h.2)]);obtain⟨ya,yc,hvY⟩:=HI.out.ds.xn.shape;subst hvY;have dc2:wr.cell? ⟨db,2,none⟩=some (.slice ya (s.xs++Y7 f Of Bf s.N j).length yc):=cell_of_row _ _ 2 _ 168 (0,0) HI.out.ds.blk;have hdbl:db<wr.heap.size:=(by omega);have HRW:Hid (wr.ownsRow 0 184 3 (.slice ya (s.xs++Y7 f Of Bf s.N j).length yc) (s.xs++Y7 f Of Bf s.N j).length (QN (s.xs++Y7 f Of Bf s.N j))):=HI.out.ds.xn;clear hz HROWX HROWN HPS HPE;generalize hxx:s.xs++Y7 f Of Bf s.N j=XX at *;generalize hxl:XX.length=xl at *;have hxl2:xl<=300000:=HXL.out
      go_wp2_with (at_builtin;refine Zd rfl (.tmp 52) (.tmp 57) 166 rfl 0 184 i0 (.agg #[.int .i64 0,.int .i64 0,.int .i64 0]) 3 24 Tryz.underlying166 hinf hz0 hz1 hz2 rfl (by decide) _ xl (QN XX) rfl (HRW.out.alloc _) ⟨wr.heap.size,0,none⟩ 1 1 [.int .i64 (j:Nat),.int .i64 (f:Nat),.int .i64 (yb:Nat)] rfl rfl ?_ ?_ ?_ ?_ ?_ ?_ ?_)
      exact Zu wr #[.int .i64 (j:Nat),.int .i64 (f:Nat),.int .i64 (yb:Nat)] 184
      ·intro u hu;simp at hu;rcases hu with rfl|rfl|rfl<;>rfl
      decide;unfold maxLen;omega;omega;simp;intro v4 w4 H4;obtain⟨r4,g4,d4,_,_⟩:=H4.out;have hDs1:=HI.out.ds.below ((Below.refl _ wr).alloc (Qa _) (.cells #[.int .i64 (j:Nat),.int .i64 (f:Nat),.int .i64 (yb:Nat)] 184));have hO4:ZaC w4 0 v4 (XX++[⟨j,f,yb⟩]):=(by refine ZaC.more ?_;rw[hxl];exact r4);have hDs4:=hDs1.more g4 hO4;have hblk4:w4.heap[db]? =some (.cells #[.slice (some ⟨qk,0,none⟩) (m+1) kc,vB,.slice ya xl yc] 168 (0,0)):=(by rw[g4.block db (by simp;omega) (fun e=>Zv HRW.out e.symm HI.out.ds.blk (by decide) rfl)];exact(Below.heap_alloc wr _ _ hdbl).trans HI.out.ds.blk);have c4:w4.cell? ⟨db,2,none⟩=some (.slice ya xl yc):=cell_of_row _ _ 2 _ 168 (0,0) hblk4;have f4:w4.frozen? ⟨db,2,none⟩=false:=frozen_of_row _ _ 2 _ 168 hblk4
      have hm4:Ze (w4.setCell ⟨db,2,none⟩ v4) w.heap.size (.slice (some ⟨w.heap.size,0,none⟩) n n) (ZP (putN s.off Of Bf s.N j)):=
       Zl (World.ownsRow.kept (Ze.alloc HI.out.nm _) g4 (Za4 HRW.out HI.out.nm (by decide))) hblk4 (by decide)
      have ht4:Za (DsS db vB vX) w (w4.setCell ⟨db,2,none⟩ v4):=
       ((HI.out.t.alloc _).grown g4 (fun k hk hkl=>by
        rcases HI.out.nx k hk with h|h
        exact h
        omega)).setCell (p:=⟨db,2,none⟩) (fun _=>.inl rfl) v4
      obtain⟨a5,c5,hv5⟩:=hO4.shape
      have HF:Hid (Zep w (w4.setCell ⟨db,2,none⟩ v4) db (.slice (some ⟨qk,0,none⟩) (m+1) kc) vB vX v4 bvs bs w.heap.size n (putN s.off Of Bf s.N (j+1)) (s.xs++Y7 f Of Bf s.N (j+1))):=by
       rw[HXN.out,HPN.out];refine⟨hDs4,hm4,ht4,fun k hk=>?_⟩
       rcases d4 with e|e
       exact HI.out.nx k (e ▸ hk);rw[e.1] at hk;injection hk with hk;exact .inr (by omega)
      rw[hv5] at HF;subst hv5;clear H4 r4 g4 d4 hDs1 hO4 hDs4 hblk4 hm4 ht4 HI HRW HXN HPN hxx hxl dc2;generalize (XX++[(⟨j,f,yb⟩:XS)]).length=l5 at *;go_wp2;go_roundw;case rel=>exact⟨j+1,_,by go_num,by omega,HF⟩
      case measure=>simp[intOf];omega
    have hnj:¬(j:Int)<(n:Int):=(by omega);have hjn2:j=n:=(by omega);have hKw:=HH.out.1.touchS HI.out.t HSTY.out;obtain⟨ab,cb,aw,cw,hqkl,k0,k1,k2,k3,_,_⟩:=hKw.at2 (i:=f) (by rw[HL.out.1];exact hfm);have dc0:wr.cell? ⟨db,0,none⟩=some (.slice (some ⟨qk,0,none⟩) (m+1) kc):=cell_of_row _ _ 0 _ 168 (0,0) HI.out.ds.blk;have hmany:(Ks.getD f ZK).many<=100:=HL.out.2.2.2.2.2.2.2 _ (by simp[List.getD,show f<Ks.length by rw[HL.out.1];exact hfm]);have HMN:=KS.many_eq (Ks.getD f ZK)
    have HHM:Hid (∀W:World,Calls Tryz.prog 146 #[.agg #[.bool (Ks.getD f ZK).e.wd,.slice ab (Ks.getD f ZK).e.bs.length cb,.slice aw (Ks.getD f ZK).e.ww.length cw]] W fun e w'=>e=.returned (.int .i64 (((Ks.getD f ZK).many:Nat):Int))/\Below W.heap.size W w'):=fun W=>by rw[<- HMN];exact Y5 _ ab aw _ cb _ cw W (by unfold KS.many ES.cnt at hmany;omega)
    have HNN:Hid ((fs.take (k+1)).foldl (Zi Ks Os Bb n) ⟨List.replicate n 0,xs,1⟩=⟨putN s.off Of Bf s.N n,s.xs++Y7 f Of Bf s.N n,s.off+(Ks.getD f ZK).many⟩):=(by show _=_;rw[HNX.out,HSTEP.out]);have HI2:Hid (Zep w wr db (.slice (some ⟨qk,0,none⟩) (m+1) kc) vB vX vY bvs bs w.heap.size n (putN s.off Of Bf s.N n) (s.xs++Y7 f Of Bf s.N n)):=(by rw[hjn2] at HI;exact HI);clear hKw k3 HMN HI hjn2;generalize Ks.getD f ZK=Kf at *;generalize Kf.e.wd=kwd at *;generalize Kf.e.bs.length=knb at *;generalize Kf.e.ww.length=knw at *;generalize Kf.many=km at *;go_wp2_with fail
    refine(HHM.out _).mono ?_;rintro e w2 ⟨rfl,hb2⟩;have HF:Hid (Zep w w2 db (.slice (some ⟨qk,0,none⟩) (m+1) kc) vB vX vY bvs bs w.heap.size n ((fs.take (k+1)).foldl (Zi Ks Os Bb n) ⟨List.replicate n 0,xs,1⟩).N ((fs.take (k+1)).foldl (Zi Ks Os Bb n) ⟨List.replicate n 0,xs,1⟩).xs):=by rw[HNN.out];exact HI2.out.below hb2
    clear hb2 HI2 k0 k1 k2 dc0 HHM;go_wp2;go_roundw;case rel=>exact⟨k+1,vY,by go_num,by omega,by rw[HNN.out];go_num,HF⟩
    case measure=>simp[intOf];omega
  have hnk:¬(k:Int)<(fl:Int):=(by omega);have hkk:fs.take k=fs:=List.take_of_length_le (by have:=HFL.out;omega);rw[hkk] at HR ⊢;have hlen:=ZaV Ks Os Bb n fs ⟨List.replicate n 0,xs,1⟩ (by simp);have hof:=Zb2 Ks Os Bb n fs ⟨List.replicate n 0,xs,1⟩;rw[<- HCF.out.1] at HR hlen hof ⊢;have hof64:=HCF.out.2;simp only at hof;obtain⟨s,hse⟩:∃s,s=QQ Ks Os Bb n xs fs:=⟨_,rfl⟩;have HSE:Hid (s=QQ Ks Os Bb n xs fs):=hse;rw[<- hse] at HR hlen hof hof64 ⊢;clear hse;have hNl:=hlen.1;clear hkk hlen;have HM:Hid (Zep w wr db (.slice (some ⟨qk,0,none⟩) (m+1) kc) vB vX vX' bvs bs w.heap.size n s.N s.xs):=HR
  have HCO:Hid (∀W:World,Below wr.heap.size wr W->Calls Tryz.prog 257 #[.slice (some ⟨w.heap.size,0,none⟩) n n,.int .i64 ((s.off-1:Nat):Int)] W fun e w'=>∃v,e=.returned v/\Zbf w' W.heap.size v s.N (s.off-1)/\Below W.heap.size W w'):=fun W hW=>by have h1:=HM.out.nm.below hW;have h2:Ze W 0 (.slice (some ⟨w.heap.size,0,none⟩) n n) (ZP s.N):=Ze.mono h1 (Qg _);exact Zly _ n n (s.off-1) s.N W h2 hNl hn (by omega)
  have q1:IntKind.i64.wrap ((s.off:Int)-1)=((s.off-1:Nat):Int):=by rw[ZD (by omega) (by omega)];omega
  obtain⟨ba,bcap,hvB⟩:∃a c,vB=.slice a bs.length c:=by
   rcases HM.out.ds.bn.row.2 with⟨rfl,h0⟩|⟨q,p,cur,rfl,_⟩
   exact⟨none,0,by rw[h0]⟩;exact⟨_,_,rfl⟩
  subst hvB;have cd1:wr.drew.cell? ⟨db,1,none⟩=some (.slice ba bs.length bcap):=cell_of_row _ _ 1 _ 168 (0,0) HM.out.ds.blk;have hgnot:¬DsS db (.slice ba bs.length bcap) vX gb:=HSTY.out.at HH.out.2.2.2.2 (by decide) (by decide) (by decide);have cg0:wr.drew.cell? ⟨gb,0,none⟩=some (.slice fa fl fcc):=by have:wr.heap[gb]? =w.heap[gb]?:=HM.out.t.block gb hgl hgnot;have h2:=World.cell?_of_block (a:=⟨gb,0,none⟩) this;exact h2.trans g0
  have hdbl:db<wr.heap.size:=(by omega);have hgbl:gb<wr.heap.size:=(by omega);have HRW:Hid (wr.ownsRow 0 163 2 (.slice ba bs.length bcap) bs.length (ZaI bvs)):=HM.out.ds.bn.row;clear HR g0 g1;generalize hbsl:bs.length=bl at *;go_upto_region 16 with fail;refine ZJ (fun w'=>w'.cell? ⟨db,1,none⟩=some (.slice ba bl bcap)/\w'.cell? ⟨gb,0,none⟩=some (.slice fa fl fcc)) 18 (by kernel_rfl) ⟨cd1,cg0⟩ (fun hHeld=>?_);refine ZL 0 ?_;try simp only[Act.put,sA,sB,sC]
  refine ZL 1 ?_;try simp only[Act.put,sA,sB,sC]
  refine ZL 2 ?_;try simp only[Act.put,sA,sB,sC]
  refine ZL 3 ?_;try simp only[Act.put,sA,sB,sC]
  refine tkM [15,16,17,18] 4 (v:=?_) ?_ ?_
  rotate_left
  ·intro w hSw;try obtain⟨_,_⟩:=hSw
   go_simp;try with_reducible rfl
  try simp only[Act.put,sA,sB,sC]
  refine ZL 5 ?_;try simp only[Act.put,sA,sB,sC]
  refine ZL 6 ?_;try simp only[Act.put,sA,sB,sC]
  refine ZL 7 ?_;try simp only[Act.put,sA,sB,sC]
  refine tkM [13,14,15,16,17,18] 8 (v:=?_) ?_ ?_
  rotate_left
  ·intro w hSw;try obtain⟨_,_⟩:=hSw
   go_simp;try with_reducible rfl
  try simp only[Act.put,sA,sB,sC]
  refine ZL 9 ?_;try simp only[Act.put,sA,sB,sC]
  refine ZL 10 ?_;try simp only[Act.put,sA,sB,sC]
  refine ZL 11 ?_;try simp only[Act.put,sA,sB,sC]
  refine Zk (i:=12) (by kernel_rfl) rfl (fun KK hK=>?_);go_simp;refine(HCO.out _ ((Below.refl _ _).drew)).mono ?_;rintro e w4 ⟨v4,rfl,hC4,hb4⟩;have d4a:w4.cell? ⟨db,1,none⟩=some (.slice ba bl bcap):=(hb4.cell (p:=⟨db,1,none⟩) hdbl).trans cd1;have d4b:w4.cell? ⟨gb,0,none⟩=some (.slice fa fl fcc):=(hb4.cell (p:=⟨gb,0,none⟩) hgbl).trans cg0;obtain⟨ct,cp,hv4⟩:=hC4.iface;subst hv4;go_simp;refine hK.out _ _ ⟨d4a,d4b⟩ (fun hHeld=>?_);clear hK KK;try simp only[Act.put,sA,sB,sC]
  refine ZL 13 ?_;try simp only[Act.put,sA,sB,sC]
  refine Zk (i:=14) (by kernel_rfl) rfl (fun KK hK=>?_);go_simp;have hdb4:db<w4.heap.size:=Qh hdbl hb4.size;have hgb4:gb<w4.heap.size:=Qh hgbl hb4.size;refine hK.out _ _ ⟨(Below.cell (B:=w4.heap.size) (p:=⟨db,1,none⟩) ((Below.refl _ _).alloc (Qa _) _) hdb4).trans d4a,(Below.cell (B:=w4.heap.size) (p:=⟨gb,0,none⟩) ((Below.refl _ _).alloc (Qa _) _) hgb4).trans d4b⟩ (fun hHeld=>?_);clear hK KK;try simp only[Act.put,sA,sB,sC]
  refine Zk (i:=15) (by kernel_rfl) rfl (fun KK hK=>?_);have hb4':Below wr.heap.size wr w4:=(Below.refl wr.heap.size wr).drew.trans hb4;refine ZI rfl (.tmp 93) (.tmp 103) 165 rfl 0 163 j0 (.agg #[.slice none 0 0,.nilIface]) 2 40 Tryz.underlying165 jinf jz0 jz1 jz2 rfl (by decide) (.slice ba bl bcap) bl (ZaI bvs) (by simp[Act.eval]) (World.ownsRow.alloc ((Za.of_below (S:=fun _=>False) hb4').row HRW.out (fun _ _=>id)) _) ⟨w4.heap.size,0,none⟩ 1 1 [.slice fa fl fcc,.iface ct (.pointer (some ⟨cp,0,none⟩))] (by simp[Act.eval]) rfl (Zu w4 #[.slice fa fl fcc,.iface ct (.pointer (some ⟨cp,0,none⟩))] 163) (by intro u hu;simp only[List.mem_cons,List.not_mem_nil,or_false] at hu;rcases hu with rfl|rfl<;>rfl) (by decide) (by unfold maxLen;omega) (by omega) (by simp) ?_;intro v6 w6 H6
  obtain⟨r6,g6,d6,_,q6,p6,hv6⟩:=H6.out;have hDs4:=HM.out.ds.below hb4';have hDs5:=hDs4.below ((Below.refl _ w4).alloc (Qa _) (.cells #[.slice fa fl fcc,.iface ct (.pointer (some ⟨cp,0,none⟩))] 163));have t46:Za (fun k=>(Value.slice ba bl bcap).ownBlock=some k) (w4.alloc (.cells #[.slice fa fl fcc,.iface ct (.pointer (some ⟨cp,0,none⟩))] 163)) w6:=(Za.refl _ _).grown g6 (fun k hk _=>hk);have hst5:STy (fun k=>(Value.slice ba bl bcap).ownBlock=some k) (w4.alloc (.cells #[.slice fa fl fcc,.iface ct (.pointer (some ⟨cp,0,none⟩))] 163)):=fun k cur ty hk hs=>hDs5.sty k cur ty hk (.inr (.inl hs))
  have hfs5:Ze (w4.alloc (.cells #[.slice fa fl fcc,.iface ct (.pointer (some ⟨cp,0,none⟩))] 163)) 0 (.slice fa fl fcc) (ZP fs):=(by have h1:=HM.out.t.row HH.out.2.2.2.1 (HSTY.out.row HH.out.2.2.2.1 (by decide) (by decide) (by decide));rw[<- HFL.out] at h1;exact((Za.of_below (S:=fun _=>False) hb4').row h1 (fun _ _=>id)).alloc _);have hcol5:Zbf (w4.alloc (.cells #[.slice fa fl fcc,.iface ct (.pointer (some ⟨cp,0,none⟩))] 163)) 0 (.iface ct (.pointer (some ⟨cp,0,none⟩))) s.N (s.off-1):=hC4.zero.below ((Below.refl _ w4).alloc (Qa _) _)
  have hbun6:Zc6 w6 v6 (bvs++[(.slice fa fl fcc,.iface ct (.pointer (some ⟨cp,0,none⟩)))]) (bs++[⟨fs,s.N,s.off-1⟩]):=by
   have hvl:bvs.length=bl:=(by have:=HM.out.ds.bn.len;omega);refine⟨by rw[Qe,Zf9,hbsl];exact r6,by simp[hvl,hbsl],fun i hi=>?_⟩;rw[Qe] at hi;simp at hi
   by_cases hib:i<bs.length
   have e1:(bvs++[((.slice fa fl fcc:Value),(.iface ct (.pointer (some ⟨cp,0,none⟩)):Value))]).getD i vv0=bvs.getD i vv0:=(by simp[List.getD,List.getElem?_append_left (show i<bvs.length by omega)]);have e2:(bs++[(⟨fs,s.N,s.off-1⟩:BS)]).getD i ZH=bs.getD i ZH:=(by simp[List.getD,List.getElem?_append_left hib]);rw[e1,e2];exact⟨t46.row (hDs5.bn.each i hib).1 (hst5.row (hDs5.bn.each i hib).1 (by decide) (by decide) (by decide)),(hDs5.bn.each i hib).2.touch t46 hst5⟩
   have ei:i=bs.length:=(by omega);subst ei;have e1:(bvs++[((.slice fa fl fcc:Value),(.iface ct (.pointer (some ⟨cp,0,none⟩)):Value))]).getD bs.length vv0=((.slice fa fl fcc:Value),(.iface ct (.pointer (some ⟨cp,0,none⟩)):Value)):=(by simp[List.getD,HM.out.ds.bn.len.symm]);have e2:(bs++[(⟨fs,s.N,s.off-1⟩:BS)]).getD bs.length ZH=⟨fs,s.N,s.off-1⟩:=(by simp[List.getD]);rw[e1,e2];exact⟨t46.row hfs5 (hst5.row hfs5 (by decide) (by decide) (by decide)),hcol5.touch t46 hst5⟩
  have hDs6:=hDs5.moreB g6 hbun6;have hblk6:w6.heap[db]? =some (.cells #[.slice (some ⟨qk,0,none⟩) (m+1) kc,.slice ba bl bcap,vX'] 168 (0,0)):=t46.at_ hDs5.blk (fun e=>Zv (World.ownsRow.alloc ((Za.of_below (S:=fun _=>False) hb4').row HRW.out (fun _ _=>id)) _) e hDs5.blk (by decide) rfl);have c6a:w6.cell? ⟨db,1,none⟩=some (.slice ba bl bcap):=cell_of_row _ _ 1 _ 168 (0,0) hblk6;have f6a:w6.frozen? ⟨db,1,none⟩=false:=frozen_of_row _ _ 1 _ 168 hblk6;have hgnot2:¬(Value.slice ba bl bcap).ownBlock=some gb:=fun e=>hgnot (.inr (.inl e))
  have c6b:w6.cell? ⟨gb,0,none⟩=some (.slice fa fl fcc):=by have h1:w6.heap[gb]? =(w4.alloc (.cells #[.slice fa fl fcc,.iface ct (.pointer (some ⟨cp,0,none⟩))] 163)).heap[gb]?:=t46.block gb (by simp;omega) hgnot2;rw[World.cell?_of_block (a:=⟨gb,0,none⟩) h1];exact(Below.cell (B:=w4.heap.size) (p:=⟨gb,0,none⟩) ((Below.refl _ _).alloc (Qa _) _) hgb4).trans d4b
  have ht6:Za (DsS db (.slice ba bl bcap) vX) w (w6.setCell ⟨db,1,none⟩ v6):=
   (((HM.out.t.below hb4').alloc _).grown g6 (fun k hk _=>.inr (.inl hk))).setCell (p:=⟨db,1,none⟩) (fun _=>.inl rfl) v6
  have HADD:Hid (ZeO w (w6.setCell ⟨db,1,none⟩ v6) db (.slice (some ⟨qk,0,none⟩) (m+1) kc) (.slice ba bl bcap) vX (bs++[⟨fs,s.N,s.off-1⟩]) s.xs):=by
   refine⟨v6,vX',_,hDs6,ht6,fun k hk=>?_⟩
   rcases hk with e|e|e
   exact .inl (.inl e)
   ·rcases d6 with e2|e2
    exact .inl (.inr (.inl (e2 ▸ e)));rw[e2.1] at e;injection e with e;have:=hb4.size;simp at this;exact .inr (by simp at e;omega)
   exact HM.out.nx k e
  subst hv6;clear H6 r6 g6 d6 hDs4 hDs5 t46 hst5 hfs5 hcol5 hbun6 hDs6 hblk6 ht6 HM HCO HRW hC4;refine hK.out _ _ ⟨c6a,c6b⟩ (fun hHeld=>?_);clear hK KK;try simp only[Act.put,sA,sB,sC]
  refine ZL 16 ?_;try simp only[Act.put,sA,sB,sC]
  refine ZL 17 ?_;try simp only[Act.put,sA,sB,sC]
  refine Zx (i:=18) (by kernel_rfl) rfl (by kernel_rfl) (fun KK hK=>?_);go_simp;refine hK.out _ _ ?_;clear hK KK;try simp only[Act.put,sA,sB,sC]
  refine Zz (by kernel_rfl) ?_ _;go_wp2;go_end0;rw[<- HSE.out];exact⟨rfl,HADD.out⟩
end Go.Proofs.YtfcgnpchbcmdeaaGreat
