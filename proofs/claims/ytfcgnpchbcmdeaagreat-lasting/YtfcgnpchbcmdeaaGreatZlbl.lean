import Derived.Test.YtfcgnpchbcmdeaaGreatZlbk
import Derived.Test.YtfcgnpchbcmdeaaGreatZlaf
import Derived.Test.YtfcgnpchbcmdeaaGreatZlbh
import Derived.Test.YtfcgnpchbcmdeaaGreatZlbg
import Derived.Test.YtfcgnpchbcmdeaaGreatZlbj
namespace Go.Proofs.YtfcgnpchbcmdeaaGreat
set_option maxRecDepth 100000
set_option maxHeartbeats 16000000
open Go.RowKit
def lstK(l:List Int):List Int:=(List.range (l.headD 0).toNat).map fun j=>l.tail.getD j 0
def lstR(l:List Int):List Int:=l.tail.drop (l.headD 0).toNat
theorem Zjv(sb:Nat)(l:List Int)(w:World)(h:ZI w sb l):Calls Tryz.prog 227 #[.pointer (some ⟨sb,0,none⟩)] w fun e w'=>∃v,e=.returned v/\Ze w' w.heap.size v (lstK l)/\ZI w' sb (lstR l)/\Za (fun k=>k=sb) w w':=by
 have hb0:=Qm h.byte 0;have hh:l.headD 0=l.getD 0 0:=(by have:=ZP l 0;rwa [List.drop_zero] at this);obtain⟨n,hn⟩:∃n:Nat,l.headD 0=(n:Int):=⟨(l.headD 0).toNat,by omega⟩;have hn2:n<=255:=by omega
 have HX:Hid (lstK l=Yh (fun j=>l.tail.getD j 0) n n/\lstR l=l.tail.drop n):=by have e:(l.headD 0).toNat=n:=(by omega);exact⟨by rw[Zch];unfold lstK;rw[e],by unfold lstR;rw[e]⟩
 have HNX:Hid (∀(W:World) (l:List Int) (x:Int),l.headD 0=x->ZI W sb l->Calls Tryz.prog 165 #[.pointer (some ⟨sb,0,none⟩)] W fun e w'=>e=.returned (.int .i64 x)/\ZI w' sb l.tail/\Za (fun k=>k=sb) W w'):=fun W l x hx hS=>by rw[<- hx];exact YE sb l W hS
 have h165:=HNX.out w l (n:Int) hn h;have hmk:=ZaA n (by omega);have hsl:=h.lt;obtain⟨l1,hl1⟩:∃l1,l.tail=l1:=⟨_,rfl⟩;rw[hl1] at HX h165;generalize lstK l=LK at *;generalize lstR l=LR at *;clear h hb0 hh hn hl1;go_enter Tryz.func227,Tryz.ntmps227;go_wp2_with fail
 refine h165.mono ?_;clear h165;rintro e w2 ⟨rfl,hs2,ht2⟩;have HS2:Hid (ZI w2 sb l1/\Za (fun k=>k=sb) w w2):=⟨hs2,ht2⟩;clear hs2 ht2;go_wp2_with fail
 go_loopw [10] (fun ti wr=>∃k:Nat,ti=.int .i64 k/\k<=n/\Hid (Ze wr w.heap.size (.slice (some ⟨w2.heap.size,0,none⟩) n n) (Yh (fun j=>l1.getD j 0) n k))/\Hid (ZI wr sb (l1.drop k)/\Za (fun k=>k=sb) w wr)) (fun ti _=>n-(intOf ti).toNat)
 case atStart=>
  refine⟨0,rfl,Qg _,?_,?_,?_⟩;rw[Zci];exact Zaz n w2 w.heap.size (by omega) HS2.out.2.size;exact HS2.out.1.below ((Below.refl _ _).alloc (Qa _) _);exact HS2.out.2.alloc _
 case round=>
  clear hmk;obtain⟨k,rfl,hk,HO,HS⟩:=hrel
  by_cases hkn:k<n
  ·have b1:(0:Int)<=(k:Int):=(by omega);have b2:(k:Int)<(n:Int):=(by omega);have h165:=HNX.out wr (l1.drop k) (l1.getD k 0) (ZP l1 k) HS.out.1;rw[Q8] at h165;go_wp2_with fail
   refine h165.mono ?_;clear h165;rintro e w4 ⟨rfl,hs4,ht4⟩;have hO4:Ze w4 w.heap.size (.slice (some ⟨w2.heap.size,0,none⟩) n n) (Yh (fun j=>l1.getD j 0) n k):=ht4.row HO.out (fun q hq e=>by have:=(World.ownsRow.lt HO.out q hq).1;omega);have hfl:=QJ (fun j=>l1.getD j 0) hk;obtain⟨y1,y2⟩:=hO4.cellK hfl.symm hkn;obtain⟨p1,p2⟩:=hO4.put (k:=k) hfl.symm (l1.getD k 0);rw[Zdb (fun j=>l1.getD j 0) hkn] at p1;have hsz2:w.heap.size<=w2.heap.size:=HS2.out.2.size;have HF:Hid (Ze (w4.setCell ⟨w2.heap.size,k,none⟩ (.int .i64 (l1.getD k 0))) w.heap.size (.slice (some ⟨w2.heap.size,0,none⟩) n n) (Yh (fun j=>l1.getD j 0) n (k+1))):=p1
   have HG:Hid (ZI (w4.setCell ⟨w2.heap.size,k,none⟩ (.int .i64 (l1.getD k 0))) sb (l1.drop (k+1))/\Za (fun k=>k=sb) w (w4.setCell ⟨w2.heap.size,k,none⟩ (.int .i64 (l1.getD k 0)))):=by have t5:Za (fun q=>q=w2.heap.size) w4 (w4.setCell ⟨w2.heap.size,k,none⟩ (.int .i64 (l1.getD k 0))):=(Za.refl (fun q=>q=w2.heap.size) w4).setCell (p:=⟨w2.heap.size,k,none⟩) (fun _=>rfl) _;exact⟨hs4.touch t5 (by omega),(HS.out.2.trans ht4).setCell (p:=⟨w2.heap.size,k,none⟩) (fun hq=>by simp at hq;omega) _⟩
   generalize l1.getD k 0=z at *;clear hs4 ht4 hO4 p1 p2 HO HS hfl;go_wp2;go_roundw;case rel=>exact⟨k+1,by go_num,by omega,HF,HG.out⟩
   case measure=>simp[intOf];omega
  have hnk:¬(k:Int)<(n:Int):=(by omega);have hkk:k=n:=(by omega);subst hkk;go_wp2;go_ret;rw[HX.out.1,HX.out.2];exact⟨_,rfl,HO.out,HS.out⟩
def Ys(zs:List Int):Bool:=zs.all fun z=>decide (z=1)
theorem Zlq(a:Option Addr)(n c base:Nat)(zs:List Int)(w:World)(h:Ze w base (.slice a n c) zs)(hn:zs.length=n)(hn2:n<=1000000):Calls Tryz.prog 232 #[.slice a n c] w fun e w'=>e=.returned (.bool (Ys zs))/\w'=w:=by
 have HO:Hid (Ze w base (.slice a n c) zs):=h;have HN:Hid (zs.length=n):=hn;clear h hn;go_enter Tryz.func232,Tryz.ntmps232;go_wp2_with fail
 go_loopw [7] (fun ti wr=>∃i:Nat,ti=.int .i64 i/\i<=n/\Hid (Ys (zs.take i)=true)/\wr=w) (fun ti _=>n-(intOf ti).toNat)
 case atStart=>exact⟨0,rfl,Qg _,rfl,rfl⟩
 case round=>
  obtain⟨i,rfl,hi,HU,hwr⟩:=hrel;subst hwr
  by_cases hin:i<n
  ·obtain⟨q,rfl,_,_,y0,_⟩:=HO.out.atK HN.out hin;have hlt:i<zs.length:=(by rw[HN.out];exact hin);have hT:zs.take (i+1)=zs.take i++[zs.getD i 0]:=(by rw[Qi hlt];simp[List.getD,hlt]);have hmem:zs.getD i 0∈zs:=by rw[Qc,Qd hlt];exact Qf _
   have HS:Hid (zs.getD i 0=1->Ys (zs.take (i+1))=true):=fun e=>by unfold Ys;rw[hT,List.all_append,e];have:=HU.out;unfold Ys at this;rw[this];rfl
   have HF:Hid (¬zs.getD i 0=1->Ys zs=false):=fun e=>by unfold Ys;rw[List.all_eq_false];exact⟨_,hmem,by simp only[decide_eq_true_eq];exact e⟩
   have b1:(0:Int)<=(i:Int):=(by omega);have b2:(i:Int)<(n:Int):=(by omega);clear hT hmem hlt;generalize zs.getD i 0=x at *
   by_cases hx:x=1
   ·have HR:=HS.out hx;have HRR:Hid (Ys (zs.take (i+1))=true):=HR;clear HR HS HF HU;subst hx;go_wp2;go_roundw;case rel=>exact⟨i+1,by go_num,by omega,HRR,trivial⟩
    case measure=>simp[intOf];omega
   have HRR:Hid (Ys zs=false):=HF.out hx;have hxb:(x==1)=false:=(by rw[beq_eq_false_iff_ne];exact hx);clear HS HF HU;go_wp2;go_ret;exact⟨by rw[HRR.out];rfl,rfl⟩
  have hni:¬(i:Int)<(n:Int):=(by omega);have HR:Hid (Ys zs=true):=(by have:=HU.out;rw[List.take_of_length_le (by rw[HN.out];omega)] at this;exact this);go_wp2;go_ret;exact⟨by rw[HR.out];rfl,rfl⟩
structure DkX(w:World)(db:Nat)(vK:Value)(kvs:List (Value×Value))(Ks:List KS):Prop where
 c0:w.cell? ⟨db,0,none⟩=some vK
 lt:db<w.heap.size
 kn:Qy w vK kvs Ks
theorem DkX.below{w w':World}{db:Nat}{vK:Value}{kvs:List (Value×Value)}{Ks:List KS}(h:DkX w db vK kvs Ks)(hb:Below w.heap.size w w'):DkX w' db vK kvs Ks:=
 ⟨(hb.cell (p:=⟨db,0,none⟩) h.lt).trans h.c0,Qh h.lt hb.size,h.kn.below hb⟩
def Yg(Ks:List KS)(fs:List Int):Nat:=(fs.map fun f=>(Ks.getD f.toNat ZB).e.cnt+2).sum
theorem Zlr(Ks:List KS)(fs:List Int){k:Nat}(h:k<fs.length):Yg Ks (fs.take (k+1))=Yg Ks (fs.take k)+((Ks.getD (fs.getD k 0).toNat ZB).e.cnt+2):=by have e:fs.take (k+1)=fs.take k++[fs.getD k 0]:=(by rw[Qi h];simp[List.getD,h]);unfold Yg;rw[e];simp
theorem ZjV(Ks:List KS)(hc:∀K∈Ks,K.e.cnt<=16):∀fs:List Int,(∀f∈fs,0<=f/\f<Ks.length)->Yg Ks fs<=18*fs.length
 |[],_=>by simp[Yg]
 |f::fs,h=>by have ih:=ZjV Ks hc fs (fun x hx=>h x (by simp[hx]));have hf:=h f (by simp);have hlt:f.toNat<Ks.length:=(by omega);have:=hc (Ks.getD f.toNat ZB) (by rw[Qc,Qd hlt];exact Qf _);simp only[Yg,List.map_cons,List.sum_cons,List.length_cons] at ih ⊢;omega
theorem Zgr(db n c base:Nat)(a:Option Addr)(vK:Value)(kvs:List (Value×Value))(Ks:List KS)(fs:List Int)(w:World)(hd:DkX w db vK kvs Ks)(h:Ze w base (.slice a n c) fs)(hn:fs.length=n)(hn2:n<=1000)(hin:∀f∈fs,0<=f/\f<Ks.length)(hc:∀K∈Ks,K.e.cnt<=16):Calls Tryz.prog 230 #[.pointer (some ⟨db,0,none⟩),.slice a n c] w fun e w'=>e=.returned (.int .i64 (Yg Ks fs:Nat))/\Below w.heap.size w w':=by
 have HD:Hid (∀W,Below w.heap.size w W->DkX W db vK kvs Ks):=fun W hW=>hd.below hW;have HO:Hid (∀W,Below w.heap.size w W->Ze W base (.slice a n c) fs):=fun W hW=>h.below hW;have HN:Hid (fs.length=n):=hn;have HIN:Hid (∀f∈fs,0<=f/\f<Ks.length):=hin;have HC:Hid (∀K∈Ks,K.e.cnt<=16):=hc;clear hd h hn hin hc;go_enter Tryz.func230,Tryz.ntmps230;go_wp2_with fail
 go_loopw [5,10] (fun ts ti wr=>∃i:Nat,ti=.int .i64 i/\i<=n/\ts=.int .i64 (Yg Ks (fs.take i):Nat)/\Hid (Below w.heap.size w wr)) (fun _ ti _=>n-(intOf ti).toNat)
 case atStart=>exact⟨0,rfl,Qg _,rfl,Below.refl _ _⟩
 case round=>
  obtain⟨i,rfl,hi,rfl,HB⟩:=hrel
  by_cases hin:i<n
  ·have hlt:i<fs.length:=(by rw[HN.out];exact hin);obtain⟨q,rfl,_,_,y0,_⟩:=(HO.out wr HB.out).atK HN.out hin;have hmem:fs.getD i 0∈fs:=(by rw[Qc,Qd hlt];exact Qf _);have hf:=HIN.out _ hmem;have HSU:Hid (Yg Ks (fs.take (i+1))=Yg Ks (fs.take i)+((Ks.getD (fs.getD i 0).toNat ZB).e.cnt+2)):=Zlr Ks fs hlt;have hle:=ZjV Ks HC.out (fs.take i) (fun x hx=>HIN.out x (List.mem_of_mem_take hx));rw[List.length_take] at hle;obtain⟨f,hfe⟩:∃f:Nat,fs.getD i 0=(f:Int):=⟨(fs.getD i 0).toNat,by omega⟩;rw[hfe] at y0 hf HSU;have hfl:f<Ks.length:=(by omega);rw[Int.toNat_natCast] at HSU;have hdk:=HD.out wr HB.out;obtain⟨kq,kc,ab,cb,aw,cw,rfl,hkq,e0,e1,e2,_,_,_⟩:=hdk.kn.at hfl
   have hc16:=HC.out (Ks.getD f ZB) (by rw[Qc,Qd hfl];exact Qf _);have d0:=hdk.c0;have hdl:=hdk.lt;have HHM:Hid (∀W,Calls Tryz.prog 146 #[.agg #[.bool (Ks.getD f ZB).e.wd,.slice ab (Ks.getD f ZB).e.bs.length cb,.slice aw (Ks.getD f ZB).e.ww.length cw]] W fun x w'=>x=.returned (.int .i64 (((Ks.getD f ZB).e.cnt:Nat)+2))/\Below W.heap.size W w'):=fun W=>Y3 _ ab aw _ cb _ cw W (by show(Ks.getD f ZB).e.cnt<=_;omega);have b1:(0:Int)<=(i:Int):=(by omega);have b2:(i:Int)<(n:Int):=(by omega);have b3:(0:Int)<=(f:Int):=(by omega);have b4:(f:Int)<(Ks.length:Int):=(by omega);clear hmem hfe hdk hlt;generalize (Ks.getD f ZB).e.bs.length=nb at *;generalize (Ks.getD f ZB).e.ww.length=nw at *;generalize (Ks.getD f ZB).e.wd=wd at *
   generalize (Ks.getD f ZB).e.cnt=cn at *;generalize Yg Ks (fs.take i)=A at *;go_wp2_with fail
   refine(HHM.out _).mono ?_;rintro x w2 ⟨rfl,hb2⟩;have HB2:Hid (Below w.heap.size w w2):=HB.out.trans (hb2.mono HB.out.size);have q1:IntKind.i64.wrap ((A:Int)+((cn:Int)+2))=((A+(cn+2):Nat):Int):=(by rw[Zz (by omega) (by omega)];omega);obtain⟨u,hu⟩:∃u,u=A+(cn+2):=⟨_,rfl⟩;rw[<- hu] at q1 HSU;clear hb2 hu HB HHM;go_wp2;go_roundw;case rel=>exact⟨i+1,by go_num,by omega,by rw[HSU.out],HB2⟩
   case measure=>simp[intOf];omega
  have hni:¬(i:Int)<(n:Int):=(by omega);have HR:Hid (Yg Ks (fs.take i)=Yg Ks fs):=(by show _=_;rw[List.take_of_length_le (by rw[HN.out];omega)]);go_wp2;go_ret;rw[<- HR.out];exact⟨rfl,HB.out⟩
def Zea(Ks:List KS)(fs:List Int):Bool:=(fs.all fun f=>decide (f<Ks.length))&&(decide (0<fs.length)&&decide (Yg Ks fs<=40))
theorem Zl9(db n c base:Nat)(a:Option Addr)(vK:Value)(kvs:List (Value×Value))(Ks:List KS)(fs:List Int)(w:World)(hd:DkX w db vK kvs Ks)(h:Ze w base (.slice a n c) fs)(hn:fs.length=n)(hn2:n<=1000)(hin:∀f∈fs,0<=f)(hc:∀K∈Ks,K.e.cnt<=16):Calls Tryz.prog 228 #[.pointer (some ⟨db,0,none⟩),.slice a n c] w fun e w'=>e=.returned (.bool (Zea Ks fs))/\Below w.heap.size w w':=by
 have HO:Hid (Ze w base (.slice a n c) fs):=h;have HN:Hid (fs.length=n):=hn;have HIN:Hid (∀f∈fs,0<=f):=hin;have HBI:Hid ((∀f∈fs,0<=f/\f<Ks.length)->Calls Tryz.prog 230 #[.pointer (some ⟨db,0,none⟩),.slice a n c] w fun e w'=>e=.returned (.int .i64 (Yg Ks fs:Nat))/\Below w.heap.size w w'):=fun hi=>Zgr db n c base a vK kvs Ks fs w hd h hn hn2 hi hc;obtain⟨ka,kc,rfl⟩:=hd.kn.form;have d0:=hd.c0;have hdl:=hd.lt;clear hd h hn hin hc;generalize hkl:Ks.length=kl at *;have HKL:Hid (Ks.length=kl):=hkl;clear hkl;go_enter Tryz.func228,Tryz.ntmps228;go_wp2_with fail
 go_loopw [9] (fun ti wr=>∃i:Nat,ti=.int .i64 i/\i<=n/\Hid (((fs.take i).all fun f=>decide (f<Ks.length))=true)/\wr=w) (fun ti _=>n-(intOf ti).toNat)
 case atStart=>exact⟨0,rfl,Qg _,rfl,rfl⟩
 case round=>
  obtain⟨i,rfl,hi,HU,hwr⟩:=hrel;subst hwr
  by_cases hin:i<n
  ·have hlt:i<fs.length:=(by rw[HN.out];exact hin);obtain⟨q,rfl,_,_,y0,_⟩:=HO.out.atK HN.out hin;have hmem:fs.getD i 0∈fs:=(by rw[Qc,Qd hlt];exact Qf _);have hT:fs.take (i+1)=fs.take i++[fs.getD i 0]:=by rw[Qi hlt];simp[List.getD,hlt]
   have HS:Hid (fs.getD i 0<(kl:Int)->((fs.take (i+1)).all fun f=>decide (f<Ks.length))=true):=fun hx=>by rw[hT,List.all_append,HU.out,HKL.out];simp only[List.all_cons,List.all_nil,Bool.and_true,Bool.true_and,decide_eq_true_eq];exact hx
   have HF:Hid (¬fs.getD i 0<(kl:Int)->Zea Ks fs=false):=fun hx=>by have:(fs.all fun f=>decide (f<Ks.length))=false:=(by rw[List.all_eq_false];exact⟨_,hmem,by simp only[decide_eq_true_eq];rw[HKL.out];exact hx⟩);unfold Zea;rw[this];rfl
   have b1:(0:Int)<=(i:Int):=(by omega);have b2:(i:Int)<(n:Int):=(by omega);clear hT hmem hlt;generalize fs.getD i 0=x at *
   by_cases hx:x<(kl:Int)
   ·have HRR:Hid (((fs.take (i+1)).all fun f=>decide (f<Ks.length))=true):=HS.out hx;have hx2:¬(kl:Int)<=x:=(by omega);clear HS HF HU;go_wp2;go_roundw;case rel=>exact⟨i+1,by go_num,by omega,HRR,trivial⟩
    case measure=>simp[intOf];omega
   have HRR:Hid (Zea Ks fs=false):=HF.out hx;have hx2:(kl:Int)<=x:=(by omega);clear HS HF HU;go_wp2;go_ret;exact⟨by rw[HRR.out];rfl,Below.refl _ _⟩
  have hni:¬(i:Int)<(n:Int):=by omega
  have hall:(fs.all fun f=>decide (f<Ks.length))=true:=by
   have:=HU.out
   rwa [List.take_of_length_le (by rw[HN.out];omega)] at this
  have HLB:Hid (Zea Ks fs=(decide (0<n)&&decide (Yg Ks fs<=40))):=(by show _=_;unfold Zea;rw[hall,HN.out,Bool.true_and]);have h230:=HBI.out (fun f hf=>⟨HIN.out f hf,by have:=List.all_eq_true.1 hall f hf;rw[HKL.out] at this;simpa using this⟩);generalize Yg Ks fs=B at *;clear hall HU HBI
  by_cases h0:0<n
  ·have d1:decide ((0:Int)<(n:Int))=true:=by simp;omega
   have HR:Hid (Zea Ks fs=decide ((B:Int)<=40)):=by
    show _=_;rw[HLB.out,decide_eq_true h0,Bool.true_and]
    by_cases hb:B<=40
    rw[decide_eq_true hb,decide_eq_true (by omega)];rw[decide_eq_false hb,decide_eq_false (by omega)]
   clear HLB;go_wp2_with fail
   refine h230.mono ?_;rintro x w2 ⟨rfl,hb2⟩;clear h230;go_wp2;go_ret;exact⟨by rw[HR.out];rfl,hb2⟩
  have d1:decide ((0:Int)<(n:Int))=false:=(by simp;omega);have HR:Hid (Zea Ks fs=false):=(by show _=_;rw[HLB.out,decide_eq_false h0];rfl);clear HLB h230;go_wp2;go_ret;exact⟨by rw[HR.out];rfl,Below.refl _ _⟩
def ZdC(e:ES)(d:Nat)(b:Int):Bool:=ZaP e b&&!decide (b=(d:Int))
theorem ZdT(e:ES)(ab aw:Option Addr)(nb cb nw cw d:Nat)(b:Int)(w:World)(hnb:e.bs.length=nb)(hnw:e.ww.length=nw)(hc:e.cnt<=1000000):Calls Tryz.prog 284 #[.agg #[.bool e.wd,.slice ab nb cb,.slice aw nw cw,.int .i64 (d:Nat)],.int .i64 b] w fun x w'=>x=.returned (.bool (ZdC e d b))/\Below w.heap.size w w':=by
 obtain⟨w0,hw0⟩:∃w0,w0=w.alloc (.cells #[.bool e.wd,.slice ab nb cb,.slice aw nw cw,.int .i64 (d:Nat)] 172):=⟨_,rfl⟩;have hX0:KbX w0 w.heap.size e.wd (.slice ab nb cb) (.slice aw nw cw) d:=⟨by rw[hw0];exact heap_alloc_new w _⟩;have HB0:Hid (Below w.heap.size w w0):=(by show Below _ _ _;rw[hw0];exact(Below.refl _ _).alloc (Qa _) _);have HHB:Hid (∀W,Calls Tryz.prog 226 #[.agg #[.bool e.wd,.slice ab nb cb,.slice aw nw cw,.int .i64 (d:Nat)],.int .i64 b] W fun x w'=>x=.returned (.bool (ZaP e b))/\Below W.heap.size W w'):=fun W=>Zd9 e ab aw nb cb nw cw _ b W hnb hnw hc;have HO:Hid (ZdC e d b=(ZaP e b&&!decide (b=(d:Int)))):=rfl;have HX:Hid (KbX w0 w.heap.size e.wd (.slice ab nb cb) (.slice aw nw cw) d):=hX0;clear hX0;generalize ZdC e d b=R at *;generalize ZaP e b=hb at *;generalize e.wd=wd at *
 have k0:=HX.out.c0;have k1:=HX.out.c1;have k2:=HX.out.c2;have k3:=HX.out.c3
 cases hb with
 | false=>
  have HR:Hid (R=false):=(by show _=_;rw[HO.out];rfl);clear HO;go_enter Tryz.func284,Tryz.ntmps284;go_wp2_with fail
  rw[<- hw0];refine(HHB.out _).mono ?_;rintro x w2 ⟨rfl,hb2⟩;have hb3:Below w.heap.size w w2:=HB0.out.trans (hb2.mono HB0.out.size);clear hb2 k0 k1 k2 k3;go_wp2;go_ret;exact⟨by rw[HR.out];rfl,hb3⟩
 | true=>
  have HR:Hid (R=!decide (b=(d:Int))):=(by show _=_;rw[HO.out];rfl);clear HO;go_enter Tryz.func284,Tryz.ntmps284;go_wp2_with fail
  rw[<- hw0];refine(HHB.out _).mono ?_;rintro x w2 ⟨rfl,hb2⟩;have hb3:Below w.heap.size w w2:=HB0.out.trans (hb2.mono HB0.out.size);have hX2:=HX.out.below hb2;clear hb2 k0 k1 k2 k3;have k3:=hX2.c3
  have HR2:Hid (R=(b !=(d:Int))):=by
   show _=_;rw[HR.out]
   by_cases hbd:b=(d:Int)
   simp[hbd];rw[decide_eq_false hbd];have:(b==(d:Int))=false:=(by rw[beq_eq_false_iff_ne];exact hbd);unfold bne;rw[this]
  clear HR hX2;go_wp2;go_ret;exact⟨by rw[HR2.out];rfl,hb3⟩
def Zai(Ks:List KS):List Int->Int->Bool
 |[],_=>false
 |f::fs,b=>if ZaP (Ks.getD f.toNat ZB).e b=true then ZdC (Ks.getD f.toNat ZB).e (Ks.getD f.toNat ZB).d b else Zai Ks fs (b-(((Ks.getD f.toNat ZB).e.cnt:Nat)+2))
theorem Zk0(db n c base:Nat)(a:Option Addr)(vK:Value)(kvs:List (Value×Value))(Ks:List KS)(fs:List Int)(x:Int)(w:World)(hd:DkX w db vK kvs Ks)(h:Ze w base (.slice a n c) fs)(hn:fs.length=n)(hn2:n<=1000)(hin:∀f∈fs,0<=f/\f<Ks.length)(hc:∀K∈Ks,K.e.cnt<=16)(hx1:1<=x)(hx2:x<=1000):Calls Tryz.prog 283 #[.pointer (some ⟨db,0,none⟩),.slice a n c,.int .i64 x] w fun e w'=>e=.returned (.bool (Zai Ks fs (x-1)))/\Below w.heap.size w w':=by
 have HD:Hid (∀W,Below w.heap.size w W->DkX W db vK kvs Ks):=fun W hW=>hd.below hW;have HO:Hid (∀W,Below w.heap.size w W->Ze W base (.slice a n c) fs):=fun W hW=>h.below hW;have HN:Hid (fs.length=n):=hn;have HIN:Hid (∀f∈fs,0<=f/\f<Ks.length):=hin;have HC:Hid (∀K∈Ks,K.e.cnt<=16):=hc;clear hd h hn hin hc;obtain⟨R,hR⟩:∃R,Zai Ks fs (x-1)=R:=⟨_,rfl⟩;have HR0:Hid (Zai Ks fs (x-1)=R):=hR;rw[hR];clear hR;go_enter Tryz.func283,Tryz.ntmps283;go_wp2_with fail
 go_loopw [7,15] (fun tb ti wr=>∃(i:Nat) (b:Int),ti=.int .i64 i/\i<=n/\tb=.int .i64 b/\0<=b/\b<=1000/\Hid (Zai Ks (fs.drop i) b=R)/\Hid (Below w.heap.size w wr)) (fun _ ti _=>n-(intOf ti).toNat)
 case atStart=>exact⟨0,x-1,rfl,Qg _,by go_num,by omega,by omega,HR0.out,Below.refl _ _⟩
 case round=>
  clear HR0;obtain⟨i,b,rfl,hi,rfl,hb1,hb2,HS,HB⟩:=hrel
  by_cases hin:i<n
  ·have hlt:i<fs.length:=(by rw[HN.out];exact hin);obtain⟨q,rfl,_,_,y0,_⟩:=(HO.out wr HB.out).atK HN.out hin;have hmem:fs.getD i 0∈fs:=(by rw[Qc,Qd hlt];exact Qf _);have hf:=HIN.out _ hmem;have hdr:fs.drop i=fs.getD i 0::fs.drop (i+1):=(by rw[List.drop_eq_getElem_cons hlt];simp[List.getD,hlt]);have hs:=HS.out;rw[hdr] at hs;simp only[Zai] at hs;obtain⟨f,hfe⟩:∃f:Nat,fs.getD i 0=(f:Int):=⟨(fs.getD i 0).toNat,by omega⟩;rw[hfe] at y0 hf hs;rw[Int.toNat_natCast] at hs;have hfl:f<Ks.length:=(by omega);have hdk:=HD.out wr HB.out;obtain⟨kq,kc,ab,cb,aw,cw,rfl,hkq,e0,e1,e2,e3,_,_⟩:=hdk.kn.at hfl;have hc16:=HC.out (Ks.getD f ZB) (by rw[Qc,Qd hfl];exact Qf _);have d0:=hdk.c0
   have hdl:=hdk.lt;have HHB:Hid (∀W,Calls Tryz.prog 226 #[.agg #[.bool (Ks.getD f ZB).e.wd,.slice ab (Ks.getD f ZB).e.bs.length cb,.slice aw (Ks.getD f ZB).e.ww.length cw,.int .i64 ((Ks.getD f ZB).d:Nat)],.int .i64 b] W fun x w'=>x=.returned (.bool (ZaP (Ks.getD f ZB).e b))/\Below W.heap.size W w'):=fun W=>Zd9 _ ab aw _ cb _ cw _ b W rfl rfl (by omega);have HSO:Hid (∀W,Calls Tryz.prog 284 #[.agg #[.bool (Ks.getD f ZB).e.wd,.slice ab (Ks.getD f ZB).e.bs.length cb,.slice aw (Ks.getD f ZB).e.ww.length cw,.int .i64 ((Ks.getD f ZB).d:Nat)],.int .i64 b] W fun x w'=>x=.returned (.bool (ZdC (Ks.getD f ZB).e (Ks.getD f ZB).d b))/\Below W.heap.size W w'):=fun W=>ZdT _ ab aw _ cb _ cw _ b W rfl rfl (by omega)
   have HHM:Hid (∀W,Calls Tryz.prog 146 #[.agg #[.bool (Ks.getD f ZB).e.wd,.slice ab (Ks.getD f ZB).e.bs.length cb,.slice aw (Ks.getD f ZB).e.ww.length cw]] W fun x w'=>x=.returned (.int .i64 (((Ks.getD f ZB).e.cnt:Nat)+2))/\Below W.heap.size W w'):=fun W=>Y3 _ ab aw _ cb _ cw W (by show(Ks.getD f ZB).e.cnt<=_;omega)
   have HNH:Hid (ZaP (Ks.getD f ZB).e b=false->((Ks.getD f ZB).e.cnt:Int)+2<=b):=fun hh=>by unfold ZaP at hh;simpa using hh
   have HSS:Hid ((if ZaP (Ks.getD f ZB).e b=true then ZdC (Ks.getD f ZB).e (Ks.getD f ZB).d b else Zai Ks (fs.drop (i+1)) (b-(((Ks.getD f ZB).e.cnt:Nat)+2)))=R):=hs;have b1:(0:Int)<=(i:Int):=(by omega);have b2:(i:Int)<(n:Int):=(by omega);have b3:(0:Int)<=(f:Int):=(by omega);have b4:(f:Int)<(Ks.length:Int):=(by omega);clear hmem hfe hdk hlt hs hdr HS;generalize (Ks.getD f ZB).e.bs.length=nb at *;generalize (Ks.getD f ZB).e.ww.length=nw at *;generalize (Ks.getD f ZB).e.wd=wd at *;generalize (Ks.getD f ZB).e.cnt=cn at *;generalize (Ks.getD f ZB).d=dd at *;generalize ZaP (Ks.getD f ZB).e b=hb at *;generalize ZdC (Ks.getD f ZB).e dd b=ob at *;go_upto_region 6 with fail;generalize hW3:wr.alloc (.cells #[.bool wd,.slice ab nb cb,.slice aw nw cw,.int .i64 (dd:Nat)] 172)=w3
   have HK3:Hid (KbX w3 wr.heap.size wd (.slice ab nb cb) (.slice aw nw cw) dd):=⟨by rw[<- hW3];exact heap_alloc_new _ _⟩;have HB3:Hid (Below w.heap.size w w3):=(by show Below _ _ _;rw[<- hW3];exact HB.out.alloc HB.out.size _);clear hW3 e0 e1 e2 e3 y0 d0;have k0:=HK3.out.c0;have k1:=HK3.out.c1;have k2:=HK3.out.c2;have k3:=HK3.out.c3;go_wp2_with fail
   refine(HHB.out _).mono ?_;rintro y w4 ⟨rfl,hb4⟩;have HB4:Hid (Below w.heap.size w w4):=HB3.out.trans (hb4.mono HB3.out.size);have HK4:Hid (KbX w4 wr.heap.size wd (.slice ab nb cb) (.slice aw nw cw) dd):=HK3.out.below hb4;clear hb4 HB3 HK3 k0 k1 k2 k3;have k0:=HK4.out.c0;have k1:=HK4.out.c1;have k2:=HK4.out.c2;have k3:=HK4.out.c3
   cases hb with
   | true=>
    have HRR:Hid (ob=R):=(by have:=HSS.out;rw[if_pos rfl] at this;exact this);clear HSS HNH;go_wp2_with fail
    refine(HSO.out _).mono ?_;rintro y w5 ⟨rfl,hb5⟩;have HB5:Hid (Below w.heap.size w w5):=HB4.out.trans (hb5.mono HB4.out.size);clear hb5 HB4 HK4 k0 k1 k2 k3;go_wp2;go_ret;rw[<- HRR.out];exact⟨rfl,HB5.out⟩
   | false=>
    have HRR:Hid (Zai Ks (fs.drop (i+1)) (b-((cn:Int)+2))=R):=(by have:=HSS.out;rw[if_neg (by simp)] at this;exact this);have hnh:=HNH.out rfl;clear HSS HNH;go_wp2_with fail
    refine(HHM.out _).mono ?_;rintro y w5 ⟨rfl,hb5⟩;have HB5:Hid (Below w.heap.size w w5):=HB4.out.trans (hb5.mono HB4.out.size);obtain⟨u,hu⟩:∃u,u=b-((cn:Int)+2):=⟨_,rfl⟩;have q1:IntKind.i64.wrap (b-((cn:Int)+2))=u:=(by rw[hu];exact Zz (by omega) (by omega));have HUU:Hid (b-((cn:Int)+2)=u):=hu.symm;rw[<- hu] at HRR;have hu1:0<=u:=(by omega);have hu2:u<=1000:=(by omega);clear hb5 HB4 HK4 k0 k1 k2 k3 hu;go_wp2;go_roundw;case rel=>exact⟨i+1,u,by go_num,by omega,by first|rfl|rw[HUU.out],hu1,hu2,HRR,HB5⟩
    case measure=>simp[intOf];omega
  have hni:¬(i:Int)<(n:Int):=(by omega);have HRR:Hid (false=R):=(by have:=HS.out;rw[List.drop_eq_nil_of_le (by rw[HN.out];omega)] at this;exact this);clear HS;go_wp2;go_ret;rw[<- HRR.out];exact⟨rfl,HB.out⟩
def spS(N:List Int)(l:List Int):Nat->Int×List Int
 |0=>(-1,N)
 |k+1=>((spS N l k).1+l.getD (2*k) 0,if 0<=(spS N l k).1+l.getD (2*k) 0/\(spS N l k).1+l.getD (2*k) 0<N.length then(spS N l k).2.set ((spS N l k).1+l.getD (2*k) 0).toNat (l.getD (2*k+1) 0) else(spS N l k).2)
theorem Zdr(N l:List Int):∀k,(spS N l k).2.length=N.length
 |0=>rfl
 |k+1=>by have:=Zdr N l k;simp only[spS];split;rw[List.length_set];exact this;exact this
theorem ZnE{l:List Int}(hb:∀x∈l,0<=x/\x<=255)(N:List Int):∀k,-1<=(spS N l k).1/\(spS N l k).1<=255*(k:Int)
 |0=>by simp[spS]
 |k+1=>by have:=ZnE hb N k;have:=Qm hb (2*k);simp only[spS];omega
structure Y2(w wr:World)(base sb g n c:Nat)(l N:List Int):Prop where
 src:ZI wr sb l
 own:Ze wr base (.slice (some ⟨g,0,none⟩) n c) N
 t:Za (fun k=>k=sb∨k=g) w wr
 ne:sb≠g
section
variable {w wr w2:World} {base sb g n c:Nat} {l l2 N:List Int}
theorem Y2.step(h:Y2 w wr base sb g n c l N)(hs:ZI w2 sb l2)(t:Za (fun k=>k=sb) wr w2):Y2 w w2 base sb g n c l2 N:=
 ⟨hs,t.row h.own (fun k hk e=>by simp[Value.ownBlock] at hk;exact h.ne (e.symm.trans hk.symm)),h.t.trans (t.mono (fun k _ e=>.inl e)),h.ne⟩
theorem Y2.below(h:Y2 w wr base sb g n c l N)(hb:Below wr.heap.size wr w2):Y2 w w2 base sb g n c l N:=h.step (h.src.below hb) (.of_below hb)
theorem Y2.put(h:Y2 w wr base sb g n c l N)(hn:n=N.length)(k:Nat)(z:Int):Y2 w (wr.setCell ⟨g,k,none⟩ (.int .i64 z)) base sb g n c l (N.set k z):=by have t5:Za (fun q=>q=g) wr (wr.setCell ⟨g,k,none⟩ (.int .i64 z)):=(Za.refl (fun q=>q=g) wr).setCell (p:=⟨g,k,none⟩) (fun _=>rfl) _;exact⟨h.src.touch t5 h.ne,(h.own.put (k:=k) hn z).1,h.t.setCell (p:=⟨g,k,none⟩) (fun _=>.inr rfl) _,h.ne⟩
end
theorem Zhf(base sb g n c:Nat)(l N:List Int)(w:World)(h:Y2 w w base sb g n c l N)(hn:N.length=n):Calls Tryz.prog 280 #[.func (.func 165) #[.pointer (some ⟨sb,0,none⟩)] #[],.slice (some ⟨g,0,none⟩) n c] w fun e w'=>e=.returned (.tuple #[])/\Y2 w w' base sb g n c (l.tail.drop (2*(l.headD 0).toNat)) (spS N l.tail (l.headD 0).toNat).2:=by
 have hb0:=Qm h.src.byte 0;have hh:l.headD 0=l.getD 0 0:=(by have:=ZP l 0;rwa [List.drop_zero] at this);obtain⟨m,hm⟩:∃m:Nat,l.headD 0=(m:Int):=⟨(l.headD 0).toNat,by omega⟩;have hm2:m<=255:=by omega
 have HNX:Hid (∀(W:World) (l:List Int) (x:Int),l.headD 0=x->ZI W sb l->Calls Tryz.prog 165 #[.pointer (some ⟨sb,0,none⟩)] W fun e w'=>e=.returned (.int .i64 x)/\ZI w' sb l.tail/\Za (fun k=>k=sb) W w'):=fun W l x hx hS=>by rw[<- hx];exact YE sb l W hS
 have h165:=HNX.out w l (m:Int) hm h.src;have e1:(l.headD 0).toNat=m:=(by omega);rw[e1];obtain⟨l1,hl1⟩:∃l1,l.tail=l1:=⟨_,rfl⟩;rw[hl1] at h165 ⊢;have HBY:Hid (∀x∈l1,0<=x/\x<=255):=fun x hx=>h.src.byte x (by rw[<- hl1] at hx;exact List.mem_of_mem_tail hx);have HS0:Hid (Y2 w w base sb g n c l N):=h;have HN:Hid (N.length=n):=hn;clear h hb0 hh hm hl1 e1 hn;go_enter Tryz.func280,Tryz.ntmps280;go_wp2_with fail
 refine h165.mono ?_;clear h165;rintro e w2 ⟨rfl,hs2,ht2⟩;have HS2:Hid (Y2 w w2 base sb g n c l1 N):=HS0.out.step hs2 ht2;clear hs2 ht2 HS0;go_wp2_with fail
 go_loopw [4,8] (fun tr ti wr=>∃k:Nat,ti=.int .i64 k/\k<=m/\tr=.int .i64 (spS N l1 k).1/\Hid (Y2 w wr base sb g n c (l1.drop (2*k)) (spS N l1 k).2)) (fun _ ti _=>m-(intOf ti).toNat)
 case atStart=>exact⟨0,rfl,Qg _,rfl,HS2.out⟩
 case round=>
  clear HS2;obtain⟨k,rfl,hk,rfl,HS⟩:=hrel
  by_cases hkm:k<m
  ·have bk:(k:Int)<(m:Int):=(by omega);have hrow:=ZnE HBY.out N k;have hx1:=Qm HBY.out (2*k);have hx2:=Qm HBY.out (2*k+1);have hsl:=Zdr N l1 k;rw[HN.out] at hsl;have HSN:Hid (spS N l1 (k+1)=((spS N l1 k).1+l1.getD (2*k) 0,if 0<=(spS N l1 k).1+l1.getD (2*k) 0/\(spS N l1 k).1+l1.getD (2*k) 0<(n:Int) then(spS N l1 k).2.set ((spS N l1 k).1+l1.getD (2*k) 0).toNat (l1.getD (2*k+1) 0) else(spS N l1 k).2)):=(by show _=_;rw[<- HN.out];rfl);have h1:=HNX.out wr (l1.drop (2*k)) _ (ZP l1 (2*k)) HS.out.src;rw[Q8] at h1
   have H2:Hid (∀W,ZI W sb (l1.drop (2*k+1))->Calls Tryz.prog 165 #[.pointer (some ⟨sb,0,none⟩)] W fun e w'=>e=.returned (.int .i64 (l1.getD (2*k+1) 0))/\ZI w' sb (l1.drop (2*(k+1)))/\Za (fun k=>k=sb) W w'):=fun W hW=>by have:=HNX.out W (l1.drop (2*k+1)) _ (ZP l1 (2*k+1)) hW;rw[Q8] at this;exact this
   generalize l1.getD (2*k) 0=x at *;generalize l1.getD (2*k+1) 0=y at *;generalize (spS N l1 k).1=r at *;generalize (spS N l1 k).2=M at *;obtain⟨u,hu⟩:∃u,u=r+x:=⟨_,rfl⟩;have q1:IntKind.i64.wrap (r+x)=u:=(by rw[hu];exact Zz (by omega) (by omega));have q2:r+x=u:=hu.symm;rw[<- hu] at HSN;have hu1: -1<=u:=(by omega);have hu2:u<=100000:=(by omega);have HQ2:Hid (r+x=u):=q2;clear q2 hu;go_wp2_with fail
   refine h1.mono ?_;clear h1;rintro e w3 ⟨rfl,hs3,ht3⟩;have HS3:Hid (Y2 w w3 base sb g n c (l1.drop (2*k+1)) M):=HS.out.step hs3 ht3;clear hs3 ht3 HS;go_wp2_with fail
   try simp only[HQ2.out]
   refine(H2.out _ HS3.out.src).mono ?_;clear H2;rintro e w4 ⟨rfl,hs4,ht4⟩;have HS4:Hid (Y2 w w4 base sb g n c (l1.drop (2*(k+1))) M):=HS3.out.step hs4 ht4;clear hs4 ht4 HS3 HQ2 q1 hrow hx1
   by_cases h0:0<=u
   ·have d0:decide ((0:Int)<=u)=true:=by simp[h0]
    by_cases hlt:u<(n:Int)
    ·have d1:decide (u<(n:Int))=true:=(by simp[hlt]);obtain⟨v,rfl⟩:∃v:Nat,u=(v:Int):=⟨u.toNat,by omega⟩;have hv:v<n:=(by omega);obtain⟨y1,y2⟩:=HS4.out.own.cellK hsl.symm hv;have HS5:Hid (Y2 w (w4.setCell ⟨g,v,none⟩ (.int .i64 y)) base sb g n c (l1.drop (2*(k+1))) (spS N l1 (k+1)).2):=by have:=HS4.out.put hsl.symm v y;rw[HSN.out];show Y2 _ _ _ _ _ _ _ _ (if _ then _ else _);rw[if_pos ⟨h0,hlt⟩,Int.toNat_natCast];exact this
     have HR:Hid ((spS N l1 (k+1)).1=(v:Int)):=(by show _=_;rw[HSN.out]);clear HS4 HSN;go_wp2;go_roundw;case rel=>exact⟨k+1,by go_num,by omega,by rw[HR.out],HS5⟩
     case measure=>simp[intOf];omega
    have d1:decide (u<(n:Int))=false:=(by simp;omega);have HS5:Hid (Y2 w w4 base sb g n c (l1.drop (2*(k+1))) (spS N l1 (k+1)).2):=by have:=HS4.out;rw[HSN.out];show Y2 _ _ _ _ _ _ _ _ (if _ then _ else _);rw[if_neg (fun h=>hlt h.2)];exact this
    have HR:Hid ((spS N l1 (k+1)).1=u):=(by show _=_;rw[HSN.out]);clear HS4 HSN;go_wp2;go_roundw;case rel=>exact⟨k+1,by go_num,by omega,by rw[HR.out],HS5⟩
    case measure=>simp[intOf];omega
   have d0:decide ((0:Int)<=u)=false:=(by simp;omega);have HS5:Hid (Y2 w w4 base sb g n c (l1.drop (2*(k+1))) (spS N l1 (k+1)).2):=by have:=HS4.out;rw[HSN.out];show Y2 _ _ _ _ _ _ _ _ (if _ then _ else _);rw[if_neg (fun h=>h0 h.1)];exact this
   have HR:Hid ((spS N l1 (k+1)).1=u):=(by show _=_;rw[HSN.out]);clear HS4 HSN;go_wp2;go_roundw;case rel=>exact⟨k+1,by go_num,by omega,by rw[HR.out],HS5⟩
   case measure=>simp[intOf];omega
  have hnk:¬(k:Int)<(m:Int):=(by omega);have hkk:k=m:=(by omega);subst hkk;go_wp2;go_end0;exact⟨rfl,HS.out⟩
def Zdx(l:List Int)(t:Nat):Nat:=(l.getD (t/8) 0).toNat/2^(t%8)%2
theorem Zm3(l:List Int):∀t,Zdx l t<=1:=fun t=>by unfold Zdx;omega
theorem ZiB(l:List Int)(j:Nat):∀k,k<=8->Za3 (Zdx l) (8*j) k=(l.getD j 0).toNat%2^k
 |0,_=>by simp[Za3,Nat.mod_one]
 |k+1,hk=>by have ih:=ZiB l j k (by omega);show Za3 (Zdx l) (8*j) k+Zdx l (8*j+k)*2^k=_;rw[ih,Nat.pow_succ,Nat.mod_mul];unfold Zdx;rw[show(8*j+k)/8=j by omega,show(8*j+k)%8=k by omega,Nat.mul_comm]
theorem Zmn{l:List Int}(hb:∀x∈l,0<=x/\x<=255)(nb:Nat):ZK (Zdx l) nb (8*nb)=Yh (fun j=>l.getD j 0) nb nb:=by rw[Zch];unfold ZK;refine List.map_congr_left fun j hj=>?_;have hj:=List.mem_range.1 hj;have:=Qm hb j;unfold QQ;rw[show min 8 (8*nb-8*j)=8 by omega,ZiB l j 8 (Qa _),Nat.mod_eq_of_lt (by omega)];omega
theorem ZoJ(f:Nat->Nat)(nb:Nat)(g:Nat->Int):ZK f nb 0=Yh g nb 0:=by rw[Zci];unfold ZK;refine List.eq_replicate_iff.2 ⟨by simp,fun b hb=>?_⟩;obtain⟨j,_,rfl⟩:=List.mem_map.1 hb;unfold QQ;rw[show min 8 (0-8*j)=0 by omega];rfl
theorem Zsc{x:Int}(h:0<=x/\x<=255):IntKind.u8.wrap x=x:=by simp[IntKind.wrap,IntKind.bits,IntKind.signed];omega
section
variable {w w':World} {base dd q n d:Nat} {bs:List Int}
theorem Zan.touch{S:Nat->Prop}(h:Zan w base dd q n d bs)(t:Za S w w')(h1:¬S dd)(h2:¬S q):Zan w' base dd q n d bs:=
 ⟨t.at_ h.blk h1,t.row h.row (fun k hk e=>by simp[Value.ownBlock] at hk;exact h2 (hk ▸ e))⟩
theorem Zan.below(h:Zan w base dd q n d bs)(hb:Below w.heap.size w w'):Zan w' base dd q n d bs:=h.touch (S:=fun _=>False) (.of_below hb) id id
theorem Zan.c2(h:Zan w base dd q n d bs){nb:Nat}(hl:bs.length=nb):w.cell? ⟨dd,2,none⟩=some (.slice (some ⟨q,0,none⟩) nb nb):=by have:=cell_of_row _ _ 2 _ 396 (0,0) h.blk;rw[hl] at this;exact this
end
theorem Zs.mono0B{w:World}{b:Nat}{v:Value}{L:List Int}(h:Zs w b v L):Zs w 0 v L:=by
 obtain⟨h1,h2⟩:=h;refine⟨h1,?_⟩
 rcases h2 with h|⟨g,cap,cur,e,hg,rest⟩
 exact .inl h;exact .inr ⟨g,cap,cur,e,by omega,rest⟩
def ZdD(F:Nat->Int)(N:List Int)(r:Nat):List Int:=(List.range r).map F++N.drop r
theorem ZoG(F:Nat->Int)(N:List Int):ZdD F N 0=N:=by simp[ZdD]
theorem ZoF(F:Nat->Int){N:List Int}{n:Nat}(h:N.length=n):ZdD F N n=(List.range n).map F:=by simp[ZdD,List.drop_eq_nil_of_le (show N.length<=n by omega)]
theorem Zqc(F:Nat->Int)(N:List Int){r:Nat}(h:r<=N.length):(ZdD F N r).length=N.length:=by simp[ZdD];omega
theorem Zqd(F:Nat->Int){N:List Int}{r:Nat}(h:r<N.length):(ZdD F N r).set r (F r)=ZdD F N (r+1):=by unfold ZdD;rw[List.drop_eq_getElem_cons h,List.set_append_right _ _ (by simp),List.length_map,List.length_range,Nat.sub_self,List.set_cons_zero,List.range_succ,List.map_append,List.append_assoc];rfl
def dnN(l:List Int)(n d:Nat):List Int:=(List.range n).map fun r=>((Za3 (Zdx l) (r*d) d:Nat):Int)
theorem Zh0(base sb g n c d:Nat)(l N:List Int)(w:World)(h:Y2 w w base sb g n c l N)(hn:N.length=n)(hn2:n<=200)(hd:d<=6)(hgl:g<w.heap.size):Calls Tryz.prog 281 #[.func (.func 165) #[.pointer (some ⟨sb,0,none⟩)] #[],.slice (some ⟨g,0,none⟩) n c,.int .i64 (d:Nat)] w fun e w'=>e=.returned (.tuple #[])/\Y2 w w' base sb g n c (l.drop ((n*d+7)/8)) (dnN l n d):=by
 have hND:=ZeD none n d 0 0 [] w (by exact Ze.nil _ _) rfl (Qg _) hn2 hd;obtain⟨nb,hnb⟩:∃nb,nb=(n*d+7)/8:=⟨_,rfl⟩;rw[Nat.zero_mul,<- hnb] at hND;rw[<- hnb];have hnd:n*d<=1200:=Nat.mul_le_mul hn2 hd;have hnb2:nb<=151:=(by omega);have hT:n*d<=8*nb:=(by omega);have HBY:Hid (∀x∈l,0<=x/\x<=255):=h.src.byte;have hsl:=h.src.lt;have HN0:Hid (Y2 w w base sb g n c l N):=h;have HNL:Hid (N.length=n):=hn;clear h hnb hn;go_enter Tryz.func281,Tryz.ntmps281;go_wp2_with fail
 refine hND.mono ?_;clear hND;rintro e w2 ⟨v,rfl,⟨dd,q,rfl,hddl,hDX⟩,hb2⟩;rw[ZoJ _ nb (fun j=>l.getD j 0)] at hDX;have HN2:Hid (Y2 w w2 base sb g n c l N):=HN0.out.below hb2;have HD2:Hid (Zan w2 w.heap.size dd q n d (Yh (fun j=>l.getD j 0) nb 0)):=hDX;have c2:=hDX.c2 (QJ (fun j=>l.getD j 0) (Qg nb));clear hb2 hDX HN0;go_wp2_with fail
 clear c2;go_loopw [19] (fun ti wr=>∃k:Nat,ti=.int .i64 k/\k<=nb/\Hid (Zan wr w.heap.size dd q n d (Yh (fun j=>l.getD j 0) nb k))/\Hid (Y2 w wr base sb g n c (l.drop k) N)) (fun ti _=>nb-(intOf ti).toNat)
 case atStart=>exact⟨0,rfl,Qg _,HD2.out,HN2.out⟩
 case round=>
  clear HD2 HN2;obtain⟨k,rfl,hk,HDX,HNS⟩:=hrel;have c2:=HDX.out.c2 (QJ _ hk)
  by_cases hkn:k<nb
  ·have b1:(0:Int)<=(k:Int):=(by omega);have b2:(k:Int)<(nb:Int):=(by omega);have hx:=Qm HBY.out k
   have H165:Hid (∀W,ZI W sb (l.drop k)->Calls Tryz.prog 165 #[.pointer (some ⟨sb,0,none⟩)] W fun e w'=>e=.returned (.int .i64 (l.getD k 0))/\ZI w' sb (l.drop (k+1))/\Za (fun k=>k=sb) W w'):=fun W hW=>by have:=YE sb (l.drop k) W hW;rw[ZP,Q8] at this;exact this
   have q5:IntKind.u8.wrap (l.getD k 0)=l.getD k 0:=Zsc hx;have HFS:Hid ((Yh (fun j=>l.getD j 0) nb k).set k (l.getD k 0)=Yh (fun j=>l.getD j 0) nb (k+1)):=Zdb (fun j=>l.getD j 0) hkn;obtain⟨x,hxe⟩:∃x,l.getD k 0=x:=⟨_,rfl⟩;rw[hxe] at q5 HFS H165;clear hxe hx;go_upto_region 4 with fail;refine Zo (fun w'=>w'.cell? ⟨dd,2,none⟩=some (.slice (some ⟨q,0,none⟩) nb nb)) 9 (by kernel_rfl) c2 (fun hHeld=>?_);refine Zm 0 ?_;refine Zm 1 ?_;refine Zm 2 ?_;refine Zm 3 ?_;refine Zm 4 ?_;refine Zm 5 ?_;refine Zc (i:=6) (by kernel_rfl) rfl (fun KK hK=>?_);go_simp;refine(H165.out _ (HNS.out.below (Below.refl _ _).drew).src).mono ?_;rintro e w4 ⟨rfl,hs4,ht4⟩;have HN4:Hid (Y2 w w4 base sb g n c (l.drop (k+1)) N):=(HNS.out.below (Below.refl _ _).drew).step hs4 ht4
   have HD4:Hid (Zan w4 w.heap.size dd q n d (Yh (fun j=>l.getD j 0) nb k)):=(HDX.out.below (Below.refl _ _).drew).touch ht4 (by omega) (fun hq=>by
    have:=(World.ownsRow.lt HDX.out.row q rfl).1
    omega)
   have c4:w4.cell? ⟨dd,2,none⟩=some (.slice (some ⟨q,0,none⟩) nb nb):=HD4.out.c2 (QJ _ hk);have hfl:=QJ (fun j=>l.getD j 0) hk;have hro:=HD4.out.row;rw[hfl] at hro;obtain⟨y1,y2⟩:=hro.cellK hfl.symm hkn;clear hs4 ht4 HNS HDX hro;go_simp;refine hK.out _ _ c4 (fun hHeld=>?_);clear hK KK;try simp only[Act.put,tA,tB,tC]
   refine Zm 7 ?_;refine Zm 8 ?_;refine Zh (i:=9) (by kernel_rfl) rfl (by kernel_rfl) (fun KK hK=>?_);go_simp;refine hK.out _ _ ?_;clear hK KK;try simp only[Act.put,tA,tB,tC]
   refine Zj (by kernel_rfl) ?_ _;have HD5:Hid (Zan (w4.setCell ⟨q,k,none⟩ (.int .u8 x)) w.heap.size dd q n d (Yh (fun j=>l.getD j 0) nb (k+1))):=by have hro:=HD4.out.row;have hp:=(Zs.put (k:=k) hro rfl x).1;rw[HFS.out] at hp;have hl2:(Yh (fun j=>l.getD j 0) nb (k+1)).length=(Yh (fun j=>l.getD j 0) nb k).length:=(by rw[QJ _ (by omega),hfl]);have t5:Za (fun z=>z=q) w4 (w4.setCell ⟨q,k,none⟩ (.int .u8 x)):=(Za.refl (fun z=>z=q) w4).setCell (p:=⟨q,k,none⟩) (fun _=>rfl) _;refine⟨?_,by rw[hl2];exact hp⟩;rw[hl2];exact t5.at_ HD4.out.blk (fun e=>Zq hro (k:=q) rfl HD4.out.blk (by decide) e.symm)
   have HN5:Hid (Y2 w (w4.setCell ⟨q,k,none⟩ (.int .u8 x)) base sb g n c (l.drop (k+1)) N):=by have hq:=(World.ownsRow.lt HD4.out.row q rfl).1;have t5:Za (fun z=>z=q) w4 (w4.setCell ⟨q,k,none⟩ (.int .u8 x)):=(Za.refl (fun z=>z=q) w4).setCell (p:=⟨q,k,none⟩) (fun _=>rfl) _;exact⟨HN4.out.src.touch t5 (by omega),t5.row HN4.out.own (fun z hz e=>by simp[Value.ownBlock] at hz;omega),HN4.out.t.setCell (p:=⟨q,k,none⟩) (fun hz=>by simp at hz;omega) _,HN4.out.ne⟩
   clear HD4 HN4 HFS hfl c4 c2;go_wp2;go_roundw;case rel=>exact⟨k+1,by go_num,by omega,HD5,HN5⟩
   case measure=>simp[intOf];omega
  have hnk:¬(k:Int)<(nb:Int):=(by omega);have hkk:k=nb:=(by omega);subst hkk;have HD6:Hid (Zan wr 0 dd q n d (ZK (Zdx l) k (8*k))):=(by have:=HDX.out;rw[<- Zmn HBY.out k] at this;exact⟨this.blk,this.row.mono0B⟩);have HN6:Hid (Y2 w wr base sb g n c (l.drop k) N):=HNS.out;have HDB:Hid (w.heap.size<=q):=(World.ownsRow.lt HDX.out.row q rfl).1;clear HDX HNS c2;go_wp2_with fail
  obtain⟨F,hF⟩:∃F:Nat->Int,F=fun r=>((Za3 (Zdx l) (r*d) d:Nat):Int):=⟨_,rfl⟩
  have HFF:Hid (∀r,F r=((Za3 (Zdx l) (r*d) d:Nat):Int)):=fun r=>by rw[hF]
  have HDN:Hid (dnN l n d=ZdD F N n):=(by show _=_;rw[ZoF F HNL.out,hF];rfl);clear hF;go_loopw [34] (fun ti wr=>∃r:Nat,ti=.int .i64 r/\r<=n/\Hid (Zan wr 0 dd q n d (ZK (Zdx l) k (8*k)))/\Hid (Y2 w wr base sb g n c (l.drop k) (ZdD F N r))) (fun ti _=>n-(intOf ti).toNat)
  case atStart=>exact⟨0,rfl,Qg _,HD6.out,by rw[ZoG];exact HN6.out⟩
  case round=>
   clear HD6 HN6;obtain⟨r,rfl,hr,HDX,HNS⟩:=hrel
   by_cases hrn:r<n
   ·have b1:(0:Int)<=(r:Int):=(by omega);have b2:(r:Int)<(n:Int):=by omega
    have hrd:r*d+d<=8*k:=(by have:(r+1)*d<=n*d:=Nat.mul_le_mul_right d hrn;rw[Nat.add_mul,Nat.one_mul] at this;omega);have hAt:=Zbx dd q n d k (8*k) r (Zdx l) wr HDX.out (Zm3 l) hd hrd (Qa _) (by omega);rw[<- HFF.out r] at hAt;have HST:Hid ((ZdD F N r).set r (F r)=ZdD F N (r+1)):=Zqd F (by rw[HNL.out];exact hrn);have hol:(ZdD F N r).length=n:=(by rw[Zqc F N (by rw[HNL.out];exact hr),HNL.out]);generalize F r=z at *;go_wp2_with fail
    refine hAt.mono ?_;clear hAt;rintro e w5 ⟨rfl,hb5⟩;have HN5:Hid (Y2 w w5 base sb g n c (l.drop k) (ZdD F N r)):=HNS.out.below hb5;obtain⟨y1,y2⟩:=HN5.out.own.cellK hol.symm hrn;have HN6:Hid (Y2 w (w5.setCell ⟨g,r,none⟩ (.int .i64 z)) base sb g n c (l.drop k) (ZdD F N (r+1))):=(by have:=HN5.out.put hol.symm r z;rw[HST.out] at this;exact this);have HD6:Hid (Zan (w5.setCell ⟨g,r,none⟩ (.int .i64 z)) 0 dd q n d (ZK (Zdx l) k (8*k))):=by have t5:Za (fun x=>x=g) w5 (w5.setCell ⟨g,r,none⟩ (.int .i64 z)):=(Za.refl (fun x=>x=g) w5).setCell (p:=⟨g,r,none⟩) (fun _=>rfl) _;exact(HDX.out.below hb5).touch t5 (by omega) (by have:=HDB.out;omega)
    clear hb5 HN5 HNS HDX HST hol;go_wp2;go_roundw;case rel=>exact⟨r+1,by go_num,by omega,HD6,HN6⟩
    case measure=>simp[intOf];omega
   have hnr:¬(r:Int)<(n:Int):=(by omega);have hrr:r=n:=(by omega);subst hrr;go_wp2;go_end0;rw[HDN.out];exact⟨rfl,HNS.out⟩
def Zah(l:List Int)(n g:Nat):List Int:=if l.headD 0=115 then(spS (List.replicate n 0) l.tail.tail (l.tail.headD 0).toNat).2 else dnN l.tail n (Lib.bitLen g)
def rdColR(l:List Int)(n g:Nat):List Int:=if l.headD 0=115 then l.tail.tail.drop (2*(l.tail.headD 0).toNat) else l.tail.drop ((n*Lib.bitLen g+7)/8)
def Qw(l:List Int)(n g:Nat):List Nat:=(Zah l n g).map Int.toNat
theorem ZmA{l:List Int}(hb:∀x∈l,0<=x/\x<=255)(n:Nat):∀k,∀x∈(spS (List.replicate n 0) l k).2,0<=x/\x<=255
 |0=>fun x hx=>by rw[List.eq_of_mem_replicate hx];omega
 | k +1=>fun x hx=>by
  simp only[spS] at hx;split at hx
  ·rcases List.mem_or_eq_of_mem_set hx with h|h
   exact ZmA hb n k x h;rw[h];exact Qm hb _
  exact ZmA hb n k x hx
theorem ZrP(l:List Int)(n:Nat){d:Nat}(hd:d<=6):∀x∈dnN l n d,0<=x/\x<=255:=fun x hx=>by obtain⟨r,_,rfl⟩:=List.mem_map.1 hx;have h1:=Zdj (Zm3 l) (r*d) d;have h2:(2:Nat)^d<=2^6:=Nat.pow_le_pow_right (by decide) hd;omega
theorem Zdo{l:List Int}(hb:∀x∈l,0<=x/\x<=255)(n:Nat){g:Nat}(hg:g<64):(Zah l n g).length=n/\∀x∈Zah l n g,0<=x/\x<=255:=by unfold Zah;split;exact⟨by rw[Zdr];simp,ZmA (fun x hx=>hb x (List.mem_of_mem_tail (List.mem_of_mem_tail hx))) n _⟩;exact⟨by simp[dnN],ZrP _ n (Zat hg)⟩
theorem Zmc{l:List Int}(h:∀x∈l,0<=x/\x<=255):ZG (l.map Int.toNat)=l:=by
 unfold ZG;rw[List.map_map]
 conv=>rhs;rw[<- List.map_id l]
 refine List.map_congr_left fun x hx=>?_;have:=h x hx;show((x.toNat:Nat):Int)=x;omega
theorem Zff{l:List Int}(hb:∀x∈l,0<=x/\x<=255)(n:Nat){g:Nat}(hg:g<64):(Qw l n g).length=n:=by unfold Qw;rw[List.length_map];exact(Zdo hb n hg).1
theorem Zj6(sb n g:Nat)(l:List Int)(w:World)(h:ZI w sb l)(hn:n<=200)(hg:g<64):Calls Tryz.prog 229 #[.func (.func 165) #[.pointer (some ⟨sb,0,none⟩)] #[],.int .i64 (n:Nat),.int .i64 (g:Nat)] w fun e w'=>∃v,e=.returned v/\QG w' 0 v (Qw l n g) g/\ZI w' sb (rdColR l n g)/\Za (fun k=>k=sb) w w':=by
 have hmk:=ZaA n (by omega);have hsl:=h.lt;obtain⟨w1,hw1⟩:∃w1,w1=w.alloc (.cells (madeCells #[.int .i64 0] n) 3):=⟨_,rfl⟩;have hO1:Ze w1 w.heap.size (.slice (some ⟨w.heap.size,0,none⟩) n n) (List.replicate n 0):=(by rw[hw1];exact Zaz n w w.heap.size (by omega) (Qa _));have hb1:Below w.heap.size w w1:=(by rw[hw1];exact(Below.refl _ _).alloc (Qa _) _);have h165:=YE sb l w1 (h.below hb1);have HO1:Hid (Ze w1 w.heap.size (.slice (some ⟨w.heap.size,0,none⟩) n n) (List.replicate n 0)/\Below w.heap.size w w1):=⟨hO1,hb1⟩;obtain⟨hcl,hci⟩:=Zdo h.byte n hg
 have HOF:Hid (∀W,Ze W 0 (.slice (some ⟨w.heap.size,0,none⟩) n n) (Zah l n g)->Calls Tryz.prog 257 #[.slice (some ⟨w.heap.size,0,none⟩) n n,.int .i64 (g:Nat)] W fun e w'=>∃v,e=.returned v/\QG w' W.heap.size v (Qw l n g) g/\Below W.heap.size W w'):=fun W hW=>Zil _ n n g (Qw l n g) W (by unfold Qw;rw[Zmc hci];exact hW) (Zff h.byte n hg) hn hg
 have HRD:Hid (∀W x,Y2 W W w.heap.size sb w.heap.size n n l.tail (List.replicate n 0)->l.headD 0=x->x=115->Calls Tryz.prog 280 #[.func (.func 165) #[.pointer (some ⟨sb,0,none⟩)] #[],.slice (some ⟨w.heap.size,0,none⟩) n n] W fun e w'=>e=.returned (.tuple #[])/\Y2 W w' w.heap.size sb w.heap.size n n (rdColR l n g) (Zah l n g)):=fun W x hW hx h115=>by have:=Zhf w.heap.size sb w.heap.size n n l.tail (List.replicate n 0) W hW (by simp);unfold rdColR Zah;rw[if_pos (hx.trans h115),if_pos (hx.trans h115)];exact this
 have HRE:Hid (∀W x,Y2 W W w.heap.size sb w.heap.size n n l.tail (List.replicate n 0)->l.headD 0=x->¬x=115->Calls Tryz.prog 281 #[.func (.func 165) #[.pointer (some ⟨sb,0,none⟩)] #[],.slice (some ⟨w.heap.size,0,none⟩) n n,.int .i64 (Lib.bitLen g:Nat)] W fun e w'=>e=.returned (.tuple #[])/\Y2 W w' w.heap.size sb w.heap.size n n (rdColR l n g) (Zah l n g)):=fun W x hW hx h115=>by have hgl:w.heap.size<W.heap.size:=(World.ownsRow.lt hW.own w.heap.size rfl).2;have:=Zh0 w.heap.size sb w.heap.size n n (Lib.bitLen g) l.tail (List.replicate n 0) W hW (by simp) hn (Zat hg) hgl;unfold rdColR Zah;rw[if_neg (fun e=>h115 (hx.symm.trans e)),if_neg (fun e=>h115 (hx.symm.trans e))];exact this
 have HBO:Hid (∀W,Calls Tryz.prog 282 #[.int .i64 (g:Nat)] W fun e w'=>e=.returned (.int .i64 (Lib.bitLen g:Nat))/\w'=W):=fun W=>Zgs g W (by omega);obtain⟨x,hx⟩:∃x,l.headD 0=x:=⟨_,rfl⟩;rw[hx] at h165;have HX:Hid (l.headD 0=x):=hx;clear hx hO1 hb1 hcl hci h;generalize Zah l n g=CI at *;generalize rdColR l n g=CR at *;generalize Qw l n g=CN at *;go_enter Tryz.func229,Tryz.ntmps229;go_wp2_with fail
 rw[<- hw1];refine h165.mono ?_;rintro e w2 ⟨rfl,hs2,ht2⟩;have HN2:Hid (Y2 w2 w2 w.heap.size sb w.heap.size n n l.tail (List.replicate n 0)):=⟨hs2,ht2.row HO1.out.1 (fun k hk e=>by simp[Value.ownBlock] at hk;omega),Za.refl _ _,by omega⟩;have HT2:Hid (Za (fun k=>k=sb) w w2):=(Za.of_below HO1.out.2).trans ht2;clear hs2 ht2 h165 hmk hw1 HO1
 by_cases h115:x=115
 ·have hR:=HRD.out w2 x HN2.out HX.out h115;have hxb:(x==115)=true:=(by rw[h115];rfl);clear HRD HRE HBO HN2 h115;go_wp2_with fail
  refine hR.mono ?_;clear hR;rintro e w3 ⟨rfl,hN3⟩;have HN3:Hid (Y2 w2 w3 w.heap.size sb w.heap.size n n CR CI):=hN3;have hO3:=HOF.out w3 (hN3.own.mono (Qg _));clear hN3 HOF;go_wp2_with fail
  refine hO3.mono ?_;clear hO3;rintro e w4 ⟨v,rfl,hc4,hb4⟩
  have HF:Hid (QG w4 0 v CN g/\ZI w4 sb CR/\Za (fun k=>k=sb) w w4):=by
   refine⟨hc4.zero,HN3.out.src.below hb4,?_⟩
   exact(HT2.out.trans2 HN3.out.t (fun z e=>by
    rcases e with e|e
    exact .inl e
    exact .inr (by omega))).below hb4
  clear hc4 hb4 HN3 HT2;go_wp2;go_ret;exact⟨v,rfl,HF.out⟩
 have hR:=HRE.out w2 x HN2.out HX.out h115;have hxb:(x==115)=false:=(by rw[beq_eq_false_iff_ne];exact h115);clear HRD HRE HN2 h115;go_wp2_with fail
 refine(HBO.out _).mono ?_;rintro e w2' ⟨rfl,hw2⟩;obtain rfl:=hw2.symm;go_wp2_with fail
 refine hR.mono ?_;clear hR;rintro e w3 ⟨rfl,hN3⟩;have HN3:Hid (Y2 w2 w3 w.heap.size sb w.heap.size n n CR CI):=hN3;have hO3:=HOF.out w3 (hN3.own.mono (Qg _));clear hN3 HOF;go_wp2_with fail
 refine hO3.mono ?_;clear hO3;rintro e w4 ⟨v,rfl,hc4,hb4⟩
 have HF:Hid (QG w4 0 v CN g/\ZI w4 sb CR/\Za (fun k=>k=sb) w w4):=by
  refine⟨hc4.zero,HN3.out.src.below hb4,?_⟩
  exact(HT2.out.trans2 HN3.out.t (fun z e=>by
   rcases e with e|e
   exact .inl e
   exact .inr (by omega))).below hb4
 clear hc4 hb4 HN3 HT2;go_wp2;go_ret;exact⟨v,rfl,HF.out⟩
def Yk(Ks:List KS)(fs:List Int)(N:List Nat):Bool:=N.all fun x=>decide (x=0)||Zai Ks fs ((x:Int)-1)
theorem Zg4 (db m c base cp ty fat n d:Nat) (a:Option Addr) (vK:Value) (kvs:List (Value×Value)) (Ks:List KS) (fs:List Int) (N:List Nat) (w:World) (hd:DkX w db vK kvs Ks) (h:Ze w base (.slice a m c) fs) (hm:fs.length=m) (hm2:m<=1000) (hin:∀f∈fs,0<=f/\f<Ks.length) (hc:∀K∈Ks,K.e.cnt<=16) (hN:N.length=n) (hn:n<=200) (hN2:∀x∈N,x<=255) (hty:ty=382/\fat=323∨ty=380/\fat=371) (hme:∀W:World,(method 535 ty (.pointer (some ⟨cp,0,none⟩)) "At").run Tryz.prog W=.ok (fat,.pointer (some ⟨cp,0,none⟩)) W) (hrw:∀W:World,Below w.heap.size w W->(method 535 ty (.pointer (some ⟨cp,0,none⟩)) "Rows").run Tryz.prog W=.ok (299,.agg #[.int .i64 (n:Nat),.int .i64 (d:Nat)]) W) (hAt:∀W:World,Below w.heap.size w W->∀r,r<n->Calls Tryz.prog fat #[.pointer (some ⟨cp,0,none⟩),.int .i64 (r:Nat)] W fun e w'=>e=.returned (.int .i64 (N.getD r 0:Nat))/\Below W.heap.size W w'):Calls Tryz.prog 231 #[.pointer (some ⟨db,0,none⟩),.agg #[.slice a m c,.iface ty (.pointer (some ⟨cp,0,none⟩))]] w fun e w'=>e=.returned (.bool (Yk Ks fs N))/\Below w.heap.size w w':=by
 obtain⟨w0,hw0⟩:∃w0,w0=w.alloc (.cells #[.slice a m c,.iface ty (.pointer (some ⟨cp,0,none⟩))] 163):=⟨_,rfl⟩;have hX0:w0.heap[w.heap.size]? =some (.cells #[.slice a m c,.iface ty (.pointer (some ⟨cp,0,none⟩))] 163 (0,0)):=(by rw[hw0];exact heap_alloc_new w _);have hB0:Below w.heap.size w w0:=(by rw[hw0];exact(Below.refl _ _).alloc (Qa _) _);have hkl:w.heap.size<w0.heap.size:=(Qb hX0).1
 have HW:Hid (∀W,Below w0.heap.size w0 W->Below w.heap.size w W/\W.cell? ⟨w.heap.size,0,none⟩=some (.slice a m c)/\W.cell? ⟨w.heap.size,1,none⟩=some (.iface ty (.pointer (some ⟨cp,0,none⟩)))):=fun W hW=>by have hX:=(hW.block _ hkl).trans hX0;exact⟨hB0.trans (hW.mono hB0.size),cell_of_row _ _ 0 _ 163 (0,0) hX,cell_of_row _ _ 1 _ 163 (0,0) hX⟩
 have HRW:Hid (∀W:World,Below w0.heap.size w0 W->(method 535 ty (.pointer (some ⟨cp,0,none⟩)) "Rows").run Tryz.prog W=.ok (299,.agg #[.int .i64 (n:Nat),.int .i64 (d:Nat)]) W):=fun W hW=>hrw W (HW.out W hW).1;have HAT:Hid (∀W:World,Below w0.heap.size w0 W->∀r,r<n->Calls Tryz.prog fat #[.pointer (some ⟨cp,0,none⟩),.int .i64 (r:Nat)] W fun e w'=>e=.returned (.int .i64 (N.getD r 0:Nat))/\Below W.heap.size W w'):=fun W hW r hr=>hAt W (HW.out W hW).1 r hr
 have HSB:Hid (∀W:World,Below w0.heap.size w0 W->∀x:Nat,1<=x->x<=255->Calls Tryz.prog 283 #[.pointer (some ⟨db,0,none⟩),.slice a m c,.int .i64 (x:Nat)] W fun e w'=>e=.returned (.bool (Zai Ks fs ((x:Int)-1)))/\Below W.heap.size W w'):=fun W hW x h1 h2=>Zk0 db m c base a vK kvs Ks fs x W (hd.below (HW.out W hW).1) (h.below (HW.out W hW).1) hm hm2 hin hc (by omega) (by omega);have HN:Hid (N.length=n):=hN;have HN2:Hid (∀x∈N,x<=255):=hN2;clear hd h hin hc hN hN2 hAt hX0 hB0 hrw;obtain⟨_,e0,e1⟩:=HW.out w0 (Below.refl _ _);have hr0:=HRW.out w0 (Below.refl _ _);go_enter Tryz.func231,Tryz.ntmps231;rw[hw0] at hr0 e0 e1;go_wp2_with fail
 rw[<- hw0];refine(ZdS _ _ _).mono ?_;rintro e w1 ⟨rfl,hb1⟩;have HB1:Hid (Below w0.heap.size w0 w1):=hb1;clear hb1 e0 e1 hr0 hw0;go_wp2_with fail
 go_loopw [10] (fun ti wr=>∃r:Nat,ti=.int .i64 r/\r<=n/\Hid (Yk Ks fs (N.take r)=true)/\Hid (Below w0.heap.size w0 wr)) (fun ti _=>n-(intOf ti).toNat)
 case atStart=>exact⟨0,rfl,Qg _,rfl,HB1.out⟩
 case round=>
  clear HB1;obtain⟨r,rfl,hr,HU,HB⟩:=hrel
  by_cases hrn:r<n
  ·have hlt:r<N.length:=(by rw[HN.out];exact hrn);have hmem:N.getD r 0∈N:=(by rw[Qc,Qd hlt];exact Qf _);have hT:N.take (r+1)=N.take r++[N.getD r 0]:=(by rw[Qi hlt];simp[List.getD,hlt]);have hx255:=HN2.out _ hmem
   have HS:Hid ((decide (N.getD r 0=0)||Zai Ks fs ((N.getD r 0:Int)-1))=true->Yk Ks fs (N.take (r+1))=true):=fun hx=>by have h1:=HU.out;unfold Yk at h1 ⊢;rw[hT,List.all_append,h1,List.all_cons,hx];rfl
   have HF:Hid ((decide (N.getD r 0=0)||Zai Ks fs ((N.getD r 0:Int)-1))=false->Yk Ks fs N=false):=fun hx=>by unfold Yk;rw[List.all_eq_false];exact⟨_,hmem,by rw[hx];simp⟩
   obtain⟨_,e0,e1⟩:=HW.out wr HB.out;have hA:=HAT.out wr HB.out r hrn;have bi:(r:Int)<(n:Int):=(by omega);clear hmem hT hlt HU;generalize N.getD r 0=x at *;have HTY:Hid (ty=382/\fat=323∨ty=380/\fat=371):=hty;clear hty
   rcases HTY.out with⟨rfl,rfl⟩|⟨rfl,rfl⟩
   all_goals
    go_wp2_with fail
    refine hA.mono ?_;clear hA;rintro e w2 ⟨rfl,hb2⟩;have HB2:Hid (Below w0.heap.size w0 w2):=HB.out.trans (hb2.mono HB.out.size);clear hb2 HB e0 e1;obtain⟨_,e0,e1⟩:=HW.out w2 HB2.out
    by_cases hx0:x=0
    ·subst hx0;have HR:Hid (Yk Ks fs (N.take (r+1))=true):=HS.out (by simp);clear HS HF;go_wp2;go_roundw;case rel=>exact⟨r+1,by go_num,by omega,HR,HB2⟩
     case measure=>simp[intOf];omega
    have hxb:((x:Int)==0)=false:=(by rw[beq_eq_false_iff_ne];omega);have hS:=HSB.out w2 HB2.out x (by omega) hx255;have HS2:Hid (Zai Ks fs ((x:Int)-1)=true->Yk Ks fs (N.take (r+1))=true):=fun h=>HS.out (by rw[h];simp);have HF2:Hid (Zai Ks fs ((x:Int)-1)=false->Yk Ks fs N=false):=fun h=>HF.out (by rw[h,decide_eq_false hx0];rfl);clear HS HF;generalize Zai Ks fs ((x:Int)-1)=sb at *;go_wp2_with fail
    refine hS.mono ?_;clear hS;rintro e w3 ⟨rfl,hb3⟩;have HB3:Hid (Below w0.heap.size w0 w3):=HB2.out.trans (hb3.mono HB2.out.size);clear hb3 HB2 e0 e1
    cases sb with
    | true=>
     have HR:Hid (Yk Ks fs (N.take (r+1))=true):=HS2.out rfl;clear HS2 HF2;go_wp2;go_roundw;case rel=>exact⟨r+1,by go_num,by omega,HR,HB3⟩
     case measure=>simp[intOf];omega
    | false=>
     have HR:Hid (Yk Ks fs N=false):=HF2.out rfl;clear HS2 HF2;go_wp2;go_ret;exact⟨by rw[HR.out];rfl,(HW.out _ HB3.out).1⟩
  have hni:¬(r:Int)<(n:Int):=by omega
  have HR:Hid (Yk Ks fs N=true):=by
   have:=HU.out
   rwa [List.take_of_length_le (by rw[HN.out];omega)] at this
  go_wp2;go_ret;exact⟨by rw[HR.out];rfl,(HW.out _ HB.out).1⟩
def TyS(S:Nat->Prop)(w:World)(T:Nat):Prop:=∀k cur ty,w.heap[k]? =some (.cells cur ty (0,0))->S k->ty=T
section
variable {S:Nat->Prop} {w w':World} {T:Nat}
theorem TyS.row(h:TyS S w T){base e size n:Nat}{v:Value}{xs:List Value}(hr:w.ownsRow base e size v n xs)(hne:e≠T):∀k,v.ownBlock=some k->¬S k:=fun k hk hs=>by obtain⟨cur,hc⟩:=Zg hr hk;exact hne (h k cur e hc hs)
theorem TyS.at(h:TyS S w T){k ty:Nat}{cur:Array Value}(hc:w.heap[k]? =some (.cells cur ty (0,0)))(hne:ty≠T):¬S k:=fun hs=>hne (h k cur ty hc hs)
theorem TyS.one{b ty:Nat}{cur:Array Value}(hb:w.heap[b]? =some (.cells cur ty (0,0))):TyS (fun k=>k=b) w ty:=fun k c t hk e=>by subst e;rw[hb] at hk;simp at hk;exact hk.2.symm
theorem TyS.own{base e size n:Nat}{v:Value}{xs:List Value}(hr:w.ownsRow base e size v n xs):TyS (fun k=>v.ownBlock=some k) w e:=fun k c t hk e1=>by obtain⟨cur,hc⟩:=Zg hr e1;rw[hc] at hk;simp at hk;exact hk.2.symm
theorem QG.touchT{base:Nat}{v:Value}{N:List Nat}{g:Nat}(h:QG w base v N g)(t:Za S w w')(hs:TyS S w T)(h1:403≠T)(h2:396≠T)(h3:405≠T)(h4:5≠T):QG w' base v N g:=by
 rcases h with⟨a1,p,e,sb,vc,e2,hb,hX⟩|⟨a1,p,e,db,q,e2,hb,hX⟩
 exact .inl ⟨a1,p,e,sb,vc,e2,hb,t.at_ hX.blk (hs.at hX.blk h1),t.row hX.row (hs.row hX.row h3)⟩;exact .inr ⟨a1,p,e,db,q,e2,hb,t.at_ hX.blk (hs.at hX.blk h2),t.row hX.row (hs.row hX.row h4)⟩
theorem Zb9.touchT{vB:Value}{vs:List (Value×Value)}{Bs:List BS}(h:Zb9 w vB vs Bs)(t:Za S w w')(hs:TyS S w T)(h1:403≠T)(h2:396≠T)(h3:405≠T)(h4:5≠T)(hr:∀k,vB.ownBlock=some k->¬S k)(hf:∀i,i<Bs.length->∀k,(vs.getD i vv0).1.ownBlock=some k->¬S k):Zb9 w' vB vs Bs:=
 ⟨t.row h.row hr,h.len,fun i hi=>⟨t.row (h.each i hi).1 (hf i hi),(h.each i hi).2.touchT t hs h1 h2 h3 h4⟩⟩
theorem Qy.touchT{vK:Value}{vs:List (Value×Value)}{Ks:List KS}(h:Qy w vK vs Ks)(t:Za S w w')(hs:TyS S w T)(h1:172≠T)(h2:9≠T)(hf:∀i,i<Ks.length->∀k,(vs.getD i vv0).1.ownBlock=some k->¬S k):Qy w' vK vs Ks:=
 ⟨t.row h.row (hs.row h.row h1),h.len,fun i hi=>⟨t.row (h.each i hi).1 (hf i hi),t.row (h.each i hi).2 (hs.row (h.each i hi).2 h2)⟩⟩
end
structure BdS(w wr:World)(db sb sg nk:Nat)(l:List Int)(vK vB:Value)(kvs:List (Value×Value))(Ks:List KS)(bvs:List (Value×Value))(bs:List BS)(st:List Int):Prop where
 blk:wr.heap[db]? =some (.cells #[vK,vB,.slice none 0 0] 168 (0,0))
 kn:Qy wr vK kvs Ks
 bn:Zb9 wr vB bvs bs
 src:ZI wr sb l
 so:Ze wr 0 (.slice (some ⟨sg,0,none⟩) nk nk) st
 sl:st.length=nk
 t:Za (fun k=>k=sb∨k=db) w wr
 nw:∀k,vB.ownBlock=some k->w.heap.size<=k
 sgl:w.heap.size<=sg
 sep:∀i,i<bs.length->(bvs.getD i vv0).1.ownBlock≠some sg
 sek:∀i,i<Ks.length->(kvs.getD i vv0).1.ownBlock≠some sg
section
variable {w wr w2:World} {db sb sg nk:Nat} {l l2:List Int} {vK vB:Value} {kvs:List (Value×Value)} {Ks:List KS} {bvs:List (Value×Value)} {bs:List BS} {st:List Int}
theorem BdS.step(h:BdS w wr db sb sg nk l vK vB kvs Ks bvs bs st)(hs:ZI w2 sb l2)(t:Za (fun k=>k=sb) wr w2):BdS w w2 db sb sg nk l2 vK vB kvs Ks bvs bs st:=by obtain⟨S,s1,_⟩:=h.src.ex;have ty:TyS (fun k=>k=sb) wr 180:=TyS.one s1;exact⟨t.at_ h.blk (ty.at h.blk (by decide)),h.kn.touchT t ty (by decide) (by decide) (fun i hi=>ty.row (h.kn.each i hi).1 (by decide)),h.bn.touchT t ty (by decide) (by decide) (by decide) (by decide) (ty.row h.bn.row (by decide)) (fun i hi=>ty.row (h.bn.each i hi).1 (by decide)),hs,t.row h.so (ty.row h.so (by decide)),h.sl,h.t.trans (t.mono (fun k _ e=>.inl e)),h.nw,h.sgl,h.sep,h.sek⟩
theorem BdS.below(h:BdS w wr db sb sg nk l vK vB kvs Ks bvs bs st)(hb:Below wr.heap.size wr w2):BdS w w2 db sb sg nk l vK vB kvs Ks bvs bs st:=h.step (h.src.below hb) (.of_below hb)
theorem BdS.put(h:BdS w wr db sb sg nk l vK vB kvs Ks bvs bs st)(k:Nat)(z:Int):BdS w (wr.setCell ⟨sg,k,none⟩ (.int .i64 z)) db sb sg nk l vK vB kvs Ks bvs bs (st.set k z):=by
 have t:Za (fun q=>q=sg) wr (wr.setCell ⟨sg,k,none⟩ (.int .i64 z)):=(Za.refl (fun q=>q=sg) wr).setCell (p:=⟨sg,k,none⟩) (fun _=>rfl) _;obtain⟨cur,hc⟩:=Zg h.so (k:=sg) rfl;have ty:TyS (fun q=>q=sg) wr 3:=TyS.one hc;obtain⟨S,s1,s2,s3⟩:=h.src.ex;refine⟨t.at_ h.blk (ty.at h.blk (by decide)),h.kn.touchT t ty (by decide) (by decide) (fun i hi q hq e=>h.sek i hi (by rw[hq,e])),h.bn.touchT t ty (by decide) (by decide) (by decide) (by decide) (ty.row h.bn.row (by decide)) (fun i hi q hq e=>h.sep i hi (by rw[hq,e])),⟨S,t.at_ s1 (ty.at s1 (by decide)),s2,s3⟩,(h.so.put (k:=k) h.sl.symm z).1,by rw[List.length_set];exact h.sl,h.t.setCell (p:=⟨sg,k,none⟩) (fun hq=>by have:=h.sgl;simp at hq;omega) _,h.nw,h.sgl,h.sep,h.sek⟩
theorem BdS.other{bb:Nat}{cur:Array Value}(h:BdS w wr db sb sg nk l vK vB kvs Ks bvs bs st)(hb:wr.heap[bb]? =some (.cells cur 163 (0,0)))(hne:vB.ownBlock≠some bb)(hwb:w.heap.size<=bb)(o:Nat)(v:Value):BdS w (wr.setCell ⟨bb,o,none⟩ v) db sb sg nk l vK vB kvs Ks bvs bs st:=by
 have t:Za (fun q=>q=bb) wr (wr.setCell ⟨bb,o,none⟩ v):=(Za.refl (fun q=>q=bb) wr).setCell (p:=⟨bb,o,none⟩) (fun _=>rfl) _;have ty:TyS (fun q=>q=bb) wr 163:=TyS.one hb;obtain⟨S,s1,s2,s3⟩:=h.src.ex;exact⟨t.at_ h.blk (ty.at h.blk (by decide)),h.kn.touchT t ty (by decide) (by decide) (fun i hi=>ty.row (h.kn.each i hi).1 (by decide)),h.bn.touchT t ty (by decide) (by decide) (by decide) (by decide) (fun q hq e=>hne (by rw[hq,e])) (fun i hi=>ty.row (h.bn.each i hi).1 (by decide)),⟨S,t.at_ s1 (ty.at s1 (by decide)),s2,s3⟩,t.row h.so (ty.row h.so (by decide)),h.sl,h.t.setCell (p:=⟨bb,o,none⟩) (fun hq=>by simp at hq;omega) _,h.nw,h.sgl,h.sep,h.sek⟩
theorem BdS.dk(h:BdS w wr db sb sg nk l vK vB kvs Ks bvs bs st):DkX wr db vK kvs Ks:=⟨cell_of_row _ _ 0 _ 168 (0,0) h.blk,(Qb h.blk).1,h.kn⟩
theorem BdS.c1(h:BdS w wr db sb sg nk l vK vB kvs Ks bvs bs st):wr.cell? ⟨db,1,none⟩=some vB:=cell_of_row _ _ 1 _ 168 (0,0) h.blk
theorem BdS.more{w3:World}{v6 vf vc:Value}{b:BS}(h:BdS w wr db sb sg nk l vK vB kvs Ks bvs bs st)(g:wr.grownBy w3 vB.ownBlock)(r:w3.ownsRow 0 163 2 v6 (bs.length+1) (Zaw bvs++[vf,vc]))(d:v6.ownBlock=vB.ownBlock∨v6.ownBlock=some wr.heap.size)(hf:Ze wr 0 vf (ZG b.fs))(hfs:vf.ownBlock≠some sg)(hc:QG wr 0 vc b.N b.g):BdS w (w3.setCell ⟨db,1,none⟩ v6) db sb sg nk l vK v6 kvs Ks (bvs++[(vf,vc)]) (bs++[b]) st:=by
 have t:Za (fun k=>vB.ownBlock=some k) wr w3:=(Za.refl _ wr).grown g (fun k hk _=>hk);have ty:TyS (fun k=>vB.ownBlock=some k) wr 163:=TyS.own h.bn.row;obtain⟨S,s1,s2,s3⟩:=h.src.ex;have blk3:=t.at_ h.blk (ty.at h.blk (by decide));have t7:Za (fun k=>k=db) w3 (w3.setCell ⟨db,1,none⟩ v6):=(Za.refl (fun k=>k=db) w3).setCell (p:=⟨db,1,none⟩) (fun _=>rfl) _;have ty7:TyS (fun k=>k=db) w3 168:=TyS.one blk3;have kn3:=h.kn.touchT t ty (by decide) (by decide) (fun i hi=>ty.row (h.kn.each i hi).1 (by decide));have so3:Ze w3 0 (.slice (some ⟨sg,0,none⟩) nk nk) st:=t.row h.so (ty.row h.so (by decide));have hf3:Ze w3 0 vf (ZG b.fs):=t.row hf (ty.row hf (by decide));have hc3:QG w3 0 vc b.N b.g:=hc.touchT t ty (by decide) (by decide) (by decide) (by decide)
 have bn3:Zb9 w3 v6 (bvs++[(vf,vc)]) (bs++[b]):=by
  refine⟨by rw[Qe,ZdN];exact r,by simp[h.bn.len],fun i hi=>?_⟩;rw[Qe] at hi;simp at hi
  by_cases hib:i<bs.length
  have e1:(bvs++[(vf,vc)]).getD i vv0=bvs.getD i vv0:=(by simp[List.getD,List.getElem?_append_left (show i<bvs.length by rw[h.bn.len];exact hib)]);have e2:(bs++[b]).getD i Z0=bs.getD i Z0:=(by simp[List.getD,List.getElem?_append_left hib]);rw[e1,e2];exact⟨t.row (h.bn.each i hib).1 (ty.row (h.bn.each i hib).1 (by decide)),(h.bn.each i hib).2.touchT t ty (by decide) (by decide) (by decide) (by decide)⟩;have ei:i=bs.length:=(by omega);subst ei;have e1:(bvs++[(vf,vc)]).getD bs.length vv0=(vf,vc):=(by simp[List.getD,h.bn.len.symm]);have e2:(bs++[b]).getD bs.length Z0=b:=(by simp[List.getD]);rw[e1,e2];exact⟨hf3,hc3⟩
 refine⟨?_,kn3.touchT t7 ty7 (by decide) (by decide) (fun i hi=>ty7.row (kn3.each i hi).1 (by decide)),bn3.touchT t7 ty7 (by decide) (by decide) (by decide) (by decide) (ty7.row bn3.row (by decide)) (fun i hi=>ty7.row (bn3.each i hi).1 (by decide)),⟨S,t7.at_ (t.at_ s1 (ty.at s1 (by decide))) (ty7.at (t.at_ s1 (ty.at s1 (by decide))) (by decide)),s2,s3⟩,t7.row so3 (ty7.row so3 (by decide)),h.sl,(h.t.grown g (fun k hk hkl=>absurd (h.nw k hk) (by omega))).setCell (p:=⟨db,1,none⟩) (fun _=>.inr rfl) _,fun k hk=>?_,h.sgl,fun i hi=>?_,h.sek⟩;rw[heap_setCell_same _ db 1 _ 168 _ blk3];rfl
 ·rcases d with e|e
  rw[e] at hk;exact h.nw k hk;rw[e] at hk;injection hk with hk;have:=h.t.size;omega
 rw[Qe] at hi;simp at hi
 by_cases hib:i<bs.length
 have e1:(bvs++[(vf,vc)]).getD i vv0=bvs.getD i vv0:=(by simp[List.getD,List.getElem?_append_left (show i<bvs.length by rw[h.bn.len];exact hib)]);rw[e1];exact h.sep i hib;have ei:i=bs.length:=(by omega);subst ei;have e1:(bvs++[(vf,vc)]).getD bs.length vv0=(vf,vc):=(by simp[List.getD,h.bn.len.symm]);rw[e1];exact hfs
end
def YA(fs st:List Int):Nat->List Int
 |0=>st
 |k+1=>(YA fs st k).set (fs.getD k 0).toNat ((YA fs st k).getD (fs.getD k 0).toNat 0+1)
theorem Zfi(fs st:List Int):∀k,(YA fs st k).length=st.length
 |0=>rfl
 |k+1=>by simp only[YA,List.length_set];exact Zfi fs st k
theorem Zhh{fs st:List Int}{M:Int}(h:∀z∈st,0<=z/\z<=M)(hM:0<=M):∀k:Nat,∀z∈YA fs st k,0<=z/\z<=M+k
 |0,z,hz=>by have:=h z hz;omega
 | k+1,z,hz=>by
  have ih:=Zhh (fs:=fs) h hM k;simp only[YA] at hz
  rcases List.mem_or_eq_of_mem_set hz with h1|h1
  have:=ih z h1;omega
  by_cases hl:(fs.getD k 0).toNat<(YA fs st k).length
  have:=ih ((YA fs st k).getD (fs.getD k 0).toNat 0) (by rw[Qc,Qd hl];exact Qf _);omega;rw[Qc,List.getElem?_eq_none (by omega)] at h1;simp at h1;omega
def atN(N:List Nat)(g:Nat):List Nat:=if 4*nzN N<N.length then N else N.map (· %2^Lib.bitLen g)
theorem Zl7(db m c base g:Nat)(a:Option Addr)(vK v:Value)(kvs:List (Value×Value))(Ks:List KS)(fs:List Int)(N:List Nat)(w:World)(hd:DkX w db vK kvs Ks)(h:Ze w base (.slice a m c) fs)(hm:fs.length=m)(hm2:m<=1000)(hin:∀f∈fs,0<=f/\f<Ks.length)(hc:∀K∈Ks,K.e.cnt<=16)(hN:N.length<=200)(hN2:∀x∈N,x<=255)(hg:g<64)(hv:QG w 0 v N g):Calls Tryz.prog 231 #[.pointer (some ⟨db,0,none⟩),.agg #[.slice a m c,v]] w fun e w'=>e=.returned (.bool (Yk Ks fs (atN N g)))/\Below w.heap.size w w':=by
 rcases hv with⟨a1,p,rfl,sp,vc,rfl,hb,hX⟩|⟨a1,p,rfl,dd,q,rfl,hb,hX⟩
 ·have hX':∀W,Below w.heap.size w W->Zgn W 0 sp N.length (Lib.bitLen g) vc (Yl N N.length):=fun W hW=>⟨(hW.block _ (Qb hX.blk).1).trans hX.blk,(Za.of_below (S:=fun _=>False) hW).row hX.row (fun _ _=>id)⟩;unfold atN;rw[if_pos a1]
  exact Zg4 db m c base sp 380 371 N.length (Lib.bitLen g) a vK kvs Ks fs N w hd h hm hm2 hin hc rfl hN hN2 (.inr ⟨rfl,rfl⟩) (fun W=>by kernel_rfl)
   (fun W hW=>ZiL sp W _ _ (cell_of_row _ _ 0 _ 403 (0,0) (hX' W hW).blk) (cell_of_row _ _ 1 _ 403 (0,0) (hX' W hW).blk))
   (fun W hW r hr=>ZeN sp _ _ r vc N W (hX' W hW) hr (by omega))
 have hb6:Lib.bitLen g<=6:=Zat hg;have hX':∀W,Below w.heap.size w W->Zan W 0 dd q N.length (Lib.bitLen g) (ZK (YG N (Lib.bitLen g)) ((N.length*Lib.bitLen g+7)/8) (N.length*Lib.bitLen g)):=fun W hW=>hX.below hW;have hmul2:N.length*Lib.bitLen g<=200*6:=Nat.mul_le_mul hN hb6;unfold atN;rw[if_neg a1]
 refine Zg4 db m c base dd 382 323 N.length (Lib.bitLen g) a vK kvs Ks fs (N.map (· %2^Lib.bitLen g)) w hd h hm hm2 hin hc (by simp) hN (fun x hx=>?_) (.inl ⟨rfl,rfl⟩) (fun W=>by kernel_rfl)
  (fun W hW=>ZiM dd W _ _ (cell_of_row _ _ 0 _ 396 (0,0) (hX' W hW).blk) (cell_of_row _ _ 1 _ 396 (0,0) (hX' W hW).blk))
  (fun W hW r hr=>?_)
 obtain⟨y,hy,rfl⟩:=List.mem_map.1 hx;exact Nat.le_trans (Nat.mod_le _ _) (hN2 y hy);have hmul:r*Lib.bitLen g+Lib.bitLen g<=N.length*Lib.bitLen g:=(by rw[<- Nat.succ_mul];exact Nat.mul_le_mul_right _ hr);have h1:=Zbx dd q _ _ _ _ r _ W (hX' W hW) (fun t=>ZbY _ _ t) hb6 hmul (by omega) (by omega);rw[ZcV (N.getD r 0) (r*Lib.bitLen g) (Lib.bitLen g) (fun i hi=>Zem N hi)] at h1;have e:(N.map (· %2^Lib.bitLen g)).getD r 0=N.getD r 0%2^Lib.bitLen g:=(by rw[Qc,Qc,List.getElem?_map,Qd hr];rfl);rw[e];exact h1
def bdK(Ks:List KS)(n:Nat)(l:List Int):Nat->Option (List BS×List Int×List Int)
 |0=>some ([],List.replicate Ks.length 0,l)
 | k+1=>match bdK Ks n l k with
  |none=>none
  |some (bs,st,r)=>if(Zea Ks (lstK r)&&Yk Ks (lstK r) (atN (Qw (lstR r) n (Yg Ks (lstK r))) (Yg Ks (lstK r))))=true then some (bs++[⟨(lstK r).map Int.toNat,Qw (lstR r) n (Yg Ks (lstK r)),Yg Ks (lstK r)⟩],YA (lstK r) st (lstK r).length,rdColR (lstR r) n (Yg Ks (lstK r))) else none
theorem Zpw (Ks:List KS) (n:Nat) (l:List Int) {k m:Nat} (h:bdK Ks n l k=none) (hk:k<=m):bdK Ks n l m=none:=by
  induction m with
  | zero => have:k=0:=by omega
            rw[<- this];exact h
  | succ m ih=>
    by_cases e:k=m+1
    rw[<- e];exact h;simp only[bdK,ih (by omega)]
structure BbX(w:World)(bb:Nat)(vf vc:Value):Prop where
 blk:w.heap[bb]? =some (.cells #[vf,vc] 163 (0,0))
section
variable {w w2:World} {bb sb sg:Nat} {vf vc:Value}
theorem BbX.c0(h:BbX w bb vf vc):w.cell? ⟨bb,0,none⟩=some vf:=cell_of_row _ _ 0 _ 163 (0,0) h.blk
theorem BbX.c1(h:BbX w bb vf vc):w.cell? ⟨bb,1,none⟩=some vc:=cell_of_row _ _ 1 _ 163 (0,0) h.blk
theorem BbX.below(h:BbX w bb vf vc)(hb:Below w.heap.size w w2):BbX w2 bb vf vc:=⟨(hb.block _ (Qb h.blk).1).trans h.blk⟩
theorem BbX.touch{S:Nat->Prop}{T:Nat}(h:BbX w bb vf vc)(t:Za S w w2)(ty:TyS S w T)(hT:163≠T):BbX w2 bb vf vc:=⟨t.at_ h.blk (ty.at h.blk hT)⟩
end
theorem Znt{l:List Int}(h:∀x∈l,0<=x):ZG (l.map Int.toNat)=l:=by
 unfold ZG;rw[List.map_map]
 conv=>rhs;rw[<- List.map_id l]
 refine List.map_congr_left fun x hx=>?_;have:=h x hx;show((x.toNat:Nat):Int)=x;omega
def BdE(w w':World)(db sb:Nat)(vK:Value)(kvs:List (Value×Value))(Ks:List KS)(o:Option (List BS×List Int×List Int))(e:Ending):Prop:=match o with
 |none=>e=.returned (.bool false)/\Za (fun k=>k=sb∨k=db) w w'
 |some (bs,st,r)=>e=.returned (.bool (Ys st))/\∃vB bvs,BdS w w' db sb w.heap.size Ks.length r vK vB kvs Ks bvs bs st
theorem ZfX(db sb n:Nat)(l:List Int)(vK:Value)(kvs:List (Value×Value))(Ks:List KS)(w:World)(h:ZI w sb l)(hd:w.heap[db]? =some (.cells #[vK,.slice none 0 0,.slice none 0 0] 168 (0,0)))(hk:Qy w vK kvs Ks)(hkl:Ks.length<=1000)(hc:∀K∈Ks,K.e.cnt<=16)(hn:n<=200):Calls Tryz.prog 167 #[.pointer (some ⟨db,0,none⟩),.pointer (some ⟨sb,0,none⟩),.int .i64 (n:Nat)] w fun e w'=>BdE w w' db sb vK kvs Ks (bdK Ks n l.tail (l.headD 0).toNat) e:=by
 have hb0:=Qm h.byte 0;have hh:l.headD 0=l.getD 0 0:=(by have:=ZP l 0;rwa [List.drop_zero] at this);obtain⟨m,hm⟩:∃m:Nat,l.headD 0=(m:Int):=⟨(l.headD 0).toNat,by omega⟩;have hm2:m<=255:=(by omega);rw[show(l.headD 0).toNat=m by omega];have hmk:=ZaA Ks.length (by omega);obtain⟨w1,hw1⟩:∃w1,w1=w.alloc (.cells (madeCells #[.int .i64 0] Ks.length) 3):=⟨_,rfl⟩;have hO1:Ze w1 w.heap.size (.slice (some ⟨w.heap.size,0,none⟩) Ks.length Ks.length) (List.replicate Ks.length 0):=(by rw[hw1];exact Zaz Ks.length w w.heap.size (by omega) (Qa _));have hb1:Below w.heap.size w w1:=by rw[hw1];exact(Below.refl _ _).alloc (Qa _) _
 have h165:Calls Tryz.prog 165 #[.pointer (some ⟨sb,0,none⟩)] w1 fun e w'=>e=.returned (.int .i64 (m:Int))/\ZI w' sb l.tail/\Za (fun k=>k=sb) w1 w':=(by rw[<- hm];exact YE sb l w1 (h.below hb1));have HS1:Hid (BdS w w1 db sb w.heap.size Ks.length l vK (.slice none 0 0) kvs Ks [] [] (List.replicate Ks.length 0)):=by refine⟨(hb1.block _ (Qb hd).1).trans hd,hk.below hb1,⟨World.ownsRow_nil _ _ _ _,rfl,by simp⟩,h.below hb1,hO1.mono (Qg _),by simp,.of_below hb1,by simp[Value.ownBlock],Qa _,by simp,fun i hi e=>?_⟩;have:=(World.ownsRow.lt (hk.each i hi).1 _ e).2;omega
 have HC:Hid (∀K∈Ks,K.e.cnt<=16):=hc;have hsl:=h.lt;obtain⟨ka,kc,hvk⟩:=hk.form;have d0:w.cell? ⟨db,0,none⟩=some (.slice ka Ks.length kc):=(by rw[<- hvk];exact cell_of_row _ _ 0 _ 168 (0,0) hd);obtain⟨l1,hl1⟩:∃l1,l.tail=l1:=⟨_,rfl⟩;rw[hl1] at h165 ⊢;have HLI:Hid (∀(W:World) (l:List Int),ZI W sb l->Calls Tryz.prog 227 #[.pointer (some ⟨sb,0,none⟩)] W fun e w'=>∃v,e=.returned v/\Ze w' W.heap.size v (lstK l)/\ZI w' sb (lstR l)/\Za (fun k=>k=sb) W w'):=fun W l hS=>Zjv sb l W hS;obtain⟨j0,jinf,jz0,jz1,jz2⟩:=info_parts Zni;obtain⟨kl,hkk⟩:∃kl,kl=Ks.length:=⟨_,rfl⟩;have HKL:Hid (Ks.length=kl):=hkk.symm;rw[<- hkk] at hmk HS1 d0 hkl hw1;clear h hd hk hc hb0 hh hm hl1 hO1 hb1 hvk hkk;go_enter Tryz.func167,Tryz.ntmps167;go_wp2_with fail
 rw[<- hw1];refine h165.mono ?_;clear h165;rintro e w2 ⟨rfl,hs2,ht2⟩;have HS2:Hid (BdS w w2 db sb w.heap.size kl l1 vK (.slice none 0 0) kvs Ks [] [] (List.replicate kl 0)):=HS1.out.step hs2 ht2;clear hs2 ht2 HS1 hmk hw1 d0;go_wp2_with fail
 go_loopw [19] (fun ti wr=>∃(i:Nat) (bs:List BS) (st r:List Int) (vB:Value) (bvs:List (Value×Value)),ti=.int .i64 i/\i<=m/\bs.length<=i/\Hid (bdK Ks n l1 i=some (bs,st,r))/\Hid (∀z∈st,0<=z/\z<=256*(i:Int))/\Hid (BdS w wr db sb w.heap.size kl r vK vB kvs Ks bvs bs st)) (fun ti _=>m-(intOf ti).toNat)
 case atStart=>exact⟨0,[],_,l1,_,_,rfl,Qg _,Qa _,by show _=_;rw[<- HKL.out];rfl,fun z hz=>by rw[List.eq_of_mem_replicate hz];omega,HS2.out⟩
 case round=>
  clear HS2;obtain⟨i,bs,st,r,vB,bvs,rfl,hi,hbl,HBK,HST,HBD⟩:=hrel
  by_cases him:i<m
  ·have bi:(i:Int)<(m:Int):=(by omega);have hrb:=HBD.out.src.byte;have hlk:(lstK r).length<=255/\∀f∈lstK r,0<=f:=by have h0:=Qm hrb 0;have h1:r.headD 0=r.getD 0 0:=(by have:=ZP r 0;rwa [List.drop_zero] at this);refine⟨by unfold lstK;rw[List.length_map,List.length_range];omega,fun f hf=>?_⟩;obtain⟨j,_,rfl⟩:=List.mem_map.1 hf;exact(Qm (fun x hx=>hrb x (List.mem_of_mem_tail hx)) j).1
   have HLK:Hid (∀f∈lstK r,0<=f):=hlk.2;have hll:=hlk.1;have HNX:Hid (bdK Ks n l1 (i+1)=if(Zea Ks (lstK r)&&Yk Ks (lstK r) (atN (Qw (lstR r) n (Yg Ks (lstK r))) (Yg Ks (lstK r))))=true then some (bs++[⟨(lstK r).map Int.toNat,Qw (lstR r) n (Yg Ks (lstK r)),Yg Ks (lstK r)⟩],YA (lstK r) st (lstK r).length,rdColR (lstR r) n (Yg Ks (lstK r))) else none):=(by show _=_;simp only[bdK,HBK.out]);have HNO:Hid (bdK Ks n l1 (i+1)=none->bdK Ks n l1 m=none):=fun hx=>Zpw Ks n l1 hx (by omega);clear hrb hlk HBK;go_wp2_with fail
   refine(HLI.out _ _ HBD.out.src).mono ?_;rintro e w3 ⟨vf,rfl,hof,hs3,ht3⟩;obtain⟨fa,fc,rfl⟩:=hof.shape;obtain⟨nf,hnf⟩:∃nf,(lstK r).length=nf:=⟨_,rfl⟩;rw[hnf] at hof hll ⊢;have HNF:Hid ((lstK r).length=nf):=hnf;have HB3:Hid (BdS w w3 db sb w.heap.size kl (lstR r) vK vB kvs Ks bvs bs st):=HBD.out.step hs3 ht3
   have HSEP:Hid ((Value.slice fa nf fc).ownBlock≠some w.heap.size):=fun e=>by have h1:=(World.ownsRow.lt hof _ e).1;have h2:=(World.ownsRow.lt HBD.out.so w.heap.size rfl).2;omega
   have HF3:Hid (Ze w3 0 (.slice fa nf fc) (lstK r)):=hof.mono (Qg _);clear hof hs3 ht3 HBD hnf;go_upto_region 5 with fail;obtain⟨bb,hbb⟩:∃bb,bb=w3.heap.size:=⟨_,rfl⟩;rw[<- hbb];generalize hW4:w3.alloc (.cells #[.slice fa nf fc,.nilIface] 163)=w4;have hb4:Below w3.heap.size w3 w4:=(by rw[<- hW4];exact(Below.refl _ _).alloc (Qa _) _);have HBB:Hid (vB.ownBlock≠some bb/\w.heap.size<=bb):=⟨fun e=>by have:=(World.ownsRow.lt HB3.out.bn.row bb e).2;omega,by have:=HB3.out.t.size;omega⟩;have HB4:Hid (BdS w w4 db sb w.heap.size kl (lstR r) vK vB kvs Ks bvs bs st):=HB3.out.below hb4;have HF4:Hid (Ze w4 0 (.slice fa nf fc) (lstK r)):=HF3.out.below hb4;have HX4:Hid (BbX w4 bb (.slice fa nf fc) .nilIface):=⟨by rw[<- hW4,hbb];exact heap_alloc_new _ _⟩;clear hb4 hW4 hbb HB3 HF3
   have hL:=Zl9 db nf fc 0 fa vK kvs Ks (lstK r) w4 HB4.out.dk HF4.out HNF.out (by omega) HLK.out HC.out;have x0:=HX4.out.c0;go_wp2_with fail
   refine hL.mono ?_;clear hL;rintro e w5 ⟨rfl,hb5⟩;have HB5:Hid (BdS w w5 db sb w.heap.size kl (lstR r) vK vB kvs Ks bvs bs st):=HB4.out.below hb5;have HF5:Hid (Ze w5 0 (.slice fa nf fc) (lstK r)):=HF4.out.below hb5;have HX5:Hid (BbX w5 bb (.slice fa nf fc) .nilIface):=HX4.out.below hb5;clear hb5 HB4 HF4 HX4 x0
   cases hlb:Zea Ks (lstK r) with
   | false=>
    have HE:Hid (bdK Ks n l1 m=none):=HNO.out (by rw[HNX.out,hlb];simp);have HT:Hid (Za (fun k=>k=sb∨k=db) w w5):=HB5.out.t;clear HNX HNO HB5 HF5 HX5 hlb;go_wp2;go_ret;show BdE _ _ _ _ _ _ _ (bdK Ks n l1 m) _;rw[HE.out];exact⟨rfl,HT.out⟩
   | true=>
    have hlp:(∀f∈lstK r,0<=f/\f<Ks.length)/\Yg Ks (lstK r)<=40:=(by unfold Zea at hlb;simp only[Bool.and_eq_true,List.all_eq_true,decide_eq_true_eq] at hlb;exact⟨fun f hf=>⟨HLK.out f hf,hlb.1 f hf⟩,hlb.2.2⟩);have HIN:Hid (∀f∈lstK r,0<=f/\f<Ks.length):=hlp.1;have hg40:=hlp.2;rw[hlb] at HNX;clear hlb hlp;obtain⟨g,hg⟩:∃g,Yg Ks (lstK r)=g:=⟨_,rfl⟩;rw[hg] at HNX hg40;have HG:Hid (Yg Ks (lstK r)=g):=hg;clear hg;have x0:=HX5.out.c0;go_wp2_with fail
    clear x0;go_loopw [32] (fun ti wr=>∃(k:Nat),ti=.int .i64 k/\k<=nf/\Hid (BdS w wr db sb w.heap.size kl (lstR r) vK vB kvs Ks bvs bs (YA (lstK r) st k))/\Hid (Ze wr 0 (.slice fa nf fc) (lstK r))/\Hid (BbX wr bb (.slice fa nf fc) .nilIface)) (fun ti _=>nf-(intOf ti).toNat)
    case atStart=>exact⟨0,rfl,Qg _,HB5.out,HF5,HX5⟩
    case round=>
     clear HB5 HF5 HX5;obtain⟨k,rfl,hk,HB6,HF6,HX6⟩:=hrel
     by_cases hkn:k<nf
     ·have hlt:k<(lstK r).length:=(by rw[HNF.out];exact hkn);obtain⟨q,hq,_,_,y0,_⟩:=HF6.out.atK HNF.out hkn;subst hq;have hmem:(lstK r).getD k 0∈lstK r:=(by rw[Qc,Qd hlt];exact Qf _);have hf:=HIN.out _ hmem;rw[HKL.out] at hf;obtain⟨f,hfe⟩:∃f:Nat,(lstK r).getD k 0=(f:Int):=⟨((lstK r).getD k 0).toNat,by omega⟩;have hsk:YA (lstK r) st (k+1)=(YA (lstK r) st k).set f ((YA (lstK r) st k).getD f 0+1):=by show(YA (lstK r) st k).set ((lstK r).getD k 0).toNat _=_;rw[hfe,Int.toNat_natCast]
      rw[hfe] at y0 hf;have hfl:f<kl:=(by omega);have hsl2:=HB6.out.sl;obtain⟨y1,y2⟩:=HB6.out.so.cellK hsl2.symm hfl;have hzz:=Zhh (fs:=lstK r) HST.out (by omega) k ((YA (lstK r) st k).getD f 0) (by rw[Qc,Qd (by omega)];exact Qf _);have HB7:Hid (BdS w (wr.setCell ⟨w.heap.size,f,none⟩ (.int .i64 ((YA (lstK r) st k).getD f 0+1))) db sb w.heap.size kl (lstR r) vK vB kvs Ks bvs bs (YA (lstK r) st (k+1))):=by rw[hsk];exact HB6.out.put f _
      have t7:Za (fun x=>x=w.heap.size) wr (wr.setCell ⟨w.heap.size,f,none⟩ (.int .i64 ((YA (lstK r) st k).getD f 0+1))):=(Za.refl (fun x=>x=w.heap.size) wr).setCell (p:=⟨w.heap.size,f,none⟩) (fun _=>rfl) _;have HF7:Hid (Ze (wr.setCell ⟨w.heap.size,f,none⟩ (.int .i64 ((YA (lstK r) st k).getD f 0+1))) 0 (.slice (some ⟨q,0,none⟩) nf fc) (lstK r)):=t7.row HF6.out (fun x hx e=>HSEP.out (by rw[hx,e]));have HX7:Hid (BbX (wr.setCell ⟨w.heap.size,f,none⟩ (.int .i64 ((YA (lstK r) st k).getD f 0+1))) bb (.slice (some ⟨q,0,none⟩) nf fc) .nilIface):=by obtain⟨cur,hcu⟩:=Zg HB6.out.so (k:=w.heap.size) rfl;exact HX6.out.touch t7 (TyS.one hcu) (by decide)
      have b1:(0:Int)<=(k:Int):=(by omega);have b2:(k:Int)<(nf:Int):=(by omega);have b3:(0:Int)<=(f:Int):=(by omega);have b4:(f:Int)<(kl:Int):=(by omega);clear hmem hfe hsk t7 HB6 HF6 HX6 hlt hsl2;generalize (YA (lstK r) st k).getD f 0=z at *;have q1:IntKind.i64.wrap (z+1)=z+1:=Zz (by omega) (by omega);go_wp2;go_roundw;case rel=>exact⟨k+1,by go_num,by omega,HB7,HF7,HX7⟩
      case measure=>simp[intOf];omega
     have hnk:¬(k:Int)<(nf:Int):=(by omega);have hkk:k=nf:=(by omega);subst hkk;have hBi:=Zgr db k fc 0 fa vK kvs Ks (lstK r) wr HB6.out.dk HF6.out HNF.out (by omega) HIN.out HC.out;rw[HG.out] at hBi;have x0:=HX6.out.c0;have hll2:(lstK r).length=k:=HNF.out;go_wp2_with fail
     refine hBi.mono ?_;clear hBi;rintro e w7 ⟨rfl,hb7⟩;have HB7:Hid (BdS w w7 db sb w.heap.size kl (lstR r) vK vB kvs Ks bvs bs (YA (lstK r) st k)):=HB6.out.below hb7;have HF7:Hid (Ze w7 0 (.slice fa k fc) (lstK r)):=HF6.out.below hb7;have HX7:Hid (BbX w7 bb (.slice fa k fc) .nilIface):=HX6.out.below hb7;have hCR:=Zj6 sb n g (lstR r) w7 HB7.out.src hn (by omega);have HRB:Hid (∀x∈lstR r,0<=x/\x<=255):=HB7.out.src.byte;clear hb7 HB6 HF6 HX6 x0;go_wp2_with fail
     refine hCR.mono ?_;clear hCR;rintro e w8 ⟨v,rfl,hcv,hs8,ht8⟩;obtain⟨ct,cp,hv⟩:=hcv.iface;subst hv;have HB8:Hid (BdS w w8 db sb w.heap.size kl (rdColR (lstR r) n g) vK vB kvs Ks bvs bs (YA (lstK r) st k)):=HB7.out.step hs8 ht8;obtain⟨SS,s1,_⟩:=HB7.out.src.ex;have ty8:TyS (fun x=>x=sb) w7 180:=TyS.one s1;have HF8:Hid (Ze w8 0 (.slice fa k fc) (lstK r)):=ht8.row HF7.out (ty8.row HF7.out (by decide));have HX8:Hid (BbX w8 bb (.slice fa k fc) .nilIface):=HX7.out.touch ht8 ty8 (by decide);have x1:=HX8.out.c1;have f1:w8.frozen? ⟨bb,1,none⟩=false:=frozen_of_row _ _ 1 _ 163 HX8.out.blk;have t9:Za (fun x=>x=bb) w8 (w8.setCell ⟨bb,1,none⟩ (.iface ct (.pointer (some ⟨cp,0,none⟩)))):=(Za.refl (fun x=>x=bb) w8).setCell (p:=⟨bb,1,none⟩) (fun _=>rfl) _
     have ty9:TyS (fun x=>x=bb) w8 163:=TyS.one HX8.out.blk;have HB9:Hid (BdS w (w8.setCell ⟨bb,1,none⟩ (.iface ct (.pointer (some ⟨cp,0,none⟩)))) db sb w.heap.size kl (rdColR (lstR r) n g) vK vB kvs Ks bvs bs (YA (lstK r) st k)):=HB8.out.other HX8.out.blk HBB.out.1 HBB.out.2 1 _;have HF9:Hid (Ze (w8.setCell ⟨bb,1,none⟩ (.iface ct (.pointer (some ⟨cp,0,none⟩)))) 0 (.slice fa k fc) (lstK r)):=t9.row HF8.out (ty9.row HF8.out (by decide));have HX9:Hid (BbX (w8.setCell ⟨bb,1,none⟩ (.iface ct (.pointer (some ⟨cp,0,none⟩)))) bb (.slice fa k fc) (.iface ct (.pointer (some ⟨cp,0,none⟩)))):=⟨by rw[heap_setCell_same _ bb 1 _ 163 _ HX8.out.blk];rfl⟩
     have HCO9:Hid (QG (w8.setCell ⟨bb,1,none⟩ (.iface ct (.pointer (some ⟨cp,0,none⟩)))) 0 (.iface ct (.pointer (some ⟨cp,0,none⟩))) (Qw (lstR r) n g) g):=hcv.touchT t9 ty9 (by decide) (by decide) (by decide) (by decide);clear hs8 ht8 hcv HB7 HF7 HX7 HB8 HF8 t9 ty9 ty8 s1;go_upto_region 13 with fail;clear HX8 x1 f1;generalize w8.setCell ⟨bb,1,none⟩ (.iface ct (.pointer (some ⟨cp,0,none⟩)))=w9 at *
     have hMC:=Zl7 db k fc 0 g fa vK (.iface ct (.pointer (some ⟨cp,0,none⟩))) kvs Ks (lstK r) (Qw (lstR r) n g) w9 HB9.out.dk HF9.out HNF.out (by omega) HIN.out HC.out (by rw[Zff HRB.out n (by omega)];exact hn) (fun x hx=>by
      unfold Qw at hx;obtain⟨y,hy,rfl⟩:=List.mem_map.1 hx;have:=(Zdo HRB.out n (show g<64 by omega)).2 y hy
      omega) (by omega) HCO9.out
     have x0:=HX9.out.c0;have x1:=HX9.out.c1;go_wp2_with fail
     refine hMC.mono ?_;clear hMC;rintro e w10 ⟨rfl,hb10⟩;have HB10:Hid (BdS w w10 db sb w.heap.size kl (rdColR (lstR r) n g) vK vB kvs Ks bvs bs (YA (lstK r) st k)):=HB9.out.below hb10;have HF10:Hid (Ze w10 0 (.slice fa k fc) (lstK r)):=HF9.out.below hb10;have HX10:Hid (BbX w10 bb (.slice fa k fc) (.iface ct (.pointer (some ⟨cp,0,none⟩)))):=HX9.out.below hb10;have HCO10:Hid (QG w10 0 (.iface ct (.pointer (some ⟨cp,0,none⟩))) (Qw (lstR r) n g) g):=HCO9.out.below hb10;clear hb10 HB9 HF9 HX9 HCO9 x0 x1;generalize Yk Ks (lstK r) (atN (Qw (lstR r) n g) g)=mc at *
     cases mc with
     | false=>
      have HE:Hid (bdK Ks n l1 m=none):=HNO.out (by rw[HNX.out];simp);have HT:Hid (Za (fun k=>k=sb∨k=db) w w10):=HB10.out.t;clear HNX HNO HB10 HF10 HX10 HCO10;go_wp2;go_ret;show BdE _ _ _ _ _ _ _ (bdK Ks n l1 m) _;rw[HE.out];exact⟨rfl,HT.out⟩
     |true=>
     have HE:Hid (bdK Ks n l1 (i+1)=some (bs++[⟨(lstK r).map Int.toNat,Qw (lstR r) n g,g⟩],YA (lstK r) st k,rdColR (lstR r) n g)):=by show _=_;rw[HNX.out,hll2];rfl
     have HST2:Hid (∀z∈YA (lstK r) st k,0<=z/\z<=256*((i+1:Nat):Int)):=fun z hz=>by have:=Zhh (fs:=lstK r) HST.out (by omega) k z hz;omega
     clear HNX HNO HST hll2;obtain⟨ba,bc,hvB⟩:=HB10.out.bn.form;subst hvB;have d1:=HB10.out.c1;have x0:=HX10.out.c0;have x1:=HX10.out.c1;go_upto_region 15 with fail;refine Zo (fun w'=>w'.cell? ⟨db,1,none⟩=some (.slice ba bs.length bc)/\w'.cell? ⟨bb,0,none⟩=some (.slice fa k fc)/\w'.cell? ⟨bb,1,none⟩=some (.iface ct (.pointer (some ⟨cp,0,none⟩)))) 10 (by kernel_rfl) ⟨d1,x0,x1⟩ (fun hHeld=>?_);refine Zm 0 ?_;refine Zm 1 ?_;refine Zm 2 ?_;refine Zm 3 ?_;refine Zm 4 ?_;refine Zm 5 ?_;refine Zc (i:=6) (by kernel_rfl) rfl (fun KK hK=>?_);go_simp
     have HB11:Hid (∀o,BdS w (w10.alloc o) db sb w.heap.size kl (rdColR (lstR r) n g) vK (.slice ba bs.length bc) kvs Ks bvs bs (YA (lstK r) st k)/\BbX (w10.alloc o) bb (.slice fa k fc) (.iface ct (.pointer (some ⟨cp,0,none⟩)))):=fun o=>⟨HB10.out.below ((Below.refl _ _).alloc (Qa _) _),HX10.out.below ((Below.refl _ _).alloc (Qa _) _)⟩;refine hK.out _ _ ⟨(HB11.out _).1.c1,(HB11.out _).2.c0,(HB11.out _).2.c1⟩ (fun hHeld=>?_);clear hK KK;try simp only[Act.put,tA,tB,tC]
     refine Zc (i:=7) (by kernel_rfl) rfl (fun KK hK=>?_);have hB11:=(HB11.out (.cells #[.slice fa k fc,.iface ct (.pointer (some ⟨cp,0,none⟩))] 163)).1.below (Below.refl _ _).drew;refine Zv rfl (.tmp 60) (.tmp 62) 165 rfl 0 163 j0 (.agg #[.slice none 0 0,.nilIface]) 2 40 Tryz.underlying165 jinf jz0 jz1 jz2 rfl (by decide) (.slice ba bs.length bc) bs.length (Zaw bvs) (by simp[Act.eval]) hB11.bn.row ⟨w10.heap.size,0,none⟩ 1 1 [.slice fa k fc,.iface ct (.pointer (some ⟨cp,0,none⟩))] (by simp[Act.eval]) rfl ?_ ?_ (by decide) (by unfold maxLen;omega) (by omega) (Qg _) ?_;exact Zu w10 #[.slice fa k fc,.iface ct (.pointer (some ⟨cp,0,none⟩))] 163
     ·intro u hu;simp at hu;rcases hu with rfl|rfl<;>rfl
     intro v6 w6 H6;obtain⟨r6,g6,d6,_,q6,p6,hv6⟩:=H6.out;have hf11:Ze (w10.alloc (.cells #[.slice fa k fc,.iface ct (.pointer (some ⟨cp,0,none⟩))] 163)).drew 0 (.slice fa k fc) (ZG ((lstK r).map Int.toNat)):=(by rw[Znt HLK.out];exact(HF10.out.alloc _).below (Below.refl _ _).drew);have hc11:QG (w10.alloc (.cells #[.slice fa k fc,.iface ct (.pointer (some ⟨cp,0,none⟩))] 163)).drew 0 (.iface ct (.pointer (some ⟨cp,0,none⟩))) (Qw (lstR r) n g) g:=(HCO10.out.below ((Below.refl _ _).alloc (Qa _) _)).below (Below.refl _ _).drew
     have HBN:Hid (BdS w (w6.setCell ⟨db,1,none⟩ v6) db sb w.heap.size kl (rdColR (lstR r) n g) vK v6 kvs Ks (bvs++[(.slice fa k fc,.iface ct (.pointer (some ⟨cp,0,none⟩)))]) (bs++[⟨(lstK r).map Int.toNat,Qw (lstR r) n g,g⟩]) (YA (lstK r) st k)):=hB11.more (b:=⟨(lstK r).map Int.toNat,Qw (lstR r) n g,g⟩) g6 r6 (by
      rcases d6 with e|e
      exact .inl e
      exact .inr e.1) hf11 HSEP.out hc11
     have t6:Za (fun x=>(Value.slice ba bs.length bc).ownBlock=some x) (w10.alloc (.cells #[.slice fa k fc,.iface ct (.pointer (some ⟨cp,0,none⟩))] 163)).drew w6:=(Za.refl _ _).grown g6 (fun x hx _=>hx);have hblk6:=t6.at_ hB11.blk ((TyS.own hB11.bn.row).at hB11.blk (by decide));have c6:w6.cell? ⟨db,1,none⟩=some (.slice ba bs.length bc):=cell_of_row _ _ 1 _ 168 (0,0) hblk6;have f6:w6.frozen? ⟨db,1,none⟩=false:=frozen_of_row _ _ 1 _ 168 hblk6;have hX6:BbX w6 bb (.slice fa k fc) (.iface ct (.pointer (some ⟨cp,0,none⟩))):=⟨t6.at_ ((HB11.out _).2.below (Below.refl _ _).drew).blk HBB.out.1⟩;have s0:=hX6.c0;have s1:=hX6.c1;subst hv6;clear H6 r6 g6 d6 hB11 hf11 hc11 t6 hblk6 hX6 HB11 HB10 HX10 HF10 HCO10;refine hK.out _ _ ⟨c6,s0,s1⟩ (fun hHeld=>?_);clear hK KK;try simp only[Act.put,tA,tB,tC]
     refine Zm 8 ?_;refine Zm 9 ?_;refine Zh (i:=10) (by kernel_rfl) rfl (by kernel_rfl) (fun KK hK=>?_);go_simp;refine hK.out _ _ ?_;clear hK KK;try simp only[Act.put,tA,tB,tC]
     refine Zj (by kernel_rfl) ?_ _;go_wp2;go_roundw;case rel=>exact⟨i+1,_,_,_,_,_,by go_num,by omega,by simp;omega,HE,HST2,HBN⟩
     case measure=>simp[intOf];omega
  have hni:¬(i:Int)<(m:Int):=(by omega);have hii:i=m:=(by omega);subst hii;have hA:=Zlq _ kl kl 0 st wr HBD.out.so HBD.out.sl (by omega);go_wp2_with fail
  refine hA.mono ?_;clear hA;rintro e w9 ⟨rfl,hw9⟩;obtain rfl:=hw9.symm;go_wp2;go_ret;show BdE _ _ _ _ _ _ _ (bdK Ks n l1 i) _;rw[HBK.out];refine⟨rfl,vB,bvs,?_⟩;have:=HBD.out;rw[<- HKL.out] at this;exact this
theorem Zr0:Zpm lwF:=by
 intro va wa n vcap wcap k1 k2 ct bins L ws w hv hw hL hn hz hwd c1 c2 l1 l2 hb1 hb2;have HC:Hid (∀W:World,Below w.heap.size w W->Calls Tryz.prog 211 #[.slice va n vcap,.slice wa n wcap,.int .i64 ct,.int .i64 bins] W fun e w'=>∃v,e=.returned v/\Zdv w' W.heap.size v (lwF L ws ct bins)/\Below W.heap.size W w'):=fun W hW=>ZgZ va wa n vcap wcap ct bins L ws W ((Za.of_below (S:=fun _=>False) hW).row hv (fun _ _=>id)) (hw.below hW) hL hn hz hwd hb1 hb2;have e1:(w.alloc (.cells #[.bool false,.slice none 0 0,.slice none 0 0] 170)).cell? ⟨k1,0,none⟩=some (.int .i64 ct):=(((Below.refl _ _).alloc (Qa _) _).cell (p:=⟨k1,0,none⟩) l1).trans c1
 have e2:(w.alloc (.cells #[.bool false,.slice none 0 0,.slice none 0 0] 170)).cell? ⟨k2,0,none⟩=some (.int .i64 bins):=(((Below.refl _ _).alloc (Qa _) _).cell (p:=⟨k2,0,none⟩) l2).trans c2;have HWD:Hid ((lwF L ws ct bins).wd=true/\(lwF L ws ct bins).bs=[]):=⟨rfl,rfl⟩;clear hv hw hL hn hz hwd hb1 hb2;go_enter Tryz.func210,Tryz.ntmps210;go_wp2_with fail
 refine(HC.out _ ((Below.refl _ _).alloc (Qa _) _)).mono ?_;rintro e w2 ⟨v,rfl,⟨vb,vw,hv,hEb,hE⟩,hb⟩;rw[HWD.out.1] at hv;rw[HWD.out.2] at hEb;obtain⟨ab,cb,rfl⟩:=hEb.shape;obtain⟨av,cv,hav⟩:=hE.shapeW;subst hav;subst hv;have hblk:w2.heap[w.heap.size]? =some (.cells #[.bool false,.slice none 0 0,.slice none 0 0] 170 (0,0)):=(hb.block _ (by simp)).trans (heap_alloc_new _ _);have d0:w2.cell? ⟨w.heap.size,0,none⟩=some (.bool false):=cell_of_row _ _ 0 _ 170 (0,0) hblk;have d1:w2.cell? ⟨w.heap.size,1,none⟩=some (.slice none 0 0):=cell_of_row _ _ 1 _ 170 (0,0) hblk;have d2:w2.cell? ⟨w.heap.size,2,none⟩=some (.slice none 0 0):=cell_of_row _ _ 2 _ 170 (0,0) hblk;have f0:w2.frozen? ⟨w.heap.size,0,none⟩=false:=frozen_of_row _ _ 0 _ 170 hblk;have f1:w2.frozen? ⟨w.heap.size,1,none⟩=false:=frozen_of_row _ _ 1 _ 170 hblk
 have f2:w2.frozen? ⟨w.heap.size,2,none⟩=false:=frozen_of_row _ _ 2 _ 170 hblk;have HB:Hid (Below w.heap.size w w2):=((Below.refl _ _).alloc (Qa _) _).trans (hb.mono (by simp));have HE:Hid (ZD w2 w.heap.size (.slice av (lwF L ws ct bins).ww.length cv) (lwF L ws ct bins).ww/\Ze w2 w.heap.size (.slice ab ([]:List Int).length cb) []):=⟨hE.monoW (by simp),hEb.mono (by simp)⟩;have HK:Hid (w2.heap[w.heap.size]? =some (.cells #[.bool false,.slice none 0 0,.slice none 0 0] 170 (0,0))):=hblk;clear hb hE hEb hblk HC c1 c2 l1 l2 e1 e2;generalize hnw:(lwF L ws ct bins).ww.length=nw at *;have HNW:Hid ((lwF L ws ct bins).ww.length=nw):=hnw;clear hnw;go_wp2;refine bodyPost_ret (v:=.agg #[.bool true,.slice ab 0 cb,.slice av nw cv]) (by simp[results,Tryz.results210,go_sem, *]) rfl ?_
 refine⟨_,rfl,⟨.slice ab 0 cb,.slice av nw cv,rfl,?_,?_⟩,((HB.out.setCell (Qa _) _).setCell (Qa _) _).setCell (Qa _) _⟩;exact Zp (Zp (Zp HE.out.2 HK.out (by decide)) (by exact heap_setCell_same _ _ _ _ _ _ HK.out) (by decide)) (by exact heap_setCell_same _ _ _ _ _ _ (heap_setCell_same _ _ _ _ _ _ HK.out)) (by decide);exact Zp (Zp (Zp HE.out.1 HK.out (by decide)) (by exact heap_setCell_same _ _ _ _ _ _ HK.out) (by decide)) (by exact heap_setCell_same _ _ _ _ _ _ (heap_setCell_same _ _ _ _ _ _ HK.out)) (by decide)
theorem Zkw:Zpl lwF:=by refine⟨Zr0,fun L ws ct bins hL hb1 hb2=>?_⟩;have hl:(lwF L ws ct bins).ww.length<=16:=(by show((((Zax (L.zip ws) ct).mergeSort fun x y=>decide (leW x y)).take bins.toNat).map WS.wd).length<=16;rw[List.length_map,List.length_take];omega);refine⟨⟨List.Pairwise.nil,by simp[lwF],by omega⟩,rfl,?_⟩;show Za1 true 0 (lwF L ws ct bins).ww.length<=16;simp only[Za1,if_true];exact hl
theorem Zfr{m:Nat}{wd:Nat->Bool}{sc ct:Nat->Int}{bins:Int}{size:Nat}{l:List Int}{s:RS}(hsc:∀i,i<m+1->wd i=false->0<=sc i/\sc i<=3)(hb:2<=bins)(hb2:bins<=16)(hs:2<=size)(hs2:size<=32)(h:Zk (m+1) wd sc RS.start l 0=.ok s):ZaZ lwF m wd ct bins size s:=Zj2 (fun _=>Zkw) hsc hb hb2 hs hs2 h
end Go.Proofs.YtfcgnpchbcmdeaaGreat
