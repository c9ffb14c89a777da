import Derived.Test.YtfcgnpchbcmdeaaGreatZubh
import Derived.Test.YtfcgnpchbcmdeaaGreatZubq
import Derived.Laws.IdiomStrings
import Derived.Test.YtfcgnpchbcmdeaaGreatZuau
import Derived.Test.YtfcgnpchbcmdeaaGreatZuaq
namespace Go.Proofs.YtfcgnpchbcmdeaaGreat
set_option linter.unusedSimpArgs false
set_option maxRecDepth 100000
set_option maxHeartbeats 16000000
open Go.RowKit
theorem Zqr(a b:Nat)(ha:a<256)(hb:b<256):bits .xor .u8 a b=((a^^^b:Nat):Int):=by have hx:a^^^b<2^8:=Nat.xor_lt_two_pow (n:=8) ha hb;simp only[bits,BitVec.ofInt_natCast,BitVec.toNat_xor,BitVec.toNat_ofNat];rw[show IntKind.u8.bits=8 from rfl,Nat.mod_eq_of_lt (show a<2^8 from ha),Nat.mod_eq_of_lt (show b<2^8 from hb)];exact ZcD _ (by omega) (by exact_mod_cast hx)
def Zbc(bs:List Int)(j:Nat):List Int:=bs.set (j/8) (bits .xor .u8 (bs.getD (j/8) 0) ((2^(j%8):Nat):Int))
theorem ZpR(j:Nat):2^(j%8)<256:=by have:2^(j%8)<=2^7:=Nat.pow_le_pow_right (by decide) (by omega);omega
theorem ZhM{bs:List Int}(h:ByI bs)(j:Nat):ByI (Zbc bs j):=fun x hx=>by
 unfold Zbc at hx
 rcases List.mem_or_eq_of_mem_set hx with h1|h1
 exact h x h1;rw[h1];unfold bits;simp only[IntKind.wrap];have h2:=Int.emod_nonneg (a:=(BitVec.ofInt IntKind.u8.bits (bs.getD (j/8) 0)^^^BitVec.ofInt IntKind.u8.bits ((2^(j%8):Nat):Int)).toNat) (b:=256) (by decide);have h3:=Int.emod_lt_of_pos (a:=(BitVec.ofInt IntKind.u8.bits (bs.getD (j/8) 0)^^^BitVec.ofInt IntKind.u8.bits ((2^(j%8):Nat):Int)).toNat) (b:=256) (by decide);have e:IntKind.signed .u8=false:=rfl;have e2:(2:Int)^IntKind.u8.bits=256:=rfl;simp only[e,e2];simp;omega
theorem Zf0(S:ByteArray):ByI (Zb S):=fun x hx=>by unfold Zb at hx;obtain⟨u,_,rfl⟩:=List.mem_map.1 hx;have:=u.toNat_lt;simp;omega
theorem Zmh(k a b:Nat):2^k*(a^^^b)=2^k*a^^^2^k*b:=by
 apply Nat.eq_of_testBit_eq;intro i;rw[Nat.testBit_two_pow_mul,Nat.testBit_xor,Nat.testBit_xor,Nat.testBit_two_pow_mul,Nat.testBit_two_pow_mul]
 by_cases h:k<=i
 rw[decide_eq_true h];simp;rw[decide_eq_false h];simp
theorem ZeP:∀(bs:List Int) (j:Nat),ByI bs->j<8*bs.length->Qt (Zbc bs j)=Qt bs^^^2^j
 |[],j,_,h=>by simp at h
 | b::bs,j,hb,h=>by
  have h1:=hb b (by simp);obtain⟨c,rfl⟩:=Int.eq_ofNat_of_zero_le h1.1;have hc:c<256:=by omega
  rcases Nat.lt_or_ge j 8 with hj|hj
  have e:Zbc ((c:Nat)::bs) j=((c^^^2^j:Nat):Int)::bs:=(by unfold Zbc;rw[show j/8=0 by omega,show j%8=j by omega,List.set_cons_zero,List.getD_cons_zero,Zqr c (2^j) hc (by have:=ZpR j;rw[show j%8=j by omega] at this;exact this)]);have hx:c^^^2^j<256:=Nat.xor_lt_two_pow (n:=8) hc (by have:=ZpR j;rw[show j%8=j by omega] at this;exact this);rw[e,Qt,Qt,Int.toNat_natCast,Int.toNat_natCast,ZdO hx,ZdO hc,Nat.xor_assoc,Nat.xor_assoc,Nat.xor_comm (2^j)]
  obtain⟨i,rfl⟩:∃i,j=i+8:=⟨j-8,by omega⟩;have e:Zbc (((c:Nat):Int)::bs) (i+8)=((c:Nat):Int)::Zbc bs i:=(by unfold Zbc;rw[show(i+8)/8=i/8+1 by omega,show(i+8)%8=i%8 by omega,List.set_cons_succ,List.getD_cons_succ]);have ih:=ZeP bs i (fun x hx=>hb x (by simp[hx])) (by simp at h;omega);rw[e,Qt,Qt,ih,Int.toNat_natCast,ZdO hc,ZdO hc,show 256=2^8 from rfl,Zmh,Nat.xor_assoc,Nat.pow_add,Nat.mul_comm (2^i)]
structure Zc1(w:World)(q:Nat)(bs:List Int):Prop where
 lt:q<w.heap.size
 at_:∀j,j<bs.length->w.cell? ⟨q,j,none⟩=some (.int .u8 (bs.getD j 0))/\w.frozen? ⟨q,j,none⟩=false
theorem Zc1.put{w:World}{q k:Nat}{bs:List Int}(h:Zc1 w q bs)(z:Int):Zc1 (w.setCell ⟨q,k,none⟩ (.int .u8 z)) q (bs.set k z):=by
 refine⟨by have:=h.lt;simpa [World.setCell] using this,fun j hj=>?_⟩;rw[List.length_set] at hj;obtain⟨h1,h2⟩:=h.at_ j hj;rw[World.frozen?_setCell];refine⟨?_,h2⟩
 by_cases e:k=j
 subst e;rw[World.cell?_setCell_same _ _ _ h1,Qc,List.getElem?_set_self hj];rfl;rw[World.cell?_setCell_other _ _ _ _ (fun c=>e (by injection c)),h1,Qc,Qc,List.getElem?_set_ne e]
theorem Zc1.drew{w:World}{q:Nat}{bs:List Int}(h:Zc1 w q bs):Zc1 w.drew q bs:=⟨h.lt,h.at_⟩
theorem Zc1.new(w:World)(s:ByteArray)(cap:Nat):Zc1 (w.alloc (.cells (bytesRow s cap) 5 ((bytesRow s cap).size,(bytesRow s cap).size+1))) w.heap.size (Zb s):=by have hlo:s.size<=(bytesRow s cap).size:=(by unfold bytesRow;rw[Array.size_append,Array.size_map];exact Nat.le_add_right _ _);refine⟨by show w.heap.size<(w.heap.push _).size;simp,fun j hj=>?_⟩;rw[ZU] at hj;constructor;rw[World.cell?_alloc_mark w (bytesRow s cap) 5 _ j,bytesRow_at s cap j hj,Qc];unfold Zb;rw[List.getElem?_map,Qd (by simpa using hj)];simp;rw[World.frozen?_alloc_mark w (bytesRow s cap) 5 _ _ j,decide_eq_false (by omega)];rfl
theorem Zc1.str{w:World}{q:Nat}{bs:List Int}(h:Zc1 w q bs)(cap:Nat):(convert 66 9 (.slice (some ⟨q,0,none⟩) bs.length cap)).run Tryz.prog w=.ok (.string (strOfNums bs)) w:=by refine run_convert_bytes_arg w 66 5 Tryz.underlying66 Tryz.underlying5 q 0 bs.length cap bs rfl (fun i hi=>?_) 9 Tryz.underlying9;rw[Nat.zero_add];exact(h.at_ i hi).1
def Zcc(bs0 bs:List Int)(at_ i:Nat):Prop:=ByI bs/\bs.length=bs0.length/\∃B,B<2^i/\B%2=1/\Qt bs=Qt bs0^^^2^at_*B
theorem Zcc.start{bs:List Int}{at_:Nat}(hb:ByI bs)(h:at_<8*bs.length):Zcc bs (Zbc bs at_) at_ 1:=
 ⟨ZhM hb _,by unfold Zbc;simp,1,by decide,rfl,by rw[ZeP bs at_ hb h,Nat.mul_one]⟩
theorem Zcc.pass{bs0 bs:List Int}{at_ i:Nat}(h:Zcc bs0 bs at_ i):Zcc bs0 bs at_ (i+1):=by obtain⟨h1,h2,B,h3,h4,h5⟩:=h;exact⟨h1,h2,B,by rw[Nat.pow_succ];omega,h4,h5⟩
theorem Zcc.turn{bs0 bs:List Int}{at_ i:Nat}(h:Zcc bs0 bs at_ i)(hi:1<=i)(hl:at_+i<8*bs0.length):Zcc bs0 (Zbc bs (at_+i)) at_ (i+1):=by obtain⟨h1,h2,B,h3,h4,h5⟩:=h;refine⟨ZhM h1 _,by unfold Zbc;simpa using h2,B^^^2^i,?_,?_,?_⟩;exact Nat.xor_lt_two_pow (by rw[Nat.pow_succ];omega) (by rw[Nat.pow_succ];have:=Nat.two_pow_pos i;omega);obtain⟨k,rfl⟩:∃k,i=k+1:=⟨i-1,by omega⟩;have h6:2^(k+1)%2=0:=(by rw[Nat.pow_succ];omega);rw[Nat.xor_mod_two_eq_one];omega;rw[ZeP bs (at_+i) h1 (by omega),h5,Nat.xor_assoc,Nat.pow_add,Zmh]
theorem Zcc.told{D:QV}{X:List XS}{bs:List Int}{at_ i:Nat}(h:Zcc (ZL D X) bs at_ i)(hi:i<=32)(hat:at_<8*(ZL D X).length):opD bs=none:=by
 obtain⟨h1,h2,B,h3,h4,h5⟩:=h
 cases ho:opD bs with
 |none=>rfl
 | some E=>
  have hE:ZL E E.xs=bs:=by
   unfold opD at ho;split at ho
   ·cases ho
   split at ho;injection ho with ho;subst ho;assumption
   cases ho
  have hB:B<4294967296:=Qh h3 (Nat.pow_le_pow_right (n:=2) (i:=i) (j:=32) (by decide) hi);have h6:=Zi7 (D:=D) (E:=E) (X:=X) (Y:=E.xs) (ZcU D X) (ZcU E E.xs) (by rw[hE];exact h2.symm) (Nat.le_of_lt hat) hB (by rw[hE];exact h5);omega
theorem ZdU{w:World}{gb db:Nat}{D:QV}{S:ByteArray}(h:Zqy w gb db D)(ho:opD (Zb S)=some D):Calls Tryz.prog 34 #[.pointer (some ⟨gb,0,none⟩)] w fun e w'=>e=.returned (.string S)/\Below w.heap.size w w':=by
 obtain⟨hg,vK,vB,vX,kvs,bvs,hM⟩:=h;unfold opD at ho;split at ho
 ·cases ho
 rename_i E r hr;split at ho;rename_i he;injection ho with ho;subst ho;have hok:=ZjV (Zf0 S) hr;have e:strOfNums (ZL E E.xs)=S:=(Zj5 (Zdx _ _)).2 he;rw[<- e];exact ZdD gb db vK vB vX kvs bvs E.xs E w hg hM hok.b0 (fun K hK=>(hok.ks K hK).kn) hok.k4 hok.bun (by have:=hok.se.b4;have:=hok.k4;omega) (by have:=hok.xl;omega) (ZcU E E.xs)
 cases ho
theorem Zgp(ca la:Option Addr)(cn cc ln lc:Nat)(cs l:List Int)(fr bt:Int)(text:ByteArray)(w:World)(hcs:ZS w ca cn cs)(hl:ZS w la ln l)(hcn:cn<=9223372036854775807)(hln:ln<=9223372036854775807)(hfr:(Lit.int .i64 fr).wf=true)(hsz:text.size<=140737488355328):Calls Tryz.prog 12 #[.slice ca cn cc,.slice la ln lc,.int .i64 fr,.int .i64 bt,.string text] w fun e w'=>e=.returned (.bool true)/\Below w.heap.size w w':=by
 have HCS:=fun W (hW:Below w.heap.size w W)=>Zgm ca cn cc cs W (hcs.below hW) hcn;have HLI:Hid (∀W,Below w.heap.size w W->ZS W la ln l):=fun W hW=>hl.below hW;have HHD:Hid ZiU:=Zon;have hcf:=Zi9 cs;have hconf:=Zpf cs;have hmany:YV cs l<=150:=(by unfold YV;omega);have hts:=ZdJ cs l (YV cs l);have htk:=Zmx cs l (YV cs l) hmany;have hst:=Zlu cs l (YV cs l);obtain⟨h1,h4,c1,c2,c3,c4,c5,c6,hfe⟩:=ZbS hconf
 have hsc:∀i,i<YB cs+1->Q1 cs i=false->0<=cfC cs i/\cfC cs i<=3:=fun i hi hw=>by have:=hfe i hi;unfold Zam at this;rw[hw] at this;simp at this;omega
 have htook:=Zrj hsc htk;have hclo:ZaE lwF (YB cs) (Q1 cs) (cfT cs) (cfB cs:Nat) (cfS cs) (stR cs l (YV cs l)):=ZeV hsc (by omega) (by omega) (by omega) (by omega) htk;have HT0:Hid (Zj (YB cs+1) (Q1 cs) (cfC cs) RS.start (Zb (Y9 cs l (YV cs l))) 0=.ok (stR cs l (YV cs l))/\(stR cs l (YV cs l)).wt=0):=⟨htk,hst.wt⟩
 have HRO:Hid (∀W fk fc,Below w.heap.size w W->Qk W fk 0 (YB cs+1) (Q1 cs) (cfC cs) (cfT cs)->Calls Tryz.prog 24 #[.agg #[.slice (some ⟨fk,0,none⟩) (YB cs+1) fc,.int .i64 (cfB cs:Nat),.int .i64 (cfS cs:Nat),.int .i64 (cfU cs:Nat)],.slice la ln lc] W fun e w'=>∃v,e=.returned (.tuple #[v,.string (Y9 cs l (YV cs l))])/\Below W.heap.size W w'):=fun W fk fc hW hF=>(Ziu fk fc ln lc la cs l W hF (HLI.out W hW) hln).mono (fun _ _ h=>by obtain⟨v,h1,_,h3⟩:=h;exact⟨v,h1,h3⟩)
 have HFE:Hid (∀W fk fc,Qk W fk 0 (YB cs+1) (Q1 cs) (cfC cs) (cfT cs)->Calls Tryz.prog 25 #[.agg #[.slice (some ⟨fk,0,none⟩) (YB cs+1) fc,.int .i64 (cfB cs:Nat),.int .i64 (cfS cs:Nat),.int .i64 (cfU cs:Nat)],.string (Y9 cs l (YV cs l)),.slice none 0 0] W fun e w'=>Zqw (YB cs) (Q1 cs) (cfT cs) (cfB cs:Nat) (cfS cs) (cfU cs) (Y9 cs l (YV cs l)).size (Zj (YB cs+1) (Q1 cs) (cfC cs) RS.start (Zb (Y9 cs l (YV cs l))) 0) e w'/\Below W.heap.size W w'):=fun W fk fc hF=>Zpk _ fk (YB cs) fc 0 0 none [] (cfB cs:Nat) (cfS cs) (cfU cs) (Q1 cs) (cfC cs) (cfT cs) W hF hconf ⟨rfl,by simp,.inl rfl⟩ (by decide) (by omega)
 have HBY:Hid (∀(W:World) (gb db:Nat),Zbn W gb db (ZdX (YB cs) (Q1 cs) (cfT cs) (cfB cs:Nat) (cfS cs) (cfU cs) (stR cs l (YV cs l)))->∃t:ByteArray,(Calls Tryz.prog 34 #[.pointer (some ⟨gb,0,none⟩)] W fun e w'=>e=.returned (.string t)/\Below W.heap.size W w')/\4<=t.size/\t.size<=100000/\∀bs at_ i,Zcc (Zb t) bs at_ i->i<=32->at_<8*t.size->opD bs=none):=fun W gb db ho=>by
  obtain⟨X,hX,hx,hlen,hcall⟩:=ZmL ho htook hclo (by omega) (by omega) (by omega) (by omega) (by omega);have e1:Zb (strOfNums (ZL (ZdX (YB cs) (Q1 cs) (cfT cs) (cfB cs:Nat) (cfS cs) (cfU cs) (stR cs l (YV cs l))) X))=ZL (ZdX (YB cs) (Q1 cs) (cfT cs) (cfB cs:Nat) (cfS cs) (cfU cs) (stR cs l (YV cs l))) X:=ZbQ (Zdx _ _);have e2:=Za0 (ZL (ZdX (YB cs) (Q1 cs) (cfT cs) (cfB cs:Nat) (cfS cs) (cfU cs) (stR cs l (YV cs l))) X);refine⟨_,hcall,?_,by omega,fun bs at_ i hB hi hat=>?_⟩;rw[e2];unfold ZL;rw[Qe,Zap];omega;rw[e1] at hB;exact hB.told hi (by omega)
 have hm4:YB cs<=3:=hcf.2.2.2.2.2;clear hcf hconf hmany hts htk hst h1 h4 c1 c2 c3 c4 c5 c6 hfe hcs hl hsc htook hclo;generalize Y9 cs l (YV cs l)=tx at *;generalize stR cs l (YV cs l)=s0 at *;generalize YB cs=m at *;generalize Q1 cs=wd at *;generalize cfC cs=sc at *;generalize cfT cs=ct at *;generalize cfB cs=B at *;generalize cfS cs=S at *;generalize cfU cs=U at *;generalize hDD:ZdX m wd ct (B:Nat) S U s0=D at *;have HDD:Hid (ZdX m wd ct (B:Nat) S U s0=D):=hDD;clear hDD;go_enter Tryz.func12,Tryz.ntmps12;go_wp2_with fail
 refine(HHD.out _).mono ?_;rintro e w1 ⟨rfl,hb1⟩;have HB1:Hid (Below w.heap.size w w1):=hb1;have HC1:=HCS w1 hb1;clear hb1 HCS;go_wp2_with fail
 refine HC1.mono ?_;rintro e w2 ⟨fk,fc,rfl,hfk,hF2,hb2⟩;have HB2:Hid (Below w.heap.size w w2/\Qk w2 fk 0 (m+1) wd sc ct):=⟨HB1.out.trans (hb2.mono HB1.out.size),hF2⟩;have hs2:=HB2.out.1.size;clear hb2 hF2 HC1 hfk;go_upto_region 3 with fail;generalize hW3:w2.alloc (.cells #[.slice (some ⟨fk,0,none⟩) (m+1) fc,.int .i64 (B:Nat),.int .i64 (S:Nat),.int .i64 (U:Nat)] 37)=w3;have hX3:w3.heap[w2.heap.size]? =some (.cells #[.slice (some ⟨fk,0,none⟩) (m+1) fc,.int .i64 (B:Nat),.int .i64 (S:Nat),.int .i64 (U:Nat)] 37 (0,0)):=(by rw[<- hW3];exact heap_alloc_new _ _);have hb3:Below w2.heap.size w2 w3:=(by rw[<- hW3];exact(Below.refl _ _).alloc (Qa _) _);have hkl:w2.heap.size<w3.heap.size:=(Qb hX3).1
 have HW:Hid (∀W,Below w3.heap.size w3 W->Below w.heap.size w W/\Qk W fk 0 (m+1) wd sc ct/\W.cell? ⟨w2.heap.size,0,none⟩=some (.slice (some ⟨fk,0,none⟩) (m+1) fc)/\W.cell? ⟨w2.heap.size,1,none⟩=some (.int .i64 (B:Nat))/\W.cell? ⟨w2.heap.size,2,none⟩=some (.int .i64 (S:Nat))/\W.cell? ⟨w2.heap.size,3,none⟩=some (.int .i64 (U:Nat))):=fun W hW=>by
  have hb:Below w2.heap.size w2 W:=hb3.trans (hW.mono hb3.size);refine⟨HB2.out.1.trans (hb.mono hs2),HB2.out.2.below hb,?_,?_,?_,?_⟩;exact(hW.cell (p:=⟨w2.heap.size,0,none⟩) hkl).trans (cell_of_row _ _ 0 _ 37 (0,0) hX3);exact(hW.cell (p:=⟨w2.heap.size,1,none⟩) hkl).trans (cell_of_row _ _ 1 _ 37 (0,0) hX3);exact(hW.cell (p:=⟨w2.heap.size,2,none⟩) hkl).trans (cell_of_row _ _ 2 _ 37 (0,0) hX3);exact(hW.cell (p:=⟨w2.heap.size,3,none⟩) hkl).trans (cell_of_row _ _ 3 _ 37 (0,0) hX3)
 clear hW3 hX3 hb3 HB2 HB1 hs2;obtain⟨_,_,e0,e1,e2,e3⟩:=HW.out w3 (Below.refl _ _);go_wp2_with fail
 refine(HRO.out _ _ _ (HW.out w3 (Below.refl _ _)).1 (HW.out w3 (Below.refl _ _)).2.1).mono ?_;rintro e w4 ⟨vr,rfl,hb4⟩;have HB4:Hid (Below w3.heap.size w3 w4):=hb4;clear hb4 e0 e1 e2 e3;obtain⟨_,_,e0,e1,e2,e3⟩:=HW.out w4 HB4.out;go_wp2_with fail
 refine(HFE.out w4 fk fc (HW.out w4 HB4.out).2.1).mono ?_;rintro e w5 ⟨hA,hb5⟩;rw[HT0.out.1] at hA
 rcases hA with⟨hne,_⟩|⟨_,ga,da,rfl,hO5⟩
 exact absurd HT0.out.2 hne;rw[HDD.out] at hO5;have HB5:Hid (Below w.heap.size w w5/\Zbn w5 ga da D):=⟨(HW.out w5 (HB4.out.trans (hb5.mono HB4.out.size))).1,hO5⟩;clear hb5 hO5 e0 e1 e2 e3 HB4 HW hkl;obtain⟨t,hT,ht1,ht2,hto⟩:=HBY.out w5 ga da HB5.out.2;have HTO:Hid (∀bs at_ i,Zcc (Zb t) bs at_ i->i<=32->at_<8*t.size->opD bs=none):=hto;clear hto;have hcv:=fun (W:World)=>run_bytes_of_string (P:=Tryz.prog) W 9 66 5 t Tryz.underlying9 Tryz.underlying66 Tryz.underlying5;go_wp2_with fail
 refine hT.mono ?_;rintro e w6 ⟨rfl,hb6⟩;have HB6:Hid (Below w.heap.size w w6):=HB5.out.1.trans (hb6.mono HB5.out.1.size);clear hb6 HB5 hT HBY;go_upto_region 8 with fail;generalize grownCap w6 t.size 0 5=cp;have hR7:Zc1 (w6.alloc (.cells (bytesRow t cp) 5 ((bytesRow t cp).size,(bytesRow t cp).size+1))).drew w6.heap.size (Zb t):=(Zc1.new w6 t cp).drew;have hb7:Below w.heap.size w (w6.alloc (.cells (bytesRow t cp) 5 ((bytesRow t cp).size,(bytesRow t cp).size+1))).drew:=(HB6.out.alloc HB6.out.size _).drew;generalize (w6.alloc (.cells (bytesRow t cp) 5 ((bytesRow t cp).size,(bytesRow t cp).size+1))).drew=w7 at *;have HQ:Hid (w.heap.size<=w6.heap.size):=HB6.out.size;have HBY:Hid (ByI (Zb t)):=Zf0 t;have HLN:Hid ((Zb t).length=t.size):=ZU t;generalize w6.heap.size=q at *;generalize Zb t=bs0 at *
 generalize t.size=L at *;have HW7:Hid (Zc1 w7 q bs0/\Below w.heap.size w w7):=⟨hR7,hb7⟩
 have HPK:Hid (∀W:World,Calls Tryz.prog 17 #[.int .i64 fr,.int .i64 (8*(L:Int))] W fun e w'=>e=.returned (.int .i64 (Zv fr (8*L):Nat))/\w'=W):=fun W=>by have h1:=Ys fr (8*L) W hfr (by omega) (by omega);rw[show((8*L:Nat):Int)=8*(L:Int) by omega] at h1;exact h1
 have hat:=Z8 fr (n:=8*L) (by omega);clear hR7 hb7 HB6 hcv;go_wp2_with fail
 refine(HPK.out _).mono ?_;rintro e w8 ⟨rfl,hw8⟩;obtain rfl:=hw8.symm;clear hw8 HPK;generalize Zv fr (8*L)=A at *;obtain⟨J,hJ⟩:∃J,J=A/8:=⟨_,rfl⟩;obtain⟨R,hR⟩:∃R,R=A%8:=⟨_,rfl⟩;obtain⟨z,hz⟩:∃z:Nat,z=2^R:=⟨_,rfl⟩;have hz256:z<256:=by rw[hz,hR];exact ZpR A
 have HST:Hid (Zcc bs0 (bs0.set J (bits .xor .u8 (bs0.getD J 0) (z:Nat))) A 1):=(by have h1:=Zcc.start HBY.out (show A<8*bs0.length by rw[HLN.out];exact hat);unfold Zbc at h1;rw[<- hJ,<- hR,<- hz] at h1;exact h1);obtain⟨d1,fq⟩:=HW7.out.1.at_ J (by rw[HLN.out];omega);have q2:(A:Int).tdiv 8=(J:Int):=(by rw[Int.tdiv_eq_ediv_of_nonneg (by omega)];omega);have q3:(A:Int)/8=(J:Int):=(by omega);have q4:(A:Int).tmod 8=(R:Int):=(by rw[Int.tmod_eq_emod_of_nonneg (by omega)];omega);have q5:(A:Int)%8=(R:Int):=(by omega);have q8:IntKind.i64.wrap (J:Int)=(J:Int):=Zw (by omega) (by omega)
 have q9:IntKind.u8.wrap (2^R)=(z:Int):=(by rw[ZcD _ (by rw[show((2:Int)^R)=((2^R:Nat):Int) by simp,<- hz];omega) (by rw[show((2:Int)^R)=((2^R:Nat):Int) by simp,<- hz];omega),hz];simp);have br1:(0:Int)<=(R:Int):=(by omega);have br2:(R:Int)<=8:=(by omega);have bj1:(0:Int)<=(J:Int):=(by omega);have bj2:(J:Int)<(L:Int):=(by omega);obtain⟨y,hy⟩:∃y,y=bs0.getD J 0:=⟨_,rfl⟩;rw[<- hy] at d1 HST;obtain⟨u,hu⟩:∃u,u=bits .xor .u8 y (z:Nat):=⟨_,rfl⟩;rw[<- hu] at HST;have q10:bits BinOp.xor IntKind.u8 y (z:Int)=u:=hu.symm;have HAJ:Hid (A/8=J/\A%8=R):=⟨hJ.symm,hR.symm⟩;clear hJ hR hz hy hu;go_upto_region 9 with fail;refine Zn (fun w'=>w'.cell? ⟨q,J,none⟩=some (.int .u8 y)) 13 (by kernel_rfl) d1 (fun hHeld=>?_);refine ZZ [12,13] 0 (v:=?_) ?_ ?_
 rotate_left;· intro w hSw;go_simp;try with_reducible rfl
 try simp only[Act.put,tA,tB,tC]
 refine ZZ [2,12,13] 1 (v:=?_) ?_ ?_
 rotate_left;· intro w hSw;go_simp;try with_reducible rfl
 try simp only[Act.put,tA,tB,tC]
 refine ZZ [12,13] 2 (v:=?_) ?_ ?_
 rotate_left;· intro w hSw;go_simp;try with_reducible rfl
 try simp only[Act.put,tA,tB,tC]
 refine ZZ [6,7,11,12,13] 3 (v:=?_) ?_ ?_
 rotate_left;· intro w hSw;go_simp;try with_reducible rfl
 try simp only[Act.put,tA,tB,tC]
 refine ZZ [5,6,7,11,12,13] 4 (v:=?_) ?_ ?_
 rotate_left;· intro w hSw;go_simp;try with_reducible rfl
 try simp only[Act.put,tA,tB,tC]
 refine ZZ [6,7,11,12,13] 5 (v:=?_) ?_ ?_
 rotate_left;· intro w hSw;go_simp;try with_reducible rfl
 try simp only[Act.put,tA,tB,tC]
 refine ZZ [7,11,12,13] 6 (v:=?_) ?_ ?_
 rotate_left;· intro w hSw;go_simp;try with_reducible rfl
 try simp only[Act.put,tA,tB,tC]
 refine ZZ [11,12,13] 7 (v:=?_) ?_ ?_
 rotate_left;· intro w hSw;go_simp;try with_reducible rfl
 try simp only[Act.put,tA,tB,tC]
 refine ZZ [9,10,11,12,13] 8 (v:=?_) ?_ ?_
 rotate_left;· intro w hSw;go_simp;try with_reducible rfl
 try simp only[Act.put,tA,tB,tC]
 refine ZZ [10,11,12,13] 9 (v:=?_) ?_ ?_
 rotate_left;· intro w hSw;go_simp;try with_reducible rfl
 try simp only[Act.put,tA,tB,tC]
 refine ZZ [11,12,13] 10 (v:=?_) ?_ ?_
 rotate_left;· intro w hSw;go_simp;try with_reducible rfl
 try simp only[Act.put,tA,tB,tC]
 refine ZZ [12,13] 11 (v:=?_) ?_ ?_
 rotate_left;· intro w hSw;go_simp;try with_reducible rfl
 try simp only[Act.put,tA,tB,tC]
 refine ZZ [13] 12 (v:=?_) ?_ ?_
 rotate_left;· intro w hSw;go_simp;try with_reducible rfl
 try simp only[Act.put,tA,tB,tC]
 refine Zi (i:=13) (by kernel_rfl) rfl (by kernel_rfl) (fun KK hK=>?_);go_simp;refine hK.out _ _ ?_;clear hK KK;try simp only[Act.put,tA,tB,tC]
 refine Zl (by kernel_rfl) ?_ _;have HW9:Hid (Zc1 (w7.setCell ⟨q,J,none⟩ (.int .u8 u)).drew q (bs0.set J u)/\Below w.heap.size w (w7.setCell ⟨q,J,none⟩ (.int .u8 u)).drew):=⟨(HW7.out.1.put _).drew,(HW7.out.2.setCell HQ.out _).drew⟩;generalize (w7.setCell ⟨q,J,none⟩ (.int .u8 u)).drew=w9 at *;generalize bs0.set J u=bs1 at *;clear hHeld d1 fq q2 q3 q4 q5 q8 q9 q10 br1 br2 bj1 bj2 HW7 HAJ hz256;go_wp2_with fail
 go_loopw [20] (fun ti wr=>∃(i:Nat) (bs:List Int),ti=.int .i64 i/\1<=i/\i<=32/\Hid (Zc1 wr q bs/\Zcc bs0 bs A i/\Below w.heap.size w wr)) (fun ti _=>32-(intOf ti).toNat)
 case atStart=>exact⟨1,bs1,rfl,by omega,by omega,HW9.out.1,HST.out,HW9.out.2⟩
 case round=>
  clear HW9 HST;obtain⟨i,bs,rfl,hi1,hi2,HR⟩:=hrel
  by_cases hgo:i<32/\A+i<8*L
  ·obtain⟨T,hT⟩:∃T,T=A+i:=⟨_,rfl⟩;obtain⟨J,hJ⟩:∃J,J=T/8:=⟨_,rfl⟩;obtain⟨R,hR⟩:∃R,R=T%8:=⟨_,rfl⟩;obtain⟨z,hz⟩:∃z:Nat,z=2^R:=⟨_,rfl⟩;have hz256:z<256:=(by rw[hz,hR];exact ZpR T);have hbl:bs.length=L:=by rw[HR.out.2.1.2.1,HLN.out]
   have HTU:Hid (Zcc bs0 (bs.set J (bits .xor .u8 (bs.getD J 0) (z:Nat))) A (i+1)):=(by have h1:=HR.out.2.1.turn hi1 (by rw[HLN.out];exact hgo.2);unfold Zbc at h1;rw[<- hT,<- hJ,<- hR,<- hz] at h1;exact h1);have HPS:Hid (Zcc bs0 bs A (i+1)):=HR.out.2.1.pass;obtain⟨d1,fq⟩:=HR.out.1.at_ J (by rw[hbl];omega);have q1:(A:Int)+(i:Int)=(T:Int):=(by omega);have q2:(T:Int).tdiv 8=(J:Int):=(by rw[Int.tdiv_eq_ediv_of_nonneg (by omega)];omega);have q3:(T:Int)/8=(J:Int):=(by omega);have q4:(T:Int).tmod 8=(R:Int):=(by rw[Int.tmod_eq_emod_of_nonneg (by omega)];omega);have q5:(T:Int)%8=(R:Int):=(by omega);have q7:IntKind.i64.wrap (T:Int)=(T:Int):=Zw (by omega) (by omega);have q8:IntKind.i64.wrap (J:Int)=(J:Int):=Zw (by omega) (by omega)
   have q9:IntKind.u8.wrap (2^R)=(z:Int):=(by rw[ZcD _ (by rw[show((2:Int)^R)=((2^R:Nat):Int) by simp,<- hz];omega) (by rw[show((2:Int)^R)=((2^R:Nat):Int) by simp,<- hz];omega),hz];simp);have br1:(0:Int)<=(R:Int):=(by omega);have br2:(R:Int)<=8:=(by omega);have bj1:(0:Int)<=(J:Int):=(by omega);have bj2:(J:Int)<(L:Int):=(by omega);have g1:(i:Int)<32:=(by omega);have g2:(T:Int)<8*(L:Int):=(by omega);obtain⟨y,hy⟩:∃y,y=bs.getD J 0:=⟨_,rfl⟩;rw[<- hy] at d1 HTU;obtain⟨u,hu⟩:∃u,u=bits .xor .u8 y (z:Nat):=⟨_,rfl⟩;rw[<- hu] at HTU;have q10:bits BinOp.xor IntKind.u8 y (z:Int)=u:=hu.symm;clear hJ hR hz hy hu hT hbl;go_wp2_with fail
   ·refine Zn (fun w'=>w'.cell? ⟨q,J,none⟩=some (.int .u8 y)) 19 (by kernel_rfl) d1 (fun hHeld=>?_);refine ZZ [18,19] 0 (v:=?_) ?_ ?_
    rotate_left;· intro w hSw;go_simp;try with_reducible rfl
    try simp only[Act.put,tA,tB,tC]
    refine ZZ [3,4,18,19] 1 (v:=?_) ?_ ?_
    rotate_left;· intro w hSw;go_simp;try with_reducible rfl
    try simp only[Act.put,tA,tB,tC]
    refine ZZ [3,4,18,19] 2 (v:=?_) ?_ ?_
    rotate_left;· intro w hSw;go_simp;try with_reducible rfl
    try simp only[Act.put,tA,tB,tC]
    refine ZZ [4,18,19] 3 (v:=?_) ?_ ?_
    rotate_left;· intro w hSw;go_simp;try with_reducible rfl
    try simp only[Act.put,tA,tB,tC]
    refine ZZ [18,19] 4 (v:=?_) ?_ ?_
    rotate_left;· intro w hSw;go_simp;try with_reducible rfl
    try simp only[Act.put,tA,tB,tC]
    refine ZZ [10,11,17,18,19] 5 (v:=?_) ?_ ?_
    rotate_left;· intro w hSw;go_simp;try with_reducible rfl
    try simp only[Act.put,tA,tB,tC]
    refine ZZ [8,9,10,11,17,18,19] 6 (v:=?_) ?_ ?_
    rotate_left;· intro w hSw;go_simp;try with_reducible rfl
    try simp only[Act.put,tA,tB,tC]
    refine ZZ [8,9,10,11,17,18,19] 7 (v:=?_) ?_ ?_
    rotate_left;· intro w hSw;go_simp;try with_reducible rfl
    try simp only[Act.put,tA,tB,tC]
    refine ZZ [9,10,11,17,18,19] 8 (v:=?_) ?_ ?_
    rotate_left;· intro w hSw;go_simp;try with_reducible rfl
    try simp only[Act.put,tA,tB,tC]
    refine ZZ [10,11,17,18,19] 9 (v:=?_) ?_ ?_
    rotate_left;· intro w hSw;go_simp;try with_reducible rfl
    try simp only[Act.put,tA,tB,tC]
    refine ZZ [11,17,18,19] 10 (v:=?_) ?_ ?_
    rotate_left;· intro w hSw;go_simp;try with_reducible rfl
    try simp only[Act.put,tA,tB,tC]
    refine ZZ [17,18,19] 11 (v:=?_) ?_ ?_
    rotate_left;· intro w hSw;go_simp;try with_reducible rfl
    try simp only[Act.put,tA,tB,tC]
    refine ZZ [14,15,16,17,18,19] 12 (v:=?_) ?_ ?_
    rotate_left;· intro w hSw;go_simp;try with_reducible rfl
    try simp only[Act.put,tA,tB,tC]
    refine ZZ [14,15,16,17,18,19] 13 (v:=?_) ?_ ?_
    rotate_left;· intro w hSw;go_simp;try with_reducible rfl
    try simp only[Act.put,tA,tB,tC]
    refine ZZ [15,16,17,18,19] 14 (v:=?_) ?_ ?_
    rotate_left;· intro w hSw;go_simp;try with_reducible rfl
    try simp only[Act.put,tA,tB,tC]
    refine ZZ [16,17,18,19] 15 (v:=?_) ?_ ?_
    rotate_left;· intro w hSw;go_simp;try with_reducible rfl
    try simp only[Act.put,tA,tB,tC]
    refine ZZ [17,18,19] 16 (v:=?_) ?_ ?_
    rotate_left;· intro w hSw;go_simp;try with_reducible rfl
    try simp only[Act.put,tA,tB,tC]
    refine ZZ [18,19] 17 (v:=?_) ?_ ?_
    rotate_left;· intro w hSw;go_simp;try with_reducible rfl
    try simp only[Act.put,tA,tB,tC]
    refine ZZ [19] 18 (v:=?_) ?_ ?_
    rotate_left;· intro w hSw;go_simp;try with_reducible rfl
    try simp only[Act.put,tA,tB,tC]
    refine Zi (i:=19) (by kernel_rfl) rfl (by kernel_rfl) (fun KK hK=>?_);go_simp;refine hK.out _ _ ?_;clear hK KK;try simp only[Act.put,tA,tB,tC]
    refine Zl (by kernel_rfl) ?_ _;have HF:Hid (Zc1 (wr.setCell ⟨q,J,none⟩ (.int .u8 u)).drew q (bs.set J u)/\Zcc bs0 (bs.set J u) A (i+1)/\Below w.heap.size w (wr.setCell ⟨q,J,none⟩ (.int .u8 u)).drew):=⟨(HR.out.1.put _).drew,HTU.out,(HR.out.2.2.setCell HQ.out _).drew⟩;clear hHeld d1 fq q1 q2 q3 q4 q5 q7 q8 q9 q10 HR HTU HPS;go_wp2;go_roundw;case rel=>exact⟨i+1,bs.set J u,by go_num,by omega,by omega,HF⟩
    case measure=>simp[intOf];omega
   exact⟨⟨i+1,bs,by go_num,by omega,by omega,HR.out.1,HPS.out,HR.out.2.2⟩,by simp[intOf];omega⟩
  have hbl:bs.length=L:=(by rw[HR.out.2.1.2.1,HLN.out]);have hstr:(convert 66 9 (.slice (some ⟨q,0,none⟩) L cp)).run Tryz.prog wr=.ok (.string (strOfNums bs)) wr:=(by have h1:=HR.out.1.str cp;rw[hbl] at h1;exact h1);have HO1:Calls Tryz.prog 33 #[.string (strOfNums bs)] wr fun e w'=>e=.returned (.tuple #[.pointer none,.int .i64 2])/\Below wr.heap.size wr w':=(by have h1:=Zez (strOfNums bs) wr (by rw[Za0];omega);rw[ZbQ HR.out.2.1.1,HTO.out bs A i HR.out.2.1 hi2 hat] at h1;exact h1);clear hbl;generalize strOfNums bs=sb at *
  by_cases hi:i<32
  ·have g1:(i:Int)<32:=(by omega);have g2:¬(A:Int)+(i:Int)<8*(L:Int):=(by omega);have q7:IntKind.i64.wrap ((A:Int)+(i:Int))=(A:Int)+(i:Int):=Zw (by omega) (by omega);go_wp2_with fail
   refine HO1.mono ?_;rintro e w10 ⟨rfl,hb10⟩;have HB10:Hid (Below w.heap.size w w10):=HR.out.2.2.trans (hb10.mono HR.out.2.2.size);clear hb10 HO1 hstr HR;have HG:=Zez text w10 hsz;go_wp2_with fail
   refine HG.mono ?_;clear HG;intro e w11 hG
   cases ho:opD (Zb text) with
   | none=>
    rw[ho] at hG;obtain⟨rfl,hb11⟩:=hG;have HB11:Hid (Below w.heap.size w w11):=HB10.out.trans (hb11.mono HB10.out.size);clear hb11 ho;go_wp2;go_ret;exact⟨rfl,HB11.out⟩
   | some E=>
    rw[ho] at hG;obtain⟨g4,d4,rfl,hO,hb11⟩:=hG;have HB11:Hid (Below w.heap.size w w11):=HB10.out.trans (hb11.mono HB10.out.size);have hBY:=ZdU hO ho;clear hb11 ho hO;go_wp2_with fail
    refine hBY.mono ?_;rintro e w12 ⟨rfl,hb12⟩;have HB12:Hid (Below w.heap.size w w12):=HB11.out.trans (hb12.mono HB11.out.size);clear hb12 hBY;go_wp2;go_ret;exact⟨rfl,HB12.out⟩
  have g1:¬(i:Int)<32:=(by omega);go_wp2_with fail
  refine HO1.mono ?_;rintro e w10 ⟨rfl,hb10⟩;have HB10:Hid (Below w.heap.size w w10):=HR.out.2.2.trans (hb10.mono HR.out.2.2.size);clear hb10 HO1 hstr HR;have HG:=Zez text w10 hsz;go_wp2_with fail
  refine HG.mono ?_;clear HG;intro e w11 hG
  cases ho:opD (Zb text) with
  | none=>
   rw[ho] at hG;obtain⟨rfl,hb11⟩:=hG;have HB11:Hid (Below w.heap.size w w11):=HB10.out.trans (hb11.mono HB10.out.size);clear hb11 ho;go_wp2;go_ret;exact⟨rfl,HB11.out⟩
  | some E=>
   rw[ho] at hG;obtain⟨g4,d4,rfl,hO,hb11⟩:=hG;have HB11:Hid (Below w.heap.size w w11):=HB10.out.trans (hb11.mono HB10.out.size);have hBY:=ZdU hO ho;clear hb11 ho hO;go_wp2_with fail
   refine hBY.mono ?_;rintro e w12 ⟨rfl,hb12⟩;have HB12:Hid (Below w.heap.size w w12):=HB11.out.trans (hb12.mono HB11.out.size);clear hb12 hBY;go_wp2;go_ret;exact⟨rfl,HB12.out⟩
end Go.Proofs.YtfcgnpchbcmdeaaGreat
