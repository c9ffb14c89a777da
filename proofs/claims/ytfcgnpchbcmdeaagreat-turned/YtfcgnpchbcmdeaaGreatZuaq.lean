import Derived.Test.YtfcgnpchbcmdeaaGreatZuak
import Derived.Test.YtfcgnpchbcmdeaaGreatZuai
import Derived.Test.YtfcgnpchbcmdeaaGreatZuac
namespace Go.Proofs.YtfcgnpchbcmdeaaGreat
set_option maxRecDepth 100000
set_option maxHeartbeats 4000000
open Go.RowKit
theorem ZbL:(Tryz.prog.info? 5).map (fun i=>(i.zero,i.size,i.bytes))=some (some (.int .u8 0),1,1):=by kernel_rfl
def Zp(w:World)(base:Nat)(v:Value)(bs:List Int):Prop:=w.ownsRow base 5 1 v bs.length (bs.map (Value.int .u8))
theorem Zp.form{w:World}{base:Nat}{v:Value}{bs:List Int}(h:Zp w base v bs):∃a c,v=.slice a bs.length c:=by
 rcases h.2 with⟨rfl,h0⟩|⟨q,p,cur,rfl,_⟩
 exact⟨none,0,by rw[h0]⟩;exact⟨_,_,rfl⟩
def RW(w:World)(b base:Nat)(vf vW vC:Value)(wt:Int)(fl:Bool)(vr:Value)(p:Zy)(bs:List Int):Prop:=RB w b vf vW vC wt fl vr p/\Zp w base p.wv bs
def Yg(b base:Nat)(vf vW vC:Value)(wt:Int)(fl:Bool)(vr:Value)(p:Zy)(bs:List Int)(o:Option (Int×List Int))(w:World)(e:Ending)(w':World):Prop:=
 e=.returned (.bool o.isSome)/\(∃v',RW w' b base vf vW vC wt fl vr {p with st:=(o.getD (p.st,bs)).1,wv:=v'} (o.getD (p.st,bs)).2/\(v'.ownBlock=p.wv.ownBlock∨∃k,v'.ownBlock=some k/\w.heap.size<=k))/\Za (fun k=>k=b∨some k=p.wv.ownBlock) w w'
theorem Yg.none{b base:Nat}{vf vW vC:Value}{wt:Int}{fl:Bool}{vr:Value}{p:Zy}{bs:List Int}{w:World}(h:RW w b base vf vW vC wt fl vr p bs):Yg b base vf vW vC wt fl vr p bs none w (.returned (.bool false)) w:=
 ⟨rfl,⟨p.wv,h,.inl rfl⟩,Za.refl _ _⟩
section
variable (b base:Nat) (vf vW vC:Value) (wt:Int) (fl:Bool) (vr:Value) (p:Zy) (bs:List Int) (c:Int) (w:World)
theorem Zgg(h:RW w b base vf vW vC wt fl vr p bs):Calls Tryz.prog 311 #[.pointer (some ⟨b,6,none⟩)] w fun e w'=>e=.returned (.bool (decide (bs.length=8)))/\w'=w:=by
 obtain⟨_,_,_,_,_,c11,cf⟩:=h.1.part;obtain⟨a,cp,hv⟩:=h.2.form;rw[hv] at c11
 by_cases h8:bs.length=8
 ·rw[h8] at c11;go_enter Tryz.func311,Tryz.ntmps311;go_wp2;go_ret;exact⟨by simp[h8],rfl⟩
 have hne:((bs.length:Int)==8)=false:=beq_eq_false_iff_ne.2 (by omega);go_enter Tryz.func311,Tryz.ntmps311;go_wp2;go_ret;exact⟨by simp[h8],rfl⟩
theorem Zfx(h:RW w b base vf vW vC wt fl vr p bs):Calls Tryz.prog 259 #[.pointer (some ⟨b,6,none⟩),.int .u8 c] w fun e w'=>Yg b base vf vW vC wt fl vr p bs (if c=34 then some (7,bs) else none) w e w':=by
 obtain⟨c6,_,_,_,_,_,cf⟩:=h.1.part;have H:Hid (RW w b base vf vW vC wt fl vr p bs):=h;have HT:Hid (∀u,Za (fun k=>k=b∨some k=p.wv.ownBlock) w (w.setCell ⟨b,6,none⟩ u)):=fun u=>(Za.refl _ w).setCell (p:=⟨b,6,none⟩) (fun _=>.inl rfl) u
 have HOW:Hid (∀u,Zp (w.setCell ⟨b,6,none⟩ u) base p.wv bs):=fun u=>((Za.refl (fun k=>k=b) w).setCell (p:=⟨b,6,none⟩) (fun _=>rfl) u).row h.2 (fun k hk e=>by
  obtain⟨cur,hc⟩:=Zf h.2 hk;subst e;have:=h.1;unfold RB at this
  rw[this] at hc;simp at hc)
 clear h
 by_cases hc:c=34
 ·subst hc;go_enter Tryz.func259,Tryz.ntmps259;go_wp2;go_ret;exact⟨rfl,⟨p.wv,⟨H.out.1.st 7,HOW.out _⟩,.inl rfl⟩,HT.out _⟩
 have hne:(c==34)=false:=beq_eq_false_iff_ne.2 hc;have HO:Hid ((if c=34 then some ((7:Int),bs) else none)=none):=if_neg hc;go_enter Tryz.func259,Tryz.ntmps259;go_wp2;go_ret
 first|exact Yg.none H.out|(rw[HO.out];exact Yg.none H.out)
theorem Zhw(h:RW w b base vf vW vC wt fl vr p bs):Calls Tryz.prog 261 #[.pointer (some ⟨b,6,none⟩),.int .u8 c] w fun e w'=>Yg b base vf vW vC wt fl vr p bs (if c=34 then some (8,bs) else none) w e w':=by
 obtain⟨c6,_,_,_,_,_,cf⟩:=h.1.part;have H:Hid (RW w b base vf vW vC wt fl vr p bs):=h;have HT:Hid (∀u,Za (fun k=>k=b∨some k=p.wv.ownBlock) w (w.setCell ⟨b,6,none⟩ u)):=fun u=>(Za.refl _ w).setCell (p:=⟨b,6,none⟩) (fun _=>.inl rfl) u
 have HOW:Hid (∀u,Zp (w.setCell ⟨b,6,none⟩ u) base p.wv bs):=fun u=>((Za.refl (fun k=>k=b) w).setCell (p:=⟨b,6,none⟩) (fun _=>rfl) u).row h.2 (fun k hk e=>by
  obtain⟨cur,hc⟩:=Zf h.2 hk;subst e;have:=h.1;unfold RB at this
  rw[this] at hc;simp at hc)
 clear h
 by_cases hc:c=34
 ·subst hc;go_enter Tryz.func261,Tryz.ntmps261;go_wp2;go_ret;exact⟨rfl,⟨p.wv,⟨H.out.1.st 8,HOW.out _⟩,.inl rfl⟩,HT.out _⟩
 have hne:(c==34)=false:=beq_eq_false_iff_ne.2 hc;have HO:Hid ((if c=34 then some ((8:Int),bs) else none)=none):=if_neg hc;go_enter Tryz.func261,Tryz.ntmps261;go_wp2;go_ret
 first|exact Yg.none H.out|(rw[HO.out];exact Yg.none H.out)
end
def QL(bs:List Int)(c:Int):Option (Int×List Int):=if Q3 c=true/\bs.length≠8 then some (6,bs++[c]) else none
def Zaq(c:Int):Bool:=Q3 c||decide (c=32)||decide (c=44)||decide (c=10)||decide (c=34)
def Zej(st:Int)(bs:List Int)(c:Int):Option (Int×List Int):=if Zaq c=true/\bs.length≠8 then some (st,bs++[c]) else none
def ZaL(bs:List Int)(c:Int):Option (Int×List Int):=if c=34/\bs.length≠8 then some (7,bs++[c]) else none
theorem ZeA{b base:Nat}{vf vW vC:Value}{wt:Int}{fl:Bool}{vr:Value}{p:Zy}{bs:List Int}{c:Int}{w w1 w2:World}{st:Int}{q cp N:Nat}(h:RW w b base vf vW vC wt fl vr p bs)(h1:RB w1 b vf vW vC wt fl vr {p with st:=st})(t1:Za (fun k=>k=b) w w1)(hX:w2.ownsRow base 5 1 (.slice (some ⟨q,0,none⟩) (bs.length+1) cp) (bs.length+1) (bs.map (Value.int .u8)++[.int .u8 c]))(hg:(w1.alloc (.cells #[.int .u8 c] 5)).grownBy w2 p.wv.ownBlock)(hd:(Value.slice (some ⟨q,0,none⟩) (bs.length+1) cp).ownBlock=p.wv.ownBlock∨(Value.slice (some ⟨q,0,none⟩) (bs.length+1) cp).ownBlock=some N/\Below N (w1.alloc (.cells #[.int .u8 c] 5)) w2)(hN:w1.heap.size<=N):Yg b base vf vW vC wt fl vr p bs (some (st,bs++[c])) w (.returned (.bool true)) (w2.setCell ⟨b,11,none⟩ (.slice (some ⟨q,0,none⟩) (bs.length+1) cp)):=by
 have hbw:some b≠p.wv.ownBlock:=fun e=>by obtain⟨cur,hc⟩:=Zf h.2 e.symm;have:=h.1;unfold RB at this;rw[this] at hc;simp at hc
 have h1a:RB (w1.alloc (.cells #[.int .u8 c] 5)) b vf vW vC wt fl vr {p with st:=st}:=(Below.heap_alloc w1 _ b h1.lt).trans h1;have h2:RB w2 b vf vW vC wt fl vr {p with st:=st}:=h1a.grown hg hbw;refine⟨rfl,⟨.slice (some ⟨q,0,none⟩) (bs.length+1) cp,⟨h2.wv _,?_⟩,?_⟩,?_⟩
 ·have t:Za (fun k=>k=b) w2 (w2.setCell ⟨b,11,none⟩ (.slice (some ⟨q,0,none⟩) (bs.length+1) cp)):=(Za.refl (fun k=>k=b) w2).setCell (p:=⟨b,11,none⟩) (fun _=>rfl) _
  have hY:=t.row hX (fun k hk e=>by
   obtain⟨cur,hc⟩:=Zf hX hk;subst e;unfold RB at h2
   rw[h2] at hc;simp at hc)
  unfold Zp;simp only[Option.getD_some,Qe,List.map_append,List.map_cons,List.map_nil,List.length_cons,List.length_nil];exact hY
 ·rcases hd with e|⟨e,_⟩
  exact .inl e;exact .inr ⟨N,e,by have:=t1.size;omega⟩
 exact(((t1.mono (fun k _ e=>.inl e)).alloc _).grown hg (fun k e _=>.inr e.symm)).setCell (p:=⟨b,11,none⟩) (fun _=>.inl rfl) _
section
variable (b base:Nat) (vf vW vC:Value) (wt:Int) (fl:Bool) (vr:Value) (p:Zy) (bs:List Int) (c:Int) (w:World)
theorem ZcB(h:RW w b base vf vW vC wt fl vr p bs)(hbs:base<=w.heap.size)(hl:bs.length<=1000):Calls Tryz.prog 260 #[.pointer (some ⟨b,6,none⟩),.int .u8 c] w fun e w'=>Yg b base vf vW vC wt fl vr p bs (QL bs c) w e w':=by
 obtain⟨i5,inf5,iz0,iz1,iz2⟩:=info_parts ZbL;obtain⟨c6,_,_,_,_,c11,cf⟩:=h.1.part;have H:Hid (RW w b base vf vW vC wt fl vr p bs):=h;have HL:Hid (∀W,Calls Tryz.prog 310 #[.int .u8 c] W fun e w'=>e=.returned (.bool (Q3 c))/\w'=W):=fun W=>ZbY c W;have HF:Hid (Calls Tryz.prog 311 #[.pointer (some ⟨b,6,none⟩)] w fun e w'=>e=.returned (.bool (decide (bs.length=8)))/\w'=w):=Zgg b base vf vW vC wt fl vr p bs w h
 have HO1:Hid (Zp (w.setCell ⟨b,6,none⟩ (.int .i64 6)) base p.wv bs):=((Za.refl (fun k=>k=b) w).setCell (p:=⟨b,6,none⟩) (fun _=>rfl) _).row h.2 (fun k hk e=>by
  obtain⟨cur,hc⟩:=Zf h.2 hk;subst e;have:=h.1;unfold RB at this
  rw[this] at hc;simp at hc)
 have HR1:Hid (RB (w.setCell ⟨b,6,none⟩ (.int .i64 6)) b vf vW vC wt fl vr {p with st:=6}):=h.1.st 6;have HT1:Hid (Za (fun k=>k=b) w (w.setCell ⟨b,6,none⟩ (.int .i64 6))):=(Za.refl (fun k=>k=b) w).setCell (p:=⟨b,6,none⟩) (fun _=>rfl) _
 have HSZ:Hid (base<=(w.setCell ⟨b,6,none⟩ (.int .i64 6)).heap.size):=show base<=_ by simp[World.setCell];exact hbs
 have d11:(w.setCell ⟨b,6,none⟩ (.int .i64 6)).cell? ⟨b,11,none⟩=some p.wv:=(h.1.st 6).part.2.2.2.2.2.1;have df:∀o,(w.setCell ⟨b,6,none⟩ (.int .i64 6)).frozen? ⟨b,o,none⟩=false:=(h.1.st 6).part.2.2.2.2.2.2;clear h
 by_cases hlt:Q3 c=true
 ·rw[hlt] at HL
  by_cases h8:bs.length=8
  ·have HO:Hid (QL bs c=none):=if_neg (fun h=>h.2 h8);have hd8:decide (bs.length=8)=true:=decide_eq_true h8;rw[hd8] at HF;clear hlt h8 hd8;go_enter Tryz.func260,Tryz.ntmps260;go_wp2_with (first|(go_at_call 310;refine(HL.out _).mono ?_;rintro e w' ⟨rfl,rfl⟩)|(go_at_call 311;refine(HF.out).mono ?_;rintro e w' ⟨rfl,rfl⟩))
   go_ret;rw[HO.out];exact Yg.none H.out
  have HO:Hid (QL bs c=some (6,bs++[c])):=if_pos ⟨hlt,h8⟩;have hd8:decide (bs.length=8)=false:=decide_eq_false h8;rw[hd8] at HF;clear hlt h8 hd8;go_enter Tryz.func260,Tryz.ntmps260;go_upto_region 4 with(first|(go_at_call 310;refine(HL.out _).mono ?_;rintro e w' ⟨rfl,hw'⟩;obtain rfl:=hw'.symm)|(go_at_call 311;refine(HF.out).mono ?_;rintro e w' ⟨rfl,hw'⟩;obtain rfl:=hw'.symm))
  have HBW:Hid (some b≠p.wv.ownBlock):=fun e=>by obtain⟨cur,hc⟩:=Zf H.out.2 e.symm;have:=H.out.1;unfold RB at this;rw[this] at hc;simp at hc
  generalize w.setCell ⟨b,6,none⟩ (.int .i64 6)=w1 at *;have hs1:=HSZ.out;go_wp2_with (at_builtin;refine Zg rfl (.tmp 19) (.tmp 21) 66 rfl base 5 i5 (.int .u8 0) 1 1 Tryz.underlying66 inf5 iz0 iz1 iz2 rfl (by decide) p.wv bs.length (bs.map (Value.int .u8)) rfl (World.ownsRow.alloc HO1.out _) ⟨w1.heap.size,0,none⟩ 1 1 [.int .u8 c] rfl rfl (Zr w1 #[.int .u8 c] 5) (by intro u hu;simp only[List.mem_cons,List.not_mem_nil,or_false] at hu;rcases hu with rfl;rfl) (by decide) (by unfold maxLen;omega) (by omega) (by simp;omega) ?_)
  intro y w2 hX;obtain⟨ho,hg,hd,_,q,cp,rfl⟩:=hX.out;have h1a:RB (w1.alloc (.cells #[.int .u8 c] 5)) b vf vW vC wt fl vr {p with st:=6}:=(Below.heap_alloc w1 _ b HR1.out.lt).trans HR1.out;have h2:RB w2 b vf vW vC wt fl vr {p with st:=6}:=h1a.grown hg HBW.out;obtain⟨_,_,_,_,_,g11,gf⟩:=h2.part;have HFIN:Hid (Yg b base vf vW vC wt fl vr p bs (some (6,bs++[c])) w (.returned (.bool true)) (w2.setCell ⟨b,11,none⟩ (.slice (some ⟨q,0,none⟩) (bs.length+1) cp))):=ZeA H.out HR1.out HT1.out ho hg hd (by omega);clear hX ho hg hd h1a h2 c6 c11 cf d11 df;go_wp2;go_ret;rw[HO.out];exact HFIN.out
 have HO:Hid (QL bs c=none):=if_neg (fun h=>hlt h.1)
 have hf:Q3 c=false:=by simpa using hlt
 rw[hf] at HL;clear hlt hf;go_enter Tryz.func260,Tryz.ntmps260;go_wp2_with (go_at_call 310;refine(HL.out _).mono ?_;rintro e w' ⟨rfl,rfl⟩)
 go_ret;rw[HO.out];exact Yg.none H.out
end
theorem Zgj(c:Int)(w:World):Calls Tryz.prog 312 #[.int .u8 c] w fun e w'=>e=.returned (.bool (Zaq c))/\w'=w:=by
 have HL:Hid (∀W,Calls Tryz.prog 310 #[.int .u8 c] W fun e w'=>e=.returned (.bool (Q3 c))/\w'=W):=fun W=>ZbY c W
 by_cases k0:Q3 c=true
 ·have HO:Hid (Zaq c=true):=(by show Zaq c=true;unfold Zaq;rw[k0];rfl);rw[k0] at HL;clear k0;go_enter Tryz.func312,Tryz.ntmps312;go_wp2_with (go_at_call 310;refine(HL.out _).mono ?_;rintro e w' ⟨rfl,hw'⟩;obtain rfl:=hw'.symm)
  go_ret;rw[HO.out];exact⟨rfl,rfl⟩
 have k0':Q3 c=false:=by simpa using k0
 have HO:Hid (Zaq c=(decide (c=32)||decide (c=44)||decide (c=10)||decide (c=34))):=(by show Zaq c=_;unfold Zaq;rw[k0',Bool.false_or]);rw[k0'] at HL;clear k0 k0';have hcase:c=32∨c=44∨c=10∨c=34∨(¬c=32/\¬c=44/\¬c=10/\¬c=34):=by omega
 rcases hcase with rfl|rfl|rfl|rfl|⟨k1,k2,k3,k4⟩
 all_goals try
  have j1:(c==32)=false:=beq_eq_false_iff_ne.2 k1;have j2:(c==44)=false:=beq_eq_false_iff_ne.2 k2;have j3:(c==10)=false:=beq_eq_false_iff_ne.2 k3;have j4:(c==34)=false:=beq_eq_false_iff_ne.2 k4
 all_goals go_enter Tryz.func312,Tryz.ntmps312
 all_goals go_wp2_with (go_at_call 310;refine(HL.out _).mono ?_;rintro e w' ⟨rfl,hw'⟩;obtain rfl:=hw'.symm)
 all_goals go_ret
 all_goals refine⟨?_,rfl⟩
 all_goals rw[HO.out]
 all_goals first|rfl|simp_all
section
variable (b base:Nat) (vf vW vC:Value) (wt:Int) (fl:Bool) (vr:Value) (p:Zy) (bs:List Int) (c:Int) (w:World)
theorem ZgV(h:RW w b base vf vW vC wt fl vr p bs)(hbs:base<=w.heap.size)(hl:bs.length<=1000):Calls Tryz.prog 263 #[.pointer (some ⟨b,6,none⟩),.int .u8 c] w fun e w'=>Yg b base vf vW vC wt fl vr p bs (ZaL bs c) w e w':=by
 obtain⟨i5,inf5,iz0,iz1,iz2⟩:=info_parts ZbL;obtain⟨c6,_,_,_,_,c11,cf⟩:=h.1.part;have H:Hid (RW w b base vf vW vC wt fl vr p bs):=h;have HL:Hid (∀W,Calls Tryz.prog 310 #[.int .u8 c] W fun e w'=>e=.returned (.bool (Q3 c))/\w'=W):=fun W=>ZbY c W;have HF:Hid (Calls Tryz.prog 311 #[.pointer (some ⟨b,6,none⟩)] w fun e w'=>e=.returned (.bool (decide (bs.length=8)))/\w'=w):=Zgg b base vf vW vC wt fl vr p bs w h
 have HBW:Hid (some b≠p.wv.ownBlock):=fun e=>by obtain⟨cur,hc⟩:=Zf h.2 e.symm;have:=h.1;unfold RB at this;rw[this] at hc;simp at hc
 have HO1:Hid (Zp (w.setCell ⟨b,6,none⟩ (.int .i64 7)) base p.wv bs):=((Za.refl (fun k=>k=b) w).setCell (p:=⟨b,6,none⟩) (fun _=>rfl) _).row h.2 (fun k hk e=>by
  obtain⟨cur,hc⟩:=Zf h.2 hk;subst e;have:=h.1;unfold RB at this
  rw[this] at hc;simp at hc)
 have HR1:Hid (RB (w.setCell ⟨b,6,none⟩ (.int .i64 7)) b vf vW vC wt fl vr {p with st:=7}):=h.1.st 7;have HT1:Hid (Za (fun k=>k=b) w (w.setCell ⟨b,6,none⟩ (.int .i64 7))):=(Za.refl (fun k=>k=b) w).setCell (p:=⟨b,6,none⟩) (fun _=>rfl) _
 have HSZ:Hid (base<=(w.setCell ⟨b,6,none⟩ (.int .i64 7)).heap.size):=show base<=_ by simp[World.setCell];exact hbs
 have d11:(w.setCell ⟨b,6,none⟩ (.int .i64 7)).cell? ⟨b,11,none⟩=some p.wv:=(h.1.st 7).part.2.2.2.2.2.1;have df:∀o,(w.setCell ⟨b,6,none⟩ (.int .i64 7)).frozen? ⟨b,o,none⟩=false:=(h.1.st 7).part.2.2.2.2.2.2;clear h HL
 by_cases hc:c=34
 ·subst hc
  by_cases h8:bs.length=8
  ·have HO:Hid (ZaL bs 34=none):=if_neg (fun h=>h.2 h8);have hd8:decide (bs.length=8)=true:=decide_eq_true h8;rw[hd8] at HF;clear h8 hd8;go_enter Tryz.func263,Tryz.ntmps263;go_wp2_with ((go_at_call 311;refine(HF.out).mono ?_;rintro e w' ⟨rfl,hw'⟩;obtain rfl:=hw'.symm))
   go_ret;rw[HO.out];exact Yg.none H.out
  have HO:Hid (ZaL bs 34=some (7,bs++[34])):=if_pos ⟨rfl,h8⟩;have hd8:decide (bs.length=8)=false:=decide_eq_false h8;rw[hd8] at HF;clear h8 hd8;go_enter Tryz.func263,Tryz.ntmps263;go_upto_region 4 with((go_at_call 311;refine(HF.out).mono ?_;rintro e w' ⟨rfl,hw'⟩;obtain rfl:=hw'.symm))
  generalize w.setCell ⟨b,6,none⟩ (.int .i64 7)=w1 at *;have hs1:=HSZ.out;go_wp2_with (at_builtin;refine Zg rfl (.tmp 18) (.tmp 20) 66 rfl base 5 i5 (.int .u8 0) 1 1 Tryz.underlying66 inf5 iz0 iz1 iz2 rfl (by decide) p.wv bs.length (bs.map (Value.int .u8)) rfl (World.ownsRow.alloc HO1.out _) ⟨w1.heap.size,0,none⟩ 1 1 [.int .u8 34] rfl rfl (Zr w1 #[.int .u8 34] 5) (by intro u hu;simp only[List.mem_cons,List.not_mem_nil,or_false] at hu;rcases hu with rfl;rfl) (by decide) (by unfold maxLen;omega) (by omega) (by simp;omega) ?_)
  intro y w2 hX;obtain⟨ho,hg,hd,_,q,cp,rfl⟩:=hX.out;have h1a:RB (w1.alloc (.cells #[.int .u8 34] 5)) b vf vW vC wt fl vr {p with st:=7}:=(Below.heap_alloc w1 _ b HR1.out.lt).trans HR1.out;have h2:RB w2 b vf vW vC wt fl vr {p with st:=7}:=h1a.grown hg HBW.out;obtain⟨_,_,_,_,_,g11,gf⟩:=h2.part;have HFIN:Hid (Yg b base vf vW vC wt fl vr p bs (some (7,bs++[34])) w (.returned (.bool true)) (w2.setCell ⟨b,11,none⟩ (.slice (some ⟨q,0,none⟩) (bs.length+1) cp))):=ZeA H.out HR1.out HT1.out ho hg hd (by omega);clear hX ho hg hd h1a h2 c6 c11 cf d11 df;go_wp2;go_ret;rw[HO.out];exact HFIN.out
 have HO:Hid (ZaL bs c=none):=if_neg (fun h=>hc h.1);have hne:(c==34)=false:=beq_eq_false_iff_ne.2 hc;go_enter Tryz.func263,Tryz.ntmps263;go_wp2;go_ret;rw[HO.out];exact Yg.none H.out
theorem ZiH(h:RW w b base vf vW vC wt fl vr p bs)(hbs:base<=w.heap.size)(hl:bs.length<=1000):Calls Tryz.prog 262 #[.pointer (some ⟨b,6,none⟩),.int .u8 c] w fun e w'=>Yg b base vf vW vC wt fl vr p bs (Zej p.st bs c) w e w':=by
 obtain⟨i5,inf5,iz0,iz1,iz2⟩:=info_parts ZbL;obtain⟨c6,_,_,_,_,c11,cf⟩:=h.1.part;have H:Hid (RW w b base vf vW vC wt fl vr p bs):=h;have HL:Hid (∀W,Calls Tryz.prog 312 #[.int .u8 c] W fun e w'=>e=.returned (.bool (Zaq c))/\w'=W):=fun W=>Zgj c W;have HF:Hid (Calls Tryz.prog 311 #[.pointer (some ⟨b,6,none⟩)] w fun e w'=>e=.returned (.bool (decide (bs.length=8)))/\w'=w):=Zgg b base vf vW vC wt fl vr p bs w h
 have HBW:Hid (some b≠p.wv.ownBlock):=fun e=>by obtain⟨cur,hc⟩:=Zf h.2 e.symm;have:=h.1;unfold RB at this;rw[this] at hc;simp at hc
 have HO1:Hid (Zp w base p.wv bs):=h.2;have HR1:Hid (RB w b vf vW vC wt fl vr {p with st:=p.st}):=h.1;have HT1:Hid (Za (fun k=>k=b) w w):=Za.refl _ _;have HSZ:Hid (base<=w.heap.size):=hbs;have d11:w.cell? ⟨b,11,none⟩=some p.wv:=h.1.part.2.2.2.2.2.1;have df:∀o,w.frozen? ⟨b,o,none⟩=false:=h.1.part.2.2.2.2.2.2;clear h
 by_cases hs:Zaq c=true
 ·rw[hs] at HL
  by_cases h8:bs.length=8
  ·have HO:Hid (Zej p.st bs c=none):=if_neg (fun h=>h.2 h8);have hd8:decide (bs.length=8)=true:=decide_eq_true h8;rw[hd8] at HF;clear h8 hd8 hs;go_enter Tryz.func262,Tryz.ntmps262;go_wp2_with (first|(go_at_call 312;refine(HL.out _).mono ?_;rintro e w' ⟨rfl,hw'⟩;obtain rfl:=hw'.symm)|(go_at_call 311;refine(HF.out).mono ?_;rintro e w' ⟨rfl,hw'⟩;obtain rfl:=hw'.symm))
   go_ret;rw[HO.out];exact Yg.none H.out
  have HO:Hid (Zej p.st bs c=some (p.st,bs++[c])):=if_pos ⟨hs,h8⟩;have hd8:decide (bs.length=8)=false:=decide_eq_false h8;rw[hd8] at HF;clear h8 hd8 hs;go_enter Tryz.func262,Tryz.ntmps262;go_upto_region 3 with(first|(go_at_call 312;refine(HL.out _).mono ?_;rintro e w' ⟨rfl,hw'⟩;obtain rfl:=hw'.symm)|(go_at_call 311;refine(HF.out).mono ?_;rintro e w' ⟨rfl,hw'⟩;obtain rfl:=hw'.symm))
  have hs1:=HSZ.out;go_wp2_with (at_builtin;refine Zg rfl (.tmp 16) (.tmp 18) 66 rfl base 5 i5 (.int .u8 0) 1 1 Tryz.underlying66 inf5 iz0 iz1 iz2 rfl (by decide) p.wv bs.length (bs.map (Value.int .u8)) rfl (World.ownsRow.alloc HO1.out _) ⟨w.heap.size,0,none⟩ 1 1 [.int .u8 c] rfl rfl (Zr w #[.int .u8 c] 5) (by intro u hu;simp only[List.mem_cons,List.not_mem_nil,or_false] at hu;rcases hu with rfl;rfl) (by decide) (by unfold maxLen;omega) (by omega) (by simp;omega) ?_)
  intro y w2 hX;obtain⟨ho,hg,hd,_,q,cp,rfl⟩:=hX.out;have h1a:RB (w.alloc (.cells #[.int .u8 c] 5)) b vf vW vC wt fl vr {p with st:=p.st}:=(Below.heap_alloc w _ b HR1.out.lt).trans HR1.out;have h2:RB w2 b vf vW vC wt fl vr {p with st:=p.st}:=h1a.grown hg HBW.out;obtain⟨_,_,_,_,_,g11,gf⟩:=h2.part;have HFIN:Hid (Yg b base vf vW vC wt fl vr p bs (some (p.st,bs++[c])) w (.returned (.bool true)) (w2.setCell ⟨b,11,none⟩ (.slice (some ⟨q,0,none⟩) (bs.length+1) cp))):=ZeA H.out HR1.out HT1.out ho hg hd (by omega);clear hX ho hg hd h1a h2 c6 c11 cf d11 df;go_wp2;go_ret;rw[HO.out];exact HFIN.out
 have hs':Zaq c=false:=by simpa using hs
 have HO:Hid (Zej p.st bs c=none):=if_neg (fun h=>hs h.1);rw[hs'] at HL;clear hs hs';go_enter Tryz.func262,Tryz.ntmps262;go_wp2_with (first|(go_at_call 312;refine(HL.out _).mono ?_;rintro e w' ⟨rfl,hw'⟩;obtain rfl:=hw'.symm)|(go_at_call 311;refine(HF.out).mono ?_;rintro e w' ⟨rfl,hw'⟩;obtain rfl:=hw'.symm))
 go_ret;rw[HO.out];exact Yg.none H.out
end
theorem Zom{w w' w'':World}{r:Option Nat}(h:w.grownBy w' r)(k:w'.grownBy w'' r):w.grownBy w'' r:=
 ⟨k.os.trans h.os,k.tape.trans h.tape,k.output.trans h.output,Nat.le_trans h.size k.size,fun i hi hn=>(k.block i (Qh hi h.size) hn).trans (h.block i hi hn)⟩
def ZW(u:Int)(p:Zy)(c:Int):Option Zy:=
 if p.st=0 then(Q4 p c).orElse (fun _=>YZ u p c)
 else if p.st=1 then YZ u p c
 else if p.st=3 then(QG p c).orElse (fun _=>QS p c)
 else if p.st=2 then QS p c
 else QJ p c
def Z2(st:Int)(bs:List Int)(c:Int):Option (Int×List Int):=
 if st=0 then(if c=34 then some (7,bs) else none).orElse (fun _=>QL bs c)
 else if st=6 then QL bs c
 else if st=7 then(if c=34 then some (8,bs) else none).orElse (fun _=>Zej st bs c)
 else ZaL bs c
section
variable {b:Nat} {vf vW vC:Value} {wt:Int} {fl:Bool} {vr:Value} {p:Zy}
theorem Yf.first{w w1:World}{e:Ending}{o:Option Zy}(h:Yf b vf vW vC wt fl vr p o w e w1):(∃q,o=some q/\e=.returned (.bool true))∨(o=none/\e=.returned (.bool false)/\RB w1 b vf vW vC wt fl vr p/\w.grownBy w1 (some b)):=by
 obtain⟨h1,h2,h3⟩:=h
 cases o with
 |none=>exact .inr ⟨rfl,h1,h2,h3⟩
 |some q=>exact .inl ⟨q,rfl,h1⟩
theorem Yf.second{w w1 w2:World}{e:Ending}{o:Option Zy}(hg:w.grownBy w1 (some b))(h:Yf b vf vW vC wt fl vr p o w1 e w2):Yf b vf vW vC wt fl vr p o w e w2:=⟨h.1,h.2.1,Zom hg h.2.2⟩
theorem Yf.ends{w w1:World}{e:Ending}{o:Option Zy}(h:Yf b vf vW vC wt fl vr p o w e w1):e=.returned (.bool o.isSome):=h.1
end
theorem ZgU(b:Nat)(vf vW vC:Value)(wt:Int)(fl:Bool)(vr:Value)(p:Zy)(c u:Int)(w:World)(h:RB w b vf vW vC wt fl vr p)(hv1:0<=u)(hv2:u<=1000000)(hu1:0<=p.unit)(hu2:p.unit<=1000000)(hn1:0<=p.num)(hn2:p.num<=1000000000000)(hg1:0<=p.dig)(hg2:p.dig<=1000):Calls Tryz.prog 215 #[.pointer (some ⟨b,6,none⟩),.int .u8 c,.int .i64 u] w fun e w'=>Yf b vf vW vC wt fl vr p (ZW u p c) w e w':=by
 obtain⟨c6,_,_,_,_,_,_⟩:=h.part;have H:Hid (RB w b vf vW vC wt fl vr p):=h;clear h
 by_cases s0:p.st=0
 ·have HO:Hid (ZW u p c=(Q4 p c).orElse (fun _=>YZ u p c)):=if_pos s0;rw[s0] at c6;clear s0;go_enter Tryz.func215,Tryz.ntmps215;go_wp2_with fail
  refine(Zhv b vf vW vC wt fl vr p c w H.out).mono ?_;rintro e w1 ht;have HT:Hid (Yf b vf vW vC wt fl vr p (Q4 p c) w e w1):=ht
  rcases ht.first with⟨q,hq,rfl⟩|⟨hq,rfl,hR,hG⟩
  ·have HQ:Hid (Q4 p c=some q):=hq;clear ht hq;go_wp2;go_ret;rw[HO.out,HQ.out];have:=HT.out;rw[HQ.out] at this;exact this
  have HQ:Hid (Q4 p c=none):=hq;have HR:Hid (RB w1 b vf vW vC wt fl vr p/\w.grownBy w1 (some b)):=⟨hR,hG⟩;clear ht hq hR hG HT;go_wp2_with fail
  refine(Zdq b vf vW vC wt fl vr p c w1 HR.out.1 u hv1 hv2).mono ?_;rintro e w2 ht;have HT:Hid (Yf b vf vW vC wt fl vr p (YZ u p c) w e w2):=ht.second HR.out.2;obtain rfl:=ht.ends;clear ht;go_wp2;go_ret;rw[HO.out,HQ.out];exact HT.out
 by_cases s1:p.st=1
 ·have HO:Hid (ZW u p c=YZ u p c):=(by show ZW u p c=_;unfold ZW;rw[if_neg s0,if_pos s1]);rw[s1] at c6;clear s0 s1;go_enter Tryz.func215,Tryz.ntmps215;go_wp2_with fail
  refine(Zdq b vf vW vC wt fl vr p c w H.out u hv1 hv2).mono ?_;rintro e w2 ht;have HT:Hid (Yf b vf vW vC wt fl vr p (YZ u p c) w e w2):=ht;obtain rfl:=ht.ends;clear ht;go_wp2;go_ret;rw[HO.out];exact HT.out
 by_cases s3:p.st=3
 ·have HO:Hid (ZW u p c=(QG p c).orElse (fun _=>QS p c)):=(by show ZW u p c=_;unfold ZW;rw[if_neg s0,if_neg s1,if_pos s3]);rw[s3] at c6;clear s0 s1 s3;go_enter Tryz.func215,Tryz.ntmps215;go_wp2_with fail
  refine(Zhu b vf vW vC wt fl vr p c w H.out hu1 hu2 hn1 hn2 hg1 hg2).mono ?_;rintro e w1 ht;have HT:Hid (Yf b vf vW vC wt fl vr p (QG p c) w e w1):=ht
  rcases ht.first with⟨q,hq,rfl⟩|⟨hq,rfl,hR,hG⟩
  ·have HQ:Hid (QG p c=some q):=hq;clear ht hq;go_wp2;go_ret;rw[HO.out,HQ.out];have:=HT.out;rw[HQ.out] at this;exact this
  have HQ:Hid (QG p c=none):=hq;have HR:Hid (RB w1 b vf vW vC wt fl vr p/\w.grownBy w1 (some b)):=⟨hR,hG⟩;clear ht hq hR hG HT;go_wp2_with fail
  refine(Zdr b vf vW vC wt fl vr p c w1 HR.out.1).mono ?_;rintro e w2 ht;have HT:Hid (Yf b vf vW vC wt fl vr p (QS p c) w e w2):=ht.second HR.out.2;obtain rfl:=ht.ends;clear ht;go_wp2;go_ret;rw[HO.out,HQ.out];exact HT.out
 by_cases s2:p.st=2
 ·have HO:Hid (ZW u p c=QS p c):=(by show ZW u p c=_;unfold ZW;rw[if_neg s0,if_neg s1,if_neg s3,if_pos s2]);rw[s2] at c6;clear s0 s1 s3 s2;go_enter Tryz.func215,Tryz.ntmps215;go_wp2_with fail
  refine(Zdr b vf vW vC wt fl vr p c w H.out).mono ?_;rintro e w2 ht;have HT:Hid (Yf b vf vW vC wt fl vr p (QS p c) w e w2):=ht;obtain rfl:=ht.ends;clear ht;go_wp2;go_ret;rw[HO.out];exact HT.out
 have HO:Hid (ZW u p c=QJ p c):=(by show ZW u p c=_;unfold ZW;rw[if_neg s0,if_neg s1,if_neg s3,if_neg s2]);have e0:(p.st==0)=false:=beq_eq_false_iff_ne.2 s0;have e1:(p.st==1)=false:=beq_eq_false_iff_ne.2 s1;have e2:(p.st==2)=false:=beq_eq_false_iff_ne.2 s2;have e3:(p.st==3)=false:=beq_eq_false_iff_ne.2 s3;go_enter Tryz.func215,Tryz.ntmps215;go_wp2_with fail
 refine(ZgS b vf vW vC wt fl vr p c w H.out hu1 hu2 hn1 hn2).mono ?_;rintro e w2 ht;have HT:Hid (Yf b vf vW vC wt fl vr p (QJ p c) w e w2):=ht;obtain rfl:=ht.ends;clear ht;go_wp2;go_ret;rw[HO.out];exact HT.out
section
variable {b base:Nat} {vf vW vC:Value} {wt:Int} {fl:Bool} {vr:Value} {p:Zy} {bs:List Int}
theorem Yg.first{w w1:World}{e:Ending}{o:Option (Int×List Int)}(h:Yg b base vf vW vC wt fl vr p bs o w e w1):(∃q,o=some q/\e=.returned (.bool true))∨(o=Option.none/\e=.returned (.bool false)/\∃v',RW w1 b base vf vW vC wt fl vr {p with wv:=v'} bs/\(v'.ownBlock=p.wv.ownBlock∨∃k,v'.ownBlock=some k/\w.heap.size<=k)/\Za (fun k=>k=b∨some k=p.wv.ownBlock) w w1):=by
 obtain⟨h1,⟨v',h2,h3⟩,h4⟩:=h
 cases o with
 |none=>exact .inr ⟨rfl,h1,v',h2,h3,h4⟩
 |some q=>exact .inl ⟨q,rfl,h1⟩
theorem Yg.second{w w1 w2:World}{e:Ending}{o:Option (Int×List Int)}{v':Value}(hv:v'.ownBlock=p.wv.ownBlock∨∃k,v'.ownBlock=some k/\w.heap.size<=k)(ht:Za (fun k=>k=b∨some k=p.wv.ownBlock) w w1)(h:Yg b base vf vW vC wt fl vr {p with wv:=v'} bs o w1 e w2):Yg b base vf vW vC wt fl vr p bs o w e w2:=by
 obtain⟨h1,⟨v2,h2,h3⟩,h4⟩:=h;refine⟨h1,⟨v2,h2,?_⟩,⟨h4.os.trans ht.os,h4.tape.trans ht.tape,h4.output.trans ht.output,Nat.le_trans ht.size h4.size,fun k hk hn=>(h4.block k (Qh hk ht.size) (fun e=>?_)).trans (ht.block k hk hn)⟩⟩
 ·rcases h3 with h3|⟨k,h3,hk⟩
  ·rcases hv with hv|⟨k,hv,hk⟩
   exact .inl (h3.trans hv);exact .inr ⟨k,h3.trans hv,hk⟩
  exact .inr ⟨k,h3,by have:=ht.size;omega⟩
 rcases e with e|e
 exact hn (.inl e)
 rcases hv with hv|⟨k',hv,hk'⟩
 exact hn (.inr (e.trans hv));have e2:some k=some k':=e.trans hv;simp at e2;omega
theorem Yg.ends{w w1:World}{e:Ending}{o:Option (Int×List Int)}(h:Yg b base vf vW vC wt fl vr p bs o w e w1):e=.returned (.bool o.isSome):=h.1
end
theorem ZiI(b base:Nat)(vf vW vC:Value)(wt:Int)(fl:Bool)(vr:Value)(p:Zy)(bs:List Int)(c:Int)(w:World)(h:RW w b base vf vW vC wt fl vr p bs)(hbs:base<=w.heap.size)(hl:bs.length<=1000):Calls Tryz.prog 209 #[.pointer (some ⟨b,6,none⟩),.int .u8 c] w fun e w'=>Yg b base vf vW vC wt fl vr p bs (Z2 p.st bs c) w e w':=by
 obtain⟨c6,_,_,_,_,_,_⟩:=h.1.part;have H:Hid (RW w b base vf vW vC wt fl vr p bs):=h;clear h
 by_cases s0:p.st=0
 ·have HO:Hid (Z2 p.st bs c=(if c=34 then some ((7:Int),bs) else none).orElse (fun _=>QL bs c)):=if_pos s0;rw[s0] at c6;clear s0;go_enter Tryz.func209,Tryz.ntmps209;go_wp2_with fail
  refine(Zfx b base vf vW vC wt fl vr p bs c w H.out).mono ?_;rintro e w1 ht;have HT:Hid (Yg b base vf vW vC wt fl vr p bs (if c=34 then some (7,bs) else none) w e w1):=ht
  rcases ht.first with⟨q,hq,rfl⟩|⟨hq,rfl,v',hR,hV,hTo⟩
  ·have HQ:Hid ((if c=34 then some ((7:Int),bs) else none)=some q):=hq;clear ht hq;go_wp2;go_ret;rw[HO.out,HQ.out];have:=HT.out;rw[HQ.out] at this;exact this
  have HQ:Hid ((if c=34 then some ((7:Int),bs) else none)=none):=hq;have HR:Hid (RW w1 b base vf vW vC wt fl vr {p with wv:=v'} bs/\(v'.ownBlock=p.wv.ownBlock∨∃k,v'.ownBlock=some k/\w.heap.size<=k)/\Za (fun k=>k=b∨some k=p.wv.ownBlock) w w1):=⟨hR,hV,hTo⟩;have hb1:base<=w1.heap.size:=(by have:=hTo.size;omega);clear ht hq hR hV hTo HT;go_wp2_with fail
  refine(ZcB b base vf vW vC wt fl vr {p with wv:=v'} bs c w1 HR.out.1 hb1 hl).mono ?_;rintro e w2 ht;have HT:Hid (Yg b base vf vW vC wt fl vr p bs (QL bs c) w e w2):=ht.second HR.out.2.1 HR.out.2.2;obtain rfl:=ht.ends;clear ht;go_wp2;go_ret;rw[HO.out,HQ.out];exact HT.out
 by_cases s6:p.st=6
 ·have HO:Hid (Z2 p.st bs c=QL bs c):=(by show Z2 p.st bs c=_;unfold Z2;rw[if_neg s0,if_pos s6]);rw[s6] at c6;clear s0 s6;go_enter Tryz.func209,Tryz.ntmps209;go_wp2_with fail
  refine(ZcB b base vf vW vC wt fl vr p bs c w H.out hbs hl).mono ?_;rintro e w2 ht;have HT:Hid (Yg b base vf vW vC wt fl vr p bs (QL bs c) w e w2):=ht;obtain rfl:=ht.ends;clear ht;go_wp2;go_ret;rw[HO.out];exact HT.out
 by_cases s7:p.st=7
 ·have HO:Hid (Z2 p.st bs c=(if c=34 then some ((8:Int),bs) else none).orElse (fun _=>Zej p.st bs c)):=(by show Z2 p.st bs c=_;unfold Z2;rw[if_neg s0,if_neg s6,if_pos s7]);rw[s7] at c6;clear s0 s6 s7;go_enter Tryz.func209,Tryz.ntmps209;go_wp2_with fail
  refine(Zhw b base vf vW vC wt fl vr p bs c w H.out).mono ?_;rintro e w1 ht;have HT:Hid (Yg b base vf vW vC wt fl vr p bs (if c=34 then some (8,bs) else none) w e w1):=ht
  rcases ht.first with⟨q,hq,rfl⟩|⟨hq,rfl,v',hR,hV,hTo⟩
  ·have HQ:Hid ((if c=34 then some ((8:Int),bs) else none)=some q):=hq;clear ht hq;go_wp2;go_ret;rw[HO.out,HQ.out];have:=HT.out;rw[HQ.out] at this;exact this
  have HQ:Hid ((if c=34 then some ((8:Int),bs) else none)=none):=hq;have HR:Hid (RW w1 b base vf vW vC wt fl vr {p with wv:=v'} bs/\(v'.ownBlock=p.wv.ownBlock∨∃k,v'.ownBlock=some k/\w.heap.size<=k)/\Za (fun k=>k=b∨some k=p.wv.ownBlock) w w1):=⟨hR,hV,hTo⟩;have hb1:base<=w1.heap.size:=(by have:=hTo.size;omega);clear ht hq hR hV hTo HT;go_wp2_with fail
  refine(ZiH b base vf vW vC wt fl vr {p with wv:=v'} bs c w1 HR.out.1 hb1 hl).mono ?_;rintro e w2 ht;have HT:Hid (Yg b base vf vW vC wt fl vr p bs (Zej p.st bs c) w e w2):=ht.second HR.out.2.1 HR.out.2.2;obtain rfl:=ht.ends;clear ht;go_wp2;go_ret;rw[HO.out,HQ.out];exact HT.out
 have HO:Hid (Z2 p.st bs c=ZaL bs c):=(by show Z2 p.st bs c=_;unfold Z2;rw[if_neg s0,if_neg s6,if_neg s7]);have e0:(p.st==0)=false:=beq_eq_false_iff_ne.2 s0;have e6:(p.st==6)=false:=beq_eq_false_iff_ne.2 s6;have e7:(p.st==7)=false:=beq_eq_false_iff_ne.2 s7;go_enter Tryz.func209,Tryz.ntmps209;go_wp2_with fail
 refine(ZgV b base vf vW vC wt fl vr p bs c w H.out hbs hl).mono ?_;rintro e w2 ht;have HT:Hid (Yg b base vf vW vC wt fl vr p bs (ZaL bs c) w e w2):=ht;obtain rfl:=ht.ends;clear ht;go_wp2;go_ret;rw[HO.out];exact HT.out
theorem ZjW(b ub:Nat)(vf vW vC:Value)(wt:Int)(fl:Bool)(vr:Value)(p:Zy)(c u:Int)(w:World)(h:RB w b vf vW vC wt fl vr p)(hub:w.cell? ⟨ub,0,none⟩=some (.int .i64 u))(hv1:0<=u)(hv2:u<=1000000)(hu1:0<=p.unit)(hu2:p.unit<=1000000)(hn1:0<=p.num)(hn2:p.num<=1000000000000)(hg1:0<=p.dig)(hg2:p.dig<=1000):Calls Tryz.prog 214 #[.pointer (some ⟨b,6,none⟩),.int .u8 c,.pointer (some ⟨ub,0,none⟩)] w fun e w'=>Yf b vf vW vC wt fl vr p (ZW u p c) w e w':=by
 have H:Hid (RB w b vf vW vC wt fl vr p):=h;clear h;go_enter Tryz.func214,Tryz.ntmps214;go_wp2_with fail
 refine(ZgU b vf vW vC wt fl vr p c u w H.out hv1 hv2 hu1 hu2 hn1 hn2 hg1 hg2).mono ?_;rintro e w2 ht;have HT:Hid (Yf b vf vW vC wt fl vr p (ZW u p c) w e w2):=ht;obtain rfl:=ht.ends;clear ht;go_wp2;go_ret;exact HT.out
def Zv(c:Int)(n:Nat):Nat:=((if c<0 then -(c+1) else c)%(n:Int)).toNat
theorem Z8(c:Int){n:Nat}(h:0<n):Zv c n<n:=by unfold Zv;have:=Int.emod_lt_of_pos (if c<0 then -(c+1) else c) (show(0:Int)<n by omega);have:=Int.emod_nonneg (if c<0 then -(c+1) else c) (show(n:Int)≠0 by omega);omega
theorem Ys(c:Int)(n:Nat)(w:World)(hc:(Lit.int .i64 c).wf=true)(hn:0<n)(hn2:n<=4000000000000000000):Calls Tryz.prog 17 #[.int .i64 c,.int .i64 (n:Nat)] w fun e w'=>e=.returned (.int .i64 (Zv c n:Nat))/\w'=w:=by
 have hcr: -9223372036854775808<=c/\c<=9223372036854775807:=by simp[Lit.wf,IntKind.min,IntKind.max,IntKind.bits,IntKind.signed] at hc;omega
 by_cases h0:c<0
 ·have q1:IntKind.i64.wrap (c+1)=c+1:=(by simp[IntKind.wrap,IntKind.bits,IntKind.signed];omega);have q2:IntKind.i64.wrap (-(c+1))= -(c+1):=by simp[IntKind.wrap,IntKind.bits,IntKind.signed];omega
  have q3:(-(c+1)).tmod (n:Int)=((Zv c n:Nat):Int):=(by rw[Int.tmod_eq_emod_of_nonneg (by omega)];unfold Zv;rw[if_pos h0,Int.toNat_of_nonneg (Int.emod_nonneg _ (by omega))]);have hne:¬(n:Int)=0:=(by omega);go_enter Tryz.func17,Tryz.ntmps17;go_wp2;go_ret;exact⟨rfl,rfl⟩
 have q3:c.tmod (n:Int)=((Zv c n:Nat):Int):=(by rw[Int.tmod_eq_emod_of_nonneg (by omega)];unfold Zv;rw[if_neg h0,Int.toNat_of_nonneg (Int.emod_nonneg _ (by omega))]);have hne:¬(n:Int)=0:=(by omega);go_enter Tryz.func17,Tryz.ntmps17;go_wp2;go_ret;exact⟨rfl,rfl⟩
def Z9(zs:List Int)(i:Nat):Int:=if zs.length=0 then 0 else zs.getD (i%zs.length) 0
theorem Ze3(a:Option Addr)(n c i:Nat)(zs:List Int)(w:World)(h:ZS w a n zs)(hi:i<=1000000000000000)(hn:n<=9223372036854775807):Calls Tryz.prog 18 #[.slice a n c,.int .i64 (i:Nat)] w fun e w'=>e=.returned (.int .i64 (Z9 zs i))/\w'=w:=by
 unfold Z9;rw[h.1]
 by_cases h0:n=0
 ·rw[if_pos h0];have q:((n:Int)==0)=true:=(by rw[h0];rfl);clear h;subst h0;go_enter Tryz.func18,Tryz.ntmps18;go_wp2;go_ret;exact⟨rfl,rfl⟩
 rw[if_neg h0]
 rcases h.2.2 with e|⟨b,off,ha,hbl,hc⟩
 exact absurd e h0;subst ha;obtain⟨r,hr⟩:∃r,r=i%n:=⟨_,rfl⟩;have hrn:r<n:=(by rw[hr];exact Nat.mod_lt _ (by omega));have c0:=hc r hrn;rw[<- hr];have q1:(i:Int).tmod (n:Int)=(r:Int):=(by rw[Int.tmod_eq_emod_of_nonneg (by omega),hr];simp);have q2:((n:Int)==0)=false:=(by rw[beq_eq_false_iff_ne];omega);have hne:¬(n:Int)=0:=(by omega);have b1:(0:Int)<=(r:Int):=(by omega);have b2:(r:Int)<(n:Int):=(by omega);generalize zs.getD r 0=z at *;clear h hc hr;go_enter Tryz.func18,Tryz.ntmps18;go_wp2;go_ret;exact⟨rfl,rfl⟩
end Go.Proofs.YtfcgnpchbcmdeaaGreat
