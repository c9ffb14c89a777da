import Derived.Test.YtfcgnpchbcmdeaaGreatZfaj
import Derived.Test.YtfcgnpchbcmdeaaGreatZfak
import Derived.Deep.RegionLaw
import Derived.Deep.RegionWith
import Derived.Test.YtfcgnpchbcmdeaaGreatZfac
namespace Go.Proofs.YtfcgnpchbcmdeaaGreat
set_option linter.unusedSimpArgs false
set_option maxRecDepth 100000
set_option maxHeartbeats 4000000
open Go.RowKit
theorem Zam{P:Program}{ops:Array Oper}{o:Oper}{a:Act}{w:World}{K:Act->World->Prop}{Q:Exit->Act->World->Prop}{E:Prop}(hg:o.guard=none)(s x:Operand)(t:TypeId)(hop:o.op=Op.call {callee:=Callee.builtin Builtin.append,args:=#[s,x],argTypes:=#[t,t]})(base:Nat)(e:TypeId)(i:TypeInfo)(z:Value)(size bytes:Nat)(ht:P.underlying t=some (.slice e))(hi:P.info? e=some i)(hz:i.zero=some z)(hsize:i.size=size)(hby:i.bytes=bytes)(hzs:z.cells.size=size)(hsz:0<size)(v:Value)(n:Nat)(xs:List Value)(hs:a.eval s=v)(hown:w.ownsRow base e size v n xs)(ad:Addr)(m c:Nat)(news:List Value)(hx:a.eval x=.slice (some ad) m c)(hl:news.length=m*size)(hnews:∀j u,news[j]? =some u->w.cell? (ad.add j)=some u)(h1:∀u∈news,u.oneCell'=true)(h63:n+m<=maxLen)(hbytes:(n+m)*bytes<=140737488355328)(hbase:base<=w.heap.size)(h:∀v' w',w'.ownsRow base e size v' (n+m) (xs++news)->w.grownBy w' v.ownBlock->K (a.put o.dst v') w'):if Region.wanted o (yielded ops a.tmps)=true then Oper.wp P o a w K Q else E:=by
 have hw:Region.wanted o (yielded ops a.tmps)=true:=(by simp[Region.wanted,hg]);rw[if_pos hw];exact wp_append_own w s x t hop base e i z size bytes ht hi hz hsize hby hzs hsz v n xs hs hown ad m c news hx hl hnews h1 h63 hbytes hbase fun v' w' h2 h3 _=>h v' w' h2 h3
theorem Zfh(aa ab:Option Addr)(a b:List Zm)(ca cb:Nat)(w:World)(hA:Yp w aa a)(hB:Yp w ab b)(ga:Zy a)(gb:Zy b):Calls Tryz.prog 46 #[.slice aa a.length ca,.slice ab b.length cb] w fun e w'=>∃v,e=.returned v/\Zh w' w.heap.size v (Zr a b)/\Below w.heap.size w w':=by
 obtain⟨i0,hinf,hz0,hz1,hz2⟩:=info_parts Zhw;have la:=hA.1;have lb:=hB.1;have HA:Hid (Yp w aa a):=hA;have HB:Hid (Yp w ab b):=hB;have GA:Hid (Zy a):=ga;have GB:Hid (Zy b):=gb;clear hA hB ga gb;have hmk:∀W:World,(Instr.makeSlice 29 (.int .i64 0) (.int .i64 ((a.length:Int)+(b.length:Int)))).run Tryz.prog W=.ok (.slice (some ⟨W.heap.size,0,none⟩) 0 (a.length+b.length)) (W.alloc (.cells (madeCells #[.int .i64 0,.int .i64 0,.int .i64 0,.int .i64 0] ((a.length+b.length)*4)) 98)):=by intro W;have:=run_make (P:=Tryz.prog) W 29 98 i0 _ Tryz.underlying29 hinf hz0 .i64 .i64 0 ((a.length:Int)+(b.length:Int)) (by omega) (by omega) (by rw[hz2];omega) (by omega);rw[hz1] at this;rw[this,show((a.length:Int)+(b.length:Int)).toNat=a.length+b.length by omega];rfl
 have HM:Hid (Zh (w.alloc (.cells (madeCells #[.int .i64 0,.int .i64 0,.int .i64 0,.int .i64 0] ((a.length+b.length)*4)) 98)) w.heap.size (.slice (some ⟨w.heap.size,0,none⟩) 0 (a.length+b.length)) []):=World.ownsRow_made w _ _ (Qa _) (by unfold maxLen;omega) (size_madeCells _ _);go_enter Tryz.func46,Tryz.ntmps46;go_wp2_with fail
 go_loopw [5,6,7] (fun o ti tj wr=>∃(i j:Nat) (out:List Zm),ti=.int .i64 i/\tj=.int .i64 j/\Hid (QY a b i j out/\Zh wr w.heap.size o out)/\Below w.heap.size w wr) (fun _ ti tj _=>(a.length-(intOf ti).toNat)+(b.length-(intOf tj).toNat))
 case atStart=>exact⟨0,0,[],rfl,rfl,⟨⟨⟨Qg _,Qg _,fun _ h=>absurd h (by omega),fun _ h=>absurd h (by omega)⟩,by simp[Zke]⟩,HM.out⟩,(Below.refl _ _).alloc (Qa _) _⟩
 case round=>
  clear HM hmk;obtain⟨i,j,out,rfl,rfl,HR,hbel⟩:=hrel;obtain⟨R,hown⟩:=HR.out;have hlen:=R.len;have hi:=R.st.hi;have hj:=R.st.hj;have hsz:=hbel.size;have HEA:Hid (Yp wr aa a):=HA.out.below hbel;have HEB:Hid (Yp wr ab b):=HB.out.below hbel;have HO:Hid (Zh wr w.heap.size u5 out):=hown;have HRJ:Hid (QY a b i j out):=R;clear HR R hown
  by_cases hil:i<a.length
  ·by_cases hjl:j<b.length
   ·rcases HEA.out with⟨_,h0|⟨b1,o1,rfl,hA⟩⟩;omega;rcases HEB.out with⟨_,h0|⟨b2,o2,rfl,hB⟩⟩;omega;have ga0:=GA.out.at hil;have gb0:=GB.out.at hjl;have hbb1:=hA.lt (by omega);have hbb2:=hB.lt (by omega);obtain⟨a0,a1,a2,a3⟩:wr.cell? ⟨b1,o1+i*4,none⟩=some (.int .i64 (a.getD i e0).v)/\wr.cell? ⟨b1,o1+i*4+1,none⟩=some (.int .i64 (a.getD i e0).lo)/\wr.cell? ⟨b1,o1+i*4+2,none⟩=some (.int .i64 (a.getD i e0).hi)/\wr.cell? ⟨b1,o1+i*4+3,none⟩=some (.int .i64 (a.getD i e0).wt):=⟨hA.v i hil,hA.lo i hil,hA.hi i hil,hA.wt i hil⟩
    obtain⟨c0,c1,c2,c3⟩:wr.cell? ⟨b2,o2+j*4,none⟩=some (.int .i64 (b.getD j e0).v)/\wr.cell? ⟨b2,o2+j*4+1,none⟩=some (.int .i64 (b.getD j e0).lo)/\wr.cell? ⟨b2,o2+j*4+2,none⟩=some (.int .i64 (b.getD j e0).hi)/\wr.cell? ⟨b2,o2+j*4+3,none⟩=some (.int .i64 (b.getD j e0).wt):=⟨hB.v j hjl,hB.lo j hjl,hB.hi j hjl,hB.wt j hjl⟩;have bi1:(0:Int)<=(i:Int):=(by omega);have bi2:(i:Int)<(a.length:Int):=(by omega);have bj1:(0:Int)<=(j:Int):=(by omega);have bj2:(j:Int)<(b.length:Int):=(by omega);clear hA hB
    rcases Int.lt_trichotomy (a.getD i e0).v (b.getD j e0).v with hlt|heq|hgt
    ·have HX:Hid (QY a b (i+1) j (out++[seen b j (a.getD i e0)])):=HRJ.out.a GA.out hil (fun _=>hlt);generalize (b.getD j e0).v=vb at *;generalize a.getD i e0=x at *;clear c1 c2 c3 gb0;obtain⟨g1,g2,g3,g4,g5,g6⟩:=ga0;go_wp2_with fail
     go_region
     go_wp2_with fail
     refine(Qp _ b cb j x _ (HEB.out.below (Below.refl _ _).drew) GB.out hj (by omega)).mono ?_;rintro e w1 ⟨rfl,hb1⟩;have hbw1:Below wr.heap.size wr w1:=(Below.refl _ _).drew.trans hb1;clear hb1;have HO1:Hid (Zh w1 w.heap.size u5 out):=HO.out.below hbw1;have hs1:w.heap.size<=w1.heap.size:=Nat.le_trans hsz hbw1.size;go_wp2_with (at_builtin;refine wpList_append_own _ rfl (.tmp 52) (.tmp 60) 29 rfl w.heap.size 98 i0 (.agg #[.int .i64 0,.int .i64 0,.int .i64 0,.int .i64 0]) 4 32 Tryz.underlying29 hinf hz0 hz1 hz2 rfl (by decide) _ out.length (ZO out) rfl (HO1.out.alloc _) ⟨w1.heap.size,0,none⟩ 1 1 [.int .i64 (seen b j x).v,.int .i64 (seen b j x).lo,.int .i64 (seen b j x).hi,.int .i64 (seen b j x).wt] rfl rfl ?_ ?_ ?_ ?_ ?_ ?_)
     exact Zu w1 #[.int .i64 (seen b j x).v,.int .i64 (seen b j x).lo,.int .i64 (seen b j x).hi,.int .i64 (seen b j x).wt] 98
     ·intro u hu;simp at hu;rcases hu with rfl|rfl|rfl|rfl<;>rfl
     unfold maxLen;omega;omega;simp;omega;intro v3 w3 hown3 hgrow _;have hb3:Below w.heap.size wr w3:=((hbw1.mono hsz).alloc hs1 _).grown hgrow (by simp;omega) (fun k hk=>(HO1.out.lt k hk).1);have hb4:Below w.heap.size w w3:=hbel.trans hb3;have HF:Hid (Zh w3 w.heap.size v3 (out++[seen b j x])):=Zh.more hown3;clear hown3 hgrow;go_wp2;go_roundw;case rel=>exact⟨i+1,j,_,by go_num,by go_num,⟨HX.out,HF.out⟩,hb4⟩
     case measure=>simp[intOf];omega
    ·have HX:Hid (QY a b (i+1) (j+1) (out++[Zan (a.getD i e0) (b.getD j e0)])):=HRJ.out.ab GA.out GB.out hil hjl heq;generalize a.getD i e0=x at *;generalize b.getD j e0=y at *;obtain⟨g1,g2,g3,g4,g5,g6⟩:=ga0;obtain⟨k1,k2,k3,k4,k5,k6⟩:=gb0;have hnl:¬x.v<y.v:=(by omega);have hng:¬y.v<x.v:=(by omega);have HEQ:Hid (x.v=y.v):=heq;clear heq;go_wp2_with fail
     go_region
     go_wp2_with fail
     go_region
     go_wp2_with fail
     go_region_law (first|(refine Zam rfl (.tmp 24) (.tmp 34) 29 rfl w.heap.size 98 i0 (.agg #[.int .i64 0,.int .i64 0,.int .i64 0,.int .i64 0]) 4 32 Tryz.underlying29 hinf hz0 hz1 hz2 rfl (by decide) u5 out.length (ZO out) (by simp[Act.eval]) ((HO.out.below ((Below.refl _ _).drew.drew.drew.trans hb1)).alloc _) ⟨w1.heap.size,0,none⟩ 1 1 [.int .i64 (Zan x y).v,.int .i64 (Zan x y).lo,.int .i64 (Zan x y).hi,.int .i64 (Zan x y).wt] (by simp[Act.eval]) rfl (Zu w1 #[.int .i64 (Zan x y).v,.int .i64 (Zan x y).lo,.int .i64 (Zan x y).hi,.int .i64 (Zan x y).wt] 98) (by intro u hu;simp at hu;rcases hu with rfl|rfl|rfl|rfl<;>rfl) (by unfold maxLen;omega) (by omega) (by have:=hb1.size;simp at this ⊢;omega) ?_;intro v3 w3 hown3 hgrow)|(go_simp;go_wp2_with (go_at_call 86;refine(Zo3 x y _ (by omega) (by omega)).mono ?_;rintro e w1 ⟨rfl,hb1⟩)))
     all_goals
      have hbw1:Below wr.heap.size wr w1:=(Below.refl _ _).drew.drew.drew.trans hb1;have hs1:w.heap.size<=w1.heap.size:=Nat.le_trans hsz hbw1.size;have hb3:Below w.heap.size wr w3:=((hbw1.mono hsz).alloc hs1 _).grown hgrow (by simp;omega) (fun k hk=>((HO.out.below hbw1).lt k hk).1);have hb4:Below w.heap.size w w3:=hbel.trans hb3;have HF:Hid (Zh w3 w.heap.size v3 (out++[Zan x y])):=Zh.more hown3;clear hown3 hgrow hb1;go_wp2;go_roundw;case rel=>exact⟨i+1,j+1,_,by go_num,by go_num,⟨HX.out,HF.out⟩,hb4⟩
      case measure=>simp[intOf];omega
    have HX:Hid (QY a b i (j+1) (out++[seen a i (b.getD j e0)])):=HRJ.out.b GB.out hjl (fun _=>hgt);generalize (a.getD i e0).v=va at *;generalize b.getD j e0=x at *;clear a1 a2 a3 ga0;obtain⟨g1,g2,g3,g4,g5,g6⟩:=gb0;have hnl:¬va<x.v:=(by omega);go_wp2_with fail
    go_region
    go_wp2_with fail
    go_region
    go_wp2_with fail
    refine(Qp _ a ca i x _ (HEA.out.below (Below.refl _ _).drew.drew) GA.out hi (by omega)).mono ?_;rintro e w1 ⟨rfl,hb1⟩;have hbw1:Below wr.heap.size wr w1:=(Below.refl _ _).drew.drew.trans hb1;clear hb1;have HO1:Hid (Zh w1 w.heap.size u5 out):=HO.out.below hbw1;have hs1:w.heap.size<=w1.heap.size:=Nat.le_trans hsz hbw1.size;go_wp2_with (at_builtin;refine wpList_append_own _ rfl (.tmp 76) (.tmp 84) 29 rfl w.heap.size 98 i0 (.agg #[.int .i64 0,.int .i64 0,.int .i64 0,.int .i64 0]) 4 32 Tryz.underlying29 hinf hz0 hz1 hz2 rfl (by decide) _ out.length (ZO out) rfl (HO1.out.alloc _) ⟨w1.heap.size,0,none⟩ 1 1 [.int .i64 (seen a i x).v,.int .i64 (seen a i x).lo,.int .i64 (seen a i x).hi,.int .i64 (seen a i x).wt] rfl rfl ?_ ?_ ?_ ?_ ?_ ?_)
    exact Zu w1 #[.int .i64 (seen a i x).v,.int .i64 (seen a i x).lo,.int .i64 (seen a i x).hi,.int .i64 (seen a i x).wt] 98
    ·intro u hu;simp at hu;rcases hu with rfl|rfl|rfl|rfl<;>rfl
    unfold maxLen;omega;omega;simp;omega;intro v3 w3 hown3 hgrow _;have hb3:Below w.heap.size wr w3:=((hbw1.mono hsz).alloc hs1 _).grown hgrow (by simp;omega) (fun k hk=>(HO1.out.lt k hk).1);have hb4:Below w.heap.size w w3:=hbel.trans hb3;have HF:Hid (Zh w3 w.heap.size v3 (out++[seen a i x])):=Zh.more hown3;clear hown3 hgrow;go_wp2;go_roundw;case rel=>exact⟨i,j+1,_,by go_num,by go_num,⟨HX.out,HF.out⟩,hb4⟩
    case measure=>simp[intOf];omega
   have hex:i<a.length->¬j<b.length:=(by omega);have HXX:Hid (i<a.length->¬j<b.length):=hex;clear hex;go_wp2_with fail
   go_loopw [5,6] (fun o ti wq=>∃(p:Nat) (out2:List Zm),ti=.int .i64 p/\Hid (QY a b p j out2/\Zh wq w.heap.size o out2/\(p<a.length->¬j<b.length))/\Below w.heap.size w wq) (fun _ ti _=>a.length-(intOf ti).toNat)
   case atStart=>exact⟨i,out,rfl,⟨HRJ.out,HO.out,HXX.out⟩,hbel⟩
   case round=>
    clear hbel hlen hi hsz HEA HEB HO HRJ HXX;obtain⟨p,out2,rfl,HR2,hbel⟩:=hrel;obtain⟨R,hown,hex⟩:=HR2.out;have hlen:=R.len;have hi:=R.st.hi;have hsz:=hbel.size;have HEA:Hid (Yp wr aa a):=HA.out.below hbel;have HEB:Hid (Yp wr ab b):=HB.out.below hbel;have HO:Hid (Zh wr w.heap.size u5 out2):=hown;have HRJ:Hid (QY a b p j out2):=R;have HXX:Hid (p<a.length->¬j<b.length):=hex;clear HR2 R hown hex
    by_cases hpl:p<a.length
    ·rcases HEA.out with⟨_,h0|⟨b1,o1,rfl,hA⟩⟩;omega;have hjn:=HXX.out hpl;have ga0:=GA.out.at hpl;obtain⟨a0,a1,a2,a3⟩:wr.cell? ⟨b1,o1+p*4,none⟩=some (.int .i64 (a.getD p e0).v)/\wr.cell? ⟨b1,o1+p*4+1,none⟩=some (.int .i64 (a.getD p e0).lo)/\wr.cell? ⟨b1,o1+p*4+2,none⟩=some (.int .i64 (a.getD p e0).hi)/\wr.cell? ⟨b1,o1+p*4+3,none⟩=some (.int .i64 (a.getD p e0).wt):=⟨hA.v p hpl,hA.lo p hpl,hA.hi p hpl,hA.wt p hpl⟩;have HX:Hid (QY a b (p+1) j (out2++[seen b j (a.getD p e0)])):=HRJ.out.a GA.out hpl (fun h=>absurd h hjn);generalize a.getD p e0=x at *;obtain⟨g1,g2,g3,g4,g5,g6⟩:=ga0;have bi1:(0:Int)<=(p:Int):=(by omega);have bi2:(p:Int)<(a.length:Int):=(by omega);clear hA;go_wp2_with fail
     refine(Qp _ b cb j x _ HEB.out GB.out hj (by omega)).mono ?_;rintro e w1 ⟨rfl,hbw1⟩;have HO1:Hid (Zh w1 w.heap.size u5 out2):=HO.out.below hbw1;have hs1:w.heap.size<=w1.heap.size:=Nat.le_trans hsz hbw1.size;go_wp2_with (at_builtin;refine wpList_append_own _ rfl (.tmp 94) (.tmp 102) 29 rfl w.heap.size 98 i0 (.agg #[.int .i64 0,.int .i64 0,.int .i64 0,.int .i64 0]) 4 32 Tryz.underlying29 hinf hz0 hz1 hz2 rfl (by decide) _ out2.length (ZO out2) rfl (HO1.out.alloc _) ⟨w1.heap.size,0,none⟩ 1 1 [.int .i64 (seen b j x).v,.int .i64 (seen b j x).lo,.int .i64 (seen b j x).hi,.int .i64 (seen b j x).wt] rfl rfl ?_ ?_ ?_ ?_ ?_ ?_)
     exact Zu w1 #[.int .i64 (seen b j x).v,.int .i64 (seen b j x).lo,.int .i64 (seen b j x).hi,.int .i64 (seen b j x).wt] 98
     ·intro u hu;simp at hu;rcases hu with rfl|rfl|rfl|rfl<;>rfl
     unfold maxLen;omega;omega;simp;omega;intro v3 w3 hown3 hgrow _;have hb3:Below w.heap.size wr w3:=((hbw1.mono hsz).alloc hs1 _).grown hgrow (by simp;omega) (fun k hk=>(HO1.out.lt k hk).1);have hb4:Below w.heap.size w w3:=hbel.trans hb3;have HF:Hid (Zh w3 w.heap.size v3 (out2++[seen b j x])):=Zh.more hown3;clear hown3 hgrow;go_wp2;go_roundw;case rel=>exact⟨p+1,_,by go_num,⟨HX.out,HF.out,fun _=>hjn⟩,hb4⟩
     case measure=>simp[intOf];omega
    have hpn:¬p<a.length:=hpl;go_wp2_with fail
    go_loopw [5,7] (fun o tj wq=>∃(q:Nat) (out3:List Zm),tj=.int .i64 q/\Hid (QY a b p q out3/\Zh wq w.heap.size o out3)/\Below w.heap.size w wq) (fun _ tj _=>b.length-(intOf tj).toNat)
    case atStart=>exact⟨j,out2,rfl,⟨HRJ.out,HO.out⟩,hbel⟩
    case round=>
     clear hbel hlen hsz HEA HEB HO HRJ HXX;obtain⟨q,out3,rfl,HR3,hbel⟩:=hrel;obtain⟨R,hown⟩:=HR3.out;have hlen:=R.len;have hq:=R.st.hj;have hsz:=hbel.size;have HEA:Hid (Yp wr aa a):=HA.out.below hbel;have HEB:Hid (Yp wr ab b):=HB.out.below hbel;have HO:Hid (Zh wr w.heap.size u5 out3):=hown;have HRJ:Hid (QY a b p q out3):=R;clear HR3 R hown
     by_cases hql:q<b.length
     ·rcases HEB.out with⟨_,h0|⟨b2,o2,rfl,hB⟩⟩;omega;have gb0:=GB.out.at hql;obtain⟨c0,c1,c2,c3⟩:wr.cell? ⟨b2,o2+q*4,none⟩=some (.int .i64 (b.getD q e0).v)/\wr.cell? ⟨b2,o2+q*4+1,none⟩=some (.int .i64 (b.getD q e0).lo)/\wr.cell? ⟨b2,o2+q*4+2,none⟩=some (.int .i64 (b.getD q e0).hi)/\wr.cell? ⟨b2,o2+q*4+3,none⟩=some (.int .i64 (b.getD q e0).wt):=⟨hB.v q hql,hB.lo q hql,hB.hi q hql,hB.wt q hql⟩;have HX:Hid (QY a b p (q+1) (out3++[seen a p (b.getD q e0)])):=HRJ.out.b GB.out hql (fun h=>absurd h hpn);generalize b.getD q e0=x at *;obtain⟨g1,g2,g3,g4,g5,g6⟩:=gb0;have bj1:(0:Int)<=(q:Int):=(by omega);have bj2:(q:Int)<(b.length:Int):=(by omega);clear hB;go_wp2_with fail
      refine(Qp _ a ca p x _ HEA.out GA.out hi (by omega)).mono ?_;rintro e w1 ⟨rfl,hbw1⟩;have HO1:Hid (Zh w1 w.heap.size u5 out3):=HO.out.below hbw1;have hs1:w.heap.size<=w1.heap.size:=Nat.le_trans hsz hbw1.size;go_wp2_with (at_builtin;refine wpList_append_own _ rfl (.tmp 110) (.tmp 118) 29 rfl w.heap.size 98 i0 (.agg #[.int .i64 0,.int .i64 0,.int .i64 0,.int .i64 0]) 4 32 Tryz.underlying29 hinf hz0 hz1 hz2 rfl (by decide) _ out3.length (ZO out3) rfl (HO1.out.alloc _) ⟨w1.heap.size,0,none⟩ 1 1 [.int .i64 (seen a p x).v,.int .i64 (seen a p x).lo,.int .i64 (seen a p x).hi,.int .i64 (seen a p x).wt] rfl rfl ?_ ?_ ?_ ?_ ?_ ?_)
      exact Zu w1 #[.int .i64 (seen a p x).v,.int .i64 (seen a p x).lo,.int .i64 (seen a p x).hi,.int .i64 (seen a p x).wt] 98
      ·intro u hu;simp at hu;rcases hu with rfl|rfl|rfl|rfl<;>rfl
      unfold maxLen;omega;omega;simp;omega;intro v3 w3 hown3 hgrow _;have hb3:Below w.heap.size wr w3:=((hbw1.mono hsz).alloc hs1 _).grown hgrow (by simp;omega) (fun k hk=>(HO1.out.lt k hk).1);have hb4:Below w.heap.size w w3:=hbel.trans hb3;have HF:Hid (Zh w3 w.heap.size v3 (out3++[seen a p x])):=Zh.more hown3;clear hown3 hgrow;go_wp2;go_roundw;case rel=>exact⟨q+1,_,by go_num,⟨HX.out,HF.out⟩,hb4⟩
      case measure=>simp[intOf];omega
     have hfin:out3=Zr a b:=(by have:=HRJ.out.eq;rw[ZgW hpn hql,List.append_nil] at this;exact this);have HFI:Hid (Zh wr w.heap.size u5 (Zr a b)):=hfin ▸ HO.out;clear hfin;go_wp2;go_ret;exact⟨_,rfl,HFI.out,hbel⟩
  have hex:i<a.length->¬j<b.length:=(by omega);have HXX:Hid (i<a.length->¬j<b.length):=hex;clear hex;go_wp2_with fail
  go_loopw [5,6] (fun o ti wq=>∃(p:Nat) (out2:List Zm),ti=.int .i64 p/\Hid (QY a b p j out2/\Zh wq w.heap.size o out2/\(p<a.length->¬j<b.length))/\Below w.heap.size w wq) (fun _ ti _=>a.length-(intOf ti).toNat)
  case atStart=>exact⟨i,out,rfl,⟨HRJ.out,HO.out,HXX.out⟩,hbel⟩
  case round=>
   clear hbel hlen hi hsz HEA HEB HO HRJ HXX;obtain⟨p,out2,rfl,HR2,hbel⟩:=hrel;obtain⟨R,hown,hex⟩:=HR2.out;have hlen:=R.len;have hi:=R.st.hi;have hsz:=hbel.size;have HEA:Hid (Yp wr aa a):=HA.out.below hbel;have HEB:Hid (Yp wr ab b):=HB.out.below hbel;have HO:Hid (Zh wr w.heap.size u5 out2):=hown;have HRJ:Hid (QY a b p j out2):=R;have HXX:Hid (p<a.length->¬j<b.length):=hex;clear HR2 R hown hex
   by_cases hpl:p<a.length
   ·rcases HEA.out with⟨_,h0|⟨b1,o1,rfl,hA⟩⟩;omega;have hjn:=HXX.out hpl;have ga0:=GA.out.at hpl;obtain⟨a0,a1,a2,a3⟩:wr.cell? ⟨b1,o1+p*4,none⟩=some (.int .i64 (a.getD p e0).v)/\wr.cell? ⟨b1,o1+p*4+1,none⟩=some (.int .i64 (a.getD p e0).lo)/\wr.cell? ⟨b1,o1+p*4+2,none⟩=some (.int .i64 (a.getD p e0).hi)/\wr.cell? ⟨b1,o1+p*4+3,none⟩=some (.int .i64 (a.getD p e0).wt):=⟨hA.v p hpl,hA.lo p hpl,hA.hi p hpl,hA.wt p hpl⟩;have HX:Hid (QY a b (p+1) j (out2++[seen b j (a.getD p e0)])):=HRJ.out.a GA.out hpl (fun h=>absurd h hjn);generalize a.getD p e0=x at *;obtain⟨g1,g2,g3,g4,g5,g6⟩:=ga0;have bi1:(0:Int)<=(p:Int):=(by omega);have bi2:(p:Int)<(a.length:Int):=(by omega);clear hA;go_wp2_with fail
    refine(Qp _ b cb j x _ HEB.out GB.out hj (by omega)).mono ?_;rintro e w1 ⟨rfl,hbw1⟩;have HO1:Hid (Zh w1 w.heap.size u5 out2):=HO.out.below hbw1;have hs1:w.heap.size<=w1.heap.size:=Nat.le_trans hsz hbw1.size;go_wp2_with (at_builtin;refine wpList_append_own _ rfl (.tmp 94) (.tmp 102) 29 rfl w.heap.size 98 i0 (.agg #[.int .i64 0,.int .i64 0,.int .i64 0,.int .i64 0]) 4 32 Tryz.underlying29 hinf hz0 hz1 hz2 rfl (by decide) _ out2.length (ZO out2) rfl (HO1.out.alloc _) ⟨w1.heap.size,0,none⟩ 1 1 [.int .i64 (seen b j x).v,.int .i64 (seen b j x).lo,.int .i64 (seen b j x).hi,.int .i64 (seen b j x).wt] rfl rfl ?_ ?_ ?_ ?_ ?_ ?_)
    exact Zu w1 #[.int .i64 (seen b j x).v,.int .i64 (seen b j x).lo,.int .i64 (seen b j x).hi,.int .i64 (seen b j x).wt] 98
    ·intro u hu;simp at hu;rcases hu with rfl|rfl|rfl|rfl<;>rfl
    unfold maxLen;omega;omega;simp;omega;intro v3 w3 hown3 hgrow _;have hb3:Below w.heap.size wr w3:=((hbw1.mono hsz).alloc hs1 _).grown hgrow (by simp;omega) (fun k hk=>(HO1.out.lt k hk).1);have hb4:Below w.heap.size w w3:=hbel.trans hb3;have HF:Hid (Zh w3 w.heap.size v3 (out2++[seen b j x])):=Zh.more hown3;clear hown3 hgrow;go_wp2;go_roundw;case rel=>exact⟨p+1,_,by go_num,⟨HX.out,HF.out,fun _=>hjn⟩,hb4⟩
    case measure=>simp[intOf];omega
   have hpn:¬p<a.length:=hpl;go_wp2_with fail
   go_loopw [5,7] (fun o tj wq=>∃(q:Nat) (out3:List Zm),tj=.int .i64 q/\Hid (QY a b p q out3/\Zh wq w.heap.size o out3)/\Below w.heap.size w wq) (fun _ tj _=>b.length-(intOf tj).toNat)
   case atStart=>exact⟨j,out2,rfl,⟨HRJ.out,HO.out⟩,hbel⟩
   case round=>
    clear hbel hlen hsz HEA HEB HO HRJ HXX;obtain⟨q,out3,rfl,HR3,hbel⟩:=hrel;obtain⟨R,hown⟩:=HR3.out;have hlen:=R.len;have hq:=R.st.hj;have hsz:=hbel.size;have HEA:Hid (Yp wr aa a):=HA.out.below hbel;have HEB:Hid (Yp wr ab b):=HB.out.below hbel;have HO:Hid (Zh wr w.heap.size u5 out3):=hown;have HRJ:Hid (QY a b p q out3):=R;clear HR3 R hown
    by_cases hql:q<b.length
    ·rcases HEB.out with⟨_,h0|⟨b2,o2,rfl,hB⟩⟩;omega;have gb0:=GB.out.at hql;obtain⟨c0,c1,c2,c3⟩:wr.cell? ⟨b2,o2+q*4,none⟩=some (.int .i64 (b.getD q e0).v)/\wr.cell? ⟨b2,o2+q*4+1,none⟩=some (.int .i64 (b.getD q e0).lo)/\wr.cell? ⟨b2,o2+q*4+2,none⟩=some (.int .i64 (b.getD q e0).hi)/\wr.cell? ⟨b2,o2+q*4+3,none⟩=some (.int .i64 (b.getD q e0).wt):=⟨hB.v q hql,hB.lo q hql,hB.hi q hql,hB.wt q hql⟩;have HX:Hid (QY a b p (q+1) (out3++[seen a p (b.getD q e0)])):=HRJ.out.b GB.out hql (fun h=>absurd h hpn);generalize b.getD q e0=x at *;obtain⟨g1,g2,g3,g4,g5,g6⟩:=gb0;have bj1:(0:Int)<=(q:Int):=(by omega);have bj2:(q:Int)<(b.length:Int):=(by omega);clear hB;go_wp2_with fail
     refine(Qp _ a ca p x _ HEA.out GA.out hi (by omega)).mono ?_;rintro e w1 ⟨rfl,hbw1⟩;have HO1:Hid (Zh w1 w.heap.size u5 out3):=HO.out.below hbw1;have hs1:w.heap.size<=w1.heap.size:=Nat.le_trans hsz hbw1.size;go_wp2_with (at_builtin;refine wpList_append_own _ rfl (.tmp 110) (.tmp 118) 29 rfl w.heap.size 98 i0 (.agg #[.int .i64 0,.int .i64 0,.int .i64 0,.int .i64 0]) 4 32 Tryz.underlying29 hinf hz0 hz1 hz2 rfl (by decide) _ out3.length (ZO out3) rfl (HO1.out.alloc _) ⟨w1.heap.size,0,none⟩ 1 1 [.int .i64 (seen a p x).v,.int .i64 (seen a p x).lo,.int .i64 (seen a p x).hi,.int .i64 (seen a p x).wt] rfl rfl ?_ ?_ ?_ ?_ ?_ ?_)
     exact Zu w1 #[.int .i64 (seen a p x).v,.int .i64 (seen a p x).lo,.int .i64 (seen a p x).hi,.int .i64 (seen a p x).wt] 98
     ·intro u hu;simp at hu;rcases hu with rfl|rfl|rfl|rfl<;>rfl
     unfold maxLen;omega;omega;simp;omega;intro v3 w3 hown3 hgrow _;have hb3:Below w.heap.size wr w3:=((hbw1.mono hsz).alloc hs1 _).grown hgrow (by simp;omega) (fun k hk=>(HO1.out.lt k hk).1);have hb4:Below w.heap.size w w3:=hbel.trans hb3;have HF:Hid (Zh w3 w.heap.size v3 (out3++[seen a p x])):=Zh.more hown3;clear hown3 hgrow;go_wp2;go_roundw;case rel=>exact⟨q+1,_,by go_num,⟨HX.out,HF.out⟩,hb4⟩
     case measure=>simp[intOf];omega
    have hfin:out3=Zr a b:=(by have:=HRJ.out.eq;rw[ZgW hpn hql,List.append_nil] at this;exact this);have HFI:Hid (Zh wr w.heap.size u5 (Zr a b)):=hfin ▸ HO.out;clear hfin;go_wp2;go_ret;exact⟨_,rfl,HFI.out,hbel⟩
def Za6(w:World)(b:Nat)(step parts whole rest:Int):Prop:=w.heap[b]? =some (.cells #[.int .i64 step,.int .i64 parts,.int .i64 whole,.int .i64 rest] 153 (0,0))
theorem Za6.cells{w:World}{b:Nat}{x0 x1 x2 x3:Int}(h:Za6 w b x0 x1 x2 x3):w.cell? ⟨b,0,none⟩=some (.int .i64 x0)/\w.cell? ⟨b,1,none⟩=some (.int .i64 x1)/\w.cell? ⟨b,2,none⟩=some (.int .i64 x2)/\w.cell? ⟨b,3,none⟩=some (.int .i64 x3)/\(∀o,w.frozen? ⟨b,o,none⟩=false):=by unfold Za6 at h;refine⟨?_,?_,?_,?_,fun o=>frozen_of_row w b o _ 153 h⟩<;>simp[World.cell?,h]
theorem Za6.lt{w:World}{b:Nat}{x0 x1 x2 x3:Int}(h:Za6 w b x0 x1 x2 x3):b<w.heap.size:=(Qb h).1
theorem Za6.set2{w:World}{b:Nat}{x0 x1 x2 x3:Int}(h:Za6 w b x0 x1 x2 x3)(y:Int):Za6 (w.setCell ⟨b,2,none⟩ (.int .i64 y)) b x0 x1 y x3:=heap_setCell_same w b 2 _ 153 (.int .i64 y) h
theorem Za6.set3{w:World}{b:Nat}{x0 x1 x2 x3:Int}(h:Za6 w b x0 x1 x2 x3)(y:Int):Za6 (w.setCell ⟨b,3,none⟩ (.int .i64 y)) b x0 x1 x2 y:=heap_setCell_same w b 3 _ 153 (.int .i64 y) h
theorem ZlY{step parts:Int}(hp:0<parts)(hs:0<=step):0<=step/parts/\step/parts<=step/\0<=step%parts/\step%parts<parts/\step/parts*parts+step%parts=step:=
 ⟨Int.ediv_nonneg hs (by omega),Int.ediv_le_self _ hs,Int.emod_nonneg _ (by omega),Int.emod_lt_of_pos _ hp,by have:=Int.mul_ediv_add_emod step parts;rw[Int.mul_comm];exact this⟩
theorem Zq(w:World)(r:Option Nat):w.grownBy w r:=⟨rfl,rfl,rfl,Qa _,fun _ _ _=>rfl⟩
theorem ZB{w w':World}{b:Nat}(h:w.grownBy w' (some b))(j:Nat)(u:Value):w.grownBy (w'.setCell ⟨b,j,none⟩ u) (some b):=
 ⟨h.os,h.tape,h.output,by have:=h.size;simpa [World.setCell] using this,fun k hk hne=>(Below.heap_setCell w' ⟨b,j,none⟩ u k (fun e=>hne (by rw[e]))).trans (h.block k hk hne)⟩
theorem Zbz{w w':World}{r:Option Nat}(h:w.grownBy w' r):w.grownBy w'.drew r:=⟨h.os,h.tape,h.output,h.size,h.block⟩
theorem Znd(b:Nat)(step parts whole rest:Int)(w:World)(h:Za6 w b step parts whole rest)(hp:1<=parts/\parts<=4194304)(hs:0<=step/\step<=4000000000000)(hw:0<=whole/\whole<=100000000000000000)(hr:0<=rest/\rest<parts):Calls Tryz.prog 88 #[.pointer (some ⟨b,0,none⟩)] w fun e w'=>e=.returned (.tuple #[])/\∃wh re,Za6 w' b step parts wh re/\wh*parts+re=whole*parts+rest+step/\0<=re/\re<parts/\0<=wh/\wh<=whole+step+1/\w.grownBy w' (some b):=by
 obtain⟨p1,p2⟩:=hp;obtain⟨s1,s2⟩:=hs;obtain⟨w1,w2⟩:=hw;obtain⟨r1,r2⟩:=hr;have hm:=ZlY (by omega:0<parts) s1;have hdq:step.tdiv parts=step/parts:=(by rw[Int.tdiv_eq_ediv_of_nonneg s1]);have hdr:step.tmod parts=step%parts:=(by rw[Int.tmod_eq_emod_of_nonneg s1]);obtain⟨m1,m2,m3,m4,m5⟩:=hm;obtain⟨c0,c1,c2,c3,cf⟩:=h.cells;have HM:Hid (Za6 w b step parts whole rest):=h;have hne:(parts==0)=false:=beq_eq_false_iff_ne.2 (by omega);have M5:Hid (step/parts*parts+step%parts=step):=m5;clear h m5;generalize step/parts=q at *;generalize step%parts=r at *
 by_cases hc:parts<=rest+r
 ·have HE:Hid ((whole+q+1)*parts+(rest+r-parts)=whole*parts+rest+step):=show _=_ by have:=M5.out;rw[Int.add_mul,Int.add_mul];omega
  go_enter Tryz.func88,Tryz.ntmps88;go_wp2_with fail
  go_region
  go_wp2_with fail
  go_region
  go_wp2_with fail
  go_region
  go_wp2_with fail
  go_region
  go_wp2_with fail
  go_end0;refine⟨rfl,whole+q+1,rest+r-parts,?_,HE.out,by omega,by omega,by omega,by omega,?_⟩;exact(((HM.out.set2 _).set3 _).set2 _).set3 _;exact(by repeat(first|with_reducible exact Zq _ _|with_reducible refine Zbz ?_|with_reducible refine ZB ?_ _ _))
 have HE:Hid ((whole+q)*parts+(rest+r)=whole*parts+rest+step):=show _=_ by have:=M5.out;rw[Int.add_mul];omega
 go_enter Tryz.func88,Tryz.ntmps88;go_wp2_with fail
 go_region
 go_wp2_with fail
 go_region
 go_wp2_with fail
 go_region
 go_wp2_with fail
 go_end0;refine⟨rfl,whole+q,rest+r,?_,HE.out,by omega,by omega,by omega,by omega,?_⟩;exact(HM.out.set2 _).set3 _;exact(by repeat(first|with_reducible exact Zq _ _|with_reducible refine Zbz ?_|with_reducible refine ZB ?_ _ _))
theorem Zgk(b:Nat)(step parts whole rest:Int)(w:World)(h:Za6 w b step parts whole rest)(hw:0<=whole/\whole<=100000000000000000):Calls Tryz.prog 90 #[.pointer (some ⟨b,0,none⟩)] w fun e w'=>e=.returned (.int .i64 (if 0<rest then whole+1 else whole))/\w'=w:=by
 obtain⟨w1,w2⟩:=hw;obtain⟨c0,c1,c2,c3,cf⟩:=h.cells;clear h cf
 by_cases hc:0<rest
 ·rw[if_pos hc];go_enter Tryz.func90,Tryz.ntmps90;go_wp2;go_ret;exact⟨rfl,rfl⟩
 rw[if_neg hc];go_enter Tryz.func90,Tryz.ntmps90;go_wp2;go_ret;exact⟨rfl,rfl⟩
structure ZA where
 st:Int
 neg:Bool
 dig:Int
 unit:Int
 num:Int
 wv:Value
def RB(w:World)(b:Nat)(vf vW vC:Value)(wt:Int)(fl:Bool)(vr:Value)(p:ZA):Prop:=
 w.heap[b]? =some (.cells #[vf,vW,vC,.int .i64 wt,.bool fl,vr,.int .i64 p.st,.bool p.neg,.int .i64 p.dig,.int .i64 p.unit,.int .i64 p.num,p.wv] 256 (0,0))
section
variable {w:World} {b:Nat} {vf vW vC:Value} {wt:Int} {fl:Bool} {vr:Value} {p:ZA}
theorem RB.part(h:RB w b vf vW vC wt fl vr p):w.cell? ⟨b,6,none⟩=some (.int .i64 p.st)/\w.cell? ⟨b,7,none⟩=some (.bool p.neg)/\w.cell? ⟨b,8,none⟩=some (.int .i64 p.dig)/\w.cell? ⟨b,9,none⟩=some (.int .i64 p.unit)/\w.cell? ⟨b,10,none⟩=some (.int .i64 p.num)/\w.cell? ⟨b,11,none⟩=some p.wv/\(∀o,w.frozen? ⟨b,o,none⟩=false):=by unfold RB at h;refine⟨?_,?_,?_,?_,?_,?_,fun o=>frozen_of_row w b o _ 256 h⟩<;>simp[World.cell?,h]
theorem RB.head(h:RB w b vf vW vC wt fl vr p):w.cell? ⟨b,0,none⟩=some vf/\w.cell? ⟨b,1,none⟩=some vW/\w.cell? ⟨b,2,none⟩=some vC/\w.cell? ⟨b,3,none⟩=some (.int .i64 wt)/\w.cell? ⟨b,4,none⟩=some (.bool fl)/\w.cell? ⟨b,5,none⟩=some vr:=by unfold RB at h;refine⟨?_,?_,?_,?_,?_,?_⟩<;>simp[World.cell?,h]
theorem RB.lt(h:RB w b vf vW vC wt fl vr p):b<w.heap.size:=(Qb h).1
theorem RB.grown{w':World}{row:Option Nat}(h:RB w b vf vW vC wt fl vr p)(hg:w.grownBy w' row)(hne:some b≠row):RB w' b vf vW vC wt fl vr p:=(hg.block b h.lt hne).trans h
theorem RB.below{w':World}{B:Nat}(h:RB w b vf vW vC wt fl vr p)(hb:Below B w w')(hg:b<B):RB w' b vf vW vC wt fl vr p:=(hb.block b hg).trans h
theorem RB.drew(h:RB w b vf vW vC wt fl vr p):RB w.drew b vf vW vC wt fl vr p:=h
theorem RB.st(h:RB w b vf vW vC wt fl vr p)(z:Int):RB (w.setCell ⟨b,6,none⟩ (.int .i64 z)) b vf vW vC wt fl vr {p with st:=z}:=heap_setCell_same w b 6 _ 256 _ h
theorem RB.neg(h:RB w b vf vW vC wt fl vr p)(z:Bool):RB (w.setCell ⟨b,7,none⟩ (.bool z)) b vf vW vC wt fl vr {p with neg:=z}:=heap_setCell_same w b 7 _ 256 _ h
theorem RB.dig(h:RB w b vf vW vC wt fl vr p)(z:Int):RB (w.setCell ⟨b,8,none⟩ (.int .i64 z)) b vf vW vC wt fl vr {p with dig:=z}:=heap_setCell_same w b 8 _ 256 _ h
theorem RB.unit(h:RB w b vf vW vC wt fl vr p)(z:Int):RB (w.setCell ⟨b,9,none⟩ (.int .i64 z)) b vf vW vC wt fl vr {p with unit:=z}:=heap_setCell_same w b 9 _ 256 _ h
theorem RB.num(h:RB w b vf vW vC wt fl vr p)(z:Int):RB (w.setCell ⟨b,10,none⟩ (.int .i64 z)) b vf vW vC wt fl vr {p with num:=z}:=heap_setCell_same w b 10 _ 256 _ h
theorem RB.wv(h:RB w b vf vW vC wt fl vr p)(z:Value):RB (w.setCell ⟨b,11,none⟩ z) b vf vW vC wt fl vr {p with wv:=z}:=heap_setCell_same w b 11 _ 256 _ h
end
theorem ZD{z:Int}(h1: -9000000000000000000<=z)(h2:z<=9000000000000000000):IntKind.i64.wrap z=z:=by simp[IntKind.wrap,IntKind.bits,IntKind.signed];omega
def YH(c:Int):Bool:=decide (48<=c)&&decide (c<=57)
def QU(c:Int):Bool:=decide (97<=c)&&decide (c<=122)
theorem Zb9(c:Int)(w:World):Calls Tryz.prog 315 #[.int .u8 c] w fun e w'=>e=.returned (.bool (YH c))/\w'=w:=by
 unfold YH
 by_cases h1:48<=c
 ·go_enter Tryz.func315,Tryz.ntmps315;go_wp2;go_ret;exact⟨by simp[h1],rfl⟩
 have h2:decide (48<=c)=false:=decide_eq_false h1;go_enter Tryz.func315,Tryz.ntmps315;go_wp2;go_ret;exact⟨rfl,rfl⟩
theorem ZbA(c:Int)(w:World):Calls Tryz.prog 310 #[.int .u8 c] w fun e w'=>e=.returned (.bool (QU c))/\w'=w:=by
 unfold QU
 by_cases h1:97<=c
 ·go_enter Tryz.func310,Tryz.ntmps310;go_wp2;go_ret;exact⟨by simp[h1],rfl⟩
 have h2:decide (97<=c)=false:=decide_eq_false h1;go_enter Tryz.func310,Tryz.ntmps310;go_wp2;go_ret;exact⟨rfl,rfl⟩
theorem Zd3(c u:Int)(w:World)(h1:48<=c)(h2:c<=57)(h3:0<=u)(h4:u<=1000000):Calls Tryz.prog 316 #[.int .u8 c,.int .i64 u] w fun e w'=>e=.returned (.int .i64 ((c-48)*u))/\w'=w:=by have hw:IntKind.u8.wrap (c-48)=c-48:=(by simp[IntKind.wrap,IntKind.bits,IntKind.signed];omega);have hm1:0<=(c-48)*u:=Int.mul_nonneg (by omega) h3;have hm2:(c-48)*u<=9*1000000:=Int.mul_le_mul (by omega) h4 h3 (by omega);have hw2:IntKind.i64.wrap (c-48)=c-48:=(by simp[IntKind.wrap,IntKind.bits,IntKind.signed];omega);go_enter Tryz.func316,Tryz.ntmps316;go_wp2;go_ret;exact⟨rfl,rfl⟩
def QV(p:ZA)(c:Int):Option ZA:=if c=45 then some {p with st:=1,neg:=true} else none
def YS(u:Int)(p:ZA)(c:Int):Option ZA:=if YH c=true then some {p with st:=if c=48 then 2 else 3,dig:=1,unit:=u,num:=(c-48)*u} else none
def Qt(p:ZA)(c:Int):Option ZA:=if YH c=true/\p.dig≠5 then some {p with dig:=p.dig+1,num:=p.num*10+(c-48)*p.unit} else none
def QH(p:ZA)(c:Int):Option ZA:=if c=46/\p.unit≠1 then some {p with st:=4} else none
def QA(p:ZA)(c:Int):Option ZA:=if YH c=true/\p.unit≠1 then some {p with st:=5,unit:=p.unit/10,num:=p.num+(c-48)*(p.unit/10)} else none
def Yc(b:Nat)(vf vW vC:Value)(wt:Int)(fl:Bool)(vr:Value)(p:ZA)(o:Option ZA)(w:World)(e:Ending)(w':World):Prop:=
 e=.returned (.bool o.isSome)/\RB w' b vf vW vC wt fl vr (o.getD p)/\w.grownBy w' (some b)
section
variable (b:Nat) (vf vW vC:Value) (wt:Int) (fl:Bool) (vr:Value) (p:ZA) (c:Int) (w:World)
theorem Zgp(h:RB w b vf vW vC wt fl vr p):Calls Tryz.prog 268 #[.pointer (some ⟨b,6,none⟩),.int .u8 c] w fun e w'=>Yc b vf vW vC wt fl vr p (QV p c) w e w':=by
 obtain⟨c6,c7,_,_,_,_,cf⟩:=h.part;have H:Hid (RB w b vf vW vC wt fl vr p):=h;clear h
 by_cases hc:c=45
 ·subst hc;go_enter Tryz.func268,Tryz.ntmps268;go_wp2;go_ret;exact⟨rfl,(H.out.st 1).neg true,ZB (ZB (Zq _ _) _ _) _ _⟩
 have hne:(c==45)=false:=beq_eq_false_iff_ne.2 hc;have HO:Hid (QV p c=none):=if_neg hc;go_enter Tryz.func268,Tryz.ntmps268;go_wp2;go_ret;unfold Yc;rw[HO.out];exact⟨rfl,H.out,Zq _ _⟩
theorem ZcS(h:RB w b vf vW vC wt fl vr p):Calls Tryz.prog 271 #[.pointer (some ⟨b,6,none⟩),.int .u8 c] w fun e w'=>Yc b vf vW vC wt fl vr p (QH p c) w e w':=by
 obtain⟨c6,_,_,c9,_,_,cf⟩:=h.part;have H:Hid (RB w b vf vW vC wt fl vr p):=h;clear h
 by_cases hc:c=46
 ·subst hc
  by_cases hu:p.unit=1
  ·have HO:Hid (QH p 46=none):=if_neg (by simp[hu]);rw[hu] at c9;go_enter Tryz.func271,Tryz.ntmps271;go_wp2;go_ret;unfold Yc;rw[HO.out];exact⟨rfl,H.out,Zq _ _⟩
  have hne:(p.unit==1)=false:=beq_eq_false_iff_ne.2 hu;have HO:Hid (QH p 46=some {p with st:=4}):=if_pos ⟨rfl,hu⟩;go_enter Tryz.func271,Tryz.ntmps271;go_wp2;go_ret;unfold Yc;rw[HO.out];exact⟨rfl,H.out.st 4,ZB (Zq _ _) _ _⟩
 have hne:(c==46)=false:=beq_eq_false_iff_ne.2 hc;have HO:Hid (QH p c=none):=if_neg (fun h=>hc h.1);go_enter Tryz.func271,Tryz.ntmps271;go_wp2;go_ret;unfold Yc;rw[HO.out];exact⟨rfl,H.out,Zq _ _⟩
theorem ZcR(h:RB w b vf vW vC wt fl vr p)(u:Int)(hu1:0<=u)(hu2:u<=1000000):Calls Tryz.prog 269 #[.pointer (some ⟨b,6,none⟩),.int .u8 c,.int .i64 u] w fun e w'=>Yc b vf vW vC wt fl vr p (YS u p c) w e w':=by
 obtain⟨c6,_,c8,c9,c10,_,cf⟩:=h.part;have H:Hid (RB w b vf vW vC wt fl vr p):=h;have HD:Hid (∀W,Calls Tryz.prog 315 #[.int .u8 c] W fun e w'=>e=.returned (.bool (YH c))/\w'=W):=fun W=>Zb9 c W;clear h
 by_cases hd:YH c=true
 ·have hr:48<=c/\c<=57:=by simpa [YH] using hd
  obtain⟨hr1,hr2⟩:=hr;have HWo:Hid (∀W,Calls Tryz.prog 316 #[.int .u8 c,.int .i64 u] W fun e w'=>e=.returned (.int .i64 ((c-48)*u))/\w'=W):=fun W=>Zd3 c u W hr1 hr2 hu1 hu2;rw[hd] at HD
  by_cases h0:c=48
  ·have HO:Hid (YS u p c=some {p with st:=2,dig:=1,unit:=u,num:=(c-48)*u}):=(by show YS u p c=_;unfold YS;rw[if_pos hd,if_pos h0]);have hne:(c==48)=true:=(by simp[h0]);generalize (c-48)*u=nn at *;clear h0 hd;go_enter Tryz.func269,Tryz.ntmps269;go_wp2_with (first|(go_at_call 315;refine(HD.out _).mono ?_;rintro e w' ⟨rfl,rfl⟩)|(go_at_call 316;refine(HWo.out _).mono ?_;rintro e w' ⟨rfl,rfl⟩))
   go_ret;unfold Yc;rw[HO.out];exact⟨rfl,((((H.out.st 3).dig 1).unit u).num nn).st 2,ZB (ZB (ZB (ZB (ZB (Zq _ _) _ _) _ _) _ _) _ _) _ _⟩
  have HO:Hid (YS u p c=some {p with st:=3,dig:=1,unit:=u,num:=(c-48)*u}):=(by show YS u p c=_;unfold YS;rw[if_pos hd,if_neg h0]);have hne:(c==48)=false:=beq_eq_false_iff_ne.2 h0;generalize (c-48)*u=nn at *;clear h0 hd;go_enter Tryz.func269,Tryz.ntmps269;go_wp2_with (first|(go_at_call 315;refine(HD.out _).mono ?_;rintro e w' ⟨rfl,rfl⟩)|(go_at_call 316;refine(HWo.out _).mono ?_;rintro e w' ⟨rfl,rfl⟩))
  go_ret;unfold Yc;rw[HO.out];exact⟨rfl,(((H.out.st 3).dig 1).unit u).num nn,ZB (ZB (ZB (ZB (Zq _ _) _ _) _ _) _ _) _ _⟩
 have HO:Hid (YS u p c=none):=if_neg hd
 have hf:YH c=false:=by simpa using hd
 rw[hf] at HD;clear hd hf;go_enter Tryz.func269,Tryz.ntmps269;go_wp2_with (go_at_call 315;refine(HD.out _).mono ?_;rintro e w' ⟨rfl,rfl⟩)
 go_ret;unfold Yc;rw[HO.out];exact⟨rfl,H.out,Zq _ _⟩
theorem Zgo(h:RB w b vf vW vC wt fl vr p)(hu1:0<=p.unit)(hu2:p.unit<=1000000)(hn1:0<=p.num)(hn2:p.num<=1000000000000)(hg1:0<=p.dig)(hg2:p.dig<=1000):Calls Tryz.prog 270 #[.pointer (some ⟨b,6,none⟩),.int .u8 c] w fun e w'=>Yc b vf vW vC wt fl vr p (Qt p c) w e w':=by
 obtain⟨_,_,c8,c9,c10,_,cf⟩:=h.part;have H:Hid (RB w b vf vW vC wt fl vr p):=h;have HD:Hid (∀W,Calls Tryz.prog 315 #[.int .u8 c] W fun e w'=>e=.returned (.bool (YH c))/\w'=W):=fun W=>Zb9 c W;clear h
 by_cases hd:YH c=true
 ·have hr:48<=c/\c<=57:=by simpa [YH] using hd
  obtain⟨hr1,hr2⟩:=hr
  by_cases h5:p.dig=5
  ·have HO:Hid (Qt p c=none):=if_neg (fun h=>h.2 h5);rw[hd] at HD;rw[h5] at c8;clear hd h5;go_enter Tryz.func270,Tryz.ntmps270;go_wp2_with (go_at_call 315;refine(HD.out _).mono ?_;rintro e w' ⟨rfl,rfl⟩)
   go_ret;unfold Yc;rw[HO.out];exact⟨rfl,H.out,Zq _ _⟩
  have hne:(p.dig==5)=false:=beq_eq_false_iff_ne.2 h5;have HO:Hid (Qt p c=some {p with dig:=p.dig+1,num:=p.num*10+(c-48)*p.unit}):=if_pos ⟨hd,h5⟩;have HWo:Hid (∀W,Calls Tryz.prog 316 #[.int .u8 c,.int .i64 p.unit] W fun e w'=>e=.returned (.int .i64 ((c-48)*p.unit))/\w'=W):=fun W=>Zd3 c p.unit W hr1 hr2 hu1 hu2;have hm1:0<=(c-48)*p.unit:=Int.mul_nonneg (by omega) hu1;have hm2:(c-48)*p.unit<=9*1000000:=Int.mul_le_mul (by omega) hu2 hu1 (by omega);rw[hd] at HD;clear hd h5;generalize (c-48)*p.unit=nn at *;have hw1:IntKind.i64.wrap (p.num*10)=p.num*10:=ZD (by omega) (by omega);have hw2:IntKind.i64.wrap (p.num*10+nn)=p.num*10+nn:=ZD (by omega) (by omega);go_enter Tryz.func270,Tryz.ntmps270
  go_wp2_with (go_at_call 315;refine(HD.out _).mono ?_;rintro e w' ⟨rfl,rfl⟩)
  go_region_with (go_at_call 316;refine(HWo.out _).mono ?_;rintro e w' ⟨rfl,rfl⟩)
  all_goals go_wp2
  all_goals go_ret
  all_goals unfold Yc
  all_goals rw[HO.out]
  all_goals exact⟨rfl,((H.out.dig _).num _).drew,Zbz (ZB (ZB (Zq _ _) _ _) _ _)⟩
 have HO:Hid (Qt p c=none):=if_neg (fun h=>hd h.1)
 have hf:YH c=false:=by simpa using hd
 rw[hf] at HD;clear hd hf;go_enter Tryz.func270,Tryz.ntmps270;go_wp2_with (go_at_call 315;refine(HD.out _).mono ?_;rintro e w' ⟨rfl,rfl⟩)
 go_ret;unfold Yc;rw[HO.out];exact⟨rfl,H.out,Zq _ _⟩
theorem ZfN(h:RB w b vf vW vC wt fl vr p)(hu1:0<=p.unit)(hu2:p.unit<=1000000)(hn1:0<=p.num)(hn2:p.num<=1000000000000):Calls Tryz.prog 272 #[.pointer (some ⟨b,6,none⟩),.int .u8 c] w fun e w'=>Yc b vf vW vC wt fl vr p (QA p c) w e w':=by
 obtain⟨c6,_,_,c9,c10,_,cf⟩:=h.part;have H:Hid (RB w b vf vW vC wt fl vr p):=h;have HD:Hid (∀W,Calls Tryz.prog 315 #[.int .u8 c] W fun e w'=>e=.returned (.bool (YH c))/\w'=W):=fun W=>Zb9 c W;clear h
 by_cases hd:YH c=true
 ·have hr:48<=c/\c<=57:=by simpa [YH] using hd
  obtain⟨hr1,hr2⟩:=hr
  by_cases h5:p.unit=1
  ·have HO:Hid (QA p c=none):=if_neg (fun h=>h.2 h5);rw[hd] at HD;rw[h5] at c9;clear hd h5;go_enter Tryz.func272,Tryz.ntmps272;go_wp2_with (go_at_call 315;refine(HD.out _).mono ?_;rintro e w' ⟨rfl,rfl⟩)
   go_ret;unfold Yc;rw[HO.out];exact⟨rfl,H.out,Zq _ _⟩
  have hne:(p.unit==1)=false:=beq_eq_false_iff_ne.2 h5;have hq:p.unit.tdiv 10=p.unit/10:=Int.tdiv_eq_ediv_of_nonneg hu1;have hq1:0<=p.unit/10:=(by omega);have hq2:p.unit/10<=1000000:=(by omega);have HO:Hid (QA p c=some {p with st:=5,unit:=p.unit/10,num:=p.num+(c-48)*(p.unit/10)}):=if_pos ⟨hd,h5⟩;have HWo:Hid (∀W,Calls Tryz.prog 316 #[.int .u8 c,.int .i64 (p.unit/10)] W fun e w'=>e=.returned (.int .i64 ((c-48)*(p.unit/10)))/\w'=W):=fun W=>Zd3 c (p.unit/10) W hr1 hr2 hq1 hq2;have hm1:0<=(c-48)*(p.unit/10):=Int.mul_nonneg (by omega) hq1;have hm2:(c-48)*(p.unit/10)<=9*1000000:=Int.mul_le_mul (by omega) hq2 hq1 (by omega);rw[hd] at HD;clear hd h5;generalize (c-48)*(p.unit/10)=nn at *;generalize p.unit/10=uu at *
  have hw2:IntKind.i64.wrap (p.num+nn)=p.num+nn:=ZD (by omega) (by omega);have hw3:IntKind.i64.wrap uu=uu:=ZD (by omega) (by omega);go_enter Tryz.func272,Tryz.ntmps272;go_wp2_with (go_at_call 315;refine(HD.out _).mono ?_;rintro e w' ⟨rfl,rfl⟩)
  go_region_with (go_at_call 316;refine(HWo.out _).mono ?_;rintro e w' ⟨rfl,rfl⟩)
  all_goals go_wp2
  all_goals go_ret
  all_goals unfold Yc
  all_goals rw[HO.out]
  all_goals exact⟨rfl,(((H.out.st _).unit _).num _).drew,Zbz (ZB (ZB (ZB (Zq _ _) _ _) _ _) _ _)⟩
 have HO:Hid (QA p c=none):=if_neg (fun h=>hd h.1)
 have hf:YH c=false:=by simpa using hd
 rw[hf] at HD;clear hd hf;go_enter Tryz.func272,Tryz.ntmps272;go_wp2_with (go_at_call 315;refine(HD.out _).mono ?_;rintro e w' ⟨rfl,rfl⟩)
 go_ret;unfold Yc;rw[HO.out];exact⟨rfl,H.out,Zq _ _⟩
end
theorem Zbm:(Tryz.prog.info? 5).map (fun i=>(i.zero,i.size,i.bytes))=some (some (.int .u8 0),1,1):=by kernel_rfl
def Zo(w:World)(base:Nat)(v:Value)(bs:List Int):Prop:=w.ownsRow base 5 1 v bs.length (bs.map (Value.int .u8))
theorem Zo.form{w:World}{base:Nat}{v:Value}{bs:List Int}(h:Zo w base v bs):∃a c,v=.slice a bs.length c:=by
 rcases h.2 with⟨rfl,h0⟩|⟨q,p,cur,rfl,_⟩
 exact⟨none,0,by rw[h0]⟩;exact⟨_,_,rfl⟩
def RW(w:World)(b base:Nat)(vf vW vC:Value)(wt:Int)(fl:Bool)(vr:Value)(p:ZA)(bs:List Int):Prop:=RB w b vf vW vC wt fl vr p/\Zo w base p.wv bs
def Yd(b base:Nat)(vf vW vC:Value)(wt:Int)(fl:Bool)(vr:Value)(p:ZA)(bs:List Int)(o:Option (Int×List Int))(w:World)(e:Ending)(w':World):Prop:=
 e=.returned (.bool o.isSome)/\(∃v',RW w' b base vf vW vC wt fl vr {p with st:=(o.getD (p.st,bs)).1,wv:=v'} (o.getD (p.st,bs)).2/\(v'.ownBlock=p.wv.ownBlock∨∃k,v'.ownBlock=some k/\w.heap.size<=k))/\Za (fun k=>k=b∨some k=p.wv.ownBlock) w w'
theorem Yd.none{b base:Nat}{vf vW vC:Value}{wt:Int}{fl:Bool}{vr:Value}{p:ZA}{bs:List Int}{w:World}(h:RW w b base vf vW vC wt fl vr p bs):Yd b base vf vW vC wt fl vr p bs none w (.returned (.bool false)) w:=
 ⟨rfl,⟨p.wv,h,.inl rfl⟩,Za.refl _ _⟩
section
variable (b base:Nat) (vf vW vC:Value) (wt:Int) (fl:Bool) (vr:Value) (p:ZA) (bs:List Int) (c:Int) (w:World)
theorem Zff(h:RW w b base vf vW vC wt fl vr p bs):Calls Tryz.prog 311 #[.pointer (some ⟨b,6,none⟩)] w fun e w'=>e=.returned (.bool (decide (bs.length=8)))/\w'=w:=by
 obtain⟨_,_,_,_,_,c11,cf⟩:=h.1.part;obtain⟨a,cp,hv⟩:=h.2.form;rw[hv] at c11
 by_cases h8:bs.length=8
 ·rw[h8] at c11;go_enter Tryz.func311,Tryz.ntmps311;go_wp2;go_ret;exact⟨by simp[h8],rfl⟩
 have hne:((bs.length:Int)==8)=false:=beq_eq_false_iff_ne.2 (by omega);go_enter Tryz.func311,Tryz.ntmps311;go_wp2;go_ret;exact⟨by simp[h8],rfl⟩
theorem ZeE(h:RW w b base vf vW vC wt fl vr p bs):Calls Tryz.prog 259 #[.pointer (some ⟨b,6,none⟩),.int .u8 c] w fun e w'=>Yd b base vf vW vC wt fl vr p bs (if c=34 then some (7,bs) else none) w e w':=by
 obtain⟨c6,_,_,_,_,_,cf⟩:=h.1.part;have H:Hid (RW w b base vf vW vC wt fl vr p bs):=h;have HT:Hid (∀u,Za (fun k=>k=b∨some k=p.wv.ownBlock) w (w.setCell ⟨b,6,none⟩ u)):=fun u=>(Za.refl _ w).setCell (p:=⟨b,6,none⟩) (fun _=>.inl rfl) u
 have HOW:Hid (∀u,Zo (w.setCell ⟨b,6,none⟩ u) base p.wv bs):=fun u=>((Za.refl (fun k=>k=b) w).setCell (p:=⟨b,6,none⟩) (fun _=>rfl) u).row h.2 (fun k hk e=>by
  obtain⟨cur,hc⟩:=Zf h.2 hk;subst e;have:=h.1;unfold RB at this
  rw[this] at hc;simp at hc)
 clear h
 by_cases hc:c=34
 ·subst hc;go_enter Tryz.func259,Tryz.ntmps259;go_wp2;go_ret;exact⟨rfl,⟨p.wv,⟨H.out.1.st 7,HOW.out _⟩,.inl rfl⟩,HT.out _⟩
 have hne:(c==34)=false:=beq_eq_false_iff_ne.2 hc;have HO:Hid ((if c=34 then some ((7:Int),bs) else none)=none):=if_neg hc;go_enter Tryz.func259,Tryz.ntmps259;go_wp2;go_ret
 first|exact Yd.none H.out|(rw[HO.out];exact Yd.none H.out)
theorem Zgq(h:RW w b base vf vW vC wt fl vr p bs):Calls Tryz.prog 261 #[.pointer (some ⟨b,6,none⟩),.int .u8 c] w fun e w'=>Yd b base vf vW vC wt fl vr p bs (if c=34 then some (8,bs) else none) w e w':=by
 obtain⟨c6,_,_,_,_,_,cf⟩:=h.1.part;have H:Hid (RW w b base vf vW vC wt fl vr p bs):=h;have HT:Hid (∀u,Za (fun k=>k=b∨some k=p.wv.ownBlock) w (w.setCell ⟨b,6,none⟩ u)):=fun u=>(Za.refl _ w).setCell (p:=⟨b,6,none⟩) (fun _=>.inl rfl) u
 have HOW:Hid (∀u,Zo (w.setCell ⟨b,6,none⟩ u) base p.wv bs):=fun u=>((Za.refl (fun k=>k=b) w).setCell (p:=⟨b,6,none⟩) (fun _=>rfl) u).row h.2 (fun k hk e=>by
  obtain⟨cur,hc⟩:=Zf h.2 hk;subst e;have:=h.1;unfold RB at this
  rw[this] at hc;simp at hc)
 clear h
 by_cases hc:c=34
 ·subst hc;go_enter Tryz.func261,Tryz.ntmps261;go_wp2;go_ret;exact⟨rfl,⟨p.wv,⟨H.out.1.st 8,HOW.out _⟩,.inl rfl⟩,HT.out _⟩
 have hne:(c==34)=false:=beq_eq_false_iff_ne.2 hc;have HO:Hid ((if c=34 then some ((8:Int),bs) else none)=none):=if_neg hc;go_enter Tryz.func261,Tryz.ntmps261;go_wp2;go_ret
 first|exact Yd.none H.out|(rw[HO.out];exact Yd.none H.out)
end
def QB(bs:List Int)(c:Int):Option (Int×List Int):=if QU c=true/\bs.length≠8 then some (6,bs++[c]) else none
def Zcf(c:Int):Bool:=QU c||decide (c=32)||decide (c=44)||decide (c=10)||decide (c=34)
def ZdF(st:Int)(bs:List Int)(c:Int):Option (Int×List Int):=if Zcf c=true/\bs.length≠8 then some (st,bs++[c]) else none
def Zav(bs:List Int)(c:Int):Option (Int×List Int):=if c=34/\bs.length≠8 then some (7,bs++[c]) else none
theorem ZdT{b base:Nat}{vf vW vC:Value}{wt:Int}{fl:Bool}{vr:Value}{p:ZA}{bs:List Int}{c:Int}{w w1 w2:World}{st:Int}{q cp N:Nat}(h:RW w b base vf vW vC wt fl vr p bs)(h1:RB w1 b vf vW vC wt fl vr {p with st:=st})(t1:Za (fun k=>k=b) w w1)(hX:w2.ownsRow base 5 1 (.slice (some ⟨q,0,none⟩) (bs.length+1) cp) (bs.length+1) (bs.map (Value.int .u8)++[.int .u8 c]))(hg:(w1.alloc (.cells #[.int .u8 c] 5)).grownBy w2 p.wv.ownBlock)(hd:(Value.slice (some ⟨q,0,none⟩) (bs.length+1) cp).ownBlock=p.wv.ownBlock∨(Value.slice (some ⟨q,0,none⟩) (bs.length+1) cp).ownBlock=some N/\Below N (w1.alloc (.cells #[.int .u8 c] 5)) w2)(hN:w1.heap.size<=N):Yd b base vf vW vC wt fl vr p bs (some (st,bs++[c])) w (.returned (.bool true)) (w2.setCell ⟨b,11,none⟩ (.slice (some ⟨q,0,none⟩) (bs.length+1) cp)):=by
 have hbw:some b≠p.wv.ownBlock:=fun e=>by obtain⟨cur,hc⟩:=Zf h.2 e.symm;have:=h.1;unfold RB at this;rw[this] at hc;simp at hc
 have h1a:RB (w1.alloc (.cells #[.int .u8 c] 5)) b vf vW vC wt fl vr {p with st:=st}:=(Below.heap_alloc w1 _ b h1.lt).trans h1;have h2:RB w2 b vf vW vC wt fl vr {p with st:=st}:=h1a.grown hg hbw;refine⟨rfl,⟨.slice (some ⟨q,0,none⟩) (bs.length+1) cp,⟨h2.wv _,?_⟩,?_⟩,?_⟩
 ·have t:Za (fun k=>k=b) w2 (w2.setCell ⟨b,11,none⟩ (.slice (some ⟨q,0,none⟩) (bs.length+1) cp)):=(Za.refl (fun k=>k=b) w2).setCell (p:=⟨b,11,none⟩) (fun _=>rfl) _
  have hY:=t.row hX (fun k hk e=>by
   obtain⟨cur,hc⟩:=Zf hX hk;subst e;unfold RB at h2
   rw[h2] at hc;simp at hc)
  unfold Zo;simp only[Option.getD_some,Qe,List.map_append,List.map_cons,List.map_nil,List.length_cons,List.length_nil];exact hY
 ·rcases hd with e|⟨e,_⟩
  exact .inl e;exact .inr ⟨N,e,by have:=t1.size;omega⟩
 exact(((t1.mono (fun k _ e=>.inl e)).alloc _).grown hg (fun k e _=>.inr e.symm)).setCell (p:=⟨b,11,none⟩) (fun _=>.inl rfl) _
section
variable (b base:Nat) (vf vW vC:Value) (wt:Int) (fl:Bool) (vr:Value) (p:ZA) (bs:List Int) (c:Int) (w:World)
theorem Zck(h:RW w b base vf vW vC wt fl vr p bs)(hbs:base<=w.heap.size)(hl:bs.length<=1000):Calls Tryz.prog 260 #[.pointer (some ⟨b,6,none⟩),.int .u8 c] w fun e w'=>Yd b base vf vW vC wt fl vr p bs (QB bs c) w e w':=by
 obtain⟨i5,inf5,iz0,iz1,iz2⟩:=info_parts Zbm;obtain⟨c6,_,_,_,_,c11,cf⟩:=h.1.part;have H:Hid (RW w b base vf vW vC wt fl vr p bs):=h;have HL:Hid (∀W,Calls Tryz.prog 310 #[.int .u8 c] W fun e w'=>e=.returned (.bool (QU c))/\w'=W):=fun W=>ZbA c W;have HF:Hid (Calls Tryz.prog 311 #[.pointer (some ⟨b,6,none⟩)] w fun e w'=>e=.returned (.bool (decide (bs.length=8)))/\w'=w):=Zff b base vf vW vC wt fl vr p bs w h
 have HO1:Hid (Zo (w.setCell ⟨b,6,none⟩ (.int .i64 6)) base p.wv bs):=((Za.refl (fun k=>k=b) w).setCell (p:=⟨b,6,none⟩) (fun _=>rfl) _).row h.2 (fun k hk e=>by
  obtain⟨cur,hc⟩:=Zf h.2 hk;subst e;have:=h.1;unfold RB at this
  rw[this] at hc;simp at hc)
 have HR1:Hid (RB (w.setCell ⟨b,6,none⟩ (.int .i64 6)) b vf vW vC wt fl vr {p with st:=6}):=h.1.st 6;have HT1:Hid (Za (fun k=>k=b) w (w.setCell ⟨b,6,none⟩ (.int .i64 6))):=(Za.refl (fun k=>k=b) w).setCell (p:=⟨b,6,none⟩) (fun _=>rfl) _
 have HSZ:Hid (base<=(w.setCell ⟨b,6,none⟩ (.int .i64 6)).heap.size):=show base<=_ by simp[World.setCell];exact hbs
 have d11:(w.setCell ⟨b,6,none⟩ (.int .i64 6)).cell? ⟨b,11,none⟩=some p.wv:=(h.1.st 6).part.2.2.2.2.2.1;have df:∀o,(w.setCell ⟨b,6,none⟩ (.int .i64 6)).frozen? ⟨b,o,none⟩=false:=(h.1.st 6).part.2.2.2.2.2.2;clear h
 by_cases hlt:QU c=true
 ·rw[hlt] at HL
  by_cases h8:bs.length=8
  ·have HO:Hid (QB bs c=none):=if_neg (fun h=>h.2 h8);have hd8:decide (bs.length=8)=true:=decide_eq_true h8;rw[hd8] at HF;clear hlt h8 hd8;go_enter Tryz.func260,Tryz.ntmps260;go_wp2_with (first|(go_at_call 310;refine(HL.out _).mono ?_;rintro e w' ⟨rfl,rfl⟩)|(go_at_call 311;refine(HF.out).mono ?_;rintro e w' ⟨rfl,rfl⟩))
   go_ret;rw[HO.out];exact Yd.none H.out
  have HO:Hid (QB bs c=some (6,bs++[c])):=if_pos ⟨hlt,h8⟩;have hd8:decide (bs.length=8)=false:=decide_eq_false h8;rw[hd8] at HF;clear hlt h8 hd8;go_enter Tryz.func260,Tryz.ntmps260;go_upto_region 4 with(first|(go_at_call 310;refine(HL.out _).mono ?_;rintro e w' ⟨rfl,hw'⟩;obtain rfl:=hw'.symm)|(go_at_call 311;refine(HF.out).mono ?_;rintro e w' ⟨rfl,hw'⟩;obtain rfl:=hw'.symm))
  have HBW:Hid (some b≠p.wv.ownBlock):=fun e=>by obtain⟨cur,hc⟩:=Zf H.out.2 e.symm;have:=H.out.1;unfold RB at this;rw[this] at hc;simp at hc
  generalize w.setCell ⟨b,6,none⟩ (.int .i64 6)=w1 at *;have hs1:=HSZ.out;go_wp2_with (at_builtin;refine Zd rfl (.tmp 19) (.tmp 21) 66 rfl base 5 i5 (.int .u8 0) 1 1 Tryz.underlying66 inf5 iz0 iz1 iz2 rfl (by decide) p.wv bs.length (bs.map (Value.int .u8)) rfl (World.ownsRow.alloc HO1.out _) ⟨w1.heap.size,0,none⟩ 1 1 [.int .u8 c] rfl rfl (Zu w1 #[.int .u8 c] 5) (by intro u hu;simp only[List.mem_cons,List.not_mem_nil,or_false] at hu;rcases hu with rfl;rfl) (by decide) (by unfold maxLen;omega) (by omega) (by simp;omega) ?_)
  intro y w2 hX;obtain⟨ho,hg,hd,_,q,cp,rfl⟩:=hX.out;have h1a:RB (w1.alloc (.cells #[.int .u8 c] 5)) b vf vW vC wt fl vr {p with st:=6}:=(Below.heap_alloc w1 _ b HR1.out.lt).trans HR1.out;have h2:RB w2 b vf vW vC wt fl vr {p with st:=6}:=h1a.grown hg HBW.out;obtain⟨_,_,_,_,_,g11,gf⟩:=h2.part;have HFIN:Hid (Yd b base vf vW vC wt fl vr p bs (some (6,bs++[c])) w (.returned (.bool true)) (w2.setCell ⟨b,11,none⟩ (.slice (some ⟨q,0,none⟩) (bs.length+1) cp))):=ZdT H.out HR1.out HT1.out ho hg hd (by omega);clear hX ho hg hd h1a h2 c6 c11 cf d11 df;go_wp2;go_ret;rw[HO.out];exact HFIN.out
 have HO:Hid (QB bs c=none):=if_neg (fun h=>hlt h.1)
 have hf:QU c=false:=by simpa using hlt
 rw[hf] at HL;clear hlt hf;go_enter Tryz.func260,Tryz.ntmps260;go_wp2_with (go_at_call 310;refine(HL.out _).mono ?_;rintro e w' ⟨rfl,rfl⟩)
 go_ret;rw[HO.out];exact Yd.none H.out
end
theorem ZjU(c:Int)(w:World):Calls Tryz.prog 312 #[.int .u8 c] w fun e w'=>e=.returned (.bool (Zcf c))/\w'=w:=by
 have HL:Hid (∀W,Calls Tryz.prog 310 #[.int .u8 c] W fun e w'=>e=.returned (.bool (QU c))/\w'=W):=fun W=>ZbA c W
 by_cases k0:QU c=true
 ·have HO:Hid (Zcf c=true):=(by show Zcf c=true;unfold Zcf;rw[k0];rfl);rw[k0] at HL;clear k0;go_enter Tryz.func312,Tryz.ntmps312;go_wp2_with (go_at_call 310;refine(HL.out _).mono ?_;rintro e w' ⟨rfl,hw'⟩;obtain rfl:=hw'.symm)
  go_ret;rw[HO.out];exact⟨rfl,rfl⟩
 have k0':QU c=false:=by simpa using k0
 have HO:Hid (Zcf c=(decide (c=32)||decide (c=44)||decide (c=10)||decide (c=34))):=(by show Zcf c=_;unfold Zcf;rw[k0',Bool.false_or]);rw[k0'] at HL;clear k0 k0';have hcase:c=32∨c=44∨c=10∨c=34∨(¬c=32/\¬c=44/\¬c=10/\¬c=34):=by omega
 rcases hcase with rfl|rfl|rfl|rfl|⟨k1,k2,k3,k4⟩
 all_goals try
  have j1:(c==32)=false:=beq_eq_false_iff_ne.2 k1;have j2:(c==44)=false:=beq_eq_false_iff_ne.2 k2;have j3:(c==10)=false:=beq_eq_false_iff_ne.2 k3;have j4:(c==34)=false:=beq_eq_false_iff_ne.2 k4
 all_goals go_enter Tryz.func312,Tryz.ntmps312
 all_goals go_wp2_with (go_at_call 310;refine(HL.out _).mono ?_;rintro e w' ⟨rfl,hw'⟩;obtain rfl:=hw'.symm)
 all_goals go_ret
 all_goals refine⟨?_,rfl⟩
 all_goals rw[HO.out]
 all_goals first|rfl|simp_all
section
variable (b base:Nat) (vf vW vC:Value) (wt:Int) (fl:Bool) (vr:Value) (p:ZA) (bs:List Int) (c:Int) (w:World)
theorem ZfQ(h:RW w b base vf vW vC wt fl vr p bs)(hbs:base<=w.heap.size)(hl:bs.length<=1000):Calls Tryz.prog 263 #[.pointer (some ⟨b,6,none⟩),.int .u8 c] w fun e w'=>Yd b base vf vW vC wt fl vr p bs (Zav bs c) w e w':=by
 obtain⟨i5,inf5,iz0,iz1,iz2⟩:=info_parts Zbm;obtain⟨c6,_,_,_,_,c11,cf⟩:=h.1.part;have H:Hid (RW w b base vf vW vC wt fl vr p bs):=h;have HL:Hid (∀W,Calls Tryz.prog 310 #[.int .u8 c] W fun e w'=>e=.returned (.bool (QU c))/\w'=W):=fun W=>ZbA c W;have HF:Hid (Calls Tryz.prog 311 #[.pointer (some ⟨b,6,none⟩)] w fun e w'=>e=.returned (.bool (decide (bs.length=8)))/\w'=w):=Zff b base vf vW vC wt fl vr p bs w h
 have HBW:Hid (some b≠p.wv.ownBlock):=fun e=>by obtain⟨cur,hc⟩:=Zf h.2 e.symm;have:=h.1;unfold RB at this;rw[this] at hc;simp at hc
 have HO1:Hid (Zo (w.setCell ⟨b,6,none⟩ (.int .i64 7)) base p.wv bs):=((Za.refl (fun k=>k=b) w).setCell (p:=⟨b,6,none⟩) (fun _=>rfl) _).row h.2 (fun k hk e=>by
  obtain⟨cur,hc⟩:=Zf h.2 hk;subst e;have:=h.1;unfold RB at this
  rw[this] at hc;simp at hc)
 have HR1:Hid (RB (w.setCell ⟨b,6,none⟩ (.int .i64 7)) b vf vW vC wt fl vr {p with st:=7}):=h.1.st 7;have HT1:Hid (Za (fun k=>k=b) w (w.setCell ⟨b,6,none⟩ (.int .i64 7))):=(Za.refl (fun k=>k=b) w).setCell (p:=⟨b,6,none⟩) (fun _=>rfl) _
 have HSZ:Hid (base<=(w.setCell ⟨b,6,none⟩ (.int .i64 7)).heap.size):=show base<=_ by simp[World.setCell];exact hbs
 have d11:(w.setCell ⟨b,6,none⟩ (.int .i64 7)).cell? ⟨b,11,none⟩=some p.wv:=(h.1.st 7).part.2.2.2.2.2.1;have df:∀o,(w.setCell ⟨b,6,none⟩ (.int .i64 7)).frozen? ⟨b,o,none⟩=false:=(h.1.st 7).part.2.2.2.2.2.2;clear h HL
 by_cases hc:c=34
 ·subst hc
  by_cases h8:bs.length=8
  ·have HO:Hid (Zav bs 34=none):=if_neg (fun h=>h.2 h8);have hd8:decide (bs.length=8)=true:=decide_eq_true h8;rw[hd8] at HF;clear h8 hd8;go_enter Tryz.func263,Tryz.ntmps263;go_wp2_with ((go_at_call 311;refine(HF.out).mono ?_;rintro e w' ⟨rfl,hw'⟩;obtain rfl:=hw'.symm))
   go_ret;rw[HO.out];exact Yd.none H.out
  have HO:Hid (Zav bs 34=some (7,bs++[34])):=if_pos ⟨rfl,h8⟩;have hd8:decide (bs.length=8)=false:=decide_eq_false h8;rw[hd8] at HF;clear h8 hd8;go_enter Tryz.func263,Tryz.ntmps263;go_upto_region 4 with((go_at_call 311;refine(HF.out).mono ?_;rintro e w' ⟨rfl,hw'⟩;obtain rfl:=hw'.symm))
  generalize w.setCell ⟨b,6,none⟩ (.int .i64 7)=w1 at *;have hs1:=HSZ.out;go_wp2_with (at_builtin;refine Zd rfl (.tmp 18) (.tmp 20) 66 rfl base 5 i5 (.int .u8 0) 1 1 Tryz.underlying66 inf5 iz0 iz1 iz2 rfl (by decide) p.wv bs.length (bs.map (Value.int .u8)) rfl (World.ownsRow.alloc HO1.out _) ⟨w1.heap.size,0,none⟩ 1 1 [.int .u8 34] rfl rfl (Zu w1 #[.int .u8 34] 5) (by intro u hu;simp only[List.mem_cons,List.not_mem_nil,or_false] at hu;rcases hu with rfl;rfl) (by decide) (by unfold maxLen;omega) (by omega) (by simp;omega) ?_)
  intro y w2 hX;obtain⟨ho,hg,hd,_,q,cp,rfl⟩:=hX.out;have h1a:RB (w1.alloc (.cells #[.int .u8 34] 5)) b vf vW vC wt fl vr {p with st:=7}:=(Below.heap_alloc w1 _ b HR1.out.lt).trans HR1.out;have h2:RB w2 b vf vW vC wt fl vr {p with st:=7}:=h1a.grown hg HBW.out;obtain⟨_,_,_,_,_,g11,gf⟩:=h2.part;have HFIN:Hid (Yd b base vf vW vC wt fl vr p bs (some (7,bs++[34])) w (.returned (.bool true)) (w2.setCell ⟨b,11,none⟩ (.slice (some ⟨q,0,none⟩) (bs.length+1) cp))):=ZdT H.out HR1.out HT1.out ho hg hd (by omega);clear hX ho hg hd h1a h2 c6 c11 cf d11 df;go_wp2;go_ret;rw[HO.out];exact HFIN.out
 have HO:Hid (Zav bs c=none):=if_neg (fun h=>hc h.1);have hne:(c==34)=false:=beq_eq_false_iff_ne.2 hc;go_enter Tryz.func263,Tryz.ntmps263;go_wp2;go_ret;rw[HO.out];exact Yd.none H.out
theorem ZhN(h:RW w b base vf vW vC wt fl vr p bs)(hbs:base<=w.heap.size)(hl:bs.length<=1000):Calls Tryz.prog 262 #[.pointer (some ⟨b,6,none⟩),.int .u8 c] w fun e w'=>Yd b base vf vW vC wt fl vr p bs (ZdF p.st bs c) w e w':=by
 obtain⟨i5,inf5,iz0,iz1,iz2⟩:=info_parts Zbm;obtain⟨c6,_,_,_,_,c11,cf⟩:=h.1.part;have H:Hid (RW w b base vf vW vC wt fl vr p bs):=h;have HL:Hid (∀W,Calls Tryz.prog 312 #[.int .u8 c] W fun e w'=>e=.returned (.bool (Zcf c))/\w'=W):=fun W=>ZjU c W;have HF:Hid (Calls Tryz.prog 311 #[.pointer (some ⟨b,6,none⟩)] w fun e w'=>e=.returned (.bool (decide (bs.length=8)))/\w'=w):=Zff b base vf vW vC wt fl vr p bs w h
 have HBW:Hid (some b≠p.wv.ownBlock):=fun e=>by obtain⟨cur,hc⟩:=Zf h.2 e.symm;have:=h.1;unfold RB at this;rw[this] at hc;simp at hc
 have HO1:Hid (Zo w base p.wv bs):=h.2;have HR1:Hid (RB w b vf vW vC wt fl vr {p with st:=p.st}):=h.1;have HT1:Hid (Za (fun k=>k=b) w w):=Za.refl _ _;have HSZ:Hid (base<=w.heap.size):=hbs;have d11:w.cell? ⟨b,11,none⟩=some p.wv:=h.1.part.2.2.2.2.2.1;have df:∀o,w.frozen? ⟨b,o,none⟩=false:=h.1.part.2.2.2.2.2.2;clear h
 by_cases hs:Zcf c=true
 ·rw[hs] at HL
  by_cases h8:bs.length=8
  ·have HO:Hid (ZdF p.st bs c=none):=if_neg (fun h=>h.2 h8);have hd8:decide (bs.length=8)=true:=decide_eq_true h8;rw[hd8] at HF;clear h8 hd8 hs;go_enter Tryz.func262,Tryz.ntmps262;go_wp2_with (first|(go_at_call 312;refine(HL.out _).mono ?_;rintro e w' ⟨rfl,hw'⟩;obtain rfl:=hw'.symm)|(go_at_call 311;refine(HF.out).mono ?_;rintro e w' ⟨rfl,hw'⟩;obtain rfl:=hw'.symm))
   go_ret;rw[HO.out];exact Yd.none H.out
  have HO:Hid (ZdF p.st bs c=some (p.st,bs++[c])):=if_pos ⟨hs,h8⟩;have hd8:decide (bs.length=8)=false:=decide_eq_false h8;rw[hd8] at HF;clear h8 hd8 hs;go_enter Tryz.func262,Tryz.ntmps262;go_upto_region 3 with(first|(go_at_call 312;refine(HL.out _).mono ?_;rintro e w' ⟨rfl,hw'⟩;obtain rfl:=hw'.symm)|(go_at_call 311;refine(HF.out).mono ?_;rintro e w' ⟨rfl,hw'⟩;obtain rfl:=hw'.symm))
  have hs1:=HSZ.out;go_wp2_with (at_builtin;refine Zd rfl (.tmp 16) (.tmp 18) 66 rfl base 5 i5 (.int .u8 0) 1 1 Tryz.underlying66 inf5 iz0 iz1 iz2 rfl (by decide) p.wv bs.length (bs.map (Value.int .u8)) rfl (World.ownsRow.alloc HO1.out _) ⟨w.heap.size,0,none⟩ 1 1 [.int .u8 c] rfl rfl (Zu w #[.int .u8 c] 5) (by intro u hu;simp only[List.mem_cons,List.not_mem_nil,or_false] at hu;rcases hu with rfl;rfl) (by decide) (by unfold maxLen;omega) (by omega) (by simp;omega) ?_)
  intro y w2 hX;obtain⟨ho,hg,hd,_,q,cp,rfl⟩:=hX.out;have h1a:RB (w.alloc (.cells #[.int .u8 c] 5)) b vf vW vC wt fl vr {p with st:=p.st}:=(Below.heap_alloc w _ b HR1.out.lt).trans HR1.out;have h2:RB w2 b vf vW vC wt fl vr {p with st:=p.st}:=h1a.grown hg HBW.out;obtain⟨_,_,_,_,_,g11,gf⟩:=h2.part;have HFIN:Hid (Yd b base vf vW vC wt fl vr p bs (some (p.st,bs++[c])) w (.returned (.bool true)) (w2.setCell ⟨b,11,none⟩ (.slice (some ⟨q,0,none⟩) (bs.length+1) cp))):=ZdT H.out HR1.out HT1.out ho hg hd (by omega);clear hX ho hg hd h1a h2 c6 c11 cf d11 df;go_wp2;go_ret;rw[HO.out];exact HFIN.out
 have hs':Zcf c=false:=by simpa using hs
 have HO:Hid (ZdF p.st bs c=none):=if_neg (fun h=>hs h.1);rw[hs'] at HL;clear hs hs';go_enter Tryz.func262,Tryz.ntmps262;go_wp2_with (first|(go_at_call 312;refine(HL.out _).mono ?_;rintro e w' ⟨rfl,hw'⟩;obtain rfl:=hw'.symm)|(go_at_call 311;refine(HF.out).mono ?_;rintro e w' ⟨rfl,hw'⟩;obtain rfl:=hw'.symm))
 go_ret;rw[HO.out];exact Yd.none H.out
end
theorem Zm2{w w' w'':World}{r:Option Nat}(h:w.grownBy w' r)(k:w'.grownBy w'' r):w.grownBy w'' r:=
 ⟨k.os.trans h.os,k.tape.trans h.tape,k.output.trans h.output,Nat.le_trans h.size k.size,fun i hi hn=>(k.block i (Qh hi h.size) hn).trans (h.block i hi hn)⟩
def ZU(u:Int)(p:ZA)(c:Int):Option ZA:=
 if p.st=0 then(QV p c).orElse (fun _=>YS u p c)
 else if p.st=1 then YS u p c
 else if p.st=3 then(Qt p c).orElse (fun _=>QH p c)
 else if p.st=2 then QH p c
 else QA p c
def Z3(st:Int)(bs:List Int)(c:Int):Option (Int×List Int):=
 if st=0 then(if c=34 then some (7,bs) else none).orElse (fun _=>QB bs c)
 else if st=6 then QB bs c
 else if st=7 then(if c=34 then some (8,bs) else none).orElse (fun _=>ZdF st bs c)
 else Zav bs c
section
variable {b:Nat} {vf vW vC:Value} {wt:Int} {fl:Bool} {vr:Value} {p:ZA}
theorem Yc.first{w w1:World}{e:Ending}{o:Option ZA}(h:Yc b vf vW vC wt fl vr p o w e w1):(∃q,o=some q/\e=.returned (.bool true))∨(o=none/\e=.returned (.bool false)/\RB w1 b vf vW vC wt fl vr p/\w.grownBy w1 (some b)):=by
 obtain⟨h1,h2,h3⟩:=h
 cases o with
 |none=>exact .inr ⟨rfl,h1,h2,h3⟩
 |some q=>exact .inl ⟨q,rfl,h1⟩
theorem Yc.second{w w1 w2:World}{e:Ending}{o:Option ZA}(hg:w.grownBy w1 (some b))(h:Yc b vf vW vC wt fl vr p o w1 e w2):Yc b vf vW vC wt fl vr p o w e w2:=⟨h.1,h.2.1,Zm2 hg h.2.2⟩
theorem Yc.ends{w w1:World}{e:Ending}{o:Option ZA}(h:Yc b vf vW vC wt fl vr p o w e w1):e=.returned (.bool o.isSome):=h.1
end
theorem ZfP(b:Nat)(vf vW vC:Value)(wt:Int)(fl:Bool)(vr:Value)(p:ZA)(c u:Int)(w:World)(h:RB w b vf vW vC wt fl vr p)(hv1:0<=u)(hv2:u<=1000000)(hu1:0<=p.unit)(hu2:p.unit<=1000000)(hn1:0<=p.num)(hn2:p.num<=1000000000000)(hg1:0<=p.dig)(hg2:p.dig<=1000):Calls Tryz.prog 215 #[.pointer (some ⟨b,6,none⟩),.int .u8 c,.int .i64 u] w fun e w'=>Yc b vf vW vC wt fl vr p (ZU u p c) w e w':=by
 obtain⟨c6,_,_,_,_,_,_⟩:=h.part;have H:Hid (RB w b vf vW vC wt fl vr p):=h;clear h
 by_cases s0:p.st=0
 ·have HO:Hid (ZU u p c=(QV p c).orElse (fun _=>YS u p c)):=if_pos s0;rw[s0] at c6;clear s0;go_enter Tryz.func215,Tryz.ntmps215;go_wp2_with fail
  refine(Zgp b vf vW vC wt fl vr p c w H.out).mono ?_;rintro e w1 ht;have HT:Hid (Yc b vf vW vC wt fl vr p (QV p c) w e w1):=ht
  rcases ht.first with⟨q,hq,rfl⟩|⟨hq,rfl,hR,hG⟩
  ·have HQ:Hid (QV p c=some q):=hq;clear ht hq;go_wp2;go_ret;rw[HO.out,HQ.out];have:=HT.out;rw[HQ.out] at this;exact this
  have HQ:Hid (QV p c=none):=hq;have HR:Hid (RB w1 b vf vW vC wt fl vr p/\w.grownBy w1 (some b)):=⟨hR,hG⟩;clear ht hq hR hG HT;go_wp2_with fail
  refine(ZcR b vf vW vC wt fl vr p c w1 HR.out.1 u hv1 hv2).mono ?_;rintro e w2 ht;have HT:Hid (Yc b vf vW vC wt fl vr p (YS u p c) w e w2):=ht.second HR.out.2;obtain rfl:=ht.ends;clear ht;go_wp2;go_ret;rw[HO.out,HQ.out];exact HT.out
 by_cases s1:p.st=1
 ·have HO:Hid (ZU u p c=YS u p c):=(by show ZU u p c=_;unfold ZU;rw[if_neg s0,if_pos s1]);rw[s1] at c6;clear s0 s1;go_enter Tryz.func215,Tryz.ntmps215;go_wp2_with fail
  refine(ZcR b vf vW vC wt fl vr p c w H.out u hv1 hv2).mono ?_;rintro e w2 ht;have HT:Hid (Yc b vf vW vC wt fl vr p (YS u p c) w e w2):=ht;obtain rfl:=ht.ends;clear ht;go_wp2;go_ret;rw[HO.out];exact HT.out
 by_cases s3:p.st=3
 ·have HO:Hid (ZU u p c=(Qt p c).orElse (fun _=>QH p c)):=(by show ZU u p c=_;unfold ZU;rw[if_neg s0,if_neg s1,if_pos s3]);rw[s3] at c6;clear s0 s1 s3;go_enter Tryz.func215,Tryz.ntmps215;go_wp2_with fail
  refine(Zgo b vf vW vC wt fl vr p c w H.out hu1 hu2 hn1 hn2 hg1 hg2).mono ?_;rintro e w1 ht;have HT:Hid (Yc b vf vW vC wt fl vr p (Qt p c) w e w1):=ht
  rcases ht.first with⟨q,hq,rfl⟩|⟨hq,rfl,hR,hG⟩
  ·have HQ:Hid (Qt p c=some q):=hq;clear ht hq;go_wp2;go_ret;rw[HO.out,HQ.out];have:=HT.out;rw[HQ.out] at this;exact this
  have HQ:Hid (Qt p c=none):=hq;have HR:Hid (RB w1 b vf vW vC wt fl vr p/\w.grownBy w1 (some b)):=⟨hR,hG⟩;clear ht hq hR hG HT;go_wp2_with fail
  refine(ZcS b vf vW vC wt fl vr p c w1 HR.out.1).mono ?_;rintro e w2 ht;have HT:Hid (Yc b vf vW vC wt fl vr p (QH p c) w e w2):=ht.second HR.out.2;obtain rfl:=ht.ends;clear ht;go_wp2;go_ret;rw[HO.out,HQ.out];exact HT.out
 by_cases s2:p.st=2
 ·have HO:Hid (ZU u p c=QH p c):=(by show ZU u p c=_;unfold ZU;rw[if_neg s0,if_neg s1,if_neg s3,if_pos s2]);rw[s2] at c6;clear s0 s1 s3 s2;go_enter Tryz.func215,Tryz.ntmps215;go_wp2_with fail
  refine(ZcS b vf vW vC wt fl vr p c w H.out).mono ?_;rintro e w2 ht;have HT:Hid (Yc b vf vW vC wt fl vr p (QH p c) w e w2):=ht;obtain rfl:=ht.ends;clear ht;go_wp2;go_ret;rw[HO.out];exact HT.out
 have HO:Hid (ZU u p c=QA p c):=(by show ZU u p c=_;unfold ZU;rw[if_neg s0,if_neg s1,if_neg s3,if_neg s2]);have e0:(p.st==0)=false:=beq_eq_false_iff_ne.2 s0;have e1:(p.st==1)=false:=beq_eq_false_iff_ne.2 s1;have e2:(p.st==2)=false:=beq_eq_false_iff_ne.2 s2;have e3:(p.st==3)=false:=beq_eq_false_iff_ne.2 s3;go_enter Tryz.func215,Tryz.ntmps215;go_wp2_with fail
 refine(ZfN b vf vW vC wt fl vr p c w H.out hu1 hu2 hn1 hn2).mono ?_;rintro e w2 ht;have HT:Hid (Yc b vf vW vC wt fl vr p (QA p c) w e w2):=ht;obtain rfl:=ht.ends;clear ht;go_wp2;go_ret;rw[HO.out];exact HT.out
section
variable {b base:Nat} {vf vW vC:Value} {wt:Int} {fl:Bool} {vr:Value} {p:ZA} {bs:List Int}
theorem Yd.first{w w1:World}{e:Ending}{o:Option (Int×List Int)}(h:Yd b base vf vW vC wt fl vr p bs o w e w1):(∃q,o=some q/\e=.returned (.bool true))∨(o=Option.none/\e=.returned (.bool false)/\∃v',RW w1 b base vf vW vC wt fl vr {p with wv:=v'} bs/\(v'.ownBlock=p.wv.ownBlock∨∃k,v'.ownBlock=some k/\w.heap.size<=k)/\Za (fun k=>k=b∨some k=p.wv.ownBlock) w w1):=by
 obtain⟨h1,⟨v',h2,h3⟩,h4⟩:=h
 cases o with
 |none=>exact .inr ⟨rfl,h1,v',h2,h3,h4⟩
 |some q=>exact .inl ⟨q,rfl,h1⟩
theorem Yd.second{w w1 w2:World}{e:Ending}{o:Option (Int×List Int)}{v':Value}(hv:v'.ownBlock=p.wv.ownBlock∨∃k,v'.ownBlock=some k/\w.heap.size<=k)(ht:Za (fun k=>k=b∨some k=p.wv.ownBlock) w w1)(h:Yd b base vf vW vC wt fl vr {p with wv:=v'} bs o w1 e w2):Yd b base vf vW vC wt fl vr p bs o w e w2:=by
 obtain⟨h1,⟨v2,h2,h3⟩,h4⟩:=h;refine⟨h1,⟨v2,h2,?_⟩,⟨h4.os.trans ht.os,h4.tape.trans ht.tape,h4.output.trans ht.output,Nat.le_trans ht.size h4.size,fun k hk hn=>(h4.block k (Qh hk ht.size) (fun e=>?_)).trans (ht.block k hk hn)⟩⟩
 ·rcases h3 with h3|⟨k,h3,hk⟩
  ·rcases hv with hv|⟨k,hv,hk⟩
   exact .inl (h3.trans hv);exact .inr ⟨k,h3.trans hv,hk⟩
  exact .inr ⟨k,h3,by have:=ht.size;omega⟩
 rcases e with e|e
 exact hn (.inl e)
 rcases hv with hv|⟨k',hv,hk'⟩
 exact hn (.inr (e.trans hv));have e2:some k=some k':=e.trans hv;simp at e2;omega
theorem Yd.ends{w w1:World}{e:Ending}{o:Option (Int×List Int)}(h:Yd b base vf vW vC wt fl vr p bs o w e w1):e=.returned (.bool o.isSome):=h.1
end
theorem ZhO(b base:Nat)(vf vW vC:Value)(wt:Int)(fl:Bool)(vr:Value)(p:ZA)(bs:List Int)(c:Int)(w:World)(h:RW w b base vf vW vC wt fl vr p bs)(hbs:base<=w.heap.size)(hl:bs.length<=1000):Calls Tryz.prog 209 #[.pointer (some ⟨b,6,none⟩),.int .u8 c] w fun e w'=>Yd b base vf vW vC wt fl vr p bs (Z3 p.st bs c) w e w':=by
 obtain⟨c6,_,_,_,_,_,_⟩:=h.1.part;have H:Hid (RW w b base vf vW vC wt fl vr p bs):=h;clear h
 by_cases s0:p.st=0
 ·have HO:Hid (Z3 p.st bs c=(if c=34 then some ((7:Int),bs) else none).orElse (fun _=>QB bs c)):=if_pos s0;rw[s0] at c6;clear s0;go_enter Tryz.func209,Tryz.ntmps209;go_wp2_with fail
  refine(ZeE b base vf vW vC wt fl vr p bs c w H.out).mono ?_;rintro e w1 ht;have HT:Hid (Yd b base vf vW vC wt fl vr p bs (if c=34 then some (7,bs) else none) w e w1):=ht
  rcases ht.first with⟨q,hq,rfl⟩|⟨hq,rfl,v',hR,hV,hTo⟩
  ·have HQ:Hid ((if c=34 then some ((7:Int),bs) else none)=some q):=hq;clear ht hq;go_wp2;go_ret;rw[HO.out,HQ.out];have:=HT.out;rw[HQ.out] at this;exact this
  have HQ:Hid ((if c=34 then some ((7:Int),bs) else none)=none):=hq;have HR:Hid (RW w1 b base vf vW vC wt fl vr {p with wv:=v'} bs/\(v'.ownBlock=p.wv.ownBlock∨∃k,v'.ownBlock=some k/\w.heap.size<=k)/\Za (fun k=>k=b∨some k=p.wv.ownBlock) w w1):=⟨hR,hV,hTo⟩;have hb1:base<=w1.heap.size:=(by have:=hTo.size;omega);clear ht hq hR hV hTo HT;go_wp2_with fail
  refine(Zck b base vf vW vC wt fl vr {p with wv:=v'} bs c w1 HR.out.1 hb1 hl).mono ?_;rintro e w2 ht;have HT:Hid (Yd b base vf vW vC wt fl vr p bs (QB bs c) w e w2):=ht.second HR.out.2.1 HR.out.2.2;obtain rfl:=ht.ends;clear ht;go_wp2;go_ret;rw[HO.out,HQ.out];exact HT.out
 by_cases s6:p.st=6
 ·have HO:Hid (Z3 p.st bs c=QB bs c):=(by show Z3 p.st bs c=_;unfold Z3;rw[if_neg s0,if_pos s6]);rw[s6] at c6;clear s0 s6;go_enter Tryz.func209,Tryz.ntmps209;go_wp2_with fail
  refine(Zck b base vf vW vC wt fl vr p bs c w H.out hbs hl).mono ?_;rintro e w2 ht;have HT:Hid (Yd b base vf vW vC wt fl vr p bs (QB bs c) w e w2):=ht;obtain rfl:=ht.ends;clear ht;go_wp2;go_ret;rw[HO.out];exact HT.out
 by_cases s7:p.st=7
 ·have HO:Hid (Z3 p.st bs c=(if c=34 then some ((8:Int),bs) else none).orElse (fun _=>ZdF p.st bs c)):=(by show Z3 p.st bs c=_;unfold Z3;rw[if_neg s0,if_neg s6,if_pos s7]);rw[s7] at c6;clear s0 s6 s7;go_enter Tryz.func209,Tryz.ntmps209;go_wp2_with fail
  refine(Zgq b base vf vW vC wt fl vr p bs c w H.out).mono ?_;rintro e w1 ht;have HT:Hid (Yd b base vf vW vC wt fl vr p bs (if c=34 then some (8,bs) else none) w e w1):=ht
  rcases ht.first with⟨q,hq,rfl⟩|⟨hq,rfl,v',hR,hV,hTo⟩
  ·have HQ:Hid ((if c=34 then some ((8:Int),bs) else none)=some q):=hq;clear ht hq;go_wp2;go_ret;rw[HO.out,HQ.out];have:=HT.out;rw[HQ.out] at this;exact this
  have HQ:Hid ((if c=34 then some ((8:Int),bs) else none)=none):=hq;have HR:Hid (RW w1 b base vf vW vC wt fl vr {p with wv:=v'} bs/\(v'.ownBlock=p.wv.ownBlock∨∃k,v'.ownBlock=some k/\w.heap.size<=k)/\Za (fun k=>k=b∨some k=p.wv.ownBlock) w w1):=⟨hR,hV,hTo⟩;have hb1:base<=w1.heap.size:=(by have:=hTo.size;omega);clear ht hq hR hV hTo HT;go_wp2_with fail
  refine(ZhN b base vf vW vC wt fl vr {p with wv:=v'} bs c w1 HR.out.1 hb1 hl).mono ?_;rintro e w2 ht;have HT:Hid (Yd b base vf vW vC wt fl vr p bs (ZdF p.st bs c) w e w2):=ht.second HR.out.2.1 HR.out.2.2;obtain rfl:=ht.ends;clear ht;go_wp2;go_ret;rw[HO.out,HQ.out];exact HT.out
 have HO:Hid (Z3 p.st bs c=Zav bs c):=(by show Z3 p.st bs c=_;unfold Z3;rw[if_neg s0,if_neg s6,if_neg s7]);have e0:(p.st==0)=false:=beq_eq_false_iff_ne.2 s0;have e6:(p.st==6)=false:=beq_eq_false_iff_ne.2 s6;have e7:(p.st==7)=false:=beq_eq_false_iff_ne.2 s7;go_enter Tryz.func209,Tryz.ntmps209;go_wp2_with fail
 refine(ZfQ b base vf vW vC wt fl vr p bs c w H.out hbs hl).mono ?_;rintro e w2 ht;have HT:Hid (Yd b base vf vW vC wt fl vr p bs (Zav bs c) w e w2):=ht;obtain rfl:=ht.ends;clear ht;go_wp2;go_ret;rw[HO.out];exact HT.out
theorem Zi1(b ub:Nat)(vf vW vC:Value)(wt:Int)(fl:Bool)(vr:Value)(p:ZA)(c u:Int)(w:World)(h:RB w b vf vW vC wt fl vr p)(hub:w.cell? ⟨ub,0,none⟩=some (.int .i64 u))(hv1:0<=u)(hv2:u<=1000000)(hu1:0<=p.unit)(hu2:p.unit<=1000000)(hn1:0<=p.num)(hn2:p.num<=1000000000000)(hg1:0<=p.dig)(hg2:p.dig<=1000):Calls Tryz.prog 214 #[.pointer (some ⟨b,6,none⟩),.int .u8 c,.pointer (some ⟨ub,0,none⟩)] w fun e w'=>Yc b vf vW vC wt fl vr p (ZU u p c) w e w':=by
 have H:Hid (RB w b vf vW vC wt fl vr p):=h;clear h;go_enter Tryz.func214,Tryz.ntmps214;go_wp2_with fail
 refine(ZfP b vf vW vC wt fl vr p c u w H.out hv1 hv2 hu1 hu2 hn1 hn2 hg1 hg2).mono ?_;rintro e w2 ht;have HT:Hid (Yc b vf vW vC wt fl vr p (ZU u p c) w e w2):=ht;obtain rfl:=ht.ends;clear ht;go_wp2;go_ret;exact HT.out
def Zs(c:Int)(n:Nat):Nat:=((if c<0 then -(c+1) else c)%(n:Int)).toNat
theorem Yh(c:Int){n:Nat}(h:0<n):Zs c n<n:=by unfold Zs;have:=Int.emod_lt_of_pos (if c<0 then -(c+1) else c) (show(0:Int)<n by omega);have:=Int.emod_nonneg (if c<0 then -(c+1) else c) (show(n:Int)≠0 by omega);omega
theorem YE(c:Int)(n:Nat)(w:World)(hc:(Lit.int .i64 c).wf=true)(hn:0<n)(hn2:n<=4000000000000000000):Calls Tryz.prog 17 #[.int .i64 c,.int .i64 (n:Nat)] w fun e w'=>e=.returned (.int .i64 (Zs c n:Nat))/\w'=w:=by
 have hcr: -9223372036854775808<=c/\c<=9223372036854775807:=by simp[Lit.wf,IntKind.min,IntKind.max,IntKind.bits,IntKind.signed] at hc;omega
 by_cases h0:c<0
 ·have q1:IntKind.i64.wrap (c+1)=c+1:=(by simp[IntKind.wrap,IntKind.bits,IntKind.signed];omega);have q2:IntKind.i64.wrap (-(c+1))= -(c+1):=by simp[IntKind.wrap,IntKind.bits,IntKind.signed];omega
  have q3:(-(c+1)).tmod (n:Int)=((Zs c n:Nat):Int):=(by rw[Int.tmod_eq_emod_of_nonneg (by omega)];unfold Zs;rw[if_pos h0,Int.toNat_of_nonneg (Int.emod_nonneg _ (by omega))]);have hne:¬(n:Int)=0:=(by omega);go_enter Tryz.func17,Tryz.ntmps17;go_wp2;go_ret;exact⟨rfl,rfl⟩
 have q3:c.tmod (n:Int)=((Zs c n:Nat):Int):=(by rw[Int.tmod_eq_emod_of_nonneg (by omega)];unfold Zs;rw[if_neg h0,Int.toNat_of_nonneg (Int.emod_nonneg _ (by omega))]);have hne:¬(n:Int)=0:=(by omega);go_enter Tryz.func17,Tryz.ntmps17;go_wp2;go_ret;exact⟨rfl,rfl⟩
def Z9(zs:List Int)(i:Nat):Int:=if zs.length=0 then 0 else zs.getD (i%zs.length) 0
theorem Zeg(a:Option Addr)(n c i:Nat)(zs:List Int)(w:World)(h:ZM w a n zs)(hi:i<=1000000000000000)(hn:n<=9223372036854775807):Calls Tryz.prog 18 #[.slice a n c,.int .i64 (i:Nat)] w fun e w'=>e=.returned (.int .i64 (Z9 zs i))/\w'=w:=by
 unfold Z9;rw[h.1]
 by_cases h0:n=0
 ·rw[if_pos h0];have q:((n:Int)==0)=true:=(by rw[h0];rfl);clear h;subst h0;go_enter Tryz.func18,Tryz.ntmps18;go_wp2;go_ret;exact⟨rfl,rfl⟩
 rw[if_neg h0]
 rcases h.2.2 with e|⟨b,off,ha,hbl,hc⟩
 exact absurd e h0;subst ha;obtain⟨r,hr⟩:∃r,r=i%n:=⟨_,rfl⟩;have hrn:r<n:=(by rw[hr];exact Nat.mod_lt _ (by omega));have c0:=hc r hrn;rw[<- hr];have q1:(i:Int).tmod (n:Int)=(r:Int):=(by rw[Int.tmod_eq_emod_of_nonneg (by omega),hr];simp);have q2:((n:Int)==0)=false:=(by rw[beq_eq_false_iff_ne];omega);have hne:¬(n:Int)=0:=(by omega);have b1:(0:Int)<=(r:Int):=(by omega);have b2:(r:Int)<(n:Int):=(by omega);generalize zs.getD r 0=z at *;clear h hc hr;go_enter Tryz.func18,Tryz.ntmps18;go_wp2;go_ret;exact⟨rfl,rfl⟩
end Go.Proofs.YtfcgnpchbcmdeaaGreat
