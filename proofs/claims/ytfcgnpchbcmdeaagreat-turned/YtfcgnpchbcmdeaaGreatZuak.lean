import Derived.Test.YtfcgnpchbcmdeaaGreatZuai
import Derived.Test.YtfcgnpchbcmdeaaGreatZuaj
import Derived.Deep.RegionLaw
import Derived.Deep.RegionWith
namespace Go.Proofs.YtfcgnpchbcmdeaaGreat
set_option maxRecDepth 100000
set_option maxHeartbeats 4000000
open Go.RowKit
theorem Zaw{P:Program}{ops:Array Oper}{o:Oper}{a:Act}{w:World}{K:Act->World->Prop}{Q:Exit->Act->World->Prop}{E:Prop}(hg:o.guard=none)(s x:Operand)(t:TypeId)(hop:o.op=Op.call {callee:=Callee.builtin Builtin.append,args:=#[s,x],argTypes:=#[t,t]})(base:Nat)(e:TypeId)(i:TypeInfo)(z:Value)(size bytes:Nat)(ht:P.underlying t=some (.slice e))(hi:P.info? e=some i)(hz:i.zero=some z)(hsize:i.size=size)(hby:i.bytes=bytes)(hzs:z.cells.size=size)(hsz:0<size)(v:Value)(n:Nat)(xs:List Value)(hs:a.eval s=v)(hown:w.ownsRow base e size v n xs)(ad:Addr)(m c:Nat)(news:List Value)(hx:a.eval x=.slice (some ad) m c)(hl:news.length=m*size)(hnews:∀j u,news[j]? =some u->w.cell? (ad.add j)=some u)(h1:∀u∈news,u.oneCell'=true)(h63:n+m<=maxLen)(hbytes:(n+m)*bytes<=140737488355328)(hbase:base<=w.heap.size)(h:∀v' w',w'.ownsRow base e size v' (n+m) (xs++news)->w.grownBy w' v.ownBlock->K (a.put o.dst v') w'):if Region.wanted o (yielded ops a.tmps)=true then Oper.wp P o a w K Q else E:=by
 have hw:Region.wanted o (yielded ops a.tmps)=true:=(by simp[Region.wanted,hg]);rw[if_pos hw];exact wp_append_own w s x t hop base e i z size bytes ht hi hz hsize hby hzs hsz v n xs hs hown ad m c news hx hl hnews h1 h63 hbytes hbase fun v' w' h2 h3 _=>h v' w' h2 h3
theorem Zgl(aa ab:Option Addr)(a b:List Zq)(ca cb:Nat)(w:World)(hA:Yo w aa a)(hB:Yo w ab b)(ga:ZB a)(gb:ZB b):Calls Tryz.prog 46 #[.slice aa a.length ca,.slice ab b.length cb] w fun e w'=>∃v,e=.returned v/\Zh w' w.heap.size v (Zx a b)/\Below w.heap.size w w':=by
 obtain⟨i0,hinf,hz0,hz1,hz2⟩:=info_parts Zis;have la:=hA.1;have lb:=hB.1;have HA:Hid (Yo w aa a):=hA;have HB:Hid (Yo w ab b):=hB;have GA:Hid (ZB a):=ga;have GB:Hid (ZB b):=gb;clear hA hB ga gb;have hmk:∀W:World,(Instr.makeSlice 29 (.int .i64 0) (.int .i64 ((a.length:Int)+(b.length:Int)))).run Tryz.prog W=.ok (.slice (some ⟨W.heap.size,0,none⟩) 0 (a.length+b.length)) (W.alloc (.cells (madeCells #[.int .i64 0,.int .i64 0,.int .i64 0,.int .i64 0] ((a.length+b.length)*4)) 98)):=by intro W;have:=run_make (P:=Tryz.prog) W 29 98 i0 _ Tryz.underlying29 hinf hz0 .i64 .i64 0 ((a.length:Int)+(b.length:Int)) (by omega) (by omega) (by rw[hz2];omega) (by omega);rw[hz1] at this;rw[this,show((a.length:Int)+(b.length:Int)).toNat=a.length+b.length by omega];rfl
 have HM:Hid (Zh (w.alloc (.cells (madeCells #[.int .i64 0,.int .i64 0,.int .i64 0,.int .i64 0] ((a.length+b.length)*4)) 98)) w.heap.size (.slice (some ⟨w.heap.size,0,none⟩) 0 (a.length+b.length)) []):=World.ownsRow_made w _ _ (Qa _) (by unfold maxLen;omega) (size_madeCells _ _);go_enter Tryz.func46,Tryz.ntmps46;go_wp2_with fail
 go_loopw [5,6,7] (fun o ti tj wr=>∃(i j:Nat) (out:List Zq),ti=.int .i64 i/\tj=.int .i64 j/\Hid (Q7 a b i j out/\Zh wr w.heap.size o out)/\Below w.heap.size w wr) (fun _ ti tj _=>(a.length-(intOf ti).toNat)+(b.length-(intOf tj).toNat))
 case atStart=>exact⟨0,0,[],rfl,rfl,⟨⟨⟨Qg _,Qg _,fun _ h=>absurd h (by omega),fun _ h=>absurd h (by omega)⟩,by simp[Zli]⟩,HM.out⟩,(Below.refl _ _).alloc (Qa _) _⟩
 case round=>
  clear HM hmk;obtain⟨i,j,out,rfl,rfl,HR,hbel⟩:=hrel;obtain⟨R,hown⟩:=HR.out;have hlen:=R.len;have hi:=R.st.hi;have hj:=R.st.hj;have hsz:=hbel.size;have HEA:Hid (Yo wr aa a):=HA.out.below hbel;have HEB:Hid (Yo wr ab b):=HB.out.below hbel;have HO:Hid (Zh wr w.heap.size u5 out):=hown;have HRJ:Hid (Q7 a b i j out):=R;clear HR R hown
  by_cases hil:i<a.length
  ·by_cases hjl:j<b.length
   ·rcases HEA.out with⟨_,h0|⟨b1,o1,rfl,hA⟩⟩;omega;rcases HEB.out with⟨_,h0|⟨b2,o2,rfl,hB⟩⟩;omega;have ga0:=GA.out.at hil;have gb0:=GB.out.at hjl;have hbb1:=hA.lt (by omega);have hbb2:=hB.lt (by omega);obtain⟨a0,a1,a2,a3⟩:wr.cell? ⟨b1,o1+i*4,none⟩=some (.int .i64 (a.getD i e0).v)/\wr.cell? ⟨b1,o1+i*4+1,none⟩=some (.int .i64 (a.getD i e0).lo)/\wr.cell? ⟨b1,o1+i*4+2,none⟩=some (.int .i64 (a.getD i e0).hi)/\wr.cell? ⟨b1,o1+i*4+3,none⟩=some (.int .i64 (a.getD i e0).wt):=⟨hA.v i hil,hA.lo i hil,hA.hi i hil,hA.wt i hil⟩
    obtain⟨c0,c1,c2,c3⟩:wr.cell? ⟨b2,o2+j*4,none⟩=some (.int .i64 (b.getD j e0).v)/\wr.cell? ⟨b2,o2+j*4+1,none⟩=some (.int .i64 (b.getD j e0).lo)/\wr.cell? ⟨b2,o2+j*4+2,none⟩=some (.int .i64 (b.getD j e0).hi)/\wr.cell? ⟨b2,o2+j*4+3,none⟩=some (.int .i64 (b.getD j e0).wt):=⟨hB.v j hjl,hB.lo j hjl,hB.hi j hjl,hB.wt j hjl⟩;have bi1:(0:Int)<=(i:Int):=(by omega);have bi2:(i:Int)<(a.length:Int):=(by omega);have bj1:(0:Int)<=(j:Int):=(by omega);have bj2:(j:Int)<(b.length:Int):=(by omega);clear hA hB
    rcases Int.lt_trichotomy (a.getD i e0).v (b.getD j e0).v with hlt|heq|hgt
    ·have HX:Hid (Q7 a b (i+1) j (out++[seen b j (a.getD i e0)])):=HRJ.out.a GA.out hil (fun _=>hlt);generalize (b.getD j e0).v=vb at *;generalize a.getD i e0=x at *;clear c1 c2 c3 gb0;obtain⟨g1,g2,g3,g4,g5,g6⟩:=ga0;go_wp2_with fail
     go_region
     go_wp2_with fail
     refine(QB _ b cb j x _ (HEB.out.below (Below.refl _ _).drew) GB.out hj (by omega)).mono ?_;rintro e w1 ⟨rfl,hb1⟩;have hbw1:Below wr.heap.size wr w1:=(Below.refl _ _).drew.trans hb1;clear hb1;have HO1:Hid (Zh w1 w.heap.size u5 out):=HO.out.below hbw1;have hs1:w.heap.size<=w1.heap.size:=Nat.le_trans hsz hbw1.size;go_wp2_with (at_builtin;refine wpList_append_own _ rfl (.tmp 52) (.tmp 60) 29 rfl w.heap.size 98 i0 (.agg #[.int .i64 0,.int .i64 0,.int .i64 0,.int .i64 0]) 4 32 Tryz.underlying29 hinf hz0 hz1 hz2 rfl (by decide) _ out.length (flat out) rfl (HO1.out.alloc _) ⟨w1.heap.size,0,none⟩ 1 1 [.int .i64 (seen b j x).v,.int .i64 (seen b j x).lo,.int .i64 (seen b j x).hi,.int .i64 (seen b j x).wt] rfl rfl ?_ ?_ ?_ ?_ ?_ ?_)
     exact Zr w1 #[.int .i64 (seen b j x).v,.int .i64 (seen b j x).lo,.int .i64 (seen b j x).hi,.int .i64 (seen b j x).wt] 98
     ·intro u hu;simp at hu;rcases hu with rfl|rfl|rfl|rfl<;>rfl
     unfold maxLen;omega;omega;simp;omega;intro v3 w3 hown3 hgrow _;have hb3:Below w.heap.size wr w3:=((hbw1.mono hsz).alloc hs1 _).grown hgrow (by simp;omega) (fun k hk=>(HO1.out.lt k hk).1);have hb4:Below w.heap.size w w3:=hbel.trans hb3;have HF:Hid (Zh w3 w.heap.size v3 (out++[seen b j x])):=Zh.more hown3;clear hown3 hgrow;go_wp2;go_roundw;case rel=>exact⟨i+1,j,_,by go_num,by go_num,⟨HX.out,HF.out⟩,hb4⟩
     case measure=>simp[intOf];omega
    ·have HX:Hid (Q7 a b (i+1) (j+1) (out++[Zax (a.getD i e0) (b.getD j e0)])):=HRJ.out.ab GA.out GB.out hil hjl heq;generalize a.getD i e0=x at *;generalize b.getD j e0=y at *;obtain⟨g1,g2,g3,g4,g5,g6⟩:=ga0;obtain⟨k1,k2,k3,k4,k5,k6⟩:=gb0;have hnl:¬x.v<y.v:=(by omega);have hng:¬y.v<x.v:=(by omega);have HEQ:Hid (x.v=y.v):=heq;clear heq;go_wp2_with fail
     go_region
     go_wp2_with fail
     go_region
     go_wp2_with fail
     go_region_law (first|(refine Zaw rfl (.tmp 24) (.tmp 34) 29 rfl w.heap.size 98 i0 (.agg #[.int .i64 0,.int .i64 0,.int .i64 0,.int .i64 0]) 4 32 Tryz.underlying29 hinf hz0 hz1 hz2 rfl (by decide) u5 out.length (flat out) (by simp[Act.eval]) ((HO.out.below ((Below.refl _ _).drew.drew.drew.trans hb1)).alloc _) ⟨w1.heap.size,0,none⟩ 1 1 [.int .i64 (Zax x y).v,.int .i64 (Zax x y).lo,.int .i64 (Zax x y).hi,.int .i64 (Zax x y).wt] (by simp[Act.eval]) rfl (Zr w1 #[.int .i64 (Zax x y).v,.int .i64 (Zax x y).lo,.int .i64 (Zax x y).hi,.int .i64 (Zax x y).wt] 98) (by intro u hu;simp at hu;rcases hu with rfl|rfl|rfl|rfl<;>rfl) (by unfold maxLen;omega) (by omega) (by have:=hb1.size;simp at this ⊢;omega) ?_;intro v3 w3 hown3 hgrow)|(go_simp;go_wp2_with (go_at_call 86;refine(Zql x y _ (by omega) (by omega)).mono ?_;rintro e w1 ⟨rfl,hb1⟩)))
     all_goals
      have hbw1:Below wr.heap.size wr w1:=(Below.refl _ _).drew.drew.drew.trans hb1;have hs1:w.heap.size<=w1.heap.size:=Nat.le_trans hsz hbw1.size;have hb3:Below w.heap.size wr w3:=((hbw1.mono hsz).alloc hs1 _).grown hgrow (by simp;omega) (fun k hk=>((HO.out.below hbw1).lt k hk).1);have hb4:Below w.heap.size w w3:=hbel.trans hb3;have HF:Hid (Zh w3 w.heap.size v3 (out++[Zax x y])):=Zh.more hown3;clear hown3 hgrow hb1;go_wp2;go_roundw;case rel=>exact⟨i+1,j+1,_,by go_num,by go_num,⟨HX.out,HF.out⟩,hb4⟩
      case measure=>simp[intOf];omega
    have HX:Hid (Q7 a b i (j+1) (out++[seen a i (b.getD j e0)])):=HRJ.out.b GB.out hjl (fun _=>hgt);generalize (a.getD i e0).v=va at *;generalize b.getD j e0=x at *;clear a1 a2 a3 ga0;obtain⟨g1,g2,g3,g4,g5,g6⟩:=gb0;have hnl:¬va<x.v:=(by omega);go_wp2_with fail
    go_region
    go_wp2_with fail
    go_region
    go_wp2_with fail
    refine(QB _ a ca i x _ (HEA.out.below (Below.refl _ _).drew.drew) GA.out hi (by omega)).mono ?_;rintro e w1 ⟨rfl,hb1⟩;have hbw1:Below wr.heap.size wr w1:=(Below.refl _ _).drew.drew.trans hb1;clear hb1;have HO1:Hid (Zh w1 w.heap.size u5 out):=HO.out.below hbw1;have hs1:w.heap.size<=w1.heap.size:=Nat.le_trans hsz hbw1.size;go_wp2_with (at_builtin;refine wpList_append_own _ rfl (.tmp 76) (.tmp 84) 29 rfl w.heap.size 98 i0 (.agg #[.int .i64 0,.int .i64 0,.int .i64 0,.int .i64 0]) 4 32 Tryz.underlying29 hinf hz0 hz1 hz2 rfl (by decide) _ out.length (flat out) rfl (HO1.out.alloc _) ⟨w1.heap.size,0,none⟩ 1 1 [.int .i64 (seen a i x).v,.int .i64 (seen a i x).lo,.int .i64 (seen a i x).hi,.int .i64 (seen a i x).wt] rfl rfl ?_ ?_ ?_ ?_ ?_ ?_)
    exact Zr w1 #[.int .i64 (seen a i x).v,.int .i64 (seen a i x).lo,.int .i64 (seen a i x).hi,.int .i64 (seen a i x).wt] 98
    ·intro u hu;simp at hu;rcases hu with rfl|rfl|rfl|rfl<;>rfl
    unfold maxLen;omega;omega;simp;omega;intro v3 w3 hown3 hgrow _;have hb3:Below w.heap.size wr w3:=((hbw1.mono hsz).alloc hs1 _).grown hgrow (by simp;omega) (fun k hk=>(HO1.out.lt k hk).1);have hb4:Below w.heap.size w w3:=hbel.trans hb3;have HF:Hid (Zh w3 w.heap.size v3 (out++[seen a i x])):=Zh.more hown3;clear hown3 hgrow;go_wp2;go_roundw;case rel=>exact⟨i,j+1,_,by go_num,by go_num,⟨HX.out,HF.out⟩,hb4⟩
    case measure=>simp[intOf];omega
   have hex:i<a.length->¬j<b.length:=(by omega);have HXX:Hid (i<a.length->¬j<b.length):=hex;clear hex;go_wp2_with fail
   go_loopw [5,6] (fun o ti wq=>∃(p:Nat) (out2:List Zq),ti=.int .i64 p/\Hid (Q7 a b p j out2/\Zh wq w.heap.size o out2/\(p<a.length->¬j<b.length))/\Below w.heap.size w wq) (fun _ ti _=>a.length-(intOf ti).toNat)
   case atStart=>exact⟨i,out,rfl,⟨HRJ.out,HO.out,HXX.out⟩,hbel⟩
   case round=>
    clear hbel hlen hi hsz HEA HEB HO HRJ HXX;obtain⟨p,out2,rfl,HR2,hbel⟩:=hrel;obtain⟨R,hown,hex⟩:=HR2.out;have hlen:=R.len;have hi:=R.st.hi;have hsz:=hbel.size;have HEA:Hid (Yo wr aa a):=HA.out.below hbel;have HEB:Hid (Yo wr ab b):=HB.out.below hbel;have HO:Hid (Zh wr w.heap.size u5 out2):=hown;have HRJ:Hid (Q7 a b p j out2):=R;have HXX:Hid (p<a.length->¬j<b.length):=hex;clear HR2 R hown hex
    by_cases hpl:p<a.length
    ·rcases HEA.out with⟨_,h0|⟨b1,o1,rfl,hA⟩⟩;omega;have hjn:=HXX.out hpl;have ga0:=GA.out.at hpl;obtain⟨a0,a1,a2,a3⟩:wr.cell? ⟨b1,o1+p*4,none⟩=some (.int .i64 (a.getD p e0).v)/\wr.cell? ⟨b1,o1+p*4+1,none⟩=some (.int .i64 (a.getD p e0).lo)/\wr.cell? ⟨b1,o1+p*4+2,none⟩=some (.int .i64 (a.getD p e0).hi)/\wr.cell? ⟨b1,o1+p*4+3,none⟩=some (.int .i64 (a.getD p e0).wt):=⟨hA.v p hpl,hA.lo p hpl,hA.hi p hpl,hA.wt p hpl⟩;have HX:Hid (Q7 a b (p+1) j (out2++[seen b j (a.getD p e0)])):=HRJ.out.a GA.out hpl (fun h=>absurd h hjn);generalize a.getD p e0=x at *;obtain⟨g1,g2,g3,g4,g5,g6⟩:=ga0;have bi1:(0:Int)<=(p:Int):=(by omega);have bi2:(p:Int)<(a.length:Int):=(by omega);clear hA;go_wp2_with fail
     refine(QB _ b cb j x _ HEB.out GB.out hj (by omega)).mono ?_;rintro e w1 ⟨rfl,hbw1⟩;have HO1:Hid (Zh w1 w.heap.size u5 out2):=HO.out.below hbw1;have hs1:w.heap.size<=w1.heap.size:=Nat.le_trans hsz hbw1.size;go_wp2_with (at_builtin;refine wpList_append_own _ rfl (.tmp 94) (.tmp 102) 29 rfl w.heap.size 98 i0 (.agg #[.int .i64 0,.int .i64 0,.int .i64 0,.int .i64 0]) 4 32 Tryz.underlying29 hinf hz0 hz1 hz2 rfl (by decide) _ out2.length (flat out2) rfl (HO1.out.alloc _) ⟨w1.heap.size,0,none⟩ 1 1 [.int .i64 (seen b j x).v,.int .i64 (seen b j x).lo,.int .i64 (seen b j x).hi,.int .i64 (seen b j x).wt] rfl rfl ?_ ?_ ?_ ?_ ?_ ?_)
     exact Zr w1 #[.int .i64 (seen b j x).v,.int .i64 (seen b j x).lo,.int .i64 (seen b j x).hi,.int .i64 (seen b j x).wt] 98
     ·intro u hu;simp at hu;rcases hu with rfl|rfl|rfl|rfl<;>rfl
     unfold maxLen;omega;omega;simp;omega;intro v3 w3 hown3 hgrow _;have hb3:Below w.heap.size wr w3:=((hbw1.mono hsz).alloc hs1 _).grown hgrow (by simp;omega) (fun k hk=>(HO1.out.lt k hk).1);have hb4:Below w.heap.size w w3:=hbel.trans hb3;have HF:Hid (Zh w3 w.heap.size v3 (out2++[seen b j x])):=Zh.more hown3;clear hown3 hgrow;go_wp2;go_roundw;case rel=>exact⟨p+1,_,by go_num,⟨HX.out,HF.out,fun _=>hjn⟩,hb4⟩
     case measure=>simp[intOf];omega
    have hpn:¬p<a.length:=hpl;go_wp2_with fail
    go_loopw [5,7] (fun o tj wq=>∃(q:Nat) (out3:List Zq),tj=.int .i64 q/\Hid (Q7 a b p q out3/\Zh wq w.heap.size o out3)/\Below w.heap.size w wq) (fun _ tj _=>b.length-(intOf tj).toNat)
    case atStart=>exact⟨j,out2,rfl,⟨HRJ.out,HO.out⟩,hbel⟩
    case round=>
     clear hbel hlen hsz HEA HEB HO HRJ HXX;obtain⟨q,out3,rfl,HR3,hbel⟩:=hrel;obtain⟨R,hown⟩:=HR3.out;have hlen:=R.len;have hq:=R.st.hj;have hsz:=hbel.size;have HEA:Hid (Yo wr aa a):=HA.out.below hbel;have HEB:Hid (Yo wr ab b):=HB.out.below hbel;have HO:Hid (Zh wr w.heap.size u5 out3):=hown;have HRJ:Hid (Q7 a b p q out3):=R;clear HR3 R hown
     by_cases hql:q<b.length
     ·rcases HEB.out with⟨_,h0|⟨b2,o2,rfl,hB⟩⟩;omega;have gb0:=GB.out.at hql;obtain⟨c0,c1,c2,c3⟩:wr.cell? ⟨b2,o2+q*4,none⟩=some (.int .i64 (b.getD q e0).v)/\wr.cell? ⟨b2,o2+q*4+1,none⟩=some (.int .i64 (b.getD q e0).lo)/\wr.cell? ⟨b2,o2+q*4+2,none⟩=some (.int .i64 (b.getD q e0).hi)/\wr.cell? ⟨b2,o2+q*4+3,none⟩=some (.int .i64 (b.getD q e0).wt):=⟨hB.v q hql,hB.lo q hql,hB.hi q hql,hB.wt q hql⟩;have HX:Hid (Q7 a b p (q+1) (out3++[seen a p (b.getD q e0)])):=HRJ.out.b GB.out hql (fun h=>absurd h hpn);generalize b.getD q e0=x at *;obtain⟨g1,g2,g3,g4,g5,g6⟩:=gb0;have bj1:(0:Int)<=(q:Int):=(by omega);have bj2:(q:Int)<(b.length:Int):=(by omega);clear hB;go_wp2_with fail
      refine(QB _ a ca p x _ HEA.out GA.out hi (by omega)).mono ?_;rintro e w1 ⟨rfl,hbw1⟩;have HO1:Hid (Zh w1 w.heap.size u5 out3):=HO.out.below hbw1;have hs1:w.heap.size<=w1.heap.size:=Nat.le_trans hsz hbw1.size;go_wp2_with (at_builtin;refine wpList_append_own _ rfl (.tmp 110) (.tmp 118) 29 rfl w.heap.size 98 i0 (.agg #[.int .i64 0,.int .i64 0,.int .i64 0,.int .i64 0]) 4 32 Tryz.underlying29 hinf hz0 hz1 hz2 rfl (by decide) _ out3.length (flat out3) rfl (HO1.out.alloc _) ⟨w1.heap.size,0,none⟩ 1 1 [.int .i64 (seen a p x).v,.int .i64 (seen a p x).lo,.int .i64 (seen a p x).hi,.int .i64 (seen a p x).wt] rfl rfl ?_ ?_ ?_ ?_ ?_ ?_)
      exact Zr w1 #[.int .i64 (seen a p x).v,.int .i64 (seen a p x).lo,.int .i64 (seen a p x).hi,.int .i64 (seen a p x).wt] 98
      ·intro u hu;simp at hu;rcases hu with rfl|rfl|rfl|rfl<;>rfl
      unfold maxLen;omega;omega;simp;omega;intro v3 w3 hown3 hgrow _;have hb3:Below w.heap.size wr w3:=((hbw1.mono hsz).alloc hs1 _).grown hgrow (by simp;omega) (fun k hk=>(HO1.out.lt k hk).1);have hb4:Below w.heap.size w w3:=hbel.trans hb3;have HF:Hid (Zh w3 w.heap.size v3 (out3++[seen a p x])):=Zh.more hown3;clear hown3 hgrow;go_wp2;go_roundw;case rel=>exact⟨q+1,_,by go_num,⟨HX.out,HF.out⟩,hb4⟩
      case measure=>simp[intOf];omega
     have hfin:out3=Zx a b:=(by have:=HRJ.out.eq;rw[ZhX hpn hql,List.append_nil] at this;exact this);have HFI:Hid (Zh wr w.heap.size u5 (Zx a b)):=hfin ▸ HO.out;clear hfin;go_wp2;go_ret;exact⟨_,rfl,HFI.out,hbel⟩
  have hex:i<a.length->¬j<b.length:=(by omega);have HXX:Hid (i<a.length->¬j<b.length):=hex;clear hex;go_wp2_with fail
  go_loopw [5,6] (fun o ti wq=>∃(p:Nat) (out2:List Zq),ti=.int .i64 p/\Hid (Q7 a b p j out2/\Zh wq w.heap.size o out2/\(p<a.length->¬j<b.length))/\Below w.heap.size w wq) (fun _ ti _=>a.length-(intOf ti).toNat)
  case atStart=>exact⟨i,out,rfl,⟨HRJ.out,HO.out,HXX.out⟩,hbel⟩
  case round=>
   clear hbel hlen hi hsz HEA HEB HO HRJ HXX;obtain⟨p,out2,rfl,HR2,hbel⟩:=hrel;obtain⟨R,hown,hex⟩:=HR2.out;have hlen:=R.len;have hi:=R.st.hi;have hsz:=hbel.size;have HEA:Hid (Yo wr aa a):=HA.out.below hbel;have HEB:Hid (Yo wr ab b):=HB.out.below hbel;have HO:Hid (Zh wr w.heap.size u5 out2):=hown;have HRJ:Hid (Q7 a b p j out2):=R;have HXX:Hid (p<a.length->¬j<b.length):=hex;clear HR2 R hown hex
   by_cases hpl:p<a.length
   ·rcases HEA.out with⟨_,h0|⟨b1,o1,rfl,hA⟩⟩;omega;have hjn:=HXX.out hpl;have ga0:=GA.out.at hpl;obtain⟨a0,a1,a2,a3⟩:wr.cell? ⟨b1,o1+p*4,none⟩=some (.int .i64 (a.getD p e0).v)/\wr.cell? ⟨b1,o1+p*4+1,none⟩=some (.int .i64 (a.getD p e0).lo)/\wr.cell? ⟨b1,o1+p*4+2,none⟩=some (.int .i64 (a.getD p e0).hi)/\wr.cell? ⟨b1,o1+p*4+3,none⟩=some (.int .i64 (a.getD p e0).wt):=⟨hA.v p hpl,hA.lo p hpl,hA.hi p hpl,hA.wt p hpl⟩;have HX:Hid (Q7 a b (p+1) j (out2++[seen b j (a.getD p e0)])):=HRJ.out.a GA.out hpl (fun h=>absurd h hjn);generalize a.getD p e0=x at *;obtain⟨g1,g2,g3,g4,g5,g6⟩:=ga0;have bi1:(0:Int)<=(p:Int):=(by omega);have bi2:(p:Int)<(a.length:Int):=(by omega);clear hA;go_wp2_with fail
    refine(QB _ b cb j x _ HEB.out GB.out hj (by omega)).mono ?_;rintro e w1 ⟨rfl,hbw1⟩;have HO1:Hid (Zh w1 w.heap.size u5 out2):=HO.out.below hbw1;have hs1:w.heap.size<=w1.heap.size:=Nat.le_trans hsz hbw1.size;go_wp2_with (at_builtin;refine wpList_append_own _ rfl (.tmp 94) (.tmp 102) 29 rfl w.heap.size 98 i0 (.agg #[.int .i64 0,.int .i64 0,.int .i64 0,.int .i64 0]) 4 32 Tryz.underlying29 hinf hz0 hz1 hz2 rfl (by decide) _ out2.length (flat out2) rfl (HO1.out.alloc _) ⟨w1.heap.size,0,none⟩ 1 1 [.int .i64 (seen b j x).v,.int .i64 (seen b j x).lo,.int .i64 (seen b j x).hi,.int .i64 (seen b j x).wt] rfl rfl ?_ ?_ ?_ ?_ ?_ ?_)
    exact Zr w1 #[.int .i64 (seen b j x).v,.int .i64 (seen b j x).lo,.int .i64 (seen b j x).hi,.int .i64 (seen b j x).wt] 98
    ·intro u hu;simp at hu;rcases hu with rfl|rfl|rfl|rfl<;>rfl
    unfold maxLen;omega;omega;simp;omega;intro v3 w3 hown3 hgrow _;have hb3:Below w.heap.size wr w3:=((hbw1.mono hsz).alloc hs1 _).grown hgrow (by simp;omega) (fun k hk=>(HO1.out.lt k hk).1);have hb4:Below w.heap.size w w3:=hbel.trans hb3;have HF:Hid (Zh w3 w.heap.size v3 (out2++[seen b j x])):=Zh.more hown3;clear hown3 hgrow;go_wp2;go_roundw;case rel=>exact⟨p+1,_,by go_num,⟨HX.out,HF.out,fun _=>hjn⟩,hb4⟩
    case measure=>simp[intOf];omega
   have hpn:¬p<a.length:=hpl;go_wp2_with fail
   go_loopw [5,7] (fun o tj wq=>∃(q:Nat) (out3:List Zq),tj=.int .i64 q/\Hid (Q7 a b p q out3/\Zh wq w.heap.size o out3)/\Below w.heap.size w wq) (fun _ tj _=>b.length-(intOf tj).toNat)
   case atStart=>exact⟨j,out2,rfl,⟨HRJ.out,HO.out⟩,hbel⟩
   case round=>
    clear hbel hlen hsz HEA HEB HO HRJ HXX;obtain⟨q,out3,rfl,HR3,hbel⟩:=hrel;obtain⟨R,hown⟩:=HR3.out;have hlen:=R.len;have hq:=R.st.hj;have hsz:=hbel.size;have HEA:Hid (Yo wr aa a):=HA.out.below hbel;have HEB:Hid (Yo wr ab b):=HB.out.below hbel;have HO:Hid (Zh wr w.heap.size u5 out3):=hown;have HRJ:Hid (Q7 a b p q out3):=R;clear HR3 R hown
    by_cases hql:q<b.length
    ·rcases HEB.out with⟨_,h0|⟨b2,o2,rfl,hB⟩⟩;omega;have gb0:=GB.out.at hql;obtain⟨c0,c1,c2,c3⟩:wr.cell? ⟨b2,o2+q*4,none⟩=some (.int .i64 (b.getD q e0).v)/\wr.cell? ⟨b2,o2+q*4+1,none⟩=some (.int .i64 (b.getD q e0).lo)/\wr.cell? ⟨b2,o2+q*4+2,none⟩=some (.int .i64 (b.getD q e0).hi)/\wr.cell? ⟨b2,o2+q*4+3,none⟩=some (.int .i64 (b.getD q e0).wt):=⟨hB.v q hql,hB.lo q hql,hB.hi q hql,hB.wt q hql⟩;have HX:Hid (Q7 a b p (q+1) (out3++[seen a p (b.getD q e0)])):=HRJ.out.b GB.out hql (fun h=>absurd h hpn);generalize b.getD q e0=x at *;obtain⟨g1,g2,g3,g4,g5,g6⟩:=gb0;have bj1:(0:Int)<=(q:Int):=(by omega);have bj2:(q:Int)<(b.length:Int):=(by omega);clear hB;go_wp2_with fail
     refine(QB _ a ca p x _ HEA.out GA.out hi (by omega)).mono ?_;rintro e w1 ⟨rfl,hbw1⟩;have HO1:Hid (Zh w1 w.heap.size u5 out3):=HO.out.below hbw1;have hs1:w.heap.size<=w1.heap.size:=Nat.le_trans hsz hbw1.size;go_wp2_with (at_builtin;refine wpList_append_own _ rfl (.tmp 110) (.tmp 118) 29 rfl w.heap.size 98 i0 (.agg #[.int .i64 0,.int .i64 0,.int .i64 0,.int .i64 0]) 4 32 Tryz.underlying29 hinf hz0 hz1 hz2 rfl (by decide) _ out3.length (flat out3) rfl (HO1.out.alloc _) ⟨w1.heap.size,0,none⟩ 1 1 [.int .i64 (seen a p x).v,.int .i64 (seen a p x).lo,.int .i64 (seen a p x).hi,.int .i64 (seen a p x).wt] rfl rfl ?_ ?_ ?_ ?_ ?_ ?_)
     exact Zr w1 #[.int .i64 (seen a p x).v,.int .i64 (seen a p x).lo,.int .i64 (seen a p x).hi,.int .i64 (seen a p x).wt] 98
     ·intro u hu;simp at hu;rcases hu with rfl|rfl|rfl|rfl<;>rfl
     unfold maxLen;omega;omega;simp;omega;intro v3 w3 hown3 hgrow _;have hb3:Below w.heap.size wr w3:=((hbw1.mono hsz).alloc hs1 _).grown hgrow (by simp;omega) (fun k hk=>(HO1.out.lt k hk).1);have hb4:Below w.heap.size w w3:=hbel.trans hb3;have HF:Hid (Zh w3 w.heap.size v3 (out3++[seen a p x])):=Zh.more hown3;clear hown3 hgrow;go_wp2;go_roundw;case rel=>exact⟨q+1,_,by go_num,⟨HX.out,HF.out⟩,hb4⟩
     case measure=>simp[intOf];omega
    have hfin:out3=Zx a b:=(by have:=HRJ.out.eq;rw[ZhX hpn hql,List.append_nil] at this;exact this);have HFI:Hid (Zh wr w.heap.size u5 (Zx a b)):=hfin ▸ HO.out;clear hfin;go_wp2;go_ret;exact⟨_,rfl,HFI.out,hbel⟩
def Zbm(w:World)(b:Nat)(step parts whole rest:Int):Prop:=w.heap[b]? =some (.cells #[.int .i64 step,.int .i64 parts,.int .i64 whole,.int .i64 rest] 153 (0,0))
theorem Zbm.cells{w:World}{b:Nat}{x0 x1 x2 x3:Int}(h:Zbm w b x0 x1 x2 x3):w.cell? ⟨b,0,none⟩=some (.int .i64 x0)/\w.cell? ⟨b,1,none⟩=some (.int .i64 x1)/\w.cell? ⟨b,2,none⟩=some (.int .i64 x2)/\w.cell? ⟨b,3,none⟩=some (.int .i64 x3)/\(∀o,w.frozen? ⟨b,o,none⟩=false):=by unfold Zbm at h;refine⟨?_,?_,?_,?_,fun o=>frozen_of_row w b o _ 153 h⟩<;>simp[World.cell?,h]
theorem Zbm.lt{w:World}{b:Nat}{x0 x1 x2 x3:Int}(h:Zbm w b x0 x1 x2 x3):b<w.heap.size:=(Qb h).1
theorem Zbm.set2{w:World}{b:Nat}{x0 x1 x2 x3:Int}(h:Zbm w b x0 x1 x2 x3)(y:Int):Zbm (w.setCell ⟨b,2,none⟩ (.int .i64 y)) b x0 x1 y x3:=heap_setCell_same w b 2 _ 153 (.int .i64 y) h
theorem Zbm.set3{w:World}{b:Nat}{x0 x1 x2 x3:Int}(h:Zbm w b x0 x1 x2 x3)(y:Int):Zbm (w.setCell ⟨b,3,none⟩ (.int .i64 y)) b x0 x1 x2 y:=heap_setCell_same w b 3 _ 153 (.int .i64 y) h
theorem Znf{step parts:Int}(hp:0<parts)(hs:0<=step):0<=step/parts/\step/parts<=step/\0<=step%parts/\step%parts<parts/\step/parts*parts+step%parts=step:=
 ⟨Int.ediv_nonneg hs (by omega),Int.ediv_le_self _ hs,Int.emod_nonneg _ (by omega),Int.emod_lt_of_pos _ hp,by have:=Int.mul_ediv_add_emod step parts;rw[Int.mul_comm];exact this⟩
theorem Zu(w:World)(r:Option Nat):w.grownBy w r:=⟨rfl,rfl,rfl,Qa _,fun _ _ _=>rfl⟩
theorem ZC{w w':World}{b:Nat}(h:w.grownBy w' (some b))(j:Nat)(u:Value):w.grownBy (w'.setCell ⟨b,j,none⟩ u) (some b):=
 ⟨h.os,h.tape,h.output,by have:=h.size;simpa [World.setCell] using this,fun k hk hne=>(Below.heap_setCell w' ⟨b,j,none⟩ u k (fun e=>hne (by rw[e]))).trans (h.block k hk hne)⟩
theorem ZbX{w w':World}{r:Option Nat}(h:w.grownBy w' r):w.grownBy w'.drew r:=⟨h.os,h.tape,h.output,h.size,h.block⟩
theorem Zoz(b:Nat)(step parts whole rest:Int)(w:World)(h:Zbm w b step parts whole rest)(hp:1<=parts/\parts<=4194304)(hs:0<=step/\step<=4000000000000)(hw:0<=whole/\whole<=100000000000000000)(hr:0<=rest/\rest<parts):Calls Tryz.prog 88 #[.pointer (some ⟨b,0,none⟩)] w fun e w'=>e=.returned (.tuple #[])/\∃wh re,Zbm w' b step parts wh re/\wh*parts+re=whole*parts+rest+step/\0<=re/\re<parts/\0<=wh/\wh<=whole+step+1/\w.grownBy w' (some b):=by
 obtain⟨p1,p2⟩:=hp;obtain⟨s1,s2⟩:=hs;obtain⟨w1,w2⟩:=hw;obtain⟨r1,r2⟩:=hr;have hm:=Znf (by omega:0<parts) s1;have hdq:step.tdiv parts=step/parts:=(by rw[Int.tdiv_eq_ediv_of_nonneg s1]);have hdr:step.tmod parts=step%parts:=(by rw[Int.tmod_eq_emod_of_nonneg s1]);obtain⟨m1,m2,m3,m4,m5⟩:=hm;obtain⟨c0,c1,c2,c3,cf⟩:=h.cells;have HM:Hid (Zbm w b step parts whole rest):=h;have hne:(parts==0)=false:=beq_eq_false_iff_ne.2 (by omega);have M5:Hid (step/parts*parts+step%parts=step):=m5;clear h m5;generalize step/parts=q at *;generalize step%parts=r at *
 by_cases hc:parts<=rest+r
 ·have HE:Hid ((whole+q+1)*parts+(rest+r-parts)=whole*parts+rest+step):=show _=_ by have:=M5.out;rw[Int.add_mul,Int.add_mul];omega
  go_enter Tryz.func88,Tryz.ntmps88;go_wp2_with fail
  go_region
  go_wp2_with fail
  go_region
  go_wp2_with fail
  go_region
  go_wp2_with fail
  go_region
  go_wp2_with fail
  go_end0;refine⟨rfl,whole+q+1,rest+r-parts,?_,HE.out,by omega,by omega,by omega,by omega,?_⟩;exact(((HM.out.set2 _).set3 _).set2 _).set3 _;exact(by repeat(first|with_reducible exact Zu _ _|with_reducible refine ZbX ?_|with_reducible refine ZC ?_ _ _))
 have HE:Hid ((whole+q)*parts+(rest+r)=whole*parts+rest+step):=show _=_ by have:=M5.out;rw[Int.add_mul];omega
 go_enter Tryz.func88,Tryz.ntmps88;go_wp2_with fail
 go_region
 go_wp2_with fail
 go_region
 go_wp2_with fail
 go_region
 go_wp2_with fail
 go_end0;refine⟨rfl,whole+q,rest+r,?_,HE.out,by omega,by omega,by omega,by omega,?_⟩;exact(HM.out.set2 _).set3 _;exact(by repeat(first|with_reducible exact Zu _ _|with_reducible refine ZbX ?_|with_reducible refine ZC ?_ _ _))
theorem Zhp(b:Nat)(step parts whole rest:Int)(w:World)(h:Zbm w b step parts whole rest)(hw:0<=whole/\whole<=100000000000000000):Calls Tryz.prog 90 #[.pointer (some ⟨b,0,none⟩)] w fun e w'=>e=.returned (.int .i64 (if 0<rest then whole+1 else whole))/\w'=w:=by
 obtain⟨w1,w2⟩:=hw;obtain⟨c0,c1,c2,c3,cf⟩:=h.cells;clear h cf
 by_cases hc:0<rest
 ·rw[if_pos hc];go_enter Tryz.func90,Tryz.ntmps90;go_wp2;go_ret;exact⟨rfl,rfl⟩
 rw[if_neg hc];go_enter Tryz.func90,Tryz.ntmps90;go_wp2;go_ret;exact⟨rfl,rfl⟩
structure Zy where
 st:Int
 neg:Bool
 dig:Int
 unit:Int
 num:Int
 wv:Value
def RB(w:World)(b:Nat)(vf vW vC:Value)(wt:Int)(fl:Bool)(vr:Value)(p:Zy):Prop:=
 w.heap[b]? =some (.cells #[vf,vW,vC,.int .i64 wt,.bool fl,vr,.int .i64 p.st,.bool p.neg,.int .i64 p.dig,.int .i64 p.unit,.int .i64 p.num,p.wv] 256 (0,0))
section
variable {w:World} {b:Nat} {vf vW vC:Value} {wt:Int} {fl:Bool} {vr:Value} {p:Zy}
theorem RB.part(h:RB w b vf vW vC wt fl vr p):w.cell? ⟨b,6,none⟩=some (.int .i64 p.st)/\w.cell? ⟨b,7,none⟩=some (.bool p.neg)/\w.cell? ⟨b,8,none⟩=some (.int .i64 p.dig)/\w.cell? ⟨b,9,none⟩=some (.int .i64 p.unit)/\w.cell? ⟨b,10,none⟩=some (.int .i64 p.num)/\w.cell? ⟨b,11,none⟩=some p.wv/\(∀o,w.frozen? ⟨b,o,none⟩=false):=by unfold RB at h;refine⟨?_,?_,?_,?_,?_,?_,fun o=>frozen_of_row w b o _ 256 h⟩<;>simp[World.cell?,h]
theorem RB.head(h:RB w b vf vW vC wt fl vr p):w.cell? ⟨b,0,none⟩=some vf/\w.cell? ⟨b,1,none⟩=some vW/\w.cell? ⟨b,2,none⟩=some vC/\w.cell? ⟨b,3,none⟩=some (.int .i64 wt)/\w.cell? ⟨b,4,none⟩=some (.bool fl)/\w.cell? ⟨b,5,none⟩=some vr:=by unfold RB at h;refine⟨?_,?_,?_,?_,?_,?_⟩<;>simp[World.cell?,h]
theorem RB.lt(h:RB w b vf vW vC wt fl vr p):b<w.heap.size:=(Qb h).1
theorem RB.grown{w':World}{row:Option Nat}(h:RB w b vf vW vC wt fl vr p)(hg:w.grownBy w' row)(hne:some b≠row):RB w' b vf vW vC wt fl vr p:=(hg.block b h.lt hne).trans h
theorem RB.below{w':World}{B:Nat}(h:RB w b vf vW vC wt fl vr p)(hb:Below B w w')(hg:b<B):RB w' b vf vW vC wt fl vr p:=(hb.block b hg).trans h
theorem RB.drew(h:RB w b vf vW vC wt fl vr p):RB w.drew b vf vW vC wt fl vr p:=h
theorem RB.st(h:RB w b vf vW vC wt fl vr p)(z:Int):RB (w.setCell ⟨b,6,none⟩ (.int .i64 z)) b vf vW vC wt fl vr {p with st:=z}:=heap_setCell_same w b 6 _ 256 _ h
theorem RB.neg(h:RB w b vf vW vC wt fl vr p)(z:Bool):RB (w.setCell ⟨b,7,none⟩ (.bool z)) b vf vW vC wt fl vr {p with neg:=z}:=heap_setCell_same w b 7 _ 256 _ h
theorem RB.dig(h:RB w b vf vW vC wt fl vr p)(z:Int):RB (w.setCell ⟨b,8,none⟩ (.int .i64 z)) b vf vW vC wt fl vr {p with dig:=z}:=heap_setCell_same w b 8 _ 256 _ h
theorem RB.unit(h:RB w b vf vW vC wt fl vr p)(z:Int):RB (w.setCell ⟨b,9,none⟩ (.int .i64 z)) b vf vW vC wt fl vr {p with unit:=z}:=heap_setCell_same w b 9 _ 256 _ h
theorem RB.num(h:RB w b vf vW vC wt fl vr p)(z:Int):RB (w.setCell ⟨b,10,none⟩ (.int .i64 z)) b vf vW vC wt fl vr {p with num:=z}:=heap_setCell_same w b 10 _ 256 _ h
theorem RB.wv(h:RB w b vf vW vC wt fl vr p)(z:Value):RB (w.setCell ⟨b,11,none⟩ z) b vf vW vC wt fl vr {p with wv:=z}:=heap_setCell_same w b 11 _ 256 _ h
end
theorem Zw{z:Int}(h1: -9000000000000000000<=z)(h2:z<=9000000000000000000):IntKind.i64.wrap z=z:=by simp[IntKind.wrap,IntKind.bits,IntKind.signed];omega
def YJ(c:Int):Bool:=decide (48<=c)&&decide (c<=57)
def Q3(c:Int):Bool:=decide (97<=c)&&decide (c<=122)
theorem Zct(c:Int)(w:World):Calls Tryz.prog 315 #[.int .u8 c] w fun e w'=>e=.returned (.bool (YJ c))/\w'=w:=by
 unfold YJ
 by_cases h1:48<=c
 ·go_enter Tryz.func315,Tryz.ntmps315;go_wp2;go_ret;exact⟨by simp[h1],rfl⟩
 have h2:decide (48<=c)=false:=decide_eq_false h1;go_enter Tryz.func315,Tryz.ntmps315;go_wp2;go_ret;exact⟨rfl,rfl⟩
theorem ZbY(c:Int)(w:World):Calls Tryz.prog 310 #[.int .u8 c] w fun e w'=>e=.returned (.bool (Q3 c))/\w'=w:=by
 unfold Q3
 by_cases h1:97<=c
 ·go_enter Tryz.func310,Tryz.ntmps310;go_wp2;go_ret;exact⟨by simp[h1],rfl⟩
 have h2:decide (97<=c)=false:=decide_eq_false h1;go_enter Tryz.func310,Tryz.ntmps310;go_wp2;go_ret;exact⟨rfl,rfl⟩
theorem ZeR(c u:Int)(w:World)(h1:48<=c)(h2:c<=57)(h3:0<=u)(h4:u<=1000000):Calls Tryz.prog 316 #[.int .u8 c,.int .i64 u] w fun e w'=>e=.returned (.int .i64 ((c-48)*u))/\w'=w:=by have hw:IntKind.u8.wrap (c-48)=c-48:=(by simp[IntKind.wrap,IntKind.bits,IntKind.signed];omega);have hm1:0<=(c-48)*u:=Int.mul_nonneg (by omega) h3;have hm2:(c-48)*u<=9*1000000:=Int.mul_le_mul (by omega) h4 h3 (by omega);have hw2:IntKind.i64.wrap (c-48)=c-48:=(by simp[IntKind.wrap,IntKind.bits,IntKind.signed];omega);go_enter Tryz.func316,Tryz.ntmps316;go_wp2;go_ret;exact⟨rfl,rfl⟩
def Q4(p:Zy)(c:Int):Option Zy:=if c=45 then some {p with st:=1,neg:=true} else none
def YZ(u:Int)(p:Zy)(c:Int):Option Zy:=if YJ c=true then some {p with st:=if c=48 then 2 else 3,dig:=1,unit:=u,num:=(c-48)*u} else none
def QG(p:Zy)(c:Int):Option Zy:=if YJ c=true/\p.dig≠5 then some {p with dig:=p.dig+1,num:=p.num*10+(c-48)*p.unit} else none
def QS(p:Zy)(c:Int):Option Zy:=if c=46/\p.unit≠1 then some {p with st:=4} else none
def QJ(p:Zy)(c:Int):Option Zy:=if YJ c=true/\p.unit≠1 then some {p with st:=5,unit:=p.unit/10,num:=p.num+(c-48)*(p.unit/10)} else none
def Yf(b:Nat)(vf vW vC:Value)(wt:Int)(fl:Bool)(vr:Value)(p:Zy)(o:Option Zy)(w:World)(e:Ending)(w':World):Prop:=
 e=.returned (.bool o.isSome)/\RB w' b vf vW vC wt fl vr (o.getD p)/\w.grownBy w' (some b)
section
variable (b:Nat) (vf vW vC:Value) (wt:Int) (fl:Bool) (vr:Value) (p:Zy) (c:Int) (w:World)
theorem Zhv(h:RB w b vf vW vC wt fl vr p):Calls Tryz.prog 268 #[.pointer (some ⟨b,6,none⟩),.int .u8 c] w fun e w'=>Yf b vf vW vC wt fl vr p (Q4 p c) w e w':=by
 obtain⟨c6,c7,_,_,_,_,cf⟩:=h.part;have H:Hid (RB w b vf vW vC wt fl vr p):=h;clear h
 by_cases hc:c=45
 ·subst hc;go_enter Tryz.func268,Tryz.ntmps268;go_wp2;go_ret;exact⟨rfl,(H.out.st 1).neg true,ZC (ZC (Zu _ _) _ _) _ _⟩
 have hne:(c==45)=false:=beq_eq_false_iff_ne.2 hc;have HO:Hid (Q4 p c=none):=if_neg hc;go_enter Tryz.func268,Tryz.ntmps268;go_wp2;go_ret;unfold Yf;rw[HO.out];exact⟨rfl,H.out,Zu _ _⟩
theorem Zdr(h:RB w b vf vW vC wt fl vr p):Calls Tryz.prog 271 #[.pointer (some ⟨b,6,none⟩),.int .u8 c] w fun e w'=>Yf b vf vW vC wt fl vr p (QS p c) w e w':=by
 obtain⟨c6,_,_,c9,_,_,cf⟩:=h.part;have H:Hid (RB w b vf vW vC wt fl vr p):=h;clear h
 by_cases hc:c=46
 ·subst hc
  by_cases hu:p.unit=1
  ·have HO:Hid (QS p 46=none):=if_neg (by simp[hu]);rw[hu] at c9;go_enter Tryz.func271,Tryz.ntmps271;go_wp2;go_ret;unfold Yf;rw[HO.out];exact⟨rfl,H.out,Zu _ _⟩
  have hne:(p.unit==1)=false:=beq_eq_false_iff_ne.2 hu;have HO:Hid (QS p 46=some {p with st:=4}):=if_pos ⟨rfl,hu⟩;go_enter Tryz.func271,Tryz.ntmps271;go_wp2;go_ret;unfold Yf;rw[HO.out];exact⟨rfl,H.out.st 4,ZC (Zu _ _) _ _⟩
 have hne:(c==46)=false:=beq_eq_false_iff_ne.2 hc;have HO:Hid (QS p c=none):=if_neg (fun h=>hc h.1);go_enter Tryz.func271,Tryz.ntmps271;go_wp2;go_ret;unfold Yf;rw[HO.out];exact⟨rfl,H.out,Zu _ _⟩
theorem Zdq(h:RB w b vf vW vC wt fl vr p)(u:Int)(hu1:0<=u)(hu2:u<=1000000):Calls Tryz.prog 269 #[.pointer (some ⟨b,6,none⟩),.int .u8 c,.int .i64 u] w fun e w'=>Yf b vf vW vC wt fl vr p (YZ u p c) w e w':=by
 obtain⟨c6,_,c8,c9,c10,_,cf⟩:=h.part;have H:Hid (RB w b vf vW vC wt fl vr p):=h;have HD:Hid (∀W,Calls Tryz.prog 315 #[.int .u8 c] W fun e w'=>e=.returned (.bool (YJ c))/\w'=W):=fun W=>Zct c W;clear h
 by_cases hd:YJ c=true
 ·have hr:48<=c/\c<=57:=by simpa [YJ] using hd
  obtain⟨hr1,hr2⟩:=hr;have HWo:Hid (∀W,Calls Tryz.prog 316 #[.int .u8 c,.int .i64 u] W fun e w'=>e=.returned (.int .i64 ((c-48)*u))/\w'=W):=fun W=>ZeR c u W hr1 hr2 hu1 hu2;rw[hd] at HD
  by_cases h0:c=48
  ·have HO:Hid (YZ u p c=some {p with st:=2,dig:=1,unit:=u,num:=(c-48)*u}):=(by show YZ u p c=_;unfold YZ;rw[if_pos hd,if_pos h0]);have hne:(c==48)=true:=(by simp[h0]);generalize (c-48)*u=nn at *;clear h0 hd;go_enter Tryz.func269,Tryz.ntmps269;go_wp2_with (first|(go_at_call 315;refine(HD.out _).mono ?_;rintro e w' ⟨rfl,rfl⟩)|(go_at_call 316;refine(HWo.out _).mono ?_;rintro e w' ⟨rfl,rfl⟩))
   go_ret;unfold Yf;rw[HO.out];exact⟨rfl,((((H.out.st 3).dig 1).unit u).num nn).st 2,ZC (ZC (ZC (ZC (ZC (Zu _ _) _ _) _ _) _ _) _ _) _ _⟩
  have HO:Hid (YZ u p c=some {p with st:=3,dig:=1,unit:=u,num:=(c-48)*u}):=(by show YZ u p c=_;unfold YZ;rw[if_pos hd,if_neg h0]);have hne:(c==48)=false:=beq_eq_false_iff_ne.2 h0;generalize (c-48)*u=nn at *;clear h0 hd;go_enter Tryz.func269,Tryz.ntmps269;go_wp2_with (first|(go_at_call 315;refine(HD.out _).mono ?_;rintro e w' ⟨rfl,rfl⟩)|(go_at_call 316;refine(HWo.out _).mono ?_;rintro e w' ⟨rfl,rfl⟩))
  go_ret;unfold Yf;rw[HO.out];exact⟨rfl,(((H.out.st 3).dig 1).unit u).num nn,ZC (ZC (ZC (ZC (Zu _ _) _ _) _ _) _ _) _ _⟩
 have HO:Hid (YZ u p c=none):=if_neg hd
 have hf:YJ c=false:=by simpa using hd
 rw[hf] at HD;clear hd hf;go_enter Tryz.func269,Tryz.ntmps269;go_wp2_with (go_at_call 315;refine(HD.out _).mono ?_;rintro e w' ⟨rfl,rfl⟩)
 go_ret;unfold Yf;rw[HO.out];exact⟨rfl,H.out,Zu _ _⟩
theorem Zhu(h:RB w b vf vW vC wt fl vr p)(hu1:0<=p.unit)(hu2:p.unit<=1000000)(hn1:0<=p.num)(hn2:p.num<=1000000000000)(hg1:0<=p.dig)(hg2:p.dig<=1000):Calls Tryz.prog 270 #[.pointer (some ⟨b,6,none⟩),.int .u8 c] w fun e w'=>Yf b vf vW vC wt fl vr p (QG p c) w e w':=by
 obtain⟨_,_,c8,c9,c10,_,cf⟩:=h.part;have H:Hid (RB w b vf vW vC wt fl vr p):=h;have HD:Hid (∀W,Calls Tryz.prog 315 #[.int .u8 c] W fun e w'=>e=.returned (.bool (YJ c))/\w'=W):=fun W=>Zct c W;clear h
 by_cases hd:YJ c=true
 ·have hr:48<=c/\c<=57:=by simpa [YJ] using hd
  obtain⟨hr1,hr2⟩:=hr
  by_cases h5:p.dig=5
  ·have HO:Hid (QG p c=none):=if_neg (fun h=>h.2 h5);rw[hd] at HD;rw[h5] at c8;clear hd h5;go_enter Tryz.func270,Tryz.ntmps270;go_wp2_with (go_at_call 315;refine(HD.out _).mono ?_;rintro e w' ⟨rfl,rfl⟩)
   go_ret;unfold Yf;rw[HO.out];exact⟨rfl,H.out,Zu _ _⟩
  have hne:(p.dig==5)=false:=beq_eq_false_iff_ne.2 h5;have HO:Hid (QG p c=some {p with dig:=p.dig+1,num:=p.num*10+(c-48)*p.unit}):=if_pos ⟨hd,h5⟩;have HWo:Hid (∀W,Calls Tryz.prog 316 #[.int .u8 c,.int .i64 p.unit] W fun e w'=>e=.returned (.int .i64 ((c-48)*p.unit))/\w'=W):=fun W=>ZeR c p.unit W hr1 hr2 hu1 hu2;have hm1:0<=(c-48)*p.unit:=Int.mul_nonneg (by omega) hu1;have hm2:(c-48)*p.unit<=9*1000000:=Int.mul_le_mul (by omega) hu2 hu1 (by omega);rw[hd] at HD;clear hd h5;generalize (c-48)*p.unit=nn at *;have hw1:IntKind.i64.wrap (p.num*10)=p.num*10:=Zw (by omega) (by omega);have hw2:IntKind.i64.wrap (p.num*10+nn)=p.num*10+nn:=Zw (by omega) (by omega);go_enter Tryz.func270,Tryz.ntmps270
  go_wp2_with (go_at_call 315;refine(HD.out _).mono ?_;rintro e w' ⟨rfl,rfl⟩)
  go_region_with (go_at_call 316;refine(HWo.out _).mono ?_;rintro e w' ⟨rfl,rfl⟩)
  all_goals go_wp2
  all_goals go_ret
  all_goals unfold Yf
  all_goals rw[HO.out]
  all_goals exact⟨rfl,((H.out.dig _).num _).drew,ZbX (ZC (ZC (Zu _ _) _ _) _ _)⟩
 have HO:Hid (QG p c=none):=if_neg (fun h=>hd h.1)
 have hf:YJ c=false:=by simpa using hd
 rw[hf] at HD;clear hd hf;go_enter Tryz.func270,Tryz.ntmps270;go_wp2_with (go_at_call 315;refine(HD.out _).mono ?_;rintro e w' ⟨rfl,rfl⟩)
 go_ret;unfold Yf;rw[HO.out];exact⟨rfl,H.out,Zu _ _⟩
theorem ZgS(h:RB w b vf vW vC wt fl vr p)(hu1:0<=p.unit)(hu2:p.unit<=1000000)(hn1:0<=p.num)(hn2:p.num<=1000000000000):Calls Tryz.prog 272 #[.pointer (some ⟨b,6,none⟩),.int .u8 c] w fun e w'=>Yf b vf vW vC wt fl vr p (QJ p c) w e w':=by
 obtain⟨c6,_,_,c9,c10,_,cf⟩:=h.part;have H:Hid (RB w b vf vW vC wt fl vr p):=h;have HD:Hid (∀W,Calls Tryz.prog 315 #[.int .u8 c] W fun e w'=>e=.returned (.bool (YJ c))/\w'=W):=fun W=>Zct c W;clear h
 by_cases hd:YJ c=true
 ·have hr:48<=c/\c<=57:=by simpa [YJ] using hd
  obtain⟨hr1,hr2⟩:=hr
  by_cases h5:p.unit=1
  ·have HO:Hid (QJ p c=none):=if_neg (fun h=>h.2 h5);rw[hd] at HD;rw[h5] at c9;clear hd h5;go_enter Tryz.func272,Tryz.ntmps272;go_wp2_with (go_at_call 315;refine(HD.out _).mono ?_;rintro e w' ⟨rfl,rfl⟩)
   go_ret;unfold Yf;rw[HO.out];exact⟨rfl,H.out,Zu _ _⟩
  have hne:(p.unit==1)=false:=beq_eq_false_iff_ne.2 h5;have hq:p.unit.tdiv 10=p.unit/10:=Int.tdiv_eq_ediv_of_nonneg hu1;have hq1:0<=p.unit/10:=(by omega);have hq2:p.unit/10<=1000000:=(by omega);have HO:Hid (QJ p c=some {p with st:=5,unit:=p.unit/10,num:=p.num+(c-48)*(p.unit/10)}):=if_pos ⟨hd,h5⟩;have HWo:Hid (∀W,Calls Tryz.prog 316 #[.int .u8 c,.int .i64 (p.unit/10)] W fun e w'=>e=.returned (.int .i64 ((c-48)*(p.unit/10)))/\w'=W):=fun W=>ZeR c (p.unit/10) W hr1 hr2 hq1 hq2;have hm1:0<=(c-48)*(p.unit/10):=Int.mul_nonneg (by omega) hq1;have hm2:(c-48)*(p.unit/10)<=9*1000000:=Int.mul_le_mul (by omega) hq2 hq1 (by omega);rw[hd] at HD;clear hd h5;generalize (c-48)*(p.unit/10)=nn at *;generalize p.unit/10=uu at *
  have hw2:IntKind.i64.wrap (p.num+nn)=p.num+nn:=Zw (by omega) (by omega);have hw3:IntKind.i64.wrap uu=uu:=Zw (by omega) (by omega);go_enter Tryz.func272,Tryz.ntmps272;go_wp2_with (go_at_call 315;refine(HD.out _).mono ?_;rintro e w' ⟨rfl,rfl⟩)
  go_region_with (go_at_call 316;refine(HWo.out _).mono ?_;rintro e w' ⟨rfl,rfl⟩)
  all_goals go_wp2
  all_goals go_ret
  all_goals unfold Yf
  all_goals rw[HO.out]
  all_goals exact⟨rfl,(((H.out.st _).unit _).num _).drew,ZbX (ZC (ZC (ZC (Zu _ _) _ _) _ _) _ _)⟩
 have HO:Hid (QJ p c=none):=if_neg (fun h=>hd h.1)
 have hf:YJ c=false:=by simpa using hd
 rw[hf] at HD;clear hd hf;go_enter Tryz.func272,Tryz.ntmps272;go_wp2_with (go_at_call 315;refine(HD.out _).mono ?_;rintro e w' ⟨rfl,rfl⟩)
 go_ret;unfold Yf;rw[HO.out];exact⟨rfl,H.out,Zu _ _⟩
end
end Go.Proofs.YtfcgnpchbcmdeaaGreat
