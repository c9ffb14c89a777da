import Derived.Test.YtfcgnpchbcmdeaaGreatZrak
import Derived.Test.YtfcgnpchbcmdeaaGreatZral
import Derived.Deep.RegionLaw
import Derived.Test.YtfcgnpchbcmdeaaGreatZraf
namespace Go.Proofs.YtfcgnpchbcmdeaaGreat
set_option linter.all false
set_option maxRecDepth 100000
set_option maxHeartbeats 8000000
open Go.RowKit
def Hk{P r o a w K Q E}(N:o.guard=none) s x t (B:o.op=Op.call {callee:=Callee.builtin Builtin.append,args:=#[s,x],argTypes:=#[t,t]}) f e (i:TypeInfo) z b g (O:P.underlying t=some (.slice e))(I:P.info? e=some i)(J:i.zero=some z)(q:i.size=b)(D:i.bytes=g)(F:z.cells.size=b)(C:0<b) v n H (L:a.eval s=v)(y:w.ownsRow f e b v n H) G m c (d:List Value)(R:a.eval x=.slice (some G) m c)(M:d.length=m*b)(p:∀j u,d[j]? =some u->w.cell? (G.add j)=some u)(T:∀u∈d,u.oneCell'=true)(A:n+m<=maxLen)(k:(n+m)*g<=140737488355328)(l:f<=w.heap.size)(h:∀v' w',w'.ownsRow f e b v' (n+m) (H++d)->w.grownBy w' v.ownBlock->K (a.put o.dst v') w'):if Region.wanted o (yielded r a.tmps)=true then Oper.wp P o a w K Q else E:=by
 have S:Region.wanted o (yielded r a.tmps)=true:=(by simp[Region.wanted,N]);rw[if_pos S];exact wp_append_own w s x t B _ e i z _ _ O I J q D F C v n _ L y G m c _ R M p T A k l λv' w' h2 h3 _=>h v' w' h2 h3
def Zg6{p:Prop}(h:p:=by
 have hex:i<a.length->¬j<b.length:=o_;have HXX:=x1_ hex;clear hex;go_wp2_with fail
 go_loopw [5,6] (λo ti wq=>∃(p:Nat) (out2:List Ct),ti=.int .i64 p/\Hid (Td a b p j out2/\Aj wq w.heap.size o out2/\(p<a.length->¬j<b.length))/\E_ w wq) (λ_ ti _=>a.length-(intOf ti).toNat)
 case atStart=>exact⟨i,out,rfl,⟨HRJ,HO,HXX⟩,hbel⟩
 case round=>
  clear hbel hlen hi hsz HEA HEB HO HRJ HXX;obtain⟨p,out2,rfl,HR2,hbel⟩:=hrel;obtain⟨R,hown,hex⟩:=HR2;have hlen:=R.len;have hi:=R.st.hi;have hsz:=hbel.size;have HEA:=x1_ (HA.below hbel);have HEB:=x1_ (HB.below hbel);have HO:=x1_ hown;have HRJ:=x1_ R;have HXX:=x1_ hex;clear R hown hex
  by_cases hpl:p<a.length
  ·rcases HEA.out with⟨_,h0|⟨b1,o1,rfl,hA⟩⟩;omega;have hjn:=HXX hpl;have ga0:=GA.at hpl;obtain⟨a0,a1,a2,a3⟩:wr.cell? (A_ b1 (o1+p*4))=some (I_ (a.getD p e0).v)/\wr.cell? (A_ b1 (o1+p*4+1))=some (I_ (a.getD p e0).lo)/\wr.cell? (A_ b1 (o1+p*4+2))=some (I_ (a.getD p e0).hi)/\wr.cell? (A_ b1 (o1+p*4+3))=some (I_ (a.getD p e0).wt):=⟨hA.v p hpl,hA.lo p hpl,hA.hi p hpl,hA.wt p hpl⟩;have HX:=x1_ (HRJ.a GA hpl (λh=>absurd h hjn));generalize a.getD p e0=x at *;obtain⟨g1,g2,g3,g4,g5,g6⟩:=ga0;have bi1:0<=(p:Int):=o_;have bi2:p<(a.length:Int):=o_;clear hA;go_wp2_with fail
   refine(Ke _ b cb j x _ HEB GB hj o_).mono ?_;rintro e w1 ⟨rfl,hbw1⟩;have HO1:=x1_ (HO.below hbw1);have hs1:=Nat.le_trans hsz hbw1.size;go_wp2_with (at_builtin;refine wpList_append_own _ rfl (.tmp 94) (.tmp 102) 29 rfl w.heap.size 98 i0 _ 4 32 Tryz.underlying29 hinf hz0 hz1 hz2 rfl d_ _ out2.length (flat out2) rfl (HO1.alloc _) _ 1 1 [I_ (seen b j x).v,I_ (seen b j x).lo,I_ (seen b j x).hi,I_ (seen b j x).wt] rfl rfl ?_ ?_ ?_ ?_ ?_ ?_)
   exact Am _ _ _
   ·intro u hu;simp at hu;rcases hu with rfl|rfl|rfl|rfl<;>rfl
   unfold maxLen;omega;omega;simp;omega;intro v3 w3 hown3 hgrow _;have hb3:=((hbw1.mono hsz).alloc hs1 _).grown hgrow t_ (λk hk=>(HO1.lt k hk).1);have hb4:=hbel.trans hb3;have HF:=x1_ (Aj.more hown3);clear hown3 hgrow;refine rd_ ?_;exact⟨p+1,_,g_,⟨HX,HF,λ_=>hjn⟩,hb4⟩
  have hpn:=hpl;go_wp2_with fail
  go_loopw [5,7] (λo tj wq=>∃(q:Nat) (out3:List Ct),tj=.int .i64 q/\Hid (Td a b p q out3/\Aj wq w.heap.size o out3)/\E_ w wq) (λ_ tj _=>b.length-(intOf tj).toNat)
  case atStart=>exact⟨j,out2,rfl,⟨HRJ,HO⟩,hbel⟩
  case round=>
   clear hbel hlen hsz HEA HEB HO HRJ HXX;obtain⟨q,out3,rfl,HR3,hbel⟩:=hrel;obtain⟨R,hown⟩:=HR3;have hlen:=R.len;have hq:=R.st.hj;have hsz:=hbel.size;have HEA:=x1_ (HA.below hbel);have HEB:=x1_ (HB.below hbel);have HO:=x1_ hown;have HRJ:=x1_ R;clear R hown
   by_cases hql:q<b.length
   ·rcases HEB.out with⟨_,h0|⟨b2,o2,rfl,hB⟩⟩;omega;have gb0:=GB.at hql;obtain⟨c0,c1,c2,c3⟩:wr.cell? (A_ b2 (o2+q*4))=some (I_ (b.getD q e0).v)/\wr.cell? (A_ b2 (o2+q*4+1))=some (I_ (b.getD q e0).lo)/\wr.cell? (A_ b2 (o2+q*4+2))=some (I_ (b.getD q e0).hi)/\wr.cell? (A_ b2 (o2+q*4+3))=some (I_ (b.getD q e0).wt):=⟨hB.v q hql,hB.lo q hql,hB.hi q hql,hB.wt q hql⟩;have HX:=x1_ (HRJ.b GB hql (λh=>absurd h hpn));generalize b.getD q e0=x at *;obtain⟨g1,g2,g3,g4,g5,g6⟩:=gb0;have bj1:0<=(q:Int):=o_;have bj2:q<(b.length:Int):=o_;clear hB;go_wp2_with fail
    refine(Ke _ a ca p x _ HEA GA hi o_).mono ?_;rintro e w1 ⟨rfl,hbw1⟩;have HO1:=x1_ (HO.below hbw1);have hs1:=Nat.le_trans hsz hbw1.size;go_wp2_with (at_builtin;refine wpList_append_own _ rfl (.tmp 110) (.tmp 118) 29 rfl w.heap.size 98 i0 _ 4 32 Tryz.underlying29 hinf hz0 hz1 hz2 rfl d_ _ out3.length (flat out3) rfl (HO1.alloc _) _ 1 1 [I_ (seen a p x).v,I_ (seen a p x).lo,I_ (seen a p x).hi,I_ (seen a p x).wt] rfl rfl ?_ ?_ ?_ ?_ ?_ ?_)
    exact Am _ _ _
    ·intro u hu;simp at hu;rcases hu with rfl|rfl|rfl|rfl<;>rfl
    unfold maxLen;omega;omega;simp;omega;intro v3 w3 hown3 hgrow _;have hb3:=((hbw1.mono hsz).alloc hs1 _).grown hgrow t_ (λk hk=>(HO1.lt k hk).1);have hb4:=hbel.trans hb3;have HF:=x1_ (Aj.more hown3);clear hown3 hgrow;refine rd_ ?_;exact⟨q+1,_,g_,⟨HX,HF⟩,hb4⟩
   have hfin:out3=Bp a b:=(by have:=HRJ.eq;rw[uk hpn hql,List.append_nil] at this;exact this);have HFI:=x1_ (hfin ▸ HO);clear hfin;go_wp2;go_ret
   exact⟨_,rfl,HFI,hbel⟩):p:=h
def Za6 B n a b ca cb w (hA:Di w B a)(hB:Di w n b)(s:Bq a)(A:Bq b):C_ 46 #[.slice B a.length ca,.slice n b.length cb] w λe w'=>∃v,e=.returned v/\Aj w' w.heap.size v (Bp a b)/\Below w.heap.size w w':=by
 obtain⟨i0,hinf,hz0,hz1,hz2⟩:=info_parts Qq;have F:=hA.1;have I:=hB.1;have HA:=x1_ hA;have HB:=x1_ hB;have GA:=x1_ s;have GB:=x1_ A;clear hA hB s A;have f:∀W:World,(Instr.makeSlice 29 (I_ 0) (I_ (a.length+b.length))).run Tryz.prog W=.ok (L_ W.heap.size 0 (a.length+b.length)) (W.alloc (.cells (madeCells #[I_ 0,I_ 0,I_ 0,I_ 0] ((a.length+b.length)*4)) 98)):=by intro W;have:=run_make (P:=Tryz.prog) W 29 98 i0 _ Tryz.underlying29 hinf hz0 .i64 .i64 0 ((a.length:Int)+(b.length:Int)) o_ o_ (by rw[hz2];omega) o_;rw[hz1] at this;rw[this,show((a.length:Int)+(b.length:Int)).toNat=a.length+b.length by omega];rfl
 have z:Hid (Aj (w.alloc (.cells (madeCells #[I_ 0,I_ 0,I_ 0,I_ 0] ((a.length+b.length)*4)) 98)) _ _ []):=World.ownsRow_made w _ _ qa_ m_ (size_madeCells _ _);go_enter Tryz.func46,Tryz.ntmps46;go_wp2_with fail
 go_loopw [5,6,7] (λo ti tj wr=>∃(i j:Nat) (out:List Ct),ti=.int .i64 i/\tj=.int .i64 j/\Hid (Td a b i j out/\Aj wr w.heap.size o out)/\E_ w wr) (λ_ ti tj _=>(a.length-(intOf ti).toNat)+(b.length-(intOf tj).toNat))
 case atStart=>exact⟨0,0,[],rfl,rfl,⟨⟨⟨qg_,qg_,λ_ h=>absurd h o_,λ_ h=>absurd h o_⟩,by simp[jw]⟩,z⟩,bA_⟩
 case round=>
  clear z f;obtain⟨i,j,out,rfl,rfl,D,hbel⟩:=hrel;obtain⟨R,hown⟩:=D;have hlen:=R.len;have hi:=R.st.hi;have hj:=R.st.hj;have hsz:=hbel.size;have HEA:=x1_ (HA.below hbel);have HEB:=x1_ (HB.below hbel);have HO:=x1_ hown;have HRJ:=x1_ R;clear R hown
  by_cases hil:i<a.length
  ·by_cases hjl:j<b.length
   ·rcases HEA.out with⟨_,h0|⟨b1,o1,rfl,hA⟩⟩;omega;rcases HEB.out with⟨_,h0|⟨b2,o2,rfl,hB⟩⟩;omega;have ga0:=GA.at hil;have gb0:=GB.at hjl;have r:=hA.lt o_;have t:=hB.lt o_;obtain⟨a0,a1,a2,a3⟩:wr.cell? (A_ b1 (o1+i*4))=some (I_ (a.getD i e0).v)/\wr.cell? (A_ b1 (o1+i*4+1))=some (I_ (a.getD i e0).lo)/\wr.cell? (A_ b1 (o1+i*4+2))=some (I_ (a.getD i e0).hi)/\wr.cell? (A_ b1 (o1+i*4+3))=some (I_ (a.getD i e0).wt):=⟨hA.v i hil,hA.lo i hil,hA.hi i hil,hA.wt i hil⟩
    obtain⟨c0,c1,c2,c3⟩:wr.cell? (A_ b2 (o2+j*4))=some (I_ (b.getD j e0).v)/\wr.cell? (A_ b2 (o2+j*4+1))=some (I_ (b.getD j e0).lo)/\wr.cell? (A_ b2 (o2+j*4+2))=some (I_ (b.getD j e0).hi)/\wr.cell? (A_ b2 (o2+j*4+3))=some (I_ (b.getD j e0).wt):=⟨hB.v j hjl,hB.lo j hjl,hB.hi j hjl,hB.wt j hjl⟩;have bi1:0<=(i:Int):=o_;have bi2:i<(a.length:Int):=o_;have bj1:0<=(j:Int):=o_;have bj2:j<(b.length:Int):=o_;clear hA hB
    rcases Int.lt_trichotomy (a.getD i e0).v (b.getD j e0).v with l|d|g
    ·have HX:=x1_ (HRJ.a GA hil (λ_=>l));generalize (b.getD j e0).v=vb,a.getD i e0=x at *;clear c1 c2 c3 gb0;obtain⟨g1,g2,g3,g4,g5,g6⟩:=ga0;go_wp2_with fail
     go_region
     go_wp2_with fail
     refine(Ke _ b _ j x _ (HEB.below bz_.drew) GB hj o_).mono ?_;rintro e w1 ⟨rfl,c⟩;have hbw1:Below wr.heap.size _ _:=bz_.drew.trans c;clear c;have HO1:=x1_ (HO.below hbw1);have hs1:=Nat.le_trans hsz hbw1.size;go_wp2_with (at_builtin;refine wpList_append_own _ rfl (.tmp 52) (.tmp 60) 29 rfl w.heap.size 98 i0 _ 4 32 Tryz.underlying29 hinf hz0 hz1 hz2 rfl d_ _ out.length (flat out) rfl (HO1.alloc _) _ 1 1 [I_ (seen b j x).v,I_ (seen b j x).lo,I_ (seen b j x).hi,I_ (seen b j x).wt] rfl rfl ?_ ?_ ?_ ?_ ?_ ?_)
     exact Am _ _ _
     ·intro u hu;simp at hu;rcases hu with rfl|rfl|rfl|rfl<;>rfl
     unfold maxLen;omega;omega;simp;omega;intro v3 w3 hown3 hgrow _;have hb3:=((hbw1.mono hsz).alloc hs1 _).grown hgrow t_ (λk hk=>(HO1.lt k hk).1);have hb4:=hbel.trans hb3;have HF:=x1_ (Aj.more hown3);clear hown3 hgrow;refine rd_ ?_;exact⟨i+1,j,_,g_,g_,⟨HX,HF⟩,hb4⟩
    ·have HX:=x1_ (HRJ.ab GA GB hil hjl d);generalize a.getD i e0=x,b.getD j e0=y at *;obtain⟨g1,g2,g3,g4,g5,g6⟩:=ga0;obtain⟨H,M,G,L,J,N⟩:=gb0;have m:¬x.v<y.v:=o_;have C:¬y.v<x.v:=o_;have E:=x1_ d;clear d;go_wp2_with fail
     go_region
     go_wp2_with fail
     go_region
     go_wp2_with fail
     go_region_law (first|(refine Hk rfl (.tmp 24) (.tmp 34) 29 rfl w.heap.size 98 i0 (.agg #[I_ 0,I_ 0,I_ 0,I_ 0]) 4 32 Tryz.underlying29 hinf hz0 hz1 hz2 rfl d_ u5 out.length (flat out) j_ ((HO.below (bz_.drew.drew.drew.trans c)).alloc _) (A_ w1.heap.size 0) 1 1 [I_ (Li x y).v,I_ (Li x y).lo,I_ (Li x y).hi,I_ (Li x y).wt] j_ rfl (Am w1 _ 98) (by intro u hu;simp at hu;rcases hu with rfl|rfl|rfl|rfl<;>rfl) m_ o_ (by have:=c.size;simp at this ⊢;omega) ?_;intro v3 w3 hown3 hgrow)|(go_simp;go_wp2_with (go_at_call 86;refine(Zlx x y _ o_ o_).mono ?_;rintro e w1 ⟨rfl,c⟩)))
     all_goals
      have hbw1:Below wr.heap.size _ _:=bz_.drew.drew.drew.trans c;have hs1:=Nat.le_trans hsz hbw1.size;have hb3:=((hbw1.mono hsz).alloc hs1 _).grown hgrow t_ (λk hk=>((HO.below hbw1).lt k hk).1);have hb4:=hbel.trans hb3;have HF:=x1_ (Aj.more hown3);clear hown3 hgrow c;refine rd_ ?_;exact⟨i+1,j+1,_,g_,g_,⟨HX,HF⟩,hb4⟩
    have HX:=x1_ (HRJ.b GB hjl (λ_=>g));generalize (a.getD i e0).v=va,b.getD j e0=x at *;clear a1 a2 a3 ga0;obtain⟨g1,g2,g3,g4,g5,g6⟩:=gb0;have m:¬va<x.v:=o_;go_wp2_with fail
    go_region
    go_wp2_with fail
    go_region
    go_wp2_with fail
    refine(Ke _ a ca i x _ (HEA.below bz_.drew.drew) GA hi o_).mono ?_;rintro e w1 ⟨rfl,c⟩;have hbw1:Below wr.heap.size _ _:=bz_.drew.drew.trans c;clear c;have HO1:=x1_ (HO.below hbw1);have hs1:=Nat.le_trans hsz hbw1.size;go_wp2_with (at_builtin;refine wpList_append_own _ rfl (.tmp 76) (.tmp 84) 29 rfl w.heap.size 98 i0 _ 4 32 Tryz.underlying29 hinf hz0 hz1 hz2 rfl d_ _ out.length (flat out) rfl (HO1.alloc _) _ 1 1 [I_ (seen a i x).v,I_ (seen a i x).lo,I_ (seen a i x).hi,I_ (seen a i x).wt] rfl rfl ?_ ?_ ?_ ?_ ?_ ?_)
    exact Am _ _ _
    ·intro u hu;simp at hu;rcases hu with rfl|rfl|rfl|rfl<;>rfl
    unfold maxLen;omega;omega;simp;omega;intro v3 w3 hown3 hgrow _;have hb3:=((hbw1.mono hsz).alloc hs1 _).grown hgrow t_ (λk hk=>(HO1.lt k hk).1);have hb4:=hbel.trans hb3;have HF:=x1_ (Aj.more hown3);clear hown3 hgrow;refine rd_ ?_;exact⟨i,j+1,_,g_,g_,⟨HX,HF⟩,hb4⟩
   exact Zg6
  exact Zg6
def Pg(w:World)(b:Nat)(step parts whole rest:Int):Prop:=w.heap[b]? =some (.cells #[I_ step,I_ parts,I_ whole,I_ rest] 153 (0,0))
def Pg.cells{w b c e a d}(h:Pg w b c e a d):w.cell? (A_ b 0)=some (I_ c)/\w.cell? (A_ b 1)=some (I_ e)/\w.cell? (A_ b 2)=some (I_ a)/\w.cell? (A_ b 3)=some (I_ d)/\(∀o,w.frozen? (A_ b o)=false):=by unfold Pg at h;refine⟨?_,?_,?_,?_,λo=>fr_ w b o _ _ h⟩<;>simp[World.cell?,h]
def Pg.lt{w b x0 x1 x2 x3}(h:Pg w b x0 x1 x2 x3):b<w.heap.size:=(Qb h).1
def Pg.set2{w b x0 x1 x2 x3}(h:Pg w b x0 x1 x2 x3) y:Pg (w.setCell (A_ b 2) (I_ y)) b x0 x1 y x3:=hs_ w b 2 _ 153 (I_ y) h
def Pg.set3{w b x0 x1 x2 x3}(h:Pg w b x0 x1 x2 x3) y:Pg (w.setCell (A_ b 3) (I_ y)) b x0 x1 x2 y:=hs_ w b 3 _ 153 (I_ y) h
def ZfS{step parts:Int}(hp:0<parts)(hs:0<=step):0<=step/parts/\step/parts<=step/\0<=step%parts/\step%parts<parts/\step/parts*parts+step%parts=step:=
 ⟨Int.ediv_nonneg hs o_,Int.ediv_le_self _ hs,Int.emod_nonneg _ o_,Int.emod_lt_of_pos _ hp,by grind [Int.mul_ediv_add_emod]⟩
theorem Bo(w:World) r:w.grownBy w r:=⟨rfl,rfl,rfl,qa_,λ_ _ _=>rfl⟩
theorem Bm{w w':World}{b}(h:w.grownBy w' (some b)) j u:w.grownBy (w'.setCell (A_ b j) u) (some b):=
 ⟨h.os,h.tape,h.output,by have:=h.size;simpa [World.setCell] using this,λk hk hne=>(Below.heap_setCell w' (A_ b j) u k (λe=>hne (by rw[e]))).trans (h.block k hk hne)⟩
theorem Nv{w w':World}{r}(h:w.grownBy w' r):w.grownBy w'.drew r:=⟨h.os,h.tape,h.output,h.size,h.block⟩
def Zid b c a whole rest w (h:Pg w b c a whole rest)(g:1<=a/\a<=4194304)(o:0<=c/\c<=4000000000000)(m:0<=whole/\whole<=100000000000000000)(s:0<=rest/\rest<a):C_ 88 #[.pointer (some ⟨b,0,none⟩)] w λe w'=>e=.returned (.tuple #[])/\∃wh re,Pg w' b c a wh re/\wh*a+re=whole*a+rest+c/\0<=re/\re<a/\0<=wh/\wh<=whole+c+1/\w.grownBy w' (some b):=by
 obtain⟨p1,D⟩:=g;obtain⟨i,v⟩:=o;obtain⟨y,E⟩:=m;obtain⟨u,A⟩:=s;have p:=ZfS (by omega:0<a) i;have j:c.tdiv a=c/a:=w_;have k:c.tmod a=c%a:=w_;obtain⟨I,G,B,H,l⟩:=p;obtain⟨z,J,C,F,x⟩:=h.cells;have f:=x1_ h;have n:(a==0)=_:=beq_eq_false_iff_ne.2 o_;have t:=x1_ l;generalize c/a=q,c%a=r at *
 by_cases hc:a<=rest+r
 ·have d:Hid ((whole+q+1)*a+(rest+r-a)=whole*a+rest+c):=w_;go_enter Tryz.func88,Tryz.ntmps88;go_wp2_with fail
  go_region
  go_wp2_with fail
  go_region
  go_wp2_with fail
  go_region
  go_wp2_with fail
  go_region
  go_wp2_with fail
  go_end0;refine⟨rfl,whole+q+1,rest+r-a,?_,d,o_,o_,o_,o_,?_⟩;exact(((f.set2 _).set3 _).set2 _).set3 _;exact(by repeat(first|with_reducible exact Bo _ _|with_reducible refine Nv ?_|with_reducible refine Bm ?_ _ _))
 have d:Hid ((whole+q)*a+(rest+r)=whole*a+rest+c):=w_;go_enter Tryz.func88,Tryz.ntmps88;go_wp2_with fail
 go_region
 go_wp2_with fail
 go_region
 go_wp2_with fail
 go_region
 go_wp2_with fail
 go_end0;refine⟨rfl,whole+q,rest+r,?_,d,o_,o_,o_,o_,?_⟩;exact(f.set2 _).set3 _
 grind [Bo,Nv,Bm]
def ql b c a whole rest w (h:Pg w b c a whole rest)(d:0<=whole/\whole<=100000000000000000):C_ 90 #[.pointer (some ⟨b,0,none⟩)] w λe w'=>e=.returned (.int .i64 (if 0<rest then whole+1 else whole))/\w'=w:=by
 obtain⟨j,f⟩:=d;obtain⟨l,m,g,i,k⟩:=h.cells
 by_cases hc:0<rest
 ·rw[if_pos hc];go_enter Tryz.func90,Tryz.ntmps90;go_wp2;go_ret;exact⟨rfl,rfl⟩
 rw[if_neg hc];go_enter Tryz.func90,Tryz.ntmps90;go_wp2;go_ret;exact⟨rfl,rfl⟩
structure Cm where
 st:Int
 neg:Bool
 dig:Int
 unit:Int
 num:Int
 wv:Value
def RB(w:World)(b:Nat)(vf vW vC:Value)(wt:Int)(fl:Bool)(vr:Value)(p:Cm):Prop:=
 w.heap[b]? =some (.cells #[vf,vW,vC,I_ wt,.bool fl,vr,I_ p.st,.bool p.neg,I_ p.dig,I_ p.unit,I_ p.num,p.wv] 256 (0,0))
section
variable {w:World} {b:Nat} {vf vW vC:Value} {wt:Int} {fl:Bool} {vr:Value} {p:Cm}
def RB.part(h:RB w b vf vW vC wt fl vr p):w.cell? (A_ b 6)=some (I_ p.st)/\w.cell? (A_ b 7)=some (.bool p.neg)/\w.cell? (A_ b 8)=some (I_ p.dig)/\w.cell? (A_ b 9)=some (I_ p.unit)/\w.cell? (A_ b 10)=some (I_ p.num)/\w.cell? (A_ b 11)=some p.wv/\(∀o,w.frozen? (A_ b o)=false):=by unfold RB at h;refine⟨?_,?_,?_,?_,?_,?_,λo=>fr_ w b o _ _ h⟩<;>simp[World.cell?,h]
def RB.head(h:RB w b vf vW vC wt fl vr p):w.cell? (A_ b 0)=some vf/\w.cell? (A_ b 1)=some vW/\w.cell? (A_ b 2)=some vC/\w.cell? (A_ b 3)=some (I_ wt)/\w.cell? (A_ b 4)=some (.bool fl)/\w.cell? (A_ b 5)=some vr:=by unfold RB at h;refine⟨?_,?_,?_,?_,?_,?_⟩<;>simp[World.cell?,h]
def RB.lt(h:RB w b vf vW vC wt fl vr p):b<w.heap.size:=(Qb h).1
def RB.grown{w' row}(h:RB w b vf vW vC wt fl vr p)(hg:w.grownBy w' row)(hne:some b≠row):RB w' b vf vW vC wt fl vr p:=(hg.block b h.lt hne).trans h
def RB.below{w' B}(h:RB w b vf vW vC wt fl vr p)(hb:Below B w w')(hg:b<B):RB w' b vf vW vC wt fl vr p:=(hb.block b hg).trans h
def RB.drew(h:RB w b vf vW vC wt fl vr p):RB w.drew b vf vW vC wt fl vr p:=h
def RB.st(h:RB w b vf vW vC wt fl vr p) z:RB (w.setCell (A_ b 6) (I_ z)) b vf vW vC wt fl vr {p with st:=z}:=hs_ w b 6 _ 256 _ h
def RB.neg(h:RB w b vf vW vC wt fl vr p) z:RB (w.setCell (A_ b 7) (.bool z)) b vf vW vC wt fl vr {p with neg:=z}:=hs_ w b 7 _ 256 _ h
def RB.dig(h:RB w b vf vW vC wt fl vr p) z:RB (w.setCell (A_ b 8) (I_ z)) b vf vW vC wt fl vr {p with dig:=z}:=hs_ w b 8 _ 256 _ h
def RB.unit(h:RB w b vf vW vC wt fl vr p) z:RB (w.setCell (A_ b 9) (I_ z)) b vf vW vC wt fl vr {p with unit:=z}:=hs_ w b 9 _ 256 _ h
def RB.num(h:RB w b vf vW vC wt fl vr p) z:RB (w.setCell (A_ b 10) (I_ z)) b vf vW vC wt fl vr {p with num:=z}:=hs_ w b 10 _ 256 _ h
def RB.wv(h:RB w b vf vW vC wt fl vr p) z:RB (w.setCell (A_ b 11) z) b vf vW vC wt fl vr {p with wv:=z}:=hs_ w b 11 _ 256 _ h
end
theorem Cb{z}(b: -9000000000000000000<=z)(a:z<=9000000000000000000):IntKind.i64.wrap z=z:=by simp[IntKind.wrap,IntKind.bits,IntKind.signed];omega
def Cj(c:Int):Bool:=decide (48<=c)&&decide (c<=57)
def Gm(c:Int):Bool:=decide (97<=c)&&decide (c<=122)
def Qr c w:C_ 315 #[.int .u8 c] w λe w'=>e=.returned (.bool (Cj c))/\w'=w:=by
 unfold Cj
 by_cases h1:48<=c
 ·go_enter Tryz.func315,Tryz.ntmps315;go_wp2;go_ret;exact⟨by simp[h1],rfl⟩
 have a:=decide_eq_false h1;go_enter Tryz.func315,Tryz.ntmps315;go_wp2;go_ret;exact⟨rfl,rfl⟩
def Nw c w:C_ 310 #[.int .u8 c] w λe w'=>e=.returned (.bool (Gm c))/\w'=w:=by
 unfold Gm
 by_cases h1:97<=c
 ·go_enter Tryz.func310,Tryz.ntmps310;go_wp2;go_ret;exact⟨by simp[h1],rfl⟩
 have a:=decide_eq_false h1;go_enter Tryz.func310,Tryz.ntmps310;go_wp2;go_ret;exact⟨rfl,rfl⟩
def Yd c u w (j:48<=c)(h:c<=57)(a:0<=u)(d:u<=1000000):C_ 316 #[.int .u8 c,.int .i64 u] w λe w'=>e=.returned (.int .i64 ((c-48)*u))/\w'=w:=by have i:IntKind.u8.wrap (c-48)=c-48:=(by simp[IntKind.wrap,IntKind.bits,IntKind.signed];omega);have b:0<=(c-48)*u:=Int.mul_nonneg o_ a;have g:(c-48)*u<=9*_:=Int.mul_le_mul o_ d a o_;have f:IntKind.i64.wrap (c-48)=c-48:=(by simp[IntKind.wrap,IntKind.bits,IntKind.signed];omega);go_enter Tryz.func316,Tryz.ntmps316;go_wp2;go_ret;exact⟨rfl,rfl⟩
def Oa(p:Cm)(c:Int):Option Cm:=if c=45 then some {p with st:=1,neg:=true} else none
def Gy(u:Int)(p:Cm)(c:Int):Option Cm:=if Cj c=true then some {p with st:=if c=48 then 2 else 3,dig:=1,unit:=u,num:=(c-48)*u} else none
def Iu(p:Cm)(c:Int):Option Cm:=if Cj c=true/\p.dig≠5 then some {p with dig:=p.dig+1,num:=p.num*10+(c-48)*p.unit} else none
def Iy(p:Cm)(c:Int):Option Cm:=if c=46/\p.unit≠1 then some {p with st:=4} else none
def Hj(p:Cm)(c:Int):Option Cm:=if Cj c=true/\p.unit≠1 then some {p with st:=5,unit:=p.unit/10,num:=p.num+(c-48)*(p.unit/10)} else none
def Fz(b:Nat)(vf vW vC:Value)(wt:Int)(fl:Bool)(vr:Value)(p:Cm)(o:Option Cm)(w:World)(e:Ending)(w':World):Prop:=
 e=.returned (.bool o.isSome)/\RB w' b vf vW vC wt fl vr (o.getD p)/\w.grownBy w' (some b)
section
variable (b:Nat) (vf vW vC:Value) (wt:Int) (fl:Bool) (vr:Value) (p:Cm) (c:Int) (w:World)
def qy(h:RB w b vf vW vC wt fl vr p):C_ 268 #[.pointer (some ⟨b,6,none⟩),.int .u8 c] w λe w'=>Fz b vf vW vC wt fl vr p (Oa p c) w e w':=by
 obtain⟨f,g,_,_,_,_,i⟩:=h.part;have H:=x1_ h
 by_cases hc:c=45
 ·subst hc;go_enter Tryz.func268,Tryz.ntmps268;go_wp2;go_ret;exact⟨rfl,(H.st 1).neg _,Bm (Bm (Bo _ _) _ _) _ _⟩
 have d:=beq_eq_false_iff_ne.2 hc;have a:Hid (Oa p c=_):=if_neg hc;go_enter Tryz.func268,Tryz.ntmps268;go_wp2;go_ret;unfold Fz;rw[a];exact⟨rfl,H,Bo _ _⟩
def Sx(h:RB w b vf vW vC wt fl vr p):C_ 271 #[.pointer (some ⟨b,6,none⟩),.int .u8 c] w λe w'=>Fz b vf vW vC wt fl vr p (Iy p c) w e w':=by
 obtain⟨g,_,_,f,_,_,i⟩:=h.part;have H:=x1_ h
 by_cases hc:c=46
 ·subst hc
  by_cases hu:p.unit=1
  ·have a:Hid (Iy p 46=_):=if_neg (by simp[hu]);rw[hu] at f;go_enter Tryz.func271,Tryz.ntmps271;go_wp2;go_ret;unfold Fz;rw[a];exact⟨rfl,H,Bo _ _⟩
  have d:=beq_eq_false_iff_ne.2 hu;have a:Hid (Iy p _=_):=if_pos ⟨rfl,hu⟩;go_enter Tryz.func271,Tryz.ntmps271;go_wp2;go_ret;unfold Fz;rw[a];exact⟨rfl,H.st 4,Bm (Bo _ _) _ _⟩
 have d:=beq_eq_false_iff_ne.2 hc;have a:Hid (Iy p c=_):=if_neg (λh=>hc h.1);go_enter Tryz.func271,Tryz.ntmps271;go_wp2;go_ret;unfold Fz;rw[a];exact⟨rfl,H,Bo _ _⟩
def fg{p:Prop}(h:p:=by
 go_wp2_with (go_at_call 315;refine(HD _).mono ?_;rintro e w' ⟨rfl,rfl⟩)
 go_ret;unfold Fz;rw[HO]
 exact⟨rfl,H,Bo _ _⟩):p:=h
def Sw(h:RB w b vf vW vC wt fl vr p) u (j:0<=u)(d:u<=1000000):C_ 269 #[.pointer (some ⟨b,6,none⟩),.int .u8 c,.int .i64 u] w λe w'=>Fz b vf vW vC wt fl vr p (Gy u p c) w e w':=by
 obtain⟨q,_,r,o,l,_,n⟩:=h.part;have H:=x1_ h;have HD:=x1_ (λW=>Qr c W);clear h
 by_cases hd:Cj c=true
 ·have m:48<=c/\c<=57:=by simpa [Cj] using hd
  obtain⟨g,i⟩:=m;have a:=x1_ (λW=>Yd c u W g i j d);rw[hd] at HD
  by_cases h0:c=48
  ·have HO:Hid (Gy u p c=some {p with st:=2,dig:=1,unit:=u,num:=(c-48)*u}):=(by show Gy u p c=_;unfold Gy;grind);have f:(c==48)=true:=(by simp[h0]);generalize (c-48)*u=nn at *;clear h0 hd;go_enter Tryz.func269,Tryz.ntmps269;go_wp2_with (first|(go_at_call 315;refine(HD _).mono ?_;rintro e w' ⟨rfl,rfl⟩)|(go_at_call 316;refine(a _).mono ?_;rintro e w' ⟨rfl,rfl⟩))
   go_ret;unfold Fz;rw[HO];exact⟨rfl,((((H.st 3).dig 1).unit u).num _).st 2,Bm (Bm (Bm (Bm (Bm (Bo _ _) _ _) _ _) _ _) _ _) _ _⟩
  have HO:Hid (Gy u p c=some {p with st:=3,dig:=1,unit:=u,num:=(c-48)*u}):=(by show Gy u p c=_;unfold Gy;grind);have f:=beq_eq_false_iff_ne.2 h0;generalize (c-48)*u=nn at *;clear h0 hd;go_enter Tryz.func269,Tryz.ntmps269;go_wp2_with (first|(go_at_call 315;refine(HD _).mono ?_;rintro e w' ⟨rfl,rfl⟩)|(go_at_call 316;refine(a _).mono ?_;rintro e w' ⟨rfl,rfl⟩))
  go_ret;unfold Fz;rw[HO];exact⟨rfl,(((H.st 3).dig 1).unit u).num _,Bm (Bm (Bm (Bm (Bo _ _) _ _) _ _) _ _) _ _⟩
 have HO:Hid (Gy u p c=_):=if_neg hd
 have k:Cj c=false:=by simpa using hd
 rw[k] at HD;clear hd k;go_enter Tryz.func269,Tryz.ntmps269;exact fg
def qu(h:RB w b vf vW vC wt fl vr p)(a:0<=p.unit)(d:p.unit<=1000000)(n:0<=p.num)(m:p.num<=1000000000000)(j:0<=p.dig)(k:p.dig<=1000):C_ 270 #[.pointer (some ⟨b,6,none⟩),.int .u8 c] w λe w'=>Fz b vf vW vC wt fl vr p (Iu p c) w e w':=by
 obtain⟨_,_,t,z,q,_,y⟩:=h.part;have H:=x1_ h;have HD:=x1_ (λW=>Qr c W)
 by_cases hd:Cj c=true
 ·have r:48<=c/\c<=57:=by simpa [Cj] using hd
  obtain⟨f,g⟩:=r
  by_cases h5:p.dig=5
  ·have HO:Hid (Iu p c=_):=if_neg (λh=>h.2 h5);rw[hd] at HD;rw[h5] at t;go_enter Tryz.func270,Tryz.ntmps270;exact fg
  have u:=beq_eq_false_iff_ne.2 h5;have HO:Hid (Iu p c=_):=if_pos ⟨hd,h5⟩;have i:=x1_ (λW=>Yd c _ W f g a d);have l:0<=(c-48)*_:=Int.mul_nonneg o_ a;have v:(c-48)*_<=9*_:=Int.mul_le_mul o_ d a o_;rw[hd] at HD;generalize (c-48)*p.unit=nn at *;have o:_=p.num*10:=Cb o_ o_;have s:_=p.num*10+nn:=Cb o_ o_;go_enter Tryz.func270,Tryz.ntmps270;go_wp2_with (go_at_call 315;refine(HD _).mono ?_;rintro e w' ⟨rfl,rfl⟩)
  go_region_with (go_at_call 316;refine(i _).mono ?_;rintro e w' ⟨rfl,rfl⟩)
  all_goals go_wp2
  all_goals go_ret
  all_goals unfold Fz
  all_goals rw[HO]
  all_goals exact⟨rfl,((H.dig _).num _).drew,Nv (Bm (Bm (Bo _ _) _ _) _ _)⟩
 have HO:Hid (Iu p c=_):=if_neg (λh=>hd h.1)
 have x:Cj c=false:=by simpa using hd
 rw[x] at HD;go_enter Tryz.func270,Tryz.ntmps270;exact fg
def ld(h:RB w b vf vW vC wt fl vr p)(j:0<=p.unit)(m:p.unit<=1000000)(n:0<=p.num)(l:p.num<=1000000000000):C_ 272 #[.pointer (some ⟨b,6,none⟩),.int .u8 c] w λe w'=>Fz b vf vW vC wt fl vr p (Hj p c) w e w':=by
 obtain⟨y,_,_,s,o,_,A⟩:=h.part;have H:=x1_ h;have HD:=x1_ (λW=>Qr c W)
 by_cases hd:Cj c=true
 ·have q:48<=c/\c<=57:=by simpa [Cj] using hd
  obtain⟨f,g⟩:=q
  by_cases h5:p.unit=1
  ·have HO:Hid (Hj p c=_):=if_neg (λh=>h.2 h5);rw[hd] at HD;rw[h5] at s;go_enter Tryz.func272,Tryz.ntmps272;exact fg
  have t:=beq_eq_false_iff_ne.2 h5;have z:p.unit.tdiv 10=_/10:=Int.tdiv_eq_ediv_of_nonneg j;have a:0<=p.unit/10:=o_;have d:p.unit/10<=1000000:=o_;have HO:Hid (Hj p c=_):=if_pos ⟨hd,h5⟩;have i:=x1_ (λW=>Yd c _ W f g a d);have k:0<=(c-48)*_:=Int.mul_nonneg o_ a;have u:(c-48)*_<=9*_:=Int.mul_le_mul o_ d a o_;rw[hd] at HD;generalize (c-48)*(p.unit/10)=nn at *;generalize p.unit/10=uu at *;have r:_=p.num+nn:=Cb o_ o_;have x:_=uu:=Cb o_ o_;go_enter Tryz.func272,Tryz.ntmps272;go_wp2_with (go_at_call 315;refine(HD _).mono ?_;rintro e w' ⟨rfl,rfl⟩)
  go_region_with (go_at_call 316;refine(i _).mono ?_;rintro e w' ⟨rfl,rfl⟩)
  all_goals go_wp2
  all_goals go_ret
  all_goals unfold Fz
  all_goals rw[HO]
  all_goals exact⟨rfl,(((H.st _).unit _).num _).drew,Nv (Bm (Bm (Bm (Bo _ _) _ _) _ _) _ _)⟩
 have HO:Hid (Hj p c=_):=if_neg (λh=>hd h.1)
 have v:Cj c=false:=by simpa using hd
 rw[v] at HD;go_enter Tryz.func272,Tryz.ntmps272;exact fg
end
def Nc:(Tryz.prog.info? 5).map (λi=>(i.zero,i.size,i.bytes))=some (some (.int .u8 0),1,1):=k_
def Bj(w:World)(base:Nat)(v:Value)(bs:List Int):Prop:=w.ownsRow base 5 1 v bs.length (bs.map (Value.int .u8))
def Bj.form{w b v d}(h:Bj w b v d):∃a c,v=.slice a d.length c:=by
 rcases h.2 with⟨rfl,h0⟩|⟨q,p,cur,rfl,_⟩
 ·grind
 grind
def RW(w:World)(b base:Nat)(vf vW vC:Value)(wt:Int)(fl:Bool)(vr:Value)(p:Cm)(bs:List Int):Prop:=RB w b vf vW vC wt fl vr p/\Bj w base p.wv bs
def Fc(b base:Nat)(vf vW vC:Value)(wt:Int)(fl:Bool)(vr:Value)(p:Cm)(bs:List Int)(o:Option (Int×List Int))(w:World)(e:Ending)(w':World):Prop:=
 e=.returned (.bool o.isSome)/\(∃v',RW w' b base vf vW vC wt fl vr {p with st:=(o.getD (p.st,bs)).1,wv:=v'} (o.getD (p.st,bs)).2/\(v'.ownBlock=p.wv.ownBlock∨∃k,v'.ownBlock=some k/\w.heap.size<=k))/\Aa (λk=>k=b∨some k=p.wv.ownBlock) w w'
def Fc.none{b base vf vW vC wt fl vr p bs w}(h:RW w b base vf vW vC wt fl vr p bs):Fc b base vf vW vC wt fl vr p bs none w (.returned (.bool false)) w:=
 ⟨rfl,⟨p.wv,h,.inl rfl⟩,Aa.refl _ _⟩
section
variable (b base:Nat) (vf vW vC:Value) (wt:Int) (fl:Bool) (vr:Value) (p:Cm) (bs:List Int) (c:Int) (w:World)
def io(h:RW w b base vf vW vC wt fl vr p bs):C_ 311 #[.pointer (some ⟨b,6,none⟩)] w λe w'=>e=.returned (.bool (decide (bs.length=8)))/\w'=w:=by
 obtain⟨_,_,_,_,_,c,i⟩:=h.1.part;obtain⟨a,g,d⟩:=h.2.form;rw[d] at c
 by_cases h8:bs.length=8
 ·rw[h8] at c;go_enter Tryz.func311,Tryz.ntmps311;go_wp2;go_ret;exact⟨by simp[h8],rfl⟩
 have f:((bs.length:Int)==8)=_:=beq_eq_false_iff_ne.2 o_;go_enter Tryz.func311,Tryz.ntmps311;go_wp2;go_ret;exact⟨by simp[h8],rfl⟩
def ae(h:RW w b base vf vW vC wt fl vr p bs):C_ 259 #[.pointer (some ⟨b,6,none⟩),.int .u8 c] w λe w'=>Fc b base vf vW vC wt fl vr p bs (if c=34 then some (7,bs) else none) w e w':=by
 obtain⟨l,_,_,_,_,_,m⟩:=h.1.part;have H:=x1_ h;have f:Hid (∀u,Aa (λk=>k=b∨some k=p.wv.ownBlock) w _):=λu=>(Aa.refl _ w).setCell (p:=(A_ b 6)) (λ_=>.inl rfl) u
 have d:Hid (∀u,Bj (w.setCell (A_ b 6) u) base p.wv bs):=λu=>((Aa.refl (λk=>k=b) w).setCell (p:=(A_ b 6)) (λ_=>rfl) u).row h.2 (λk hk e=>by
  obtain⟨i,a⟩:=Ad h.2 hk;subst e;have:=h.1;unfold RB at this
  grind)
 by_cases a:c=34
 ·subst a;go_enter Tryz.func259,Tryz.ntmps259;go_wp2;go_ret;exact⟨rfl,⟨p.wv,⟨H.1.st 7,d _⟩,.inl rfl⟩,f _⟩
 have j:=beq_eq_false_iff_ne.2 a;have g:Hid ((if c=_ then some ((7:Int),bs) else none)=_):=if_neg a;go_enter Tryz.func259,Tryz.ntmps259;go_wp2;go_ret
 first|exact Fc.none H|(rw[g];exact Fc.none H)
def qz(h:RW w b base vf vW vC wt fl vr p bs):C_ 261 #[.pointer (some ⟨b,6,none⟩),.int .u8 c] w λe w'=>Fc b base vf vW vC wt fl vr p bs (if c=34 then some (8,bs) else none) w e w':=by
 obtain⟨l,_,_,_,_,_,m⟩:=h.1.part;have H:=x1_ h;have f:Hid (∀u,Aa (λk=>k=b∨some k=p.wv.ownBlock) w _):=λu=>(Aa.refl _ w).setCell (p:=(A_ b 6)) (λ_=>.inl rfl) u
 have d:Hid (∀u,Bj (w.setCell (A_ b 6) u) base p.wv bs):=λu=>((Aa.refl (λk=>k=b) w).setCell (p:=(A_ b 6)) (λ_=>rfl) u).row h.2 (λk hk e=>by
  obtain⟨i,a⟩:=Ad h.2 hk;subst e;have:=h.1;unfold RB at this
  grind)
 by_cases a:c=34
 ·subst a;go_enter Tryz.func261,Tryz.ntmps261;go_wp2;go_ret;exact⟨rfl,⟨p.wv,⟨H.1.st 8,d _⟩,.inl rfl⟩,f _⟩
 have j:=beq_eq_false_iff_ne.2 a;have g:Hid ((if c=_ then some ((8:Int),bs) else none)=_):=if_neg a;go_enter Tryz.func261,Tryz.ntmps261;go_wp2;go_ret
 first|exact Fc.none H|(rw[g];exact Fc.none H)
end
def Jb(bs:List Int)(c:Int):Option (Int×List Int):=if Gm c=true/\bs.length≠8 then some (6,bs++[c]) else none
def Pe(c:Int):Bool:=Gm c||decide (c=32)||decide (c=44)||decide (c=10)||decide (c=34)
def Sv(st:Int)(bs:List Int)(c:Int):Option (Int×List Int):=if Pe c=true/\bs.length≠8 then some (st,bs++[c]) else none
def Kd(bs:List Int)(c:Int):Option (Int×List Int):=if c=34/\bs.length≠8 then some (7,bs++[c]) else none
def Xa{b a n u l m s r p d c w f i o q g N}(h:RW w b a n u l m s r p d)(z:RB f b n u l m s r {p with st:=o})(y:Aa (λk=>k=b) w f)(D:i.ownsRow a 5 1 (L_ q (d.length+1) g) (d.length+1) (d.map (Value.int .u8)++[.int .u8 c]))(x:(f.alloc (.cells #[.int .u8 c] 5)).grownBy i p.wv.ownBlock)(C:(L_ q (d.length+1) g).ownBlock=p.wv.ownBlock∨(L_ q (d.length+1) g).ownBlock=some N/\Below N (f.alloc (.cells #[.int .u8 c] 5)) i)(F:f.heap.size<=N):Fc b a n u l m s r p d (some (o,d++[c])) w (.returned (.bool true)) (i.setCell (A_ b 11) (L_ q (d.length+1) g)):=by
 have j:some b≠p.wv.ownBlock:=λe=>by
  obtain⟨A,G⟩:=Ad h.2 e.symm;have:=h.1;unfold RB at this
  grind
 have v:RB (f.alloc (.cells #[.int .u8 c] 5)) b _ _ _ _ _ _ _:=(hb_ _ _ b z.lt).trans z;have B:=v.grown x j;refine⟨rfl,⟨.slice _ _ _,⟨B.wv _,?_⟩,?_⟩,?_⟩
 ·have t:Aa _ _ (i.setCell _ (L_ q (d.length+1) g)):=(Aa.refl (λk=>k=b) _).setCell (p:=(A_ b 11)) (λ_=>rfl) _;have E:=t.row D (λk hk e=>by grind [RB])
  grind [Bj]
 ·rcases C with e|⟨e,_⟩
  exact .inl e;exact .inr ⟨N,e,by have:=y.size;omega⟩
 exact(((y.mono (λk _ e=>.inl e)).alloc _).grown x (λk e _=>.inr e.symm)).setCell (p:=(A_ b 11)) (λ_=>.inl rfl) _
section
variable (b base:Nat) (vf vW vC:Value) (wt:Int) (fl:Bool) (vr:Value) (p:Cm) (bs:List Int) (c:Int) (w:World)
def Rd(h:RW w b base vf vW vC wt fl vr p bs)(B:base<=w.heap.size)(T:bs.length<=1000):C_ 260 #[.pointer (some ⟨b,6,none⟩),.int .u8 c] w λe w'=>Fc b base vf vW vC wt fl vr p bs (Jb bs c) w e w':=by
 obtain⟨M,l,z,v,t⟩:=info_parts Nc;obtain⟨V,_,_,_,_,G,S⟩:=h.1.part;have H:=x1_ h;have j:=x1_ (λW=>Nw c W);have m:=x1_ (io b _ _ _ _ _ _ _ p _ w h)
 have A:Hid (Bj (w.setCell (A_ b 6) (I_ 6)) base p.wv bs):=((Aa.refl (λk=>k=b) w).setCell (p:=(A_ b 6)) (λ_=>rfl) _).row h.2 (λk hk e=>by
  obtain⟨s,P⟩:=Ad h.2 hk;subst e;have:=h.1;unfold RB at this
  grind)
 have d:=x1_ (h.1.st 6);have n:Hid (Aa _ w (w.setCell _ (I_ 6))):=(Aa.refl (λk=>k=b) w).setCell (p:=(A_ b 6)) (λ_=>rfl) _
 have o:Hid (_<=(w.setCell (A_ b 6) (I_ 6)).heap.size):=show base<=_ by simp[World.setCell];exact B
 have O:_=some p.wv:=(h.1.st 6).part.2.2.2.2.2.1;have U:=(h.1.st 6).part.2.2.2.2.2.2
 by_cases hlt:Gm c=true
 ·rw[hlt] at j
  by_cases h8:bs.length=8
  ·have i:Hid (Jb _ c=_):=if_neg (λh=>h.2 h8);have a:=decide_eq_true h8;rw[a] at m;go_enter Tryz.func260,Tryz.ntmps260;go_wp2_with (first|(go_at_call 310;refine(j _).mono ?_;rintro e w' ⟨rfl,rfl⟩)|(go_at_call 311;refine(m).mono ?_;rintro e w' ⟨rfl,rfl⟩))
   go_ret;rw[i];exact Fc.none H
  have i:Hid (Jb _ c=_):=if_pos ⟨hlt,h8⟩;have a:=decide_eq_false h8;rw[a] at m;go_enter Tryz.func260,Tryz.ntmps260;go_upto_region 4 with(first|(go_at_call 310;refine(j _).mono ?_;rintro e w' ⟨rfl,f⟩;obtain rfl:=f.symm)|(go_at_call 311;refine(m).mono ?_;rintro e w' ⟨rfl,f⟩;obtain rfl:=f.symm))
  have x:Hid (some b≠p.wv.ownBlock):=λe=>by
   obtain⟨s,P⟩:=Ad H.2 e.symm;have:=H.1;unfold RB at this
   grind
  generalize w.setCell (A_ b 6) (I_ 6)=w1 at *;have E:=o.out;go_wp2_with (at_builtin;refine Ab rfl _ _ 66 rfl base 5 M _ 1 1 Tryz.underlying66 l z v t rfl d_ p.wv _ _ rfl (ra_ A _) _ 1 1 [.int .u8 c] rfl rfl (Am w1 _ 5) (by intro u C;simp only[List.mem_cons,List.not_mem_nil,or_false] at C;rcases C with rfl;rfl) d_ m_ o_ t_ ?_)
  intro y X L;obtain⟨J,D,I,_,q,R,rfl⟩:=L;have r:RB (w1.alloc (.cells #[.int .u8 c] 5)) b _ _ _ _ _ _ _:=(hb_ _ _ b d.lt).trans d;have N:=r.grown D x;obtain⟨_,_,_,_,_,F,Y⟩:=N.part;have g:=x1_ (Xa H d n J D I o_);go_wp2;go_ret;rw[i];exact g
 have i:Hid (Jb bs c=_):=if_neg (λh=>hlt h.1)
 have Q:Gm c=false:=by simpa using hlt
 rw[Q] at j;go_enter Tryz.func260,Tryz.ntmps260;go_wp2_with (go_at_call 310;refine(j _).mono ?_;rintro e w' ⟨rfl,rfl⟩)
 go_ret;rw[i];exact Fc.none H
end
def Zdb c w:C_ 312 #[.int .u8 c] w λe w'=>e=.returned (.bool (Pe c))/\w'=w:=by
 have d:=x1_ (λW=>Nw c W)
 by_cases k0:Gm c=true
 ·have f:Hid (Pe c=true):=(by show Pe c=true;unfold Pe;rw[k0];rfl);rw[k0] at d;go_enter Tryz.func312,Tryz.ntmps312;go_wp2_with (go_at_call 310;refine(d _).mono ?_;rintro e w' ⟨rfl,b⟩;obtain rfl:=b.symm)
  go_ret;rw[f];exact⟨rfl,rfl⟩
 have g:Gm c=false:=by simpa using k0
 have f:Hid (Pe c=(decide (c=32)||decide (c=44)||decide (c=10)||decide (c=34))):=(by show Pe c=_;unfold Pe;grind);rw[g] at d;have a:c=32∨c=44∨c=10∨c=34∨(¬c=32/\¬c=44/\¬c=10/\¬c=34):=o_
 rcases a with rfl|rfl|rfl|rfl|⟨k,i,j,h⟩
 all_goals try
  have m:=beq_eq_false_iff_ne.2 k;have l:=beq_eq_false_iff_ne.2 i;have o:=beq_eq_false_iff_ne.2 j;have n:=beq_eq_false_iff_ne.2 h
 all_goals go_enter Tryz.func312,Tryz.ntmps312
 all_goals go_wp2_with (go_at_call 310;refine(d _).mono ?_;rintro e w' ⟨rfl,b⟩;obtain rfl:=b.symm)
 all_goals go_ret
 all_goals refine⟨?_,rfl⟩
 all_goals rw[f]
 all_goals first|rfl|simp_all
section
variable (b base:Nat) (vf vW vC:Value) (wt:Int) (fl:Bool) (vr:Value) (p:Cm) (bs:List Int) (c:Int) (w:World)
def ln(h:RW w b base vf vW vC wt fl vr p bs)(B:base<=w.heap.size)(T:bs.length<=1000):C_ 263 #[.pointer (some ⟨b,6,none⟩),.int .u8 c] w λe w'=>Fc b base vf vW vC wt fl vr p bs (Kd bs c) w e w':=by
 obtain⟨N,j,z,v,t⟩:=info_parts Nc;obtain⟨V,_,_,_,_,G,R⟩:=h.1.part;have H:=x1_ h;have S:=x1_ (λW=>Nw c W);have m:=x1_ (io b _ _ _ _ _ _ _ p _ w h)
 have x:Hid (some b≠p.wv.ownBlock):=λe=>by
  obtain⟨s,l⟩:=Ad h.2 e.symm;have:=h.1;unfold RB at this
  grind
 have A:Hid (Bj (w.setCell (A_ b 6) (I_ 7)) base p.wv bs):=((Aa.refl (λk=>k=b) w).setCell (p:=(A_ b 6)) (λ_=>rfl) _).row h.2 (λk hk e=>by
  obtain⟨s,l⟩:=Ad h.2 hk;subst e;have:=h.1;unfold RB at this
  grind)
 have d:=x1_ (h.1.st 7);have n:Hid (Aa _ w (w.setCell _ (I_ 7))):=(Aa.refl (λk=>k=b) w).setCell (p:=(A_ b 6)) (λ_=>rfl) _
 have o:Hid (_<=(w.setCell (A_ b 6) (I_ 7)).heap.size):=show base<=_ by simp[World.setCell];exact B
 have P:_=some p.wv:=(h.1.st 7).part.2.2.2.2.2.1;have U:=(h.1.st 7).part.2.2.2.2.2.2
 by_cases l:c=34
 ·subst l
  by_cases h8:bs.length=8
  ·have i:Hid (Kd _ 34=_):=if_neg (λh=>h.2 h8);have a:=decide_eq_true h8;rw[a] at m;go_enter Tryz.func263,Tryz.ntmps263;go_wp2_with ((go_at_call 311;refine(m).mono ?_;rintro e w' ⟨rfl,f⟩;obtain rfl:=f.symm))
   go_ret;rw[i];exact Fc.none H
  have i:Hid (Kd _ _=_):=if_pos ⟨rfl,h8⟩;have a:=decide_eq_false h8;rw[a] at m;go_enter Tryz.func263,Tryz.ntmps263;go_upto_region 4 with((go_at_call 311;refine(m).mono ?_;rintro e w' ⟨rfl,f⟩;obtain rfl:=f.symm))
  generalize w.setCell (A_ b 6) (I_ 7)=w1 at *;have E:=o.out;go_wp2_with (at_builtin;refine Ab rfl _ _ 66 rfl base 5 N _ 1 1 Tryz.underlying66 j z v t rfl d_ p.wv _ _ rfl (ra_ A _) _ 1 1 [.int .u8 34] rfl rfl (Am w1 _ 5) (by intro u C;simp only[List.mem_cons,List.not_mem_nil,or_false] at C;rcases C with rfl;rfl) d_ m_ o_ t_ ?_)
  intro y X L;obtain⟨J,D,I,_,q,Q,rfl⟩:=L;have r:RB (w1.alloc (.cells #[.int .u8 34] 5)) b _ _ _ _ _ _ _:=(hb_ _ _ b d.lt).trans d;have O:=r.grown D x;obtain⟨_,_,_,_,_,F,Y⟩:=O.part;have g:=x1_ (Xa H d n J D I o_);go_wp2;go_ret;rw[i];exact g
 have i:Hid (Kd bs c=_):=if_neg (λh=>l h.1);have M:=beq_eq_false_iff_ne.2 l;go_enter Tryz.func263,Tryz.ntmps263;go_wp2;go_ret;rw[i];exact Fc.none H
def Zg3{p:Prop}(h:p:=by
 go_enter Tryz.func262,Tryz.ntmps262;go_wp2_with (first|(go_at_call 312;refine(HL _).mono ?_;rintro e w' ⟨rfl,hw'⟩;obtain rfl:=hw'.symm)|(go_at_call 311;refine(HF).mono ?_;rintro e w' ⟨rfl,hw'⟩;obtain rfl:=hw'.symm))
 go_ret;rw[HO]
 exact Fc.none H):p:=h
def Zab(h:RW w b base vf vW vC wt fl vr p bs)(v:base<=w.heap.size)(O:bs.length<=1000):C_ 262 #[.pointer (some ⟨b,6,none⟩),.int .u8 c] w λe w'=>Fc b base vf vW vC wt fl vr p bs (Sv p.st bs c) w e w':=by
 obtain⟨G,g,s,o,n⟩:=info_parts Nc;obtain⟨Q,_,_,_,_,C,N⟩:=h.1.part;have H:=x1_ h;have HL:=x1_ (λW=>Zdb c W);have HF:=x1_ (io b _ _ _ _ _ _ _ p _ w h)
 have r:Hid (some b≠p.wv.ownBlock):=λe=>by
  obtain⟨I,S⟩:=Ad h.2 e.symm;have:=h.1;unfold RB at this
  grind
 have t:=x1_ h.2;have d:=x1_ h.1;have i:Hid (Aa (λk=>k=b) w w):=Aa.refl _ _;have j:=x1_ v;have L:=h.1.part.2.2.2.2.2.1;have P:=h.1.part.2.2.2.2.2.2
 by_cases hs:Pe c=true
 ·rw[hs] at HL
  by_cases h8:bs.length=8
  have HO:Hid (Sv p.st _ c=_):=if_neg (λh=>h.2 h8);have a:=decide_eq_true h8;rw[a] at HF;exact Zg3;have HO:Hid (Sv p.st _ c=_):=if_pos ⟨hs,h8⟩;have a:=decide_eq_false h8;rw[a] at HF;go_enter Tryz.func262,Tryz.ntmps262;go_upto_region 3 with(first|(go_at_call 312;refine(HL _).mono ?_;rintro e w' ⟨rfl,hw'⟩;obtain rfl:=hw'.symm)|(go_at_call 311;refine(HF).mono ?_;rintro e w' ⟨rfl,hw'⟩;obtain rfl:=hw'.symm))
  have A:=j.out;go_wp2_with (at_builtin;refine Ab rfl _ _ 66 rfl base 5 G _ 1 1 Tryz.underlying66 g s o n rfl d_ p.wv _ _ rfl (ra_ t _) _ 1 1 [.int .u8 c] rfl rfl (Am w _ 5) (by intro u x;simp only[List.mem_cons,List.not_mem_nil,or_false] at x;rcases x with rfl;rfl) d_ m_ o_ t_ ?_)
  intro y R F;obtain⟨E,z,D,_,q,M,rfl⟩:=F;have l:RB (w.alloc (.cells #[.int .u8 c] 5)) b _ _ _ _ _ _ _:=(hb_ w _ b d.lt).trans d;have J:=l.grown z r;obtain⟨_,_,_,_,_,B,T⟩:=J.part;have f:=x1_ (Xa H d i E z D o_);go_wp2;go_ret;rw[HO];exact f
 have m:Pe c=false:=by simpa using hs
 have HO:Hid (Sv p.st bs c=_):=if_neg (λh=>hs h.1);rw[m] at HL;exact Zg3
end
def ZhM{w w' w'':World}{r}(h:w.grownBy w' r)(k:w'.grownBy w'' r):w.grownBy w'' r:=
 ⟨k.os.trans h.os,k.tape.trans h.tape,k.output.trans h.output,Nat.le_trans h.size k.size,λi hi hn=>(k.block i (Qh hi h.size) hn).trans (h.block i hi hn)⟩
def Bz(u:Int)(p:Cm)(c:Int):Option Cm:=
 if p.st=0 then(Oa p c).orElse (λ_=>Gy u p c)
 else if p.st=1 then Gy u p c
 else if p.st=3 then(Iu p c).orElse (λ_=>Iy p c)
 else if p.st=2 then Iy p c
 else Hj p c
def Bt(st:Int)(bs:List Int)(c:Int):Option (Int×List Int):=
 if st=0 then(if c=34 then some (7,bs) else none).orElse (λ_=>Jb bs c)
 else if st=6 then Jb bs c
 else if st=7 then(if c=34 then some (8,bs) else none).orElse (λ_=>Sv st bs c)
 else Kd bs c
section
variable {b:Nat} {vf vW vC:Value} {wt:Int} {fl:Bool} {vr:Value} {p:Cm}
def Fz.first{w a e o}(h:Fz b vf vW vC wt fl vr p o w e a):(∃q,o=some q/\e=.returned (.bool true))∨(o=none/\e=.returned (.bool false)/\RB a b vf vW vC wt fl vr p/\w.grownBy a (some b)):=by
 obtain⟨d,c,f⟩:=h
 cases o with
 |none=>grind
 |some q=>grind
def Fz.second{w w1 w2 e o}(hg:w.grownBy w1 (some b))(h:Fz b vf vW vC wt fl vr p o w1 e w2):Fz b vf vW vC wt fl vr p o w e w2:=⟨h.1,h.2.1,ZhM hg h.2.2⟩
def Fz.ends{w w1 e o}(h:Fz b vf vW vC wt fl vr p o w e w1):e=.returned (.bool o.isSome):=h.1
end
def lh b z C x y B A p c u w (h:RB w b z C x y B A p)(m:0<=u)(o:u<=1000000)(n:0<=p.unit)(j:p.unit<=1000000)(k:0<=p.num)(i:p.num<=1000000000000)(t:0<=p.dig)(v:p.dig<=1000):C_ 215 #[.pointer (some ⟨b,6,none⟩),.int .u8 c,.int .i64 u] w λe w'=>Fz b z C x y B A p (Bz u p c) w e w':=by
 obtain⟨r,_,_,_,_,_,_⟩:=h.part;have H:=x1_ h
 by_cases s0:p.st=0
 ·have f:Hid (Bz u p c=_):=if_pos s0;rw[s0] at r;go_enter Tryz.func215,Tryz.ntmps215;go_wp2_with fail
  refine(qy b _ _ _ _ _ _ p c w H).mono ?_;rintro e D a;have d:=x1_ a
  rcases a.first with⟨q,hq,rfl⟩|⟨hq,rfl,hR,hG⟩
  ·have g:=x1_ hq;go_wp2;go_ret;rw[f,g];have:=d.out;rw[g] at this;exact this
  have g:=x1_ hq;have l:=x2_ hR hG;go_wp2_with fail
  refine(Sw b _ _ _ _ _ _ p c _ l.1 u m o).mono ?_;rintro e s a;have d:=x1_ (a.second l.2);obtain rfl:=a.ends;go_wp2;go_ret;rw[f,g];exact d
 by_cases s1:p.st=1
 ·have f:Hid (Bz u p c=Gy u p c):=(by show Bz u p c=_;unfold Bz;grind);rw[s1] at r;go_enter Tryz.func215,Tryz.ntmps215;go_wp2_with fail
  refine(Sw b _ _ _ _ _ _ p c w H u m o).mono ?_;rintro e s a;have d:=x1_ a;obtain rfl:=a.ends;go_wp2;go_ret;rw[f];exact d
 by_cases s3:p.st=3
 ·have f:Hid (Bz u p c=(Iu p c).orElse (λ_=>Iy p c)):=(by show Bz u p c=_;unfold Bz;grind);rw[s3] at r;go_enter Tryz.func215,Tryz.ntmps215;go_wp2_with fail
  refine(qu b _ _ _ _ _ _ p c w H n j k i t v).mono ?_;rintro e D a;have d:=x1_ a
  rcases a.first with⟨q,hq,rfl⟩|⟨hq,rfl,hR,hG⟩
  ·have g:=x1_ hq;go_wp2;go_ret;rw[f,g];have:=d.out;rw[g] at this;exact this
  have g:=x1_ hq;have l:=x2_ hR hG;go_wp2_with fail
  refine(Sx b _ _ _ _ _ _ p c _ l.1).mono ?_;rintro e s a;have d:=x1_ (a.second l.2);obtain rfl:=a.ends;go_wp2;go_ret;rw[f,g];exact d
 by_cases s2:p.st=2
 ·have f:Hid (Bz u p c=Iy p c):=(by show Bz u p c=_;unfold Bz;grind);rw[s2] at r;go_enter Tryz.func215,Tryz.ntmps215;go_wp2_with fail
  refine(Sx b _ _ _ _ _ _ p c w H).mono ?_;rintro e s a;have d:=x1_ a;obtain rfl:=a.ends;go_wp2;go_ret;rw[f];exact d
 have f:Hid (Bz u p c=Hj p c):=(by show Bz u p c=_;unfold Bz;grind);have e0:=beq_eq_false_iff_ne.2 s0;have E:=beq_eq_false_iff_ne.2 s1;have F:=beq_eq_false_iff_ne.2 s2;have G:=beq_eq_false_iff_ne.2 s3;go_enter Tryz.func215,Tryz.ntmps215;go_wp2_with fail
 refine(ld b _ _ _ _ _ _ p c w H n j k i).mono ?_;rintro e s a;have d:=x1_ a;obtain rfl:=a.ends;go_wp2;go_ret;rw[f];exact d
section
variable {b base:Nat} {vf vW vC:Value} {wt:Int} {fl:Bool} {vr:Value} {p:Cm} {bs:List Int}
def Fc.first{w a e o}(h:Fc b base vf vW vC wt fl vr p bs o w e a):(∃q,o=some q/\e=.returned (.bool true))∨(o=Option.none/\e=.returned (.bool false)/\∃v',RW a b base vf vW vC wt fl vr {p with wv:=v'} bs/\(v'.ownBlock=p.wv.ownBlock∨∃k,v'.ownBlock=some k/\w.heap.size<=k)/\Aa (λk=>k=b∨some k=p.wv.ownBlock) w a):=by
 obtain⟨g,⟨v',c,f⟩,d⟩:=h
 cases o with
 |none=>grind
 |some q=>grind
def Fc.second{w j i e o f}(q:f.ownBlock=p.wv.ownBlock∨∃k,f.ownBlock=some k/\w.heap.size<=k)(a:Aa (λk=>k=b∨some k=p.wv.ownBlock) w j)(h:Fc b base vf vW vC wt fl vr {p with wv:=f} bs o j e i):Fc b base vf vW vC wt fl vr p bs o w e i:=by
 obtain⟨n,⟨m,l,d⟩,c⟩:=h;refine⟨n,⟨m,l,?_⟩,⟨c.os.trans a.os,c.tape.trans a.tape,c.output.trans a.output,Nat.le_trans a.size c.size,λk g hn=>(c.block k (Qh g a.size) (λe=>?_)).trans (a.block k g hn)⟩⟩
 ·rcases d with d|⟨k,d,g⟩
  ·grind
  exact .inr ⟨k,d,by have:=a.size;omega⟩
 grind
def Fc.ends{w w1 e o}(h:Fc b base vf vW vC wt fl vr p bs o w e w1):e=.returned (.bool o.isSome):=h.1
end
def Zac b d x v t u z y p f c w (h:RW w b d x v t u z y p f)(m:d<=w.heap.size)(n:f.length<=1000):C_ 209 #[.pointer (some ⟨b,6,none⟩),.int .u8 c] w λe w'=>Fc b d x v t u z y p f (Bt p.st f c) w e w':=by
 obtain⟨r,_,_,_,_,_,_⟩:=h.1.part;have H:=x1_ h;clear h
 by_cases s0:p.st=0
 ·have j:Hid (Bt _ f c=_):=if_pos s0;rw[s0] at r;clear s0;go_enter Tryz.func209,Tryz.ntmps209;go_wp2_with fail
  refine(ae b _ _ _ _ _ _ _ p _ c w H).mono ?_;rintro e o a;have g:=x1_ a
  rcases a.first with⟨q,hq,rfl⟩|⟨hq,rfl,v',hR,hV,hTo⟩
  ·have i:=x1_ hq;clear a hq;go_wp2;go_ret;rw[j,i];have:=g.out;rw[i] at this;exact this
  have i:=x1_ hq;have k:=x3_ hR hV hTo;have l:d<=o.heap.size:=(by have:=hTo.size;omega);clear a hq hR hV hTo g;go_wp2_with fail
  refine(Rd b _ _ _ _ _ _ _ _ _ c _ k.1 l n).mono ?_;rintro e s a;have g:=x1_ (a.second k.2.1 k.2.2);obtain rfl:=a.ends;clear a;go_wp2;go_ret;rw[j,i];exact g
 by_cases s6:p.st=6
 ·have j:Hid (Bt p.st f c=Jb f c):=(by show Bt p.st f c=_;unfold Bt;grind);rw[s6] at r;clear s0 s6;go_enter Tryz.func209,Tryz.ntmps209;go_wp2_with fail
  refine(Rd b _ _ _ _ _ _ _ p _ c w H m n).mono ?_;rintro e s a;have g:=x1_ a;obtain rfl:=a.ends;clear a;go_wp2;go_ret;rw[j];exact g
 by_cases s7:p.st=7
 ·have j:Hid (Bt p.st f c=(if c=34 then some (8,f) else none).orElse (λ_=>Sv p.st f c)):=(by show Bt p.st f c=_;unfold Bt;grind);rw[s7] at r;clear s0 s6 s7;go_enter Tryz.func209,Tryz.ntmps209;go_wp2_with fail
  refine(qz b _ _ _ _ _ _ _ p _ c w H).mono ?_;rintro e o a;have g:=x1_ a
  rcases a.first with⟨q,hq,rfl⟩|⟨hq,rfl,v',hR,hV,hTo⟩
  ·have i:=x1_ hq;clear a hq;go_wp2;go_ret;rw[j,i];have:=g.out;rw[i] at this;exact this
  have i:=x1_ hq;have k:=x3_ hR hV hTo;have l:d<=o.heap.size:=(by have:=hTo.size;omega);clear a hq hR hV hTo g;go_wp2_with fail
  refine(Zab b _ _ _ _ _ _ _ _ _ c _ k.1 l n).mono ?_;rintro e s a;have g:Hid (Fc b _ _ _ _ _ _ _ p _ (Sv p.st _ c) w e _):=a.second k.2.1 k.2.2;obtain rfl:=a.ends;clear a;go_wp2;go_ret;rw[j,i];exact g
 have j:Hid (Bt p.st f c=Kd f c):=(by show Bt p.st f c=_;unfold Bt;grind);have e0:=beq_eq_false_iff_ne.2 s0;have B:=beq_eq_false_iff_ne.2 s6;have A:=beq_eq_false_iff_ne.2 s7;go_enter Tryz.func209,Tryz.ntmps209;go_wp2_with fail
 refine(ln b _ _ _ _ _ _ _ p _ c w H m n).mono ?_;rintro e s a;have g:=x1_ a;obtain rfl:=a.ends;clear a;go_wp2;go_ret;rw[j];exact g
def ZbS b q r v m o t s p c u w (h:RB w b r v m o t s p)(y:w.cell? (A_ q 0)=some (I_ u))(j:0<=u)(l:u<=1000000)(k:0<=p.unit)(g:p.unit<=1000000)(i:0<=p.num)(f:p.num<=1000000000000)(a:0<=p.dig)(d:p.dig<=1000):C_ 214 #[.pointer (some ⟨b,6,none⟩),.int .u8 c,.pointer (some ⟨q,0,none⟩)] w λe w'=>Fz b r v m o t s p (Bz u p c) w e w':=by
 have H:=x1_ h;go_enter Tryz.func214,Tryz.ntmps214;go_wp2_with fail
 refine(lh b _ _ _ _ _ _ p c u w H j l k g i f a d).mono ?_;rintro e z n;have x:=x1_ n;obtain rfl:=n.ends;go_wp2;go_ret;exact x
def Vo(c:Int)(n:Nat):Nat:=((if c<0 then -(c+1) else c)%n).toNat
def Nj c {n}(h:0<n):Vo c n<n:=by unfold Vo;have:=Int.emod_lt_of_pos (if c<0 then -(c+1) else c) (show(0:Int)<n by omega);omega
def Xp(zs:List Int)(i:Nat):Int:=if zs.length=0 then 0 else zs.getD (i%zs.length) 0
def Fb(w:World)(tb:Nat)(S:ByteArray)(k:Nat)(z:Int)(vR:Value):Prop:=w.heap[tb]? =some (.cells #[.string S,I_ k,I_ z,vR] 283 (0,0))
def Ds(S:ByteArray)(k:Nat):Int:=if h:k<S.size then(S[k]'h).toNat else -1
theorem Wm{S k} h:Ds S k=(S[k]'h).toNat:=dif_pos h
theorem Rh{S k}(h:¬k<S.size):Ds S k= -1:=dif_neg h
def Fb.below{w w' tb S k z vR}(h:Fb w tb S k z vR)(hb:Below w.heap.size w w'):Fb w' tb S k z vR:=(hb.block _ (Qb h).1).trans h
def Fb.cells{w tb S k z vR}(h:Fb w tb S k z vR):w.cell? (A_ tb 0)=some (.string S)/\w.cell? (A_ tb 1)=some (I_ k)/\w.cell? (A_ tb 2)=some (I_ z)/\w.cell? (A_ tb 3)=some vR:=
 ⟨cq_ 0 _ 283 (0,0) h,cq_ 1 _ 283 (0,0) h,cq_ 2 _ 283 (0,0) h,cq_ 3 _ 283 (0,0) h⟩
def Bw(S:ByteArray)(k:Nat)(z b:Int):Bool:=decide (z=0/\Ds S k=b)
def Ib(S:ByteArray)(k:Nat)(z:Int):Bool:=decide (z=0/\48<=Ds S k/\Ds S k<=57)
def Vg(S:ByteArray)(k:Nat)(z:Int):Bool:=decide (z=0/\97<=Ds S k/\Ds S k<=122)
def Ez c k S z b f w (h:Fb w c S k z f)(i:0<=b):C_ 324 #[.pointer (some ⟨c,0,none⟩),.int .u8 b] w λe w'=>e=.returned (.bool (Bw S k z b))/\∃n,w'=w.drewN n:=by
 obtain⟨o,j,l,_⟩:=h.cells
 by_cases hz:z=0
 ·subst hz
  by_cases hin:k<S.size
  ·have p:0<=(k:Int):=o_;have d:decide ((k:_)<(S.size:Int))=_:=decide_eq_true o_;have m:k<(S.size:Int):=o_;have a:Hid (Bw S k 0 b=decide ((S[k]'hin).toNat=b)):=(by show _=_;unfold Bw;rw[Wm hin];simp);go_enter Tryz.func324,Tryz.ntmps324;go_wp2_with fail
   go_quiet (fail);go_wp2;go_ret;exact⟨by rw[a];rfl,_,rfl⟩
  have d:decide ((k:_)<(S.size:Int))=_:=decide_eq_false o_;have a:Hid (Bw S k 0 b=false):=(by show _=_;unfold Bw;rw[Rh hin];simp;omega);go_enter Tryz.func324,Tryz.ntmps324;go_wp2_with fail
  go_quiet (fail);go_wp2;go_ret;exact⟨by rw[a];rfl,_,rfl⟩
 have a:Hid (Bw S k z b=false):=(by show _=_;unfold Bw;simp[hz]);have g:=beq_eq_false_iff_ne.2 hz;go_enter Tryz.func324,Tryz.ntmps324;go_wp2_with fail
 go_quiet (fail);go_wp2;go_ret;exact⟨by rw[a];rfl,_,rfl⟩
def Od c k S z g w (h:Fb w c S k z g):C_ 326 #[.pointer (some ⟨c,0,none⟩)] w λe w'=>e=.returned (.bool (Ib S k z))/\∃n,w'=w.drewN n:=by
 obtain⟨j,i,m,_⟩:=h.cells
 by_cases hz:z=0
 ·subst hz
  by_cases hin:k<S.size
  ·have o:0<=(k:Int):=o_;have d:decide ((k:_)<(S.size:Int))=_:=decide_eq_true o_;have l:k<(S.size:Int):=o_;have a:Hid (Ib S k 0=(decide (48<=((S[k]'hin).toNat:Int))&&decide (((S[k]'hin).toNat:Int)<=57))):=by show _=_;unfold Ib;rw[Wm hin];simp
   by_cases hlo:48<=((S[k]'hin).toNat:Int)
   ·have b:=decide_eq_true hlo;go_enter Tryz.func326,Tryz.ntmps326;go_wp2_with fail
    go_quiet (fail);go_wp2;go_ret;exact⟨by rw[a,b];rfl,_,rfl⟩
   have b:=decide_eq_false hlo;go_enter Tryz.func326,Tryz.ntmps326;go_wp2_with fail
   go_quiet (fail);go_wp2;go_ret;exact⟨by rw[a,b];rfl,_,rfl⟩
  have d:decide ((k:_)<(S.size:Int))=_:=decide_eq_false o_;have a:Hid (Ib S k 0=false):=(by show _=_;unfold Ib;rw[Rh hin];rfl);go_enter Tryz.func326,Tryz.ntmps326;go_wp2_with fail
  go_quiet (fail);go_wp2;go_ret;exact⟨by rw[a];rfl,_,rfl⟩
 have a:Hid (Ib S k z=false):=(by show _=_;unfold Ib;simp[hz]);have f:=beq_eq_false_iff_ne.2 hz;go_enter Tryz.func326,Tryz.ntmps326;go_wp2_with fail
 go_quiet (fail);go_wp2;go_ret;exact⟨by rw[a];rfl,_,rfl⟩
def Zc c k S z g w (h:Fb w c S k z g):C_ 345 #[.pointer (some ⟨c,0,none⟩)] w λe w'=>e=.returned (.bool (Vg S k z))/\∃n,w'=w.drewN n:=by
 obtain⟨j,i,m,_⟩:=h.cells
 by_cases hz:z=0
 ·subst hz
  by_cases hin:k<S.size
  ·have o:0<=(k:Int):=o_;have d:decide ((k:_)<(S.size:Int))=_:=decide_eq_true o_;have l:k<(S.size:Int):=o_;have a:Hid (Vg S k 0=(decide (97<=((S[k]'hin).toNat:Int))&&decide (((S[k]'hin).toNat:Int)<=122))):=by show _=_;unfold Vg;rw[Wm hin];simp
   by_cases hlo:97<=((S[k]'hin).toNat:Int)
   ·have b:=decide_eq_true hlo;go_enter Tryz.func345,Tryz.ntmps345;go_wp2_with fail
    go_quiet (fail);go_wp2;go_ret;exact⟨by rw[a,b];rfl,_,rfl⟩
   have b:=decide_eq_false hlo;go_enter Tryz.func345,Tryz.ntmps345;go_wp2_with fail
   go_quiet (fail);go_wp2;go_ret;exact⟨by rw[a,b];rfl,_,rfl⟩
  have d:decide ((k:_)<(S.size:Int))=_:=decide_eq_false o_;have a:Hid (Vg S k 0=false):=(by show _=_;unfold Vg;rw[Rh hin];rfl);go_enter Tryz.func345,Tryz.ntmps345;go_wp2_with fail
  go_quiet (fail);go_wp2;go_ret;exact⟨by rw[a];rfl,_,rfl⟩
 have a:Hid (Vg S k z=false):=(by show _=_;unfold Vg;simp[hz]);have f:=beq_eq_false_iff_ne.2 hz;go_enter Tryz.func345,Tryz.ntmps345;go_wp2_with fail
 go_quiet (fail);go_wp2;go_ret;exact⟨by rw[a];rfl,_,rfl⟩
def wrg(z:Int):Int:=if z=0 then 2 else z
def Fb.put{w tb S k z vR}(h:Fb w tb S k z vR) y:Fb (w.setCell (A_ tb 2) (I_ y)) tb S k y vR/\Aa (λq=>q=tb) w (w.setCell (A_ tb 2) (I_ y)):=
 ⟨hs_ _ tb 2 _ 283 _ h,(Aa.refl (λq=>q=tb) _).setCell (p:=(A_ tb 2)) (λ_=>rfl) _⟩
def Fb.go{w tb S k z vR}(h:Fb w tb S k z vR) y:Fb (w.setCell (A_ tb 1) (I_ (y:Nat))) tb S y z vR/\Aa (λq=>q=tb) w (w.setCell (A_ tb 1) (I_ y)):=
 ⟨hs_ _ tb 1 _ 283 _ h,(Aa.refl (λq=>q=tb) _).setCell (p:=(A_ tb 1)) (λ_=>rfl) _⟩
def Lk a k S z d w (h:Fb w a S k z d):C_ 325 #[.pointer (some ⟨a,0,none⟩)] w λe w'=>e=.returned (.tuple #[])/\Fb w' a S k (wrg z) d/\Aa (λq=>q=a) w w':=by
 obtain⟨i,m,l,_⟩:=h.cells;have j:=fq_ 2 _ _ h
 by_cases hz:z=0
 ·subst hz;have b:=h.put 2;have c:=x1_ b;go_enter Tryz.func325,Tryz.ntmps325;go_wp2;go_end0;exact⟨rfl,c⟩
 have f:=beq_eq_false_iff_ne.2 hz;have b:Hid (wrg z=z):=if_neg hz;have g:=x1_ h;go_enter Tryz.func325,Tryz.ntmps325;go_wp2;go_end0;exact⟨rfl,by rw[b];exact g,Aa.refl _ _⟩
def Fb.drew{w b S k z a}(h:Fb w b S k z a) n:Fb (w.drewN n) b S k z a:=by unfold Fb;rw[World.heap_drewN];exact h
def Mq(S:ByteArray)(k:Nat)(z b:Int):Nat:=if Bw S k z b=true then k+1 else k
def Ng(S:ByteArray)(k:Nat)(z b:Int):Int:=if Bw S k z b=true then z else wrg z
def Gf{S k z b}(a:0<=b)(h:Bw S k z b=true):k<S.size:=by grind [Bw,Rh]
def xu{S k z}(h:Ib S k z=true):∃hk:k<S.size,z=0/\48<=((S[k]'hk).toNat:Int)/\((S[k]'hk).toNat:Int)<=57/\Ds S k=(S[k]'hk).toNat:=by grind [Ib,Wm,Rh]
def Aa.drewN{K w w'}(t:Aa K w w') n:Aa K w (w'.drewN n):=⟨t.os,t.tape,t.output,t.size,t.block⟩
def Xy c k S z b f w (h:Fb w c S k z f)(j:0<=b)(v:S.size<=1000000000000000):C_ 286 #[.pointer (some ⟨c,0,none⟩),.int .u8 b] w λe w'=>e=.returned (.tuple #[])/\Fb w' c S (Mq S k z b) (Ng S k z b) f/\Aa (λq=>q=c) w w':=by
 have g:=Ez _ k S z b _ w h j;go_enter Tryz.func286,Tryz.ntmps286;go_wp2_with fail
 refine g.mono ?_;rintro e i ⟨rfl,n,o⟩;have a:Hid (Fb i c S k z f/\Aa (λq=>q=c) w i):=(by rw[o];exact⟨h.drew n,(Aa.refl _ _).drewN n⟩);clear h g o
 cases hs:Bw S k z b with
 | true=>
  have d:Hid (Mq S k z b=_/\Ng S k z b=z):=⟨if_pos hs,if_pos hs⟩;have p:=Gf j hs;obtain⟨u,B,x,_⟩:=a.1.cells;have A:=fq_ 1 _ _ a.1;clear hs;go_wp2;go_end0;rw[d.1,d.2,show(k:Int)+1=((k+1:Nat):Int) by omega];obtain⟨s,t⟩:=a.1.go (k+1);exact⟨rfl,s,a.2.trans t⟩
 | false=>
  have d:Hid (Mq S k z b=k/\Ng S k z b=_):=⟨if_neg (by rw[hs];decide),if_neg (by rw[hs];decide)⟩;clear hs;go_wp2_with fail
  refine(Lk _ k S z _ _ a.1).mono ?_;rintro e y ⟨rfl,m,l⟩;have r:=x2_ m (a.2.trans l);clear m l a;go_wp2;refine bodyPost_ret (results_none rfl _ _ _) rfl ?_;rw[d.1,d.2];exact⟨rfl,r⟩
def Nn(S:ByteArray)(z:Int)(zero:Bool):Nat->Nat->Int->Nat->Int×Nat×Nat
 |0,j,n,k=>(n,j,k)
 |f+1,j,n,k=>if Ib S k z=true/\¬(zero=true/\j=1) then Nn S z zero f (j+1) (10*n+(Ds S k-48)) (k+1) else(n,j,k)
def Mc(S:ByteArray)(k:Nat)(z:Int)(most:Nat)(nought:Bool):Int×Nat×Nat×Int:=
 if Bw S k z 48=true/\nought=false then(0,0,k,wrg z)
 else let r:=Nn S z (Bw S k z 48) most 0 0 k;(r.1,r.2.1,r.2.2,if r.2.1=0 then wrg z else z)
def Zd (l k a:Nat) S z b A w (h:Fb w l S k z A) (hm:a<=5) (hk:S.size<=1000000000000000):C_ 285 #[.pointer (some ⟨l,0,none⟩),.int .i64 a,.bool b] w λe w'=>e=.returned (.tuple #[.int .i64 (Mc S k z a b).1,.int .i64 (Mc S k z a b).2.1])/\Fb w' l S (Mc S k z a b).2.2.1 (Mc S k z a b).2.2.2 A/\Aa (λq=>q=l) w w':=by
  have P:=Ez _ k S z 48 _ w h d_;obtain⟨R,r⟩:=ez_ (Mc S k z a b);rw[r];go_enter Tryz.func285,Tryz.ntmps285;go_wp2_with fail
  refine P.mono ?_;rintro e Q ⟨rfl,n,W⟩;have C:Hid (Fb Q l S k z A/\Aa (λq=>q=l) w Q):=(by rw[W];exact⟨h.drew n,(Aa.refl _ _).drewN n⟩);clear h P W;generalize hs:Bw S k z 48=zero
  by_cases hc:zero=true/\b=false
  · obtain⟨rfl,rfl⟩:=hc;have D:Hid (R=(0,0,k,wrg z)):=(by show _=_;rw[<- r];exact if_pos ⟨hs,rfl⟩);clear hs;go_wp2_with fail
    refine(Lk _ k S z _ _ C.1).mono ?_;rintro e M ⟨rfl,F,E⟩;have J:=x2_ F (C.2.trans E);clear F E C;go_wp2;go_ret2
    rw[D];exact⟨rfl,J⟩
  have D:Hid (R=((Nn S z zero a 0 0 k).1,(Nn S z zero a 0 0 k).2.1,(Nn S z zero a 0 0 k).2.2,if(Nn S z zero a 0 0 k).2.1=0 then wrg z else z)):=(by show _=_;rw[<- r,<- hs];exact if_neg (by rw[hs];exact hc));have I:(zero&&!b)=false:=w_;clear hs hc r;obtain⟨v,t⟩:=ey_ zero;rw[t] at D;have X:=x1_ t;clear t
  cases zero<;>cases b<;>first|grind|skip
  all_goals
    clear I;go_wp2_with fail
    go_loopw [10,9] (λtj tn wr=>∃(j c:Nat) (n:Int),tj=.int .i64 j/\tn=.int .i64 n/\j<=a/\0<=n/\n<10^j/\c<=k+j/\Hid (Nn S z v a 0 0 k=Nn S z v (a-j) j n c)/\Hid (Fb wr l S c z A/\Aa (λq=>q=l) w wr)) (λtj _ _=>a-(intOf tj).toNat)
    case atStart=>exact⟨0,k,0,rfl,rfl,qg_,o_,d_,o_,rfl,C⟩
    case round=>
      clear C;obtain⟨j,c,n,rfl,rfl,hj,a6,a0,a2,H,i⟩:=hrel
      by_cases hC:j<a/\Ib S c z=true/\¬(v=true/\j=1)
      · obtain⟨o,u,g⟩:=hC;obtain⟨Z,a5,a3,a4,G⟩:=xu u;have T:Hid (Nn S z v a 0 0 k=Nn S z v (a-(j+1)) (j+1) (10*n+(Ds S c-48)) (c+1)):=(by show _=_;rw[H,show a-j=(a-(j+1))+1 by omega,Nn,if_pos ⟨u,g⟩]);have y:=Od _ _ S z _ _ i.1;rw[u] at y;have U:j<(a:Int):=o_;have b1:0<=(c:Int):=o_;have b2:c<(S.size:Int):=o_;have L:(10:Int)^(j+1)=_:=Int.pow_succ _ _
        have a1:(10:Int)^j<=100000:=by
          have:j=0∨j=1∨j=2∨j=3∨j=4∨j=5:=o_
          grind
        rw[G] at T;have B:Hid (_->((j:Int)==1)=_):=λe=>beq_eq_false_iff_ne.2 (λh=>g ⟨e,o_⟩)
        clear H u g G
        go_wp2_with fail
        refine y.mono ?_;rintro e M ⟨rfl,d,m⟩;have f:Hid (Fb M l S c z A/\Aa (λq=>q=l) w M):=(by rw[m];exact⟨i.1.drew d,i.2.drewN d⟩);clear i y m;try have N:=B.out X.symm
        clear B;obtain⟨c0,c1,c2,_⟩:=f.1.cells;have f1:=fq_ 1 _ _ f.1;generalize hx:((S[c]'Z).toNat:Int)=x at *;have u1:IntKind.u8.wrap (x-48)=x-48:=(by simp[IntKind.wrap,IntKind.bits,IntKind.signed];omega);have u2:_=x-48:=Cb o_ o_;have u3:_=10*n:=Cb o_ o_;have u4:_=10*n+(x-48):=Cb o_ o_;go_upto_region 10 with fail;go_quiet (fail);go_wp2;go_roundw
        case rel=>
          obtain⟨y1,y2⟩:=(f.1.drew nq).go (c+1);exact⟨j+1,c+1,10*n+(x-48),g_,rfl,o_,o_,by rw[L];omega,o_,T,y1,(f.2.drewN _).trans y2⟩
        case measure=>exact z_
      have V:Hid (Nn S z v a 0 0 k=(n,j,c)):=by
        show _=_;rw[H]
        by_cases o:j<a
        rw[show a-j=(a-(j+1))+1 by omega,Nn,if_neg (λh=>hC ⟨o,h⟩)];rw[show a-j=0 by omega,Nn]
      have Y:Hid (R=(n,j,c,if j=0 then wrg z else z)):=(by show _=_;rw[D,V]);clear H V D
      by_cases o:j<a
      have U:j<(a:Int):=o_;have y:=Od _ _ S z _ _ i.1;go_wp2_with fail
      refine y.mono ?_;rintro e wr ⟨rfl,d,m⟩;have f:Hid (Fb wr l S c z A/\Aa (λq=>q=l) w wr):=(by rw[m];exact⟨i.1.drew d,i.2.drewN d⟩);clear i y m;have i:=f;clear f
      cases u:Ib S c z
      rotate_left
      have g:=Decidable.byContradiction λh=>hC ⟨o,u,h⟩;have N:((j:Int)==1)=_:=beq_iff_eq.2 o_;have O:=x1_ g.1;clear g
      rotate_left
      have U:¬j<(a:Int):=o_
      all_goals
        first|exact absurd (X.trans O) d_|skip
        go_wp2_with fail
        all_goals first
          | have e:=beq_iff_eq.1 ‹((j:Int)==0)=true›
            have s:Hid (R=(n,j,c,wrg z)):=w_;clear e;refine(Lk _ _ S z _ _ i.1).mono ?_;rintro e w3 ⟨rfl,F,E⟩;have J:=x2_ F (i.2.trans E);clear F E i;go_wp2;go_ret2
            rw[s];exact⟨rfl,J⟩
          | have e:=beq_eq_false_iff_ne.1 ‹((j:Int)==0)=false›
            have s:Hid (R=(n,j,c,z)):=w_;go_ret2
            rw[s];exact⟨rfl,i⟩
def Ux(S:ByteArray)(z:Int):Nat->Int->Nat->Int×Nat×Nat
 |0,n,k=>(n,0,k)
 |f+1,n,k=>if Ib S k z=true then Ux S z f (10*n+(Ds S k-48)) (k+1) else(n,f+1,k)
def ptF(S:ByteArray)(k:Nat)(z:Int)(scale:Nat)(n:Int):Int×Nat×Nat×Int:=
 if Bw S k z 46=true/\0<scale then
  let z3:=if Ib S (k+1) z=true then z else wrg z
  let r:=Ux S z3 scale n (k+1)
  (r.1,r.2.1,r.2.2,z3)
 else(n,scale,k,z)
def br(S:ByteArray)(k:Nat)(z:Int)(scale:Nat):Int×Nat×Int:=
 let mi:=Bw S k z 45
 let a:=Mc S (if mi=true then k+1 else k) z 5 true
 let r:=ptF S a.2.2.1 a.2.2.2 scale a.1
 (if mi=true then -(r.1*10^r.2.1) else r.1*10^r.2.1,r.2.2.1,r.2.2.2)
def Zhu{S k z}(h:Ib S k z=true):48<=Ds S k/\Ds S k<=57:=(of_decide_eq_true h).2
def ZeO S z a:∀f j n k,0<=n->n<10^j->0<=(Nn S z a f j n k).1/\(Nn S z a f j n k).1<10^(f+j)
 |0,j,n,k,h0,h1=>by simpa [Nn] using ⟨h0,h1⟩
 | f +1,j,n,k,h0,h1=>by
  have hp:(10:Int)^(j+1)=_:=Int.pow_succ _ _;unfold Nn;split
  ·rename_i hc;have:=Zhu hc.1;have:=ZeO S z a f (j+1) (10*n+(Ds S k-48)) (k+1) o_ o_
   grind
  refine⟨h0,?_⟩
  have hq:(10:Int)^j<=10^(f+1+j):=by
   have:=Nat.pow_le_pow_right (show 0<10 by omega) (show j<=f+1+j by omega)
   grind
  omega
def Zkj S k z:0<=(Mc S k z 5 true).1/\(Mc S k z 5 true).1<100000:=by unfold Mc;rw[if_neg s_];exact ZeO S z _ 5 0 0 k o_ d_
def Zaa(c k a:Nat) S z u w (h:Fb w c S k z u)(hs:a<=3)(hk:S.size<=1000000000000000):C_ 328 #[.pointer (some ⟨c,0,none⟩),.int .i64 a] w λe w'=>e=.returned (.int .i64 (br S k z a).1)/\Fb w' c S (br S k z a).2.1 (br S k z a).2.2 u/\Aa (λq=>q=c) w w':=by
 have HS:=Ez _ k S z 45 _ w h d_;obtain⟨R,Q⟩:=ez_ (br S k z a);rw[Q];go_enter Tryz.func328,Tryz.ntmps328;go_wp2_with fail
 refine HS.mono ?_;rintro e w1 ⟨rfl,n,r⟩;have X:Hid (Fb w1 c S k z u/\Aa (λq=>q=c) w w1):=(by rw[r];exact⟨h.drew n,(Aa.refl _ _).drewN n⟩);clear h HS r n;obtain⟨mi,HM⟩:=ez_ (Bw S k z 45);rw[HM];obtain⟨k1,F⟩:∃k1,Hid (k1=if mi=true then k+1 else k):=⟨_,rfl⟩;go_upto_if 14 with fail
 go_cut [] (λwx=>Hid (Fb wx c S k1 z u/\Aa (λq=>q=c) w wx))
 case first=>
  cases mi with
  | true=>
   have a3:=Gf d_ HM;obtain⟨c0,c1,c2,_⟩:=X.1.cells;have f1:=fq_ 1 _ _ X.1;have U:Hid (_=k+1):=F.out;go_wp2;go_meet
   obtain⟨y1,y2⟩:=X.1.go (k+1);rw[U];exact⟨y1,X.2.trans y2⟩
  | false=>
   have U:Hid (_=k):=F.out;go_wp2;go_meet
   rw[U];exact X
 case rest =>
  clear X;have H:=Zd _ _ 5 S z true _ _ hcut.out.1 o_ hk;have y:=Zkj S k1 z;obtain⟨A,HA⟩:=ez_ (Mc S k1 z 5 true);rw[HA] at H y;obtain⟨n,j,f,s⟩:=A;simp only at H y;go_wp2_with fail
  refine H.mono ?_;rintro e w3 ⟨rfl,h3,t3⟩;have G:=x2_ h3 (hcut.out.2.trans t3);clear h3 t3 hcut H;have HS:=Ez _ _ S _ 46 _ _ G.1 d_;go_wp2_with fail
  refine HS.mono ?_;rintro e Y ⟨rfl,d,r⟩;have i:Hid (Fb Y c S f s u/\Aa (λq=>q=c) w Y):=(by rw[r];exact⟨G.1.drew d,G.2.drewN d⟩);clear G HS r d;obtain⟨B,HB⟩:=ez_ (ptF S f s a n);obtain⟨pp,Z⟩:=ez_ (Bw S f s 46);rw[Z];go_upto_region 7 with fail;go_cut [34] (λv wx=>v=.bool (pp&&decide (0<a))/\wx=Y)
  case first=>
   cases pp with
   |false=>go_wp2;go_meet;grind
   |true=>go_wp2;go_meet;grind
  case rest =>
   obtain⟨rfl,r⟩:=hcut;obtain rfl:=r.symm;clear r;obtain⟨pq,HQ⟩:=ez_ ((pp&&decide (0<a)));rw[HQ];go_upto_if 34 with fail
   go_cut [8,6] (λv8 v6 wx=>v8=.int .i64 (B.2.1:Nat)/\v6=.int .i64 B.1/\Hid (B.2.1<=a/\0<=B.1/\B.1<10^(8-B.2.1)/\Fb wx c S B.2.2.1 B.2.2.2 u/\Aa (λq=>q=c) w wx))
   case first=>
    cases pq with
    | false=>
     have E:Hid (B=(n,a,f,s)):=by
      show _=_;have hq:=HQ.out;rw[<- HB];refine if_neg λhc=>?_;rw[<- Z,hc.1,decide_eq_true hc.2] at hq
      cases hq
     go_wp2;go_meet
     rw[E];refine⟨rfl,rfl,qa_,y.1,?_,i⟩;have:(a:Nat)=0∨a=1∨a=2∨a=3:=o_
     grind
    | true=>
     have hq:=HQ.out;rw[Bool.and_eq_true,decide_eq_true_eq] at hq;obtain⟨rfl,a5⟩:=hq;have a3:=Gf d_ Z;obtain⟨g,I⟩:∃g,Hid (g=if Ib S (f+1) s=true then s else wrg s):=⟨_,rfl⟩;have E:Hid (B=((Ux S g a n (f+1)).1,(Ux S g a n (f+1)).2.1,(Ux S g a n (f+1)).2.2,g)):=(by show _=_;rw[<- HB,I];exact if_pos ⟨Z,a5⟩);clear HB Z HQ;obtain⟨c0,c1,c2,_⟩:=i.1.cells;have f1:=fq_ 1 _ _ i.1;have M:Hid (Fb (Y.setCell (A_ c 1) (I_ (f+1))) c S (f+1) s u/\Aa (λq=>q=c) w (Y.setCell (A_ c 1) (I_ (f+1)))):=by obtain⟨y1,y2⟩:=i.1.go (f+1);exact⟨y1,i.2.trans y2⟩
     clear i;go_upto_region 9 with fail;generalize Y.setCell (A_ c 1) (I_ ((f:Int)+1))=w5 at *;clear c0 c1 c2 f1;have HD:=Od _ _ S _ _ _ M.1;go_wp2_with fail
     refine HD.mono ?_;rintro e w6 ⟨rfl,d,r⟩;have C:Hid (Fb w6 c S (f+1) s u/\Aa (λq=>q=c) w w6):=(by rw[r];exact⟨M.1.drew d,M.2.drewN d⟩);clear M HD r d;obtain⟨dd,L⟩:=ez_ (Ib S (f+1) s);rw[L];go_upto_if 45 with fail
     go_cut [8,6] (λv8 v6 wx=>v8=.int .i64 (a:Nat)/\v6=.int .i64 n/\Hid (Fb wx c S (f+1) g u/\Aa (λq=>q=c) w wx))
     case first=>
      cases dd with
      | true=>
       have P:Hid (g=s):=(by show _=_;rw[I];exact if_pos L);go_wp2;go_meet
       rw[P];exact⟨rfl,rfl,C⟩
      | false=>
       have P:Hid (g=wrg s):=(by show _=_;rw[I];exact if_neg (by rw[L];decide));go_wp2_with fail
       refine(Lk c (f+1) S s u w6 C.1).mono ?_;rintro e w7 ⟨rfl,h7,t7⟩;have HY:=x2_ h7 (C.2.trans t7);clear h7 t7 C;go_wp2;go_meet
       rw[P];exact⟨rfl,rfl,HY⟩
     case rest =>
      obtain⟨rfl,rfl,a1⟩:=hcut;clear C I L;go_wp2_with fail
      go_loopw [8,6] (λt8 t6 wr=>∃(l o:Nat) (m:Int),t8=.int .i64 l/\t6=.int .i64 m/\l<=a/\0<=m/\m<10^(8-l)/\Hid (Ux S g a n (f+1)=Ux S g l m o)/\Hid (Fb wr c S o g u/\Aa (λq=>q=c) w wr)) (λt8 _ _=>(intOf t8).toNat)
      case atStart=>
       refine⟨a,f+1,n,rfl,rfl,qa_,y.1,?_,rfl,a1⟩;have:(a:Nat)=1∨a=2∨a=3:=o_
       rcases this with rfl|rfl|rfl<;>omega
      case round=>
       clear a1;obtain⟨l,o,m,rfl,rfl,hl,a2,V,O,HR⟩:=hrel
       by_cases hl0:0<l
       ·obtain⟨l,rfl⟩:∃l',l=l'+1:=⟨l-1,o_⟩;have g1:0<((l+1:Nat):Int):=o_;have HD:=Od _ _ S _ _ _ HR.1;go_wp2_with fail
        refine HD.mono ?_;rintro e w8 ⟨rfl,d,r⟩;have J:Hid (Fb w8 c S o g u/\Aa (λq=>q=c) w w8):=(by rw[r];exact⟨HR.1.drew d,HR.2.drewN d⟩);clear HR HD r d
        cases hd:Ib S o g with
        | true=>
         obtain⟨aA,_,aD,aC,a0⟩:=xu hd;have H:Hid (Ux S g a n (f+1)=Ux S g l (10*m+(Ds S o-48)) (o+1)):=(by show _=_;rw[O,Ux,if_pos hd]);rw[a0] at H;have b1:0<=(o:Int):=o_;have b2:o<(S.size:Int):=o_;have W:(10:Int)^(8-l)=10^(8-(l+1))*10:=by rw[show 8-l=(8-(l+1))+1 by omega];omega
         have a6:(10:Int)^(8-(l+1))<=10000000:=by
          have:l=0∨l=1∨l=2:=o_
          rcases this with rfl|rfl|rfl<;>decide
         obtain⟨c0,c1,c2,_⟩:=J.1.cells;have f1:=fq_ 1 _ _ J.1;generalize hx:((S[o]'aA).toNat:Int)=x at *;have u1:IntKind.u8.wrap (x-48)=x-48:=(by simp[IntKind.wrap,IntKind.bits,IntKind.signed];omega);have u2:_=x-48:=Cb o_ o_;have u3:_=10*m:=Cb o_ o_;have u4:_=10*m+(x-48):=Cb o_ o_
         clear O hd a0
         go_upto_region 15 with fail;go_quiet (fail);go_wp2;go_roundw
         case rel=>
          obtain⟨y1,y2⟩:=(J.1.drew nq).go (o+1);exact⟨l,o+1,10*m+(x-48),g_,rfl,o_,o_,by rw[W];omega,H,y1,(J.2.drewN _).trans y2⟩
         case measure=>exact z_
        | false=>
         have t:Hid (B=(m,l+1,o,g)):=(by show _=_;rw[E,O,Ux,if_neg (by rw[hd];decide)]);go_wp2;go_meet
         rw[t]
         grind
       have T:l=0:=o_;subst T;have t:Hid (B=(m,0,o,g)):=(by show _=_;rw[E,O,Ux]);go_wp2;go_meet
       rw[t]
       grind
   case rest=>
    obtain⟨rfl,rfl,N⟩:=hcut;clear i HQ Z y;obtain⟨a7,a9,a4,_⟩:=N.out;have D:Hid (R=(if mi=true then -(B.1*10^B.2.1) else B.1*10^B.2.1,B.2.2.1,B.2.2.2)):=(by show _=_;rw[<- Q];unfold br;simp only;rw[HM,<- F,HA];simp only;rw[HB]);clear Q HA HB HM F;obtain⟨b,bl,k4,z4⟩:=B;simp only at a7 a9 a4 N D;go_wp2_with fail
    go_loopw [8,6] (λt8 t6 wr=>∃(l:Nat) (m:Int),t8=.int .i64 l/\t6=.int .i64 m/\l<=bl/\0<=m/\m<10^(8-l)/\Hid (b*10^bl=m*10^l)/\wr=wc) (λt8 _ _=>(intOf t8).toNat)
    case atStart=>grind
    case round=>
     obtain⟨l,m,rfl,rfl,hl,a2,V,O,a8⟩:=hrel;subst a8
     by_cases hl0:0<l
     ·obtain⟨l,rfl⟩:∃l',l=l'+1:=⟨l-1,o_⟩;have g1:0<((l+1:Nat):Int):=o_;have W:(10:Int)^(8-l)=10^(8-(l+1))*10:=by rw[show 8-l=(8-(l+1))+1 by omega];omega
      have a6:(10:Int)^(8-(l+1))<=10000000:=by
       have:l=0∨l=1∨l=2:=o_
       grind
      have H:Hid (b*10^bl=10*m*10^l):=w_;clear O;refine rd_ ?_;exact⟨l,10*m,g_,rfl,o_,o_,by rw[W];omega,H,trivial⟩
     have T:l=0:=o_;subst T;have aB:m<100000000:=V;have t:Hid (b*10^bl=m):=w_;clear O V
     cases mi with
     | true=>
      go_wp2;go_ret;rw[D,t];exact⟨rfl,N.2.2.2⟩
     | false=>
      go_wp2;go_ret;rw[D,t];exact⟨rfl,N.2.2.2⟩
def kj(S:ByteArray)(k:Nat):Bool:=Vg S k 0||Bw S k 0 32||Bw S k 0 44||Bw S k 0 10
def Zu(S:ByteArray):Nat->List Int->Nat->List Int×Nat×Int
 |0,bs,k=>(bs,k,2)
 | f +1,bs,k=>
  if Bw S k 0 34=true then
   if Bw S (k+1) 0 34=true/\bs.length≠8 then Zu S f (bs++[34]) (k+2) else(bs,k+1,0)
  else if kj S k=true/\bs.length≠8 then Zu S f (bs++[Ds S k]) (k+1) else(bs,k,2)
def kz a x b (c:b=strOfNums [x]):strOfNums a++b=strOfNums (a++[x]):=by rw[c];apply ByteArray.ext;simp[strOfNums]
def Br a:(strOfNums a).size=a.length:=by simp[strOfNums,ByteArray.size]
def Zeq{S k}(h:k<S.size):S.extract k (k+1)=strOfNums [Ds S k]:=by rw[Wm h];apply ByteArray.ext;rw[ByteArray.data_extract];apply Array.ext;show(S.data.extract k (k+1)).size=1;rw[Array.size_extract];have:S.data.size=S.size:=rfl;omega;intro i b a;have:i=0:=(by simp[strOfNums] at a;omega);subst this;simp[strOfNums];rfl
def cz{S k}(h:kj S k=true):k<S.size:=by grind [kj,Vg,Bw,Rh]
def Zb0 m k S u w (h:Fb w m S k 0 u)(B:Bw S k 0 34=true)(hk:S.size<=1000000000000000):C_ 344 #[.pointer (some ⟨m,0,none⟩)] w λe w'=>e=.returned (.string (strOfNums (Zu S 9 [] (k+1)).1))/\Fb w' m S (Zu S 9 [] (k+1)).2.1 (Zu S 9 [] (k+1)).2.2 u/\Aa (λq=>q=m) w w':=by
 have n:=Xy _ k S 0 34 _ w h d_ hk;have e1:Mq S k 0 _=_:=if_pos B;have e2:Ng S k 0 _=0:=if_pos B;rw[e1,e2] at n;obtain⟨R,C⟩:=ez_ (Zu S 9 [] (k+1));rw[C];clear h e1 e2 B;go_enter Tryz.func344,Tryz.ntmps344;go_wp2_with fail
 refine n.mono ?_;rintro e w1 ⟨rfl,J,t1⟩;have HX:=x2_ J t1;clear J t1 n;go_wp2_with fail
 go_loopw [3] (λt3 wr=>∃(l:List Int) (j:Nat),t3=.string (strOfNums l)/\l.length<=8/\Hid (R=Zu S (9-l.length) l j)/\Hid (Fb wr m S j 0 u/\Aa (λq=>q=m) w wr)) (λt3 _=>9-(match t3 with|.string s=>s.size|_=>0))
 case atStart=>exact⟨[],k+1,rfl,s_,C.symm,HX⟩
 case round=>
  clear HX C;obtain⟨l,j,rfl,a2,x,H⟩:=hrel;obtain⟨I,P,M,_⟩:=H.1.cells;have n:=Ez _ _ S 0 34 _ _ H.1 d_;obtain⟨f,hf⟩:∃f,9-l.length=f+1:=⟨8-l.length,o_⟩;rw[hf] at x;go_wp2_with fail
  refine n.mono ?_;rintro e O ⟨rfl,d,o⟩;have i:Hid (Fb O m S j 0 u/\Aa (λq=>q=m) w O):=(by rw[o];exact⟨H.1.drew d,H.2.drewN d⟩);clear H n o d I P M
  cases hq:Bw S j 0 34 with
  | true=>
   have G:=Gf d_ hq;obtain⟨I,P,M,_⟩:=i.1.cells;have f1:=fq_ 1 _ _ i.1;have z:Hid (Fb (O.setCell (A_ m 1) (I_ (j+1))) m S (j+1) 0 u/\Aa (λq=>q=m) w (O.setCell (A_ m 1) (I_ (j+1)))):=(by obtain⟨N,Q⟩:=i.1.go (j+1);exact⟨N,i.2.trans Q⟩);clear i;go_upto_region 7 with fail;generalize O.setCell (A_ m 1) (I_ ((j:Int)+1))=W at *;clear I P M f1;have n:=Ez _ _ S 0 34 _ _ z.1 d_;go_wp2_with fail
   refine n.mono ?_;rintro e T ⟨rfl,d,o⟩;have r:Hid (Fb T m S (j+1) 0 u/\Aa (λq=>q=m) w T):=(by rw[o];exact⟨z.1.drew d,z.2.drewN d⟩);clear z n o d;have D:=Br l
   by_cases hc:Bw S (j+1) 0 34=true/\l.length≠8
   ·have A:Hid (R=Zu S f (l++[34]) (j+2)):=(by show _=_;rw[x,Zu,if_pos hq,if_pos hc]);have a1:=Gf d_ hc.1;have L:(((strOfNums l).size:Int)==8)=_:=beq_eq_false_iff_ne.2 o_;rw[hc.1];obtain⟨I,P,M,_⟩:=r.1.cells;have f1:=fq_ 1 _ _ r.1;have t:Hid (_++(⟨#[34]⟩:ByteArray)=_):=kz l 34 _ rfl;have a0:l.length<8:=o_;have Y:9-(l++[34]).length=f:=(by rw[Qe,List.length_singleton];omega);clear hq hc x;go_wp2;go_roundw
    case rel=>
     obtain⟨N,Q⟩:=r.1.go (j+2);exact⟨l++[34],j+2,by rw[t],t_,by rw[Y];exact A,N,r.2.trans Q⟩
    case measure=>rw[t];simp[Br];omega
   have A:Hid (R=(l,j+1,0)):=(by show _=_;rw[x,Zu,if_pos hq,if_neg hc]);clear hq
   cases hq2:Bw S (j+1) 0 34 with
   | true=>
    have L:(((strOfNums l).size:Int)==8)=true:=beq_iff_eq.2 (by
     have:l.length=8:=Decidable.byContradiction λh=>hc ⟨hq2,h⟩
     omega)
    clear hq2 hc x;go_wp2;go_ret;rw[A];exact⟨rfl,r⟩
   | false=>
    clear hq2 hc x;go_wp2;go_ret;rw[A];exact⟨rfl,r⟩
  | false =>
   have n:=Zc _ _ S 0 _ _ i.1;go_wp2_with fail
   refine n.mono ?_;rintro e W ⟨rfl,d,o⟩;have p:Hid (Fb W m S j 0 u/\Aa (λq=>q=m) w W):=(by rw[o];exact⟨i.1.drew d,i.2.drewN d⟩);clear n o d i;obtain⟨a,HA⟩:=ez_ (Vg S j 0);rw[HA];have i:=p;clear p;have n:=Ez _ _ S 0 32 _ _ i.1 d_;go_wp2_with fail
   refine n.mono ?_;rintro e T ⟨rfl,d,o⟩;have p:Hid (Fb T m S j 0 u/\Aa (λq=>q=m) w T):=(by rw[o];exact⟨i.1.drew d,i.2.drewN d⟩);clear n o d i;obtain⟨b,V⟩:=ez_ (Bw S j 0 32);rw[V];have i:=p;clear p;have n:=Ez _ _ S 0 44 _ _ i.1 d_;go_wp2_with fail
   refine n.mono ?_;rintro e w5 ⟨rfl,d,o⟩;have p:Hid (Fb w5 m S j 0 u/\Aa (λq=>q=m) w w5):=(by rw[o];exact⟨i.1.drew d,i.2.drewN d⟩);clear n o d i;obtain⟨c,Z⟩:=ez_ (Bw S j 0 44);rw[Z];have i:=p;clear p;have n:=Ez _ _ S 0 10 _ _ i.1 d_;go_wp2_with fail
   refine n.mono ?_;rintro e U ⟨rfl,d,o⟩;have p:Hid (Fb U m S j 0 u/\Aa (λq=>q=m) w U):=(by rw[o];exact⟨i.1.drew d,i.2.drewN d⟩);clear n o d i;obtain⟨g,X⟩:=ez_ (Bw S j 0 10);rw[X];have i:=p;clear p;have y:Hid (kj S j=(a||b||c||g)):=(by show _=_;unfold kj;rw[HA,V,Z,X]);have D:=Br l;clear HA V Z X;obtain⟨E,F⟩:∃E,Hid (decide (l.length=8)=E):=⟨_,rfl⟩
   have L:(((strOfNums l).size:Int)==8)=E:=by
    rw[<- F,D]
    by_cases h:l.length=8
    rw[decide_eq_true h];exact beq_iff_eq.2 o_;rw[decide_eq_false h];exact beq_eq_false_iff_ne.2 o_
   go_upto_region 16 with fail;go_cut [72] (λv wx=>v=.bool (!(a||b||c||g)||E)/\wx=U)
   case first=>
    clear D
    cases a<;>cases b<;>cases c<;>cases g<;>(go_wp2;go_meet;first|exact⟨rfl,rfl⟩|exact⟨by rw[L];rfl,rfl⟩|exact⟨s_,rfl⟩)
   case rest=>
    obtain⟨rfl,o⟩:=hcut;obtain rfl:=o.symm;clear o
    by_cases hc:kj S j=true/\l.length≠8
    ·have A:Hid (R=Zu S f (l++[Ds S j]) (j+1)):=(by show _=_;rw[x,Zu,if_neg (by rw[hq];decide),if_pos hc]);have G:=cz hc.1;have t:=x1_ (kz l _ _ (Zeq G));rw[show(!(a||b||c||g)||E)=false by rw[<- y,hc.1,<- F,decide_eq_false hc.2];rfl];obtain⟨I,P,M,_⟩:=i.1.cells;have f1:=fq_ 1 _ _ i.1;have b1:0<=(j:Int):=o_;have b2:j<=(j:Int)+1:=o_;have b3:j+1<=(S.size:Int):=o_;have Y:9-(l++[Ds S j]).length=f:=(by rw[Qe,List.length_singleton];omega);have a0:l.length<8:=o_;clear hq hc x y L F;go_upto_region 18 with fail;go_quiet (fail);go_wp2;go_roundw
     case rel=>
      obtain⟨N,Q⟩:=(i.1.drew nq).go (j+1);exact⟨l++[Ds S _],j+1,by rw[<- t],t_,by rw[Y];exact A,N,(i.2.drewN _).trans Q⟩
     case measure=>(try simp only[t.out]);(try simp[Br]);(try omega)
    have A:Hid (R=(l,j,2)):=by show _=_;rw[x,Zu,if_neg (by rw[hq];decide),if_neg hc]
    rw[show(!(a||b||c||g)||E)=true by
     rw[<- y,<- F]
     by_cases J:kj S j=true
     rw[decide_eq_true (Decidable.byContradiction λh=>hc ⟨J,h⟩),Bool.or_true]
     rw[Bool.not_eq_true _|>.mp J];rfl]
    clear hq hc x y L F;go_wp2_with fail
    refine(Lk m j S 0 u U i.1).mono ?_;rintro e w7 ⟨rfl,h7,t7⟩;have p:Hid (Fb _ _ S _ 2 _/\_):=⟨h7,i.2.trans t7⟩;clear h7 t7 i;go_wp2;go_ret;rw[A];exact⟨rfl,p⟩
def Lf(S:ByteArray):Nat->List Int->Nat->List Int×Nat
 |0,bs,k=>(bs,k)
 |f+1,bs,k=>if Vg S k 0=true then Lf S f (bs++[Ds S k]) (k+1) else(bs,k)
def ai(S:ByteArray)(k:Nat):List Int×Nat×Int:=
 if Bw S k 0 34=true then Zu S 9 [] (k+1) else((Lf S 8 [] k).1,(Lf S 8 [] k).2,0)
def Zhz{S a k b}(h:k<S.size)(c:a<=k)(e:S.extract a k=strOfNums b):S.extract a (k+1)=strOfNums (b++[Ds S k]):=by rw[<- kz b _ _ (Zeq h),<- e,ByteArray.extract_append_extract,Nat.min_eq_left c,Nat.max_eq_right o_]
def Zgp g k S t w (h:Fb w g S k 0 t)(E:k<=S.size)(T:S.size<=1000000000000000):C_ 327 #[.pointer (some ⟨g,0,none⟩)] w λe w'=>e=.returned (.string (strOfNums (ai S k).1))/\Fb w' g S (ai S k).2.1 (ai S k).2.2 t/\Aa (λq=>q=g) w w':=by
 have G:=Ez _ k S 0 34 _ w h d_;obtain⟨R,j⟩:=ez_ (ai S k);rw[j];go_enter Tryz.func327,Tryz.ntmps327;go_wp2_with fail
 refine G.mono ?_;rintro e H ⟨rfl,n,v⟩;have p:Hid (Fb H g S k 0 t/\Aa (λq=>q=g) w H):=(by rw[v];exact⟨h.drew n,(Aa.refl _ _).drewN n⟩);clear h G v n
 cases hq:Bw S k 0 34 with
 | true=>
  have D:=Zb0 _ k S _ _ p.1 hq T;have y:ai S k=_:=if_pos hq;rw[<- y,j] at D;clear y;go_wp2_with fail
  refine D.mono ?_;rintro e F ⟨rfl,L,J⟩;have N:=x2_ L (p.2.trans J);clear L J p D;go_wp2;go_ret;exact⟨rfl,N⟩
 | false =>
  have s:Hid (R=((Lf S 8 [] k).1,(Lf S 8 [] k).2,0)):=(by show _=_;rw[<- j];exact if_neg (by rw[hq];decide));obtain⟨z,x,A,_⟩:=p.1.cells;clear hq j;go_upto_region 5 with fail;clear z x A;go_loopw [5] (λ_ wr=>∃(c:List Int) (a:Nat),c.length<=8/\Hid (a=k+c.length)/\a<=S.size/\Hid (S.extract k a=strOfNums c)/\Hid (Lf S 8 [] k=Lf S (8-c.length) c a)/\Hid (Fb wr g S a 0 t/\Aa (λq=>q=g) w wr)) (λ_ wr=>8-(match wr.cell? ⟨g,1,none⟩ with|some (.int _ n)=>n.toNat-k|_=>0))
  case atStart=>exact⟨[],k,s_,rfl,E,by show _=_;apply ByteArray.ext;simp[strOfNums],rfl,p⟩
  case round=>
   clear p;obtain⟨c,a,a0,i,X,l,o,m⟩:=hrel;have W:k<=a:=(by have:=i.out;omega);obtain⟨z,x,A,_⟩:=m.1.cells
   by_cases h8:c.length<8
   ·have Y:a-(k:Int)<8:=(by have:=i.out;omega);have I:=Zc _ _ S 0 _ _ m.1;have Q:=x1_ x;obtain⟨f,O⟩:∃f,8-c.length=f+1:=⟨7-c.length,o_⟩;rw[O] at o;go_wp2_with fail
    refine I.mono ?_;rintro e F ⟨rfl,d,v⟩;have b:Hid (Fb F g S a 0 t/\Aa (λq=>q=g) w F):=(by rw[v];exact⟨m.1.drew d,m.2.drewN d⟩);clear m I v d z x A;obtain⟨z,x,A,_⟩:=b.1.cells
    cases hl:Vg S a 0 with
    | true=>
     have C:=cz (by unfold kj;rw[hl];rfl);have r:Hid (Lf S 8 [] k=Lf S f (c++[Ds S a]) (a+1)):=(by show _=_;rw[o,Lf,if_pos hl]);have u:=x1_ (Zhz C o_ l);have B:8-(c++[Ds S a]).length=f:=w_;have f1:=fq_ 1 _ _ b.1;clear hl o l;go_wp2;go_roundw
     case rel=>
      obtain⟨V,Z⟩:=b.1.go (a+1);exact⟨c++[Ds S _],a+1,t_,by show _=_;rw[i];simp;omega,o_,u,by rw[B];exact r,V,b.2.trans Z⟩
     case measure=>
      have y:=(b.1.go (a+1)).1.cells.2.1;rw[show((a:Int)+1)=((a+1:Nat):Int) by omega,y,Q.out]
      grind
    | false=>
     have r:Hid (R=(c,a,0)):=(by show _=_;rw[s,o,Lf,if_neg (by rw[hl];decide)]);have U:0<=(k:Int):=o_;have M:k<=(a:Int):=o_;have P:a<=(S.size:Int):=o_;clear hl o;go_upto_region 9 with fail;go_quiet (fail);go_wp2;go_ret;rw[r,<- l];exact⟨rfl,b.1.drew _,b.2.drewN _⟩
   have Y:¬a-(k:Int)<8:=(by have:=i.out;omega);have r:Hid (R=(c,a,0)):=(by show _=_;rw[s,o,show 8-c.length=0 by omega,Lf]);have U:0<=(k:Int):=o_;have M:k<=(a:Int):=o_;have P:a<=(S.size:Int):=o_;clear o;go_upto_region 9 with fail;go_quiet (fail);go_wp2;go_ret;rw[r,<- l];exact⟨rfl,m.1.drew _,m.2.drewN _⟩
end Go.Proofs.YtfcgnpchbcmdeaaGreat
