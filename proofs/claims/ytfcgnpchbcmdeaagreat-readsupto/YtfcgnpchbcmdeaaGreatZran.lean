import Derived.Test.YtfcgnpchbcmdeaaGreatZram
import Derived.Deep.RegionHeld3
namespace Go.Proofs.YtfcgnpchbcmdeaaGreat
set_option linter.all false
set_option maxRecDepth 100000
set_option maxHeartbeats 2000000
open Go.RowKit
def td(x:Ct) w (h:0<=x.lo/\0<=x.hi/\x.lo<=1000000000000/\x.hi<=1000000000000):C_ 154 #[.agg #[.int .i64 x.v,.int .i64 x.lo,.int .i64 x.hi,.int .i64 x.wt]] w λe w'=>e=.returned (.int .i64 (x.lo+x.hi))/\w'=w.alloc (.cells #[.int .i64 x.v,.int .i64 x.lo,.int .i64 x.hi,.int .i64 x.wt] 98):=by obtain⟨d,a,c,b⟩:=h;go_enter Tryz.func154,Tryz.ntmps154;go_wp2;go_ret;exact⟨rfl,rfl⟩
structure Zd3(L:List Ct)(goal)(k r:Nat):Prop where
 ge:k<=r
 le:r+2<=L.length
 yes:∀i,k<=i->i<r->Il L i+Il L (i+1)<goal
 no:r+2=L.length∨¬Il L r+Il L (r+1)<goal
def Zbm a L u l f w (h:Di w a L)(g:Bq L)(G:l+2<=L.length):C_ 89 #[.slice a L.length u,.int .i64 l,.int .i64 f] w λe w'=>∃r:Nat,e=.returned (.int .i64 r)/\Zd3 L f l r/\Below w.heap.size w w':=by
 have hl:=h.1;have F:=x1_ h;have z:=x1_ g;go_enter Tryz.func89,Tryz.ntmps89;go_wp2_with fail
 go_loopw [1] (λt wr=>∃k:Nat,t=.int .i64 k/\l<=k/\k+2<=L.length/\Hid (∀i,l<=i->i<k->Il L i+Il L (i+1)<f)/\E_ w wr) (λt _=>L.length-(intOf t).toNat)
 case atStart=>exact⟨l,rfl,qa_,G,λi h1 h2=>absurd h2 o_,bz_⟩
 case round=>
  obtain⟨k,rfl,o,m,q,c⟩:=hrel
  by_cases hkl:k+2<L.length
  ·rcases F.out with⟨_,h0|⟨b,off,rfl,hA⟩⟩;omega;have d:=hA.below c;have hb:=d.lt o_;have O:=z.at (show k<L.length by omega);have gy:=z.at (show k+1<L.length by omega);obtain⟨X,a1,R,a3⟩:wr.cell? (A_ b (off+k*4))=some (I_ (L.getD k e0).v)/\wr.cell? (A_ b (off+k*4+1))=some (I_ (L.getD k e0).lo)/\wr.cell? (A_ b (off+k*4+2))=some (I_ (L.getD k e0).hi)/\wr.cell? (A_ b (off+k*4+3))=some (I_ (L.getD k e0).wt):=⟨d.v k o_,d.lo k o_,d.hi k o_,d.wt k o_⟩
   obtain⟨T,c1,c2,c3⟩:wr.cell? (A_ b (off+(k+1)*4))=some (I_ (L.getD (k+1) e0).v)/\wr.cell? (A_ b (off+(k+1)*4+1))=some (I_ (L.getD (k+1) e0).lo)/\wr.cell? (A_ b (off+(k+1)*4+2))=some (I_ (L.getD (k+1) e0).hi)/\wr.cell? (A_ b (off+(k+1)*4+3))=some (I_ (L.getD (k+1) e0).wt):=⟨d.v (k+1) o_,d.lo (k+1) o_,d.hi (k+1) o_,d.wt (k+1) o_⟩;have B:0<=(L.getD k e0).lo/\0<=(L.getD k e0).hi/\(L.getD k e0).lo<=1000000000000/\(L.getD k e0).hi<=1000000000000:=o_;have A:0<=(L.getD (k+1) e0).lo/\0<=(L.getD (k+1) e0).hi/\(L.getD (k+1) e0).lo<=1000000000000/\(L.getD (k+1) e0).hi<=1000000000000:=o_
   have n:Hid (Il L k+Il L (k+1)=_+_+(_+_)):=show _=_ from rfl
   have M:decide ((k:_)+2<(L.length:Int))=_:=decide_eq_true o_;have D:decide (k+2<_)=_:=decide_eq_true o_;have H:0<=(k:Int):=o_;have E:k+1<(L.length:Int):=o_;have N:k<(L.length:Int):=o_;generalize L.getD k e0=x,L.getD (k+1) e0=y at *;have Z:=x1_ B;have J:=x1_ A;obtain⟨x1,W,P,Y⟩:=B;obtain⟨y1,y2,S,U⟩:=A;have V:IntKind.i64.wrap (k+2)=k+2:=(by rw[IntKind.wrap_i64];omega);have Q:IntKind.i64.wrap (k+1)=k+1:=(by rw[IntKind.wrap_i64];omega);have r3:IntKind.i64.wrap (x.lo+x.hi+(y.lo+y.hi))=x.lo+x.hi+(y.lo+y.hi):=(by rw[IntKind.wrap_i64];omega);have I:0<=(k:Int)+1:=o_
   by_cases hlt:x.lo+x.hi+(y.lo+y.hi)<f
   ·have C:=decide_eq_true hlt
    have s:Hid (∀i,l<=i->i<k+1->Il L i+Il L (i+1)<f):=λi h1 h2=>by
     by_cases e:i=k
     subst e;rw[n];exact hlt;exact q i h1 o_
    go_wp2_with fail
    go_region_held3 (λw'=>w'.cell? (A_ b (off+k*4))=some (I_ x.v)/\w'.cell? (A_ b (off+k*4+1))=some (I_ x.lo)/\w'.cell? (A_ b (off+k*4+2))=some (I_ x.hi)/\w'.cell? (A_ b (off+k*4+3))=some (I_ x.wt)/\w'.cell? (A_ b (off+(k+1)*4))=some (I_ y.v)/\w'.cell? (A_ b (off+(k+1)*4+1))=some (I_ y.lo)/\w'.cell? (A_ b (off+(k+1)*4+2))=some (I_ y.hi)/\w'.cell? (A_ b (off+(k+1)*4+3))=some (I_ y.wt)) (go_keep) (first|(go_at_call 154;refine(td _ _ o_).mono ?_;rintro e w' ⟨rfl,rfl⟩))
    all_goals go_wp2
    all_goals
     go_roundw;case rel=>exact⟨k+1,g_,o_,o_,s,((c.alloc c.size _).alloc (by have:=c.size;simp;omega) _).drew⟩
     case measure=>exact z_
   have C:=decide_eq_false hlt;have j:Hid (Zd3 L _ _ k):=⟨o,m,q,.inr (by rw[n];exact hlt)⟩;go_wp2_with fail
   go_region_held3 (λw'=>w'.cell? (A_ b (off+k*4))=some (I_ x.v)/\w'.cell? (A_ b (off+k*4+1))=some (I_ x.lo)/\w'.cell? (A_ b (off+k*4+2))=some (I_ x.hi)/\w'.cell? (A_ b (off+k*4+3))=some (I_ x.wt)/\w'.cell? (A_ b (off+(k+1)*4))=some (I_ y.v)/\w'.cell? (A_ b (off+(k+1)*4+1))=some (I_ y.lo)/\w'.cell? (A_ b (off+(k+1)*4+2))=some (I_ y.hi)/\w'.cell? (A_ b (off+(k+1)*4+3))=some (I_ y.wt)) (go_keep) (first|(go_at_call 154;refine(td _ _ o_).mono ?_;rintro e w' ⟨rfl,rfl⟩))
   all_goals go_wp2
   all_goals go_ret
   all_goals exact⟨k,rfl,j,((c.alloc c.size _).alloc (by have:=c.size;simp;omega) _).drew⟩
  have M:decide ((k:_)+2<(L.length:Int))=_:=decide_eq_false o_;have D:=decide_eq_false o_;have j:Hid (Zd3 L _ _ k):=⟨o,m,q,.inl o_⟩;go_wp2_with fail
  go_big_quiet (fail);go_wp2;go_ret;exact⟨k,rfl,j,below_drewN c _⟩
section
variable {w:World} {b:Nat} {vf vW vC:Value} {wt:Int} {fl:Bool} {vr:Value} {p:Cm}
def RB.setWt(h:RB w b vf vW vC wt fl vr p) z:RB (w.setCell (A_ b 3) (I_ z)) b vf vW vC z fl vr p:=hs_ w b 3 _ 256 _ h
def RB.setFl(h:RB w b vf vW vC wt fl vr p) z:RB (w.setCell (A_ b 4) (.bool z)) b vf vW vC wt z vr p:=hs_ w b 4 _ 256 _ h
def RB.setVr(h:RB w b vf vW vC wt fl vr p) z:RB (w.setCell (A_ b 5) z) b vf vW vC wt fl z p:=hs_ w b 5 _ 256 _ h
def RB.setVW(h:RB w b vf vW vC wt fl vr p) z:RB (w.setCell (A_ b 1) z) b vf z vC wt fl vr p:=hs_ w b 1 _ 256 _ h
end
def El(st:Int):Bool:=!(decide (st=1)||decide (st=4)||decide (st=7))
def Zdh b i f d g k j p w (h:RB w b i f d g k j p):C_ 220 #[.pointer (some ⟨b,6,none⟩)] w λe w'=>e=.returned (.bool (El p.st))/\w'=w:=by
 obtain⟨c,_,_,_,_,_,_⟩:=h.part
 by_cases s1:p.st=1
 ·have a:Hid (El p.st=false):=(by show El p.st=false;rw[s1];rfl);rw[s1] at c;go_enter Tryz.func220,Tryz.ntmps220;go_wp2;go_ret;rw[a];exact⟨rfl,rfl⟩
 by_cases s4:p.st=4
 ·have a:Hid (El p.st=false):=(by show El p.st=false;rw[s4];rfl);rw[s4] at c;go_enter Tryz.func220,Tryz.ntmps220;go_wp2;go_ret;rw[a];exact⟨rfl,rfl⟩
 by_cases s7:p.st=7
 ·have a:Hid (El p.st=false):=(by show El p.st=false;rw[s7];rfl);rw[s7] at c;go_enter Tryz.func220,Tryz.ntmps220;go_wp2;go_ret;rw[a];exact⟨rfl,rfl⟩
 have a:Hid (El p.st=true):=(by show El p.st=true;unfold El;simp[s1,s4,s7]);have m:=beq_eq_false_iff_ne.2 s1;have l:=beq_eq_false_iff_ne.2 s4;have n:=beq_eq_false_iff_ne.2 s7;go_enter Tryz.func220,Tryz.ntmps220;go_wp2;go_ret;rw[a];exact⟨rfl,rfl⟩
def ux b g f d a j i p w (h:RB w b g f d a j i p):C_ 91 #[.pointer (some ⟨b,0,none⟩)] w λe w'=>e=.returned (.bool (decide (a=0)))/\w'=w:=by
 obtain⟨_,_,_,l,_,_⟩:=h.head
 by_cases s:a=0
 ·subst s;go_enter Tryz.func91,Tryz.ntmps91;go_wp2;go_ret;exact⟨rfl,rfl⟩
 have k:=beq_eq_false_iff_ne.2 s;have c:=x1_ (decide_eq_false s);go_enter Tryz.func91,Tryz.ntmps91;go_wp2;go_ret
 first|exact⟨rfl,rfl⟩|(rw[c];exact⟨rfl,rfl⟩)
abbrev ZgU:=Option (Option Int)
def Bd(wt c:Int):ZgU:=
 if c=44/\0<wt then some none
 else if 48<=c/\c<=57/\1<=wt*10+(c-48)/\wt*10+(c-48)<=99 then some (some (wt*10+(c-48)))
 else none
def ZkF(b:Nat)(vf vW vC:Value)(wt:Int)(fl:Bool)(vr:Value)(p:Cm)(s:ZgU)(w:World)(e:Ending)(w':World):Prop:=
 w.grownBy w' (some b)/\match s with
  |none=>e=.returned (.bool false)/\RB w' b vf vW vC wt fl vr p
  |some none=>e=.returned (.bool true)/\RB w' b vf vW vC wt true vr p
  |some (some z)=>e=.returned (.bool true)/\RB w' b vf vW vC z fl vr p
def Xz b n m l a q o p c w (h:RB w b n m l a q o p)(F:0<=a)(M:a<=99)(t:0<=c)(y:c<=255):C_ 162 #[.pointer (some ⟨b,0,none⟩),.int .u8 c] w λe w'=>ZkF b n m l a q o p (Bd a c) w e w':=by
 obtain⟨_,_,_,G,D,_⟩:=h.head;have B:=h.part.2.2.2.2.2.2;have H:=x1_ h
 by_cases k:c=44/\0<a
 ·have f:Hid (Bd _ c=_):=if_pos k;obtain⟨rfl,J⟩:=k;go_enter Tryz.func162,Tryz.ntmps162;go_wp2;go_ret;rw[f];exact⟨Bm (Bo _ _) _ _,rfl,H.setFl _⟩
 by_cases d:48<=c/\c<=57
 ·obtain⟨I,E⟩:=d;have u:¬c=44:=o_;have L:IntKind.u8.wrap (c-48)=c-48:=(by simp[IntKind.wrap,IntKind.bits,IntKind.signed];omega);have z:_=c-48:=Cb o_ o_;have s:_=a*10:=Cb o_ o_;have x:_=a*10+(c-48):=Cb o_ o_
  by_cases r:1<=a*10+(c-48)/\a*10+(c-48)<=99
  ·have f:Hid (Bd a c=some (some (a*10+(c-48)))):=(by show Bd a c=_;grind [Bd]);obtain⟨A,C⟩:=r;go_enter Tryz.func162,Tryz.ntmps162;go_wp2;go_ret;rw[f];exact⟨Bm (Bo _ _) _ _,rfl,H.setWt _⟩
  have f:Hid (Bd a c=none):=(by show Bd a c=_;grind [Bd]);have j:a*10+(c-48)<1∨99<a*10+(c-48):=o_
  rcases j with j|j
  all_goals
   go_enter Tryz.func162,Tryz.ntmps162;go_wp2;go_ret;rw[f];exact⟨Bo _ _,rfl,H⟩
 have f:Hid (Bd a c=none):=(by show Bd a c=_;grind [Bd]);have g:c<48∨57<c:=o_;have i:(c=44/\a=0)∨¬c=44:=o_
 rcases i with⟨rfl,rfl⟩|i
 ·clear g;go_enter Tryz.func162,Tryz.ntmps162;go_wp2;go_ret;rw[f];exact⟨Bo _ _,rfl,H⟩
 have v:=beq_eq_false_iff_ne.2 i
 rcases g with g|g
 all_goals
  go_enter Tryz.func162,Tryz.ntmps162;go_wp2;go_ret;rw[f];exact⟨Bo _ _,rfl,H⟩
end Go.Proofs.YtfcgnpchbcmdeaaGreat
