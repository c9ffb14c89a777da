import Derived.Test.YtfcgnpchbcmdeaaGreatZfah
import Derived.Test.YtfcgnpchbcmdeaaGreatZfaa
import Derived.Deep.QuietTactic
import Derived.BigQuiet
namespace Go.Proofs.YtfcgnpchbcmdeaaGreat
set_option linter.unusedSimpArgs false
set_option maxHeartbeats 400000
open Go.RowKit
structure QC(w:World)(b off:Nat)(L:List Zm):Prop where
 lt:0<L.length->b<w.heap.size
 v:∀i,i<L.length->w.cell? ⟨b,off+i*4,none⟩=some (.int .i64 (L.getD i e0).v)
 lo:∀i,i<L.length->w.cell? ⟨b,off+i*4+1,none⟩=some (.int .i64 (L.getD i e0).lo)
 hi:∀i,i<L.length->w.cell? ⟨b,off+i*4+2,none⟩=some (.int .i64 (L.getD i e0).hi)
 wt:∀i,i<L.length->w.cell? ⟨b,off+i*4+3,none⟩=some (.int .i64 (L.getD i e0).wt)
def Yp(w:World)(a:Option Addr)(L:List Zm):Prop:=L.length<=4194304/\(L.length=0∨∃b off,a=some ⟨b,off,none⟩/\QC w b off L)
theorem QC.block{w w':World}{b off:Nat}{L:List Zm}(h:QC w b off L)(hs:w.heap.size<=w'.heap.size)(hb:0<L.length->w'.heap[b]? =w.heap[b]?):QC w' b off L:=by have k:0<L.length->∀o,w'.cell? ⟨b,o,none⟩=w.cell? ⟨b,o,none⟩:=fun h0 o=>World.cell?_of_block (a:=⟨b,o,none⟩) (hb h0);exact⟨fun h0=>Qh (h.lt h0) hs,fun i hi=>(k (by omega) _).trans (h.v i hi),fun i hi=>(k (by omega) _).trans (h.lo i hi),fun i hi=>(k (by omega) _).trans (h.hi i hi),fun i hi=>(k (by omega) _).trans (h.wt i hi)⟩
theorem QC.below{w w':World}{b off:Nat}{L:List Zm}(h:QC w b off L)(hb:Below w.heap.size w w'):QC w' b off L:=h.block hb.size fun h0=>hb.block b (h.lt h0)
theorem Yp.below{w w':World}{a:Option Addr}{L:List Zm}(h:Yp w a L)(hb:Below w.heap.size w w'):Yp w' a L:=by rcases h with⟨hl,h|⟨b,off,e,h⟩⟩;exact⟨hl,.inl h⟩;exact⟨hl,.inr ⟨b,off,e,h.below hb⟩⟩
theorem ZdA{a b:Int}(h:a=b):Ending.returned (.int .i64 a)=.returned (.int .i64 b):=by rw[h]
theorem ZpA(a:Option Addr)(L:List Zm)(cap:Nat)(w:World)(h:Yp w a L):Calls Tryz.prog 117 #[.slice a L.length cap] w fun e w'=>e=.returned (.int .i64 (Zc L))/\w'=w:=by
 by_cases h0:L.length=0
 ·go_enter Tryz.func117,Tryz.ntmps117;go_wp2;go_ret;exact⟨ZdA (by simp[Zc,h0]),rfl⟩
 rcases h with⟨hl,h|⟨b,off,rfl,h⟩⟩;exact absurd h h0;have hc:=h.hi (L.length-1) (by omega);have hne:((L.length:Int)==0)=false:=beq_eq_false_iff_ne.2 (by omega);have ht:Zc L=(L.getD (L.length-1) e0).hi:=(by unfold Zc;rw[if_neg h0]);have HT:Hid (Zc L=(L.getD (L.length-1) e0).hi):=ht;clear ht;generalize (L.getD (L.length-1) e0).hi=t at hc HT;obtain⟨m,hm⟩:∃m,L.length=m+1:=⟨L.length-1,by omega⟩;rw[hm] at hc hl hne ⊢;simp only[Nat.add_sub_cancel] at hc;clear h h0 hm;go_enter Tryz.func117,Tryz.ntmps117;go_wp2;go_ret;exact⟨ZdA HT.out.symm,rfl⟩
theorem Zjb(a:Option Addr)(L:List Zm)(cap:Nat)(w:World)(h:Yp w a L):Calls Tryz.prog 87 #[.slice a L.length cap] w fun e w'=>e=.returned (.int .i64 (Zc L))/\w'=w:=by
 by_cases h0:L.length=0
 ·go_enter Tryz.func87,Tryz.ntmps87;go_wp2;go_ret;exact⟨ZdA (by simp[Zc,h0]),rfl⟩
 rcases h with⟨hl,h|⟨b,off,rfl,h⟩⟩;exact absurd h h0;have hc:=h.hi (L.length-1) (by omega);have hne:((L.length:Int)==0)=false:=beq_eq_false_iff_ne.2 (by omega);have ht:Zc L=(L.getD (L.length-1) e0).hi:=(by unfold Zc;rw[if_neg h0]);have HT:Hid (Zc L=(L.getD (L.length-1) e0).hi):=ht;clear ht;generalize (L.getD (L.length-1) e0).hi=t at hc HT;obtain⟨m,hm⟩:∃m,L.length=m+1:=⟨L.length-1,by omega⟩;rw[hm] at hc hl hne ⊢;simp only[Nat.add_sub_cancel] at hc;clear h h0 hm;go_enter Tryz.func87,Tryz.ntmps87;go_wp2;go_ret;exact⟨ZdA HT.out.symm,rfl⟩
theorem ZdK(z:Int)(w:World):Calls Tryz.prog 79 #[.int .i64 z] w fun e w'=>e=.returned (.int .i64 (Q1 z))/\w'=w:=by
 unfold Q1
 by_cases h1:1000000000<z
 ·have h2:¬z< -1000000000:=(by omega);rw[if_pos h1];go_enter Tryz.func79,Tryz.ntmps79;go_wp2;go_ret;exact⟨rfl,rfl⟩
 rw[if_neg h1]
 by_cases h2:z< -1000000000
 all_goals
  first|rw[if_pos h2]|rw[if_neg h2]
  go_enter Tryz.func79,Tryz.ntmps79;go_wp2;go_ret;exact⟨rfl,rfl⟩
theorem Zdc(z:Int)(w:World):Calls Tryz.prog 80 #[.int .i64 z] w fun e w'=>e=.returned (.int .i64 (Zbw z))/\w'=w:=by
 go_enter Tryz.func80,Tryz.ntmps80;go_wp2
 all_goals go_ret
 all_goals exact⟨ZdA (by unfold Zbw;first|rw[if_pos (by omega)]|rw[if_neg (by omega)]),rfl⟩
theorem Zo3(x y:Zm)(w:World)(h:0<=x.lo/\0<=x.hi/\0<=x.wt/\x.lo<=1000000000000/\x.hi<=1000000000000/\x.wt<=1000000000000)(k:0<=y.lo/\0<=y.hi/\0<=y.wt/\y.lo<=1000000000000/\y.hi<=1000000000000/\y.wt<=1000000000000):Calls Tryz.prog 86 #[.agg #[.int .i64 x.v,.int .i64 x.lo,.int .i64 x.hi,.int .i64 x.wt],.agg #[.int .i64 y.v,.int .i64 y.lo,.int .i64 y.hi,.int .i64 y.wt]] w fun e w'=>e=.returned (.agg #[.int .i64 (Zan x y).v,.int .i64 (Zan x y).lo,.int .i64 (Zan x y).hi,.int .i64 (Zan x y).wt])/\Below w.heap.size w w':=by
 obtain⟨h1,h2,h3,h4,h5,h6⟩:=h;obtain⟨k1,k2,k3,k4,k5,k6⟩:=k;go_enter Tryz.func86,Tryz.ntmps86;go_wp2;exact bodyPost_ret (v:=.agg #[.int .i64 x.v,.int .i64 (x.lo+y.lo),.int .i64 (x.hi+y.hi),.int .i64 (x.wt+y.wt)]) (by simp[results,Tryz.results86,go_sem]) rfl ⟨rfl,(((Below.refl _ _).alloc (Qa _) _).alloc (by simp) _).alloc (by simp;omega) _⟩
theorem ZeC(a:Option Addr)(L:List Zm)(cap j:Nat)(w:World)(h:Yp w a L)(g:Zy L)(hj:j<=L.length):Calls Tryz.prog 152 #[.slice a L.length cap,.int .i64 j] w fun e w'=>e=.returned (.int .i64 (Ye L j))/\∃n,w'=w.drewN n:=by
 cases j with
 | zero=>
  go_enter Tryz.func152,Tryz.ntmps152;go_wp2;go_ret;exact⟨ZdA rfl,0,rfl⟩
 | succ j=>
  rcases h with⟨hl,h|⟨b,off,rfl,h⟩⟩;omega;have c1:=h.lo j (by omega);have c2:=h.wt j (by omega);have gd:=g.at (show j<L.length by omega)
  have HT:Hid (Ye L (j+1)=(L.getD j e0).lo+(L.getD j e0).wt):=show _=_ by simp[Ye]
  generalize (L.getD j e0).lo=x at c1 HT gd;generalize (L.getD j e0).wt=y at c2 HT gd;obtain⟨g1,g2,g3,g4,_⟩:=gd;have hne:(((j:Int)+1)==0)=false:=beq_eq_false_iff_ne.2 (by omega);have b1:(0:Int)<=(j:Int)+1-1:=(by omega);have b2:(j:Int)+1-1<(L.length:Int):=(by omega);clear h g hj;go_enter Tryz.func152,Tryz.ntmps152;go_wp2;go_quiet (fail);go_wp2;go_ret;exact⟨ZdA HT.out.symm,_,rfl⟩
theorem ZdX(a:Option Addr)(L:List Zm)(cap j:Nat)(w:World)(h:Yp w a L)(g:Zy L)(hj:j<=L.length):Calls Tryz.prog 153 #[.slice a L.length cap,.int .i64 j] w fun e w'=>e=.returned (.int .i64 (Yy L j))/\∃n,w'=w.drewN n:=by
 have hl:=h.1
 by_cases he:j=L.length
 ·subst he
  have HT:Hid (Yy L L.length=Zc L):=show _=_ by unfold Yy;rw[if_pos rfl]
  go_enter Tryz.func153,Tryz.ntmps153;go_wp2_with fail
  refine(Zjb a L cap _ h).mono ?_;rintro e w' ⟨rfl,rfl⟩;go_wp2;go_ret;exact⟨ZdA HT.out.symm,0,rfl⟩
 rcases h with⟨_,h|⟨b,off,rfl,h⟩⟩;omega;have c1:=h.hi j (by omega);have c2:=h.wt j (by omega);have gd:=g.at (show j<L.length by omega)
 have HT:Hid (Yy L j=(L.getD j e0).hi-(L.getD j e0).wt):=show _=_ by unfold Yy;rw[if_neg he]
 generalize (L.getD j e0).hi=x at c1 HT gd;generalize (L.getD j e0).wt=y at c2 HT gd;obtain⟨g1,g2,g3,g4,_⟩:=gd;have hne:((j:Int)==(L.length:Int))=false:=beq_eq_false_iff_ne.2 (by omega);have b1:(0:Int)<=(j:Int):=(by omega);have b2:(j:Int)<(L.length:Int):=(by omega);clear h g hj;go_enter Tryz.func153,Tryz.ntmps153;go_wp2;go_quiet (fail);go_wp2;go_ret;exact⟨ZdA HT.out.symm,_,rfl⟩
end Go.Proofs.YtfcgnpchbcmdeaaGreat
