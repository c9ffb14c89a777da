import Derived.Test.YtfcgnpchbcmdeaaGreatZrai
import Derived.Test.YtfcgnpchbcmdeaaGreatZrad
import Derived.BigQuiet
namespace Go.Proofs.YtfcgnpchbcmdeaaGreat
set_option linter.all false
set_option maxHeartbeats 400000
open Go.RowKit
structure Ip(w:World)(b off)(L:List Ct):Prop where
 lt:0<L.length->b<w.heap.size
 v:∀i,i<L.length->w.cell? (A_ b (off+i*4))=some (I_ (L.getD i e0).v)
 lo:∀i,i<L.length->w.cell? (A_ b (off+i*4+1))=some (I_ (L.getD i e0).lo)
 hi:∀i,i<L.length->w.cell? (A_ b (off+i*4+2))=some (I_ (L.getD i e0).hi)
 wt:∀i,i<L.length->w.cell? (A_ b (off+i*4+3))=some (I_ (L.getD i e0).wt)
def Di(w:World)(a:Option Addr)(L:List Ct):Prop:=L.length<=4194304/\(L.length=0∨∃b off,a=some ⟨b,off,none⟩/\Ip w b off L)
def Ip.block{w d b c L}(h:Ip w b c L)(f:w.heap.size<=d.heap.size)(e:0<L.length->d.heap[b]? =w.heap[b]?):Ip d b c L:=by have k:=λh0 o=>cb_ (a:=(A_ b o)) (e h0);exact⟨λh0=>Qh (h.lt h0) f,λi hi=>(k o_ _).trans (h.v i hi),λi hi=>(k o_ _).trans (h.lo i hi),λi hi=>(k o_ _).trans (h.hi i hi),λi hi=>(k o_ _).trans (h.wt i hi)⟩
def Ip.below{w w' b off L}(h:Ip w b off L)(hb:Below w.heap.size w w'):Ip w' b off L:=h.block hb.size λh0=>hb.block b (h.lt h0)
def Di.below{w c a L}(h:Di w a L)(d:Below w.heap.size w c):Di c a L:=by rcases h with⟨hl,h|⟨b,off,e,h⟩⟩;exact⟨hl,.inl h⟩;exact⟨hl,.inr ⟨b,off,e,h.below d⟩⟩
def Di.drewN{w a L}(h:Di w a L) n:Di (w.drewN n) a L:=h.below (below_drewN bz_ n)
def Vv{a b}(h:a=b):Ending.returned (I_ a)=.returned (I_ b):=by rw[h]
def Zae a L c w (h:Di w a L):C_ 176 #[.slice a L.length c] w λe w'=>e=.returned (.int .i64 (Ae L))/\w'=w:=by
 by_cases h0:L.length=0
 ·go_enter Tryz.func176,Tryz.ntmps176;go_wp2;go_ret;exact⟨Vv (by simp[Ae,h0]),rfl⟩
 rcases h with⟨hl,h|⟨b,off,rfl,h⟩⟩;exact absurd h h0;have d:=h.hi (L.length-1) o_;have f:((L.length:Int)==0)=_:=beq_eq_false_iff_ne.2 o_;have i:Ae L=(L.getD (L.length-1) e0).hi:=(by unfold Ae;rw[if_neg h0]);have g:=x1_ i;generalize (L.getD (L.length-1) e0).hi=t at d g;obtain⟨m,j⟩:∃m,L.length=m+1:=⟨L.length-1,o_⟩;rw[j] at d hl f ⊢;simp only[Nat.add_sub_cancel] at d;go_enter Tryz.func176,Tryz.ntmps176;go_wp2;go_ret;exact⟨Vv g.symm,rfl⟩
def Zb5 a L c w (h:Di w a L):C_ 87 #[.slice a L.length c] w λe w'=>e=.returned (.int .i64 (Ae L))/\w'=w:=by
 by_cases h0:L.length=0
 ·go_enter Tryz.func87,Tryz.ntmps87;go_wp2;go_ret;exact⟨Vv (by simp[Ae,h0]),rfl⟩
 rcases h with⟨hl,h|⟨b,off,rfl,h⟩⟩;exact absurd h h0;have d:=h.hi (L.length-1) o_;have f:((L.length:Int)==0)=_:=beq_eq_false_iff_ne.2 o_;have i:Ae L=(L.getD (L.length-1) e0).hi:=(by unfold Ae;rw[if_neg h0]);have g:=x1_ i;generalize (L.getD (L.length-1) e0).hi=t at d g;obtain⟨m,j⟩:∃m,L.length=m+1:=⟨L.length-1,o_⟩;rw[j] at d hl f ⊢;simp only[Nat.add_sub_cancel] at d;go_enter Tryz.func87,Tryz.ntmps87;go_wp2;go_ret;exact⟨Vv g.symm,rfl⟩
def Wi z w:C_ 79 #[.int .i64 z] w λe w'=>e=.returned (.int .i64 (Ga z))/\w'=w:=by
 unfold Ga
 by_cases h1:1000000000<z
 ·have a:¬z< -1000000000:=o_;rw[if_pos h1];go_enter Tryz.func79,Tryz.ntmps79;go_wp2;go_ret;exact⟨rfl,rfl⟩
 rw[if_neg h1]
 by_cases a:z< -1000000000
 all_goals
  first|rw[if_pos a]|rw[if_neg a]
  go_enter Tryz.func79,Tryz.ntmps79;go_wp2;go_ret;exact⟨rfl,rfl⟩
def Um z w:C_ 80 #[.int .i64 z] w λe w'=>e=.returned (.int .i64 (Is z))/\w'=w:=by
 go_enter Tryz.func80,Tryz.ntmps80;go_wp2
 all_goals go_ret
 all_goals exact⟨Vv (by unfold Is;omega),rfl⟩
def Zlx x y w (h:0<=x.lo/\0<=x.hi/\0<=x.wt/\x.lo<=1000000000000/\x.hi<=1000000000000/\x.wt<=1000000000000)(k:0<=y.lo/\0<=y.hi/\0<=y.wt/\y.lo<=1000000000000/\y.hi<=1000000000000/\y.wt<=1000000000000):C_ 86 #[.agg #[.int .i64 x.v,.int .i64 x.lo,.int .i64 x.hi,.int .i64 x.wt],.agg #[.int .i64 y.v,.int .i64 y.lo,.int .i64 y.hi,.int .i64 y.wt]] w λe w'=>e=.returned (.agg #[.int .i64 (Li x y).v,.int .i64 (Li x y).lo,.int .i64 (Li x y).hi,.int .i64 (Li x y).wt])/\Below w.heap.size w w':=by obtain⟨n,f,l,g,a,b⟩:=h;obtain⟨d,i,m,c,j,o⟩:=k;go_enter Tryz.func86,Tryz.ntmps86;go_wp2;exact bodyPost_ret (v:=.agg #[I_ x.v,I_ (x.lo+y.lo),I_ (x.hi+y.hi),I_ (x.wt+y.wt)]) (by simp[results,Tryz.results86,go_sem]) rfl ⟨rfl,(bA_.alloc s_ _).alloc t_ _⟩
def Zy a L d j w (h:Di w a L)(g:Bq L)(o:j<=L.length):C_ 152 #[.slice a L.length d,.int .i64 j] w λe w'=>e=.returned (.int .i64 (Cn L j))/\∃n,w'=w.drewN n:=by
 cases j with
 | zero=>
  go_enter Tryz.func152,Tryz.ntmps152;go_wp2;go_ret;exact⟨Vv rfl,0,rfl⟩
 | succ j=>
  rcases h with⟨hl,h|⟨b,off,rfl,h⟩⟩;omega;have l:=h.lo j o_;have k:=h.wt j o_;have f:=g.at (show j<L.length by omega)
  have c:Hid (Cn L (j+1)=(L.getD j e0).lo+(L.getD j e0).wt):=show _=_ by simp[Cn]
  generalize (L.getD j e0).lo=x at l c f;generalize (L.getD j e0).wt=y at k c f;obtain⟨s,r,t,q,_⟩:=f;have i:(((j:Int)+1)==0)=_:=beq_eq_false_iff_ne.2 o_;have p:0<=(j:Int)+1-1:=o_;have m:j+1-1<(L.length:Int):=o_;go_enter Tryz.func152,Tryz.ntmps152;go_wp2;go_quiet (fail);go_wp2;go_ret;exact⟨Vv c.symm,_,rfl⟩
def Xo a L d j w (h:Di w a L)(g:Bq L)(o:j<=L.length):C_ 153 #[.slice a L.length d,.int .i64 j] w λe w'=>e=.returned (.int .i64 (Dm L j))/\∃n,w'=w.drewN n:=by
 have q:=h.1
 by_cases he:j=L.length
 ·subst he
  have c:Hid (Dm L _=_):=show _=_ by unfold Dm;rw[if_pos rfl]
  go_enter Tryz.func153,Tryz.ntmps153;go_wp2_with fail
  refine(Zb5 a L _ _ h).mono ?_;rintro e w' ⟨rfl,rfl⟩;go_wp2;go_ret;exact⟨Vv c.symm,0,rfl⟩
 rcases h with⟨_,h|⟨b,off,rfl,h⟩⟩;omega;have l:=h.hi j o_;have k:=h.wt j o_;have f:=g.at (show j<L.length by omega)
 have c:Hid (Dm L j=_):=show _=_ by unfold Dm;rw[if_neg he]
 generalize (L.getD j e0).hi=x at l c f;generalize (L.getD j e0).wt=y at k c f;obtain⟨u,s,t,r,_⟩:=f;have i:((j:_)==(L.length:Int))=_:=beq_eq_false_iff_ne.2 o_;have p:0<=(j:Int):=o_;have m:j<(L.length:Int):=o_;go_enter Tryz.func153,Tryz.ntmps153;go_wp2;go_quiet (fail);go_wp2;go_ret;exact⟨Vv c.symm,_,rfl⟩
end Go.Proofs.YtfcgnpchbcmdeaaGreat
