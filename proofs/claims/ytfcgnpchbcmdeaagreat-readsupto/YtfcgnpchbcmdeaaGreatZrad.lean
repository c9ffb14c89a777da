import Derived.Test.YtfcgnpchbcmdeaaGreatHdc
import Derived.WalkSpells
import Derived.WalkLawsBesides
namespace Go.Proofs.YtfcgnpchbcmdeaaGreat
set_option linter.all false
set_option maxHeartbeats 1000000
open Go.RowKit
def Vv{a b}(h:a=b):Ending.returned (.bool a)=.returned (.bool b):=by rw[h]
def mh n a b w:C_ 61 #[.int .i64 n,.int .i64 a,.int .i64 b] w λe w'=>e=.returned (.bool (decide (a<=n)&&decide (n<=b)))/\w'=w:=by
 go_enter Tryz.func61,Tryz.ntmps61;go_wp2
 all_goals go_ret
 all_goals exact⟨by simp[*]<;>omega,rfl⟩
def mj n a b w (h:a<=n/\n<=b):C_ 61 #[.int .i64 n,.int .i64 a,.int .i64 b] w λe w'=>e=.returned (.bool true)/\w'=w:=by
 refine(mh n _ _ w).mono ?_
 grind
def Zgx n a b w (h:¬(a<=n/\n<=b)):C_ 61 #[.int .i64 n,.int .i64 a,.int .i64 b] w λe w'=>e=.returned (.bool false)/\w'=w:=by
 refine(mh n _ _ w).mono ?_
 grind
def Le(wd:Bool)(sc ct:Int):Bool:=if wd=true then decide (sc=0/\1<=ct/\ct<=1000) else decide (0<=sc/\sc<=3/\ct=0)
def pi a d c w:C_ 159 #[.agg #[.bool a,.int .i64 d,.int .i64 c]] w λe w'=>e=.returned (.bool (Le a d c))/\Below w.heap.size w w':=by
 cases a
 ·go_enter Tryz.func159,Tryz.ntmps159;go_wp2
  all_goals go_ret
  all_goals refine⟨?_,bA_⟩
  all_goals (refine congrArg (λb=>Ending.returned (.bool b)) (Bool.eq_iff_iff.2 ?_);simp[Le]<;>omega)
 go_enter Tryz.func159,Tryz.ntmps159;go_wp2
 all_goals go_ret
 all_goals refine⟨?_,bA_⟩
 all_goals (refine congrArg (λb=>Ending.returned (.bool b)) (Bool.eq_iff_iff.2 ?_);simp[Le]<;>omega)
structure Dd(w:World)(b off len)(wd:Nat->Bool)(sc ct:Nat->Int):Prop where
 le:len<=maxLen
 lt:0<len->b<w.heap.size
 c0:∀i,i<len->w.cell? (A_ b (off+i*3))=some (.bool (wd i))
 c1:∀i,i<len->w.cell? (A_ b (off+i*3+1))=some (I_ (sc i))
 c2:∀i,i<len->w.cell? (A_ b (off+i*3+2))=some (I_ (ct i))
def Th(wd:Nat->Bool)(sc ct:Nat->Int)(k:Nat):Bool:=(List.range k).all λi=>Le (wd i) (sc i) (ct i)
def rh a c b k:Th a c b (k+1)=(Th a c b k&&Le (a k) (c k) (b k)):=by unfold Th;grind
def Zjl{b d c k a}(h:k<a)(e:Le (b k) (d k) (c k)=false):Th b d c a=false:=by unfold Th;grind
def Zh b d c s l j m w (g:Dd w b d c l j m):C_ 95 #[.slice (some ⟨b,d,none⟩) c s] w λe w'=>e=.returned (.bool (Th l j m c))/\Below w.heap.size w w':=by
 have q:=g.le;unfold maxLen at q;go_enter Tryz.func95,Tryz.ntmps95;go_wp2_with fail
 go_loopw [7] (λi wr=>∃k:Nat,k<=c/\i=.int .i64 k/\Th l j m k=true/\E_ w wr) (λi _=>c-(intOf i).toNat)
 case atStart=>exact⟨0,qg_,rfl,rfl,bz_⟩
 case round=>
  obtain⟨k,y,rfl,f,a⟩:=hrel
  by_cases hlt:k<c
  ·have r:=g.lt o_;have z:=(a.cell (p:=(A_ b (d+k*3))) r).trans (g.c0 k hlt);have x:=(a.cell (p:=(A_ b (d+k*3+1))) r).trans (g.c1 k hlt);have v:=(a.cell (p:=(A_ b (d+k*3+2))) r).trans (g.c2 k hlt);go_wp2_with fail
   refine(pi _ _ _ _).mono ?_;rintro e u ⟨rfl,t⟩;have h:=(a.alloc a.size _).trans (t.mono (by have:=a.size;simp;omega))
   cases hfe:Le (l k) (j k) (m k)
   ·have o:=x1_ hfe;go_wp2;go_ret;refine⟨?_,h⟩;exact Vv (Zjl hlt o).symm
   have o:=x1_ hfe;refine rd_ ?_;exact⟨k+1,o_,g_,by rw[rh,f,o];rfl,h⟩
  have n:c=k:=o_;subst n;go_wp2;go_ret;exact⟨Vv f.symm,a⟩
def Wg a b w:C_ 95 #[.slice a 0 b] w λe w'=>e=.returned (.bool true)/\Below w.heap.size w w':=by
 go_enter Tryz.func95,Tryz.ntmps95;go_wp2_with fail
 go_loopw [7] (λi wr=>i=.int .i64 0/\wr=w) (λi _=>0)
 case atStart=>grind
 case round=>
  obtain⟨rfl,rfl⟩:=hrel;go_wp2;go_ret;exact⟨rfl,bz_⟩
def Ej(w:World)(a:Option Addr)(len:Nat)(wd:Nat->Bool)(sc ct:Nat->Int):Prop:=
 len=0∨∃b off,a=some ⟨b,off,none⟩/\Dd w b off len wd sc ct
def ot a c d g i h w (f:Ej w a c g i h):C_ 95 #[.slice a c d] w λe w'=>e=.returned (.bool (Th g i h c))/\Below w.heap.size w w':=by
 rcases f with rfl|⟨b,j,rfl,f⟩
 exact Wg a _ w;exact Zh b _ _ _ _ _ _ w f
def Dd.below{w w' b off len wd sc ct}(h:Dd w b off len wd sc ct)(hb:Below w.heap.size w w'):Dd w' b off len wd sc ct:=
 ⟨h.le,λh0=>Qh (h.lt h0) hb.size,λi hi=>(hb.cell (p:=(A_ b _)) (h.lt o_)).trans (h.c0 i hi),λi hi=>(hb.cell (p:=(A_ b _)) (h.lt o_)).trans (h.c1 i hi),λi hi=>(hb.cell (p:=(A_ b _)) (h.lt o_)).trans (h.c2 i hi)⟩
def Ej.below{w e a c f i g}(h:Ej w a c f i g)(j:Below w.heap.size w e):Ej e a c f i g:=by
 rcases h with rfl|⟨b,d,rfl,k⟩
 exact Or.inl rfl;exact Or.inr ⟨b,d,rfl,k.below j⟩
def Zhv(b:Bool):Int:=if b=true then 0 else 1
def Hz(len:Nat)(bins size budget:Int)(wd:Nat->Bool)(sc ct:Nat->Int):Bool:=
 decide ((1:Int)<=len/\(len:Int)<=4/\2<=bins/\bins<=16/\bins<=size/\size<=32/\0<=budget/\budget<=20)&&Th wd sc ct len
def Ve a c g f d b i k j w (m:c<=maxLen)(l:Ej w a c i k j):C_ 56 #[.agg #[.slice a c g,.int .i64 f,.int .i64 d,.int .i64 b]] w λe w'=>e=.returned (.bool (Hz c f d b i k j))/\Below w.heap.size w w':=by
 unfold maxLen at m;go_enter Tryz.func56,Tryz.ntmps56;go_wp2_with (first|(go_at_call 95;refine(ot _ _ _ _ _ _ _ (l.below bA_)).mono ?_;rintro e n ⟨rfl,h⟩)|go_in)
 all_goals go_ret
 ·refine⟨Vv ?_,bA_.trans (h.mono s_)⟩;unfold Hz
  grind
 all_goals exact⟨Vv (by simp[Hz];omega),bA_⟩
def Kd n w:C_ 68 #[.int .i64 n] w λe w'=>e=.returned (.int .i64 n)/\w'=w:=by go_enter Tryz.func68,Tryz.ntmps68;go_wp2;go_ret;exact⟨rfl,rfl⟩
end Go.Proofs.YtfcgnpchbcmdeaaGreat
