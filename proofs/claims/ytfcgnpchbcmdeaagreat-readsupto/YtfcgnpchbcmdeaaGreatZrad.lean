import Derived.Test.YtfcgnpchbcmdeaaGreatHdc
import Derived.WalkSpells
import Derived.WalkLawsBesides
namespace Go.Proofs.YtfcgnpchbcmdeaaGreat
set_option linter.all false
set_option maxHeartbeats 1000000
open Go.RowKit
def Vu{a b}(h:a=b):Ending.returned (.bool a)=.returned (.bool b):=by rw[h]
def mj n b a w:C_ 61 #[.int .i64 n,.int .i64 b,.int .i64 a] w λe w'=>e=.returned (.bool (decide (b<=n)&&decide (n<=a)))/\w'=w:=by
 go_enter Tryz.func61,Tryz.ntmps61;go_wp2
 all_goals go_ret
 all_goals exact⟨by simp[*]<;>omega,rfl⟩
def mo n b a w (h:b<=n/\n<=a):C_ 61 #[.int .i64 n,.int .i64 b,.int .i64 a] w λe w'=>e=.returned (.bool true)/\w'=w:=by
 refine(mj n _ _ w).mono ?_
 grind
def Zgy n b a w (h:¬(b<=n/\n<=a)):C_ 61 #[.int .i64 n,.int .i64 b,.int .i64 a] w λe w'=>e=.returned (.bool false)/\w'=w:=by
 refine(mj n _ _ w).mono ?_
 grind
def Lc(wd:Bool)(sc ct:Int):Bool:=if wd=true then decide (sc=0/\1<=ct/\ct<=1000) else decide (0<=sc/\sc<=3/\ct=0)
def pu a c d w:C_ 159 #[.agg #[.bool a,.int .i64 c,.int .i64 d]] w λe w'=>e=.returned (.bool (Lc a c d))/\Below w.heap.size w w':=by
 cases a
 ·go_enter Tryz.func159,Tryz.ntmps159;go_wp2
  all_goals go_ret
  all_goals refine⟨?_,bA_⟩
  all_goals (refine congrArg (λb=>Ending.returned (.bool b)) (Bool.eq_iff_iff.2 ?_);simp[Lc]<;>omega)
 go_enter Tryz.func159,Tryz.ntmps159;go_wp2
 all_goals go_ret
 all_goals refine⟨?_,bA_⟩
 all_goals (refine congrArg (λb=>Ending.returned (.bool b)) (Bool.eq_iff_iff.2 ?_);simp[Lc]<;>omega)
structure Dd(w:World)(b off len)(wd:Nat->Bool)(sc ct:Nat->Int):Prop where
 le:len<=maxLen
 lt:0<len->b<w.heap.size
 c0:∀i,i<len->w.cell? (A_ b (off+i*3))=some (.bool (wd i))
 c1:∀i,i<len->w.cell? (A_ b (off+i*3+1))=some (I_ (sc i))
 c2:∀i,i<len->w.cell? (A_ b (off+i*3+2))=some (I_ (ct i))
def Tf(wd:Nat->Bool)(sc ct:Nat->Int)(k:Nat):Bool:=(List.range k).all λi=>Lc (wd i) (sc i) (ct i)
def rj a b c k:Tf a b c (k+1)=(Tf a b c k&&Lc (a k) (b k) (c k)):=by unfold Tf;grind
def Zjn{b c d k a}(h:k<a)(e:Lc (b k) (c k) (d k)=false):Tf b c d a=false:=by unfold Tf;grind
def Zi b d c s m j l w (h:Dd w b d c m j l):C_ 95 #[.slice (some ⟨b,d,none⟩) c s] w λe w'=>e=.returned (.bool (Tf m j l c))/\Below w.heap.size w w':=by
 have n:=h.le;unfold maxLen at n;go_enter Tryz.func95,Tryz.ntmps95;go_wp2_with fail
 go_loopw [7] (λi wr=>∃k:Nat,k<=c/\i=.int .i64 k/\Tf m j l k=true/\E_ w wr) (λi _=>c-(intOf i).toNat)
 case atStart=>exact⟨0,qg_,rfl,rfl,bz_⟩
 case round=>
  obtain⟨k,v,rfl,f,a⟩:=hrel
  by_cases hlt:k<c
  ·have r:=h.lt o_;have x:=(a.cell (p:=(A_ b (d+k*3))) r).trans (h.c0 k hlt);have z:=(a.cell (p:=(A_ b (d+k*3+1))) r).trans (h.c1 k hlt);have y:=(a.cell (p:=(A_ b (d+k*3+2))) r).trans (h.c2 k hlt);go_wp2_with fail
   refine(pu _ _ _ _).mono ?_;rintro e u ⟨rfl,q⟩;have g:=(a.alloc a.size _).trans (q.mono (by have:=a.size;simp;omega))
   cases hfe:Lc (m k) (j k) (l k)
   ·have t:=x1_ hfe;go_wp2;go_ret;refine⟨?_,g⟩;exact Vu (Zjn hlt t).symm
   have t:=x1_ hfe;refine rd_ ?_;exact⟨k+1,o_,g_,by rw[rj,f,t];rfl,g⟩
  have o:c=k:=o_;subst o;go_wp2;go_ret;exact⟨Vu f.symm,a⟩
def Wg a b w:C_ 95 #[.slice a 0 b] w λe w'=>e=.returned (.bool true)/\Below w.heap.size w w':=by
 go_enter Tryz.func95,Tryz.ntmps95;go_wp2_with fail
 go_loopw [7] (λi wr=>i=.int .i64 0/\wr=w) (λi _=>0)
 case atStart=>grind
 case round=>
  obtain⟨rfl,rfl⟩:=hrel;go_wp2;go_ret;exact⟨rfl,bz_⟩
def Ej(w:World)(a:Option Addr)(len:Nat)(wd:Nat->Bool)(sc ct:Nat->Int):Prop:=
 len=0∨∃b off,a=some ⟨b,off,none⟩/\Dd w b off len wd sc ct
def ox a c d i h g w (f:Ej w a c i h g):C_ 95 #[.slice a c d] w λe w'=>e=.returned (.bool (Tf i h g c))/\Below w.heap.size w w':=by
 rcases f with rfl|⟨b,j,rfl,f⟩
 exact Wg a _ w;exact Zi b _ _ _ _ _ _ w f
def Dd.below{w w' b off len wd sc ct}(h:Dd w b off len wd sc ct)(hb:Below w.heap.size w w'):Dd w' b off len wd sc ct:=
 ⟨h.le,λh0=>Qh (h.lt h0) hb.size,λi hi=>(hb.cell (p:=(A_ b _)) (h.lt o_)).trans (h.c0 i hi),λi hi=>(hb.cell (p:=(A_ b _)) (h.lt o_)).trans (h.c1 i hi),λi hi=>(hb.cell (p:=(A_ b _)) (h.lt o_)).trans (h.c2 i hi)⟩
def Ej.below{w g a c f i e}(h:Ej w a c f i e)(j:Below w.heap.size w g):Ej g a c f i e:=by
 rcases h with rfl|⟨b,d,rfl,k⟩
 exact Or.inl rfl;exact Or.inr ⟨b,d,rfl,k.below j⟩
def Zhx(b:Bool):Int:=if b=true then 0 else 1
def Hz(len:Nat)(bins size budget:Int)(wd:Nat->Bool)(sc ct:Nat->Int):Bool:=
 decide ((1:Int)<=len/\(len:Int)<=4/\2<=bins/\bins<=16/\bins<=size/\size<=32/\0<=budget/\budget<=20)&&Tf wd sc ct len
def Vc a c g d f b k j i w (m:c<=maxLen)(l:Ej w a c k j i):C_ 56 #[.agg #[.slice a c g,.int .i64 d,.int .i64 f,.int .i64 b]] w λe w'=>e=.returned (.bool (Hz c d f b k j i))/\Below w.heap.size w w':=by
 unfold maxLen at m;go_enter Tryz.func56,Tryz.ntmps56;go_wp2_with (first|(go_at_call 95;refine(ox _ _ _ _ _ _ _ (l.below bA_)).mono ?_;rintro e n ⟨rfl,h⟩)|go_in)
 all_goals go_ret
 ·refine⟨Vu ?_,bA_.trans (h.mono s_)⟩;unfold Hz
  grind
 all_goals exact⟨Vu (by simp[Hz];omega),bA_⟩
def Kb n w:C_ 68 #[.int .i64 n] w λe w'=>e=.returned (.int .i64 n)/\w'=w:=by go_enter Tryz.func68,Tryz.ntmps68;go_wp2;go_ret;exact⟨rfl,rfl⟩
end Go.Proofs.YtfcgnpchbcmdeaaGreat
