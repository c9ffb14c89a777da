import Derived.Test.YtfcgnpchbcmdeaaGreatHdc
import Derived.WalkSpells
import Derived.WalkLawsBesides
namespace Go.Proofs.YtfcgnpchbcmdeaaGreat
set_option linter.all false
set_option maxHeartbeats 1000000
open Go.RowKit
def Vu{a b}(h:a=b):Ending.returned (.bool a)=.returned (.bool b):=by rw[h]
def mj n b a w:C_ 61 #[.int .i64 n,.int .i64 b,.int .i64 a] w λe w'=>e=.returned (.bool (decide (b<=n)&&decide (n<=a)))/\w'=w:=by
 go_enter Tryz.func61,Tryz.ntmps61;go_wp2
 all_goals go_ret
 all_goals exact⟨by simp[*]<;>omega,rfl⟩
def mo n a b w (h:a<=n/\n<=b):C_ 61 #[.int .i64 n,.int .i64 a,.int .i64 b] w λe w'=>e=.returned (.bool true)/\w'=w:=by
 refine(mj n _ _ w).mono ?_
 grind
def Zgy n a b w (h:¬(a<=n/\n<=b)):C_ 61 #[.int .i64 n,.int .i64 a,.int .i64 b] w λe w'=>e=.returned (.bool false)/\w'=w:=by
 refine(mj n _ _ w).mono ?_
 grind
def Lc(wd:Bool)(sc ct:Int):Bool:=if wd=true then decide (sc=0/\1<=ct/\ct<=1000) else decide (0<=sc/\sc<=3/\ct=0)
def pu a d c w:C_ 159 #[.agg #[.bool a,.int .i64 d,.int .i64 c]] w λe w'=>e=.returned (.bool (Lc a d c))/\Below w.heap.size w w':=by
 cases a
 ·go_enter Tryz.func159,Tryz.ntmps159;go_wp2
  all_goals go_ret
  all_goals refine⟨?_,bA_⟩
  all_goals (refine congrArg (λb=>Ending.returned (.bool b)) (Bool.eq_iff_iff.2 ?_);simp[Lc]<;>omega)
 go_enter Tryz.func159,Tryz.ntmps159;go_wp2
 all_goals go_ret
 all_goals refine⟨?_,bA_⟩
 all_goals (refine congrArg (λb=>Ending.returned (.bool b)) (Bool.eq_iff_iff.2 ?_);simp[Lc]<;>omega)
structure Dd(w:World)(b off len)(wd:Nat->Bool)(sc ct:Nat->Int):Prop where
 le:len<=maxLen
 lt:0<len->b<w.heap.size
 c0:∀i,i<len->w.cell? (A_ b (off+i*3))=some (.bool (wd i))
 c1:∀i,i<len->w.cell? (A_ b (off+i*3+1))=some (I_ (sc i))
 c2:∀i,i<len->w.cell? (A_ b (off+i*3+2))=some (I_ (ct i))
def Tf(wd:Nat->Bool)(sc ct:Nat->Int)(k:Nat):Bool:=(List.range k).all λi=>Lc (wd i) (sc i) (ct i)
def rj b c a k:Tf b c a (k+1)=(Tf b c a k&&Lc (b k) (c k) (a k)):=by unfold Tf;grind
def Zjo{c d b k a}(h:k<a)(e:Lc (c k) (d k) (b k)=false):Tf c d b a=false:=by unfold Tf;grind
def Zi b d c s l m j w (h:Dd w b d c l m j):C_ 95 #[.slice (some ⟨b,d,none⟩) c s] w λe w'=>e=.returned (.bool (Tf l m j c))/\Below w.heap.size w w':=by
 have r:=h.le;unfold maxLen at r;go_enter Tryz.func95,Tryz.ntmps95;go_wp2_with fail
 go_loopw [7] (λi wr=>∃k:Nat,k<=c/\i=.int .i64 k/\Tf l m j k=true/\E_ w wr) (λi _=>c-(intOf i).toNat)
 case atStart=>exact⟨0,qg_,rfl,rfl,bz_⟩
 case round=>
  obtain⟨k,v,rfl,f,a⟩:=hrel
  by_cases hlt:k<c
  ·have q:=h.lt o_;have x:=(a.cell (p:=(A_ b (d+k*3))) q).trans (h.c0 k hlt);have y:=(a.cell (p:=(A_ b (d+k*3+1))) q).trans (h.c1 k hlt);have z:=(a.cell (p:=(A_ b (d+k*3+2))) q).trans (h.c2 k hlt);go_wp2_with fail
   refine(pu _ _ _ _).mono ?_;rintro e u ⟨rfl,t⟩;have g:=(a.alloc a.size _).trans (t.mono (by have:=a.size;simp;omega))
   cases hfe:Lc (l k) (m k) (j k)
   ·have n:=x1_ hfe;go_wp2;go_ret;refine⟨?_,g⟩;exact Vu (Zjo hlt n).symm
   have n:=x1_ hfe;refine rd_ ?_;exact⟨k+1,o_,g_,by rw[rj,f,n];rfl,g⟩
  have o:c=k:=o_;subst o;go_wp2;go_ret;exact⟨Vu f.symm,a⟩
def Wg a b w:C_ 95 #[.slice a 0 b] w λe w'=>e=.returned (.bool true)/\Below w.heap.size w w':=by
 go_enter Tryz.func95,Tryz.ntmps95;go_wp2_with fail
 go_loopw [7] (λi wr=>i=.int .i64 0/\wr=w) (λi _=>0)
 case atStart=>grind
 case round=>
  obtain⟨rfl,rfl⟩:=hrel;go_wp2;go_ret;exact⟨rfl,bz_⟩
def Ej(w:World)(a:Option Addr)(len:Nat)(wd:Nat->Bool)(sc ct:Nat->Int):Prop:=
 len=0∨∃b off,a=some ⟨b,off,none⟩/\Dd w b off len wd sc ct
def ox a c f i g h w (d:Ej w a c i g h):C_ 95 #[.slice a c f] w λe w'=>e=.returned (.bool (Tf i g h c))/\Below w.heap.size w w':=by
 rcases d with rfl|⟨b,j,rfl,d⟩
 exact Wg a _ w;exact Zi b _ _ _ _ _ _ w d
def Dd.below{w w' b off len wd sc ct}(h:Dd w b off len wd sc ct)(hb:Below w.heap.size w w'):Dd w' b off len wd sc ct:=
 ⟨h.le,λh0=>Qh (h.lt h0) hb.size,λi hi=>(hb.cell (p:=(A_ b _)) (h.lt o_)).trans (h.c0 i hi),λi hi=>(hb.cell (p:=(A_ b _)) (h.lt o_)).trans (h.c1 i hi),λi hi=>(hb.cell (p:=(A_ b _)) (h.lt o_)).trans (h.c2 i hi)⟩
def Ej.below{w f a c i e g}(h:Ej w a c i e g)(j:Below w.heap.size w f):Ej f a c i e g:=by
 rcases h with rfl|⟨b,d,rfl,k⟩
 exact Or.inl rfl;exact Or.inr ⟨b,d,rfl,k.below j⟩
def Zhx(b:Bool):Int:=if b=true then 0 else 1
def Hz(len:Nat)(bins size budget:Int)(wd:Nat->Bool)(sc ct:Nat->Int):Bool:=
 decide ((1:Int)<=len/\(len:Int)<=4/\2<=bins/\bins<=16/\bins<=size/\size<=32/\0<=budget/\budget<=20)&&Tf wd sc ct len
def Vc a c g d f b k i j w (l:c<=maxLen)(m:Ej w a c k i j):C_ 56 #[.agg #[.slice a c g,.int .i64 d,.int .i64 f,.int .i64 b]] w λe w'=>e=.returned (.bool (Hz c d f b k i j))/\Below w.heap.size w w':=by
 unfold maxLen at l;go_enter Tryz.func56,Tryz.ntmps56;go_wp2_with (first|(go_at_call 95;refine(ox _ _ _ _ _ _ _ (m.below bA_)).mono ?_;rintro e n ⟨rfl,h⟩)|go_in)
 all_goals go_ret
 ·refine⟨Vu ?_,bA_.trans (h.mono s_)⟩;unfold Hz
  grind
 all_goals exact⟨Vu (by simp[Hz];omega),bA_⟩
def Kb n w:C_ 68 #[.int .i64 n] w λe w'=>e=.returned (.int .i64 n)/\w'=w:=by go_enter Tryz.func68,Tryz.ntmps68;go_wp2;go_ret;exact⟨rfl,rfl⟩
end Go.Proofs.YtfcgnpchbcmdeaaGreat
