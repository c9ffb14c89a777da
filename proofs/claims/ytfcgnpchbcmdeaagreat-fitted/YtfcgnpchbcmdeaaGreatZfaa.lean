import Derived.Test.YtfcgnpchbcmdeaaGreatProg
import Derived.WalkKit
import Derived.WalkSpells
import Derived.WalkLawsBesides
import Derived.Test.YtfcgnpchbcmdeaaGreatZf00
namespace Go.Proofs.YtfcgnpchbcmdeaaGreat
set_option linter.unusedSimpArgs false
set_option maxHeartbeats 1000000
open Go.RowKit
theorem Zdz{a b:Bool}(h:a=b):Ending.returned (.bool a)=.returned (.bool b):=by rw[h]
theorem Zkw(n lo hi:Int)(w:World):Calls Tryz.prog 61 #[.int .i64 n,.int .i64 lo,.int .i64 hi] w fun e w'=>e=.returned (.bool (decide (lo<=n)&&decide (n<=hi)))/\w'=w:=by
 go_enter Tryz.func61,Tryz.ntmps61;go_wp2
 all_goals go_ret
 all_goals exact⟨by simp[*]<;>omega,rfl⟩
theorem Zkx(n lo hi:Int)(w:World)(h:lo<=n/\n<=hi):Calls Tryz.prog 61 #[.int .i64 n,.int .i64 lo,.int .i64 hi] w fun e w'=>e=.returned (.bool true)/\w'=w:=by refine(Zkw n lo hi w).mono ?_;rintro e w' ⟨rfl,rfl⟩;exact⟨by simp[h],rfl⟩
def Zaa(wd:Bool)(sc ct:Int):Bool:=if wd=true then decide (sc=0/\1<=ct/\ct<=1000) else decide (0<=sc/\sc<=3/\ct=0)
theorem Zgd(wd:Bool)(sc ct:Int)(w:World):Calls Tryz.prog 159 #[.agg #[.bool wd,.int .i64 sc,.int .i64 ct]] w fun e w'=>e=.returned (.bool (Zaa wd sc ct))/\Below w.heap.size w w':=by
 cases wd
 ·go_enter Tryz.func159,Tryz.ntmps159;go_wp2
  all_goals go_ret
  all_goals refine⟨?_,(Below.refl _ _).alloc (Qa _) _⟩
  all_goals (refine congrArg (fun b=>Ending.returned (.bool b)) (Bool.eq_iff_iff.2 ?_);simp[Zaa]<;>omega)
 go_enter Tryz.func159,Tryz.ntmps159;go_wp2
 all_goals go_ret
 all_goals refine⟨?_,(Below.refl _ _).alloc (Qa _) _⟩
 all_goals (refine congrArg (fun b=>Ending.returned (.bool b)) (Bool.eq_iff_iff.2 ?_);simp[Zaa]<;>omega)
structure YU(w:World)(b off len:Nat)(wd:Nat->Bool)(sc ct:Nat->Int):Prop where
 le:len<=maxLen
 lt:0<len->b<w.heap.size
 c0:∀i,i<len->w.cell? ⟨b,off+i*3,none⟩=some (.bool (wd i))
 c1:∀i,i<len->w.cell? ⟨b,off+i*3+1,none⟩=some (.int .i64 (sc i))
 c2:∀i,i<len->w.cell? ⟨b,off+i*3+2,none⟩=some (.int .i64 (ct i))
def ZeU(wd:Nat->Bool)(sc ct:Nat->Int)(k:Nat):Bool:=(List.range k).all fun i=>Zaa (wd i) (sc i) (ct i)
theorem Zll(wd:Nat->Bool)(sc ct:Nat->Int)(k:Nat):ZeU wd sc ct (k+1)=(ZeU wd sc ct k&&Zaa (wd k) (sc k) (ct k)):=by unfold ZeU;rw[List.range_succ,List.all_append];simp
theorem ZnJ{wd:Nat->Bool}{sc ct:Nat->Int}{k len:Nat}(h:k<len)(hf:Zaa (wd k) (sc k) (ct k)=false):ZeU wd sc ct len=false:=by unfold ZeU;rw[List.all_eq_false];exact⟨k,by simpa using h,by simp[hf]⟩
theorem Zes(b off len cap:Nat)(wd:Nat->Bool)(sc ct:Nat->Int)(w:World)(hF:YU w b off len wd sc ct):Calls Tryz.prog 95 #[.slice (some ⟨b,off,none⟩) len cap] w fun e w'=>e=.returned (.bool (ZeU wd sc ct len))/\Below w.heap.size w w':=by
 have hle:=hF.le;unfold maxLen at hle;go_enter Tryz.func95,Tryz.ntmps95;go_wp2_with fail
 go_loopw [7] (fun i wr=>∃k:Nat,k<=len/\i=.int .i64 k/\ZeU wd sc ct k=true/\Below w.heap.size w wr) (fun i _=>len-(intOf i).toNat)
 case atStart=>exact⟨0,Qg _,rfl,rfl,Below.refl _ _⟩
 case round=>
  obtain⟨k,hk,rfl,hall,hbel⟩:=hrel
  by_cases hlt:k<len
  ·have hb:=hF.lt (by omega);have h0:wr.cell? ⟨b,off+k*3,none⟩=some (.bool (wd k)):=(hbel.cell (p:=⟨b,off+k*3,none⟩) hb).trans (hF.c0 k hlt);have h1:wr.cell? ⟨b,off+k*3+1,none⟩=some (.int .i64 (sc k)):=(hbel.cell (p:=⟨b,off+k*3+1,none⟩) hb).trans (hF.c1 k hlt);have h2:wr.cell? ⟨b,off+k*3+2,none⟩=some (.int .i64 (ct k)):=(hbel.cell (p:=⟨b,off+k*3+2,none⟩) hb).trans (hF.c2 k hlt);go_wp2_with fail
   refine(Zgd _ _ _ _).mono ?_;rintro e w1 ⟨rfl,hb1⟩;have hbw:Below w.heap.size w w1:=(hbel.alloc hbel.size _).trans (hb1.mono (by have:=hbel.size;simp;omega));clear hb1 h0 h1 h2
   cases hfe:Zaa (wd k) (sc k) (ct k)
   ·have HF:Hid (Zaa (wd k) (sc k) (ct k)=false):=hfe;clear hfe;go_wp2;go_ret;refine⟨?_,hbw⟩;exact Zdz (ZnJ hlt HF.out).symm
   have HF:Hid (Zaa (wd k) (sc k) (ct k)=true):=hfe;clear hfe;go_wp2;go_roundw;case rel=>exact⟨k+1,by omega,by go_num,by rw[Zll,hall,HF.out];rfl,hbw⟩
   case measure=>simp[intOf];omega
  have hkl:len=k:=(by omega);subst hkl;go_wp2;go_ret;exact⟨Zdz hall.symm,hbel⟩
theorem ZdI(a:Option Addr)(cap:Nat)(w:World):Calls Tryz.prog 95 #[.slice a 0 cap] w fun e w'=>e=.returned (.bool true)/\Below w.heap.size w w':=by
 go_enter Tryz.func95,Tryz.ntmps95;go_wp2_with fail
 go_loopw [7] (fun i wr=>i=.int .i64 0/\wr=w) (fun i _=>0)
 case atStart=>exact⟨rfl,rfl⟩
 case round=>
  obtain⟨rfl,rfl⟩:=hrel;go_wp2;go_ret;exact⟨rfl,Below.refl _ _⟩
def ZeR(w:World)(a:Option Addr)(len:Nat)(wd:Nat->Bool)(sc ct:Nat->Int):Prop:=
 len=0∨∃b off,a=some ⟨b,off,none⟩/\YU w b off len wd sc ct
theorem Zf4(a:Option Addr)(len cap:Nat)(wd:Nat->Bool)(sc ct:Nat->Int)(w:World)(hF:ZeR w a len wd sc ct):Calls Tryz.prog 95 #[.slice a len cap] w fun e w'=>e=.returned (.bool (ZeU wd sc ct len))/\Below w.heap.size w w':=by
 rcases hF with rfl|⟨b,off,rfl,hF⟩
 exact ZdI a cap w;exact Zes b off len cap wd sc ct w hF
theorem YU.below{w w':World}{b off len:Nat}{wd:Nat->Bool}{sc ct:Nat->Int}(h:YU w b off len wd sc ct)(hb:Below w.heap.size w w'):YU w' b off len wd sc ct:=
 ⟨h.le,fun h0=>Qh (h.lt h0) hb.size,fun i hi=>(hb.cell (p:=⟨b,_,none⟩) (h.lt (by omega))).trans (h.c0 i hi),fun i hi=>(hb.cell (p:=⟨b,_,none⟩) (h.lt (by omega))).trans (h.c1 i hi),fun i hi=>(hb.cell (p:=⟨b,_,none⟩) (h.lt (by omega))).trans (h.c2 i hi)⟩
theorem ZeR.below{w w':World}{a:Option Addr}{len:Nat}{wd:Nat->Bool}{sc ct:Nat->Int}(h:ZeR w a len wd sc ct)(hb:Below w.heap.size w w'):ZeR w' a len wd sc ct:=by
 rcases h with rfl|⟨b,off,rfl,hF⟩
 exact Or.inl rfl;exact Or.inr ⟨b,off,rfl,hF.below hb⟩
def Zb3(len:Nat)(bins size budget:Int)(wd:Nat->Bool)(sc ct:Nat->Int):Bool:=
 decide ((1:Int)<=len/\(len:Int)<=4/\2<=bins/\bins<=16/\bins<=size/\size<=32/\0<=budget/\budget<=20)&&ZeU wd sc ct len
theorem Zhx(a:Option Addr)(len cap:Nat)(bins size budget:Int)(wd:Nat->Bool)(sc ct:Nat->Int)(w:World)(hl:len<=maxLen)(hF:ZeR w a len wd sc ct):Calls Tryz.prog 56 #[.agg #[.slice a len cap,.int .i64 bins,.int .i64 size,.int .i64 budget]] w fun e w'=>e=.returned (.bool (Zb3 len bins size budget wd sc ct))/\Below w.heap.size w w':=by
 unfold maxLen at hl;go_enter Tryz.func56,Tryz.ntmps56;go_wp2_with (first|(go_at_call 95;refine(Zf4 _ _ _ wd sc ct _ (hF.below ((Below.refl _ _).alloc (Qa _) _))).mono ?_;rintro e w1 ⟨rfl,hb1⟩)|go_in)
 all_goals go_ret
 refine⟨Zdz ?_,((Below.refl _ _).alloc (Qa _) _).trans (hb1.mono (by simp))⟩;unfold Zb3;rw[decide_eq_true (by omega),Bool.true_and]
 all_goals exact⟨Zdz (by simp[Zb3];omega),(Below.refl _ _).alloc (Qa _) _⟩
end Go.Proofs.YtfcgnpchbcmdeaaGreat
