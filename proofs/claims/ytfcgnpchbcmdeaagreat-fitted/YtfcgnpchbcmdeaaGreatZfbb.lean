import Derived.Test.YtfcgnpchbcmdeaaGreatZfas
namespace Go.Proofs.YtfcgnpchbcmdeaaGreat
set_option linter.unusedSimpArgs false
set_option maxRecDepth 100000
set_option maxHeartbeats 4000000
open Go.RowKit
def Yf:Except (Int×Nat) RS->Int×Int
  |.error (z,p)=>(z,p)
  |.ok _=>(0,0)
def ZhZ(w:World)(ib:Nat)(cl:Bool)(z p:Int):Prop:=w.heap[ib]? =some (.cells #[.pointer none,.bool cl,.int .i64 z,.int .i64 p] 119 (0,0))
section
variable {w:World} {K M:Nat->Prop} {ib tb rb fb cb n:Nat} {wd:Nat->Bool} {sc ct:Nat->Int} {bins size budget:Int} {s:RS} {len:Nat}
theorem Zh0.drewN{o:Except (Int×Nat) RS}{w':World}(h:Zh0 w K M ib tb rb fb cb n wd sc ct bins size budget len o w')(m:Nat):Zh0 w K M ib tb rb fb cb n wd sc ct bins size budget len o (w'.drewN m):=by
 obtain⟨h1,h2⟩:=h;refine⟨?_,⟨h2.os,h2.tape,h2.output,h2.size,h2.block⟩⟩
 cases o with
 |error q=>exact h1
 | ok s'=>
  obtain⟨M',hX,hM⟩:=h1;exact⟨M',⟨hX.ik,hX.tx,hX.rd.touch (w':=w'.drewN m) (S:=fun _=>False) ⟨rfl,rfl,rfl,Qa _,fun _ _ _=>rfl⟩ (fun _ _=>id),hX.ni,hX.nt⟩,hM⟩
theorem ZmV(b:ByteArray)(hX:InX w K M ib tb rb fb cb n wd sc ct bins size budget s len)(hI:QD n s)(hn1:1<=n)(hn:n<=4)(hsc:∀i,i<n->wd i=false->0<=sc i/\sc i<=3)(hlen:len+b.size<=4000000000000000000):Calls Tryz.prog 32 #[.pointer (some ⟨ib,0,none⟩),.string b] w fun e w'=>e=.returned (.tuple #[.int .i64 (Yf (Zj n wd sc s (Zb b) len)).1,.int .i64 (Yf (Zj n wd sc s (Zb b) len)).2])/\Zh0 w K M ib tb rb fb cb n wd sc ct bins size budget (len+b.size) (Zj n wd sc s (Zb b) len) w':=by
 have HC:Hid (Calls Tryz.prog 58 #[.pointer (some ⟨ib,0,none⟩),.string b] w fun e w'=>e=.returned (.tuple #[])/\Zh0 w K M ib tb rb fb cb n wd sc ct bins size budget (len+b.size) (Zj n wd sc s (Zb b) len) w'):=ZjS b hX hI hn1 hn hsc hlen;have i1:w.cell? ⟨ib,1,none⟩=some (.bool false):=cell_of_row _ _ 1 _ 119 (0,0) hX.ik;have i2:w.cell? ⟨ib,2,none⟩=some (.int .i64 0):=cell_of_row _ _ 2 _ 119 (0,0) hX.ik;clear hX;go_enter Tryz.func32,Tryz.ntmps32;go_wp2_with fail
 refine HC.out.mono ?_;rintro e w1 ⟨rfl,hF⟩;have HF:Hid (Zh0 w K M ib tb rb fb cb n wd sc ct bins size budget (len+b.size) (Zj n wd sc s (Zb b) len) w1):=hF
 have hc:w1.cell? ⟨ib,2,none⟩=some (.int .i64 (Yf (Zj n wd sc s (Zb b) len)).1)/\w1.cell? ⟨ib,3,none⟩=some (.int .i64 (Yf (Zj n wd sc s (Zb b) len)).2):=by
  cases hr:Zj n wd sc s (Zb b) len with
  | error q=>
   rw[hr] at hF;exact⟨cell_of_row _ _ 2 _ 119 (0,0) hF.1,cell_of_row _ _ 3 _ 119 (0,0) hF.1⟩
  | ok s'=>
   rw[hr] at hF;obtain⟨⟨M',hX,_⟩,_⟩:=hF;exact⟨cell_of_row _ _ 2 _ 119 (0,0) hX.ik,cell_of_row _ _ 3 _ 119 (0,0) hX.ik⟩
 obtain⟨c2,c3⟩:=hc;clear hF i1 i2 HC;go_wp2_with fail
 go_big_quiet (fail);go_wp2;go_ret2
 exact⟨rfl,HF.out.drewN _⟩
end
theorem ZjJ(b:ByteArray)(ib:Nat)(z p:Int)(w:World)(h:ZhZ w ib false z p)(hz:z=2∨z=3):Calls Tryz.prog 32 #[.pointer (some ⟨ib,0,none⟩),.string b] w fun e w'=>e=.returned (.tuple #[.int .i64 z,.int .i64 p])/\∃m,w'=w.drewN m:=by
 have i1:w.cell? ⟨ib,1,none⟩=some (.bool false):=cell_of_row _ _ 1 _ 119 (0,0) h;have i2:w.cell? ⟨ib,2,none⟩=some (.int .i64 z):=cell_of_row _ _ 2 _ 119 (0,0) h;have i3:w.cell? ⟨ib,3,none⟩=some (.int .i64 p):=cell_of_row _ _ 3 _ 119 (0,0) h;clear h
 rcases hz with rfl|rfl
 all_goals go_enter Tryz.func32,Tryz.ntmps32
 all_goals go_wp2_with fail
 all_goals go_big_quiet (fail)
 all_goals go_wp2
 all_goals go_ret2
 all_goals exact⟨rfl,_,rfl⟩
end Go.Proofs.YtfcgnpchbcmdeaaGreat
