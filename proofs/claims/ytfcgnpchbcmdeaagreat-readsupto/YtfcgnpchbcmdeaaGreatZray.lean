import Derived.Test.YtfcgnpchbcmdeaaGreatZran
import Derived.Laws.EntriesVeiled
namespace Go.Proofs.YtfcgnpchbcmdeaaGreat
set_option linter.all false
set_option maxRecDepth 100000
set_option maxHeartbeats 4000000
open Go.RowKit
def Zgr b f d j a k g i p c w (h:RB w b f (.slice d 200 j) a k g i p):C_ 98 #[.pointer (some ⟨b,0,none⟩),.int .u8 c] w λe w'=>e=.returned (.int .i64 3)/\w'=w:=by obtain⟨_,l,_,_,_,_⟩:=h.head;go_enter Tryz.func98,Tryz.ntmps98;go_wp2;go_ret;exact⟨rfl,rfl⟩
def Zlu:ZgT->Int
 |none=>2
 |_=>0
def Zb2 b l n f m k d q p c w (h:RB w b l (.slice n f m) k d false q p)(A:f<200)(v:0<=d)(r:d<=99)(j:0<=c)(i:c<=255):C_ 98 #[.pointer (some ⟨b,0,none⟩),.int .u8 c] w λe w'=>e=.returned (.int .i64 (Zlu (Bd d c)))/\∃e',ZkC b l (.slice n f m) k d false q p (Bd d c) w e' w':=by
 obtain⟨_,x,_,_,B,_⟩:=h.head;have t:((f:Int)==200)=_:=beq_eq_false_iff_ne.2 o_;have o:¬(f:Int)=200:=o_;have H:=x1_ h;go_enter Tryz.func98,Tryz.ntmps98;go_wp2_with fail
 refine(Xy b _ _ _ _ _ _ p c w H v r j i).mono ?_;rintro e y a;have u:=x1_ a
 have g:(e=.returned (.bool false)/\Zlu (Bd d c)=2)∨(e=.returned (.bool true)/\Zlu (Bd d c)=0):=by
  obtain⟨_,a⟩:=a
  rcases hw:Bd d c with _|_|z
  rw[hw] at a;exact .inl ⟨a.1,rfl⟩;rw[hw] at a;exact .inr ⟨a.1,rfl⟩;rw[hw] at a;exact .inr ⟨a.1,rfl⟩
 rcases g with⟨rfl,g⟩|⟨rfl,g⟩
 all_goals
  have s:=show Hid _ from g
  go_wp2;go_ret;rw[s];exact⟨rfl,_,u⟩
def Sv(f:Nat) w:C_ 212 #[.func (.func f) #[] #[]] w λe w'=>e=.returned (.func (.func 266) #[] #[.pointer (some ⟨w.heap.size,0,none⟩)])/\w'=w.alloc (.cells #[.func (.func f) #[] #[]] 261):=by go_enter Tryz.func212,Tryz.ntmps212;go_wp2;go_ret;exact⟨rfl,rfl⟩
structure Sn(w:World)(base)(v:Value)(cut bins):Prop where
 ex:∃k1 k2 k3:Nat,v=.agg #[.func (.func 209) #[] #[],.func (.func 210) #[] #[P_ k1,P_ k2],.func (.func 266) #[] #[P_ k3]]/\
  base<=k1/\base<=k2/\base<=k3/\w.heap[k1]? =some (.cells #[I_ cut] 3 (0,0))/\w.heap[k2]? =some (.cells #[I_ bins] 3 (0,0))/\w.heap[k3]? =some (.cells #[.func (.func 213) #[] #[]] 261 (0,0))
def Em(W:World) o n (h:W.heap.size=n):(W.alloc o).heap[n]? =some o:=by subst h;exact ha_ W o
def Zbs b a w:C_ 160 #[.int .i64 b,.int .i64 a] w λe w'=>∃v,e=.returned v/\Sn w' w.heap.size v b a/\Below w.heap.size w w':=by
 have j:Hid (∀W,Calls _ 212 #[.func (.func 213) #[] #[]] W λe w'=>_/\w'=W.alloc (.cells #[.func (.func 213) #[] #[]] 261)):=λW=>Sv _ W
 have c:Hid ((((w.alloc (.cells #[I_ b] 3)).alloc (.cells #[I_ a] 3)).alloc (.cells #[.nilFunc,.nilFunc,.nilFunc] 263)).heap[w.heap.size]? =some (.cells #[I_ b] 3 (0,0))/\(((w.alloc (.cells #[I_ b] 3)).alloc (.cells #[I_ a] 3)).alloc (.cells #[.nilFunc,.nilFunc,.nilFunc] 263)).heap[w.heap.size+1]? =some (.cells #[I_ a] 3 (0,0))/\(((w.alloc (.cells #[I_ b] 3)).alloc (.cells #[I_ a] 3)).alloc (.cells #[.nilFunc,.nilFunc,.nilFunc] 263)).heap[w.heap.size+1+1]? =some (.cells #[.nilFunc,.nilFunc,.nilFunc] 263 (0,0))/\E_ w (((w.alloc (.cells #[I_ b] 3)).alloc (.cells #[I_ a] 3)).alloc (.cells #[.nilFunc,.nilFunc,.nilFunc] 263))/\(((w.alloc (.cells #[I_ b] 3)).alloc (.cells #[I_ a] 3)).alloc (.cells #[.nilFunc,.nilFunc,.nilFunc] 263)).heap.size=w.heap.size+1+1+1):=
  ⟨(hc_ u_).trans ((hc_ s_).trans (Em _ _ _ rfl)),(hc_ s_).trans (Em _ _ _ s_),Em _ _ _ s_,(bA_.alloc s_ _).alloc u_ _,s_⟩
 go_enter Tryz.func160,Tryz.ntmps160;go_upto_region 1 with fail;generalize (((w.alloc (.cells #[I_ b] 3)).alloc (.cells #[I_ a] 3)).alloc (.cells #[.nilFunc,.nilFunc,.nilFunc] 263))=w3 at *;have f:(w3.alloc (.cells #[.func (.func 213) #[] #[]] 261)).heap[_]? =_:=(hc_ (by have:=c.2.2.2.2;omega)).trans c.2.2.1;have y:=cR_ 0 f;have u:=cR_ 1 f;have z:=cR_ 2 f;have C:=λo=>fq_ o _ _ f
 have d:((((w3.alloc (.cells #[.func (.func 213) #[] #[]] 261)).setCell (A_ (w.heap.size+1+1) 0) (.func (.func 209) #[] #[])).setCell (A_ (w.heap.size+1+1) 1) (.func (.func 210) #[] #[P_ w.heap.size,P_ (w.heap.size+1)])).setCell (A_ (w.heap.size+1+1) 2) (.func (.func 266) #[] #[P_ w3.heap.size])).heap[w.heap.size+1+1]? =some (.cells #[.func (.func 209) #[] #[],.func (.func 210) #[] #[P_ w.heap.size,P_ (w.heap.size+1)],.func (.func 266) #[] #[P_ w3.heap.size]] 263 (0,0)):=by have n:=ht_ 0 _ _ (.func (.func 209) #[] #[]) f;have m:=ht_ 1 _ _ (.func (.func 210) #[] #[P_ w.heap.size,P_ (w.heap.size+1)]) n;exact ht_ 2 _ _ _ m
 have t:Hid (((((w3.alloc (.cells #[.func (.func 213) #[] #[]] 261)).setCell (A_ (w.heap.size+1+1) 0) (.func (.func 209) #[] #[])).setCell (A_ (w.heap.size+1+1) 1) (.func (.func 210) #[] #[P_ w.heap.size,P_ (w.heap.size+1)])).setCell (A_ (w.heap.size+1+1) 2) (.func (.func 266) #[] #[P_ w3.heap.size])).cell? (A_ (w.heap.size+1+1) 0)=some (.func (.func 209) #[] #[])/\((((w3.alloc (.cells #[.func (.func 213) #[] #[]] 261)).setCell (A_ (w.heap.size+1+1) 0) (.func (.func 209) #[] #[])).setCell (A_ (w.heap.size+1+1) 1) (.func (.func 210) #[] #[P_ w.heap.size,P_ (w.heap.size+1)])).setCell (A_ (w.heap.size+1+1) 2) (.func (.func 266) #[] #[P_ w3.heap.size])).cell? (A_ (w.heap.size+1+1) 1)=some (.func (.func 210) #[] #[P_ w.heap.size,P_ (w.heap.size+1)])/\((((w3.alloc (.cells #[.func (.func 213) #[] #[]] 261)).setCell (A_ (w.heap.size+1+1) 0) (.func (.func 209) #[] #[])).setCell (A_ (w.heap.size+1+1) 1) (.func (.func 210) #[] #[P_ w.heap.size,P_ (w.heap.size+1)])).setCell (A_ (w.heap.size+1+1) 2) (.func (.func 266) #[] #[P_ w3.heap.size])).cell? (A_ (w.heap.size+1+1) 2)=some (.func (.func 266) #[] #[P_ w3.heap.size])):=⟨cq_ 0 _ _ _ d,cq_ 1 _ _ _ d,cq_ 2 _ _ _ d⟩
 have h:Hid (E_ w ((((w3.alloc (.cells #[.func (.func 213) #[] #[]] 261)).setCell (A_ (w.heap.size+1+1) 0) (.func (.func 209) #[] #[])).setCell (A_ (w.heap.size+1+1) 1) (.func (.func 210) #[] #[P_ w.heap.size,P_ (w.heap.size+1)])).setCell (A_ (w.heap.size+1+1) 2) (.func (.func 266) #[] #[P_ w3.heap.size]))):=(((c.2.2.2.1.alloc (by have:=c.2.2.2.2;omega) _).setCell (p:=(A_ (w.heap.size+1+1) 0)) t_ _).setCell (p:=(A_ (w.heap.size+1+1) 1)) t_ _).setCell (p:=(A_ (w.heap.size+1+1) 2)) t_ _
 have g:Hid (∀k,k≠w.heap.size+1+1->k<w3.heap.size+1->((((w3.alloc (.cells #[.func (.func 213) #[] #[]] 261)).setCell (A_ (w.heap.size+1+1) 0) (.func (.func 209) #[] #[])).setCell (A_ (w.heap.size+1+1) 1) (.func (.func 210) #[] #[P_ w.heap.size,P_ (w.heap.size+1)])).setCell (A_ (w.heap.size+1+1) 2) (.func (.func 266) #[] #[P_ w3.heap.size])).heap[k]? =(w3.alloc (.cells #[.func (.func 213) #[] #[]] 261)).heap[k]?):=λk hk _=>(Below.heap_setCell _ _ _ _ hk).trans ((Below.heap_setCell _ _ _ _ hk).trans (Below.heap_setCell _ _ _ _ hk))
 have i:Hid (Sn ((((w3.alloc (.cells #[.func (.func 213) #[] #[]] 261)).setCell (A_ (w.heap.size+1+1) 0) (.func (.func 209) #[] #[])).setCell (A_ (w.heap.size+1+1) 1) (.func (.func 210) #[] #[P_ w.heap.size,P_ (w.heap.size+1)])).setCell (A_ (w.heap.size+1+1) 2) (.func (.func 266) #[] #[P_ w3.heap.size])) w.heap.size (.agg #[.func (.func 209) #[] #[],.func (.func 210) #[] #[P_ w.heap.size,P_ (w.heap.size+1)],.func (.func 266) #[] #[P_ w3.heap.size]]) b a):=by have D:=c.2.2.2.2;refine⟨⟨w.heap.size,w.heap.size+1,w3.heap.size,rfl,qa_,o_,o_,?_,?_,?_⟩⟩;rw[g _ o_ o_,hc_ o_];exact c.1;rw[g _ o_ o_,hc_ o_];exact c.2.1;rw[g _ o_ o_];exact hn_
 have q:=cR_ 0 c.2.2.1;have p1:=cR_ 1 c.2.2.1;have A:=cR_ 2 c.2.2.1;have B:=λo=>fq_ o _ _ c.2.2.1;have x:=World.new_ne _ _ q;go_wp2_with (go_at_call 212;refine(j _).mono ?_;rintro e w' ⟨rfl,rfl⟩)
 obtain⟨l,r,s⟩:=t;exact bodyPost_ret (v:=.agg _) (by simp[results,Tryz.results160,go_sem,l,r,s]) rfl ⟨_,rfl,i,h⟩
def Cp:Nat->Int
 |0=>1
 |n+1=>Cp n*10
def lr:∀n,n<=3->1<=Cp n/\Cp n<=1000
 |0,_=>by simp[Cp]
 |1,_=>by simp[Cp]
 |2,_=>by simp[Cp]
 |3,_=>by simp[Cp]
 |n+4,h=>o_
structure Sm(w:World)(base)(v:Value)(unit bins size):Prop where
 ex:∃k0 k1 k2 k3:Nat,v=.agg #[.func (.func 214) #[] #[P_ k0],.func (.func 216) #[] #[P_ k1,P_ k2],.func (.func 266) #[] #[P_ k3]]/\
  base<=k0/\base<=k1/\base<=k2/\base<=k3/\w.heap[k0]? =some (.cells #[I_ unit] 3 (0,0))/\w.heap[k1]? =some (.cells #[I_ bins] 3 (0,0))/\w.heap[k2]? =some (.cells #[I_ size] 3 (0,0))/\w.heap[k3]? =some (.cells #[.func (.func 218) #[] #[]] 261 (0,0))
def qd(n:Nat) a b w (F:n<=3):C_ 161 #[.int .i64 n,.int .i64 a,.int .i64 b] w λe w'=>∃v,e=.returned v/\Sm w' w.heap.size v (Cp n) a b/\Below w.heap.size w w':=by
 have y:Hid (∀W,Calls _ 212 #[.func (.func 218) #[] #[]] W λe w'=>_/\w'=W.alloc (.cells #[.func (.func 218) #[] #[]] 261)):=λW=>Sv _ W
 have f:Hid (((((w.alloc (.cells #[I_ a] 3)).alloc (.cells #[I_ b] 3)).alloc (.cells #[.nilFunc,.nilFunc,.nilFunc] 263)).alloc (.cells #[I_ 1] 3)).heap[w.heap.size]? =some (.cells #[I_ a] 3 (0,0))/\((((w.alloc (.cells #[I_ a] 3)).alloc (.cells #[I_ b] 3)).alloc (.cells #[.nilFunc,.nilFunc,.nilFunc] 263)).alloc (.cells #[I_ 1] 3)).heap[w.heap.size+1]? =some (.cells #[I_ b] 3 (0,0))/\((((w.alloc (.cells #[I_ a] 3)).alloc (.cells #[I_ b] 3)).alloc (.cells #[.nilFunc,.nilFunc,.nilFunc] 263)).alloc (.cells #[I_ 1] 3)).heap[w.heap.size+1+1]? =some (.cells #[.nilFunc,.nilFunc,.nilFunc] 263 (0,0))/\((((w.alloc (.cells #[I_ a] 3)).alloc (.cells #[I_ b] 3)).alloc (.cells #[.nilFunc,.nilFunc,.nilFunc] 263)).alloc (.cells #[I_ 1] 3)).heap[w.heap.size+1+1+1]? =some (.cells #[I_ 1] 3 (0,0))/\E_ w ((((w.alloc (.cells #[I_ a] 3)).alloc (.cells #[I_ b] 3)).alloc (.cells #[.nilFunc,.nilFunc,.nilFunc] 263)).alloc (.cells #[I_ 1] 3))/\((((w.alloc (.cells #[I_ a] 3)).alloc (.cells #[I_ b] 3)).alloc (.cells #[.nilFunc,.nilFunc,.nilFunc] 263)).alloc (.cells #[I_ 1] 3)).heap.size=w.heap.size+1+1+1+1):=
  ⟨(hc_ u_).trans ((hc_ u_).trans ((hc_ s_).trans (Em _ _ _ rfl))),(hc_ u_).trans ((hc_ s_).trans (Em _ _ _ s_)),(hc_ s_).trans (Em _ _ _ s_),Em _ _ _ s_,((bA_.alloc s_ _).alloc u_ _).alloc u_ _,s_⟩
 go_enter Tryz.func161,Tryz.ntmps161;go_wp2_with fail
 generalize ((((w.alloc (.cells #[I_ a] 3)).alloc (.cells #[I_ b] 3)).alloc (.cells #[.nilFunc,.nilFunc,.nilFunc] 263)).alloc (.cells #[I_ 1] 3))=w4 at *;go_loopw [9] (λti wr=>∃k:Nat,k<=n/\ti=.int .i64 k/\Hid (wr.heap[w.heap.size+1+1+1]? =some (.cells #[.int .i64 (Cp k)] 3 (0,0)))/\Hid (w4.grownBy wr (some (w.heap.size+1+1+1)))) (λti _=>n-(intOf ti).toNat)
 case atStart=>exact⟨0,qg_,rfl,f.2.2.2.1,Bp _ _⟩
 case round=>
  obtain⟨k,J,rfl,i,g⟩:=hrel;have u0:=cR_ 0 i;have L:=λo=>fq_ o _ 3 i
  by_cases hlt:k<n
  ·obtain⟨O,P⟩:=lr k o_;have A:Hid (Cp (k+1)=_*_):=rfl;generalize Cp k=tk at *;have M:_=tk*10:=Cb o_ o_;have r:Hid ((wr.setCell _ _).heap[_+1+1]? =some (.cells #[I_ (tk*10)] 3 _)):=ht_ 0 _ 3 _ i;refine rd_ ?_;exact⟨k+1,o_,g_,by rw[A];exact r,Bm g _ _⟩
  obtain rfl:k=n:=o_;have z:=f.2.2.2.2.2;have c:=x6_ ((g.block _ o_ (λe=>w_)).trans f.1) ((g.block _ o_ (λe=>w_)).trans f.2.1) ((g.block _ o_ (λe=>w_)).trans f.2.2.1) i (f.2.2.2.2.1.grown g o_ (λq hq=>by simp at hq;omega)) ((Qb i).1);generalize wr=w3 at *;have h:(w3.alloc (.cells #[.func (.func 218) #[] #[]] 261)).heap[_]? =_:=(hc_ (by have:=c.2.2.2.2.2;omega)).trans c.2.2.1;have G:=cR_ 0 h;have E:=cR_ 1 h;have H:=cR_ 2 h;have I:=λo=>fq_ o _ _ h
  have d:((((w3.alloc (.cells #[.func (.func 218) #[] #[]] 261)).setCell (A_ (w.heap.size+1+1) 0) (.func (.func 214) #[] #[P_ (w.heap.size+1+1+1)])).setCell (A_ (w.heap.size+1+1) 1) (.func (.func 216) #[] #[P_ w.heap.size,P_ (w.heap.size+1)])).setCell (A_ (w.heap.size+1+1) 2) (.func (.func 266) #[] #[P_ w3.heap.size])).heap[w.heap.size+1+1]? =some (.cells #[.func (.func 214) #[] #[P_ (w.heap.size+1+1+1)],.func (.func 216) #[] #[P_ w.heap.size,P_ (w.heap.size+1)],.func (.func 266) #[] #[P_ w3.heap.size]] 263 (0,0)):=by have u:=ht_ 0 _ _ (.func (.func 214) #[] #[P_ (w.heap.size+1+1+1)]) h;have t:=ht_ 1 _ _ (.func (.func 216) #[] #[P_ w.heap.size,P_ (w.heap.size+1)]) u;exact ht_ 2 _ _ _ t
  have D:Hid (((((w3.alloc (.cells #[.func (.func 218) #[] #[]] 261)).setCell (A_ (w.heap.size+1+1) 0) (.func (.func 214) #[] #[P_ (w.heap.size+1+1+1)])).setCell (A_ (w.heap.size+1+1) 1) (.func (.func 216) #[] #[P_ w.heap.size,P_ (w.heap.size+1)])).setCell (A_ (w.heap.size+1+1) 2) (.func (.func 266) #[] #[P_ w3.heap.size])).cell? (A_ (w.heap.size+1+1) 0)=some (.func (.func 214) #[] #[P_ (w.heap.size+1+1+1)])/\((((w3.alloc (.cells #[.func (.func 218) #[] #[]] 261)).setCell (A_ (w.heap.size+1+1) 0) (.func (.func 214) #[] #[P_ (w.heap.size+1+1+1)])).setCell (A_ (w.heap.size+1+1) 1) (.func (.func 216) #[] #[P_ w.heap.size,P_ (w.heap.size+1)])).setCell (A_ (w.heap.size+1+1) 2) (.func (.func 266) #[] #[P_ w3.heap.size])).cell? (A_ (w.heap.size+1+1) 1)=some (.func (.func 216) #[] #[P_ w.heap.size,P_ (w.heap.size+1)])/\((((w3.alloc (.cells #[.func (.func 218) #[] #[]] 261)).setCell (A_ (w.heap.size+1+1) 0) (.func (.func 214) #[] #[P_ (w.heap.size+1+1+1)])).setCell (A_ (w.heap.size+1+1) 1) (.func (.func 216) #[] #[P_ w.heap.size,P_ (w.heap.size+1)])).setCell (A_ (w.heap.size+1+1) 2) (.func (.func 266) #[] #[P_ w3.heap.size])).cell? (A_ (w.heap.size+1+1) 2)=some (.func (.func 266) #[] #[P_ w3.heap.size])):=⟨cq_ 0 _ _ _ d,cq_ 1 _ _ _ d,cq_ 2 _ _ _ d⟩
  have l:Hid (E_ w ((((w3.alloc (.cells #[.func (.func 218) #[] #[]] 261)).setCell (A_ (w.heap.size+1+1) 0) (.func (.func 214) #[] #[P_ (w.heap.size+1+1+1)])).setCell (A_ (w.heap.size+1+1) 1) (.func (.func 216) #[] #[P_ w.heap.size,P_ (w.heap.size+1)])).setCell (A_ (w.heap.size+1+1) 2) (.func (.func 266) #[] #[P_ w3.heap.size]))):=(((c.2.2.2.2.1.alloc (by have:=c.2.2.2.2.2;omega) _).setCell (p:=(A_ (w.heap.size+1+1) 0)) t_ _).setCell (p:=(A_ (w.heap.size+1+1) 1)) t_ _).setCell (p:=(A_ (w.heap.size+1+1) 2)) t_ _
  have j:Hid (∀q,q≠w.heap.size+1+1->((((w3.alloc (.cells #[.func (.func 218) #[] #[]] 261)).setCell (A_ (w.heap.size+1+1) 0) (.func (.func 214) #[] #[P_ (w.heap.size+1+1+1)])).setCell (A_ (w.heap.size+1+1) 1) (.func (.func 216) #[] #[P_ w.heap.size,P_ (w.heap.size+1)])).setCell (A_ (w.heap.size+1+1) 2) (.func (.func 266) #[] #[P_ w3.heap.size])).heap[q]? =(w3.alloc (.cells #[.func (.func 218) #[] #[]] 261)).heap[q]?):=λq hq=>(Below.heap_setCell _ _ _ _ hq).trans ((Below.heap_setCell _ _ _ _ hq).trans (Below.heap_setCell _ _ _ _ hq))
  have m:Hid (Sm ((((w3.alloc (.cells #[.func (.func 218) #[] #[]] 261)).setCell (A_ (w.heap.size+1+1) 0) (.func (.func 214) #[] #[P_ (w.heap.size+1+1+1)])).setCell (A_ (w.heap.size+1+1) 1) (.func (.func 216) #[] #[P_ w.heap.size,P_ (w.heap.size+1)])).setCell (A_ (w.heap.size+1+1) 2) (.func (.func 266) #[] #[P_ w3.heap.size])) w.heap.size (.agg #[.func (.func 214) #[] #[P_ (w.heap.size+1+1+1)],.func (.func 216) #[] #[P_ w.heap.size,P_ (w.heap.size+1)],.func (.func 266) #[] #[P_ w3.heap.size]]) (Cp k) a b):=by
   have S:=c.2.2.2.2.2;refine⟨⟨w.heap.size+1+1+1,w.heap.size,w.heap.size+1,w3.heap.size,rfl,o_,qa_,o_,o_,?_,?_,?_,?_⟩⟩;rw[j _ o_,hc_ o_];exact c.2.2.2.1;rw[j _ o_,hc_ o_];exact c.1;rw[j _ o_,hc_ o_];exact c.2.1;rw[j _ o_];exact hn_
  have B:=cR_ 0 c.2.2.1;have p1:=cR_ 1 c.2.2.1;have Q:=cR_ 2 c.2.2.1;have R:=λo=>fq_ o _ _ c.2.2.1;have N:=World.new_ne _ _ B;go_wp2_with (go_at_call 212;refine(y _).mono ?_;rintro e w' ⟨rfl,rfl⟩)
  obtain⟨s,x,C⟩:=D;exact bodyPost_ret (v:=.agg _) (by simp[results,Tryz.results161,go_sem,s,x,C]) rfl ⟨_,rfl,m,l⟩
def ZjR:(Tryz.prog.info? 263).map (λi=>(i.zero,i.size,i.bytes))=some (some (.agg #[.nilFunc,.nilFunc,.nilFunc]),3,24):=k_
def Ny{S w w'}(t:Aa S w w')(hs:∀k,S k->k<w.heap.size->∃cur,w.heap[k]? =some (.cells cur 263 (0,0))){k:Nat}{cs ty}(h:w.heap[k]? =some (.cells cs ty (0,0)))(hne:ty≠263):w'.heap[k]? =some (.cells cs ty (0,0)):=
 t.at_ h (λe=>w_)
def Sn.touch{S w w' b v c a}(h:Sn w b v c a)(t:Aa S w w')(d:∀k,S k->k<w.heap.size->∃cur,w.heap[k]? =some (.cells cur 263 (0,0))):Sn w' b v c a:=by obtain⟨⟨g,f,n,l,e,j,o,p,i,m⟩⟩:=h;exact⟨⟨g,f,n,l,e,j,o,Ny t d p d_,Ny t d i d_,Ny t d m d_⟩⟩
def Sm.touch{S w w' c v u a b}(h:Sm w c v u a b)(t:Aa S w w')(d:∀k,S k->k<w.heap.size->∃cur,w.heap[k]? =some (.cells cur 263 (0,0))):Sm w' c v u a b:=by obtain⟨⟨e,i,g,o,s,m,f,l,q,r,j,n,p⟩⟩:=h;exact⟨⟨e,i,g,o,s,m,f,l,q,Ny t d r d_,Ny t d j d_,Ny t d n d_,Ny t d p d_⟩⟩
def Sn.base{w b d v c a}(h:Sn w d v c a)(l:b<=d):Sn w b v c a:=by obtain⟨⟨i,g,f,e,j,k,m,r⟩⟩:=h;exact⟨⟨i,g,f,e,o_,o_,o_,r⟩⟩
def Sm.base{w b d v u a c}(h:Sm w d v u a c)(n:b<=d):Sm w b v u a c:=by obtain⟨⟨e,g,f,i,j,m,k,l,o,r⟩⟩:=h;exact⟨⟨e,g,f,i,j,o_,o_,o_,o_,r⟩⟩
def Uh(w:World)(base:Nat)(v:Value)(wd:Bool)(sc ct bins size:Int):Prop:=(wd=true/\Sn w base v ct bins)∨(wd=false/\Sm w base v (Cp sc.toNat) bins size)
def Uh.touch{S w w' b v d f e c a}(h:Uh w b v d f e c a)(t:Aa S w w')(g:∀k,S k->k<w.heap.size->∃cur,w.heap[k]? =some (.cells cur 263 (0,0))):Uh w' b v d f e c a:=by
 rcases h with⟨h1,h2⟩|⟨h1,h2⟩
 exact .inl ⟨h1,h2.touch t g⟩;exact .inr ⟨h1,h2.touch t g⟩
def Uh.form{w b v d f e c a}(h:Uh w b v d f e c a):∃f0 c0 f1 c1 f2 c2,v=.agg #[.func f0 #[] c0,.func f1 #[] c1,.func f2 #[] c2]:=by
 rcases h with⟨_,⟨k1,k2,k3,h1,_⟩⟩|⟨_,⟨k0,k1,k2,k3,h1,_⟩⟩
 ·grind
 grind
structure Gt(w)(base fb n k:Nat)(wd:Nat->Bool)(sc ct:Nat->Int)(bins size):Prop where
 ex:∃cur:Array Value,w.heap[fb]? =some (.cells cur 263 (0,0))/\cur.size=n*3/\(∀i,i<k->∃v0 v1 v2,cur[i*3]? =some v0/\cur[i*3+1]? =some v1/\cur[i*3+2]? =some v2/\Uh w base (.agg #[v0,v1,v2]) (wd i) (sc i) (ct i) bins size)
def Gt.touch{S w w' g l n k o m p e f}(h:Gt w g l n k o m p e f)(t:Aa S w w')(r:∀k,k<w.heap.size->¬S k):Gt w' g l n k o m p e f:=by obtain⟨j,q,u,x⟩:=h;refine⟨j,t.at_ q (r _ (Qb q).1),u,λi hi=>?_⟩;obtain⟨v,y,s,a,b,c,d⟩:=x i hi;exact⟨v,y,s,a,b,c,d.touch t (λk hk hl=>absurd hk (r k hl))⟩
def Gt.cells{w d b n k g j i e c}(h:Gt w d b n k g j i e c)(m:k<n):(∃u0 u1 u2,w.cell? (A_ b (k*3))=some u0/\w.cell? (A_ b (k*3+1))=some u1/\w.cell? (A_ b (k*3+2))=some u2)/\∀o,w.frozen? (A_ b o)=false:=by obtain⟨a,f,l,_⟩:=h;refine⟨⟨a[k*3]' o_,a[k*3+1]' o_,a[k*3+2]' o_,?_,?_,?_⟩,λo=>fr_ w b o a 263 f⟩;rw[cell_of_row w b _ a 263 (0,0) f];grind;rw[cell_of_row w b _ a 263 (0,0) f];grind;rw[cell_of_row w b _ a 263 (0,0) f];grind
def Gt.put{w f l n k v u x g j}(h:Gt w f l n k v u x g j)(G:k<n){r s o}(B:Uh w f (.agg #[r,s,o]) (v k) (u k) (x k) g j):Gt (((w.setCell (A_ l (k*3)) r).setCell (A_ l (k*3+1)) s).setCell (A_ l (k*3+2)) o) f l n (k+1) v u x g j:=by
 have t:Aa _ w (((w.setCell _ r).setCell _ s).setCell _ o):=(((Aa.refl (λq=>q=l) w).setCell (p:=(A_ l (k*3))) (λ_=>rfl) _).setCell (p:=(A_ l (k*3+1))) (λ_=>rfl) _).setCell (p:=(A_ l (k*3+2))) (λ_=>rfl) _;obtain⟨m,y,D,A⟩:=h
 have z:∀q,(λq=>q=l) q->q<w.heap.size->∃m,w.heap[q]? =some (.cells m _ _):=λq e _=>by subst e;exact⟨m,y⟩
 have F:=hs_ w _ (k*3) _ _ r y;have E:=ht_ (k*3+1) _ _ s F;have C:=ht_ (k*3+2) _ _ o E;refine⟨_,C,by simp[D],λi hi=>?_⟩
 by_cases e:i=k
 ·subst e;refine⟨r,s,o,?_,?_,?_,B.touch t z⟩
  ·grind
  ·grind
  grind
 obtain⟨u0,u1,u2,a,b,c,d⟩:=A i o_;refine⟨u0,u1,u2,?_,?_,?_,d.touch t z⟩;rw[Array.getElem?_setIfInBounds_ne o_,Array.getElem?_setIfInBounds_ne o_,Array.getElem?_setIfInBounds_ne o_];exact a;rw[Array.getElem?_setIfInBounds_ne o_,Array.getElem?_setIfInBounds_ne o_,Array.getElem?_setIfInBounds_ne o_];exact b;rw[Array.getElem?_setIfInBounds_ne o_,Array.getElem?_setIfInBounds_ne o_,Array.getElem?_setIfInBounds_ne o_];exact c
def Zg3{p:Prop}(h:p:=by
 have HFM:=x1_ (HM.touch (Aa.of_below (S:=λ_=>False) hb3) (λ_ _=>id));have HCB2:=x1_ ((hb3.block _ hcl).trans HCB);have HB2:=x1_ (HB.trans (hb3.mono o_));obtain⟨f0,d0,f1,d1,f2,d2,hv⟩:=HMF.form;subst hv;obtain⟨⟨u0,u1,u2,g0,g1,g2⟩,gf⟩:=HFM.cells hk;have HNX:=x1_ (HFM.put hk HMF);refine rd_ ?_
 exact⟨k+1,o_,g_,HNX,(Below.heap_setCell _ _ _ _ s_).trans ((Below.heap_setCell _ _ _ _ s_).trans ((Below.heap_setCell _ _ _ _ s_).trans HCB2)),((HB2.setCell (p:=(A_ (w.heap.size+1) (k*3))) s_ _).setCell (p:=(A_ (w.heap.size+1) (k*3+1))) s_ _).setCell (p:=(A_ (w.heap.size+1) (k*3+2))) s_ _⟩):p:=h
def il b f n r a size c s d g w (G:Dd w b f n s d g)(Y:1<=n)(h4:n<=4)(A:∀i,i<n->s i=false->0<=d i/\d i<=3):C_ 96 #[.agg #[.slice (some ⟨b,f,none⟩) n r,.int .i64 a,.int .i64 size,.int .i64 c]] w λe w'=>∃fb,e=.returned (.slice (some ⟨fb,0,none⟩) n n)/\w.heap.size<=fb/\Gt w' w.heap.size fb n n s d g a size/\Below w.heap.size w w':=by
 obtain⟨L,t,E,x,B⟩:=info_parts ZjR
 have V:∀W:World,(Instr.makeSlice 155 (I_ n) (I_ n)).run Tryz.prog W=.ok (L_ W.heap.size n n) (W.alloc (.cells (madeCells #[.nilFunc,.nilFunc,.nilFunc] (n*3)) 263)):=λW=>by have:=run_make (P:=Tryz.prog) W 155 263 L _ Tryz.underlying155 t E .i64 .i64 (n:Int) (n:Int) o_ o_ (by rw[B];omega) o_;rw[this];simp[x,Value.cells]
 have z:=x1_ G;have m:=G.lt o_;go_enter Tryz.func96,Tryz.ntmps96;go_wp2_with fail
 have T:Hid (Gt ((w.alloc (.cells #[.slice (some ⟨b,f,none⟩) n r,I_ a,I_ size,I_ c] 37)).alloc (.cells (madeCells #[.nilFunc,.nilFunc,.nilFunc] (n*3)) 263)) w.heap.size (w.heap.size+1) n 0 s d g a size):=⟨_,Em _ _ _ s_,by simp[madeCells],λi hi=>o_⟩;have I:Hid (((w.alloc (.cells #[.slice (some ⟨b,f,none⟩) n r,I_ a,I_ size,I_ c] 37)).alloc (.cells (madeCells #[.nilFunc,.nilFunc,.nilFunc] (n*3)) 263)).heap[w.heap.size]? =_):=(hc_ s_).trans (ha_ w _);have U:Hid (Below _ w ((w.alloc (.cells #[.slice (some ⟨b,f,none⟩) n r,I_ a,I_ size,I_ c] 37)).alloc (.cells (madeCells #[.nilFunc,.nilFunc,.nilFunc] (n*3)) 263))):=bA_.alloc s_ _
 generalize ((w.alloc (.cells #[.slice (some ⟨b,f,none⟩) n r,I_ a,I_ size,I_ c] 37)).alloc (.cells (madeCells #[.nilFunc,.nilFunc,.nilFunc] (n*3)) 263))=w0 at *;go_loopw [13] (λti wr=>∃k:Nat,k<=n/\ti=.int .i64 k/\Hid (Gt wr w.heap.size (w.heap.size+1) n k s d g a size)/\Hid (wr.heap[w.heap.size]? =some (.cells #[.slice (some ⟨b,f,none⟩) n r,.int .i64 a,.int .i64 size,.int .i64 c] 37 (0,0)))/\Hid (E_ w wr)) (λti _=>n-(intOf ti).toNat)
 case atStart=>grind
 case round=>
  obtain⟨k,H,rfl,HM,HCB,HB⟩:=hrel;have hcl:=(Qb HCB).1
  by_cases hk:k<n
  ·have F:=(HB.cell (p:=(A_ b (f+k*3))) m).trans (z.c0 k hk);have Z:=(HB.cell (p:=(A_ b (f+k*3+1))) m).trans (z.c1 k hk);have X:=(HB.cell (p:=(A_ b (f+k*3+2))) m).trans (z.c2 k hk);have Q:0<=(k:Int):=o_;have N:k<(n:Int):=o_
   cases hwd:s k with
   | true=>
    rw[hwd] at F;have D:Hid (C_ 160 #[.int .i64 (g k),.int .i64 a] (wr.alloc (.cells #[.bool true,.int .i64 (d k),.int .i64 (g k)] 51)) λe l=>∃v,e=.returned v/\Sn l (wr.heap.size+1) v (g k) a/\Below (wr.heap.size+1) (wr.alloc (.cells #[.bool true,.int .i64 (d k),.int .i64 (g k)] 51)) l):=by have:=Zbs (g k) a (wr.alloc (.cells #[.bool true,I_ (d k),I_ (g k)] 51));rw[show(wr.alloc (.cells #[.bool true,I_ (d k),I_ (g k)] 51)).heap.size=wr.heap.size+1 by simp] at this;exact this
    have j:Below _ wr (wr.alloc (.cells #[.bool true,I_ (d k),I_ (g k)] 51)):=bA_;have J:(wr.alloc _).cell? _=some (.int _ _):=(j.cell (p:=(A_ w.heap.size 1)) hcl).trans (cq_ 1 _ _ _ HCB);have O:(wr.alloc _).cell? _=some (.int _ _):=(j.cell (p:=(A_ w.heap.size 2)) hcl).trans (cq_ 2 _ _ _ HCB);have q:=x1_ j;go_wp2_with fail
    refine D.mono ?_;rintro e l ⟨v,rfl,C,o⟩;have hb3:=q.trans (o.mono o_);have HMF:Hid (Uh _ w.heap.size v _ (d k) _ _ size):=.inl ⟨hwd,C.base o_⟩;exact Zg3
   | false=>
    rw[hwd] at F;obtain⟨R,M⟩:=A k hk hwd;have y:(d k).toNat=d k:=o_;have u:=x1_ y;have D:Hid (C_ 161 #[.int .i64 (d k),.int .i64 a,.int .i64 size] (wr.alloc (.cells #[.bool false,.int .i64 (d k),.int .i64 (g k)] 51)) λe l=>∃v,e=.returned v/\Sm l (wr.heap.size+1) v (Cp (d k).toNat) a size/\Below (wr.heap.size+1) (wr.alloc (.cells #[.bool false,.int .i64 (d k),.int .i64 (g k)] 51)) l):=by have:=qd (d k).toNat a size (wr.alloc (.cells #[.bool false,I_ (d k),I_ (g k)] 51)) o_;rw[show(wr.alloc (.cells #[.bool false,I_ (d k),I_ (g k)] 51)).heap.size=wr.heap.size+1 by simp] at this;rw[u] at this;exact this
    have j:Below _ wr (wr.alloc (.cells #[.bool false,I_ (d k),I_ (g k)] 51)):=bA_;have J:(wr.alloc _).cell? _=some (.int _ _):=(j.cell (p:=(A_ w.heap.size 1)) hcl).trans (cq_ 1 _ _ _ HCB);have O:(wr.alloc _).cell? _=some (.int _ _):=(j.cell (p:=(A_ w.heap.size 2)) hcl).trans (cq_ 2 _ _ _ HCB);have q:=x1_ j;go_wp2_with fail
    refine D.mono ?_;rintro e l ⟨v,rfl,C,o⟩;have hb3:=q.trans (o.mono o_);have HMF:Hid (Uh _ w.heap.size v _ _ (g k) _ _):=.inr ⟨hwd,C.base o_⟩;exact Zg3
  obtain rfl:k=n:=o_;go_wp2;go_ret;exact⟨_,rfl,o_,HM,HB⟩
def ZjQ:(Tryz.prog.info? 251).map (λi=>(i.zero,i.size,i.bytes))=some (some (.slice none 0 0),1,24):=k_
def part0:Cm:=⟨0,false,0,0,0,.slice none 0 0⟩
def pz f n w (i:n<=4):C_ 97 #[.slice (some ⟨f,0,none⟩) n n] w λe w'=>e=.returned (.pointer (some ⟨w.heap.size+1,0,none⟩))/\w'=(w.alloc (.cells (madeCells #[.slice none 0 0] n) 251)).alloc (.cells #[.slice (some ⟨f,0,none⟩) n n,.slice none 0 0,.slice (some ⟨w.heap.size,0,none⟩) n n,.int .i64 0,.bool false,.slice none 0 0,.int .i64 0,.bool false,.int .i64 0,.int .i64 0,.int .i64 0,.slice none 0 0] 256):=by
 obtain⟨h,a,d,b,c⟩:=info_parts ZjQ
 have g:∀W:World,(Instr.makeSlice 248 (I_ n) (I_ n)).run Tryz.prog W=.ok (L_ W.heap.size n n) (W.alloc (.cells (madeCells #[.slice none 0 0] n) 251)):=λW=>by have:=run_make (P:=Tryz.prog) W 248 251 h _ Tryz.underlying248 a d .i64 .i64 (n:Int) (n:Int) o_ o_ (by rw[c];omega) o_;rw[this];simp[b,Value.cells]
 go_enter Tryz.func97,Tryz.ntmps97;go_wp2;go_ret;exact⟨s_,rfl⟩
def Gt.base{w l f o n k q p r g j}(h:Gt w f o n k q p r g j)(s:l<=f):Gt w l o n k q p r g j:=by
 obtain⟨m,y,u,x⟩:=h;refine⟨m,y,u,λi hi=>?_⟩;obtain⟨v,z,t,a,b,c,d⟩:=x i hi;refine⟨v,z,t,a,b,c,?_⟩
 rcases d with⟨e,d⟩|⟨e,d⟩
 exact .inl ⟨e,d.base s⟩;exact .inr ⟨e,d.base s⟩
structure Yk(w:World)(base tb fb rb cb n:Nat)(wd)(sc ct)(bins size budget):Prop where
 tx:w.heap[tb]? =some (.cells #[L_ fb n n,I_ budget,P_ rb,I_ 0] 158 (0,0))
 rd:RB w rb (L_ fb n n) (.slice none 0 0) (L_ cb n n) 0 false (.slice none 0 0) part0
 cl:w.heap[cb]? =some (.cells (madeCells #[.slice none 0 0] n) 251 (0,0))
 fs:Gt w base fb n n wd sc ct bins size
 lo:base<=tb/\base<=fb/\base<=rb/\base<=cb
def Zbn b f n m c d a x s E w (v:Dd w b f n x s E)(J:1<=n)(H:n<=4)(C:∀i,i<n->x i=false->0<=s i/\s i<=3):C_ 57 #[.agg #[.slice (some ⟨b,f,none⟩) n m,.int .i64 c,.int .i64 d,.int .i64 a]] w λe w'=>∃tb fb rb cb,e=.returned (.pointer (some ⟨tb,0,none⟩))/\Yk w' w.heap.size tb fb rb cb n x s E c d a/\Below w.heap.size w w':=by
 have q:Hid (Below _ w (w.alloc (.cells #[.slice (some ⟨b,f,none⟩) n m,I_ c,I_ d,I_ a] 37))):=bA_;have D:=v.lt o_;have A:Hid (Dd (w.alloc (.cells #[.slice (some ⟨b,f,none⟩) n m,I_ c,I_ d,I_ a] 37)) b f n x s E):=(by have k:=λo=>q.cell (p:=(A_ b o)) D;exact⟨v.le,λ_=>t_,λi hi=>(k _).trans (v.c0 i hi),λi hi=>(k _).trans (v.c1 i hi),λi hi=>(k _).trans (v.c2 i hi)⟩);have M:=x1_ C;have I:(w.alloc (.cells #[.slice (some ⟨b,f,none⟩) n m,I_ c,I_ d,I_ a] 37)).cell? (A_ w.heap.size 3)=some (I_ a):=s_;have u:(w.alloc (.cells #[.slice (some ⟨b,f,none⟩) n m,I_ c,I_ d,I_ a] 37)).heap.size=w.heap.size+1:=s_;have j:=x1_ u;go_enter Tryz.func57,Tryz.ntmps57;go_wp2_with fail
 generalize w.alloc (.cells #[.slice (some ⟨b,f,none⟩) n m,I_ c,I_ d,I_ a] 37)=w0 at *;refine(il b _ n _ _ _ _ _ _ _ _ A J H M).mono ?_;rintro e g ⟨fb,rfl,y,z,l⟩;have G:=(l.cell (p:=(A_ w.heap.size 3)) (by have:=j.out;simp;omega)).trans I;have h:=x3_ z y l;have t:w.heap.size<g.heap.size:=(by have:=l.size;have:=j.out;omega);have F:=x1_ (λW=>pz fb n W H);go_wp2_with fail
 have n1:=World.new_ne _ _ G;have P:g.heap.size+1≠w.heap.size:=o_;have Q:g.heap.size+1+1≠w.heap.size:=o_;have R:w.heap.size≠g.heap.size+1:=o_;have N:w.heap.size≠g.heap.size+1+1:=o_;have O:w.heap.size≠g.heap.size:=o_;go_region_held3 (λw'=>w'.cell? (A_ w.heap.size 3)=some (I_ a)) (exact(Below.cell (B:=g.heap.size) (w:=g) (p:=(A_ w.heap.size 3)) c_ t).trans G) (first|(go_at_call 97;refine(F _).mono ?_;rintro e w' ⟨rfl,rfl⟩))
 all_goals go_wp2
 all_goals go_ret
 have r:E_ g (((g.alloc (.cells (madeCells #[.slice none 0 0] n) 251)).alloc (.cells #[L_ fb n n,.slice none 0 0,L_ g.heap.size n n,I_ 0,.bool false,.slice none 0 0,I_ 0,.bool false,I_ 0,I_ 0,I_ 0,.slice none 0 0] 256)).alloc (.cells #[L_ fb n n,I_ a,P_ (g.heap.size+1),I_ 0] 158)).drew:=((bA_.alloc s_ _).alloc u_ _).drew;have u:=j.out;have L:=h.2.2.size;refine⟨g.heap.size+1+1,fb,g.heap.size+1,g.heap.size,rfl,⟨Em _ _ _ s_,(hc_ s_).trans (Em _ _ _ s_),(hc_ u_).trans ((hc_ s_).trans (Em _ _ _ rfl)),(h.1.base o_).touch (Aa.of_below (S:=λ_=>False) r) (λ_ _=>id),o_,by have:=h.2.1;omega,o_,o_⟩,?_⟩
 exact(q.trans (h.2.2.mono o_)).trans (r.mono o_)
structure vh(w:World)(base ib tb fb rb cb n:Nat)(wd)(sc ct)(bins size budget):Prop where
 ik:w.heap[ib]? =some (.cells #[P_ tb,.bool false,I_ 0,I_ 0] 119 (0,0))
 tx:Yk w base tb fb rb cb n wd sc ct bins size budget
 lo:base<=ib
def Lc{n b c a d f e}(h:Hz n b c a d f e=true):1<=n/\n<=4/\2<=b/\b<=16/\b<=c/\c<=32/\0<=a/\a<=20/\∀i,i<n->Le (d i) (f i) (e i)=true:=by grind [Hz,Th]
def Yk.below{w w' base tb fb rb cb n wd sc ct bins size budget}(h:Yk w base tb fb rb cb n wd sc ct bins size budget)(hb:Below w.heap.size w w'):Yk w' base tb fb rb cb n wd sc ct bins size budget:=
 ⟨(hb.block _ (Qb h.tx).1).trans h.tx,h.rd.below hb h.rd.lt,(hb.block _ (Qb h.cl).1).trans h.cl,h.fs.touch (Aa.of_below (S:=λ_=>False) hb) (λ_ _=>id),h.lo⟩
def Yk.base{w base base' tb fb rb cb n wd sc ct bins size budget}(h:Yk w base' tb fb rb cb n wd sc ct bins size budget)(hb:base<=base'):Yk w base tb fb rb cb n wd sc ct bins size budget:=
 ⟨h.tx,h.rd,h.cl,h.fs.base hb,by have:=h.lo;omega⟩
def ZdA b f n z c d a u l A w (m:Dd w b f n u l A)(G:Hz n c d a u l A=true):C_ 31 #[.agg #[.slice (some ⟨b,f,none⟩) n z,.int .i64 c,.int .i64 d,.int .i64 a]] w λe w'=>∃ib tb fb rb cb,e=.returned (.tuple #[.pointer (some ⟨ib,0,none⟩),.int .i64 0])/\vh w' w.heap.size ib tb fb rb cb n u l A c d a/\Below w.heap.size w w':=by
 obtain⟨J,M,_,_,_,_,_,_,N⟩:=Lc G
 have E:Hid (∀i,i<n->u i=false->0<=l i/\l i<=3):=λi hi hw=>by grind [Le]
 have D:=m.lt o_;have q:Hid (Below _ w (w.alloc (.cells #[.slice (some ⟨b,f,none⟩) n z,I_ c,I_ d,I_ a] 37))):=bA_;have t:Hid ((w.alloc (.cells #[.slice (some ⟨b,f,none⟩) n z,I_ c,I_ d,I_ a] 37)).heap[_]? =_):=ha_ w _
 have x:Hid (∀W,E_ w W->Dd W b f n u l A):=λW hb=>by have k:=λo=>hb.cell (p:=(A_ b o)) D;exact⟨m.le,λ_=>by have:=hb.size;omega,λi hi=>(k _).trans (m.c0 i hi),λi hi=>(k _).trans (m.c1 i hi),λi hi=>(k _).trans (m.c2 i hi)⟩
 have L:=x1_ G;have B:=m.le;go_enter Tryz.func31,Tryz.ntmps31;go_wp2_with fail
 generalize w.alloc (.cells #[.slice (some ⟨b,f,none⟩) n z,I_ c,I_ d,I_ a] 37)=w0 at *;refine(Ve _ n _ _ _ _ _ _ _ _ B (.inr ⟨b,f,rfl,x _ q⟩)).mono ?_;rintro e O ⟨rfl,y⟩;rw[L];have s:=(Qb t).1;have g:=(y.block _ s).trans t;have S:=cR_ 0 g;have P:=cR_ 1 g;have R:=cR_ 2 g;have Q:=cR_ 3 g;have j:=x1_ (q.trans (y.mono o_));have v:=j.size;go_wp2_with fail
 refine(Zbn b _ n _ _ _ _ _ _ _ _ (x _ j) J M E).mono ?_;rintro e C ⟨tb,fb,rb,cb,rfl,H,F⟩;have I:=x1_ (H.base v);have h:=x1_ (j.trans (F.mono v));go_wp2;go_ret2
 have r:Below _ C (C.alloc (.cells #[P_ tb,.bool false,I_ 0,I_ 0] 119)):=bA_;exact⟨C.heap.size,tb,fb,rb,cb,rfl,⟨hn_,I.below r,h.size⟩,h.trans (r.mono h.size)⟩
def Zga a n g c d b k j l w (r:n<=maxLen)(p:Ej w a n k j l)(m:Hz n c d b k j l=false):C_ 31 #[.agg #[.slice a n g,.int .i64 c,.int .i64 d,.int .i64 b]] w λe w'=>e=.returned (.tuple #[.pointer none,.int .i64 1])/\Below w.heap.size w w':=by
 have f:Hid (Below _ w (w.alloc (.cells #[.slice a n g,I_ c,I_ d,I_ b] 37))):=bA_;have o:=x1_ (p.below f);have q:=x1_ m;go_enter Tryz.func31,Tryz.ntmps31;go_wp2_with fail
 generalize w.alloc (.cells #[.slice a n g,I_ c,I_ d,I_ b] 37)=w0 at *;refine(Ve a n _ _ _ _ _ _ _ _ r o).mono ?_;rintro e s ⟨rfl,i⟩;rw[q];have h:=x1_ (f.trans (i.mono f.size));go_wp2;go_ret2
 exact⟨rfl,h⟩
end Go.Proofs.YtfcgnpchbcmdeaaGreat
