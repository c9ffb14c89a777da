import Derived.Test.YtfcgnpchbcmdeaaGreatZran
import Derived.Laws.EntriesVeiled
namespace Go.Proofs.YtfcgnpchbcmdeaaGreat
set_option linter.all false
set_option maxRecDepth 100000
set_option maxHeartbeats 4000000
open Go.RowKit
def Zgs b j g a f d i k p c w (h:RB w b j (.slice g 200 a) f d i k p):C_ 98 #[.pointer (some ⟨b,0,none⟩),.int .u8 c] w λe w'=>e=.returned (.int .i64 3)/\w'=w:=by obtain⟨_,l,_,_,_,_⟩:=h.head;go_enter Tryz.func98,Tryz.ntmps98;go_wp2;go_ret;exact⟨rfl,rfl⟩
def Zly:ZgU->Int
 |none=>2
 |_=>0
def Zb2 b o l f m n a q p c w (h:RB w b o (.slice l f m) n a false q p)(y:f<200)(u:0<=a)(v:a<=99)(i:0<=c)(j:c<=255):C_ 98 #[.pointer (some ⟨b,0,none⟩),.int .u8 c] w λe w'=>e=.returned (.int .i64 (Zly (Bd a c)))/\∃e',ZkF b o (.slice l f m) n a false q p (Bd a c) w e' w':=by
 obtain⟨_,A,_,_,x,_⟩:=h.head;have s:((f:Int)==200)=_:=beq_eq_false_iff_ne.2 o_;have k:¬(f:Int)=200:=o_;have H:=x1_ h;go_enter Tryz.func98,Tryz.ntmps98;go_wp2_with fail
 refine(Xz b _ _ _ _ _ _ p c w H u v i j).mono ?_;rintro e B d;have r:=x1_ d
 have g:(e=.returned (.bool false)/\Zly (Bd a c)=2)∨(e=.returned (.bool true)/\Zly (Bd a c)=0):=by
  obtain⟨_,d⟩:=d
  rcases hw:Bd a c with _|_|z
  rw[hw] at d;exact .inl ⟨d.1,rfl⟩;rw[hw] at d;exact .inr ⟨d.1,rfl⟩;rw[hw] at d;exact .inr ⟨d.1,rfl⟩
 rcases g with⟨rfl,g⟩|⟨rfl,g⟩
 all_goals
  have t:=show Hid _ from g
  go_wp2;go_ret;rw[t];exact⟨rfl,_,r⟩
def St(f:Nat) w:C_ 212 #[.func (.func f) #[] #[]] w λe w'=>e=.returned (.func (.func 266) #[] #[.pointer (some ⟨w.heap.size,0,none⟩)])/\w'=w.alloc (.cells #[.func (.func f) #[] #[]] 261):=by go_enter Tryz.func212,Tryz.ntmps212;go_wp2;go_ret;exact⟨rfl,rfl⟩
structure Sl(w:World)(base)(v:Value)(cut bins):Prop where
 ex:∃k1 k2 k3:Nat,v=.agg #[.func (.func 209) #[] #[],.func (.func 210) #[] #[P_ k1,P_ k2],.func (.func 266) #[] #[P_ k3]]/\
  base<=k1/\base<=k2/\base<=k3/\w.heap[k1]? =some (.cells #[I_ cut] 3 (0,0))/\w.heap[k2]? =some (.cells #[I_ bins] 3 (0,0))/\w.heap[k3]? =some (.cells #[.func (.func 213) #[] #[]] 261 (0,0))
def Em(W:World) o n (h:W.heap.size=n):(W.alloc o).heap[n]? =some o:=by subst h;exact ha_ W o
def Zbs b a w:C_ 160 #[.int .i64 b,.int .i64 a] w λe w'=>∃v,e=.returned v/\Sl w' w.heap.size v b a/\Below w.heap.size w w':=by
 have n:Hid (∀W,Calls _ 212 #[.func (.func 213) #[] #[]] W λe w'=>_/\w'=W.alloc (.cells #[.func (.func 213) #[] #[]] 261)):=λW=>St _ W
 have d:Hid ((((w.alloc (.cells #[I_ b] 3)).alloc (.cells #[I_ a] 3)).alloc (.cells #[.nilFunc,.nilFunc,.nilFunc] 263)).heap[w.heap.size]? =some (.cells #[I_ b] 3 (0,0))/\(((w.alloc (.cells #[I_ b] 3)).alloc (.cells #[I_ a] 3)).alloc (.cells #[.nilFunc,.nilFunc,.nilFunc] 263)).heap[w.heap.size+1]? =some (.cells #[I_ a] 3 (0,0))/\(((w.alloc (.cells #[I_ b] 3)).alloc (.cells #[I_ a] 3)).alloc (.cells #[.nilFunc,.nilFunc,.nilFunc] 263)).heap[w.heap.size+1+1]? =some (.cells #[.nilFunc,.nilFunc,.nilFunc] 263 (0,0))/\E_ w (((w.alloc (.cells #[I_ b] 3)).alloc (.cells #[I_ a] 3)).alloc (.cells #[.nilFunc,.nilFunc,.nilFunc] 263))/\(((w.alloc (.cells #[I_ b] 3)).alloc (.cells #[I_ a] 3)).alloc (.cells #[.nilFunc,.nilFunc,.nilFunc] 263)).heap.size=w.heap.size+1+1+1):=
  ⟨(hc_ u_).trans ((hc_ s_).trans (Em _ _ _ rfl)),(hc_ s_).trans (Em _ _ _ s_),Em _ _ _ s_,(bA_.alloc s_ _).alloc u_ _,s_⟩
 go_enter Tryz.func160,Tryz.ntmps160;go_upto_region 1 with fail;generalize (((w.alloc (.cells #[I_ b] 3)).alloc (.cells #[I_ a] 3)).alloc (.cells #[.nilFunc,.nilFunc,.nilFunc] 263))=w3 at *;have f:(w3.alloc (.cells #[.func (.func 213) #[] #[]] 261)).heap[_]? =_:=(hc_ (by have:=d.2.2.2.2;omega)).trans d.2.2.1;have C:=cR_ 0 f;have u:=cR_ 1 f;have x:=cR_ 2 f;have D:=λo=>fq_ o _ _ f
 have c:((((w3.alloc (.cells #[.func (.func 213) #[] #[]] 261)).setCell (A_ (w.heap.size+1+1) 0) (.func (.func 209) #[] #[])).setCell (A_ (w.heap.size+1+1) 1) (.func (.func 210) #[] #[P_ w.heap.size,P_ (w.heap.size+1)])).setCell (A_ (w.heap.size+1+1) 2) (.func (.func 266) #[] #[P_ w3.heap.size])).heap[w.heap.size+1+1]? =some (.cells #[.func (.func 209) #[] #[],.func (.func 210) #[] #[P_ w.heap.size,P_ (w.heap.size+1)],.func (.func 266) #[] #[P_ w3.heap.size]] 263 (0,0)):=by have l:=ht_ 0 _ _ (.func (.func 209) #[] #[]) f;have j:=ht_ 1 _ _ (.func (.func 210) #[] #[P_ w.heap.size,P_ (w.heap.size+1)]) l;exact ht_ 2 _ _ _ j
 have m:Hid (((((w3.alloc (.cells #[.func (.func 213) #[] #[]] 261)).setCell (A_ (w.heap.size+1+1) 0) (.func (.func 209) #[] #[])).setCell (A_ (w.heap.size+1+1) 1) (.func (.func 210) #[] #[P_ w.heap.size,P_ (w.heap.size+1)])).setCell (A_ (w.heap.size+1+1) 2) (.func (.func 266) #[] #[P_ w3.heap.size])).cell? (A_ (w.heap.size+1+1) 0)=some (.func (.func 209) #[] #[])/\((((w3.alloc (.cells #[.func (.func 213) #[] #[]] 261)).setCell (A_ (w.heap.size+1+1) 0) (.func (.func 209) #[] #[])).setCell (A_ (w.heap.size+1+1) 1) (.func (.func 210) #[] #[P_ w.heap.size,P_ (w.heap.size+1)])).setCell (A_ (w.heap.size+1+1) 2) (.func (.func 266) #[] #[P_ w3.heap.size])).cell? (A_ (w.heap.size+1+1) 1)=some (.func (.func 210) #[] #[P_ w.heap.size,P_ (w.heap.size+1)])/\((((w3.alloc (.cells #[.func (.func 213) #[] #[]] 261)).setCell (A_ (w.heap.size+1+1) 0) (.func (.func 209) #[] #[])).setCell (A_ (w.heap.size+1+1) 1) (.func (.func 210) #[] #[P_ w.heap.size,P_ (w.heap.size+1)])).setCell (A_ (w.heap.size+1+1) 2) (.func (.func 266) #[] #[P_ w3.heap.size])).cell? (A_ (w.heap.size+1+1) 2)=some (.func (.func 266) #[] #[P_ w3.heap.size])):=⟨cq_ 0 _ _ _ c,cq_ 1 _ _ _ c,cq_ 2 _ _ _ c⟩
 have h:Hid (E_ w ((((w3.alloc (.cells #[.func (.func 213) #[] #[]] 261)).setCell (A_ (w.heap.size+1+1) 0) (.func (.func 209) #[] #[])).setCell (A_ (w.heap.size+1+1) 1) (.func (.func 210) #[] #[P_ w.heap.size,P_ (w.heap.size+1)])).setCell (A_ (w.heap.size+1+1) 2) (.func (.func 266) #[] #[P_ w3.heap.size]))):=(((d.2.2.2.1.alloc (by have:=d.2.2.2.2;omega) _).setCell (p:=(A_ (w.heap.size+1+1) 0)) t_ _).setCell (p:=(A_ (w.heap.size+1+1) 1)) t_ _).setCell (p:=(A_ (w.heap.size+1+1) 2)) t_ _
 have g:Hid (∀k,k≠w.heap.size+1+1->k<w3.heap.size+1->((((w3.alloc (.cells #[.func (.func 213) #[] #[]] 261)).setCell (A_ (w.heap.size+1+1) 0) (.func (.func 209) #[] #[])).setCell (A_ (w.heap.size+1+1) 1) (.func (.func 210) #[] #[P_ w.heap.size,P_ (w.heap.size+1)])).setCell (A_ (w.heap.size+1+1) 2) (.func (.func 266) #[] #[P_ w3.heap.size])).heap[k]? =(w3.alloc (.cells #[.func (.func 213) #[] #[]] 261)).heap[k]?):=λk hk _=>(Below.heap_setCell _ _ _ _ hk).trans ((Below.heap_setCell _ _ _ _ hk).trans (Below.heap_setCell _ _ _ _ hk))
 have i:Hid (Sl ((((w3.alloc (.cells #[.func (.func 213) #[] #[]] 261)).setCell (A_ (w.heap.size+1+1) 0) (.func (.func 209) #[] #[])).setCell (A_ (w.heap.size+1+1) 1) (.func (.func 210) #[] #[P_ w.heap.size,P_ (w.heap.size+1)])).setCell (A_ (w.heap.size+1+1) 2) (.func (.func 266) #[] #[P_ w3.heap.size])) w.heap.size (.agg #[.func (.func 209) #[] #[],.func (.func 210) #[] #[P_ w.heap.size,P_ (w.heap.size+1)],.func (.func 266) #[] #[P_ w3.heap.size]]) b a):=by have B:=d.2.2.2.2;refine⟨⟨w.heap.size,w.heap.size+1,w3.heap.size,rfl,qa_,o_,o_,?_,?_,?_⟩⟩;rw[g _ o_ o_,hc_ o_];exact d.1;rw[g _ o_ o_,hc_ o_];exact d.2.1;rw[g _ o_ o_];exact hn_
 have t:=cR_ 0 d.2.2.1;have p1:=cR_ 1 d.2.2.1;have z:=cR_ 2 d.2.2.1;have A:=λo=>fq_ o _ _ d.2.2.1;have y:=World.new_ne _ _ t;go_wp2_with (go_at_call 212;refine(n _).mono ?_;rintro e w' ⟨rfl,rfl⟩)
 obtain⟨r,s,q⟩:=m;exact bodyPost_ret (v:=.agg _) (by simp[results,Tryz.results160,go_sem,r,s,q]) rfl ⟨_,rfl,i,h⟩
def Cp:Nat->Int
 |0=>1
 |n+1=>Cp n*10
def lu:∀n,n<=3->1<=Cp n/\Cp n<=1000
 |0,_=>by simp[Cp]
 |1,_=>by simp[Cp]
 |2,_=>by simp[Cp]
 |3,_=>by simp[Cp]
 |n+4,h=>o_
structure Sk(w:World)(base)(v:Value)(unit bins size):Prop where
 ex:∃k0 k1 k2 k3:Nat,v=.agg #[.func (.func 214) #[] #[P_ k0],.func (.func 216) #[] #[P_ k1,P_ k2],.func (.func 266) #[] #[P_ k3]]/\
  base<=k0/\base<=k1/\base<=k2/\base<=k3/\w.heap[k0]? =some (.cells #[I_ unit] 3 (0,0))/\w.heap[k1]? =some (.cells #[I_ bins] 3 (0,0))/\w.heap[k2]? =some (.cells #[I_ size] 3 (0,0))/\w.heap[k3]? =some (.cells #[.func (.func 218) #[] #[]] 261 (0,0))
def qe(n:Nat) b a w (J:n<=3):C_ 161 #[.int .i64 n,.int .i64 b,.int .i64 a] w λe w'=>∃v,e=.returned v/\Sk w' w.heap.size v (Cp n) b a/\Below w.heap.size w w':=by
 have t:Hid (∀W,Calls _ 212 #[.func (.func 218) #[] #[]] W λe w'=>_/\w'=W.alloc (.cells #[.func (.func 218) #[] #[]] 261)):=λW=>St _ W
 have f:Hid (((((w.alloc (.cells #[I_ b] 3)).alloc (.cells #[I_ a] 3)).alloc (.cells #[.nilFunc,.nilFunc,.nilFunc] 263)).alloc (.cells #[I_ 1] 3)).heap[w.heap.size]? =some (.cells #[I_ b] 3 (0,0))/\((((w.alloc (.cells #[I_ b] 3)).alloc (.cells #[I_ a] 3)).alloc (.cells #[.nilFunc,.nilFunc,.nilFunc] 263)).alloc (.cells #[I_ 1] 3)).heap[w.heap.size+1]? =some (.cells #[I_ a] 3 (0,0))/\((((w.alloc (.cells #[I_ b] 3)).alloc (.cells #[I_ a] 3)).alloc (.cells #[.nilFunc,.nilFunc,.nilFunc] 263)).alloc (.cells #[I_ 1] 3)).heap[w.heap.size+1+1]? =some (.cells #[.nilFunc,.nilFunc,.nilFunc] 263 (0,0))/\((((w.alloc (.cells #[I_ b] 3)).alloc (.cells #[I_ a] 3)).alloc (.cells #[.nilFunc,.nilFunc,.nilFunc] 263)).alloc (.cells #[I_ 1] 3)).heap[w.heap.size+1+1+1]? =some (.cells #[I_ 1] 3 (0,0))/\E_ w ((((w.alloc (.cells #[I_ b] 3)).alloc (.cells #[I_ a] 3)).alloc (.cells #[.nilFunc,.nilFunc,.nilFunc] 263)).alloc (.cells #[I_ 1] 3))/\((((w.alloc (.cells #[I_ b] 3)).alloc (.cells #[I_ a] 3)).alloc (.cells #[.nilFunc,.nilFunc,.nilFunc] 263)).alloc (.cells #[I_ 1] 3)).heap.size=w.heap.size+1+1+1+1):=
  ⟨(hc_ u_).trans ((hc_ u_).trans ((hc_ s_).trans (Em _ _ _ rfl))),(hc_ u_).trans ((hc_ s_).trans (Em _ _ _ s_)),(hc_ s_).trans (Em _ _ _ s_),Em _ _ _ s_,((bA_.alloc s_ _).alloc u_ _).alloc u_ _,s_⟩
 go_enter Tryz.func161,Tryz.ntmps161;go_wp2_with fail
 generalize ((((w.alloc (.cells #[I_ b] 3)).alloc (.cells #[I_ a] 3)).alloc (.cells #[.nilFunc,.nilFunc,.nilFunc] 263)).alloc (.cells #[I_ 1] 3))=w4 at *;go_loopw [9] (λti wr=>∃k:Nat,k<=n/\ti=.int .i64 k/\Hid (wr.heap[w.heap.size+1+1+1]? =some (.cells #[.int .i64 (Cp k)] 3 (0,0)))/\Hid (w4.grownBy wr (some (w.heap.size+1+1+1)))) (λti _=>n-(intOf ti).toNat)
 case atStart=>exact⟨0,qg_,rfl,f.2.2.2.1,Bo _ _⟩
 case round=>
  obtain⟨k,P,rfl,i,g⟩:=hrel;have u0:=cR_ 0 i;have N:=λo=>fq_ o _ 3 i
  by_cases hlt:k<n
  ·obtain⟨L,R⟩:=lu k o_;have z:Hid (Cp (k+1)=_*_):=rfl;generalize Cp k=tk at *;have G:_=tk*10:=Cb o_ o_;have r:Hid ((wr.setCell _ _).heap[_+1+1]? =some (.cells #[I_ (tk*10)] 3 _)):=ht_ 0 _ 3 _ i;refine rd_ ?_;exact⟨k+1,o_,g_,by rw[z];exact r,Bm g _ _⟩
  obtain rfl:k=n:=o_;have D:=f.2.2.2.2.2;have c:=x6_ ((g.block _ o_ (λe=>w_)).trans f.1) ((g.block _ o_ (λe=>w_)).trans f.2.1) ((g.block _ o_ (λe=>w_)).trans f.2.2.1) i (f.2.2.2.2.1.grown g o_ (λq hq=>by simp at hq;omega)) ((Qb i).1);generalize wr=w3 at *;have h:(w3.alloc (.cells #[.func (.func 218) #[] #[]] 261)).heap[_]? =_:=(hc_ (by have:=c.2.2.2.2.2;omega)).trans c.2.2.1;have M:=cR_ 0 h;have E:=cR_ 1 h;have F:=cR_ 2 h;have S:=λo=>fq_ o _ _ h
  have d:((((w3.alloc (.cells #[.func (.func 218) #[] #[]] 261)).setCell (A_ (w.heap.size+1+1) 0) (.func (.func 214) #[] #[P_ (w.heap.size+1+1+1)])).setCell (A_ (w.heap.size+1+1) 1) (.func (.func 216) #[] #[P_ w.heap.size,P_ (w.heap.size+1)])).setCell (A_ (w.heap.size+1+1) 2) (.func (.func 266) #[] #[P_ w3.heap.size])).heap[w.heap.size+1+1]? =some (.cells #[.func (.func 214) #[] #[P_ (w.heap.size+1+1+1)],.func (.func 216) #[] #[P_ w.heap.size,P_ (w.heap.size+1)],.func (.func 266) #[] #[P_ w3.heap.size]] 263 (0,0)):=by have B:=ht_ 0 _ _ (.func (.func 214) #[] #[P_ (w.heap.size+1+1+1)]) h;have A:=ht_ 1 _ _ (.func (.func 216) #[] #[P_ w.heap.size,P_ (w.heap.size+1)]) B;exact ht_ 2 _ _ _ A
  have s:Hid (((((w3.alloc (.cells #[.func (.func 218) #[] #[]] 261)).setCell (A_ (w.heap.size+1+1) 0) (.func (.func 214) #[] #[P_ (w.heap.size+1+1+1)])).setCell (A_ (w.heap.size+1+1) 1) (.func (.func 216) #[] #[P_ w.heap.size,P_ (w.heap.size+1)])).setCell (A_ (w.heap.size+1+1) 2) (.func (.func 266) #[] #[P_ w3.heap.size])).cell? (A_ (w.heap.size+1+1) 0)=some (.func (.func 214) #[] #[P_ (w.heap.size+1+1+1)])/\((((w3.alloc (.cells #[.func (.func 218) #[] #[]] 261)).setCell (A_ (w.heap.size+1+1) 0) (.func (.func 214) #[] #[P_ (w.heap.size+1+1+1)])).setCell (A_ (w.heap.size+1+1) 1) (.func (.func 216) #[] #[P_ w.heap.size,P_ (w.heap.size+1)])).setCell (A_ (w.heap.size+1+1) 2) (.func (.func 266) #[] #[P_ w3.heap.size])).cell? (A_ (w.heap.size+1+1) 1)=some (.func (.func 216) #[] #[P_ w.heap.size,P_ (w.heap.size+1)])/\((((w3.alloc (.cells #[.func (.func 218) #[] #[]] 261)).setCell (A_ (w.heap.size+1+1) 0) (.func (.func 214) #[] #[P_ (w.heap.size+1+1+1)])).setCell (A_ (w.heap.size+1+1) 1) (.func (.func 216) #[] #[P_ w.heap.size,P_ (w.heap.size+1)])).setCell (A_ (w.heap.size+1+1) 2) (.func (.func 266) #[] #[P_ w3.heap.size])).cell? (A_ (w.heap.size+1+1) 2)=some (.func (.func 266) #[] #[P_ w3.heap.size])):=⟨cq_ 0 _ _ _ d,cq_ 1 _ _ _ d,cq_ 2 _ _ _ d⟩
  have m:Hid (E_ w ((((w3.alloc (.cells #[.func (.func 218) #[] #[]] 261)).setCell (A_ (w.heap.size+1+1) 0) (.func (.func 214) #[] #[P_ (w.heap.size+1+1+1)])).setCell (A_ (w.heap.size+1+1) 1) (.func (.func 216) #[] #[P_ w.heap.size,P_ (w.heap.size+1)])).setCell (A_ (w.heap.size+1+1) 2) (.func (.func 266) #[] #[P_ w3.heap.size]))):=(((c.2.2.2.2.1.alloc (by have:=c.2.2.2.2.2;omega) _).setCell (p:=(A_ (w.heap.size+1+1) 0)) t_ _).setCell (p:=(A_ (w.heap.size+1+1) 1)) t_ _).setCell (p:=(A_ (w.heap.size+1+1) 2)) t_ _
  have j:Hid (∀q,q≠w.heap.size+1+1->((((w3.alloc (.cells #[.func (.func 218) #[] #[]] 261)).setCell (A_ (w.heap.size+1+1) 0) (.func (.func 214) #[] #[P_ (w.heap.size+1+1+1)])).setCell (A_ (w.heap.size+1+1) 1) (.func (.func 216) #[] #[P_ w.heap.size,P_ (w.heap.size+1)])).setCell (A_ (w.heap.size+1+1) 2) (.func (.func 266) #[] #[P_ w3.heap.size])).heap[q]? =(w3.alloc (.cells #[.func (.func 218) #[] #[]] 261)).heap[q]?):=λq hq=>(Below.heap_setCell _ _ _ _ hq).trans ((Below.heap_setCell _ _ _ _ hq).trans (Below.heap_setCell _ _ _ _ hq))
  have l:Hid (Sk ((((w3.alloc (.cells #[.func (.func 218) #[] #[]] 261)).setCell (A_ (w.heap.size+1+1) 0) (.func (.func 214) #[] #[P_ (w.heap.size+1+1+1)])).setCell (A_ (w.heap.size+1+1) 1) (.func (.func 216) #[] #[P_ w.heap.size,P_ (w.heap.size+1)])).setCell (A_ (w.heap.size+1+1) 2) (.func (.func 266) #[] #[P_ w3.heap.size])) w.heap.size (.agg #[.func (.func 214) #[] #[P_ (w.heap.size+1+1+1)],.func (.func 216) #[] #[P_ w.heap.size,P_ (w.heap.size+1)],.func (.func 266) #[] #[P_ w3.heap.size]]) (Cp k) b a):=by
   have Q:=c.2.2.2.2.2;refine⟨⟨w.heap.size+1+1+1,w.heap.size,w.heap.size+1,w3.heap.size,rfl,o_,qa_,o_,o_,?_,?_,?_,?_⟩⟩;rw[j _ o_,hc_ o_];exact c.2.2.2.1;rw[j _ o_,hc_ o_];exact c.1;rw[j _ o_,hc_ o_];exact c.2.1;rw[j _ o_];exact hn_
  have y:=cR_ 0 c.2.2.1;have p1:=cR_ 1 c.2.2.1;have H:=cR_ 2 c.2.2.1;have I:=λo=>fq_ o _ _ c.2.2.1;have O:=World.new_ne _ _ y;go_wp2_with (go_at_call 212;refine(t _).mono ?_;rintro e w' ⟨rfl,rfl⟩)
  obtain⟨x,C,u⟩:=s;exact bodyPost_ret (v:=.agg _) (by simp[results,Tryz.results161,go_sem,x,C,u]) rfl ⟨_,rfl,l,m⟩
def ZjU:(Tryz.prog.info? 263).map (λi=>(i.zero,i.size,i.bytes))=some (some (.agg #[.nilFunc,.nilFunc,.nilFunc]),3,24):=k_
def Ny{S w w'}(t:Aa S w w')(hs:∀k,S k->k<w.heap.size->∃cur,w.heap[k]? =some (.cells cur 263 (0,0))){k:Nat}{cs ty}(h:w.heap[k]? =some (.cells cs ty (0,0)))(hne:ty≠263):w'.heap[k]? =some (.cells cs ty (0,0)):=
 t.at_ h (λe=>w_)
def Sl.touch{S w w' a v c b}(h:Sl w a v c b)(t:Aa S w w')(d:∀k,S k->k<w.heap.size->∃cur,w.heap[k]? =some (.cells cur 263 (0,0))):Sl w' a v c b:=by obtain⟨⟨g,e,l,o,p,n,j,m,f,i⟩⟩:=h;exact⟨⟨g,e,l,o,p,n,j,Ny t d m d_,Ny t d f d_,Ny t d i d_⟩⟩
def Sk.touch{S w w' a v u b c}(h:Sk w a v u b c)(t:Aa S w w')(d:∀k,S k->k<w.heap.size->∃cur,w.heap[k]? =some (.cells cur 263 (0,0))):Sk w' a v u b c:=by obtain⟨⟨i,g,e,m,p,r,s,q,l,o,f,j,n⟩⟩:=h;exact⟨⟨i,g,e,m,p,r,s,q,l,Ny t d o d_,Ny t d f d_,Ny t d j d_,Ny t d n d_⟩⟩
def Sl.base{w b d v c a}(h:Sl w d v c a)(j:b<=d):Sl w b v c a:=by obtain⟨⟨f,e,i,g,m,l,k,r⟩⟩:=h;exact⟨⟨f,e,i,g,o_,o_,o_,r⟩⟩
def Sk.base{w b d v u a c}(h:Sk w d v u a c)(k:b<=d):Sk w b v u a c:=by obtain⟨⟨g,f,e,i,j,n,o,m,l,r⟩⟩:=h;exact⟨⟨g,f,e,i,j,o_,o_,o_,o_,r⟩⟩
def Ue(w:World)(base:Nat)(v:Value)(wd:Bool)(sc ct bins size:Int):Prop:=(wd=true/\Sl w base v ct bins)∨(wd=false/\Sk w base v (Cp sc.toNat) bins size)
def Ue.touch{S w w' a v g d e b c}(h:Ue w a v g d e b c)(t:Aa S w w')(f:∀k,S k->k<w.heap.size->∃cur,w.heap[k]? =some (.cells cur 263 (0,0))):Ue w' a v g d e b c:=by
 rcases h with⟨h1,h2⟩|⟨h1,h2⟩
 exact .inl ⟨h1,h2.touch t f⟩;exact .inr ⟨h1,h2.touch t f⟩
def Ue.form{w a v f d e b c}(h:Ue w a v f d e b c):∃f0 c0 f1 c1 f2 c2,v=.agg #[.func f0 #[] c0,.func f1 #[] c1,.func f2 #[] c2]:=by
 rcases h with⟨_,⟨k1,k2,k3,h1,_⟩⟩|⟨_,⟨k0,k1,k2,k3,h1,_⟩⟩
 ·grind
 grind
structure Gt(w)(base fb n k:Nat)(wd:Nat->Bool)(sc ct:Nat->Int)(bins size):Prop where
 ex:∃cur:Array Value,w.heap[fb]? =some (.cells cur 263 (0,0))/\cur.size=n*3/\(∀i,i<k->∃v0 v1 v2,cur[i*3]? =some v0/\cur[i*3+1]? =some v1/\cur[i*3+2]? =some v2/\Ue w base (.agg #[v0,v1,v2]) (wd i) (sc i) (ct i) bins size)
def Gt.touch{S w w' e l n k o q m f g}(h:Gt w e l n k o q m f g)(t:Aa S w w')(p:∀k,k<w.heap.size->¬S k):Gt w' e l n k o q m f g:=by obtain⟨j,r,y,x⟩:=h;refine⟨j,t.at_ r (p _ (Qb r).1),y,λi hi=>?_⟩;obtain⟨v,s,u,a,b,c,d⟩:=x i hi;exact⟨v,s,u,a,b,c,d.touch t (λk hk hl=>absurd hk (p k hl))⟩
def Gt.cells{w c b n k j g i d e}(h:Gt w c b n k j g i d e)(l:k<n):(∃u0 u1 u2,w.cell? (A_ b (k*3))=some u0/\w.cell? (A_ b (k*3+1))=some u1/\w.cell? (A_ b (k*3+2))=some u2)/\∀o,w.frozen? (A_ b o)=false:=by obtain⟨a,f,m,_⟩:=h;refine⟨⟨a[k*3]' o_,a[k*3+1]' o_,a[k*3+2]' o_,?_,?_,?_⟩,λo=>fr_ w b o a 263 f⟩;rw[cell_of_row w b _ a 263 (0,0) f];grind;rw[cell_of_row w b _ a 263 (0,0) f];grind;rw[cell_of_row w b _ a 263 (0,0) f];grind
def Gt.put{w f l n k x u v g j}(h:Gt w f l n k x u v g j)(G:k<n){s o r}(E:Ue w f (.agg #[s,o,r]) (x k) (u k) (v k) g j):Gt (((w.setCell (A_ l (k*3)) s).setCell (A_ l (k*3+1)) o).setCell (A_ l (k*3+2)) r) f l n (k+1) x u v g j:=by
 have t:Aa _ w (((w.setCell _ s).setCell _ o).setCell _ r):=(((Aa.refl (λq=>q=l) w).setCell (p:=(A_ l (k*3))) (λ_=>rfl) _).setCell (p:=(A_ l (k*3+1))) (λ_=>rfl) _).setCell (p:=(A_ l (k*3+2))) (λ_=>rfl) _;obtain⟨m,z,F,D⟩:=h
 have y:∀q,(λq=>q=l) q->q<w.heap.size->∃m,w.heap[q]? =some (.cells m _ _):=λq e _=>by subst e;exact⟨m,z⟩
 have B:=hs_ w _ (k*3) _ _ s z;have A:=ht_ (k*3+1) _ _ o B;have C:=ht_ (k*3+2) _ _ r A;refine⟨_,C,by simp[F],λi hi=>?_⟩
 by_cases e:i=k
 ·subst e;refine⟨s,o,r,?_,?_,?_,E.touch t y⟩
  ·grind
  ·grind
  grind
 obtain⟨u0,u1,u2,a,b,c,d⟩:=D i o_;refine⟨u0,u1,u2,?_,?_,?_,d.touch t y⟩;rw[Array.getElem?_setIfInBounds_ne o_,Array.getElem?_setIfInBounds_ne o_,Array.getElem?_setIfInBounds_ne o_];exact a;rw[Array.getElem?_setIfInBounds_ne o_,Array.getElem?_setIfInBounds_ne o_,Array.getElem?_setIfInBounds_ne o_];exact b;rw[Array.getElem?_setIfInBounds_ne o_,Array.getElem?_setIfInBounds_ne o_,Array.getElem?_setIfInBounds_ne o_];exact c
def Zg4{p:Prop}(h:p:=by
 have HFM:=x1_ (HM.touch (Aa.of_below (S:=λ_=>False) hb3) (λ_ _=>id));have HCB2:=x1_ ((hb3.block _ hcl).trans HCB);have HB2:=x1_ (HB.trans (hb3.mono o_));obtain⟨f0,d0,f1,d1,f2,d2,hv⟩:=HMF.form;subst hv;obtain⟨⟨u0,u1,u2,g0,g1,g2⟩,gf⟩:=HFM.cells hk;have HNX:=x1_ (HFM.put hk HMF);refine rd_ ?_
 exact⟨k+1,o_,g_,HNX,(Below.heap_setCell _ _ _ _ s_).trans ((Below.heap_setCell _ _ _ _ s_).trans ((Below.heap_setCell _ _ _ _ s_).trans HCB2)),((HB2.setCell (p:=(A_ (w.heap.size+1) (k*3))) s_ _).setCell (p:=(A_ (w.heap.size+1) (k*3+1))) s_ _).setCell (p:=(A_ (w.heap.size+1) (k*3+2))) s_ _⟩):p:=h
def im b f n r a size c s d g w (G:Dd w b f n s d g)(h1:1<=n)(Y:n<=4)(C:∀i,i<n->s i=false->0<=d i/\d i<=3):C_ 96 #[.agg #[.slice (some ⟨b,f,none⟩) n r,.int .i64 a,.int .i64 size,.int .i64 c]] w λe w'=>∃fb,e=.returned (.slice (some ⟨fb,0,none⟩) n n)/\w.heap.size<=fb/\Gt w' w.heap.size fb n n s d g a size/\Below w.heap.size w w':=by
 obtain⟨U,t,E,z,y⟩:=info_parts ZjU
 have V:∀W:World,(Instr.makeSlice 155 (I_ n) (I_ n)).run Tryz.prog W=.ok (L_ W.heap.size n n) (W.alloc (.cells (madeCells #[.nilFunc,.nilFunc,.nilFunc] (n*3)) 263)):=λW=>by have:=run_make (P:=Tryz.prog) W 155 263 U _ Tryz.underlying155 t E .i64 .i64 (n:Int) (n:Int) o_ o_ (by rw[y];omega) o_;rw[this];simp[z,Value.cells]
 have u:=x1_ G;have l:=G.lt o_;go_enter Tryz.func96,Tryz.ntmps96;go_wp2_with fail
 have H:Hid (Gt ((w.alloc (.cells #[.slice (some ⟨b,f,none⟩) n r,I_ a,I_ size,I_ c] 37)).alloc (.cells (madeCells #[.nilFunc,.nilFunc,.nilFunc] (n*3)) 263)) w.heap.size (w.heap.size+1) n 0 s d g a size):=⟨_,Em _ _ _ s_,by simp[madeCells],λi hi=>o_⟩;have T:Hid (((w.alloc (.cells #[.slice (some ⟨b,f,none⟩) n r,I_ a,I_ size,I_ c] 37)).alloc (.cells (madeCells #[.nilFunc,.nilFunc,.nilFunc] (n*3)) 263)).heap[w.heap.size]? =_):=(hc_ s_).trans (ha_ w _);have L:Hid (Below _ w ((w.alloc (.cells #[.slice (some ⟨b,f,none⟩) n r,I_ a,I_ size,I_ c] 37)).alloc (.cells (madeCells #[.nilFunc,.nilFunc,.nilFunc] (n*3)) 263))):=bA_.alloc s_ _
 generalize ((w.alloc (.cells #[.slice (some ⟨b,f,none⟩) n r,I_ a,I_ size,I_ c] 37)).alloc (.cells (madeCells #[.nilFunc,.nilFunc,.nilFunc] (n*3)) 263))=w0 at *;go_loopw [13] (λti wr=>∃k:Nat,k<=n/\ti=.int .i64 k/\Hid (Gt wr w.heap.size (w.heap.size+1) n k s d g a size)/\Hid (wr.heap[w.heap.size]? =some (.cells #[.slice (some ⟨b,f,none⟩) n r,.int .i64 a,.int .i64 size,.int .i64 c] 37 (0,0)))/\Hid (E_ w wr)) (λti _=>n-(intOf ti).toNat)
 case atStart=>grind
 case round=>
  obtain⟨k,O,rfl,HM,HCB,HB⟩:=hrel;have hcl:=(Qb HCB).1
  by_cases hk:k<n
  ·have F:=(HB.cell (p:=(A_ b (f+k*3))) l).trans (u.c0 k hk);have Z:=(HB.cell (p:=(A_ b (f+k*3+1))) l).trans (u.c1 k hk);have X:=(HB.cell (p:=(A_ b (f+k*3+2))) l).trans (u.c2 k hk);have N:0<=(k:Int):=o_;have R:k<(n:Int):=o_
   cases hwd:s k with
   | true=>
    rw[hwd] at F;have D:Hid (C_ 160 #[.int .i64 (g k),.int .i64 a] (wr.alloc (.cells #[.bool true,.int .i64 (d k),.int .i64 (g k)] 51)) λe o=>∃v,e=.returned v/\Sl o (wr.heap.size+1) v (g k) a/\Below (wr.heap.size+1) (wr.alloc (.cells #[.bool true,.int .i64 (d k),.int .i64 (g k)] 51)) o):=by have:=Zbs (g k) a (wr.alloc (.cells #[.bool true,I_ (d k),I_ (g k)] 51));rw[show(wr.alloc (.cells #[.bool true,I_ (d k),I_ (g k)] 51)).heap.size=wr.heap.size+1 by simp] at this;exact this
    have j:Below _ wr (wr.alloc (.cells #[.bool true,I_ (d k),I_ (g k)] 51)):=bA_;have Q:(wr.alloc _).cell? _=some (.int _ _):=(j.cell (p:=(A_ w.heap.size 1)) hcl).trans (cq_ 1 _ _ _ HCB);have J:(wr.alloc _).cell? _=some (.int _ _):=(j.cell (p:=(A_ w.heap.size 2)) hcl).trans (cq_ 2 _ _ _ HCB);have q:=x1_ j;go_wp2_with fail
    refine D.mono ?_;rintro e o ⟨v,rfl,A,m⟩;have hb3:=q.trans (m.mono o_);have HMF:Hid (Ue _ w.heap.size v _ (d k) _ _ size):=.inl ⟨hwd,A.base o_⟩;exact Zg4
   | false=>
    rw[hwd] at F;obtain⟨I,M⟩:=C k hk hwd;have x:(d k).toNat=d k:=o_;have B:=x1_ x;have D:Hid (C_ 161 #[.int .i64 (d k),.int .i64 a,.int .i64 size] (wr.alloc (.cells #[.bool false,.int .i64 (d k),.int .i64 (g k)] 51)) λe o=>∃v,e=.returned v/\Sk o (wr.heap.size+1) v (Cp (d k).toNat) a size/\Below (wr.heap.size+1) (wr.alloc (.cells #[.bool false,.int .i64 (d k),.int .i64 (g k)] 51)) o):=by have:=qe (d k).toNat a size (wr.alloc (.cells #[.bool false,I_ (d k),I_ (g k)] 51)) o_;rw[show(wr.alloc (.cells #[.bool false,I_ (d k),I_ (g k)] 51)).heap.size=wr.heap.size+1 by simp] at this;rw[B] at this;exact this
    have j:Below _ wr (wr.alloc (.cells #[.bool false,I_ (d k),I_ (g k)] 51)):=bA_;have Q:(wr.alloc _).cell? _=some (.int _ _):=(j.cell (p:=(A_ w.heap.size 1)) hcl).trans (cq_ 1 _ _ _ HCB);have J:(wr.alloc _).cell? _=some (.int _ _):=(j.cell (p:=(A_ w.heap.size 2)) hcl).trans (cq_ 2 _ _ _ HCB);have q:=x1_ j;go_wp2_with fail
    refine D.mono ?_;rintro e o ⟨v,rfl,A,m⟩;have hb3:=q.trans (m.mono o_);have HMF:Hid (Ue _ w.heap.size v _ _ (g k) _ _):=.inr ⟨hwd,A.base o_⟩;exact Zg4
  obtain rfl:k=n:=o_;go_wp2;go_ret;exact⟨_,rfl,o_,HM,HB⟩
def ZjT:(Tryz.prog.info? 251).map (λi=>(i.zero,i.size,i.bytes))=some (some (.slice none 0 0),1,24):=k_
def part0:Cm:=⟨0,false,0,0,0,.slice none 0 0⟩
def qa f n w (i:n<=4):C_ 97 #[.slice (some ⟨f,0,none⟩) n n] w λe w'=>e=.returned (.pointer (some ⟨w.heap.size+1,0,none⟩))/\w'=(w.alloc (.cells (madeCells #[.slice none 0 0] n) 251)).alloc (.cells #[.slice (some ⟨f,0,none⟩) n n,.slice none 0 0,.slice (some ⟨w.heap.size,0,none⟩) n n,.int .i64 0,.bool false,.slice none 0 0,.int .i64 0,.bool false,.int .i64 0,.int .i64 0,.int .i64 0,.slice none 0 0] 256):=by
 obtain⟨g,a,d,c,b⟩:=info_parts ZjT
 have h:∀W:World,(Instr.makeSlice 248 (I_ n) (I_ n)).run Tryz.prog W=.ok (L_ W.heap.size n n) (W.alloc (.cells (madeCells #[.slice none 0 0] n) 251)):=λW=>by have:=run_make (P:=Tryz.prog) W 248 251 g _ Tryz.underlying248 a d .i64 .i64 (n:Int) (n:Int) o_ o_ (by rw[b];omega) o_;rw[this];simp[c,Value.cells]
 go_enter Tryz.func97,Tryz.ntmps97;go_wp2;go_ret;exact⟨s_,rfl⟩
def Gt.base{w g f o n k r s q j l}(h:Gt w f o n k r s q j l)(p:g<=f):Gt w g o n k r s q j l:=by
 obtain⟨m,y,z,x⟩:=h;refine⟨m,y,z,λi hi=>?_⟩;obtain⟨v,t,u,a,b,c,d⟩:=x i hi;refine⟨v,t,u,a,b,c,?_⟩
 rcases d with⟨e,d⟩|⟨e,d⟩
 exact .inl ⟨e,d.base p⟩;exact .inr ⟨e,d.base p⟩
structure Yl(w:World)(base tb fb rb cb n:Nat)(wd)(sc ct)(bins size budget):Prop where
 tx:w.heap[tb]? =some (.cells #[L_ fb n n,I_ budget,P_ rb,I_ 0] 158 (0,0))
 rd:RB w rb (L_ fb n n) (.slice none 0 0) (L_ cb n n) 0 false (.slice none 0 0) part0
 cl:w.heap[cb]? =some (.cells (madeCells #[.slice none 0 0] n) 251 (0,0))
 fs:Gt w base fb n n wd sc ct bins size
 lo:base<=tb/\base<=fb/\base<=rb/\base<=cb
def Zbn b f n m c d a x s A w (t:Dd w b f n x s A)(L:1<=n)(G:n<=4)(D:∀i,i<n->x i=false->0<=s i/\s i<=3):C_ 57 #[.agg #[.slice (some ⟨b,f,none⟩) n m,.int .i64 c,.int .i64 d,.int .i64 a]] w λe w'=>∃tb fb rb cb,e=.returned (.pointer (some ⟨tb,0,none⟩))/\Yl w' w.heap.size tb fb rb cb n x s A c d a/\Below w.heap.size w w':=by
 have v:Hid (Below _ w (w.alloc (.cells #[.slice (some ⟨b,f,none⟩) n m,I_ c,I_ d,I_ a] 37))):=bA_;have y:=t.lt o_;have z:Hid (Dd (w.alloc (.cells #[.slice (some ⟨b,f,none⟩) n m,I_ c,I_ d,I_ a] 37)) b f n x s A):=(by have k:=λo=>v.cell (p:=(A_ b o)) y;exact⟨t.le,λ_=>t_,λi hi=>(k _).trans (t.c0 i hi),λi hi=>(k _).trans (t.c1 i hi),λi hi=>(k _).trans (t.c2 i hi)⟩);have M:=x1_ D;have I:(w.alloc (.cells #[.slice (some ⟨b,f,none⟩) n m,I_ c,I_ d,I_ a] 37)).cell? (A_ w.heap.size 3)=some (I_ a):=s_;have r:(w.alloc (.cells #[.slice (some ⟨b,f,none⟩) n m,I_ c,I_ d,I_ a] 37)).heap.size=w.heap.size+1:=s_;have j:=x1_ r;go_enter Tryz.func57,Tryz.ntmps57;go_wp2_with fail
 generalize w.alloc (.cells #[.slice (some ⟨b,f,none⟩) n m,I_ c,I_ d,I_ a] 37)=w0 at *;refine(im b _ n _ _ _ _ _ _ _ _ z L G M).mono ?_;rintro e g ⟨fb,rfl,F,C,l⟩;have H:=(l.cell (p:=(A_ w.heap.size 3)) (by have:=j.out;simp;omega)).trans I;have h:=x3_ C F l;have u:w.heap.size<g.heap.size:=(by have:=l.size;have:=j.out;omega);have E:=x1_ (λW=>qa fb n W G);go_wp2_with fail
 have n1:=World.new_ne _ _ H;have Q:g.heap.size+1≠w.heap.size:=o_;have O:g.heap.size+1+1≠w.heap.size:=o_;have R:w.heap.size≠g.heap.size+1:=o_;have N:w.heap.size≠g.heap.size+1+1:=o_;have P:w.heap.size≠g.heap.size:=o_;go_region_held3 (λw'=>w'.cell? (A_ w.heap.size 3)=some (I_ a)) (exact(Below.cell (B:=g.heap.size) (w:=g) (p:=(A_ w.heap.size 3)) c_ u).trans H) (first|(go_at_call 97;refine(E _).mono ?_;rintro e w' ⟨rfl,rfl⟩))
 all_goals go_wp2
 all_goals go_ret
 have q:E_ g (((g.alloc (.cells (madeCells #[.slice none 0 0] n) 251)).alloc (.cells #[L_ fb n n,.slice none 0 0,L_ g.heap.size n n,I_ 0,.bool false,.slice none 0 0,I_ 0,.bool false,I_ 0,I_ 0,I_ 0,.slice none 0 0] 256)).alloc (.cells #[L_ fb n n,I_ a,P_ (g.heap.size+1),I_ 0] 158)).drew:=((bA_.alloc s_ _).alloc u_ _).drew;have r:=j.out;have J:=h.2.2.size;refine⟨g.heap.size+1+1,fb,g.heap.size+1,g.heap.size,rfl,⟨Em _ _ _ s_,(hc_ s_).trans (Em _ _ _ s_),(hc_ u_).trans ((hc_ s_).trans (Em _ _ _ rfl)),(h.1.base o_).touch (Aa.of_below (S:=λ_=>False) q) (λ_ _=>id),o_,by have:=h.2.1;omega,o_,o_⟩,?_⟩
 exact(v.trans (h.2.2.mono o_)).trans (q.mono o_)
structure vi(w:World)(base ib tb fb rb cb n:Nat)(wd)(sc ct)(bins size budget):Prop where
 ik:w.heap[ib]? =some (.cells #[P_ tb,.bool false,I_ 0,I_ 0] 119 (0,0))
 tx:Yl w base tb fb rb cb n wd sc ct bins size budget
 lo:base<=ib
def La{n b c a f d e}(h:Hz n b c a f d e=true):1<=n/\n<=4/\2<=b/\b<=16/\b<=c/\c<=32/\0<=a/\a<=20/\∀i,i<n->Lc (f i) (d i) (e i)=true:=by grind [Hz,Tf]
def Yl.below{w w' base tb fb rb cb n wd sc ct bins size budget}(h:Yl w base tb fb rb cb n wd sc ct bins size budget)(hb:Below w.heap.size w w'):Yl w' base tb fb rb cb n wd sc ct bins size budget:=
 ⟨(hb.block _ (Qb h.tx).1).trans h.tx,h.rd.below hb h.rd.lt,(hb.block _ (Qb h.cl).1).trans h.cl,h.fs.touch (Aa.of_below (S:=λ_=>False) hb) (λ_ _=>id),h.lo⟩
def Yl.base{w base base' tb fb rb cb n wd sc ct bins size budget}(h:Yl w base' tb fb rb cb n wd sc ct bins size budget)(hb:base<=base'):Yl w base tb fb rb cb n wd sc ct bins size budget:=
 ⟨h.tx,h.rd,h.cl,h.fs.base hb,by have:=h.lo;omega⟩
def ZdA b f n A c d a s l z w (m:Dd w b f n s l z)(G:Hz n c d a s l z=true):C_ 31 #[.agg #[.slice (some ⟨b,f,none⟩) n A,.int .i64 c,.int .i64 d,.int .i64 a]] w λe w'=>∃ib tb fb rb cb,e=.returned (.tuple #[.pointer (some ⟨ib,0,none⟩),.int .i64 0])/\vi w' w.heap.size ib tb fb rb cb n s l z c d a/\Below w.heap.size w w':=by
 obtain⟨M,J,_,_,_,_,_,_,N⟩:=La G
 have C:Hid (∀i,i<n->s i=false->0<=l i/\l i<=3):=λi hi hw=>by grind [Lc]
 have B:=m.lt o_;have x:Hid (Below _ w (w.alloc (.cells #[.slice (some ⟨b,f,none⟩) n A,I_ c,I_ d,I_ a] 37))):=bA_;have r:Hid ((w.alloc (.cells #[.slice (some ⟨b,f,none⟩) n A,I_ c,I_ d,I_ a] 37)).heap[_]? =_):=ha_ w _
 have u:Hid (∀W,E_ w W->Dd W b f n s l z):=λW hb=>by have k:=λo=>hb.cell (p:=(A_ b o)) B;exact⟨m.le,λ_=>by have:=hb.size;omega,λi hi=>(k _).trans (m.c0 i hi),λi hi=>(k _).trans (m.c1 i hi),λi hi=>(k _).trans (m.c2 i hi)⟩
 have L:=x1_ G;have E:=m.le;go_enter Tryz.func31,Tryz.ntmps31;go_wp2_with fail
 generalize w.alloc (.cells #[.slice (some ⟨b,f,none⟩) n A,I_ c,I_ d,I_ a] 37)=w0 at *;refine(Vc _ n _ _ _ _ _ _ _ _ E (.inr ⟨b,f,rfl,u _ x⟩)).mono ?_;rintro e O ⟨rfl,y⟩;rw[L];have t:=(Qb r).1;have g:=(y.block _ t).trans r;have Q:=cR_ 0 g;have P:=cR_ 1 g;have R:=cR_ 2 g;have S:=cR_ 3 g;have h:=x1_ (x.trans (y.mono o_));have q:=h.size;go_wp2_with fail
 refine(Zbn b _ n _ _ _ _ _ _ _ _ (u _ h) M J C).mono ?_;rintro e F ⟨tb,fb,rb,cb,rfl,I,D⟩;have H:=x1_ (I.base q);have j:=x1_ (h.trans (D.mono q));go_wp2;go_ret2
 have v:Below _ F (F.alloc (.cells #[P_ tb,.bool false,I_ 0,I_ 0] 119)):=bA_;exact⟨F.heap.size,tb,fb,rb,cb,rfl,⟨hn_,H.below v,j.size⟩,j.trans (v.mono j.size)⟩
def Zgb a n g c d b k l j w (p:n<=maxLen)(r:Ej w a n k l j)(o:Hz n c d b k l j=false):C_ 31 #[.agg #[.slice a n g,.int .i64 c,.int .i64 d,.int .i64 b]] w λe w'=>e=.returned (.tuple #[.pointer none,.int .i64 1])/\Below w.heap.size w w':=by
 have f:Hid (Below _ w (w.alloc (.cells #[.slice a n g,I_ c,I_ d,I_ b] 37))):=bA_;have m:=x1_ (r.below f);have q:=x1_ o;go_enter Tryz.func31,Tryz.ntmps31;go_wp2_with fail
 generalize w.alloc (.cells #[.slice a n g,I_ c,I_ d,I_ b] 37)=w0 at *;refine(Vc a n _ _ _ _ _ _ _ _ p m).mono ?_;rintro e s ⟨rfl,i⟩;rw[q];have h:=x1_ (f.trans (i.mono f.size));go_wp2;go_ret2
 exact⟨rfl,h⟩
end Go.Proofs.YtfcgnpchbcmdeaaGreat
