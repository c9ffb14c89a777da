import Derived.Test.YtfcgnpchbcmdeaaGreatZran
import Derived.Laws.EntriesVeiled
namespace Go.Proofs.YtfcgnpchbcmdeaaGreat
set_option linter.all false
set_option maxRecDepth 100000
set_option maxHeartbeats 4000000
open Go.RowKit
def Zgs b i g d a f k j p c w (h:RB w b i (.slice g 200 d) a f k j p):C_ 98 #[.pointer (some ⟨b,0,none⟩),.int .u8 c] w λe w'=>e=.returned (.int .i64 3)/\w'=w:=by obtain⟨_,l,_,_,_,_⟩:=h.head;go_enter Tryz.func98,Tryz.ntmps98;go_wp2;go_ret;exact⟨rfl,rfl⟩
def Zlz:ZgU->Int
 |none=>2
 |_=>0
def Zb2 b m o f l k d n p c w (h:RB w b m (.slice o f l) k d false n p)(B:f<200)(s:0<=d)(v:d<=99)(j:0<=c)(i:c<=255):C_ 98 #[.pointer (some ⟨b,0,none⟩),.int .u8 c] w λe w'=>e=.returned (.int .i64 (Zlz (Bd d c)))/\∃e',ZkF b m (.slice o f l) k d false n p (Bd d c) w e' w':=by
 obtain⟨_,x,_,_,A,_⟩:=h.head;have u:((f:Int)==200)=_:=beq_eq_false_iff_ne.2 o_;have q:¬(f:Int)=200:=o_;have H:=x1_ h;go_enter Tryz.func98,Tryz.ntmps98;go_wp2_with fail
 refine(Xz b _ _ _ _ _ _ p c w H s v j i).mono ?_;rintro e y a;have r:=x1_ a
 have g:(e=.returned (.bool false)/\Zlz (Bd d c)=2)∨(e=.returned (.bool true)/\Zlz (Bd d c)=0):=by
  obtain⟨_,a⟩:=a
  rcases hw:Bd d c with _|_|z
  rw[hw] at a;exact .inl ⟨a.1,rfl⟩;rw[hw] at a;exact .inr ⟨a.1,rfl⟩;rw[hw] at a;exact .inr ⟨a.1,rfl⟩
 rcases g with⟨rfl,g⟩|⟨rfl,g⟩
 all_goals
  have t:=show Hid _ from g
  go_wp2;go_ret;rw[t];exact⟨rfl,_,r⟩
def St(f:Nat) w:C_ 212 #[.func (.func f) #[] #[]] w λe w'=>e=.returned (.func (.func 266) #[] #[.pointer (some ⟨w.heap.size,0,none⟩)])/\w'=w.alloc (.cells #[.func (.func f) #[] #[]] 261):=by go_enter Tryz.func212,Tryz.ntmps212;go_wp2;go_ret;exact⟨rfl,rfl⟩
structure Sl(w:World)(base)(v:Value)(cut bins):Prop where
 ex:∃k1 k2 k3:Nat,v=.agg #[.func (.func 209) #[] #[],.func (.func 210) #[] #[P_ k1,P_ k2],.func (.func 266) #[] #[P_ k3]]/\
  base<=k1/\base<=k2/\base<=k3/\w.heap[k1]? =some (.cells #[I_ cut] 3 (0,0))/\w.heap[k2]? =some (.cells #[I_ bins] 3 (0,0))/\w.heap[k3]? =some (.cells #[.func (.func 213) #[] #[]] 261 (0,0))
def Em(W:World) o n (h:W.heap.size=n):(W.alloc o).heap[n]? =some o:=by subst h;exact ha_ W o
def Zbs b a w:C_ 160 #[.int .i64 b,.int .i64 a] w λe w'=>∃v,e=.returned v/\Sl w' w.heap.size v b a/\Below w.heap.size w w':=by
 have t:Hid (∀W,Calls _ 212 #[.func (.func 213) #[] #[]] W λe w'=>_/\w'=W.alloc (.cells #[.func (.func 213) #[] #[]] 261)):=λW=>St _ W
 have d:Hid ((((w.alloc (.cells #[I_ b] 3)).alloc (.cells #[I_ a] 3)).alloc (.cells #[.nilFunc,.nilFunc,.nilFunc] 263)).heap[w.heap.size]? =some (.cells #[I_ b] 3 (0,0))/\(((w.alloc (.cells #[I_ b] 3)).alloc (.cells #[I_ a] 3)).alloc (.cells #[.nilFunc,.nilFunc,.nilFunc] 263)).heap[w.heap.size+1]? =some (.cells #[I_ a] 3 (0,0))/\(((w.alloc (.cells #[I_ b] 3)).alloc (.cells #[I_ a] 3)).alloc (.cells #[.nilFunc,.nilFunc,.nilFunc] 263)).heap[w.heap.size+1+1]? =some (.cells #[.nilFunc,.nilFunc,.nilFunc] 263 (0,0))/\E_ w (((w.alloc (.cells #[I_ b] 3)).alloc (.cells #[I_ a] 3)).alloc (.cells #[.nilFunc,.nilFunc,.nilFunc] 263))/\(((w.alloc (.cells #[I_ b] 3)).alloc (.cells #[I_ a] 3)).alloc (.cells #[.nilFunc,.nilFunc,.nilFunc] 263)).heap.size=w.heap.size+1+1+1):=
  ⟨(hc_ u_).trans ((hc_ s_).trans (Em _ _ _ rfl)),(hc_ s_).trans (Em _ _ _ s_),Em _ _ _ s_,(bA_.alloc s_ _).alloc u_ _,s_⟩
 go_enter Tryz.func160,Tryz.ntmps160;go_upto_region 1 with fail;generalize (((w.alloc (.cells #[I_ b] 3)).alloc (.cells #[I_ a] 3)).alloc (.cells #[.nilFunc,.nilFunc,.nilFunc] 263))=w3 at *;have f:(w3.alloc (.cells #[.func (.func 213) #[] #[]] 261)).heap[_]? =_:=(hc_ (by have:=d.2.2.2.2;omega)).trans d.2.2.1;have y:=cR_ 0 f;have D:=cR_ 1 f;have z:=cR_ 2 f;have x:=λo=>fq_ o _ _ f
 have c:((((w3.alloc (.cells #[.func (.func 213) #[] #[]] 261)).setCell (A_ (w.heap.size+1+1) 0) (.func (.func 209) #[] #[])).setCell (A_ (w.heap.size+1+1) 1) (.func (.func 210) #[] #[P_ w.heap.size,P_ (w.heap.size+1)])).setCell (A_ (w.heap.size+1+1) 2) (.func (.func 266) #[] #[P_ w3.heap.size])).heap[w.heap.size+1+1]? =some (.cells #[.func (.func 209) #[] #[],.func (.func 210) #[] #[P_ w.heap.size,P_ (w.heap.size+1)],.func (.func 266) #[] #[P_ w3.heap.size]] 263 (0,0)):=by have q:=ht_ 0 _ _ (.func (.func 209) #[] #[]) f;have r:=ht_ 1 _ _ (.func (.func 210) #[] #[P_ w.heap.size,P_ (w.heap.size+1)]) q;exact ht_ 2 _ _ _ r
 have l:Hid (((((w3.alloc (.cells #[.func (.func 213) #[] #[]] 261)).setCell (A_ (w.heap.size+1+1) 0) (.func (.func 209) #[] #[])).setCell (A_ (w.heap.size+1+1) 1) (.func (.func 210) #[] #[P_ w.heap.size,P_ (w.heap.size+1)])).setCell (A_ (w.heap.size+1+1) 2) (.func (.func 266) #[] #[P_ w3.heap.size])).cell? (A_ (w.heap.size+1+1) 0)=some (.func (.func 209) #[] #[])/\((((w3.alloc (.cells #[.func (.func 213) #[] #[]] 261)).setCell (A_ (w.heap.size+1+1) 0) (.func (.func 209) #[] #[])).setCell (A_ (w.heap.size+1+1) 1) (.func (.func 210) #[] #[P_ w.heap.size,P_ (w.heap.size+1)])).setCell (A_ (w.heap.size+1+1) 2) (.func (.func 266) #[] #[P_ w3.heap.size])).cell? (A_ (w.heap.size+1+1) 1)=some (.func (.func 210) #[] #[P_ w.heap.size,P_ (w.heap.size+1)])/\((((w3.alloc (.cells #[.func (.func 213) #[] #[]] 261)).setCell (A_ (w.heap.size+1+1) 0) (.func (.func 209) #[] #[])).setCell (A_ (w.heap.size+1+1) 1) (.func (.func 210) #[] #[P_ w.heap.size,P_ (w.heap.size+1)])).setCell (A_ (w.heap.size+1+1) 2) (.func (.func 266) #[] #[P_ w3.heap.size])).cell? (A_ (w.heap.size+1+1) 2)=some (.func (.func 266) #[] #[P_ w3.heap.size])):=⟨cq_ 0 _ _ _ c,cq_ 1 _ _ _ c,cq_ 2 _ _ _ c⟩
 have h:Hid (E_ w ((((w3.alloc (.cells #[.func (.func 213) #[] #[]] 261)).setCell (A_ (w.heap.size+1+1) 0) (.func (.func 209) #[] #[])).setCell (A_ (w.heap.size+1+1) 1) (.func (.func 210) #[] #[P_ w.heap.size,P_ (w.heap.size+1)])).setCell (A_ (w.heap.size+1+1) 2) (.func (.func 266) #[] #[P_ w3.heap.size]))):=(((d.2.2.2.1.alloc (by have:=d.2.2.2.2;omega) _).setCell (p:=(A_ (w.heap.size+1+1) 0)) t_ _).setCell (p:=(A_ (w.heap.size+1+1) 1)) t_ _).setCell (p:=(A_ (w.heap.size+1+1) 2)) t_ _
 have g:Hid (∀k,k≠w.heap.size+1+1->k<w3.heap.size+1->((((w3.alloc (.cells #[.func (.func 213) #[] #[]] 261)).setCell (A_ (w.heap.size+1+1) 0) (.func (.func 209) #[] #[])).setCell (A_ (w.heap.size+1+1) 1) (.func (.func 210) #[] #[P_ w.heap.size,P_ (w.heap.size+1)])).setCell (A_ (w.heap.size+1+1) 2) (.func (.func 266) #[] #[P_ w3.heap.size])).heap[k]? =(w3.alloc (.cells #[.func (.func 213) #[] #[]] 261)).heap[k]?):=λk hk _=>(Below.heap_setCell _ _ _ _ hk).trans ((Below.heap_setCell _ _ _ _ hk).trans (Below.heap_setCell _ _ _ _ hk))
 have i:Hid (Sl ((((w3.alloc (.cells #[.func (.func 213) #[] #[]] 261)).setCell (A_ (w.heap.size+1+1) 0) (.func (.func 209) #[] #[])).setCell (A_ (w.heap.size+1+1) 1) (.func (.func 210) #[] #[P_ w.heap.size,P_ (w.heap.size+1)])).setCell (A_ (w.heap.size+1+1) 2) (.func (.func 266) #[] #[P_ w3.heap.size])) w.heap.size (.agg #[.func (.func 209) #[] #[],.func (.func 210) #[] #[P_ w.heap.size,P_ (w.heap.size+1)],.func (.func 266) #[] #[P_ w3.heap.size]]) b a):=by have A:=d.2.2.2.2;refine⟨⟨w.heap.size,w.heap.size+1,w3.heap.size,rfl,qa_,o_,o_,?_,?_,?_⟩⟩;rw[g _ o_ o_,hc_ o_];exact d.1;rw[g _ o_ o_,hc_ o_];exact d.2.1;rw[g _ o_ o_];exact hn_
 have n:=cR_ 0 d.2.2.1;have p1:=cR_ 1 d.2.2.1;have B:=cR_ 2 d.2.2.1;have C:=λo=>fq_ o _ _ d.2.2.1;have u:=World.new_ne _ _ n;go_wp2_with (go_at_call 212;refine(t _).mono ?_;rintro e w' ⟨rfl,rfl⟩)
 obtain⟨s,j,m⟩:=l;exact bodyPost_ret (v:=.agg _) (by simp[results,Tryz.results160,go_sem,s,j,m]) rfl ⟨_,rfl,i,h⟩
def Cp:Nat->Int
 |0=>1
 |n+1=>Cp n*10
def lu:∀n,n<=3->1<=Cp n/\Cp n<=1000
 |0,_=>by simp[Cp]
 |1,_=>by simp[Cp]
 |2,_=>by simp[Cp]
 |3,_=>by simp[Cp]
 |n+4,h=>o_
structure Sk(w:World)(base)(v:Value)(unit bins size):Prop where
 ex:∃k0 k1 k2 k3:Nat,v=.agg #[.func (.func 214) #[] #[P_ k0],.func (.func 216) #[] #[P_ k1,P_ k2],.func (.func 266) #[] #[P_ k3]]/\
  base<=k0/\base<=k1/\base<=k2/\base<=k3/\w.heap[k0]? =some (.cells #[I_ unit] 3 (0,0))/\w.heap[k1]? =some (.cells #[I_ bins] 3 (0,0))/\w.heap[k2]? =some (.cells #[I_ size] 3 (0,0))/\w.heap[k3]? =some (.cells #[.func (.func 218) #[] #[]] 261 (0,0))
def qe(n:Nat) b a w (I:n<=3):C_ 161 #[.int .i64 n,.int .i64 b,.int .i64 a] w λe w'=>∃v,e=.returned v/\Sk w' w.heap.size v (Cp n) b a/\Below w.heap.size w w':=by
 have u:Hid (∀W,Calls _ 212 #[.func (.func 218) #[] #[]] W λe w'=>_/\w'=W.alloc (.cells #[.func (.func 218) #[] #[]] 261)):=λW=>St _ W
 have f:Hid (((((w.alloc (.cells #[I_ b] 3)).alloc (.cells #[I_ a] 3)).alloc (.cells #[.nilFunc,.nilFunc,.nilFunc] 263)).alloc (.cells #[I_ 1] 3)).heap[w.heap.size]? =some (.cells #[I_ b] 3 (0,0))/\((((w.alloc (.cells #[I_ b] 3)).alloc (.cells #[I_ a] 3)).alloc (.cells #[.nilFunc,.nilFunc,.nilFunc] 263)).alloc (.cells #[I_ 1] 3)).heap[w.heap.size+1]? =some (.cells #[I_ a] 3 (0,0))/\((((w.alloc (.cells #[I_ b] 3)).alloc (.cells #[I_ a] 3)).alloc (.cells #[.nilFunc,.nilFunc,.nilFunc] 263)).alloc (.cells #[I_ 1] 3)).heap[w.heap.size+1+1]? =some (.cells #[.nilFunc,.nilFunc,.nilFunc] 263 (0,0))/\((((w.alloc (.cells #[I_ b] 3)).alloc (.cells #[I_ a] 3)).alloc (.cells #[.nilFunc,.nilFunc,.nilFunc] 263)).alloc (.cells #[I_ 1] 3)).heap[w.heap.size+1+1+1]? =some (.cells #[I_ 1] 3 (0,0))/\E_ w ((((w.alloc (.cells #[I_ b] 3)).alloc (.cells #[I_ a] 3)).alloc (.cells #[.nilFunc,.nilFunc,.nilFunc] 263)).alloc (.cells #[I_ 1] 3))/\((((w.alloc (.cells #[I_ b] 3)).alloc (.cells #[I_ a] 3)).alloc (.cells #[.nilFunc,.nilFunc,.nilFunc] 263)).alloc (.cells #[I_ 1] 3)).heap.size=w.heap.size+1+1+1+1):=
  ⟨(hc_ u_).trans ((hc_ u_).trans ((hc_ s_).trans (Em _ _ _ rfl))),(hc_ u_).trans ((hc_ s_).trans (Em _ _ _ s_)),(hc_ s_).trans (Em _ _ _ s_),Em _ _ _ s_,((bA_.alloc s_ _).alloc u_ _).alloc u_ _,s_⟩
 go_enter Tryz.func161,Tryz.ntmps161;go_wp2_with fail
 generalize ((((w.alloc (.cells #[I_ b] 3)).alloc (.cells #[I_ a] 3)).alloc (.cells #[.nilFunc,.nilFunc,.nilFunc] 263)).alloc (.cells #[I_ 1] 3))=w4 at *;go_loopw [9] (λti wr=>∃k:Nat,k<=n/\ti=.int .i64 k/\Hid (wr.heap[w.heap.size+1+1+1]? =some (.cells #[.int .i64 (Cp k)] 3 (0,0)))/\Hid (w4.grownBy wr (some (w.heap.size+1+1+1)))) (λti _=>n-(intOf ti).toNat)
 case atStart=>exact⟨0,qg_,rfl,f.2.2.2.1,Bo _ _⟩
 case round=>
  obtain⟨k,G,rfl,i,g⟩:=hrel;have u0:=cR_ 0 i;have L:=λo=>fq_ o _ 3 i
  by_cases hlt:k<n
  ·obtain⟨Q,H⟩:=lu k o_;have x:Hid (Cp (k+1)=_*_):=rfl;generalize Cp k=tk at *;have S:_=tk*10:=Cb o_ o_;have A:Hid ((wr.setCell _ _).heap[_+1+1]? =some (.cells #[I_ (tk*10)] 3 _)):=ht_ 0 _ 3 _ i;refine rd_ ?_;exact⟨k+1,o_,g_,by rw[x];exact A,Bm g _ _⟩
  obtain rfl:k=n:=o_;have s:=f.2.2.2.2.2;have c:=x6_ ((g.block _ o_ (λe=>w_)).trans f.1) ((g.block _ o_ (λe=>w_)).trans f.2.1) ((g.block _ o_ (λe=>w_)).trans f.2.2.1) i (f.2.2.2.2.1.grown g o_ (λq hq=>by simp at hq;omega)) ((Qb i).1);generalize wr=w3 at *;have h:(w3.alloc (.cells #[.func (.func 218) #[] #[]] 261)).heap[_]? =_:=(hc_ (by have:=c.2.2.2.2.2;omega)).trans c.2.2.1;have M:=cR_ 0 h;have R:=cR_ 1 h;have N:=cR_ 2 h;have J:=λo=>fq_ o _ _ h
  have d:((((w3.alloc (.cells #[.func (.func 218) #[] #[]] 261)).setCell (A_ (w.heap.size+1+1) 0) (.func (.func 214) #[] #[P_ (w.heap.size+1+1+1)])).setCell (A_ (w.heap.size+1+1) 1) (.func (.func 216) #[] #[P_ w.heap.size,P_ (w.heap.size+1)])).setCell (A_ (w.heap.size+1+1) 2) (.func (.func 266) #[] #[P_ w3.heap.size])).heap[w.heap.size+1+1]? =some (.cells #[.func (.func 214) #[] #[P_ (w.heap.size+1+1+1)],.func (.func 216) #[] #[P_ w.heap.size,P_ (w.heap.size+1)],.func (.func 266) #[] #[P_ w3.heap.size]] 263 (0,0)):=by have C:=ht_ 0 _ _ (.func (.func 214) #[] #[P_ (w.heap.size+1+1+1)]) h;have D:=ht_ 1 _ _ (.func (.func 216) #[] #[P_ w.heap.size,P_ (w.heap.size+1)]) C;exact ht_ 2 _ _ _ D
  have z:Hid (((((w3.alloc (.cells #[.func (.func 218) #[] #[]] 261)).setCell (A_ (w.heap.size+1+1) 0) (.func (.func 214) #[] #[P_ (w.heap.size+1+1+1)])).setCell (A_ (w.heap.size+1+1) 1) (.func (.func 216) #[] #[P_ w.heap.size,P_ (w.heap.size+1)])).setCell (A_ (w.heap.size+1+1) 2) (.func (.func 266) #[] #[P_ w3.heap.size])).cell? (A_ (w.heap.size+1+1) 0)=some (.func (.func 214) #[] #[P_ (w.heap.size+1+1+1)])/\((((w3.alloc (.cells #[.func (.func 218) #[] #[]] 261)).setCell (A_ (w.heap.size+1+1) 0) (.func (.func 214) #[] #[P_ (w.heap.size+1+1+1)])).setCell (A_ (w.heap.size+1+1) 1) (.func (.func 216) #[] #[P_ w.heap.size,P_ (w.heap.size+1)])).setCell (A_ (w.heap.size+1+1) 2) (.func (.func 266) #[] #[P_ w3.heap.size])).cell? (A_ (w.heap.size+1+1) 1)=some (.func (.func 216) #[] #[P_ w.heap.size,P_ (w.heap.size+1)])/\((((w3.alloc (.cells #[.func (.func 218) #[] #[]] 261)).setCell (A_ (w.heap.size+1+1) 0) (.func (.func 214) #[] #[P_ (w.heap.size+1+1+1)])).setCell (A_ (w.heap.size+1+1) 1) (.func (.func 216) #[] #[P_ w.heap.size,P_ (w.heap.size+1)])).setCell (A_ (w.heap.size+1+1) 2) (.func (.func 266) #[] #[P_ w3.heap.size])).cell? (A_ (w.heap.size+1+1) 2)=some (.func (.func 266) #[] #[P_ w3.heap.size])):=⟨cq_ 0 _ _ _ d,cq_ 1 _ _ _ d,cq_ 2 _ _ _ d⟩
  have m:Hid (E_ w ((((w3.alloc (.cells #[.func (.func 218) #[] #[]] 261)).setCell (A_ (w.heap.size+1+1) 0) (.func (.func 214) #[] #[P_ (w.heap.size+1+1+1)])).setCell (A_ (w.heap.size+1+1) 1) (.func (.func 216) #[] #[P_ w.heap.size,P_ (w.heap.size+1)])).setCell (A_ (w.heap.size+1+1) 2) (.func (.func 266) #[] #[P_ w3.heap.size]))):=(((c.2.2.2.2.1.alloc (by have:=c.2.2.2.2.2;omega) _).setCell (p:=(A_ (w.heap.size+1+1) 0)) t_ _).setCell (p:=(A_ (w.heap.size+1+1) 1)) t_ _).setCell (p:=(A_ (w.heap.size+1+1) 2)) t_ _
  have j:Hid (∀q,q≠w.heap.size+1+1->((((w3.alloc (.cells #[.func (.func 218) #[] #[]] 261)).setCell (A_ (w.heap.size+1+1) 0) (.func (.func 214) #[] #[P_ (w.heap.size+1+1+1)])).setCell (A_ (w.heap.size+1+1) 1) (.func (.func 216) #[] #[P_ w.heap.size,P_ (w.heap.size+1)])).setCell (A_ (w.heap.size+1+1) 2) (.func (.func 266) #[] #[P_ w3.heap.size])).heap[q]? =(w3.alloc (.cells #[.func (.func 218) #[] #[]] 261)).heap[q]?):=λq hq=>(Below.heap_setCell _ _ _ _ hq).trans ((Below.heap_setCell _ _ _ _ hq).trans (Below.heap_setCell _ _ _ _ hq))
  have l:Hid (Sk ((((w3.alloc (.cells #[.func (.func 218) #[] #[]] 261)).setCell (A_ (w.heap.size+1+1) 0) (.func (.func 214) #[] #[P_ (w.heap.size+1+1+1)])).setCell (A_ (w.heap.size+1+1) 1) (.func (.func 216) #[] #[P_ w.heap.size,P_ (w.heap.size+1)])).setCell (A_ (w.heap.size+1+1) 2) (.func (.func 266) #[] #[P_ w3.heap.size])) w.heap.size (.agg #[.func (.func 214) #[] #[P_ (w.heap.size+1+1+1)],.func (.func 216) #[] #[P_ w.heap.size,P_ (w.heap.size+1)],.func (.func 266) #[] #[P_ w3.heap.size]]) (Cp k) b a):=by
   have F:=c.2.2.2.2.2;refine⟨⟨w.heap.size+1+1+1,w.heap.size,w.heap.size+1,w3.heap.size,rfl,o_,qa_,o_,o_,?_,?_,?_,?_⟩⟩;rw[j _ o_,hc_ o_];exact c.2.2.2.1;rw[j _ o_,hc_ o_];exact c.1;rw[j _ o_,hc_ o_];exact c.2.1;rw[j _ o_];exact hn_
  have B:=cR_ 0 c.2.2.1;have p1:=cR_ 1 c.2.2.1;have O:=cR_ 2 c.2.2.1;have P:=λo=>fq_ o _ _ c.2.2.1;have E:=World.new_ne _ _ B;go_wp2_with (go_at_call 212;refine(u _).mono ?_;rintro e w' ⟨rfl,rfl⟩)
  obtain⟨t,y,r⟩:=z;exact bodyPost_ret (v:=.agg _) (by simp[results,Tryz.results161,go_sem,t,y,r]) rfl ⟨_,rfl,l,m⟩
def ZjT:(Tryz.prog.info? 263).map (λi=>(i.zero,i.size,i.bytes))=some (some (.agg #[.nilFunc,.nilFunc,.nilFunc]),3,24):=k_
def Ny{S w w'}(t:Aa S w w')(hs:∀k,S k->k<w.heap.size->∃cur,w.heap[k]? =some (.cells cur 263 (0,0))){k:Nat}{cs ty}(h:w.heap[k]? =some (.cells cs ty (0,0)))(hne:ty≠263):w'.heap[k]? =some (.cells cs ty (0,0)):=
 t.at_ h (λe=>w_)
def Sl.touch{S w w' a v c b}(h:Sl w a v c b)(t:Aa S w w')(d:∀k,S k->k<w.heap.size->∃cur,w.heap[k]? =some (.cells cur 263 (0,0))):Sl w' a v c b:=by obtain⟨⟨l,o,g,p,m,f,n,i,e,j⟩⟩:=h;exact⟨⟨l,o,g,p,m,f,n,Ny t d i d_,Ny t d e d_,Ny t d j d_⟩⟩
def Sk.touch{S w w' a v u c b}(h:Sk w a v u c b)(t:Aa S w w')(d:∀k,S k->k<w.heap.size->∃cur,w.heap[k]? =some (.cells cur 263 (0,0))):Sk w' a v u c b:=by obtain⟨⟨r,n,q,i,m,s,o,g,p,j,e,l,f⟩⟩:=h;exact⟨⟨r,n,q,i,m,s,o,g,p,Ny t d j d_,Ny t d e d_,Ny t d l d_,Ny t d f d_⟩⟩
def Sl.base{w b d v c a}(h:Sl w d v c a)(l:b<=d):Sl w b v c a:=by obtain⟨⟨g,e,f,i,j,m,k,r⟩⟩:=h;exact⟨⟨g,e,f,i,o_,o_,o_,r⟩⟩
def Sk.base{w b d v u c a}(h:Sk w d v u c a)(l:b<=d):Sk w b v u c a:=by obtain⟨⟨j,g,i,e,f,o,m,k,n,r⟩⟩:=h;exact⟨⟨j,g,i,e,f,o_,o_,o_,o_,r⟩⟩
def Ue(w:World)(base:Nat)(v:Value)(wd:Bool)(sc ct bins size:Int):Prop:=(wd=true/\Sl w base v ct bins)∨(wd=false/\Sk w base v (Cp sc.toNat) bins size)
def Ue.touch{S w w' a v f g e b c}(h:Ue w a v f g e b c)(t:Aa S w w')(d:∀k,S k->k<w.heap.size->∃cur,w.heap[k]? =some (.cells cur 263 (0,0))):Ue w' a v f g e b c:=by
 rcases h with⟨h1,h2⟩|⟨h1,h2⟩
 exact .inl ⟨h1,h2.touch t d⟩;exact .inr ⟨h1,h2.touch t d⟩
def Ue.form{w a v f e d b c}(h:Ue w a v f e d b c):∃f0 c0 f1 c1 f2 c2,v=.agg #[.func f0 #[] c0,.func f1 #[] c1,.func f2 #[] c2]:=by
 rcases h with⟨_,⟨k1,k2,k3,h1,_⟩⟩|⟨_,⟨k0,k1,k2,k3,h1,_⟩⟩
 ·grind
 grind
structure Gt(w)(base fb n k:Nat)(wd:Nat->Bool)(sc ct:Nat->Int)(bins size):Prop where
 ex:∃cur:Array Value,w.heap[fb]? =some (.cells cur 263 (0,0))/\cur.size=n*3/\(∀i,i<k->∃v0 v1 v2,cur[i*3]? =some v0/\cur[i*3+1]? =some v1/\cur[i*3+2]? =some v2/\Ue w base (.agg #[v0,v1,v2]) (wd i) (sc i) (ct i) bins size)
def Gt.touch{S w w' e m n k q l p g f}(h:Gt w e m n k q l p g f)(t:Aa S w w')(o:∀k,k<w.heap.size->¬S k):Gt w' e m n k q l p g f:=by obtain⟨j,r,x,s⟩:=h;refine⟨j,t.at_ r (o _ (Qb r).1),x,λi hi=>?_⟩;obtain⟨v,y,u,a,b,c,d⟩:=s i hi;exact⟨v,y,u,a,b,c,d.touch t (λk hk hl=>absurd hk (o k hl))⟩
def Gt.cells{w c b n k i j g d e}(h:Gt w c b n k i j g d e)(m:k<n):(∃u0 u1 u2,w.cell? (A_ b (k*3))=some u0/\w.cell? (A_ b (k*3+1))=some u1/\w.cell? (A_ b (k*3+2))=some u2)/\∀o,w.frozen? (A_ b o)=false:=by obtain⟨a,f,l,_⟩:=h;refine⟨⟨a[k*3]' o_,a[k*3+1]' o_,a[k*3+2]' o_,?_,?_,?_⟩,λo=>fr_ w b o a 263 f⟩;rw[cell_of_row w b _ a 263 (0,0) f];grind;rw[cell_of_row w b _ a 263 (0,0) f];grind;rw[cell_of_row w b _ a 263 (0,0) f];grind
def Gt.put{w g l n k v x u f j}(h:Gt w g l n k v x u f j)(G:k<n){s o r}(A:Ue w g (.agg #[s,o,r]) (v k) (x k) (u k) f j):Gt (((w.setCell (A_ l (k*3)) s).setCell (A_ l (k*3+1)) o).setCell (A_ l (k*3+2)) r) g l n (k+1) v x u f j:=by
 have t:Aa _ w (((w.setCell _ s).setCell _ o).setCell _ r):=(((Aa.refl (λq=>q=l) w).setCell (p:=(A_ l (k*3))) (λ_=>rfl) _).setCell (p:=(A_ l (k*3+1))) (λ_=>rfl) _).setCell (p:=(A_ l (k*3+2))) (λ_=>rfl) _;obtain⟨m,z,C,E⟩:=h
 have y:∀q,(λq=>q=l) q->q<w.heap.size->∃m,w.heap[q]? =some (.cells m _ _):=λq e _=>by subst e;exact⟨m,z⟩
 have B:=hs_ w _ (k*3) _ _ s z;have D:=ht_ (k*3+1) _ _ o B;have F:=ht_ (k*3+2) _ _ r D;refine⟨_,F,by simp[C],λi hi=>?_⟩
 by_cases e:i=k
 ·subst e;refine⟨s,o,r,?_,?_,?_,A.touch t y⟩
  ·grind
  ·grind
  grind
 obtain⟨u0,u1,u2,a,b,c,d⟩:=E i o_;refine⟨u0,u1,u2,?_,?_,?_,d.touch t y⟩;rw[Array.getElem?_setIfInBounds_ne o_,Array.getElem?_setIfInBounds_ne o_,Array.getElem?_setIfInBounds_ne o_];exact a;rw[Array.getElem?_setIfInBounds_ne o_,Array.getElem?_setIfInBounds_ne o_,Array.getElem?_setIfInBounds_ne o_];exact b;rw[Array.getElem?_setIfInBounds_ne o_,Array.getElem?_setIfInBounds_ne o_,Array.getElem?_setIfInBounds_ne o_];exact c
def Zg4{p:Prop}(h:p:=by
 have HFM:=x1_ (HM.touch (Aa.of_below (S:=λ_=>False) hb3) (λ_ _=>id));have HCB2:=x1_ ((hb3.block _ hcl).trans HCB);have HB2:=x1_ (HB.trans (hb3.mono o_));obtain⟨f0,d0,f1,d1,f2,d2,hv⟩:=HMF.form;subst hv;obtain⟨⟨u0,u1,u2,g0,g1,g2⟩,gf⟩:=HFM.cells hk;have HNX:=x1_ (HFM.put hk HMF);refine rd_ ?_
 exact⟨k+1,o_,g_,HNX,(Below.heap_setCell _ _ _ _ s_).trans ((Below.heap_setCell _ _ _ _ s_).trans ((Below.heap_setCell _ _ _ _ s_).trans HCB2)),((HB2.setCell (p:=(A_ (w.heap.size+1) (k*3))) s_ _).setCell (p:=(A_ (w.heap.size+1) (k*3+1))) s_ _).setCell (p:=(A_ (w.heap.size+1) (k*3+2))) s_ _⟩):p:=h
def im b f n r a size c s d g w (F:Dd w b f n s d g)(h1:1<=n)(Z:n<=4)(y:∀i,i<n->s i=false->0<=d i/\d i<=3):C_ 96 #[.agg #[.slice (some ⟨b,f,none⟩) n r,.int .i64 a,.int .i64 size,.int .i64 c]] w λe w'=>∃fb,e=.returned (.slice (some ⟨fb,0,none⟩) n n)/\w.heap.size<=fb/\Gt w' w.heap.size fb n n s d g a size/\Below w.heap.size w w':=by
 obtain⟨N,t,D,u,B⟩:=info_parts ZjT
 have Q:∀W:World,(Instr.makeSlice 155 (I_ n) (I_ n)).run Tryz.prog W=.ok (L_ W.heap.size n n) (W.alloc (.cells (madeCells #[.nilFunc,.nilFunc,.nilFunc] (n*3)) 263)):=λW=>by have:=run_make (P:=Tryz.prog) W 155 263 N _ Tryz.underlying155 t D .i64 .i64 (n:Int) (n:Int) o_ o_ (by rw[B];omega) o_;rw[this];simp[u,Value.cells]
 have E:=x1_ F;have o:=F.lt o_;go_enter Tryz.func96,Tryz.ntmps96;go_wp2_with fail
 have R:Hid (Gt ((w.alloc (.cells #[.slice (some ⟨b,f,none⟩) n r,I_ a,I_ size,I_ c] 37)).alloc (.cells (madeCells #[.nilFunc,.nilFunc,.nilFunc] (n*3)) 263)) w.heap.size (w.heap.size+1) n 0 s d g a size):=⟨_,Em _ _ _ s_,by simp[madeCells],λi hi=>o_⟩;have U:Hid (((w.alloc (.cells #[.slice (some ⟨b,f,none⟩) n r,I_ a,I_ size,I_ c] 37)).alloc (.cells (madeCells #[.nilFunc,.nilFunc,.nilFunc] (n*3)) 263)).heap[w.heap.size]? =_):=(hc_ s_).trans (ha_ w _);have V:Hid (Below _ w ((w.alloc (.cells #[.slice (some ⟨b,f,none⟩) n r,I_ a,I_ size,I_ c] 37)).alloc (.cells (madeCells #[.nilFunc,.nilFunc,.nilFunc] (n*3)) 263))):=bA_.alloc s_ _
 generalize ((w.alloc (.cells #[.slice (some ⟨b,f,none⟩) n r,I_ a,I_ size,I_ c] 37)).alloc (.cells (madeCells #[.nilFunc,.nilFunc,.nilFunc] (n*3)) 263))=w0 at *;go_loopw [13] (λti wr=>∃k:Nat,k<=n/\ti=.int .i64 k/\Hid (Gt wr w.heap.size (w.heap.size+1) n k s d g a size)/\Hid (wr.heap[w.heap.size]? =some (.cells #[.slice (some ⟨b,f,none⟩) n r,.int .i64 a,.int .i64 size,.int .i64 c] 37 (0,0)))/\Hid (E_ w wr)) (λti _=>n-(intOf ti).toNat)
 case atStart=>grind
 case round=>
  obtain⟨k,L,rfl,HM,HCB,HB⟩:=hrel;have hcl:=(Qb HCB).1
  by_cases hk:k<n
  ·have G:=(HB.cell (p:=(A_ b (f+k*3))) o).trans (E.c0 k hk);have Y:=(HB.cell (p:=(A_ b (f+k*3+1))) o).trans (E.c1 k hk);have X:=(HB.cell (p:=(A_ b (f+k*3+2))) o).trans (E.c2 k hk);have T:0<=(k:Int):=o_;have M:k<(n:Int):=o_
   cases hwd:s k with
   | true=>
    rw[hwd] at G;have A:Hid (C_ 160 #[.int .i64 (g k),.int .i64 a] (wr.alloc (.cells #[.bool true,.int .i64 (d k),.int .i64 (g k)] 51)) λe l=>∃v,e=.returned v/\Sl l (wr.heap.size+1) v (g k) a/\Below (wr.heap.size+1) (wr.alloc (.cells #[.bool true,.int .i64 (d k),.int .i64 (g k)] 51)) l):=by have:=Zbs (g k) a (wr.alloc (.cells #[.bool true,I_ (d k),I_ (g k)] 51));rw[show(wr.alloc (.cells #[.bool true,I_ (d k),I_ (g k)] 51)).heap.size=wr.heap.size+1 by simp] at this;exact this
    have j:Below _ wr (wr.alloc (.cells #[.bool true,I_ (d k),I_ (g k)] 51)):=bA_;have O:(wr.alloc _).cell? _=some (.int _ _):=(j.cell (p:=(A_ w.heap.size 1)) hcl).trans (cq_ 1 _ _ _ HCB);have H:(wr.alloc _).cell? _=some (.int _ _):=(j.cell (p:=(A_ w.heap.size 2)) hcl).trans (cq_ 2 _ _ _ HCB);have q:=x1_ j;go_wp2_with fail
    refine A.mono ?_;rintro e l ⟨v,rfl,C,m⟩;have hb3:=q.trans (m.mono o_);have HMF:Hid (Ue _ w.heap.size v _ (d k) _ _ size):=.inl ⟨hwd,C.base o_⟩;exact Zg4
   | false=>
    rw[hwd] at G;obtain⟨I,J⟩:=y k hk hwd;have x:(d k).toNat=d k:=o_;have z:=x1_ x;have A:Hid (C_ 161 #[.int .i64 (d k),.int .i64 a,.int .i64 size] (wr.alloc (.cells #[.bool false,.int .i64 (d k),.int .i64 (g k)] 51)) λe l=>∃v,e=.returned v/\Sk l (wr.heap.size+1) v (Cp (d k).toNat) a size/\Below (wr.heap.size+1) (wr.alloc (.cells #[.bool false,.int .i64 (d k),.int .i64 (g k)] 51)) l):=by have:=qe (d k).toNat a size (wr.alloc (.cells #[.bool false,I_ (d k),I_ (g k)] 51)) o_;rw[show(wr.alloc (.cells #[.bool false,I_ (d k),I_ (g k)] 51)).heap.size=wr.heap.size+1 by simp] at this;rw[z] at this;exact this
    have j:Below _ wr (wr.alloc (.cells #[.bool false,I_ (d k),I_ (g k)] 51)):=bA_;have O:(wr.alloc _).cell? _=some (.int _ _):=(j.cell (p:=(A_ w.heap.size 1)) hcl).trans (cq_ 1 _ _ _ HCB);have H:(wr.alloc _).cell? _=some (.int _ _):=(j.cell (p:=(A_ w.heap.size 2)) hcl).trans (cq_ 2 _ _ _ HCB);have q:=x1_ j;go_wp2_with fail
    refine A.mono ?_;rintro e l ⟨v,rfl,C,m⟩;have hb3:=q.trans (m.mono o_);have HMF:Hid (Ue _ w.heap.size v _ _ (g k) _ _):=.inr ⟨hwd,C.base o_⟩;exact Zg4
  obtain rfl:k=n:=o_;go_wp2;go_ret;exact⟨_,rfl,o_,HM,HB⟩
def ZjS:(Tryz.prog.info? 251).map (λi=>(i.zero,i.size,i.bytes))=some (some (.slice none 0 0),1,24):=k_
def part0:Cm:=⟨0,false,0,0,0,.slice none 0 0⟩
def qa f n w (i:n<=4):C_ 97 #[.slice (some ⟨f,0,none⟩) n n] w λe w'=>e=.returned (.pointer (some ⟨w.heap.size+1,0,none⟩))/\w'=(w.alloc (.cells (madeCells #[.slice none 0 0] n) 251)).alloc (.cells #[.slice (some ⟨f,0,none⟩) n n,.slice none 0 0,.slice (some ⟨w.heap.size,0,none⟩) n n,.int .i64 0,.bool false,.slice none 0 0,.int .i64 0,.bool false,.int .i64 0,.int .i64 0,.int .i64 0,.slice none 0 0] 256):=by
 obtain⟨g,a,d,b,c⟩:=info_parts ZjS
 have h:∀W:World,(Instr.makeSlice 248 (I_ n) (I_ n)).run Tryz.prog W=.ok (L_ W.heap.size n n) (W.alloc (.cells (madeCells #[.slice none 0 0] n) 251)):=λW=>by have:=run_make (P:=Tryz.prog) W 248 251 g _ Tryz.underlying248 a d .i64 .i64 (n:Int) (n:Int) o_ o_ (by rw[c];omega) o_;rw[this];simp[b,Value.cells]
 go_enter Tryz.func97,Tryz.ntmps97;go_wp2;go_ret;exact⟨s_,rfl⟩
def Gt.base{w g f p n k s o q l j}(h:Gt w f p n k s o q l j)(r:g<=f):Gt w g p n k s o q l j:=by
 obtain⟨m,z,x,t⟩:=h;refine⟨m,z,x,λi hi=>?_⟩;obtain⟨v,y,u,a,b,c,d⟩:=t i hi;refine⟨v,y,u,a,b,c,?_⟩
 rcases d with⟨e,d⟩|⟨e,d⟩
 exact .inl ⟨e,d.base r⟩;exact .inr ⟨e,d.base r⟩
structure Yl(w:World)(base tb fb rb cb n:Nat)(wd)(sc ct)(bins size budget):Prop where
 tx:w.heap[tb]? =some (.cells #[L_ fb n n,I_ budget,P_ rb,I_ 0] 158 (0,0))
 rd:RB w rb (L_ fb n n) (.slice none 0 0) (L_ cb n n) 0 false (.slice none 0 0) part0
 cl:w.heap[cb]? =some (.cells (madeCells #[.slice none 0 0] n) 251 (0,0))
 fs:Gt w base fb n n wd sc ct bins size
 lo:base<=tb/\base<=fb/\base<=rb/\base<=cb
def Zbn b f n m d c a x q A w (r:Dd w b f n x q A)(M:1<=n)(H:n<=4)(y:∀i,i<n->x i=false->0<=q i/\q i<=3):C_ 57 #[.agg #[.slice (some ⟨b,f,none⟩) n m,.int .i64 d,.int .i64 c,.int .i64 a]] w λe w'=>∃tb fb rb cb,e=.returned (.pointer (some ⟨tb,0,none⟩))/\Yl w' w.heap.size tb fb rb cb n x q A d c a/\Below w.heap.size w w':=by
 have v:Hid (Below _ w (w.alloc (.cells #[.slice (some ⟨b,f,none⟩) n m,I_ d,I_ c,I_ a] 37))):=bA_;have E:=r.lt o_;have C:Hid (Dd (w.alloc (.cells #[.slice (some ⟨b,f,none⟩) n m,I_ d,I_ c,I_ a] 37)) b f n x q A):=(by have k:=λo=>v.cell (p:=(A_ b o)) E;exact⟨r.le,λ_=>t_,λi hi=>(k _).trans (r.c0 i hi),λi hi=>(k _).trans (r.c1 i hi),λi hi=>(k _).trans (r.c2 i hi)⟩);have I:=x1_ y;have L:(w.alloc (.cells #[.slice (some ⟨b,f,none⟩) n m,I_ d,I_ c,I_ a] 37)).cell? (A_ w.heap.size 3)=some (I_ a):=s_;have u:(w.alloc (.cells #[.slice (some ⟨b,f,none⟩) n m,I_ d,I_ c,I_ a] 37)).heap.size=w.heap.size+1:=s_;have j:=x1_ u;go_enter Tryz.func57,Tryz.ntmps57;go_wp2_with fail
 generalize w.alloc (.cells #[.slice (some ⟨b,f,none⟩) n m,I_ d,I_ c,I_ a] 37)=w0 at *;refine(im b _ n _ _ _ _ _ _ _ _ C M H I).mono ?_;rintro e g ⟨fb,rfl,F,z,l⟩;have G:=(l.cell (p:=(A_ w.heap.size 3)) (by have:=j.out;simp;omega)).trans L;have h:=x3_ z F l;have t:w.heap.size<g.heap.size:=(by have:=l.size;have:=j.out;omega);have D:=x1_ (λW=>qa fb n W H);go_wp2_with fail
 have n1:=World.new_ne _ _ G;have R:g.heap.size+1≠w.heap.size:=o_;have P:g.heap.size+1+1≠w.heap.size:=o_;have O:w.heap.size≠g.heap.size+1:=o_;have Q:w.heap.size≠g.heap.size+1+1:=o_;have N:w.heap.size≠g.heap.size:=o_;go_region_held3 (λw'=>w'.cell? (A_ w.heap.size 3)=some (I_ a)) (exact(Below.cell (B:=g.heap.size) (w:=g) (p:=(A_ w.heap.size 3)) c_ t).trans G) (first|(go_at_call 97;refine(D _).mono ?_;rintro e w' ⟨rfl,rfl⟩))
 all_goals go_wp2
 all_goals go_ret
 have s:E_ g (((g.alloc (.cells (madeCells #[.slice none 0 0] n) 251)).alloc (.cells #[L_ fb n n,.slice none 0 0,L_ g.heap.size n n,I_ 0,.bool false,.slice none 0 0,I_ 0,.bool false,I_ 0,I_ 0,I_ 0,.slice none 0 0] 256)).alloc (.cells #[L_ fb n n,I_ a,P_ (g.heap.size+1),I_ 0] 158)).drew:=((bA_.alloc s_ _).alloc u_ _).drew;have u:=j.out;have J:=h.2.2.size;refine⟨g.heap.size+1+1,fb,g.heap.size+1,g.heap.size,rfl,⟨Em _ _ _ s_,(hc_ s_).trans (Em _ _ _ s_),(hc_ u_).trans ((hc_ s_).trans (Em _ _ _ rfl)),(h.1.base o_).touch (Aa.of_below (S:=λ_=>False) s) (λ_ _=>id),o_,by have:=h.2.1;omega,o_,o_⟩,?_⟩
 exact(v.trans (h.2.2.mono o_)).trans (s.mono o_)
structure vi(w:World)(base ib tb fb rb cb n:Nat)(wd)(sc ct)(bins size budget):Prop where
 ik:w.heap[ib]? =some (.cells #[P_ tb,.bool false,I_ 0,I_ 0] 119 (0,0))
 tx:Yl w base tb fb rb cb n wd sc ct bins size budget
 lo:base<=ib
def La{n b c a e f d}(h:Hz n b c a e f d=true):1<=n/\n<=4/\2<=b/\b<=16/\b<=c/\c<=32/\0<=a/\a<=20/\∀i,i<n->Lc (e i) (f i) (d i)=true:=by grind [Hz,Tf]
def Yl.below{w w' base tb fb rb cb n wd sc ct bins size budget}(h:Yl w base tb fb rb cb n wd sc ct bins size budget)(hb:Below w.heap.size w w'):Yl w' base tb fb rb cb n wd sc ct bins size budget:=
 ⟨(hb.block _ (Qb h.tx).1).trans h.tx,h.rd.below hb h.rd.lt,(hb.block _ (Qb h.cl).1).trans h.cl,h.fs.touch (Aa.of_below (S:=λ_=>False) hb) (λ_ _=>id),h.lo⟩
def Yl.base{w base base' tb fb rb cb n wd sc ct bins size budget}(h:Yl w base' tb fb rb cb n wd sc ct bins size budget)(hb:base<=base'):Yl w base tb fb rb cb n wd sc ct bins size budget:=
 ⟨h.tx,h.rd,h.cl,h.fs.base hb,by have:=h.lo;omega⟩
def ZdA b f n z d c a x l A w (m:Dd w b f n x l A)(G:Hz n d c a x l A=true):C_ 31 #[.agg #[.slice (some ⟨b,f,none⟩) n z,.int .i64 d,.int .i64 c,.int .i64 a]] w λe w'=>∃ib tb fb rb cb,e=.returned (.tuple #[.pointer (some ⟨ib,0,none⟩),.int .i64 0])/\vi w' w.heap.size ib tb fb rb cb n x l A d c a/\Below w.heap.size w w':=by
 obtain⟨J,M,_,_,_,_,_,_,I⟩:=La G
 have E:Hid (∀i,i<n->x i=false->0<=l i/\l i<=3):=λi hi hw=>by grind [Lc]
 have F:=m.lt o_;have y:Hid (Below _ w (w.alloc (.cells #[.slice (some ⟨b,f,none⟩) n z,I_ d,I_ c,I_ a] 37))):=bA_;have v:Hid ((w.alloc (.cells #[.slice (some ⟨b,f,none⟩) n z,I_ d,I_ c,I_ a] 37)).heap[_]? =_):=ha_ w _
 have r:Hid (∀W,E_ w W->Dd W b f n x l A):=λW hb=>by have k:=λo=>hb.cell (p:=(A_ b o)) F;exact⟨m.le,λ_=>by have:=hb.size;omega,λi hi=>(k _).trans (m.c0 i hi),λi hi=>(k _).trans (m.c1 i hi),λi hi=>(k _).trans (m.c2 i hi)⟩
 have N:=x1_ G;have B:=m.le;go_enter Tryz.func31,Tryz.ntmps31;go_wp2_with fail
 generalize w.alloc (.cells #[.slice (some ⟨b,f,none⟩) n z,I_ d,I_ c,I_ a] 37)=w0 at *;refine(Vc _ n _ _ _ _ _ _ _ _ B (.inr ⟨b,f,rfl,r _ y⟩)).mono ?_;rintro e P ⟨rfl,u⟩;rw[N];have s:=(Qb v).1;have g:=(u.block _ s).trans v;have S:=cR_ 0 g;have R:=cR_ 1 g;have Q:=cR_ 2 g;have O:=cR_ 3 g;have j:=x1_ (y.trans (u.mono o_));have q:=j.size;go_wp2_with fail
 refine(Zbn b _ n _ _ _ _ _ _ _ _ (r _ j) J M E).mono ?_;rintro e C ⟨tb,fb,rb,cb,rfl,L,D⟩;have H:=x1_ (L.base q);have h:=x1_ (j.trans (D.mono q));go_wp2;go_ret2
 have t:Below _ C (C.alloc (.cells #[P_ tb,.bool false,I_ 0,I_ 0] 119)):=bA_;exact⟨C.heap.size,tb,fb,rb,cb,rfl,⟨hn_,H.below t,h.size⟩,h.trans (t.mono h.size)⟩
def Zgb a n h d c b l j k w (o:n<=maxLen)(m:Ej w a n l j k)(p:Hz n d c b l j k=false):C_ 31 #[.agg #[.slice a n h,.int .i64 d,.int .i64 c,.int .i64 b]] w λe w'=>e=.returned (.tuple #[.pointer none,.int .i64 1])/\Below w.heap.size w w':=by
 have f:Hid (Below _ w (w.alloc (.cells #[.slice a n h,I_ d,I_ c,I_ b] 37))):=bA_;have q:=x1_ (m.below f);have r:=x1_ p;go_enter Tryz.func31,Tryz.ntmps31;go_wp2_with fail
 generalize w.alloc (.cells #[.slice a n h,I_ d,I_ c,I_ b] 37)=w0 at *;refine(Vc a n _ _ _ _ _ _ _ _ o q).mono ?_;rintro e s ⟨rfl,i⟩;rw[r];have g:=x1_ (f.trans (i.mono f.size));go_wp2;go_ret2
 exact⟨rfl,g⟩
end Go.Proofs.YtfcgnpchbcmdeaaGreat
