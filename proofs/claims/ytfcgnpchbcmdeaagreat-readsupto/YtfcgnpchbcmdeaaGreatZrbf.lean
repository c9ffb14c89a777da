import Derived.Test.YtfcgnpchbcmdeaaGreatZrbc
import Derived.Lib.SlBytesConst
namespace Go.Proofs.YtfcgnpchbcmdeaaGreat
set_option linter.all false
open Go.RowKit
def ZaV(W:World) q k:(W.freeze (A_ q k) 1).heap.size=W.heap.size/\(∀j,j≠q->(W.freeze (A_ q k) 1).heap[j]? =W.heap[j]?):=by
 unfold World.freeze
 grind
def Uy W q k:Aa (λj=>j=q) W (W.freeze (A_ q k) 1):=by
 obtain⟨b,a⟩:=ZaV W q k;refine⟨?_,?_,?_,o_,λj _ hj=>a j hj⟩
 all_goals (unfold World.freeze;grind)
def yk(W:World) q C (a:Nat) k (h:W.heap[q]? =some (.cells C a (0,0))):(W.freeze (A_ q k) 1).heap[q]? =some (.cells C a (k,k+1)):=by
 unfold World.freeze
 grind
def Zfl W q n c C (h:W.heap[q]? =some (.cells C 5 (0,0))):(convert 66 66 (L_ q n c)).run Tryz.prog W=.ok (L_ q n c) (W.freeze (A_ q C.size) 1):=by have a:W.shape? q=some (5,C.size):=(by unfold World.shape?;rw[h]);have d:Tryz.prog.underlying 66=some (.slice 5):=Tryz.underlying66;have b:Tryz.prog.underlying 5=some (.int .u8):=k_;simp[convert,run_underlying d,run_underlying b,markStringish,a]
def Xv{c o a w K Q E}(z:o.guard=none) s x (J:o.op=.call {callee:=.builtin .append,args:=#[s,x],argTypes:=#[66,66]}) n q y r v p I B (A:a.eval s=L_ n 2 2)(C:a.eval x=L_ q 2 2)(F:w.heap[n]? =some (.cells #[.int .u8 y,.int .u8 r] 5 I))(H:w.heap[q]? =some (.cells #[.int .u8 v,.int .u8 p] 5 B))(h:∀v' w',Hid (Bj w' 0 v' [y,r,v,p]/\v'.ownBlock=some w.heap.size/\Below w.heap.size w w'/\∃g cap,v'=L_ g 4 cap)->K (a.put o.dst v') w'):if Region.wanted o (yielded c a.tmps)=true then Oper.wp Tryz.prog o a w K Q else E:=by
 have D:Region.wanted o (yielded c a.tmps)=true:=(by simp[Region.wanted,z]);rw[if_pos D];obtain⟨L,d,k,e,i⟩:=info_parts Nc
 have t:∀b u0 u1 m,w.heap[b]? =some (.cells #[u0,u1] 5 m)->∀j u,([u0,u1]:List Value)[j]? =some u->w.cell? (((A_ b 0):Addr).add j)=some u:=λb u0 u1 m hb j u hu=>by
  match j,hu with
  |0,hu=>simp at hu;subst hu;simp[Addr.add,World.cell?,hb]
  |1,hu=>simp at hu;subst hu;simp[Addr.add,World.cell?,hb]
  |j+2,hu=>simp at hu
 have G:=run_append_grow (P:=Tryz.prog) (w:=w) 66 o.type 5 _ _ Tryz.underlying66 d k _ 2 2 _ (by rw[e];rfl) (t _ _ _ _ F) _ 2 2 _ (by rw[e];rfl) (t _ _ _ _ H) d_ d_ (by rw[i];decide);have f:=grownCap_ge w 4 2 5;have l:=grownCap_le_maxLen w 4 2 5 d_;unfold Oper.wp;simp only[execOp,J,resolve,invoke,builtin,Sem.run_bind,Sem.run_pure,Result.andThen_ok,List.map_toArray,List.map_cons,List.map_nil,A,C,G];refine h _ _ ⟨⟨rfl,.inr ⟨w.heap.size,grownCap w _ 2 5,_,rfl,qg_,hn_,?_⟩⟩,rfl,(br_ _ w).drew.alloc qa_ _,_,_,rfl⟩;refine⟨f,l,?_,?_⟩
 ·rw[Array.size_append,Array.size_append,size_zeroCells];show 2+2+_=_;simp only[Value.cells]
  grind
 simp
end Go.Proofs.YtfcgnpchbcmdeaaGreat
