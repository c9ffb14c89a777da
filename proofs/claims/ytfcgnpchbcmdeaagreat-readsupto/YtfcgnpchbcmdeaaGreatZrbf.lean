import Derived.Test.YtfcgnpchbcmdeaaGreatZrbc
import Derived.Lib.SlBytesConst
namespace Go.Proofs.YtfcgnpchbcmdeaaGreat
set_option linter.all false
open Go.RowKit
def ZaV(W:World) q k:(W.freeze (A_ q k) 1).heap.size=W.heap.size/\(∀j,j≠q->(W.freeze (A_ q k) 1).heap[j]? =W.heap[j]?):=by
 unfold World.freeze
 grind
def Uy W q k:Aa (λj=>j=q) W (W.freeze (A_ q k) 1):=by
 obtain⟨b,a⟩:=ZaV W q k;refine⟨?_,?_,?_,o_,λj _ hj=>a j hj⟩
 all_goals (unfold World.freeze;grind)
def yk(W:World) q C (a:Nat) k (h:W.heap[q]? =some (.cells C a (0,0))):(W.freeze (A_ q k) 1).heap[q]? =some (.cells C a (k,k+1)):=by
 unfold World.freeze
 grind
def Zfl W q n c C (h:W.heap[q]? =some (.cells C 5 (0,0))):(convert 66 66 (L_ q n c)).run Tryz.prog W=.ok (L_ q n c) (W.freeze (A_ q C.size) 1):=by have a:W.shape? q=some (5,C.size):=(by unfold World.shape?;rw[h]);have d:Tryz.prog.underlying 66=some (.slice 5):=Tryz.underlying66;have b:Tryz.prog.underlying 5=some (.int .u8):=k_;simp[convert,run_underlying d,run_underlying b,markStringish,a]
def Xv{e o a w K Q E}(z:o.guard=none) s x (D:o.op=.call {callee:=.builtin .append,args:=#[s,x],argTypes:=#[66,66]}) r y p t q n F H (I:a.eval s=L_ r 2 2)(G:a.eval x=L_ y 2 2)(A:w.heap[r]? =some (.cells #[.int .u8 p,.int .u8 t] 5 F))(C:w.heap[y]? =some (.cells #[.int .u8 q,.int .u8 n] 5 H))(h:∀v' w',Hid (Bj w' 0 v' [p,t,q,n]/\v'.ownBlock=some w.heap.size/\Below w.heap.size w w'/\∃g cap,v'=L_ g 4 cap)->K (a.put o.dst v') w'):if Region.wanted o (yielded e a.tmps)=true then Oper.wp Tryz.prog o a w K Q else E:=by
 have J:Region.wanted o (yielded e a.tmps)=true:=(by simp[Region.wanted,z]);rw[if_pos J];obtain⟨L,d,k,c,f⟩:=info_parts Nc
 have v:∀b u0 u1 m,w.heap[b]? =some (.cells #[u0,u1] 5 m)->∀j u,([u0,u1]:List Value)[j]? =some u->w.cell? (((A_ b 0):Addr).add j)=some u:=λb u0 u1 m hb j u hu=>by
  match j,hu with
  |0,hu=>simp at hu;subst hu;simp[Addr.add,World.cell?,hb]
  |1,hu=>simp at hu;subst hu;simp[Addr.add,World.cell?,hb]
  |j+2,hu=>simp at hu
 have B:=run_append_grow (P:=Tryz.prog) (w:=w) 66 o.type 5 _ _ Tryz.underlying66 d k _ 2 2 _ (by rw[c];rfl) (v _ _ _ _ A) _ 2 2 _ (by rw[c];rfl) (v _ _ _ _ C) d_ d_ (by rw[f];decide);have l:=grownCap_ge w 4 2 5;have i:=grownCap_le_maxLen w 4 2 5 d_;unfold Oper.wp;simp only[execOp,D,resolve,invoke,builtin,Sem.run_bind,Sem.run_pure,Result.andThen_ok,List.map_toArray,List.map_cons,List.map_nil,I,G,B];refine h _ _ ⟨⟨rfl,.inr ⟨w.heap.size,grownCap w _ 2 5,_,rfl,qg_,hn_,?_⟩⟩,rfl,(br_ _ w).drew.alloc qa_ _,_,_,rfl⟩;refine⟨l,i,?_,?_⟩
 ·rw[Array.size_append,Array.size_append,size_zeroCells];show 2+2+_=_;simp only[Value.cells]
  grind
 simp
end Go.Proofs.YtfcgnpchbcmdeaaGreat
