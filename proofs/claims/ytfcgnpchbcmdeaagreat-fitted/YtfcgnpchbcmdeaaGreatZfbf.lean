import Derived.Test.YtfcgnpchbcmdeaaGreatZfbd
import Derived.Lib.SlBytesConst
namespace Go.Proofs.YtfcgnpchbcmdeaaGreat
set_option linter.unusedSimpArgs false
open Go.RowKit
theorem Ziq(W:World)(q k:Nat):(W.freeze ⟨q,k,none⟩ 1).heap.size=W.heap.size/\(∀j,j≠q->(W.freeze ⟨q,k,none⟩ 1).heap[j]? =W.heap[j]?):=by unfold World.freeze;rw[if_neg (by decide)];refine⟨by simp,fun j hj=>?_⟩;simp[Array.getElem?_modify,Ne.symm hj]
theorem Yr(W:World)(q k:Nat):Za (fun j=>j=q) W (W.freeze ⟨q,k,none⟩ 1):=by
 obtain⟨h1,h2⟩:=Ziq W q k;refine⟨?_,?_,?_,by omega,fun j _ hj=>h2 j hj⟩
 all_goals (unfold World.freeze;rw[if_neg (by decide)])
theorem Qo(W:World)(q:Nat)(C:Array Value)(ty:Nat)(k:Nat)(h:W.heap[q]? =some (.cells C ty (0,0))):(W.freeze ⟨q,k,none⟩ 1).heap[q]? =some (.cells C ty (k,k+1)):=by unfold World.freeze;rw[if_neg (by decide)];simp[Array.getElem?_modify,h]
theorem Zax(W:World)(q n c:Nat)(C:Array Value)(h:W.heap[q]? =some (.cells C 5 (0,0))):(convert 66 66 (.slice (some ⟨q,0,none⟩) n c)).run Tryz.prog W=.ok (.slice (some ⟨q,0,none⟩) n c) (W.freeze ⟨q,C.size,none⟩ 1):=by have hsh:W.shape? q=some (5,C.size):=(by unfold World.shape?;rw[h]);have ht:Tryz.prog.underlying 66=some (.slice 5):=Tryz.underlying66;have he:Tryz.prog.underlying 5=some (.int .u8):=(by kernel_rfl);simp[convert,run_underlying ht,run_underlying he,markStringish,hsh]
theorem Yu{ops:Array Oper}{o:Oper}{a:Act}{w:World}{K:Act->World->Prop}{Q:Exit->Act->World->Prop}{E:Prop}(hg:o.guard=none)(s x:Operand)(ho:o.op=.call {callee:=.builtin .append,args:=#[s,x],argTypes:=#[66,66]})(b0 b1:Nat)(x0 x1 y0 y1:Int)(m0 m1:Nat×Nat)(hs:a.eval s=.slice (some ⟨b0,0,none⟩) 2 2)(hx:a.eval x=.slice (some ⟨b1,0,none⟩) 2 2)(h0:w.heap[b0]? =some (.cells #[.int .u8 x0,.int .u8 x1] 5 m0))(h1:w.heap[b1]? =some (.cells #[.int .u8 y0,.int .u8 y1] 5 m1))(h:∀v' w',Hid (Zo w' 0 v' [x0,x1,y0,y1]/\v'.ownBlock=some w.heap.size/\Below w.heap.size w w'/\∃g cap,v'=.slice (some ⟨g,0,none⟩) 4 cap)->K (a.put o.dst v') w'):if Region.wanted o (yielded ops a.tmps)=true then Oper.wp Tryz.prog o a w K Q else E:=by
 have hw:Region.wanted o (yielded ops a.tmps)=true:=(by simp[Region.wanted,hg]);rw[if_pos hw];obtain⟨i0,hinf,hz0,hz1,hz2⟩:=info_parts Zbm
 have hc:∀(b:Nat) (u0 u1:Value) (m:Nat×Nat),w.heap[b]? =some (.cells #[u0,u1] 5 m)->∀j u,([u0,u1]:List Value)[j]? =some u->w.cell? ((⟨b,0,none⟩:Addr).add j)=some u:=fun b u0 u1 m hb j u hu=>by
  match j,hu with
  |0,hu=>simp at hu;subst hu;simp[Addr.add,World.cell?,hb]
  |1,hu=>simp at hu;subst hu;simp[Addr.add,World.cell?,hb]
  |j+2,hu=>simp at hu
 have hr:=run_append_grow (P:=Tryz.prog) (w:=w) 66 o.type 5 i0 _ Tryz.underlying66 hinf hz0 ⟨b0,0,none⟩ 2 2 [.int .u8 x0,.int .u8 x1] (by rw[hz1];rfl) (hc b0 _ _ m0 h0) ⟨b1,0,none⟩ 2 2 [.int .u8 y0,.int .u8 y1] (by rw[hz1];rfl) (hc b1 _ _ m1 h1) (by decide) (by decide) (by rw[hz2];decide);have hge:=grownCap_ge w 4 2 5;have hle:=grownCap_le_maxLen w 4 2 5 (by decide);unfold Oper.wp;simp only[execOp,ho,resolve,invoke,builtin,Sem.run_bind,Sem.run_pure,Result.andThen_ok,List.map_toArray,List.map_cons,List.map_nil,hs,hx,hr];refine h _ _ ⟨⟨rfl,.inr ⟨w.heap.size,grownCap w (2+2) 2 5,_,rfl,Qg _,heap_alloc_new _ _,?_⟩⟩,rfl,(Below.refl _ w).drew.alloc (Qa _) _,_,_,rfl⟩;refine⟨hge,hle,?_,?_⟩
 rw[Array.size_append,Array.size_append,size_zeroCells];show 2+2+_=_;simp only[Value.cells];show 2+2+(grownCap w 4 2 5-4)*1=grownCap w 4 2 5*1;omega;simp
end Go.Proofs.YtfcgnpchbcmdeaaGreat
