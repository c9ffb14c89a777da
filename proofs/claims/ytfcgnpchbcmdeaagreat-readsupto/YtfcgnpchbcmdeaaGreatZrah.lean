import Derived.Test.YtfcgnpchbcmdeaaGreatHda
import Derived.WalkKit
namespace Go.Proofs.YtfcgnpchbcmdeaaGreat
set_option linter.all false
open Go.RowKit
def Pb{P} w o t B e i z h q (E:P.underlying t=some (.slice e))(G:P.info? e=some i)(I:i.zero=some z)(p:i.size=h)(C:i.bytes=q)(J:z.cells.size=h)(M:0<h) v n H (d:w.ownsRow o e h v n H) a m c k (y:k.length=m*h)(f:∀j u,k[j]? =some u->w.cell? (a.add j)=some u)(L:∀u∈k,u.oneCell'=true)(O:0<m)(x:n+m<=maxLen)(l:(n+m)*q<=140737488355328)(A:o<=w.heap.size):∃v' w',(Builtin.append_ #[t,t] B #[v,.slice (some a) m c]).run P w=.ok v' w'/\w'.ownsRow o e h v' (n+m) (H++k)/\w.grownBy w' v.ownBlock/\(v'.ownBlock=v.ownBlock∨v'.ownBlock=some w.heap.size)/\w'.ownsRow o e h v n H/\∃g cap,v'=L_ g (n+m) cap:=by
 obtain⟨v',w',F,N,Q,R⟩:=run_append_own (P:=P) w o t B e i z h q E G I p C J M v n H d a m c k y f L x l A
 have D:∃g cap,v'=L_ g (n+m) cap:=by
  rcases N.2 with⟨_,h0⟩|⟨g,cap,cur,e1,_⟩
  omega
  grind
 refine⟨v',w',F,N,Q,?_,?_,D⟩
 ·subst p C
  rcases d.2 with⟨rfl,rfl⟩|⟨g,cap,cur,rfl,hbg,hg,hnc,hcm,hcs,htake⟩
  have b:=run_append_nil (P:=P) w t B e i z E G I a m c _ y f O (by simp only[maxLen] at x;omega) w_;rw[F] at b;simp only[Result.ok.injEq] at b;right;rw[b.1];rfl
  by_cases hroom:n+m<=cap
  have s:n*i.size+k.length<=cur.size:=(by rw[y,hcs,<- Nat.add_mul];exact Nat.mul_le_mul_right _ hroom);have b:=run_append_room (P:=P) w t B e i E G g n _ _ hg a m c _ y f L hroom s;rw[F] at b;simp only[Result.ok.injEq] at b;left;rw[b.1];rfl;have r:=d.cells (g:=g) rfl;have b:=run_append_grow (P:=P) w t B e i z E G I _ n cap _ d.1 r a m c _ y f o_ (by simp only[maxLen] at x;omega) (growslice_fits o_ l);rw[F] at b;simp only[Result.ok.injEq] at b;right;rw[b.1];rfl
 subst p C
 rcases d.2 with⟨rfl,rfl⟩|⟨g,cap,cur,rfl,hbg,hg,hnc,hcm,hcs,htake⟩
 have:H=[]:=List.eq_nil_of_length_eq_zero (by simpa using d.1);subst this;exact rn_
 by_cases hroom:n+m<=cap
 ·have s:n*i.size+k.length<=cur.size:=(by rw[y,hcs,<- Nat.add_mul];exact Nat.mul_le_mul_right _ hroom);have b:=run_append_room (P:=P) w t B e i E G g n _ _ hg a m c _ y f L hroom s;rw[F] at b;simp only[Result.ok.injEq] at b;rw[b.2];refine⟨d.1,.inr ⟨g,cap,_,rfl,hbg,setRow_heap w g _ _ e _ hg,hnc,hcm,?_,?_⟩⟩
  ·grind
  grind
 have r:=d.cells (g:=g) rfl;have b:=run_append_grow (P:=P) w t B e i z E G I _ n cap _ d.1 r a m c _ y f o_ (by simp only[maxLen] at x;omega) (growslice_fits o_ l);rw[F] at b;simp only[Result.ok.injEq] at b;rw[b.2];exact ra_ (w:=w.drew) d _
def Hn{P w y rest o a Q}(C:o.guard=none) s x t (V:o.op=.call {callee:=.builtin .append,args:=#[s,x],argTypes:=#[t,t]}) d e (i:TypeInfo) z b k (O:P.underlying t=some (.slice e))(T:P.info? e=some i)(I:i.zero=some z)(q:i.size=b)(H:i.bytes=k)(D:z.cells.size=b)(G:0<b) v n B (L:a.eval s=v)(A:w.ownsRow d e b v n B) F m c (f:List Value)(N:a.eval x=.slice (some F) m c)(M:f.length=m*b)(p:∀j u,f[j]? =some u->w.cell? (F.add j)=some u)(S:∀u∈f,u.oneCell'=true)(J:0<m)(E:n+m<=maxLen)(l:(n+m)*k<=140737488355328)(r:d<=w.heap.size)(h:∀v' w',Hid (w'.ownsRow d e b v' (n+m) (B++f)/\w.grownBy w' v.ownBlock/\(v'.ownBlock=v.ownBlock∨v'.ownBlock=some w.heap.size)/\w'.ownsRow d e b v n B/\∃g cap,v'=L_ g (n+m) cap)->wpList P y Q rest (a.put o.dst v') w'):wpList P y Q (o::rest) a w:=by
 refine wpList_plain C λK hK=>?_;obtain⟨v',w',R,U⟩:=Pb (P:=P) w d t o.type e i z b k O T I q H D G v n B A F m c f M p S J E l r;unfold Oper.wp;simp only[execOp,V,resolve,invoke,builtin,Sem.run_bind,Sem.run_pure,Result.andThen_ok,List.map_toArray,List.map_cons,List.map_nil,L,N,R];exact hK _ _ (h _ _ U)
end Go.Proofs.YtfcgnpchbcmdeaaGreat
