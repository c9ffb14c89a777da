import Derived.Test.YtfcgnpchbcmdeaaGreatHda
import Derived.WalkKit
namespace Go.Proofs.YtfcgnpchbcmdeaaGreat
set_option linter.all false
open Go.RowKit
def Pb{P} w o t D e i z h r (F:P.underlying t=some (.slice e))(E:P.info? e=some i)(I:i.zero=some z)(p:i.size=h)(C:i.bytes=r)(L:z.cells.size=h)(J:0<h) v n H (d:w.ownsRow o e h v n H) a m c k (y:k.length=m*h)(f:∀j u,k[j]? =some u->w.cell? (a.add j)=some u)(M:∀u∈k,u.oneCell'=true)(Q:0<m)(x:n+m<=maxLen)(l:(n+m)*r<=140737488355328)(A:o<=w.heap.size):∃v' w',(Builtin.append_ #[t,t] D #[v,.slice (some a) m c]).run P w=.ok v' w'/\w'.ownsRow o e h v' (n+m) (H++k)/\w.grownBy w' v.ownBlock/\(v'.ownBlock=v.ownBlock∨v'.ownBlock=some w.heap.size)/\w'.ownsRow o e h v n H/\∃g cap,v'=L_ g (n+m) cap:=by
 obtain⟨v',w',G,N,O,R⟩:=run_append_own (P:=P) w o t D e i z h r F E I p C L J v n H d a m c k y f M x l A
 have B:∃g cap,v'=L_ g (n+m) cap:=by
  rcases N.2 with⟨_,h0⟩|⟨g,cap,cur,e1,_⟩
  omega
  grind
 refine⟨v',w',G,N,O,?_,?_,B⟩
 ·subst p C
  rcases d.2 with⟨rfl,rfl⟩|⟨g,cap,cur,rfl,hbg,hg,hnc,hcm,hcs,htake⟩
  have b:=run_append_nil (P:=P) w t D e i z F E I a m c _ y f Q (by simp only[maxLen] at x;omega) w_;rw[G] at b;simp only[Result.ok.injEq] at b;right;rw[b.1];rfl
  by_cases hroom:n+m<=cap
  have s:n*i.size+k.length<=cur.size:=(by rw[y,hcs,<- Nat.add_mul];exact Nat.mul_le_mul_right _ hroom);have b:=run_append_room (P:=P) w t D e i F E g n _ _ hg a m c _ y f M hroom s;rw[G] at b;simp only[Result.ok.injEq] at b;left;rw[b.1];rfl;have q:=d.cells (g:=g) rfl;have b:=run_append_grow (P:=P) w t D e i z F E I _ n cap _ d.1 q a m c _ y f o_ (by simp only[maxLen] at x;omega) (growslice_fits o_ l);rw[G] at b;simp only[Result.ok.injEq] at b;right;rw[b.1];rfl
 subst p C
 rcases d.2 with⟨rfl,rfl⟩|⟨g,cap,cur,rfl,hbg,hg,hnc,hcm,hcs,htake⟩
 have:H=[]:=List.eq_nil_of_length_eq_zero (by simpa using d.1);subst this;exact rn_
 by_cases hroom:n+m<=cap
 ·have s:n*i.size+k.length<=cur.size:=(by rw[y,hcs,<- Nat.add_mul];exact Nat.mul_le_mul_right _ hroom);have b:=run_append_room (P:=P) w t D e i F E g n _ _ hg a m c _ y f M hroom s;rw[G] at b;simp only[Result.ok.injEq] at b;rw[b.2];refine⟨d.1,.inr ⟨g,cap,_,rfl,hbg,setRow_heap w g _ _ e _ hg,hnc,hcm,?_,?_⟩⟩
  ·grind
  grind
 have q:=d.cells (g:=g) rfl;have b:=run_append_grow (P:=P) w t D e i z F E I _ n cap _ d.1 q a m c _ y f o_ (by simp only[maxLen] at x;omega) (growslice_fits o_ l);rw[G] at b;simp only[Result.ok.injEq] at b;rw[b.2];exact ra_ (w:=w.drew) d _
def Hn{P w y rest o a Q}(D:o.guard=none) s x t (J:o.op=.call {callee:=.builtin .append,args:=#[s,x],argTypes:=#[t,t]}) f e (i:TypeInfo) z b k (O:P.underlying t=some (.slice e))(I:P.info? e=some i)(L:i.zero=some z)(r:i.size=b)(F:i.bytes=k)(G:z.cells.size=b)(E:0<b) v n B (M:a.eval s=v)(A:w.ownsRow f e b v n B) H m c (d:List Value)(U:a.eval x=.slice (some H) m c)(N:d.length=m*b)(q:∀j u,d[j]? =some u->w.cell? (H.add j)=some u)(V:∀u∈d,u.oneCell'=true)(R:0<m)(C:n+m<=maxLen)(l:(n+m)*k<=140737488355328)(p:f<=w.heap.size)(h:∀v' w',Hid (w'.ownsRow f e b v' (n+m) (B++d)/\w.grownBy w' v.ownBlock/\(v'.ownBlock=v.ownBlock∨v'.ownBlock=some w.heap.size)/\w'.ownsRow f e b v n B/\∃g cap,v'=L_ g (n+m) cap)->wpList P y Q rest (a.put o.dst v') w'):wpList P y Q (o::rest) a w:=by
 refine wpList_plain D λK hK=>?_;obtain⟨v',w',S,T⟩:=Pb (P:=P) w f t o.type e i z b k O I L r F G E v n B A H m c d N q V R C l p;unfold Oper.wp;simp only[execOp,J,resolve,invoke,builtin,Sem.run_bind,Sem.run_pure,Result.andThen_ok,List.map_toArray,List.map_cons,List.map_nil,M,U,S];exact hK _ _ (h _ _ T)
end Go.Proofs.YtfcgnpchbcmdeaaGreat
