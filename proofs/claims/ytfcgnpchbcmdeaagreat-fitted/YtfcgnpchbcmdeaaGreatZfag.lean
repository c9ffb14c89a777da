import Derived.WalkKit
import Derived.Test.YtfcgnpchbcmdeaaGreatZf00
namespace Go.Proofs.YtfcgnpchbcmdeaaGreat
set_option linter.unusedSimpArgs false
open Go.RowKit
theorem Zey{P:Program}(w:World)(base:Nat)(t ty e:TypeId)(i:TypeInfo)(z:Value)(size bytes:Nat)(ht:P.underlying t=some (.slice e))(hi:P.info? e=some i)(hz:i.zero=some z)(hsize:i.size=size)(hby:i.bytes=bytes)(hzs:z.cells.size=size)(hsz:0<size)(v:Value)(n:Nat)(xs:List Value)(hown:w.ownsRow base e size v n xs)(a:Addr)(m c:Nat)(news:List Value)(hl:news.length=m*size)(hnews:∀j u,news[j]? =some u->w.cell? (a.add j)=some u)(h1:∀u∈news,u.oneCell'=true)(hm:0<m)(h63:n+m<=maxLen)(hbytes:(n+m)*bytes<=140737488355328)(hbase:base<=w.heap.size):∃v' w',(Builtin.append_ #[t,t] ty #[v,.slice (some a) m c]).run P w=.ok v' w'/\w'.ownsRow base e size v' (n+m) (xs++news)/\w.grownBy w' v.ownBlock/\(v'.ownBlock=v.ownBlock∨v'.ownBlock=some w.heap.size)/\w'.ownsRow base e size v n xs/\∃g cap,v'=.slice (some ⟨g,0,none⟩) (n+m) cap:=by
 obtain⟨v',w',hr,h2,h3,h4⟩:=run_append_own (P:=P) w base t ty e i z size bytes ht hi hz hsize hby hzs hsz v n xs hown a m c news hl hnews h1 h63 hbytes hbase
 have hform:∃g cap,v'=.slice (some ⟨g,0,none⟩) (n+m) cap:=by
  rcases h2.2 with⟨_,h0⟩|⟨g,cap,cur,e1,_⟩
  omega;exact⟨g,cap,e1⟩
 refine⟨v',w',hr,h2,h3,?_,?_,hform⟩
 ·subst hsize hby
  rcases hown.2 with⟨rfl,rfl⟩|⟨g,cap,cur,rfl,hbg,hg,hnc,hcm,hcs,htake⟩
  have hr2:=run_append_nil (P:=P) w t ty e i z ht hi hz a m c news hl hnews hm (by simp only[maxLen] at h63;omega) (by simp only[Nat.zero_add] at hbytes;omega);rw[hr] at hr2;simp only[Result.ok.injEq] at hr2;right;rw[hr2.1];rfl
  by_cases hroom:n+m<=cap
  have hfit:n*i.size+news.length<=cur.size:=(by rw[hl,hcs,<- Nat.add_mul];exact Nat.mul_le_mul_right _ hroom);have hr2:=run_append_room (P:=P) w t ty e i ht hi g n cap cur hg a m c news hl hnews h1 hroom hfit;rw[hr] at hr2;simp only[Result.ok.injEq] at hr2;left;rw[hr2.1];rfl;have holds:∀j u,xs[j]? =some u->w.cell? ((⟨g,0,none⟩:Addr).add j)=some u:=hown.cells (g:=g) rfl;have hr2:=run_append_grow (P:=P) w t ty e i z ht hi hz ⟨g,0,none⟩ n cap xs hown.1 holds a m c news hl hnews (by omega) (by simp only[maxLen] at h63;omega) (growslice_fits (by omega) hbytes);rw[hr] at hr2;simp only[Result.ok.injEq] at hr2;right;rw[hr2.1];rfl
 subst hsize hby
 rcases hown.2 with⟨rfl,rfl⟩|⟨g,cap,cur,rfl,hbg,hg,hnc,hcm,hcs,htake⟩
 have:xs=[]:=List.eq_nil_of_length_eq_zero (by simpa using hown.1);subst this;exact World.ownsRow_nil _ _ _ _
 by_cases hroom:n+m<=cap
 have hfit:n*i.size+news.length<=cur.size:=(by rw[hl,hcs,<- Nat.add_mul];exact Nat.mul_le_mul_right _ hroom);have hr2:=run_append_room (P:=P) w t ty e i ht hi g n cap cur hg a m c news hl hnews h1 hroom hfit;rw[hr] at hr2;simp only[Result.ok.injEq] at hr2;rw[hr2.2];refine⟨hown.1,.inr ⟨g,cap,_,rfl,hbg,setRow_heap w g cur _ e _ hg,hnc,hcm,?_,?_⟩⟩;simp only[List.size_toArray,Qe,List.length_take,List.length_drop,Array.length_toList];omega;rw[htake];show List.take (n*i.size) (xs++news++_)=xs;rw[List.append_assoc,<- hown.1,List.take_left]
 have holds:∀j u,xs[j]? =some u->w.cell? ((⟨g,0,none⟩:Addr).add j)=some u:=hown.cells (g:=g) rfl;have hr2:=run_append_grow (P:=P) w t ty e i z ht hi hz ⟨g,0,none⟩ n cap xs hown.1 holds a m c news hl hnews (by omega) (by simp only[maxLen] at h63;omega) (growslice_fits (by omega) hbytes);rw[hr] at hr2;simp only[Result.ok.injEq] at hr2;rw[hr2.2];exact World.ownsRow.alloc (w:=w.drew) hown _
end Go.Proofs.YtfcgnpchbcmdeaaGreat
