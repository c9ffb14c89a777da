import Derived.Test.YtfcgnpchbcmdeaaGreatZtah
import Derived.Deep.RegionWith
import Derived.Deep.DeepCutAuto
import Derived.BigRegion
import Derived.Test.YtfcgnpchbcmdeaaGreatZtaf
import Derived.Test.YtfcgnpchbcmdeaaGreatZtag
import Derived.Test.YtfcgnpchbcmdeaaGreatZtac
namespace Go.Proofs.YtfcgnpchbcmdeaaGreat
set_option maxRecDepth 100000
set_option maxHeartbeats 4000000
open Go.RowKit
def Yr(e:Zk):List Value:=[.int .i64 e.v,.int .i64 e.lo,.int .i64 e.hi,.int .i64 e.wt]
def ZD:List Zk->List Value
 |[]=>[]
 |e::L=>Yr e++ZD L
theorem ZZ(a b:List Zk):ZD (a++b)=ZD a++ZD b:=by
 induction a with
 |nil=>rfl
 |cons e L ih=>simp[ZD,ih]
theorem Yt(L:List Zk):(ZD L).length=L.length*4:=by
 induction L with
 |nil=>rfl
 |cons e L ih=>simp[ZD,Yr,ih];omega
theorem Zjc(x:Zk):ZD [x]=[.int .i64 x.v,.int .i64 x.lo,.int .i64 x.hi,.int .i64 x.wt]:=rfl
theorem Ze4:(Tryz.prog.info? 98).map (fun i=>(i.zero,i.size,i.bytes))=some (some (.agg #[.int .i64 0,.int .i64 0,.int .i64 0,.int .i64 0]),4,32):=by kernel_rfl
def Ze(w:World)(base:Nat)(v:Value)(L:List Zk):Prop:=w.ownsRow base 98 4 v L.length (ZD L)
theorem Ze.nil(w:World)(base:Nat):Ze w base (.slice none 0 0) []:=World.ownsRow_nil w base 98 4
theorem Ze.alloc{w:World}{base:Nat}{v:Value}{L:List Zk}(h:Ze w base v L)(o:Obj):Ze (w.alloc o) base v L:=World.ownsRow.alloc h o
theorem Ze.below{w w':World}{base:Nat}{v:Value}{L:List Zk}(h:Ze w base v L)(hb:Below w.heap.size w w'):Ze w' base v L:=by
 refine⟨h.1,?_⟩
 rcases h.2 with hn|⟨g,cap,cur,e,hg,hh,r⟩
 exact .inl hn;exact .inr ⟨g,cap,cur,e,hg,(hb.block g (Qb hh).1).trans hh,r⟩
theorem Zbi(a b:List Zk):∀n i j,(Yb a b n i j).length<=n
 |0,_,_=>by simp[Yb]
 |n+1,i,j=>by have h1:=Zbi a b n (i+1) j;have h2:=Zbi a b n i (j+1);have h3:=Zbi a b n (i+1) (j+1);simp only[Yb];split;simp;omega;split;simp;omega;split;simp;omega;simp
theorem Zbj(a b:List Zk):(Zn a b).length<=a.length+b.length:=Zbi a b _ 0 0
structure Zak(a b:List Zk)(i j:Nat):Prop where
 hi:i<=a.length
 hj:j<=b.length
 va:i<a.length->0<j->(b.getD (j-1) e0).v<(a.getD i e0).v
 vb:j<b.length->0<i->(a.getD (i-1) e0).v<(b.getD j e0).v
theorem Zak.a{a b:List Zk}(ga:Zo a){i j:Nat}(s:Zak a b i j)(hi:i<a.length)(h:j<b.length->(a.getD i e0).v<(b.getD j e0).v):Zak a b (i+1) j:=
 ⟨by omega,s.hj,fun h1 h0=>by have:=s.va hi h0;have:=(ga.lt (show i<i+1 by omega) h1).1;omega,fun h1 _=>by simpa using h h1⟩
theorem Zak.b{a b:List Zk}(gb:Zo b){i j:Nat}(s:Zak a b i j)(hj:j<b.length)(h:i<a.length->(b.getD j e0).v<(a.getD i e0).v):Zak a b i (j+1):=
 ⟨s.hi,by omega,fun h1 _=>by simpa using h h1,fun h1 h0=>by have:=s.vb hj h0;have:=(gb.lt (show j<j+1 by omega) h1).1;omega⟩
theorem Zak.ab{a b:List Zk}(ga:Zo a)(gb:Zo b){i j:Nat}(_s:Zak a b i j)(hi:i<a.length)(hj:j<b.length)(h:(a.getD i e0).v=(b.getD j e0).v):Zak a b (i+1) (j+1):=
 ⟨by omega,by omega,fun h1 _=>by have:=(ga.lt (show i<i+1 by omega) h1).1;simp only[Nat.add_sub_cancel];omega,fun h1 _=>by have:=(gb.lt (show j<j+1 by omega) h1).1;simp only[Nat.add_sub_cancel];omega⟩
structure Qs(a b:List Zk)(i j:Nat)(out:List Zk):Prop where
 st:Zak a b i j
 eq:out++Zag a b i j=Zn a b
theorem Qs.len{a b:List Zk}{i j:Nat}{out:List Zk}(h:Qs a b i j out):out.length<=a.length+b.length:=by have h1:=congrArg List.length h.eq;have h2:=Zbj a b;simp at h1;omega
theorem Qs.a{a b:List Zk}(ga:Zo a){i j:Nat}{out:List Zk}(r:Qs a b i j out)(hi:i<a.length)(h:j<b.length->(a.getD i e0).v<(b.getD j e0).v):Qs a b (i+1) j (out++[seen b j (a.getD i e0)]):=
 ⟨r.st.a ga hi h,by rw[List.append_assoc,<- r.eq,Zj9 hi h];rfl⟩
theorem Qs.b{a b:List Zk}(gb:Zo b){i j:Nat}{out:List Zk}(r:Qs a b i j out)(hj:j<b.length)(h:i<a.length->(b.getD j e0).v<(a.getD i e0).v):Qs a b i (j+1) (out++[seen a i (b.getD j e0)]):=
 ⟨r.st.b gb hj h,by rw[List.append_assoc,<- r.eq,Zka hj h];rfl⟩
theorem Qs.ab{a b:List Zk}(ga:Zo a)(gb:Zo b){i j:Nat}{out:List Zk}(r:Qs a b i j out)(hi:i<a.length)(hj:j<b.length)(h:(a.getD i e0).v=(b.getD j e0).v):Qs a b (i+1) (j+1) (out++[QF (a.getD i e0) (b.getD j e0)]):=
 ⟨r.st.ab ga gb hi hj h,by rw[List.append_assoc,<- r.eq,Zjw hi hj h];rfl⟩
theorem Zu(w:World)(c:Array Value)(t:TypeId):∀j u,c.toList[j]? =some u->(w.alloc (.cells c t)).cell? ((⟨w.heap.size,0,none⟩:Addr).add j)=some u:=by
 intro j u hu;have hadd:(⟨w.heap.size,0,none⟩:Addr).add j=⟨w.heap.size,j,none⟩:=(by unfold Addr.add;split<;>simp_all);rw[hadd];rw[cell_of_row (w.alloc (.cells c t)) w.heap.size j c t (0,0) (heap_alloc_new w _)]
 simpa using hu
theorem Ze.more{w:World}{base:Nat}{v:Value}{L:List Zk}{x:Zk}(h:w.ownsRow base 98 4 v (L.length+1) (ZD L++[.int .i64 x.v,.int .i64 x.lo,.int .i64 x.hi,.int .i64 x.wt])):Ze w base v (L++[x]):=by unfold Ze;rw[ZZ,Zjc,Qe];exact h
theorem Zhz:(Tryz.prog.info? 3).map (fun i=>(i.zero,i.size,i.bytes))=some (some (.int .i64 0),1,8):=by kernel_rfl
def Zd(w:World)(base:Nat)(v:Value)(zs:List Int):Prop:=w.ownsRow base 3 1 v zs.length (zs.map (Value.int .i64))
theorem Zd.nil(w:World)(base:Nat):Zd w base (.slice none 0 0) []:=World.ownsRow_nil w base 3 1
theorem Zd.below{w w':World}{base:Nat}{v:Value}{zs:List Int}(h:Zd w base v zs)(hb:Below w.heap.size w w'):Zd w' base v zs:=by
 refine⟨h.1,?_⟩
 rcases h.2 with hn|⟨g,cap,cur,e,hg,hh,r⟩
 exact .inl hn;exact .inr ⟨g,cap,cur,e,hg,(hb.block g (Qb hh).1).trans hh,r⟩
theorem Zd.kept{w w':World}{base:Nat}{v:Value}{zs:List Int}{row:Option Nat}(h:Zd w base v zs)(hg:w.grownBy w' row)(hne:v.ownBlock=none∨v.ownBlock≠row):Zd w' base v zs:=World.ownsRow.kept h hg hne
theorem Zd.more{w:World}{base:Nat}{v:Value}{zs:List Int}{x:Int}(h:w.ownsRow base 3 1 v (zs.length+1) (zs.map (Value.int .i64)++[.int .i64 x])):Zd w base v (zs++[x]):=by unfold Zd;rw[List.map_append,Qe];exact h
theorem ZhE(W:World){n:Nat}(hW:W.heap.size=n)(x:Int):∀j u,[Value.int .i64 x][j]? =some u->(W.alloc (.cells #[.int .i64 x] 3)).cell? ((⟨n,0,none⟩:Addr).add j)=some u:=by subst hW;exact Zu W #[.int .i64 x] 3
def Y4(v u:Value):Prop:=v.ownBlock=none∨u.ownBlock=none∨v.ownBlock≠u.ownBlock
theorem Y4.symm{v u:Value}(h:Y4 v u):Y4 u v:=by
 rcases h with h|h|h
 exact .inr (.inl h);exact .inl h;exact .inr (.inr (Ne.symm h))
theorem Y4.keeps{v u:Value}(h:Y4 v u):u.ownBlock=none∨u.ownBlock≠v.ownBlock:=by
 rcases h with h|h|h
 ·cases hu:u.ownBlock with
  |none=>exact .inl rfl
  |some k=>exact .inr (by rw[h];simp)
 exact .inl h;exact .inr (Ne.symm h)
theorem Y4.moved{w:World}{base:Nat}{v v' u:Value}{zs:List Int}(h:Y4 v u)(hu:Zd w base u zs)(hv:v'.ownBlock=v.ownBlock∨v'.ownBlock=some w.heap.size):Y4 v' u:=by
 rcases hv with hv|hv
 unfold Y4;rw[hv];exact h
 cases hk:u.ownBlock with
 |none=>exact .inr (.inl hk)
 | some k=>
  have:=(World.ownsRow.lt hu k hk).2;refine .inr (.inr ?_);rw[hv,hk];simp;omega
structure Za(S:Nat->Prop)(w w':World):Prop where
 os:w'.os=w.os
 tape:w'.tape=w.tape
 output:w'.output=w.output
 size:w.heap.size<=w'.heap.size
 block:∀k,k<w.heap.size->¬S k->w'.heap[k]? =w.heap[k]?
theorem Za.refl(S:Nat->Prop)(w:World):Za S w w:=⟨rfl,rfl,rfl,Qa _,fun _ _ _=>rfl⟩
theorem Za.trans{S:Nat->Prop}{a b c:World}(h:Za S a b)(k:Za S b c):Za S a c:=
 ⟨k.os.trans h.os,k.tape.trans h.tape,k.output.trans h.output,Nat.le_trans h.size k.size,fun i hi hs=>(k.block i (Qh hi h.size) hs).trans (h.block i hi hs)⟩
theorem Za.mono{S S':Nat->Prop}{a b:World}(h:Za S a b)(hs:∀k,k<a.heap.size->S k->S' k):Za S' a b:=
 ⟨h.os,h.tape,h.output,h.size,fun k hk hn=>h.block k hk (fun e=>hn (hs k hk e))⟩
theorem Za.of_below{S:Nat->Prop}{a b:World}(h:Below a.heap.size a b):Za S a b:=⟨h.os,h.tape,h.output,h.size,fun k hk _=>h.block k hk⟩
theorem Za.below{S:Nat->Prop}{a b c:World}(h:Za S a b)(k:Below b.heap.size b c):Za S a c:=h.trans (.of_below k)
theorem Za.alloc{S:Nat->Prop}{a b:World}(h:Za S a b)(o:Obj):Za S a (b.alloc o):=h.below ((Below.refl _ _).alloc (Qa _) _)
theorem Za.drew{S:Nat->Prop}{a b:World}(h:Za S a b):Za S a b.drew:=h.below (Below.refl _ _).drew
theorem Za.setCell{S:Nat->Prop}{a b:World}(h:Za S a b){p:Addr}(hp:p.block<a.heap.size->S p.block)(u:Value):Za S a (b.setCell p u):=
 ⟨h.os,h.tape,h.output,by have:=h.size;simpa [World.setCell] using this,fun k hk hn=>(Below.heap_setCell b p u k (fun e=>hn (e ▸ hp (e ▸ hk)))).trans (h.block k hk hn)⟩
theorem Za.grown{S:Nat->Prop}{a b c:World}{row:Option Nat}(h:Za S a b)(hg:b.grownBy c row)(hr:∀k,row=some k->k<a.heap.size->S k):Za S a c:=
 ⟨hg.os.trans h.os,hg.tape.trans h.tape,hg.output.trans h.output,Nat.le_trans h.size hg.size,fun k hk hn=>(hg.block k (Qh hk h.size) (fun e=>hn (hr k e.symm hk))).trans (h.block k hk hn)⟩
theorem Za.row{S:Nat->Prop}{a b:World}(h:Za S a b){base:Nat}{e:TypeId}{size:Nat}{v:Value}{n:Nat}{xs:List Value}(hr:a.ownsRow base e size v n xs)(hs:∀k,v.ownBlock=some k->¬S k):b.ownsRow base e size v n xs:=by
 refine⟨hr.1,?_⟩
 rcases hr.2 with hn|⟨g,cap,cur,rfl,hb,hgg,rest⟩
 exact .inl hn;exact .inr ⟨g,cap,cur,rfl,hb,(h.block g (Qb hgg).1 (hs g rfl)).trans hgg,rest⟩
theorem Za.at_{S:Nat->Prop}{a b:World}(h:Za S a b){g:Nat}{o:Obj}(hg:a.heap[g]? =some o)(hs:¬S g):b.heap[g]? =some o:=(h.block g (Qb hg).1 hs).trans hg
theorem ZaR{P:Program}(w:World)(base:Nat)(t ty e:TypeId)(i:TypeInfo)(z:Value)(size bytes:Nat)(ht:P.underlying t=some (.slice e))(hi:P.info? e=some i)(hz:i.zero=some z)(hsize:i.size=size)(hby:i.bytes=bytes)(hzs:z.cells.size=size)(hsz:0<size)(v:Value)(n:Nat)(xs:List Value)(hown:w.ownsRow base e size v n xs)(a:Addr)(m c:Nat)(news:List Value)(hl:news.length=m*size)(hnews:∀j u,news[j]? =some u->w.cell? (a.add j)=some u)(h1:∀u∈news,u.oneCell'=true)(hm:0<m)(h63:n+m<=maxLen)(hbytes:(n+m)*bytes<=140737488355328)(hbase:base<=w.heap.size):∃v' w',(Builtin.append_ #[t,t] ty #[v,.slice (some a) m c]).run P w=.ok v' w'/\w'.ownsRow base e size v' (n+m) (xs++news)/\w.grownBy w' v.ownBlock/\(v'.ownBlock=v.ownBlock∨v'.ownBlock=some w.heap.size/\Below w.heap.size w w')/\w'.ownsRow base e size v n xs/\∃g cap,v'=.slice (some ⟨g,0,none⟩) (n+m) cap:=by
 obtain⟨v',w',hr,h2,h3,h4,h5,h6⟩:=ZaQ (P:=P) w base t ty e i z size bytes ht hi hz hsize hby hzs hsz v n xs hown a m c news hl hnews h1 hm h63 hbytes hbase;refine⟨v',w',hr,h2,h3,?_,h5,h6⟩
 subst hsize hby
 rcases hown.2 with⟨rfl,rfl⟩|⟨g,cap,cur,rfl,hbg,hg,hnc,hcm,hcs,htake⟩
 have hr2:=run_append_nil (P:=P) w t ty e i z ht hi hz a m c news hl hnews hm (by simp only[maxLen] at h63;omega) (by simp only[Nat.zero_add] at hbytes;omega);rw[hr] at hr2;simp only[Result.ok.injEq] at hr2;right;refine⟨by rw[hr2.1];rfl,?_⟩;rw[hr2.2];exact((Below.refl _ _).drew).alloc (by simp) _
 by_cases hroom:n+m<=cap
 have hfit:n*i.size+news.length<=cur.size:=(by rw[hl,hcs,<- Nat.add_mul];exact Nat.mul_le_mul_right _ hroom);have hr2:=run_append_room (P:=P) w t ty e i ht hi g n cap cur hg a m c news hl hnews h1 hroom hfit;rw[hr] at hr2;simp only[Result.ok.injEq] at hr2;left;rw[hr2.1];rfl;have holds:∀j u,xs[j]? =some u->w.cell? ((⟨g,0,none⟩:Addr).add j)=some u:=hown.cells (g:=g) rfl;have hr2:=run_append_grow (P:=P) w t ty e i z ht hi hz ⟨g,0,none⟩ n cap xs hown.1 holds a m c news hl hnews (by omega) (by simp only[maxLen] at h63;omega) (growslice_fits (by omega) hbytes);rw[hr] at hr2;simp only[Result.ok.injEq] at hr2;right;refine⟨by rw[hr2.1];rfl,?_⟩;rw[hr2.2];exact((Below.refl _ _).drew).alloc (by simp) _
theorem Zi{P:Program}{w:World}{ops:Array Oper}{rest:List Oper}{o:Oper}{a:Act}{Q:Exit->Act->World->Prop}(hgd:o.guard=none)(s x:Operand)(t:TypeId)(ho:o.op=.call {callee:=.builtin .append,args:=#[s,x],argTypes:=#[t,t]})(base:Nat)(e:TypeId)(i:TypeInfo)(z:Value)(size bytes:Nat)(ht:P.underlying t=some (.slice e))(hi:P.info? e=some i)(hz:i.zero=some z)(hsize:i.size=size)(hby:i.bytes=bytes)(hzs:z.cells.size=size)(hsz:0<size)(v:Value)(n:Nat)(xs:List Value)(hs:a.eval s=v)(hown:w.ownsRow base e size v n xs)(ad:Addr)(m c:Nat)(news:List Value)(hx:a.eval x=.slice (some ad) m c)(hl:news.length=m*size)(hnews:∀j u,news[j]? =some u->w.cell? (ad.add j)=some u)(h1:∀u∈news,u.oneCell'=true)(hm:0<m)(h63:n+m<=maxLen)(hbytes:(n+m)*bytes<=140737488355328)(hbase:base<=w.heap.size)(h:∀v' w',Hid (w'.ownsRow base e size v' (n+m) (xs++news)/\w.grownBy w' v.ownBlock/\(v'.ownBlock=v.ownBlock∨v'.ownBlock=some w.heap.size/\Below w.heap.size w w')/\w'.ownsRow base e size v n xs/\∃g cap,v'=.slice (some ⟨g,0,none⟩) (n+m) cap)->wpList P ops Q rest (a.put o.dst v') w'):wpList P ops Q (o::rest) a w:=by
 refine wpList_plain hgd fun K hK=>?_;obtain⟨v',w',hr,h2⟩:=ZaR (P:=P) w base t o.type e i z size bytes ht hi hz hsize hby hzs hsz v n xs hown ad m c news hl hnews h1 hm h63 hbytes hbase;unfold Oper.wp;simp only[execOp,ho,resolve,invoke,builtin,Sem.run_bind,Sem.run_pure,Result.andThen_ok,List.map_toArray,List.map_cons,List.map_nil,hs,hx,hr];exact hK _ _ (h v' w' h2)
theorem Zah{w:World}{b1 b2 e1 e2 s1 s2 n1 n2:Nat}{v u:Value}{xs ys:List Value}(h:w.ownsRow b1 e1 s1 v n1 xs)(g:w.ownsRow b2 e2 s2 u n2 ys)(hne:e1≠e2):u.ownBlock=none∨u.ownBlock≠v.ownBlock:=by
 rcases g.2 with⟨rfl,_⟩|⟨g1,cap1,cur1,rfl,_,hg1,_⟩
 exact .inl rfl
 rcases h.2 with⟨rfl,_⟩|⟨g2,cap2,cur2,rfl,_,hg2,_⟩
 exact .inr (by simp[Value.ownBlock]);refine .inr fun e=>?_;simp[Value.ownBlock] at e;rw[e,hg2] at hg1;simp at hg1;exact hne hg1.2
theorem Zf{w:World}{base e size n:Nat}{v:Value}{xs:List Value}(h:w.ownsRow base e size v n xs){k:Nat}(hk:v.ownBlock=some k):∃cur,w.heap[k]? =some (.cells cur e (0,0)):=by
 rcases h.2 with⟨rfl,_⟩|⟨g2,cap2,cur2,rfl,_,hg2,_⟩
 ·cases hk
 simp[Value.ownBlock] at hk;subst hk;exact⟨_,hg2⟩
theorem Zd.alloc{w:World}{base:Nat}{v:Value}{zs:List Int}(h:Zd w base v zs)(o:Obj):Zd (w.alloc o) base v zs:=World.ownsRow.alloc h o
theorem Yk{w:World}{ops:Array Oper}{rest:List Oper}{o:Oper}{a:Act}{Q:Exit->Act->World->Prop}(hgd:o.guard=none)(s x:Operand)(ho:o.op=.call {callee:=.builtin .append,args:=#[s,x],argTypes:=#[25,25]})(base:Nat)(v:Value)(zs:List Int)(z:Int)(hs:a.eval s=v)(hown:Zd w base v zs)(g c:Nat)(hx:a.eval x=.slice (some ⟨g,0,none⟩) 1 c)(hg:w.cell? ⟨g,0,none⟩=some (.int .i64 z))(hl:zs.length<=1000000000)(hbase:base<=w.heap.size)(h:∀v' w',Hid (Zd w' base v' (zs++[z])/\w.grownBy w' v.ownBlock/\(v'.ownBlock=v.ownBlock∨v'.ownBlock=some w.heap.size/\Below w.heap.size w w'))->wpList Tryz.prog ops Q rest (a.put o.dst v') w'):wpList Tryz.prog ops Q (o::rest) a w:=by
 obtain⟨i0,hinf,hz0,hz1,hz2⟩:=info_parts Zhz;refine Zi hgd s x 25 ho base 3 i0 (.int .i64 0) 1 8 Tryz.underlying25 hinf hz0 hz1 hz2 rfl (by decide) v zs.length (zs.map (Value.int .i64)) hs hown ⟨g,0,none⟩ 1 c [.int .i64 z] hx rfl ?_ ?_ (by decide) (by unfold maxLen;omega) (by omega) hbase ?_
 ·intro j u hj
  cases j with
  |zero=>simp at hj;subst hj;simpa [Addr.add] using hg
  |succ j=>simp at hj
 intro u hu;simp at hu;subst hu;rfl;intro v' w' H;obtain⟨h1,h2,h3,_,_⟩:=H.out;exact h v' w' ⟨Zd.more h1,h2,h3⟩
def Zaq(bins tot hi:Int):Int:=bins*hi/tot
def QP(tot bins:Int):Int->List Zk->List Int
 |_,[]=>[]
 |share,e::r=>if share<=Zaq bins tot e.hi then e.v::QP tot bins (Zaq bins tot e.hi+1) r else QP tot bins share r
def Z9(L:List Zk)(bins:Int):List Int:=
 if L.length=0 then[] else if(L.length:Int)<=bins then(L.take (L.length-1)).map (fun e=>e.v) else QP (Zb L) bins 1 (L.take (L.length-1))
theorem Zh8{L:List Zk}{k m:Nat}(hk:k<m)(hm:m<=L.length):(L.take m).drop k=L.getD k e0::(L.take m).drop (k+1):=by have h:k<(L.take m).length:=(by simp;omega);rw[List.drop_eq_getElem_cons h];simp[List.getD,show k<L.length by omega]
theorem ZeL{bins tot hi:Int}(h0:0<=bins)(h1:bins<=16)(h2:0<=hi)(h3:hi<=tot)(h4:1<=tot):0<=Zaq bins tot hi/\Zaq bins tot hi<=16:=by
 unfold Zaq;have a1:0<=bins*hi:=Int.mul_nonneg h0 h2;have a2:bins*hi<=16*tot:=Int.mul_le_mul h1 h3 h2 (by omega);constructor;exact Int.ediv_nonneg a1 (by omega);have:=Int.ediv_le_ediv (show 0<tot by omega) a2
 rwa [Int.mul_ediv_cancel _ (by omega)] at this
theorem Zb6(hi tot bins:Int)(w:World)(h0:0<=bins)(h1:bins<=16)(h2:0<=hi)(h3:hi<=tot)(h4:1<=tot)(h5:tot<=1000000000000):Calls Tryz.prog 317 #[.int .i64 hi,.int .i64 tot,.int .i64 bins] w fun e w'=>e=.returned (.int .i64 (Zaq bins tot hi))/\w'=w:=by
 have a1:0<=bins*hi:=Int.mul_nonneg h0 h2;have a2:bins*hi<=16*1000000000000:=Int.mul_le_mul h1 (by omega) h2 (by omega);have a3:=ZeL h0 h1 h2 h3 h4;have hne:tot≠0:=(by omega);have hnb:(tot==0)=false:=beq_eq_false_iff_ne.2 hne
 have HT:Hid (Zaq bins tot hi=(bins*hi).tdiv tot):=show _=_ by unfold Zaq;rw[Int.tdiv_eq_ediv_of_nonneg a1]
 unfold Hid at HT;rw[HT] at a3 ⊢;obtain⟨b1,b2⟩:=a3;clear HT;go_enter Tryz.func317,Tryz.ntmps317;go_wp2;go_ret;exact⟨rfl,rfl⟩
theorem ZgH(b off:Nat)(L:List Zk)(cap:Nat)(bins:Int)(w:World)(h:YD w b off L)(hcap:L.length<=cap)(h0:L.length≠0)(hl:L.length<=4194304)(hfew:(L.length:Int)<=bins):Calls Tryz.prog 273 #[.slice (some ⟨b,off,none⟩) L.length cap,.int .i64 bins] w fun e w'=>∃v,e=.returned v/\Zd w' w.heap.size v (Z9 L bins)/\Below w.heap.size w w':=by
 obtain⟨i0,hinf,hz0,hz1,hz2⟩:=info_parts Zhz
 have HB:Hid (Z9 L bins=(L.take (L.length-1)).map (fun e=>e.v)):=show _=_ by unfold Z9;rw[if_neg h0,if_pos hfew]
 have hbl:=h.lt (by omega);have HE:Hid (YD w b off L):=h;obtain⟨m,hm⟩:∃m,L.length=m+1:=⟨L.length-1,by omega⟩;have HL:Hid (L.length=m+1):=hm;rw[hm] at hcap hl hfew ⊢;have hne:(((m:Int)+1)==0)=false:=beq_eq_false_iff_ne.2 (by omega);have hfew2:(m:Int)+1<=bins:=(by omega);clear h h0 hm hfew;go_enter Tryz.func273,Tryz.ntmps273;go_wp2_with fail
 go_loopw [28,6] (fun ti o wr=>∃k:Nat,ti=.int .i64 k/\k<=m/\Hid (Zd wr w.heap.size o ((L.take k).map (fun e=>e.v)))/\Below w.heap.size w wr) (fun ti _ _=>m-(intOf ti).toNat)
 case atStart=>exact⟨0,rfl,Qg _,Zd.nil _ _,Below.refl _ _⟩
 case round=>
  obtain⟨k,rfl,hk,HO,hbel⟩:=hrel
  by_cases hkm:k<m
  ·have hA:=HE.out;have hkl:k<L.length:=by rw[HL.out];omega
   obtain⟨a0,a1,a2,a3⟩:wr.cell? ⟨b,off+k*4,none⟩=some (.int .i64 (L.getD k e0).v)/\wr.cell? ⟨b,off+k*4+1,none⟩=some (.int .i64 (L.getD k e0).lo)/\wr.cell? ⟨b,off+k*4+2,none⟩=some (.int .i64 (L.getD k e0).hi)/\wr.cell? ⟨b,off+k*4+3,none⟩=some (.int .i64 (L.getD k e0).wt):=
    ⟨(hbel.cell (p:=⟨b,_,none⟩) hbl).trans (hA.v k hkl),(hbel.cell (p:=⟨b,_,none⟩) hbl).trans (hA.lo k hkl),(hbel.cell (p:=⟨b,_,none⟩) hbl).trans (hA.hi k hkl),(hbel.cell (p:=⟨b,_,none⟩) hbl).trans (hA.wt k hkl)⟩
   have HX:Hid ((L.take (k+1)).map (fun e=>e.v)=(L.take k).map (fun e=>e.v)++[(L.getD k e0).v]):=show _=_ by rw[ZaI L hkl];simp
   have HLEN:Hid (((L.take k).map (fun e=>e.v)).length=k):=show _=_ by simp;omega
   generalize (L.take k).map (fun e=>e.v)=out at *;generalize L.getD k e0=x at *;have bi1:(0:Int)<=(k:Int):=(by omega);have bi2:(k:Int)<(m:Int):=(by omega);have hsz:=hbel.size;clear hA hkl;have hlo:out.length<=1000000000:=(by rw[HLEN.out];omega);go_wp2_with (at_builtin;refine Yk rfl (.tmp 32) (.tmp 35) rfl w.heap.size _ out x.v rfl ((HO.out.alloc _).alloc _) (wr.heap.size+1) 1 rfl ?_ hlo ?_ ?_)
   ·simp[go_sem]
   simp;omega;intro v3 w3 H3;have hb4:Below w.heap.size w w3:=by obtain⟨q1,q2,q3⟩:=H3.out;exact hbel.trans ((((Below.refl _ _).alloc hsz _).alloc (by simp;omega) _).grown q2 (by simp;omega) (fun k hk=>(HO.out.lt k hk).1))
   have HF:Hid (Zd w3 w.heap.size v3 (out++[x.v])):=H3.out.1;clear H3;go_wp2;go_roundw;case rel=>exact⟨k+1,by go_num,by omega,by rw[HX.out];exact HF,hb4⟩
   case measure=>simp[intOf];omega
  have hkm2:¬(k:Int)<(m:Int):=by omega
  have HF:Hid (Zd wr w.heap.size u6 (Z9 L bins)):=show Zd _ _ _ _ by rw[HB.out,HL.out];have:k=m:=(by omega);subst this;exact HO.out
  clear HO;go_wp2;go_ret;exact⟨_,rfl,HF.out,hbel⟩
theorem Zfx(b off:Nat)(L:List Zk)(cap:Nat)(bins:Int)(w:World)(h:YD w b off L)(g:Zo L)(hcap:L.length<=cap)(hl:L.length<=4194304)(hb1:2<=bins)(hb2:bins<=16)(hmany:bins<(L.length:Int)):Calls Tryz.prog 273 #[.slice (some ⟨b,off,none⟩) L.length cap,.int .i64 bins] w fun e w'=>∃v,e=.returned v/\Zd w' w.heap.size v (Z9 L bins)/\Below w.heap.size w w':=by
 have h0:L.length≠0:=(by omega);have hbl:=h.lt (by omega);have HE:Hid (YD w b off L):=h;have HG:Hid (Zo L):=g;obtain⟨m,hm⟩:∃m,L.length=m+1:=⟨L.length-1,by omega⟩;have HL:Hid (L.length=m+1):=hm
 have HB:Hid (Z9 L bins=QP (Zb L) bins 1 (L.take m)):=show _=_ by unfold Z9;rw[if_neg h0,if_neg (by omega),hm];rfl
 have ht:Zb L=(L.getD m e0).hi:=(by unfold Zb;rw[if_neg h0,hm];rfl);have c0:=h.hi m (by omega);rw[<- ht] at c0;have t1:1<=Zb L:=(by have:=g.at (show m<L.length by omega);rw[ht];omega);have t2:Zb L<=1000000000000:=(YM g).2;have HTOT:Hid (∀k,k<L.length->(L.getD k e0).hi<=Zb L):=fun k hk=>Q3 g hk;rw[hm] at hcap hl hmany ⊢;have hne:(((m:Int)+1)==0)=false:=beq_eq_false_iff_ne.2 (by omega);have hmany2:¬(m:Int)+1<=bins:=(by omega);have b1:(0:Int)<=(m:Int)+1-1:=(by omega);have b2:(m:Int)+1-1<(m:Int)+1:=(by omega);clear h g h0 hm hmany ht;generalize Zb L=tot at *;go_enter Tryz.func273,Tryz.ntmps273;go_wp2_with fail
 go_loopw [48,6,10] (fun ti o ts wr=>∃(k:Nat) (share:Int) (out:List Int),ti=.int .i64 k/\ts=.int .i64 share/\1<=share/\share<=17/\k<=m/\out.length<=k/\Hid (Zd wr w.heap.size o out)/\Hid (out++QP tot bins share ((L.take m).drop k)=Z9 L bins)/\Below w.heap.size w wr) (fun ti _ _ _=>m-(intOf ti).toNat)
 case atStart=>exact⟨0,1,[],rfl,rfl,by decide,by decide,Qg _,Qa _,Zd.nil _ _,by show _=_;rw[HB.out];rfl,Below.refl _ _⟩
 case round=>
  clear c0;obtain⟨k,share,out,rfl,rfl,hs1,hs2,hk,hol,HO,HR,hbel⟩:=hrel
  by_cases hkm:k<m
  ·have hA:=HE.out;have hkl:k<L.length:=by rw[HL.out];omega
   obtain⟨a0,a1,a2,a3⟩:wr.cell? ⟨b,off+k*4,none⟩=some (.int .i64 (L.getD k e0).v)/\wr.cell? ⟨b,off+k*4+1,none⟩=some (.int .i64 (L.getD k e0).lo)/\wr.cell? ⟨b,off+k*4+2,none⟩=some (.int .i64 (L.getD k e0).hi)/\wr.cell? ⟨b,off+k*4+3,none⟩=some (.int .i64 (L.getD k e0).wt):=
    ⟨(hbel.cell (p:=⟨b,_,none⟩) hbl).trans (hA.v k hkl),(hbel.cell (p:=⟨b,_,none⟩) hbl).trans (hA.lo k hkl),(hbel.cell (p:=⟨b,_,none⟩) hbl).trans (hA.hi k hkl),(hbel.cell (p:=⟨b,_,none⟩) hbl).trans (hA.wt k hkl)⟩
   have hx1:0<=(L.getD k e0).hi:=(by have:=HG.out.at hkl;omega);have hx2:=HTOT.out k hkl;have hd:(L.take m).drop k=L.getD k e0::(L.take m).drop (k+1):=Zh8 hkm (by rw[HL.out];omega);have hr:=HR.out;rw[hd] at hr;clear hd HR;generalize L.getD k e0=x at *;have hsh:=ZeL (show 0<=bins by omega) hb2 hx1 hx2 t1;obtain⟨s1,s2⟩:=hsh;have bi1:(0:Int)<=(k:Int):=(by omega);have bi2:(k:Int)<(m:Int):=(by omega);have hsz:=hbel.size;have hlo:out.length<=1000000000:=(by omega);simp only[QP] at hr;have HSC:Hid (∀W:World,Calls Tryz.prog 317 #[.int .i64 x.hi,.int .i64 tot,.int .i64 bins] W fun e w'=>e=.returned (.int .i64 (Zaq bins tot x.hi))/\w'=W):=fun W=>Zb6 x.hi tot bins W (by omega) hb2 hx1 hx2 t1 t2;generalize Zaq bins tot x.hi=r at *;clear hA hkl hx1 hx2
   by_cases hc:share<=r
   ·rw[if_pos hc] at hr;have HR:Hid (out++x.v::QP tot bins (r+1) ((L.take m).drop (k+1))=Z9 L bins):=hr;clear hr;go_wp2_with fail
    refine(HSC.out _).mono ?_;rintro e w1 ⟨rfl,rfl⟩;go_wp2_with (at_builtin;refine Yk rfl (.tmp 60) (.tmp 63) rfl w.heap.size _ out x.v rfl ((HO.out.alloc _).alloc _) (wr.heap.size+1) 1 rfl ?_ hlo ?_ ?_)
    ·simp[go_sem]
    simp;omega;intro v3 w3 H3;have hb4:Below w.heap.size w w3:=by obtain⟨q1,q2,q3⟩:=H3.out;exact hbel.trans ((((Below.refl _ _).alloc hsz _).alloc (by simp;omega) _).grown q2 (by simp;omega) (fun k hk=>(HO.out.lt k hk).1))
    have HF:Hid (Zd w3 w.heap.size v3 (out++[x.v])):=H3.out.1;clear H3;go_wp2;go_roundw;case rel=>exact⟨k+1,r+1,out++[x.v],by go_num,by go_num,by omega,by omega,by omega,by simp;omega,HF,by show _=_;rw[List.append_assoc];exact HR.out,hb4⟩
    case measure=>simp[intOf];omega
   rw[if_neg hc] at hr;have HR:Hid (out++QP tot bins share ((L.take m).drop (k+1))=Z9 L bins):=hr;clear hr;go_wp2_with fail
   refine(HSC.out _).mono ?_;rintro e w1 ⟨rfl,rfl⟩;have HF:=HO.out.alloc (.cells #[.int .i64 x.v,.int .i64 x.lo,.int .i64 x.hi,.int .i64 x.wt] 98);have HFF:Hid (Zd (wr.alloc (.cells #[.int .i64 x.v,.int .i64 x.lo,.int .i64 x.hi,.int .i64 x.wt] 98)) w.heap.size u6 out):=HF;clear HF;go_wp2;go_roundw;case rel=>exact⟨k+1,share,out,by go_num,rfl,by omega,by omega,by omega,by omega,HFF,HR,hbel.trans ((Below.refl _ _).alloc hsz _)⟩
   case measure=>simp[intOf];omega
  have hkm2:¬(k:Int)<(m:Int):=by omega
  have HF:Hid (Zd wr w.heap.size u6 (Z9 L bins)):=show Zd _ _ _ _ by have:=HR.out;rw[List.drop_eq_nil_of_le (by simp;omega)] at this;simp only[QP,List.append_nil] at this;rw[<- this];exact HO.out
  clear HO HR;go_wp2;go_ret;exact⟨_,rfl,HF.out,hbel⟩
theorem ZgG(a:Option Addr)(L:List Zk)(cap:Nat)(bins:Int)(w:World)(h:ZQ w a L)(g:Zo L)(hcap:L.length<=cap)(hb1:2<=bins)(hb2:bins<=16):Calls Tryz.prog 273 #[.slice a L.length cap,.int .i64 bins] w fun e w'=>∃v,e=.returned v/\Zd w' w.heap.size v (Z9 L bins)/\Below w.heap.size w w':=by
 obtain⟨hl,h0|⟨b,off,rfl,hA⟩⟩:=h
 ·have hB:Z9 L bins=[]:=(by unfold Z9;rw[if_pos h0]);rw[hB,h0];go_enter Tryz.func273,Tryz.ntmps273;go_wp2;go_ret;exact⟨_,rfl,Zd.nil _ _,Below.refl _ _⟩
 by_cases h0:L.length=0
 ·have hB:Z9 L bins=[]:=(by unfold Z9;rw[if_pos h0]);rw[hB,h0];go_enter Tryz.func273,Tryz.ntmps273;go_wp2;go_ret;exact⟨_,rfl,Zd.nil _ _,Below.refl _ _⟩
 by_cases hf:(L.length:Int)<=bins
 exact ZgH b off L cap bins w hA hcap h0 hl hf;exact Zfx b off L cap bins w hA g hcap hl hb1 hb2 (by omega)
end Go.Proofs.YtfcgnpchbcmdeaaGreat
namespace Go.Proofs.YtfcgnpchbcmdeaaGreat
set_option maxRecDepth 100000
set_option maxHeartbeats 4000000
def Zdy(p:Int×Int):List (Int×Int)->List (Int×Int)
 |[]=>[p]
 |q::r=>if p.1<q.1 then p::q::r else if p.1=q.1 then(q.1,q.2+p.2)::r else q::Zdy p r
def Zb8:List (Int×Int)->List (Int×Int)
  |[]=>[]
  |p::r=>Zdy p (Zb8 r)
theorem Zcp(p:Int×Int):∀(M:List (Int×Int)) (x:Int),(∃q∈Zdy p M,q.1=x)↔(p.1=x∨∃q∈M,q.1=x)
 |[],x=>by simp[Zdy]
 |q::r,x=>by simp only[Zdy];split;simp;split;rename_i h;simp[h];have ih:=Zcp p r x;simp only[List.mem_cons,exists_eq_or_imp];rw[ih];constructor;rintro(h|h|h);exact .inr (.inl h);exact .inl h;exact .inr (.inr h);rintro(h|h|h);exact .inr (.inl h);exact .inl h;exact .inr (.inr h)
theorem ZeA(p:Int×Int):∀(M:List (Int×Int)),M.Pairwise (fun p q=>p.1<q.1)->(Zdy p M).Pairwise fun p q=>p.1<q.1
 |[],_=>by simp[Zdy]
 | q ::r,h=>by
  rw[List.pairwise_cons] at h;simp only[Zdy];split
  ·rename_i hc;rw[List.pairwise_cons,List.pairwise_cons];refine⟨fun x hx=>?_,h⟩
   rcases List.mem_cons.1 hx with rfl|hx
   exact hc;have:=h.1 x hx;omega
  split;rw[List.pairwise_cons];exact h;rename_i h1 h2;rw[List.pairwise_cons];refine⟨fun x hx=>?_,ZeA p r h.2⟩
  rcases(Zcp p r x.1).1 ⟨x,hx,rfl⟩ with e|⟨y,hy,e⟩
  omega;have:=h.1 y hy;omega
theorem ZhB(p:Int×Int):∀(M:List (Int×Int)),M.Pairwise (fun p q=>p.1<q.1)->∀q∈Zdy p M,(q.1≠p.1->q∈M)/\(q.1=p.1->(∃z,(q.1,z)∈M/\q.2=z+p.2)∨(q.2=p.2/\∀y∈M,y.1≠q.1))
 |[],_,q,hq=>by simp[Zdy] at hq;subst hq;exact⟨fun h=>absurd rfl h,fun _=>.inr ⟨rfl,by simp⟩⟩
 | x ::r,h,q,hq=>by
  rw[List.pairwise_cons] at h;simp only[Zdy] at hq;split at hq
  ·rename_i hc
   rcases List.mem_cons.1 hq with rfl|hq
   ·refine⟨fun h=>absurd rfl h,fun _=>.inr ⟨rfl,fun y hy=>?_⟩⟩
    rcases List.mem_cons.1 hy with rfl|hy
    omega;have:=h.1 y hy;omega
   refine⟨fun _=>hq,fun e=>?_⟩
   rcases List.mem_cons.1 hq with rfl|hy
   omega;have:=h.1 q hy;omega
  split at hq
  ·rename_i h1 h2
   rcases List.mem_cons.1 hq with rfl|hq
   refine⟨fun e=>absurd h2.symm e,fun _=>.inl ⟨x.2,by simp,rfl⟩⟩;refine⟨fun _=>by simp[hq],fun e=>?_⟩;have:=h.1 q hq;omega
  rename_i h1 h2
  rcases List.mem_cons.1 hq with rfl|hq
  exact⟨fun _=>by simp,fun e=>absurd e.symm h2⟩;obtain⟨i1,i2⟩:=ZhB p r h.2 q hq;refine⟨fun e=>by simp[i1 e],fun e=>?_⟩
  rcases i2 e with⟨z,hz,e2⟩|⟨e2,hn⟩
  exact .inl ⟨z,by simp[hz],e2⟩;refine .inr ⟨e2,fun y hy=>?_⟩
  rcases List.mem_cons.1 hy with rfl|hy
  omega;exact hn y hy
theorem ZdS:∀ps:List (Int×Int),Z1 ps (Zb8 ps)
  |[]=>Z1.nil
  | p ::r=>by
    have ih:=ZdS r;have hv:=Zcp p (Zb8 r);refine⟨ZeA p _ ih.rise,fun q hq=>?_,fun q hq=>?_,fun q hq=>?_⟩
    · rcases(hv q.1).1 ⟨q,hq,rfl⟩ with e|⟨y,hy,e⟩
      exact⟨p,by simp,e⟩;obtain⟨z,hz,e2⟩:=ih.sub y hy;exact⟨z,by simp[hz],by omega⟩
    · rcases List.mem_cons.1 hq with rfl|hq
      obtain⟨x,hx,e⟩:=(hv q.1).2 (.inl rfl);exact⟨x,hx,e⟩;obtain⟨y,hy,e⟩:=ih.all q hq;obtain⟨x,hx,e2⟩:=(hv q.1).2 (.inr ⟨y,hy,e⟩);exact⟨x,hx,e2⟩
    obtain⟨i1,i2⟩:=ZhB p (Zb8 r) ih.rise q hq;simp only[YN]
    by_cases e:q.1=p.1
    · rw[if_pos e.symm]
      rcases i2 e with⟨z,hz,e2⟩|⟨e2,hn⟩
      have:=ih.wt _ hz;simp only at this;omega
      have:YN r q.1=0:=Zgp (fun y hy he=>by
        obtain⟨x,hx,e3⟩:=ih.all y hy
        exact hn x hx (by omega))
      omega
    rw[if_neg (fun h=>e h.symm),ih.wt q (i1 e)];omega
theorem ZdR{ps M:List (Int×Int)}(h:Z1 ps M):Zb8 ps=M:=(ZdS ps).unique h
def Zbb(vs ws:List Int):List Zk:=ZB 0 (Zb8 (Zg vs ws))
theorem ZaK(a b:List Zk):Zb (Zn a b)=Zb a+Zb b:=by
 by_cases h:0<a.length∨0<b.length
 exact Za2 a b _ 0 0 (Qg _) (Qg _) (by omega) (by omega);have ha:a.length=0:=(by omega);have hb:b.length=0:=(by omega);have hj:(Zn a b).length=0:=(by have:=Zbj a b;omega);simp[Zb,ha,hb,hj]
theorem Zbn{L:List Zk}(size:Int):Zb (ZV L size)=Zb L:=by unfold ZV;split;rfl;rw[Zd3];unfold Zb;rw[if_neg (by omega)]
theorem ZeC{L:List Zk}(s:Nat):∀k,(Z8 L s k).length<=k+1
 |0=>by simp[Z8]
 |k+1=>by have:=ZeC (L:=L) s k;simp only[Z8];split;omega;simp;omega
theorem ZaY(L:List Zk){size:Int}(h:2<=size):((ZV L size).length:Int)<=size:=by unfold ZV;split;omega;have:=ZeC (L:=L) (max size 2).toNat ((max size 2).toNat-2);simp;omega
def Zw(size:Int):List (List Zk)->List Zk->List (List Zk)
 |[],l=>[l]
 |o::r,l=>if o.length=0 then l::r else[]::Zw size r (ZV (Zn o l) size)
def ZM:List (List Zk)->Int
  |[]=>0
  |l::r=>Zb l+ZM r
structure Qv(Ls:List (List Zk)):Prop where
 good:∀l∈Ls,Zo l
 len:∀l∈Ls,l.length<=32
theorem Qu:∀{Ls:List (List Zk)},(∀l∈Ls,Zo l)->0<=ZM Ls
  |[],_=>by simp[ZM]
  |l::r,h=>by have:=(YM (h l (by simp))).1;have:=Qu (Ls:=r) (fun l hl=>h l (by simp[hl]));simp only[ZM];omega
theorem Qv.nil:Qv []:=⟨by simp,by simp⟩
theorem Zcw{size:Int}(hs:2<=size)(hs2:size<=32):∀{Ls:List (List Zk)} {l:List Zk},Qv Ls->Zo l->l.length<=32->ZM Ls+Zb l<=1000000000000->Qv (Zw size Ls l)/\ZM (Zw size Ls l)=ZM Ls+Zb l
 |[],l,h,g,hl,ht=>by refine⟨⟨?_,?_⟩,?_⟩;simp[Zw,g];simp[Zw,hl];simp[Zw,ZM]
 | o ::r,l,h,g,hl,ht=>by
  have go:=h.good o (by simp);have hr:Qv r:=⟨fun x hx=>h.good x (by simp[hx]),fun x hx=>h.len x (by simp[hx])⟩;have p1:=Qu hr.good;have p2:=(YM go).1;have p3:=(YM g).1;simp only[ZM] at ht;simp only[Zw];split
  ·rename_i h0;refine⟨⟨fun x hx=>?_,fun x hx=>?_⟩,?_⟩
   ·rcases List.mem_cons.1 hx with rfl|hx
    exact g;exact hr.good x hx
   ·rcases List.mem_cons.1 hx with rfl|hx
    exact hl;exact hr.len x hx
   have:Zb o=0:=(by unfold Zb;rw[if_pos h0]);simp only[ZM];omega
  have gj:=QY go g (by omega);have gc:Zo (ZV (Zn o l) size):=gj.sub (QV gj size);have tc:Zb (ZV (Zn o l) size)=Zb o+Zb l:=(by rw[Zbn,ZaK]);have lc:=ZaY (Zn o l) hs;obtain⟨i1,i2⟩:=Zcw hs hs2 hr gc (by omega) (by omega);refine⟨⟨fun x hx=>?_,fun x hx=>?_⟩,?_⟩
  ·rcases List.mem_cons.1 hx with rfl|hx
   exact Zo.nil;exact i1.good x hx
  ·rcases List.mem_cons.1 hx with rfl|hx
   simp;exact i1.len x hx
  have:Zb ([]:List Zk)=0:=rfl;simp only[ZM];omega
theorem ZdV(size:Int):∀(Ls:List (List Zk)) (l:List Zk),(Zw size Ls l).length<=Ls.length+1
 |[],l=>by simp[Zw]
 |o::r,l=>by have:=ZdV size r (ZV (Zn o l) size);simp only[Zw];split;simp;simp;omega
def YC(size:Nat):Nat->List (List Zk)->List Int->List Int->List (List Zk)
 |0,Ls,_,_=>Ls
 |f+1,Ls,vs,ws=>if vs.length=0 then Ls else YC size f (Zw size Ls (Zbb (vs.take size) (ws.take size))) (vs.drop size) (ws.drop size)
def YJ(size:Int):List Zk->List (List Zk)->List Zk
 |all,[]=>all
 |all,l::r=>YJ size (ZV (Zn all l) size) r
def Yd(size:Nat)(vs ws:List Int):List Zk:=YJ size [] (YC size vs.length [] vs ws)
end Go.Proofs.YtfcgnpchbcmdeaaGreat
namespace Go.Proofs.YtfcgnpchbcmdeaaGreat
set_option maxRecDepth 100000
set_option maxHeartbeats 4000000
open Go.RowKit
theorem ZbC{vz wz:List Int}{k:Nat}(h1:k<vz.length)(h2:k<wz.length):(vz.zip wz).take (k+1)=(vz.zip wz).take k++[(vz.getD k 0,wz.getD k 0)]:=by rw[Qi (by rw[List.length_zip];omega)];congr 2;rw[List.getElem_zip];rw[Qc,Qc,Qd h1,Qd h2];rfl
theorem Pos.take{ps:List (Int×Int)}(h:Pos ps)(k:Nat):Pos (ps.take k):=fun q hq=>h q (List.mem_of_mem_take hq)
theorem ZcH{ps:List (Int×Int)}(h:Pos ps):0<=Zs ps:=by have:=ZbZ h 0;omega
theorem Zay{ps:List (Int×Int)}(h:Pos ps)(k:Nat):Zs (ps.take k)<=Zs ps:=by have e:Zs ps=Zs (ps.take k)+Zs (ps.drop k):=(by rw[<- Yw,List.take_append_drop]);have:0<=Zs (ps.drop k):=ZcH fun q hq=>h q (List.mem_of_mem_drop hq);omega
def noLess(ps:List (Int×Int))(x:Int):Bool:=ps.all fun p=>!decide (p.1<x)
def noMore(ps:List (Int×Int))(x:Int):Bool:=ps.all fun p=>decide (p.1<=x)
theorem Zf2(ps:List (Int×Int))(a b x:Int):noLess (ps++[(a,b)]) x=(noLess ps x&&!decide (a<x)):=by simp[noLess]
theorem Zf3(ps:List (Int×Int))(a b x:Int):noMore (ps++[(a,b)]) x=(noMore ps x&&decide (a<=x)):=by simp[noMore]
theorem Zo.first{L:List Zk}(g:Zo L){e:Zk}(h:e∈L):(L.getD 0 e0).v<=e.v:=by
 obtain⟨k,hk,rfl⟩:=QD h
 by_cases h0:k=0
 rw[h0];exact Int.le_refl _;have:=(g.lt (i:=0) (j:=k) (by omega) hk).1;omega
theorem Zo.last{L:List Zk}(g:Zo L){e:Zk}(h:e∈L):e.v<=(L.getD (L.length-1) e0).v:=by
 obtain⟨k,hk,rfl⟩:=QD h
 by_cases h0:k=L.length-1
 rw[<- h0];exact Int.le_refl _;have:=(g.lt (i:=k) (j:=L.length-1) (by omega) (by omega)).1;omega
theorem ZE.noLess{ps:List (Int×Int)}{L:List Zk}(h:ZE ps L)(g:Zo L):noLess ps (L.getD 0 e0).v=true:=by unfold Proofs.YtfcgnpchbcmdeaaGreat.noLess;rw[List.all_eq_true];intro q hq;obtain⟨e,he,hle⟩:=h.least q hq;have:=g.first he;rw[Bool.not_eq_true',decide_eq_false_iff_not];omega
theorem ZE.noMore{ps:List (Int×Int)}{L:List Zk}(h:ZE ps L)(g:Zo L):noMore ps (L.getD (L.length-1) e0).v=true:=by unfold Proofs.YtfcgnpchbcmdeaaGreat.noMore;rw[List.all_eq_true];intro q hq;obtain⟨e,he,hle⟩:=h.most q hq;have:=g.last he;rw[decide_eq_true_eq];omega
theorem Qr{z:Int}(h1: -9000000000000000000<=z)(h2:z<=9000000000000000000):IntKind.i64.wrap z=z:=by simp[IntKind.wrap,IntKind.bits,IntKind.signed];omega
theorem ZcP(la va wa:Option Addr)(L:List Zk)(lc n vc wc:Nat)(vz wz:List Int)(tot:Int)(w:World)(hL:ZQ w la L)(hv:Zx w va n vz)(hw:Zx w wa n wz)(g:Zo L)(hp:Pos (vz.zip wz))(ht:ZE (vz.zip wz) L)(hne:L≠[])(htot:tot=Zs (vz.zip wz))(hsum:tot<=1000000000000)(hn:n<=1000000):Calls Tryz.prog 22 #[.slice la L.length lc,.slice va n vc,.slice wa n wc,.int .i64 tot] w fun e w'=>e=.returned (.bool true)/\Below w.heap.size w w':=by
 obtain⟨ps,hps⟩:∃ps,ps=vz.zip wz:=⟨_,rfl⟩;rw[<- hps] at hp ht htot;have HPS:Hid (ps=vz.zip wz):=hps;have HPL:Hid (ps.length=n):=(by show _=_;rw[hps,List.length_zip,hv.1,hw.1];omega);have hl0:0<L.length:=List.length_pos_iff.2 hne;have HL:Hid (ZQ w la L):=hL;have HV:Hid (Zx w va n vz):=hv;have HW:Hid (Zx w wa n wz):=hw;have HP:Hid (Pos ps):=hp;have HS:Hid (ZE ps L):=ht;have HT:Hid (tot=Zs ps):=htot;have HG:Hid (Zo L):=g;have hlm:L.length<=4194304:=hL.1;have q0:((L.length:Int)==0)=false:=(by rw[beq_eq_false_iff_ne];omega);clear hL hv hw hp ht htot g hps hne;go_enter Tryz.func22,Tryz.ntmps22;go_wp2_with fail
 go_loopw [9] (fun ti wr=>∃i:Nat,i<=L.length/\ti=.int .i64 i/\Hid (Below w.heap.size w wr)) (fun ti _=>L.length-(intOf ti).toNat)
 case atStart=>exact⟨0,Qg _,rfl,Below.refl _ _⟩
 case round=>
  obtain⟨i,hi,rfl,HB⟩:=hrel
  by_cases hil:i<L.length
  ·have bi1:(0:Int)<=(i:Int):=(by omega);have bi2:(i:Int)<(L.length:Int):=by omega
   obtain⟨lb,lo,rfl,HE⟩:∃lb lo,la=some ⟨lb,lo,none⟩/\Hid (YD w lb lo L):=(by rcases HL.out with⟨_,h0|⟨b1,o1,e,hA⟩⟩;omega;exact⟨b1,o1,e,hA⟩);obtain⟨x,hx⟩:∃x,x=L.getD i e0:=⟨_,rfl⟩;have HX:Hid (x=L.getD i e0):=hx;have c0:wr.cell? ⟨lb,lo+i*4,none⟩=some (.int .i64 x.v):=(by rw[hx];exact(HE.out.below HB.out).v i hil);clear hx;go_wp2_with fail
   generalize wr=wo at *;clear c0;go_loopw [10,11,12,13,14] (fun tb tow tl tg tk wr=>∃k:Nat,k<=n/\tk=.int .i64 k/\tb=.int .i64 (Yq (ps.take k) x.v)/\tow=.int .i64 (YN (ps.take k) x.v)/\tl=.bool (noLess (ps.take k) x.v)/\tg=.bool (noMore (ps.take k) x.v)/\Hid (Below w.heap.size w wr)) (fun _ _ _ _ tk _=>n-(intOf tk).toNat)
   case atStart=>exact⟨0,Qg _,rfl,rfl,rfl,rfl,rfl,HB.out⟩
   case round=>
    clear HB;obtain⟨k,hk,rfl,rfl,rfl,rfl,rfl,HB⟩:=hrel;have hxi:x=L.getD i e0:=HX.out;have e0c:wr.cell? ⟨lb,lo+i*4,none⟩=some (.int .i64 x.v):=(by rw[hxi];exact(HE.out.below HB.out).v i hil);have e1c:wr.cell? ⟨lb,lo+i*4+1,none⟩=some (.int .i64 x.lo):=(by rw[hxi];exact(HE.out.below HB.out).lo i hil);have e2c:wr.cell? ⟨lb,lo+i*4+2,none⟩=some (.int .i64 x.hi):=(by rw[hxi];exact(HE.out.below HB.out).hi i hil);have e3c:wr.cell? ⟨lb,lo+i*4+3,none⟩=some (.int .i64 x.wt):=by rw[hxi];exact(HE.out.below HB.out).wt i hil
    by_cases hkn:k<n
    ·have bk1:(0:Int)<=(k:Int):=(by omega);have bk2:(k:Int)<(n:Int):=by omega
     obtain⟨vb,vo,rfl,hvb,hvc⟩:∃b off,va=some ⟨b,off,none⟩/\b<w.heap.size/\∀i,i<n->w.cell? ⟨b,off+i,none⟩=some (.int .i64 (vz.getD i 0)):=by
      rcases HV.out.2.2 with e|e
      omega;exact e
     obtain⟨wb,wo2,rfl,hwb,hwc⟩:∃b off,wa=some ⟨b,off,none⟩/\b<w.heap.size/\∀i,i<n->w.cell? ⟨b,off+i,none⟩=some (.int .i64 (wz.getD i 0)):=by
      rcases HW.out.2.2 with e|e
      omega;exact e
     have v0:wr.cell? ⟨vb,vo+k,none⟩=some (.int .i64 (vz.getD k 0)):=(HB.out.cell (p:=⟨vb,vo+k,none⟩) hvb).trans (hvc k hkn);have w0:wr.cell? ⟨wb,wo2+k,none⟩=some (.int .i64 (wz.getD k 0)):=(HB.out.cell (p:=⟨wb,wo2+k,none⟩) hwb).trans (hwc k hkn);have hsn:ps.take (k+1)=ps.take k++[(vz.getD k 0,wz.getD k 0)]:=(by rw[HPS.out];exact ZbC (by rw[HV.out.1];exact hkn) (by rw[HW.out.1];exact hkn));have hlo:=ZbZ (HP.out.take k) x.v;have hsm:=Zay HP.out k;have hlo2:=ZbZ (HP.out.take (k+1)) x.v;have hsm2:=Zay HP.out (k+1);rw[<- HT.out] at hsm hsm2
     have HN:Hid (Yq (ps.take (k+1)) x.v=Yq (ps.take k) x.v+(if vz.getD k 0<x.v then wz.getD k 0 else 0)/\YN (ps.take (k+1)) x.v=YN (ps.take k) x.v+(if vz.getD k 0=x.v then wz.getD k 0 else 0)/\noLess (ps.take (k+1)) x.v=(noLess (ps.take k) x.v&&!decide (vz.getD k 0<x.v))/\noMore (ps.take (k+1)) x.v=(noMore (ps.take k) x.v&&decide (vz.getD k 0<=x.v))):=(by refine⟨?_,?_,?_,?_⟩;rw[hsn,QC];simp only[Yq];omega;rw[hsn,Zcb];simp only[YN];omega;rw[hsn,Zf2];rw[hsn,Zf3]);have hwk:1<=wz.getD k 0:=by have:=HP.out.take (k+1) (vz.getD k 0,wz.getD k 0) (by rw[hsn];simp);exact this
     obtain⟨n1,n2,n3,n4⟩:=HN.out;clear hvc hwc hsn hlm e1c e2c e3c;generalize Yq (ps.take k) x.v=B at *;generalize YN (ps.take k) x.v=O at *;generalize noLess (ps.take k) x.v=l at *;generalize noMore (ps.take k) x.v=g at *;generalize vz.getD k 0=vk at *;generalize wz.getD k 0=wk at *;generalize hxv:x.v=xv at *;have HXV:Hid (x.v=xv):=hxv;clear hxv
     rcases Int.lt_trichotomy vk xv with hc|hc|hc
     ·have q1:¬vk=xv:=(by omega);have q2:vk<=xv:=(by omega);rw[if_pos hc] at n1;rw[if_neg q1] at n2;have q3:IntKind.i64.wrap (B+wk)=B+wk:=Qr (by omega) (by omega);have q4:(vk==xv)=false:=(by rw[beq_eq_false_iff_ne];exact q1);simp only[hc,q2,decide_true,Bool.not_true,Bool.and_false,Bool.and_true] at n3 n4
      have HQ:Hid (Yq (ps.take (k+1)) xv=B+wk/\YN (ps.take (k+1)) xv=O/\noLess (ps.take (k+1)) xv=false/\noMore (ps.take (k+1)) xv=g):=by
       refine⟨?_,?_,?_,?_⟩
       ·rw[n1];try omega
       ·rw[n2];try omega
       ·rw[n3];try simp
       rw[n4];try simp
      clear n1 n2 n3 n4 HN hlo2 hsm2
      cases g
      ·go_wp2_with fail
       go_big_quiet (fail);go_wp2_with fail
       go_big_quiet (fail);go_wp2_with fail
       go_big_quiet (fail);go_wp2;go_roundw;case rel=>exact⟨k+1,by omega,by go_num,by rw[HQ.out.1],by rw[HQ.out.2.1],by rw[HQ.out.2.2.1],by rw[HQ.out.2.2.2];try simp[q2],by repeat(first|exact HB.out|refine below_drewN ?_ _)⟩
       case measure=>simp[intOf];omega
      go_wp2_with fail
      go_big_quiet (fail);go_wp2_with fail
      go_big_quiet (fail);go_wp2_with fail
      go_big_quiet (fail);go_wp2;go_roundw;case rel=>exact⟨k+1,by omega,by go_num,by rw[HQ.out.1],by rw[HQ.out.2.1],by rw[HQ.out.2.2.1],by rw[HQ.out.2.2.2];try simp[q2],by repeat(first|exact HB.out|refine below_drewN ?_ _)⟩
      case measure=>simp[intOf];omega
     ·subst hc;have q1:¬vk<vk:=(by omega);have q2:vk<=vk:=(by omega);rw[if_neg q1] at n1;rw[if_pos rfl] at n2;have q3:IntKind.i64.wrap (O+wk)=O+wk:=Qr (by omega) (by omega);simp only[q1,q2,decide_true,decide_false,Bool.not_false,Bool.and_true] at n3 n4
      have HQ:Hid (Yq (ps.take (k+1)) vk=B/\YN (ps.take (k+1)) vk=O+wk/\noLess (ps.take (k+1)) vk=l/\noMore (ps.take (k+1)) vk=g):=by
       refine⟨?_,?_,?_,?_⟩
       ·rw[n1];try omega
       ·rw[n2];try omega
       ·rw[n3];try simp
       rw[n4];try simp
      clear n1 n2 n3 n4 HN hlo2 hsm2
      cases g
      ·go_wp2_with fail
       go_big_quiet (fail);go_wp2_with fail
       go_big_quiet (fail);go_wp2_with fail
       go_big_quiet (fail);go_wp2;go_roundw;case rel=>exact⟨k+1,by omega,by go_num,by rw[HQ.out.1],by rw[HQ.out.2.1],by rw[HQ.out.2.2.1],by rw[HQ.out.2.2.2];try simp[q2],by repeat(first|exact HB.out|refine below_drewN ?_ _)⟩
       case measure=>simp[intOf];omega
      go_wp2_with fail
      go_big_quiet (fail);go_wp2_with fail
      go_big_quiet (fail);go_wp2_with fail
      go_big_quiet (fail);go_wp2;go_roundw;case rel=>exact⟨k+1,by omega,by go_num,by rw[HQ.out.1],by rw[HQ.out.2.1],by rw[HQ.out.2.2.1],by rw[HQ.out.2.2.2];try simp[q2],by repeat(first|exact HB.out|refine below_drewN ?_ _)⟩
      case measure=>simp[intOf];omega
     have q1:¬vk<xv:=(by omega);have q2:¬vk<=xv:=(by omega);have q5:¬vk=xv:=(by omega);rw[if_neg q1] at n1;rw[if_neg q5] at n2;have q4:(vk==xv)=false:=(by rw[beq_eq_false_iff_ne];exact q5);simp only[q1,q2,decide_false,Bool.not_false,Bool.and_true,Bool.and_false] at n3 n4
     have HQ:Hid (Yq (ps.take (k+1)) xv=B/\YN (ps.take (k+1)) xv=O/\noLess (ps.take (k+1)) xv=l/\noMore (ps.take (k+1)) xv=false):=by
      refine⟨?_,?_,?_,?_⟩
      ·rw[n1];try omega
      ·rw[n2];try omega
      ·rw[n3];try simp
      rw[n4];try simp
     clear n1 n2 n3 n4 HN hlo2 hsm2
     cases g
     ·go_wp2_with fail
      go_big_quiet (fail);go_wp2_with fail
      go_big_quiet (fail);go_wp2_with fail
      go_big_quiet (fail);go_wp2;go_roundw;case rel=>exact⟨k+1,by omega,by go_num,by rw[HQ.out.1],by rw[HQ.out.2.1],by rw[HQ.out.2.2.1],by rw[HQ.out.2.2.2];try simp[q2],by repeat(first|exact HB.out|refine below_drewN ?_ _)⟩
      case measure=>simp[intOf];omega
     go_wp2_with fail
     go_big_quiet (fail);go_wp2_with fail
     go_big_quiet (fail);go_wp2_with fail
     go_big_quiet (fail);go_wp2;go_roundw;case rel=>exact⟨k+1,by omega,by go_num,by rw[HQ.out.1],by rw[HQ.out.2.1],by rw[HQ.out.2.2.1],by rw[HQ.out.2.2.2];try simp[q2],by repeat(first|exact HB.out|refine below_drewN ?_ _)⟩
     case measure=>simp[intOf];omega
    have hkk:k=n:=(by omega);subst hkk;have bk2:¬(k:Int)<(k:Int):=(by omega);have hta:ps.take k=ps:=List.take_of_length_le (by rw[HPL.out];exact Qa _);rw[hta];have hxm:x∈L:=(by rw[hxi];exact YF hil);have g1:=HS.out.each x hxm;have g2:=HG.out.at hil;rw[<- hxi] at g2;have g3:=Q3 HG.out hil;rw[<- hxi,HS.out.total,<- HT.out] at g3;have g4:=ZbZ HP.out x.v;rw[<- HT.out] at g4;have f1:¬Yq ps x.v<x.lo:=(by omega);have f2:¬x.hi<Yq ps x.v+YN ps x.v:=(by omega);have f3:¬YN ps x.v<x.wt:=(by omega);have f4:¬x.wt<1:=(by omega);have f5:¬x.lo<0:=(by omega);have f6:¬tot<x.hi:=(by omega);have f7:IntKind.i64.wrap (Yq ps x.v+YN ps x.v)=Yq ps x.v+YN ps x.v:=Qr (by omega) (by omega)
    have HLE:Hid (i=0->noLess ps x.v=true):=fun h0=>by have:=HS.out.noLess HG.out;rw[hxi,h0];exact this
    have HGR:Hid (i=L.length-1->noMore ps x.v=true):=fun h0=>by have:=HS.out.noMore HG.out;rw[hxi,h0];exact this
    have HPV:Hid (∀j,i=j+1->wr.cell? ⟨lb,lo+j*4,none⟩=some (.int .i64 (L.getD j e0).v)/\¬x.v<=(L.getD j e0).v):=fun j hj=>by refine⟨(HE.out.below HB.out).v j (by omega),?_⟩;have:=(HG.out.lt (i:=j) (j:=i) (by omega) hil).1;rw[hxi];omega
    clear g1 g2 g3 g4 hta hxm;have hxc:Hid (x=L.getD i e0):=hxi;clear hxi;generalize Yq ps x.v=B at *;generalize YN ps x.v=O at *;generalize noLess ps x.v=l at *;generalize noMore ps x.v=g at *;generalize x.v=xv at *;generalize x.lo=xl at *;generalize x.hi=xh at *;generalize x.wt=xw at *;have hrel':Hid (Below w.heap.size w wr):=HB;go_upto_region 21 with fail;have q1:IntKind.i64.wrap ((L.length:Int)-1)=(L.length:Int)-1:=Qr (by omega) (by omega)
    rcases Nat.eq_zero_or_pos i with h0|h0
    ·subst h0;have hl:=HLE.out rfl;subst hl;have q10:(((0:Nat):Int)==0)=true:=rfl;have q11:(0==((0:Nat):Int))=true:=rfl
     by_cases hlast:0=L.length-1
     ·have hg:=HGR.out hlast;subst hg;have q2:(0:Int)=(L.length:Int)-1:=(by omega);have q3:((0:Int)==(L.length:Int)-1)=true:=(by rw[beq_iff_eq];omega);have q4:(((0:Nat):Int)==(L.length:Int)-1)=true:=(by rw[beq_iff_eq];omega);clear q2;have hlast':Hid (0=L.length-1):=hlast;clear hlast;go_big_quiet (fail);go_wp2;go_roundw;case rel=>exact⟨0+1,by omega,by go_num,by repeat(first|exact hrel'.out|refine below_drewN ?_ _)⟩
      case measure=>simp[intOf];omega
     have q2:¬(0:Int)=(L.length:Int)-1:=(by omega);have q3:((0:Int)==(L.length:Int)-1)=false:=(by rw[beq_eq_false_iff_ne];omega);have q4:(((0:Nat):Int)==(L.length:Int)-1)=false:=(by rw[beq_eq_false_iff_ne];omega);go_big_quiet (fail);go_wp2;go_roundw;case rel=>exact⟨0+1,by omega,by go_num,by repeat(first|exact hrel'.out|refine below_drewN ?_ _)⟩
     case measure=>simp[intOf];omega
    obtain⟨j,hj⟩:∃j,i=j+1:=⟨i-1,by omega⟩;obtain⟨p1,p2⟩:=HPV.out j hj;have q5:(0:Int)<(i:Int):=(by omega);have q6:IntKind.i64.wrap ((i:Int)-1)=(j:Int):=(by rw[Qr (by omega) (by omega)];omega);have q7:(0:Int)<=(j:Int):=(by omega);have q8:(j:Int)<(L.length:Int):=(by omega);have q9:((i:Int)==0)=false:=(by rw[beq_eq_false_iff_ne];omega);have hj':Hid (i=j+1):=hj;clear hj;generalize (L.getD j e0).v=pv at *
    by_cases hlast:i=L.length-1
    ·have hg:=HGR.out hlast;subst hg;have q3:((i:Int)==(L.length:Int)-1)=true:=(by rw[beq_iff_eq];omega);have hlast':Hid (i=L.length-1):=hlast;clear hlast;go_big_quiet (fail);go_wp2;go_roundw;case rel=>exact⟨i+1,by omega,by go_num,by repeat(first|exact hrel'.out|refine below_drewN ?_ _)⟩
     case measure=>simp[intOf];omega
    have q2:¬(i:Int)=(L.length:Int)-1:=(by omega);have q3:((i:Int)==(L.length:Int)-1)=false:=(by rw[beq_eq_false_iff_ne];omega);go_big_quiet (fail);go_wp2;go_roundw;case rel=>exact⟨i+1,by omega,by go_num,by repeat(first|exact hrel'.out|refine below_drewN ?_ _)⟩
    case measure=>simp[intOf];omega
  have hiL:i=L.length:=(by omega);subst hiL;obtain⟨lb,lo,rfl,HE⟩:∃lb lo,la=some ⟨lb,lo,none⟩/\Hid (YD w lb lo L):=(by rcases HL.out with⟨_,h0|⟨b1,o1,e,hA⟩⟩;omega;exact⟨b1,o1,e,hA⟩);obtain⟨p,hp⟩:∃p,p=L.length-1:=⟨_,rfl⟩;have c2:wr.cell? ⟨lb,lo+p*4+2,none⟩=some (.int .i64 (L.getD p e0).hi):=(HE.out.below HB.out).hi p (by omega);have ht:(L.getD p e0).hi=tot:=(by rw[HT.out,<- HS.out.total,hp];unfold Zb;rw[if_neg (by omega)]);rw[ht] at c2;have q6:IntKind.i64.wrap ((L.length:Int)-1)=(p:Int):=(by rw[Qr (by omega) (by omega)];omega);have q7:(0:Int)<=(p:Int):=(by omega);have q8:(p:Int)<(L.length:Int):=(by omega);have q9:¬(L.length:Int)<(L.length:Int):=(by omega);clear ht hp;go_wp2;go_ret;exact⟨rfl,HB.out⟩
end Go.Proofs.YtfcgnpchbcmdeaaGreat
