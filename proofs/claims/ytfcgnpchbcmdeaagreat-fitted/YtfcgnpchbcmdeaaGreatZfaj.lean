import Derived.Test.YtfcgnpchbcmdeaaGreatZfai
import Derived.Deep.RegionWith
import Derived.Deep.DeepCutAuto
import Derived.BigRegion
import Derived.Test.YtfcgnpchbcmdeaaGreatZfag
import Derived.Test.YtfcgnpchbcmdeaaGreatZfah
import Derived.Test.YtfcgnpchbcmdeaaGreatZfac
namespace Go.Proofs.YtfcgnpchbcmdeaaGreat
set_option linter.unusedSimpArgs false
set_option maxRecDepth 100000
set_option maxHeartbeats 2000000
open Go.RowKit
def YL(e:Zm):List Value:=[.int .i64 e.v,.int .i64 e.lo,.int .i64 e.hi,.int .i64 e.wt]
def ZO:List Zm->List Value
 |[]=>[]
 |e::L=>YL e++ZO L
theorem Yg(a b:List Zm):ZO (a++b)=ZO a++ZO b:=by
 induction a with
 |nil=>rfl
 |cons e L ih=>simp[ZO,ih]
theorem YM(L:List Zm):(ZO L).length=L.length*4:=by
 induction L with
 |nil=>rfl
 |cons e L ih=>simp[ZO,YL,ih];omega
theorem ZmY(x:Zm):ZO [x]=[.int .i64 x.v,.int .i64 x.lo,.int .i64 x.hi,.int .i64 x.wt]:=rfl
theorem Zhw:(Tryz.prog.info? 98).map (fun i=>(i.zero,i.size,i.bytes))=some (some (.agg #[.int .i64 0,.int .i64 0,.int .i64 0,.int .i64 0]),4,32):=by kernel_rfl
def Zh(w:World)(base:Nat)(v:Value)(L:List Zm):Prop:=w.ownsRow base 98 4 v L.length (ZO L)
theorem Zh.nil(w:World)(base:Nat):Zh w base (.slice none 0 0) []:=World.ownsRow_nil w base 98 4
theorem Zh.alloc{w:World}{base:Nat}{v:Value}{L:List Zm}(h:Zh w base v L)(o:Obj):Zh (w.alloc o) base v L:=World.ownsRow.alloc h o
theorem Zh.below{w w':World}{base:Nat}{v:Value}{L:List Zm}(h:Zh w base v L)(hb:Below w.heap.size w w'):Zh w' base v L:=by
 refine⟨h.1,?_⟩
 rcases h.2 with hn|⟨g,cap,cur,e,hg,hh,r⟩
 exact .inl hn;exact .inr ⟨g,cap,cur,e,hg,(hb.block g (Qb hh).1).trans hh,r⟩
theorem Zct(a b:List Zm):∀n i j,(YD a b n i j).length<=n
 |0,_,_=>by simp[YD]
 |n+1,i,j=>by have h1:=Zct a b n (i+1) j;have h2:=Zct a b n i (j+1);have h3:=Zct a b n (i+1) (j+1);simp only[YD];split;simp;omega;split;simp;omega;split;simp;omega;simp
theorem Zcv(a b:List Zm):(Zr a b).length<=a.length+b.length:=Zct a b _ 0 0
structure Za8(a b:List Zm)(i j:Nat):Prop where
 hi:i<=a.length
 hj:j<=b.length
 va:i<a.length->0<j->(b.getD (j-1) e0).v<(a.getD i e0).v
 vb:j<b.length->0<i->(a.getD (i-1) e0).v<(b.getD j e0).v
theorem Za8.a{a b:List Zm}(ga:Zy a){i j:Nat}(s:Za8 a b i j)(hi:i<a.length)(h:j<b.length->(a.getD i e0).v<(b.getD j e0).v):Za8 a b (i+1) j:=
 ⟨by omega,s.hj,fun h1 h0=>by have:=s.va hi h0;have:=(ga.lt (show i<i+1 by omega) h1).1;omega,fun h1 _=>by simpa using h h1⟩
theorem Za8.b{a b:List Zm}(gb:Zy b){i j:Nat}(s:Za8 a b i j)(hj:j<b.length)(h:i<a.length->(b.getD j e0).v<(a.getD i e0).v):Za8 a b i (j+1):=
 ⟨s.hi,by omega,fun h1 _=>by simpa using h h1,fun h1 h0=>by have:=s.vb hj h0;have:=(gb.lt (show j<j+1 by omega) h1).1;omega⟩
theorem Za8.ab{a b:List Zm}(ga:Zy a)(gb:Zy b){i j:Nat}(_s:Za8 a b i j)(hi:i<a.length)(hj:j<b.length)(h:(a.getD i e0).v=(b.getD j e0).v):Za8 a b (i+1) (j+1):=
 ⟨by omega,by omega,fun h1 _=>by have:=(ga.lt (show i<i+1 by omega) h1).1;simp only[Nat.add_sub_cancel];omega,fun h1 _=>by have:=(gb.lt (show j<j+1 by omega) h1).1;simp only[Nat.add_sub_cancel];omega⟩
structure QY(a b:List Zm)(i j:Nat)(out:List Zm):Prop where
 st:Za8 a b i j
 eq:out++Za3 a b i j=Zr a b
theorem QY.len{a b:List Zm}{i j:Nat}{out:List Zm}(h:QY a b i j out):out.length<=a.length+b.length:=by have h1:=congrArg List.length h.eq;have h2:=Zcv a b;simp at h1;omega
theorem QY.a{a b:List Zm}(ga:Zy a){i j:Nat}{out:List Zm}(r:QY a b i j out)(hi:i<a.length)(h:j<b.length->(a.getD i e0).v<(b.getD j e0).v):QY a b (i+1) j (out++[seen b j (a.getD i e0)]):=
 ⟨r.st.a ga hi h,by rw[List.append_assoc,<- r.eq,Zop hi h];rfl⟩
theorem QY.b{a b:List Zm}(gb:Zy b){i j:Nat}{out:List Zm}(r:QY a b i j out)(hj:j<b.length)(h:i<a.length->(b.getD j e0).v<(a.getD i e0).v):QY a b i (j+1) (out++[seen a i (b.getD j e0)]):=
 ⟨r.st.b gb hj h,by rw[List.append_assoc,<- r.eq,Zoq hj h];rfl⟩
theorem QY.ab{a b:List Zm}(ga:Zy a)(gb:Zy b){i j:Nat}{out:List Zm}(r:QY a b i j out)(hi:i<a.length)(hj:j<b.length)(h:(a.getD i e0).v=(b.getD j e0).v):QY a b (i+1) (j+1) (out++[Zan (a.getD i e0) (b.getD j e0)]):=
 ⟨r.st.ab ga gb hi hj h,by rw[List.append_assoc,<- r.eq,Zno hi hj h];rfl⟩
theorem Zu(w:World)(c:Array Value)(t:TypeId):∀j u,c.toList[j]? =some u->(w.alloc (.cells c t)).cell? ((⟨w.heap.size,0,none⟩:Addr).add j)=some u:=by
 intro j u hu;have hadd:(⟨w.heap.size,0,none⟩:Addr).add j=⟨w.heap.size,j,none⟩:=(by unfold Addr.add;split<;>simp_all);rw[hadd];rw[cell_of_row (w.alloc (.cells c t)) w.heap.size j c t (0,0) (heap_alloc_new w _)]
 simpa using hu
theorem Zh.more{w:World}{base:Nat}{v:Value}{L:List Zm}{x:Zm}(h:w.ownsRow base 98 4 v (L.length+1) (ZO L++[.int .i64 x.v,.int .i64 x.lo,.int .i64 x.hi,.int .i64 x.wt])):Zh w base v (L++[x]):=by unfold Zh;rw[Yg,ZmY,Qe];exact h
theorem ZkZ:(Tryz.prog.info? 3).map (fun i=>(i.zero,i.size,i.bytes))=some (some (.int .i64 0),1,8):=by kernel_rfl
def Ze(w:World)(base:Nat)(v:Value)(zs:List Int):Prop:=w.ownsRow base 3 1 v zs.length (zs.map (Value.int .i64))
theorem Ze.nil(w:World)(base:Nat):Ze w base (.slice none 0 0) []:=World.ownsRow_nil w base 3 1
theorem Ze.below{w w':World}{base:Nat}{v:Value}{zs:List Int}(h:Ze w base v zs)(hb:Below w.heap.size w w'):Ze w' base v zs:=by
 refine⟨h.1,?_⟩
 rcases h.2 with hn|⟨g,cap,cur,e,hg,hh,r⟩
 exact .inl hn;exact .inr ⟨g,cap,cur,e,hg,(hb.block g (Qb hh).1).trans hh,r⟩
theorem Ze.kept{w w':World}{base:Nat}{v:Value}{zs:List Int}{row:Option Nat}(h:Ze w base v zs)(hg:w.grownBy w' row)(hne:v.ownBlock=none∨v.ownBlock≠row):Ze w' base v zs:=World.ownsRow.kept h hg hne
theorem Ze.more{w:World}{base:Nat}{v:Value}{zs:List Int}{x:Int}(h:w.ownsRow base 3 1 v (zs.length+1) (zs.map (Value.int .i64)++[.int .i64 x])):Ze w base v (zs++[x]):=by unfold Ze;rw[List.map_append,Qe];exact h
def Zao(v u:Value):Prop:=v.ownBlock=none∨u.ownBlock=none∨v.ownBlock≠u.ownBlock
theorem Zao.symm{v u:Value}(h:Zao v u):Zao u v:=by
 rcases h with h|h|h
 exact .inr (.inl h);exact .inl h;exact .inr (.inr (Ne.symm h))
theorem Zao.keeps{v u:Value}(h:Zao v u):u.ownBlock=none∨u.ownBlock≠v.ownBlock:=by
 rcases h with h|h|h
 ·cases hu:u.ownBlock with
  |none=>exact .inl rfl
  |some k=>exact .inr (by rw[h];simp)
 exact .inl h;exact .inr (Ne.symm h)
theorem Zao.moved{w:World}{base:Nat}{v v' u:Value}{zs:List Int}(h:Zao v u)(hu:Ze w base u zs)(hv:v'.ownBlock=v.ownBlock∨v'.ownBlock=some w.heap.size):Zao v' u:=by
 rcases hv with hv|hv
 unfold Zao;rw[hv];exact h
 cases hk:u.ownBlock with
 |none=>exact .inr (.inl hk)
 | some k=>
  have:=(World.ownsRow.lt hu k hk).2;refine .inr (.inr ?_);rw[hv,hk];simp;omega
structure Za(S:Nat->Prop)(w w':World):Prop where
 os:w'.os=w.os
 tape:w'.tape=w.tape
 output:w'.output=w.output
 size:w.heap.size<=w'.heap.size
 block:∀k,k<w.heap.size->¬S k->w'.heap[k]? =w.heap[k]?
theorem Za.refl(S:Nat->Prop)(w:World):Za S w w:=⟨rfl,rfl,rfl,Qa _,fun _ _ _=>rfl⟩
theorem Za.trans{S:Nat->Prop}{a b c:World}(h:Za S a b)(k:Za S b c):Za S a c:=
 ⟨k.os.trans h.os,k.tape.trans h.tape,k.output.trans h.output,Nat.le_trans h.size k.size,fun i hi hs=>(k.block i (Qh hi h.size) hs).trans (h.block i hi hs)⟩
theorem Za.mono{S S':Nat->Prop}{a b:World}(h:Za S a b)(hs:∀k,k<a.heap.size->S k->S' k):Za S' a b:=
 ⟨h.os,h.tape,h.output,h.size,fun k hk hn=>h.block k hk (fun e=>hn (hs k hk e))⟩
theorem Za.of_below{S:Nat->Prop}{a b:World}(h:Below a.heap.size a b):Za S a b:=⟨h.os,h.tape,h.output,h.size,fun k hk _=>h.block k hk⟩
theorem Za.below{S:Nat->Prop}{a b c:World}(h:Za S a b)(k:Below b.heap.size b c):Za S a c:=h.trans (.of_below k)
theorem Za.alloc{S:Nat->Prop}{a b:World}(h:Za S a b)(o:Obj):Za S a (b.alloc o):=h.below ((Below.refl _ _).alloc (Qa _) _)
theorem Za.drew{S:Nat->Prop}{a b:World}(h:Za S a b):Za S a b.drew:=h.below (Below.refl _ _).drew
theorem Za.setCell{S:Nat->Prop}{a b:World}(h:Za S a b){p:Addr}(hp:p.block<a.heap.size->S p.block)(u:Value):Za S a (b.setCell p u):=
 ⟨h.os,h.tape,h.output,by have:=h.size;simpa [World.setCell] using this,fun k hk hn=>(Below.heap_setCell b p u k (fun e=>hn (e ▸ hp (e ▸ hk)))).trans (h.block k hk hn)⟩
theorem Za.grown{S:Nat->Prop}{a b c:World}{row:Option Nat}(h:Za S a b)(hg:b.grownBy c row)(hr:∀k,row=some k->k<a.heap.size->S k):Za S a c:=
 ⟨hg.os.trans h.os,hg.tape.trans h.tape,hg.output.trans h.output,Nat.le_trans h.size hg.size,fun k hk hn=>(hg.block k (Qh hk h.size) (fun e=>hn (hr k e.symm hk))).trans (h.block k hk hn)⟩
theorem Za.row{S:Nat->Prop}{a b:World}(h:Za S a b){base:Nat}{e:TypeId}{size:Nat}{v:Value}{n:Nat}{xs:List Value}(hr:a.ownsRow base e size v n xs)(hs:∀k,v.ownBlock=some k->¬S k):b.ownsRow base e size v n xs:=by
 refine⟨hr.1,?_⟩
 rcases hr.2 with hn|⟨g,cap,cur,rfl,hb,hgg,rest⟩
 exact .inl hn;exact .inr ⟨g,cap,cur,rfl,hb,(h.block g (Qb hgg).1 (hs g rfl)).trans hgg,rest⟩
theorem Za.at_{S:Nat->Prop}{a b:World}(h:Za S a b){g:Nat}{o:Obj}(hg:a.heap[g]? =some o)(hs:¬S g):b.heap[g]? =some o:=(h.block g (Qb hg).1 hs).trans hg
theorem ZbO{P:Program}(w:World)(base:Nat)(t ty e:TypeId)(i:TypeInfo)(z:Value)(size bytes:Nat)(ht:P.underlying t=some (.slice e))(hi:P.info? e=some i)(hz:i.zero=some z)(hsize:i.size=size)(hby:i.bytes=bytes)(hzs:z.cells.size=size)(hsz:0<size)(v:Value)(n:Nat)(xs:List Value)(hown:w.ownsRow base e size v n xs)(a:Addr)(m c:Nat)(news:List Value)(hl:news.length=m*size)(hnews:∀j u,news[j]? =some u->w.cell? (a.add j)=some u)(h1:∀u∈news,u.oneCell'=true)(hm:0<m)(h63:n+m<=maxLen)(hbytes:(n+m)*bytes<=140737488355328)(hbase:base<=w.heap.size):∃v' w',(Builtin.append_ #[t,t] ty #[v,.slice (some a) m c]).run P w=.ok v' w'/\w'.ownsRow base e size v' (n+m) (xs++news)/\w.grownBy w' v.ownBlock/\(v'.ownBlock=v.ownBlock∨v'.ownBlock=some w.heap.size/\Below w.heap.size w w')/\w'.ownsRow base e size v n xs/\∃g cap,v'=.slice (some ⟨g,0,none⟩) (n+m) cap:=by
 obtain⟨v',w',hr,h2,h3,h4,h5,h6⟩:=Zey (P:=P) w base t ty e i z size bytes ht hi hz hsize hby hzs hsz v n xs hown a m c news hl hnews h1 hm h63 hbytes hbase;refine⟨v',w',hr,h2,h3,?_,h5,h6⟩
 subst hsize hby
 rcases hown.2 with⟨rfl,rfl⟩|⟨g,cap,cur,rfl,hbg,hg,hnc,hcm,hcs,htake⟩
 have hr2:=run_append_nil (P:=P) w t ty e i z ht hi hz a m c news hl hnews hm (by simp only[maxLen] at h63;omega) (by simp only[Nat.zero_add] at hbytes;omega);rw[hr] at hr2;simp only[Result.ok.injEq] at hr2;right;refine⟨by rw[hr2.1];rfl,?_⟩;rw[hr2.2];exact((Below.refl _ _).drew).alloc (by simp) _
 by_cases hroom:n+m<=cap
 have hfit:n*i.size+news.length<=cur.size:=(by rw[hl,hcs,<- Nat.add_mul];exact Nat.mul_le_mul_right _ hroom);have hr2:=run_append_room (P:=P) w t ty e i ht hi g n cap cur hg a m c news hl hnews h1 hroom hfit;rw[hr] at hr2;simp only[Result.ok.injEq] at hr2;left;rw[hr2.1];rfl;have holds:∀j u,xs[j]? =some u->w.cell? ((⟨g,0,none⟩:Addr).add j)=some u:=hown.cells (g:=g) rfl;have hr2:=run_append_grow (P:=P) w t ty e i z ht hi hz ⟨g,0,none⟩ n cap xs hown.1 holds a m c news hl hnews (by omega) (by simp only[maxLen] at h63;omega) (growslice_fits (by omega) hbytes);rw[hr] at hr2;simp only[Result.ok.injEq] at hr2;right;refine⟨by rw[hr2.1];rfl,?_⟩;rw[hr2.2];exact((Below.refl _ _).drew).alloc (by simp) _
theorem Zd{P:Program}{w:World}{ops:Array Oper}{rest:List Oper}{o:Oper}{a:Act}{Q:Exit->Act->World->Prop}(hgd:o.guard=none)(s x:Operand)(t:TypeId)(ho:o.op=.call {callee:=.builtin .append,args:=#[s,x],argTypes:=#[t,t]})(base:Nat)(e:TypeId)(i:TypeInfo)(z:Value)(size bytes:Nat)(ht:P.underlying t=some (.slice e))(hi:P.info? e=some i)(hz:i.zero=some z)(hsize:i.size=size)(hby:i.bytes=bytes)(hzs:z.cells.size=size)(hsz:0<size)(v:Value)(n:Nat)(xs:List Value)(hs:a.eval s=v)(hown:w.ownsRow base e size v n xs)(ad:Addr)(m c:Nat)(news:List Value)(hx:a.eval x=.slice (some ad) m c)(hl:news.length=m*size)(hnews:∀j u,news[j]? =some u->w.cell? (ad.add j)=some u)(h1:∀u∈news,u.oneCell'=true)(hm:0<m)(h63:n+m<=maxLen)(hbytes:(n+m)*bytes<=140737488355328)(hbase:base<=w.heap.size)(h:∀v' w',Hid (w'.ownsRow base e size v' (n+m) (xs++news)/\w.grownBy w' v.ownBlock/\(v'.ownBlock=v.ownBlock∨v'.ownBlock=some w.heap.size/\Below w.heap.size w w')/\w'.ownsRow base e size v n xs/\∃g cap,v'=.slice (some ⟨g,0,none⟩) (n+m) cap)->wpList P ops Q rest (a.put o.dst v') w'):wpList P ops Q (o::rest) a w:=by
 refine wpList_plain hgd fun K hK=>?_;obtain⟨v',w',hr,h2⟩:=ZbO (P:=P) w base t o.type e i z size bytes ht hi hz hsize hby hzs hsz v n xs hown ad m c news hl hnews h1 hm h63 hbytes hbase;unfold Oper.wp;simp only[execOp,ho,resolve,invoke,builtin,Sem.run_bind,Sem.run_pure,Result.andThen_ok,List.map_toArray,List.map_cons,List.map_nil,hs,hx,hr];exact hK _ _ (h v' w' h2)
theorem Za4{w:World}{b1 b2 e1 e2 s1 s2 n1 n2:Nat}{v u:Value}{xs ys:List Value}(h:w.ownsRow b1 e1 s1 v n1 xs)(g:w.ownsRow b2 e2 s2 u n2 ys)(hne:e1≠e2):u.ownBlock=none∨u.ownBlock≠v.ownBlock:=by
 rcases g.2 with⟨rfl,_⟩|⟨g1,cap1,cur1,rfl,_,hg1,_⟩
 exact .inl rfl
 rcases h.2 with⟨rfl,_⟩|⟨g2,cap2,cur2,rfl,_,hg2,_⟩
 exact .inr (by simp[Value.ownBlock]);refine .inr fun e=>?_;simp[Value.ownBlock] at e;rw[e,hg2] at hg1;simp at hg1;exact hne hg1.2
theorem Zf{w:World}{base e size n:Nat}{v:Value}{xs:List Value}(h:w.ownsRow base e size v n xs){k:Nat}(hk:v.ownBlock=some k):∃cur,w.heap[k]? =some (.cells cur e (0,0)):=by
 rcases h.2 with⟨rfl,_⟩|⟨g2,cap2,cur2,rfl,_,hg2,_⟩
 ·cases hk
 simp[Value.ownBlock] at hk;subst hk;exact⟨_,hg2⟩
theorem Ze.alloc{w:World}{base:Nat}{v:Value}{zs:List Int}(h:Ze w base v zs)(o:Obj):Ze (w.alloc o) base v zs:=World.ownsRow.alloc h o
theorem Z5{w:World}{ops:Array Oper}{rest:List Oper}{o:Oper}{a:Act}{Q:Exit->Act->World->Prop}(hgd:o.guard=none)(s x:Operand)(ho:o.op=.call {callee:=.builtin .append,args:=#[s,x],argTypes:=#[25,25]})(base:Nat)(v:Value)(zs:List Int)(z:Int)(hs:a.eval s=v)(hown:Ze w base v zs)(g c:Nat)(hx:a.eval x=.slice (some ⟨g,0,none⟩) 1 c)(hg:w.cell? ⟨g,0,none⟩=some (.int .i64 z))(hl:zs.length<=1000000000)(hbase:base<=w.heap.size)(h:∀v' w',Hid (Ze w' base v' (zs++[z])/\w.grownBy w' v.ownBlock/\(v'.ownBlock=v.ownBlock∨v'.ownBlock=some w.heap.size/\Below w.heap.size w w'))->wpList Tryz.prog ops Q rest (a.put o.dst v') w'):wpList Tryz.prog ops Q (o::rest) a w:=by
 obtain⟨i0,hinf,hz0,hz1,hz2⟩:=info_parts ZkZ;refine Zd hgd s x 25 ho base 3 i0 (.int .i64 0) 1 8 Tryz.underlying25 hinf hz0 hz1 hz2 rfl (by decide) v zs.length (zs.map (Value.int .i64)) hs hown ⟨g,0,none⟩ 1 c [.int .i64 z] hx rfl ?_ ?_ (by decide) (by unfold maxLen;omega) (by omega) hbase ?_
 ·intro j u hj
  cases j with
  |zero=>simp at hj;subst hj;simpa [Addr.add] using hg
  |succ j=>simp at hj
 intro u hu;simp at hu;subst hu;rfl;intro v' w' H;obtain⟨h1,h2,h3,_,_⟩:=H.out;exact h v' w' ⟨Ze.more h1,h2,h3⟩
def Q5(bins tot hi:Int):Int:=bins*hi/tot
def YR(tot bins:Int):Int->List Zm->List Int
 |_,[]=>[]
 |share,e::r=>if share<=Q5 bins tot e.hi then e.v::YR tot bins (Q5 bins tot e.hi+1) r else YR tot bins share r
def ZT(L:List Zm)(bins:Int):List Int:=
 if L.length=0 then[] else if(L.length:Int)<=bins then(L.take (L.length-1)).map (fun e=>e.v) else YR (Zc L) bins 1 (L.take (L.length-1))
theorem Zlz{L:List Zm}{k m:Nat}(hk:k<m)(hm:m<=L.length):(L.take m).drop k=L.getD k e0::(L.take m).drop (k+1):=by have h:k<(L.take m).length:=(by simp;omega);rw[List.drop_eq_getElem_cons h];simp[List.getD,show k<L.length by omega]
theorem ZgZ{bins tot hi:Int}(h0:0<=bins)(h1:bins<=16)(h2:0<=hi)(h3:hi<=tot)(h4:1<=tot):0<=Q5 bins tot hi/\Q5 bins tot hi<=16:=by
 unfold Q5;have a1:0<=bins*hi:=Int.mul_nonneg h0 h2;have a2:bins*hi<=16*tot:=Int.mul_le_mul h1 h3 h2 (by omega);constructor;exact Int.ediv_nonneg a1 (by omega);have:=Int.ediv_le_ediv (show 0<tot by omega) a2
 rwa [Int.mul_ediv_cancel _ (by omega)] at this
theorem ZdE(hi tot bins:Int)(w:World)(h0:0<=bins)(h1:bins<=16)(h2:0<=hi)(h3:hi<=tot)(h4:1<=tot)(h5:tot<=1000000000000):Calls Tryz.prog 317 #[.int .i64 hi,.int .i64 tot,.int .i64 bins] w fun e w'=>e=.returned (.int .i64 (Q5 bins tot hi))/\w'=w:=by
 have a1:0<=bins*hi:=Int.mul_nonneg h0 h2;have a2:bins*hi<=16*1000000000000:=Int.mul_le_mul h1 (by omega) h2 (by omega);have a3:=ZgZ h0 h1 h2 h3 h4;have hne:tot≠0:=(by omega);have hnb:(tot==0)=false:=beq_eq_false_iff_ne.2 hne
 have HT:Hid (Q5 bins tot hi=(bins*hi).tdiv tot):=show _=_ by unfold Q5;rw[Int.tdiv_eq_ediv_of_nonneg a1]
 unfold Hid at HT;rw[HT] at a3 ⊢;obtain⟨b1,b2⟩:=a3;clear HT;go_enter Tryz.func317,Tryz.ntmps317;go_wp2;go_ret;exact⟨rfl,rfl⟩
theorem Zjw(b off:Nat)(L:List Zm)(cap:Nat)(bins:Int)(w:World)(h:QC w b off L)(hcap:L.length<=cap)(h0:L.length≠0)(hl:L.length<=4194304)(hfew:(L.length:Int)<=bins):Calls Tryz.prog 273 #[.slice (some ⟨b,off,none⟩) L.length cap,.int .i64 bins] w fun e w'=>∃v,e=.returned v/\Ze w' w.heap.size v (ZT L bins)/\Below w.heap.size w w':=by
 obtain⟨i0,hinf,hz0,hz1,hz2⟩:=info_parts ZkZ
 have HB:Hid (ZT L bins=(L.take (L.length-1)).map (fun e=>e.v)):=show _=_ by unfold ZT;rw[if_neg h0,if_pos hfew]
 have hbl:=h.lt (by omega);have HE:Hid (QC w b off L):=h;obtain⟨m,hm⟩:∃m,L.length=m+1:=⟨L.length-1,by omega⟩;have HL:Hid (L.length=m+1):=hm;rw[hm] at hcap hl hfew ⊢;have hne:(((m:Int)+1)==0)=false:=beq_eq_false_iff_ne.2 (by omega);have hfew2:(m:Int)+1<=bins:=(by omega);clear h h0 hm hfew;go_enter Tryz.func273,Tryz.ntmps273;go_wp2_with fail
 go_loopw [28,6] (fun ti o wr=>∃k:Nat,ti=.int .i64 k/\k<=m/\Hid (Ze wr w.heap.size o ((L.take k).map (fun e=>e.v)))/\Below w.heap.size w wr) (fun ti _ _=>m-(intOf ti).toNat)
 case atStart=>exact⟨0,rfl,Qg _,Ze.nil _ _,Below.refl _ _⟩
 case round=>
  obtain⟨k,rfl,hk,HO,hbel⟩:=hrel
  by_cases hkm:k<m
  ·have hA:=HE.out;have hkl:k<L.length:=by rw[HL.out];omega
   obtain⟨a0,a1,a2,a3⟩:wr.cell? ⟨b,off+k*4,none⟩=some (.int .i64 (L.getD k e0).v)/\wr.cell? ⟨b,off+k*4+1,none⟩=some (.int .i64 (L.getD k e0).lo)/\wr.cell? ⟨b,off+k*4+2,none⟩=some (.int .i64 (L.getD k e0).hi)/\wr.cell? ⟨b,off+k*4+3,none⟩=some (.int .i64 (L.getD k e0).wt):=
    ⟨(hbel.cell (p:=⟨b,_,none⟩) hbl).trans (hA.v k hkl),(hbel.cell (p:=⟨b,_,none⟩) hbl).trans (hA.lo k hkl),(hbel.cell (p:=⟨b,_,none⟩) hbl).trans (hA.hi k hkl),(hbel.cell (p:=⟨b,_,none⟩) hbl).trans (hA.wt k hkl)⟩
   have HX:Hid ((L.take (k+1)).map (fun e=>e.v)=(L.take k).map (fun e=>e.v)++[(L.getD k e0).v]):=show _=_ by rw[ZbH L hkl];simp
   have HLEN:Hid (((L.take k).map (fun e=>e.v)).length=k):=show _=_ by simp;omega
   generalize (L.take k).map (fun e=>e.v)=out at *;generalize L.getD k e0=x at *;have bi1:(0:Int)<=(k:Int):=(by omega);have bi2:(k:Int)<(m:Int):=(by omega);have hsz:=hbel.size;clear hA hkl;have hlo:out.length<=1000000000:=(by rw[HLEN.out];omega);go_wp2_with (at_builtin;refine Z5 rfl (.tmp 32) (.tmp 35) rfl w.heap.size _ out x.v rfl ((HO.out.alloc _).alloc _) (wr.heap.size+1) 1 rfl ?_ hlo ?_ ?_)
   ·simp[go_sem]
   simp;omega;intro v3 w3 H3;have hb4:Below w.heap.size w w3:=by obtain⟨q1,q2,q3⟩:=H3.out;exact hbel.trans ((((Below.refl _ _).alloc hsz _).alloc (by simp;omega) _).grown q2 (by simp;omega) (fun k hk=>(HO.out.lt k hk).1))
   have HF:Hid (Ze w3 w.heap.size v3 (out++[x.v])):=H3.out.1;clear H3;go_wp2;go_roundw;case rel=>exact⟨k+1,by go_num,by omega,by rw[HX.out];exact HF,hb4⟩
   case measure=>simp[intOf];omega
  have hkm2:¬(k:Int)<(m:Int):=by omega
  have HF:Hid (Ze wr w.heap.size u6 (ZT L bins)):=show Ze _ _ _ _ by rw[HB.out,HL.out];have:k=m:=(by omega);subst this;exact HO.out
  clear HO;go_wp2;go_ret;exact⟨_,rfl,HF.out,hbel⟩
theorem Zib(b off:Nat)(L:List Zm)(cap:Nat)(bins:Int)(w:World)(h:QC w b off L)(g:Zy L)(hcap:L.length<=cap)(hl:L.length<=4194304)(hb1:2<=bins)(hb2:bins<=16)(hmany:bins<(L.length:Int)):Calls Tryz.prog 273 #[.slice (some ⟨b,off,none⟩) L.length cap,.int .i64 bins] w fun e w'=>∃v,e=.returned v/\Ze w' w.heap.size v (ZT L bins)/\Below w.heap.size w w':=by
 have h0:L.length≠0:=(by omega);have hbl:=h.lt (by omega);have HE:Hid (QC w b off L):=h;have HG:Hid (Zy L):=g;obtain⟨m,hm⟩:∃m,L.length=m+1:=⟨L.length-1,by omega⟩;have HL:Hid (L.length=m+1):=hm
 have HB:Hid (ZT L bins=YR (Zc L) bins 1 (L.take m)):=show _=_ by unfold ZT;rw[if_neg h0,if_neg (by omega),hm];rfl
 have ht:Zc L=(L.getD m e0).hi:=(by unfold Zc;rw[if_neg h0,hm];rfl);have c0:=h.hi m (by omega);rw[<- ht] at c0;have t1:1<=Zc L:=(by have:=g.at (show m<L.length by omega);rw[ht];omega);have t2:Zc L<=1000000000000:=(Yv g).2;have HTOT:Hid (∀k,k<L.length->(L.getD k e0).hi<=Zc L):=fun k hk=>Zbr g hk;rw[hm] at hcap hl hmany ⊢;have hne:(((m:Int)+1)==0)=false:=beq_eq_false_iff_ne.2 (by omega);have hmany2:¬(m:Int)+1<=bins:=(by omega);have b1:(0:Int)<=(m:Int)+1-1:=(by omega);have b2:(m:Int)+1-1<(m:Int)+1:=(by omega);clear h g h0 hm hmany ht;generalize Zc L=tot at *;go_enter Tryz.func273,Tryz.ntmps273;go_wp2_with fail
 go_loopw [48,6,10] (fun ti o ts wr=>∃(k:Nat) (share:Int) (out:List Int),ti=.int .i64 k/\ts=.int .i64 share/\1<=share/\share<=17/\k<=m/\out.length<=k/\Hid (Ze wr w.heap.size o out)/\Hid (out++YR tot bins share ((L.take m).drop k)=ZT L bins)/\Below w.heap.size w wr) (fun ti _ _ _=>m-(intOf ti).toNat)
 case atStart=>exact⟨0,1,[],rfl,rfl,by decide,by decide,Qg _,Qa _,Ze.nil _ _,by show _=_;rw[HB.out];rfl,Below.refl _ _⟩
 case round=>
  clear c0;obtain⟨k,share,out,rfl,rfl,hs1,hs2,hk,hol,HO,HR,hbel⟩:=hrel
  by_cases hkm:k<m
  ·have hA:=HE.out;have hkl:k<L.length:=by rw[HL.out];omega
   obtain⟨a0,a1,a2,a3⟩:wr.cell? ⟨b,off+k*4,none⟩=some (.int .i64 (L.getD k e0).v)/\wr.cell? ⟨b,off+k*4+1,none⟩=some (.int .i64 (L.getD k e0).lo)/\wr.cell? ⟨b,off+k*4+2,none⟩=some (.int .i64 (L.getD k e0).hi)/\wr.cell? ⟨b,off+k*4+3,none⟩=some (.int .i64 (L.getD k e0).wt):=
    ⟨(hbel.cell (p:=⟨b,_,none⟩) hbl).trans (hA.v k hkl),(hbel.cell (p:=⟨b,_,none⟩) hbl).trans (hA.lo k hkl),(hbel.cell (p:=⟨b,_,none⟩) hbl).trans (hA.hi k hkl),(hbel.cell (p:=⟨b,_,none⟩) hbl).trans (hA.wt k hkl)⟩
   have hx1:0<=(L.getD k e0).hi:=(by have:=HG.out.at hkl;omega);have hx2:=HTOT.out k hkl;have hd:(L.take m).drop k=L.getD k e0::(L.take m).drop (k+1):=Zlz hkm (by rw[HL.out];omega);have hr:=HR.out;rw[hd] at hr;clear hd HR;generalize L.getD k e0=x at *;have hsh:=ZgZ (show 0<=bins by omega) hb2 hx1 hx2 t1;obtain⟨s1,s2⟩:=hsh;have bi1:(0:Int)<=(k:Int):=(by omega);have bi2:(k:Int)<(m:Int):=(by omega);have hsz:=hbel.size;have hlo:out.length<=1000000000:=(by omega);simp only[YR] at hr;have HSC:Hid (∀W:World,Calls Tryz.prog 317 #[.int .i64 x.hi,.int .i64 tot,.int .i64 bins] W fun e w'=>e=.returned (.int .i64 (Q5 bins tot x.hi))/\w'=W):=fun W=>ZdE x.hi tot bins W (by omega) hb2 hx1 hx2 t1 t2;generalize Q5 bins tot x.hi=r at *;clear hA hkl hx1 hx2
   by_cases hc:share<=r
   ·rw[if_pos hc] at hr;have HR:Hid (out++x.v::YR tot bins (r+1) ((L.take m).drop (k+1))=ZT L bins):=hr;clear hr;go_wp2_with fail
    refine(HSC.out _).mono ?_;rintro e w1 ⟨rfl,rfl⟩;go_wp2_with (at_builtin;refine Z5 rfl (.tmp 60) (.tmp 63) rfl w.heap.size _ out x.v rfl ((HO.out.alloc _).alloc _) (wr.heap.size+1) 1 rfl ?_ hlo ?_ ?_)
    ·simp[go_sem]
    simp;omega;intro v3 w3 H3;have hb4:Below w.heap.size w w3:=by obtain⟨q1,q2,q3⟩:=H3.out;exact hbel.trans ((((Below.refl _ _).alloc hsz _).alloc (by simp;omega) _).grown q2 (by simp;omega) (fun k hk=>(HO.out.lt k hk).1))
    have HF:Hid (Ze w3 w.heap.size v3 (out++[x.v])):=H3.out.1;clear H3;go_wp2;go_roundw;case rel=>exact⟨k+1,r+1,out++[x.v],by go_num,by go_num,by omega,by omega,by omega,by simp;omega,HF,by show _=_;rw[List.append_assoc];exact HR.out,hb4⟩
    case measure=>simp[intOf];omega
   rw[if_neg hc] at hr;have HR:Hid (out++YR tot bins share ((L.take m).drop (k+1))=ZT L bins):=hr;clear hr;go_wp2_with fail
   refine(HSC.out _).mono ?_;rintro e w1 ⟨rfl,rfl⟩;have HF:=HO.out.alloc (.cells #[.int .i64 x.v,.int .i64 x.lo,.int .i64 x.hi,.int .i64 x.wt] 98);have HFF:Hid (Ze (wr.alloc (.cells #[.int .i64 x.v,.int .i64 x.lo,.int .i64 x.hi,.int .i64 x.wt] 98)) w.heap.size u6 out):=HF;clear HF;go_wp2;go_roundw;case rel=>exact⟨k+1,share,out,by go_num,rfl,by omega,by omega,by omega,by omega,HFF,HR,hbel.trans ((Below.refl _ _).alloc hsz _)⟩
   case measure=>simp[intOf];omega
  have hkm2:¬(k:Int)<(m:Int):=by omega
  have HF:Hid (Ze wr w.heap.size u6 (ZT L bins)):=show Ze _ _ _ _ by have:=HR.out;rw[List.drop_eq_nil_of_le (by simp;omega)] at this;simp only[YR,List.append_nil] at this;rw[<- this];exact HO.out
  clear HO HR;go_wp2;go_ret;exact⟨_,rfl,HF.out,hbel⟩
theorem Zjv(a:Option Addr)(L:List Zm)(cap:Nat)(bins:Int)(w:World)(h:Yp w a L)(g:Zy L)(hcap:L.length<=cap)(hb1:2<=bins)(hb2:bins<=16):Calls Tryz.prog 273 #[.slice a L.length cap,.int .i64 bins] w fun e w'=>∃v,e=.returned v/\Ze w' w.heap.size v (ZT L bins)/\Below w.heap.size w w':=by
 obtain⟨hl,h0|⟨b,off,rfl,hA⟩⟩:=h
 ·have hB:ZT L bins=[]:=(by unfold ZT;rw[if_pos h0]);rw[hB,h0];go_enter Tryz.func273,Tryz.ntmps273;go_wp2;go_ret;exact⟨_,rfl,Ze.nil _ _,Below.refl _ _⟩
 by_cases h0:L.length=0
 ·have hB:ZT L bins=[]:=(by unfold ZT;rw[if_pos h0]);rw[hB,h0];go_enter Tryz.func273,Tryz.ntmps273;go_wp2;go_ret;exact⟨_,rfl,Ze.nil _ _,Below.refl _ _⟩
 by_cases hf:(L.length:Int)<=bins
 exact Zjw b off L cap bins w hA hcap h0 hl hf;exact Zib b off L cap bins w hA g hcap hl hb1 hb2 (by omega)
end Go.Proofs.YtfcgnpchbcmdeaaGreat
namespace Go.Proofs.YtfcgnpchbcmdeaaGreat
set_option linter.unusedSimpArgs false
set_option maxRecDepth 100000
set_option maxHeartbeats 2000000
def Zfg(p:Int×Int):List (Int×Int)->List (Int×Int)
 |[]=>[p]
 |q::r=>if p.1<q.1 then p::q::r else if p.1=q.1 then(q.1,q.2+p.2)::r else q::Zfg p r
def Zch:List (Int×Int)->List (Int×Int)
  |[]=>[]
  |p::r=>Zfg p (Zch r)
theorem ZdU(p:Int×Int):∀(M:List (Int×Int)) (x:Int),(∃q∈Zfg p M,q.1=x)↔(p.1=x∨∃q∈M,q.1=x)
 |[],x=>by simp[Zfg]
 |q::r,x=>by simp only[Zfg];split;simp;split;rename_i h;simp[h];have ih:=ZdU p r x;simp only[List.mem_cons,exists_eq_or_imp];rw[ih];constructor;rintro(h|h|h);exact .inr (.inl h);exact .inl h;exact .inr (.inr h);rintro(h|h|h);exact .inr (.inl h);exact .inl h;exact .inr (.inr h)
theorem ZgF(p:Int×Int):∀(M:List (Int×Int)),M.Pairwise (fun p q=>p.1<q.1)->(Zfg p M).Pairwise fun p q=>p.1<q.1
 |[],_=>by simp[Zfg]
 | q ::r,h=>by
  rw[List.pairwise_cons] at h;simp only[Zfg];split
  ·rename_i hc;rw[List.pairwise_cons,List.pairwise_cons];refine⟨fun x hx=>?_,h⟩
   rcases List.mem_cons.1 hx with rfl|hx
   exact hc;have:=h.1 x hx;omega
  split;rw[List.pairwise_cons];exact h;rename_i h1 h2;rw[List.pairwise_cons];refine⟨fun x hx=>?_,ZgF p r h.2⟩
  rcases(ZdU p r x.1).1 ⟨x,hx,rfl⟩ with e|⟨y,hy,e⟩
  omega;have:=h.1 y hy;omega
theorem Zk1(p:Int×Int):∀(M:List (Int×Int)),M.Pairwise (fun p q=>p.1<q.1)->∀q∈Zfg p M,(q.1≠p.1->q∈M)/\(q.1=p.1->(∃z,(q.1,z)∈M/\q.2=z+p.2)∨(q.2=p.2/\∀y∈M,y.1≠q.1))
 |[],_,q,hq=>by simp[Zfg] at hq;subst hq;exact⟨fun h=>absurd rfl h,fun _=>.inr ⟨rfl,by simp⟩⟩
 | x ::r,h,q,hq=>by
  rw[List.pairwise_cons] at h;simp only[Zfg] at hq;split at hq
  ·rename_i hc
   rcases List.mem_cons.1 hq with rfl|hq
   ·refine⟨fun h=>absurd rfl h,fun _=>.inr ⟨rfl,fun y hy=>?_⟩⟩
    rcases List.mem_cons.1 hy with rfl|hy
    omega;have:=h.1 y hy;omega
   refine⟨fun _=>hq,fun e=>?_⟩
   rcases List.mem_cons.1 hq with rfl|hy
   omega;have:=h.1 q hy;omega
  split at hq
  ·rename_i h1 h2
   rcases List.mem_cons.1 hq with rfl|hq
   refine⟨fun e=>absurd h2.symm e,fun _=>.inl ⟨x.2,by simp,rfl⟩⟩;refine⟨fun _=>by simp[hq],fun e=>?_⟩;have:=h.1 q hq;omega
  rename_i h1 h2
  rcases List.mem_cons.1 hq with rfl|hq
  exact⟨fun _=>by simp,fun e=>absurd e.symm h2⟩;obtain⟨i1,i2⟩:=Zk1 p r h.2 q hq;refine⟨fun e=>by simp[i1 e],fun e=>?_⟩
  rcases i2 e with⟨z,hz,e2⟩|⟨e2,hn⟩
  exact .inl ⟨z,by simp[hz],e2⟩;refine .inr ⟨e2,fun y hy=>?_⟩
  rcases List.mem_cons.1 hy with rfl|hy
  omega;exact hn y hy
theorem Zci:∀ps:List (Int×Int),Ys ps (Zch ps)
  |[]=>Ys.nil
  | p ::r=>by
    have ih:=Zci r;have hv:=ZdU p (Zch r);refine⟨ZgF p _ ih.rise,fun q hq=>?_,fun q hq=>?_,fun q hq=>?_⟩
    · rcases(hv q.1).1 ⟨q,hq,rfl⟩ with e|⟨y,hy,e⟩
      exact⟨p,by simp,e⟩;obtain⟨z,hz,e2⟩:=ih.sub y hy;exact⟨z,by simp[hz],by omega⟩
    · rcases List.mem_cons.1 hq with rfl|hq
      obtain⟨x,hx,e⟩:=(hv q.1).2 (.inl rfl);exact⟨x,hx,e⟩;obtain⟨y,hy,e⟩:=ih.all q hq;obtain⟨x,hx,e2⟩:=(hv q.1).2 (.inr ⟨y,hy,e⟩);exact⟨x,hx,e2⟩
    obtain⟨i1,i2⟩:=Zk1 p (Zch r) ih.rise q hq;simp only[wOf]
    by_cases e:q.1=p.1
    · rw[if_pos e.symm]
      rcases i2 e with⟨z,hz,e2⟩|⟨e2,hn⟩
      have:=ih.wt _ hz;simp only at this;omega
      have:wOf r q.1=0:=Zjd (fun y hy he=>by
        obtain⟨x,hx,e3⟩:=ih.all y hy
        exact hn x hx (by omega))
      omega
    rw[if_neg (fun h=>e h.symm),ih.wt q (i1 e)];omega
theorem ZfL{ps M:List (Int×Int)}(h:Ys ps M):Zch ps=M:=(Zci ps).unique h
def ZbG(vs ws:List Int):List Zm:=ZN 0 (Zch (Zg vs ws))
theorem Y9(a b:List Zm):Zc (Zr a b)=Zc a+Zc b:=by
 by_cases h:0<a.length∨0<b.length
 exact Zee a b _ 0 0 (Qg _) (Qg _) (by omega) (by omega);have ha:a.length=0:=(by omega);have hb:b.length=0:=(by omega);have hj:(Zr a b).length=0:=(by have:=Zcv a b;omega);simp[Zc,ha,hb,hj]
theorem Zaz{L:List Zm}(size:Int):Zc (Yz L size)=Zc L:=by unfold Yz;split;rfl;rw[Zks];unfold Zc;rw[if_neg (by omega)]
theorem ZgI{L:List Zm}(s:Nat):∀k,(YF L s k).length<=k+1
 |0=>by simp[YF]
 |k+1=>by have:=ZgI (L:=L) s k;simp only[YF];split;omega;simp;omega
theorem Zbj(L:List Zm){size:Int}(h:2<=size):((Yz L size).length:Int)<=size:=by unfold Yz;split;omega;have:=ZgI (L:=L) (max size 2).toNat ((max size 2).toNat-2);simp;omega
def Zt(size:Int):List (List Zm)->List Zm->List (List Zm)
 |[],l=>[l]
 |o::r,l=>if o.length=0 then l::r else[]::Zt size r (Yz (Zr o l) size)
def Zw:List (List Zm)->Int
  |[]=>0
  |l::r=>Zc l+Zw r
structure Yt(Ls:List (List Zm)):Prop where
 good:∀l∈Ls,Zy l
 len:∀l∈Ls,l.length<=32
theorem Yn:∀{Ls:List (List Zm)},(∀l∈Ls,Zy l)->0<=Zw Ls
  |[],_=>by simp[Zw]
  |l::r,h=>by have:=(Yv (h l (by simp))).1;have:=Yn (Ls:=r) (fun l hl=>h l (by simp[hl]));simp only[Zw];omega
theorem Yt.nil:Yt []:=⟨by simp,by simp⟩
theorem Zbq{size:Int}(hs:2<=size)(hs2:size<=32):∀{Ls:List (List Zm)} {l:List Zm},Yt Ls->Zy l->l.length<=32->Zw Ls+Zc l<=1000000000000->Yt (Zt size Ls l)/\Zw (Zt size Ls l)=Zw Ls+Zc l
 |[],l,h,g,hl,ht=>by refine⟨⟨?_,?_⟩,?_⟩;simp[Zt,g];simp[Zt,hl];simp[Zt,Zw]
 | o ::r,l,h,g,hl,ht=>by
  have go:=h.good o (by simp);have hr:Yt r:=⟨fun x hx=>h.good x (by simp[hx]),fun x hx=>h.len x (by simp[hx])⟩;have p1:=Yn hr.good;have p2:=(Yv go).1;have p3:=(Yv g).1;simp only[Zw] at ht;simp only[Zt];split
  ·rename_i h0;refine⟨⟨fun x hx=>?_,fun x hx=>?_⟩,?_⟩
   ·rcases List.mem_cons.1 hx with rfl|hx
    exact g;exact hr.good x hx
   ·rcases List.mem_cons.1 hx with rfl|hx
    exact hl;exact hr.len x hx
   have:Zc o=0:=(by unfold Zc;rw[if_pos h0]);simp only[Zw];omega
  have gj:=Y6 go g (by omega);have gc:Zy (Yz (Zr o l) size):=gj.sub (Q9 gj size);have tc:Zc (Yz (Zr o l) size)=Zc o+Zc l:=(by rw[Zaz,Y9]);have lc:=Zbj (Zr o l) hs;obtain⟨i1,i2⟩:=Zbq hs hs2 hr gc (by omega) (by omega);refine⟨⟨fun x hx=>?_,fun x hx=>?_⟩,?_⟩
  ·rcases List.mem_cons.1 hx with rfl|hx
   exact Zy.nil;exact i1.good x hx
  ·rcases List.mem_cons.1 hx with rfl|hx
   simp;exact i1.len x hx
  have:Zc ([]:List Zm)=0:=rfl;simp only[Zw];omega
theorem ZfO(size:Int):∀(Ls:List (List Zm)) (l:List Zm),(Zt size Ls l).length<=Ls.length+1
 |[],l=>by simp[Zt]
 |o::r,l=>by have:=ZfO size r (Yz (Zr o l) size);simp only[Zt];split;simp;simp;omega
def Yj(size:Nat):Nat->List (List Zm)->List Int->List Int->List (List Zm)
 |0,Ls,_,_=>Ls
 |f+1,Ls,vs,ws=>if vs.length=0 then Ls else Yj size f (Zt size Ls (ZbG (vs.take size) (ws.take size))) (vs.drop size) (ws.drop size)
def YC(size:Int):List Zm->List (List Zm)->List Zm
 |all,[]=>all
 |all,l::r=>YC size (Yz (Zr all l) size) r
def ZW(size:Nat)(vs ws:List Int):List Zm:=YC size [] (Yj size vs.length [] vs ws)
end Go.Proofs.YtfcgnpchbcmdeaaGreat
namespace Go.Proofs.YtfcgnpchbcmdeaaGreat
set_option linter.unusedSimpArgs false
set_option maxRecDepth 100000
set_option maxHeartbeats 2000000
open Go.RowKit
end Go.Proofs.YtfcgnpchbcmdeaaGreat
