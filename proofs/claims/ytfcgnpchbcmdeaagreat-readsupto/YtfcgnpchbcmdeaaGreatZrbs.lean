import Derived.Test.YtfcgnpchbcmdeaaGreatZrbq
namespace Go.Proofs.YtfcgnpchbcmdeaaGreat
set_option linter.all false
open Go.RowKit
def Zip{m f q e b a c T s X}(d:Si m f q e b a c)(h:Me m f q T=.ok s)(r:X.Perm (Ao m s.ws.length c (esS m f e b a s) (bbS m f e b a s)).xs)(g:Fp X):On m s.ws.length c (esS m f e b a s) (bbS m f e b a s) X:=by
 have n:∀i,_->_->_/\_:=λi j hw=>⟨(d.sc i j).1,(d.sc i j).2 hw⟩;have k:2<=a:=(by have:=d.b1;have:=d.s1;omega);have l:=Zmt n h;have o:=Pw (ct:=e) n d.b1 d.b2 k d.s2 h;refine⟨d.hm,l.inv.ws,l.binok o,l.kn k d.s2 d.b1 d.b2,λK hK x g=>?_,r,g⟩;rw[show(Ao m s.ws.length c (esS m f e b a s) (bbS m f e b a s)).ks=Eb (esD m f e b a s) (bbD m f e b a s) (m+1) from Kw _ _ _ _ _] at hK;unfold Eb at hK;obtain⟨i,j,rfl⟩:=List.mem_map.1 hK;have j:=List.mem_range.1 j;unfold kF at g;rw[Up j] at g
 cases hw:f i with
 | true=>
  rw[hw] at g;simp[Ck,Mb] at g
 | false=>
  rw[hw] at g
  have g:x∈Co (s.cols i) s.ws b a:=by simpa [Ck] using g
  obtain⟨v,p,_,rfl⟩:=Yu (by rw[l.inv.col i j];exact l.inv.ws) k d.s2 (λv p=>(l.val.col i j v p).1) x g;have:=(l.val.col i j v p).1;omega
section
variable {Z:Nat->Prop} {w w1 w2 w3:World} {o:Nat->Nat} {g N L L' i:Nat} {c:Array Value} {v1 v2:Value} {rs:List RP} {ds:List Nat} {r:RP}
def ZfX{t k}(h:w.heap.size<=w1.heap.size)(a:w1.heap.size<=k):Db w w1 o t k=99:=by
 unfold Db
 grind
def Es.both{a V}(h:Es Z w o g c N L v1 v2 rs ds)(n:rs[i]? =some r){T f}(x:Oq a (Db w a o (100+2*i)) (100+2*i) r.ib r.m r.wd r.sc r.ct r.bins r.size r.budget T f)(v:Aa (λk=>o k=100+2*i) w a)(s:Below a.heap.size a V)(y:Kv w2 (Db V w2 (Db w a o (100+2*i)) (100+2*i+1)) (100+2*i+1) r.yb r.fk r.fc r.m r.wd r.sc r.ct r.bins r.size r.budget T f)(u:Aa (λk=>Db w a o (100+2*i) k=100+2*i+1) V w2)(A:L<=L')(z:T.size<=L'):Es Z w2 (Db V w2 (Db w a o (100+2*i)) (100+2*i+1)) g c N L' v1 v2 (rs.set i {r with T:=T,cl:=f}) ds/\Fa Z w w2:=by
 have d:=h.rd i r n;have j:=(Qb d.pr).1;have B:=s.size;have l:=(Aa.of_below s).trans u;have t:Aa (λk=>o k=100+2*i∨o k=100+2*i+1) w w2:=(v.mono (λk _ e=>.inl e)).trans2 l (λk e=>by grind [Dz]);have b:Dq a (Db w a o (100+2*i)) (Db V w2 _ (100+2*i+1)):=λk hk=>.inr (Dz o_);have p:=(Ep w _ o _).trans v.size b;refine h.part n t p (λk hk=>ZfX u.size hk) ⟨?_,p.at j d.po d_,d.cf,?_,y⟩ rfl A z;exact t.at_ d.pr (λe=>by have q:=d.po;grind);exact x.keep l (λk _ e=>o_) b o_
def Es.below(h:Es Z w o g c N L v1 v2 rs ds)(f:Below w.heap.size w w1):Es Z w1 o g c N L v1 v2 rs ds:=by have b:Aa (λ_=>False) w _:=.of_below f;have a:=Dq.refl w o;obtain⟨p1,i⟩:=Jn h.r1 h.o1 b (λk _ e=>e.elim) a d_;obtain⟨m,l⟩:=Jn h.r2 h.o2 b (λk _ e=>e.elim) a d_;exact⟨h.bk.keep b (λk _ e=>e.elim) a,λk hk=>h.n9 k (Nat.le_trans f.size hk),h.c1,p1,i,h.c2,m,l,λj q hq=>(h.rd j q hq).keep b (λk _ e=>e.elim) a o_,h.sz,λd hd=>(h.dt d hd).keep b (λk _ e=>e.elim) a,h.old a b.size⟩
def Es.other(h:Es Z w o g c N L v1 v2 rs ds)(hi:rs[i]? =some r){S}(t1:Aa S w w1)(hs:∀k,k<w.heap.size->S k->o k=100+2*i):Kv w1 (Db w w1 o (100+2*i)) (100+2*i+1) r.yb r.fk r.fc r.m r.wd r.sc r.ct r.bins r.size r.budget r.T r.cl:=
 (h.rd i r hi).y.keep t1 (λk hk e=>w_) (Ep _ _ _ _) o_
def Id(w w':World)(o:Nat->Nat)(v:Value)(a t:Nat)(k:Nat):Nat:=if k<w.heap.size then o k else if v.ownBlock=some k then a else if k<w'.heap.size then t else 99
def Zc7 w w' o v a t:Dq w o (Id w w' o v a t):=λk hk=>.inr (by unfold Id;rw[if_pos hk])
def Xb{w b o v a t k}(e:w.heap.size<=k)(c:k<b.heap.size)(d:v.ownBlock≠some k):Id w b o v a t k=t:=by
 unfold Id
 grind
def Es.gave(h:Es Z w o g c N L v1 v2 rs ds)(A:rs[i]? =some r){s Q Y yd dp v2'}(hw:whole r.m r.wd r.sc r.T r.cl s)(hO:Ze9 w.heap.size w1 Q Y (Ao r.m s.ws.length r.budget (esS r.m r.wd r.ct r.bins r.size s) (bbS r.m r.wd r.ct r.bins r.size s)))(hD:Sj w1 r.ib true 0 0)(t1:Aa (λk=>k=r.ib) w w1)(hM:Zan w1 w2 yd s.ws.length (Ao r.m s.ws.length r.budget (esS r.m r.wd r.ct r.bins r.size s) (bbS r.m r.wd r.ct r.bins r.size s)))(hR:mu w2 r.yb r.fk (r.m+1) r.fc r.bins r.size r.budget r.T 0 0 true)(B:Aa (λk=>k=r.yb) w1 w2)(b:Yh w2 w3 g 2 137 96 c v2 (ds.map ptD) (P_ Q) (P_ yd) dp v2'):Es Z w3 (Id w w3 o v2' 15 17) g (c.setIfInBounds 2 v2') N L v1 v2' (rs.set i {r with cl:=true}) (ds++[dp])/\Fa Z w w3:=by
 have n:=h.rd i r A;have a1:=(List.getElem?_eq_some_iff.1 A).1;have a6:=h.bk.wb.lt;have p:=n.x.1;have v:=n.x.2.1;have R:=n.y.lt;obtain⟨V,W,U,E,y5,_⟩:=n.y;have a3:=t1.size;have a4:=B.size;have a0:=b.tch.size;have a5:=λk hk=>(rl_ h.r2 k hk).2;have l:Aa (λk=>_∨_∨_) w _:=((t1.mono (λk _ e=>.inl e)).trans2 (B.mono (S':=λk=>k=r.yb) (λk _ e=>e)) (λk e=>.inl (.inr (.inl e)))).trans2 b.tch (λk e=>.inl (.inr (.inr e)))
 have hS:∀k,k<w.heap.size->(k=r.ib∨k=r.yb∨k=g∨v2.ownBlock=some k)->o k=100+2*i∨o k=100+2*i+1∨o k=0∨o k=15:=λk hk e=>by
  rcases e with e|e|e|e
  ·grind
  ·grind
  subst e;exact .inr (.inr (.inl h.bk.og));exact .inr (.inr (.inr (h.o2 k e)))
 have z:Dq w o (Id w w3 o v2' 15 17):=Zc7 _ _ _ _ _ _
 have a:∀k,_->Id w w3 o v2' 15 17 k=_:=λk hk=>by unfold Id;rw[if_pos hk]
 have u:∀k,w.heap.size<=k->k<w2.heap.size->Id w w3 o v2' 15 17 k=17:=λk h1 h2=>Xb h1 o_ (λe=>by
  rcases b.own k e with e2|e2
  ·grind
  omega)
 have P:=(Qb b.pr).1
 have J:Id w w3 o v2' 15 17 dp=17:=Xb (by have:=b.lo;omega) P (λe=>by
  obtain⟨a2,hc⟩:=Ad b.row e;rw[b.pr] at hc
  simp at hc)
 have hm:(rs.set i {r with cl:=true}).map ptR=rs.map ptR:=(by apply List.ext_getElem?;intro j;rw[List.getElem?_map,List.getElem?_map,List.getElem?_set];split;rename_i hj;subst hj;rw[A];rfl;rfl);obtain⟨p1,p2⟩:=Jn h.r1 h.o1 l (λk hk e=>w_) z d_;refine⟨⟨h.bk.put l (λk hk e=>?_) b.wb z (λj hj=>Array.getElem?_setIfInBounds_ne o_) (by simp[h.bk.sz]),λk hk=>?_,(Array.getElem?_setIfInBounds_ne o_).trans h.c1,by rw[hm];exact p1,p2,Array.getElem?_setIfInBounds_self_of_lt (by rw[h.bk.sz];decide),?_,λk hk=>?_,λj q f=>?_,λq f=>?_,λd hd=>?_,h.old z l.size⟩,h.low l (λk hk e=>w_)⟩
 ·rcases e with e|e|e|e
  ·grind
  ·grind
  exact .inl e;exact .inr (by have:=h.o2 k e;omega)
 unfold Id;rw[if_neg o_,if_neg (λe=>by have:=(rl_ b.row k e).2;omega),if_neg o_];have e:(ds++[dp]).map ptD=ds.map ptD++[P_ dp]:=(by simp[ptD]);rw[e,Qe];exact b.row
 ·by_cases hkl:k<w.heap.size
  ·rw[a k hkl]
   rcases b.own k hk with e|e
   exact h.o2 k e;omega
  unfold Id
  grind
 ·rw[List.getElem?_set] at f;split at f
  ·rename_i hj;subst hj;injection f with f;subst f;have t:=(Qb n.pr).1
   have G:¬(r.fk=r.ib∨r.fk=r.yb∨r.fk=g∨v2.ownBlock=some r.fk):=λe=>by
    rcases e with e|e|e|e
    ·grind
    exact U e;rw[e] at W;have:=h.bk.og;omega;have:=h.o2 _ e;omega
   have D:¬(r.ib=g∨v2.ownBlock=some r.ib):=λe=>by
    rcases e with e|e
    rw[e] at p;have:=h.bk.og;omega;have:=h.o2 _ e;omega
   have I:¬(r.yb=g∨v2.ownBlock=some r.yb):=λe=>by
    rcases e with e|e
    rw[e] at V;have:=h.bk.og;omega;have:=h.o2 _ e;omega
   refine⟨l.at_ n.pr (λe=>?_),(a _ t).trans n.po,n.cf,⟨(a _ v).trans p,Qh v l.size,.inl ⟨rfl,0,0,b.tch.at_ (B.at_ hD (λe=>?_)) D⟩⟩,⟨(a _ R).trans V,(a _ E).trans W,U,Qh E l.size,y5.keep l G E,r.T,0,0,b.tch.at_ hR I,λe=>by cases e⟩⟩;have:=hS _ t e;have:=n.po;omega
   grind
  exact(h.rd j q f).keep l (λk hk e=>w_) z o_
 ·rcases List.mem_or_eq_of_mem_set f with e|e
  exact h.sz q e;rw[e];exact h.sz r (List.mem_of_getElem? A)
 rcases List.mem_append.1 hd with e|e
 exact(h.dt d e).keep l (λk hk e=>w_) z;rw[List.mem_singleton] at e;subst e;obtain⟨vF,vB,vC,vX,C,O,H,X,hX,hp,F⟩:=hM;refine⟨Q,Y,yd,w1.heap.size,r.m,s.ws.length,r.budget,_,_,vF,vB,vC,vX,C,O,H,X,λw4 h4=>⟨h4.at_ b.pr (λe=>e J),?_,?_⟩,Zip n.cf hw.2.1 hp F⟩
 ·have f:=hO.stab (λk h1 h2=>u k h1 o_);have M:Aa (λk=>_∨_) _ _:=(B.mono (λk _ e=>.inl e)).trans2 b.tch (λk e=>.inl (.inr e));refine f.step M (λk hk e=>?_) (Dq.refl _ _) d_ _ h4
  grind
 have S:=(b.tch.mono (S':=λk=>k<w1.heap.size) (λk _ e=>w_)).trans2 h4 (λk e=>w_);exact hX.keep S
end
section
variable {Z:Nat->Prop} {w wA wB wC wD wE:World} {o:Nat->Nat} {g N L q pb ib yb fk fc m:Nat} {c:Array Value} {v1 v2 v1':Value} {rs:List RP} {ds:List Nat} {wd:Nat->Bool} {sc ct:Nat->Int} {bins:Int} {size budget:Nat}
def Es.opened(h:Es Z w o g c N L v1 v2 rs ds)(E:Below w.heap.size w wA)(x:Oq wB (Db wA wB o (100+2*rs.length)) (100+2*rs.length) ib m wd sc ct bins size budget ⟨#[]⟩ false)(H:Below wA.heap.size wA wB)(y:Kv wC (Db wB wC (Db wA wB o (100+2*rs.length)) (100+2*rs.length+1)) (100+2*rs.length+1) yb fk fc m wd sc ct bins size budget ⟨#[]⟩ false)(G:Below wB.heap.size wB wC)(t:Aa (λk=>k=q) wC wD)(D:w.heap.size<=q/\q<wA.heap.size)(a:Yh wD wE g 1 210 208 c v1 (rs.map ptR) (P_ ib) (P_ yb) pb v1')(v:Si m wd sc ct bins size budget):Es Z wE (Id wD wE (Db wB wC (Db wA wB o (100+2*rs.length)) (100+2*rs.length+1)) v1' 14 16) g (c.setIfInBounds 1 v1') N L v1' v2 (rs++[⟨pb,ib,yb,fk,fc,m,wd,sc,ct,bins,size,budget,⟨#[]⟩,false⟩]) ds/\Fa Z w wE:=by
 have sA:=E.size;have sB:=H.size;have sC:=G.size;have R:=t.size;have T:=a.tch.size;have Q:=h.bk.wb.lt;have l:=λk hk=>(rl_ h.r1 k hk).2;have F:Aa (λk=>_∨_) _ _:=((Aa.of_below G).trans2 t (λk e=>.inl (.inl e))).trans2 a.tch (λk e=>.inl (.inr e));have J:Aa (λk=>_∨_) _ _:=(t.mono (λk _ e=>.inl e)).trans2 a.tch (λk e=>.inl (.inr e))
 have i:=((Aa.of_below E).trans2 (Aa.of_below (S:=λ_=>False) H) (λk e=>e.elim)).trans2 F (λk e=>by
  rcases e with e|e
  exact .inr o_
  exact .inl e)
 have p:∀k,k<w.heap.size->(k=g∨v1.ownBlock=some k)->o k=0∨o k=14:=λk hk e=>by
  rcases e with e|e
  subst e;exact .inl h.bk.og;exact .inr (h.o1 k e)
 have M:=h.n9 q D.1;have s:∀k,_->Db wA wB o (100+2*rs.length) k=_:=λk hk=>Dz hk;have z:∀k,_->Db wB wC (Db wA wB o (100+2*rs.length)) (100+2*rs.length+1) k=_:=λk hk=>Dz hk
 have A:∀k,_->Id wD wE _ v1' 14 16 k=Db wB wC (Db wA wB o (100+2*rs.length)) (100+2*rs.length+1) k:=λk hk=>by unfold Id;rw[if_pos hk]
 have f:∀k,k<w.heap.size->Id _ _ _ _ 14 16 k=_:=λk hk=>by rw[A k o_,z k o_,s k o_]
 have n:Dq w o _:=λk hk=>.inr (f k hk);have u:=(Qb a.pr).1
 have B:Id wD wE (Db wB wC (Db wA wB o (100+2*rs.length)) (100+2*rs.length+1)) v1' 14 16 pb=16:=Xb a.lo u (λe=>by
  obtain⟨P,I⟩:=Ad a.row e;rw[a.pr] at I
  simp at I)
 have b:∀k,(k=q∨k=g∨v1.ownBlock=some k)->k<wA.heap.size/\o k<100:=λk e=>by
  rcases e with e|e|e
  subst e;exact⟨D.2,o_⟩;subst e;exact⟨o_,by have:=h.bk.og;omega⟩;exact⟨by have:=l k e;omega,by have:=h.o1 k e;omega⟩
 obtain⟨p1,O⟩:=Jn h.r2 h.o2 i (λk hk e=>by have:=p k hk e;omega) n d_;refine⟨⟨h.bk.put i (λk hk e=>?_) a.wb n (λj hj=>Array.getElem?_setIfInBounds_ne o_) (by simp[h.bk.sz]),λk hk=>?_,Array.getElem?_setIfInBounds_self_of_lt (by rw[h.bk.sz];decide),?_,λk hk=>?_,(Array.getElem?_setIfInBounds_ne o_).trans h.c2,p1,O,λj r hr=>?_,λr hr=>?_,λd hd=>(h.dt d hd).keep i (λk hk e=>by have:=p k hk e;omega) n,h.old n i.size⟩,h.low i (λk hk e=>by have:=p k hk e;omega)⟩
 ·rcases e with e|e
  exact .inl e;exact .inr (by have:=h.o1 k e;omega)
 unfold Id;rw[if_neg o_,if_neg (λe=>by have:=(rl_ a.row k e).2;omega),if_neg o_];rw[List.map_append,Qe];exact a.row
 ·by_cases hkl:k<wD.heap.size
  ·rcases a.own k hk with e|e
   rw[f k (l k e)];exact h.o1 k e;omega
  unfold Id;rw[if_neg hkl,if_pos hk]
 ·by_cases hj:j<rs.length
  rw[List.getElem?_append_left hj] at hr;exact(h.rd j r hr).keep i (λk hk e=>by have:=p k hk e;omega) n o_;have C:j=rs.length:=(by have:=(List.getElem?_eq_some_iff.1 hr).1;simp at this;omega);subst C;simp at hr;subst hr;refine⟨a.pr,B,v,?_,?_⟩;exact x.keep F (λk hk e=>by have:=b k e;rw[s k this.1];omega) (λk hk=>.inr (by rw[A k o_,z k hk])) o_;exact y.keep J (λk hk e=>by have:=b k e;rw[z k o_,s k this.1];omega) (λk hk=>.inr (A k o_)) o_
 rcases List.mem_append.1 hr with e|e
 exact h.sz r e;rw[List.mem_singleton] at e;subst e;exact qg_
end
end Go.Proofs.YtfcgnpchbcmdeaaGreat
