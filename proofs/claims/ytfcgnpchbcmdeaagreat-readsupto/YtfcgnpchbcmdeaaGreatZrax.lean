import Derived.Test.YtfcgnpchbcmdeaaGreatZraw
import Derived.Test.YtfcgnpchbcmdeaaGreatZray
import Derived.Test.YtfcgnpchbcmdeaaGreatZrav
namespace Go.Proofs.YtfcgnpchbcmdeaaGreat
set_option linter.all false
set_option maxRecDepth 100000
set_option maxHeartbeats 4000000
open Go.RowKit
structure RS where
 ws:List Int
 cols:Nat->List VS
 wt:Int
 fl:Bool
 row:List VS
 p:Cm
 bs:List Int
def RS.start:RS:=⟨[],λ_=>[],0,false,[],part0,[]⟩
def Gq(p:Cm)(bs:List Int):VS:=⟨decide (p.st=0),Qv p,strOfNums bs⟩
def Be(wd:Bool)(u:Int)(p:Cm)(bs:List Int)(c:Int):Option (Cm×List Int):=
 if wd=true then(Bt p.st bs c).map (λq=>({p with st:=q.1},q.2)) else(Bz u p c).map (λq=>(q,bs))
def Ax:VS:=⟨false,0,⟨#[]⟩⟩
def Gd(n:Nat)(s:RS)(row:List VS):RS:=
 if row.length=n then⟨s.ws++[s.wt],λi=>if i<n then s.cols i++[row.getD i Ax] else s.cols i,0,false,[],part0,[]⟩
 else {s with row:=row,p:=part0,bs:=[]}
def Cw(n:Nat)(wd:Nat->Bool)(sc:Nat->Int)(s:RS)(c:Int):Except Int RS:=
 if s.ws.length=200 then .error 3
 else if s.fl=false then
  match Bd s.wt c with
  |none=>.error 2
  |some none=>.ok {s with fl:=true}
  |some (some z)=>.ok {s with wt:=z}
 else
  match Be (wd s.row.length) (Cp (sc s.row.length).toNat) s.p s.bs c with
  |some (p,bs)=>.ok {s with p:=p,bs:=bs}
  |none=>if c=Eg s.row.length n/\El s.p.st=true then .ok (Gd n s (s.row++[Gq s.p s.bs])) else .error 2
structure Fv(p:Cm):Prop where
 u0:0<=p.unit
 u1:p.unit<=1000
 n0:0<=p.num
 d0:0<=p.dig
 d1:p.dig<=5
 nu:p.num+p.unit<=Cp p.dig.toNat*1000
def ZdU k (h:k<=5):1<=Cp k/\Cp k<=100000:=by
 have:k=0∨k=1∨k=2∨k=3∨k=4∨k=5:=o_
 rcases this with rfl|rfl|rfl|rfl|rfl|rfl<;>decide
def Fv.le{p}(h:Fv p):p.num<=100000000:=by have c:=h.nu;have a:=h.u0;have b:=(ZdU p.dig.toNat (by have:=h.d0;have:=h.d1;omega)).2;omega
def Fv.part0:Fv part0:=⟨d_,d_,d_,d_,d_,d_⟩
def Kn{c}(h:Cj c=true):48<=c/\c<=57:=by simpa [Cj] using h
def Fv.step{u}(y:1<=u)(g:u<=1000){p q c}(h:Fv p)(x:Bz u p c=some q):Fv q:=by
 obtain⟨b,l,t,f,k,w⟩:=h
 have first:∀q,Gy u p c=some q->Fv q:=λq hq=>by
  unfold Gy at hq;split at hq
  ·rename_i a;obtain⟨s,v⟩:=Kn a;injection hq with hq;subst hq;have m:0<=(c-48)*u:=Int.mul_nonneg o_ o_;have r:(c-48)*u<=9*u:=Int.mul_le_mul_of_nonneg_right o_ o_;refine⟨w_,g,m,w_,w_,?_⟩
   grind [Cp]
  cases hq
 have o:∀q,Oa p c=some q->Fv q:=λq hq=>by
  unfold Oa at hq;split at hq;injection hq with hq;subst hq;exact⟨b,l,t,f,k,w⟩
  cases hq
 have j:∀q,Iz p c=some q->Fv q:=λq hq=>by
  unfold Iz at hq;split at hq;injection hq with hq;subst hq;exact⟨b,l,t,f,k,w⟩
  cases hq
 have n:∀q,Iv p c=some q->Fv q:=λq hq=>by
  unfold Iv at hq;split at hq
  ·rename_i a;obtain⟨a,z⟩:=a;obtain⟨s,v⟩:=Kn a;injection hq with hq;subst hq;have m:0<=(c-48)*_:=Int.mul_nonneg o_ b;have r:(c-48)*_<=9*_:=Int.mul_le_mul_of_nonneg_right o_ b;refine⟨b,l,?_,?_,?_,?_⟩
   ·grind
   ·grind
   ·grind
   show p.num*10+(c-48)*p.unit+p.unit<=Cp (p.dig+1).toNat*1000;have e:(p.dig+1).toNat=p.dig.toNat+1:=o_
   grind [Cp]
  cases hq
 have d:∀q,Hj p c=some q->Fv q:=λq hq=>by
  unfold Hj at hq;split at hq
  ·rename_i a;obtain⟨a,z⟩:=a;obtain⟨s,v⟩:=Kn a;injection hq with hq;subst hq;have i:0<=p.unit/10:=o_;have m:0<=(c-48)*_:=Int.mul_nonneg o_ i;have r:(c-48)*_<=9*_:=Int.mul_le_mul_of_nonneg_right o_ i;refine⟨i,?_,?_,f,k,?_⟩
   ·grind
   ·grind
   grind
  cases hq
 unfold Bz at x;split at x
 ·grind [Oa]
 grind [Iv]
def Fv.st{p}(h:Fv p) z:Fv {p with st:=z}:=⟨h.u0,h.u1,h.n0,h.d0,h.d1,h.nu⟩
def Zdm u p c v:Bz u {p with wv:=v} c=(Bz u p c).map (λq=>{q with wv:=v}):=by grind [Oa,Gy,Iv,Iz,Hj,Bz]
def Zae{b a c q}(h:Bt b a c=some q)(d:a.length<=8):q.2.length<=8:=by grind [Jc,Sx,Kh,Bt]
structure Ht(n)(s:RS):Prop where
 ws:s.ws.length<=200
 col:∀i,i<n->(s.cols i).length=s.ws.length
 wt0:0<=s.wt
 wt1:s.wt<=99
 row:s.row.length<n
 num:Fv s.p
 bs:s.bs.length<=8
def Ht.start{n}(h:1<=n):Ht n RS.start:=⟨d_,λ_ _=>rfl,d_,d_,h,Fv.part0,d_⟩
def qz{a c z}(h:Bd a c=some (some z)):1<=z/\z<=99:=by grind [Bd]
def dw(w:World)(K:Nat->Prop)(v0 v1 v2:Value)(wd:Bool)(u ct bins size:Int):Prop:=
 (wd=true/\∃k1 k2 k3:Nat,v0=.func (.func 209) #[] #[]/\v1=.func (.func 210) #[] #[P_ k1,P_ k2]/\v2=.func (.func 266) #[] #[P_ k3]/\K k1/\K k2/\K k3/\w.heap[k1]? =some (.cells #[I_ ct] 3 (0,0))/\w.heap[k2]? =some (.cells #[I_ bins] 3 (0,0))/\w.heap[k3]? =some (.cells #[.func (.func 213) #[] #[]] 261 (0,0)))∨
 (wd=false/\∃k0 k1 k2 k3:Nat,v0=.func (.func 214) #[] #[P_ k0]/\v1=.func (.func 216) #[] #[P_ k1,P_ k2]/\v2=.func (.func 266) #[] #[P_ k3]/\K k0/\K k1/\K k2/\K k3/\w.heap[k0]? =some (.cells #[I_ u] 3 (0,0))/\w.heap[k1]? =some (.cells #[I_ bins] 3 (0,0))/\w.heap[k2]? =some (.cells #[I_ size] 3 (0,0))/\w.heap[k3]? =some (.cells #[.func (.func 218) #[] #[]] 261 (0,0)))
structure Tc(w)(K)(fb n)(wd:Nat->Bool)(sc ct:Nat->Int)(bins size):Prop where
 ex:∃cur:Array Value,w.heap[fb]? =some (.cells cur 263 (0,0))/\cur.size=n*3/\K fb/\∀i,i<n->∃v0 v1 v2,cur[i*3]? =some v0/\cur[i*3+1]? =some v1/\cur[i*3+2]? =some v2/\dw w K v0 v1 v2 (wd i) (Cp (sc i).toNat) (ct i) bins size
def dw.touch{S K w w' d f i g u j b a}(h:dw w K d f i g u j b a)(t:Aa S w w')(c:∀k,K k->¬S k):dw w' K d f i g u j b a:=by
 rcases h with⟨e,k1,k2,k3,e0,e1,e2,m1,m2,m3,h1,h2,h3⟩|⟨e,k0,k1,k2,k3,e0,e1,e2,m0,m1,m2,m3,h0,h1,h2,h3⟩
 exact .inl ⟨e,k1,k2,k3,e0,e1,e2,m1,m2,m3,t.at_ h1 (c _ m1),t.at_ h2 (c _ m2),t.at_ h3 (c _ m3)⟩;exact .inr ⟨e,k0,k1,k2,k3,e0,e1,e2,m0,m1,m2,m3,t.at_ h0 (c _ m0),t.at_ h1 (c _ m1),t.at_ h2 (c _ m2),t.at_ h3 (c _ m3)⟩
def Tc.touch{S K w w' j n m l o e f}(h:Tc w K j n m l o e f)(t:Aa S w w')(q:∀k,K k->¬S k):Tc w' K j n m l o e f:=by obtain⟨g,v,s,p,y⟩:=h;refine⟨g,t.at_ v (q _ p),s,p,λi hi=>?_⟩;obtain⟨u,x,r,a,b,c,d⟩:=y i hi;exact⟨u,x,r,a,b,c,d.touch t q⟩
def Tc.of_made{w j m n p o q f g} K (h:Gt w j m n n p o q f g)(l:K m)(hK:∀k cur ty,j<=k->w.heap[k]? =some (.cells cur ty (0,0))->(ty=3∨ty=261)->K k):Tc w K m n p o q f g:=by
 obtain⟨cur,v,s,u⟩:=h;refine⟨cur,v,s,l,λi hi=>?_⟩;obtain⟨t,x,r,a,b,c,d⟩:=u i hi;refine⟨t,x,r,a,b,c,?_⟩
 rcases d with⟨e,⟨k1,k2,k3,d1,d2,d3,d4,d5,d6,d7⟩⟩|⟨e,⟨k0,k1,k2,k3,d1,d2,d3,d4,d5,d6,d7,d8,d9⟩⟩
 simp only[Value.agg.injEq,Array.mk.injEq,List.cons.injEq,and_true] at d1;obtain⟨rfl,rfl,rfl⟩:=d1;exact .inl ⟨e,k1,k2,k3,rfl,rfl,rfl,hK _ _ _ d2 d5 (.inl rfl),hK _ _ _ d3 d6 (.inl rfl),hK _ _ _ d4 d7 (.inr rfl),d5,d6,d7⟩;simp only[Value.agg.injEq,Array.mk.injEq,List.cons.injEq,and_true] at d1;obtain⟨rfl,rfl,rfl⟩:=d1;exact .inr ⟨e,k0,k1,k2,k3,rfl,rfl,rfl,hK _ _ _ d2 d6 (.inl rfl),hK _ _ _ d3 d7 (.inl rfl),hK _ _ _ d4 d8 (.inl rfl),hK _ _ _ d5 d9 (.inr rfl),d6,d7,d8,d9⟩
structure Oo(w)(K M:Nat->Prop)(rb fb cb n)(wd)(sc ct)(bins size)(s:RS)(vW vr wv)(vc:Nat->Value):Prop where
 rd:RB w rb (L_ fb n n) vW (L_ cb n n) s.wt s.fl vr {s.p with wv:=wv}
 ow:Ag w 0 vW s.ws
 or:Ir w 0 vr s.row
 ob:Bj w 0 wv s.bs
 cl:∃cur:Array Value,w.heap[cb]? =some (.cells cur 251 (0,0))/\cur.size=n/\∀i,i<n->cur[i]? =some (vc i)
 oc:∀i,i<n->Ir w 0 (vc i) (s.cols i)
 fs:Tc w K fb n wd sc ct bins size
 ap:∀i j,i<n->j<n->i≠j->(vc i).ownBlock=none∨(vc i).ownBlock≠(vc j).ownBlock
 ar:∀i,i<n->(vc i).ownBlock=none∨(vc i).ownBlock≠vr.ownBlock
 mr:M rb
 mc:M cb
 mW:∀k,vW.ownBlock=some k->M k
 mv:∀k,vr.ownBlock=some k->M k
 mw:∀k,wv.ownBlock=some k->M k
 mq:∀i k,i<n->(vc i).ownBlock=some k->M k
 kk:∀k,K k->k<w.heap.size/\¬M k
 ml:∀k,M k->k<w.heap.size
def RdM(w:World)(K M:Nat->Prop)(rb fb cb n:Nat)(wd:Nat->Bool)(sc ct:Nat->Int)(bins size:Int)(s:RS):Prop:=∃vW vr wv vc,Oo w K M rb fb cb n wd sc ct bins size s vW vr wv vc
def Ir.touch{S w w' base v L}(h:Ir w base v L)(t:Aa S w w')(hs:∀k,v.ownBlock=some k->¬S k):Ir w' base v L:=t.row h hs
def Ag.touch{S w w' base v L}(h:Ag w base v L)(t:Aa S w w')(hs:∀k,v.ownBlock=some k->¬S k):Ag w' base v L:=t.row h hs
def Bj.touch{S w w' base v L}(h:Bj w base v L)(t:Aa S w w')(hs:∀k,v.ownBlock=some k->¬S k):Bj w' base v L:=t.row h hs
def RB.touch{S w w' b vf vW vC wt fl vr p}(h:RB w b vf vW vC wt fl vr p)(t:Aa S w w')(hs:¬S b):RB w' b vf vW vC wt fl vr p:=t.at_ h hs
section
variable {w:World} {K M:Nat->Prop} {rb fb cb n:Nat} {wd:Nat->Bool} {sc ct:Nat->Int} {bins size:Int} {s:RS} {vW vr wv:Value} {vc:Nat->Value}
def Oo.touch{S w'}(h:Oo w K M rb fb cb n wd sc ct bins size s vW vr wv vc)(t:Aa S w w')(a:∀k,K k∨M k->¬S k):Oo w' K M rb fb cb n wd sc ct bins size s vW vr wv vc:=by
 obtain⟨b,c,d,f⟩:=h.cl
 exact⟨h.rd.touch t (a _ (.inr h.mr)),h.ow.touch t (λk e=>a _ (.inr (h.mW k e))),h.or.touch t (λk e=>a _ (.inr (h.mv k e))),h.ob.touch t (λk e=>a _ (.inr (h.mw k e))),
  ⟨b,t.at_ c (a _ (.inr h.mc)),d,f⟩,λi hi=>(h.oc i hi).touch t (λk e=>a _ (.inr (h.mq i k hi e))),h.fs.touch t (λk e=>a _ (.inl e)),h.ap,h.ar,h.mr,h.mc,h.mW,h.mv,h.mw,h.mq,
  λk e=>⟨Qh (h.kk k e).1 t.size,(h.kk k e).2⟩,λk e=>Qh (h.ml k e) t.size⟩
def RdM.touch{S w'}(h:RdM w K M rb fb cb n wd sc ct bins size s)(t:Aa S w w')(e:∀k,K k∨M k->¬S k):RdM w' K M rb fb cb n wd sc ct bins size s:=by obtain⟨b,d,a,c,h⟩:=h;exact⟨b,d,a,c,h.touch t e⟩
def Oo.fb_ne(h:Oo w K M rb fb cb n wd sc ct bins size s vW vr wv vc):fb≠rb:=by obtain⟨b,_,_,a,_⟩:=h.fs;intro e;exact(h.kk _ a).2 (e ▸ h.mr)
def Oo.feat(h:Oo w K M rb fb cb n wd sc ct bins size s vW vr wv vc){i}(c:i<n):∃v0 v1 v2,w.cell? (A_ fb (i*3))=some v0/\dw w K v0 v1 v2 (wd i) (Cp (sc i).toNat) (ct i) bins size:=by
 obtain⟨a,b,_,_,d⟩:=h.fs
 grind [cell_of_row]
end
def Ze8(w:World)(K M:Nat->Prop)(rb fb cb n:Nat)(wd:Nat->Bool)(sc ct:Nat->Int)(bins size:Int)(s':RS)(w':World):Prop:=
 (∃M',RdM w' K M' rb fb cb n wd sc ct bins size s'/\(∀k,M' k->M k∨w.heap.size<=k))/\Aa M w w'
section
variable {w:World} {K M:Nat->Prop} {rb fb cb n:Nat} {wd:Nat->Bool} {sc ct:Nat->Int} {bins size:Int} {s:RS} {vW vr wv:Value} {vc:Nat->Value}
def Oo.ne_of_type(h:Oo w K M rb fb cb n wd sc ct bins size s vW vr wv vc){k ty:Nat}{cur}(hk:w.heap[k]? =some (.cells cur ty (0,0)))(hty:ty≠256):k≠rb:=λe=>by
 subst e;have:=h.rd
 grind [RB]
def Oo.rewrite{f}(h:Oo w K M rb fb cb n wd sc ct bins size s vW vr wv vc)(t:Aa (λk=>k=rb∨some k=wv.ownBlock) w f){p bs a wt fl}(o:RB f rb (L_ fb n n) vW (L_ cb n n) wt fl vr {p with wv:=a})(q:Bj f 0 a bs)(u:a.ownBlock=wv.ownBlock∨∃k,a.ownBlock=some k/\w.heap.size<=k):
  Oo f K (λk=>M k∨a.ownBlock=some k) rb fb cb n wd sc ct bins size {s with p:=p,bs:=bs,wt:=wt,fl:=fl} vW vr a vc:=by
 have j:∀{ty:Nat} {size n v xs},w.ownsRow 0 ty size v n xs->ty≠256->ty≠5->∀k,v.ownBlock=some k->¬(k=rb∨some k=wv.ownBlock):=λ{ty size n v xs} o b A k g e=>by
  obtain⟨c,y⟩:=Ad o g
  rcases e with e|e
  exact h.ne_of_type y b e;obtain⟨d,m⟩:=Ad h.ob e.symm
  grind
 obtain⟨c,r,x,z⟩:=h.cl
 have l:¬(cb=rb∨some cb=wv.ownBlock):=λe=>by
  rcases e with e|e
  exact h.ne_of_type r d_ e;obtain⟨d,m⟩:=Ad h.ob e.symm
  grind
 have B:∀k,a.ownBlock=some k->M k∨w.heap.size<=k:=λk e=>by
  rcases u with b|⟨C,b,A⟩
  exact .inl (h.mw k (b ▸ e))
  grind
 refine⟨o,h.ow.touch t (j h.ow d_ d_),h.or.touch t (j h.or d_ d_),q,⟨c,t.at_ r l,x,z⟩,λi hi=>(h.oc i hi).touch t (j (h.oc i hi) d_ d_),h.fs.touch t ?_,h.ap,h.ar,.inl h.mr,.inl h.mc,λk e=>.inl (h.mW k e),λk e=>.inl (h.mv k e),λk e=>.inr e,λi k hi e=>.inl (h.mq i k hi e),λk e=>?_,λk e=>?_⟩
 ·intro k g e
  rcases e with e|e
  exact(h.kk k g).2 (e ▸ h.mr);exact(h.kk k g).2 (h.mw k e.symm)
 ·have b:=h.kk k e;refine⟨Qh b.1 t.size,λe2=>?_⟩
  grind
 rcases e with e|e
 exact Qh (h.ml k e) t.size;exact(rl_ q k e).2
def Zan(w:World)(K M:Nat->Prop)(rb fb cb n:Nat)(wd:Nat->Bool)(sc ct:Nat->Int)(bins size:Int)(s:RS)(vW vr:Value)(vc:Nat->Value)(o:Option (Cm×List Int))(e:Ending)(w':World):Prop:=
 e=.returned (.bool o.isSome)/\(∃M' wv',Oo w' K M' rb fb cb n wd sc ct bins size {s with p:=(o.getD (s.p,s.bs)).1,bs:=(o.getD (s.p,s.bs)).2} vW vr wv' vc/\(∀k,M k->M' k)/\(∀k,M' k->M k∨w.heap.size<=k))/\Aa M w w'
def Zix(h:Oo w K M rb fb cb n wd sc ct bins size s vW vr wv vc) c u m (o:w.heap[m]? =some (.cells #[I_ u] 3 (0,0)))(i:0<=u)(v:u<=1000)(a:Fv s.p):C_ 214 #[.pointer (some ⟨rb,6,none⟩),.int .u8 c,.pointer (some ⟨m,0,none⟩)] w λe w'=>Zan w K M rb fb cb n wd sc ct bins size s vW vr vc (Be false u s.p s.bs c) e w':=by
 have y:=a.le;refine(ZbS rb _ _ vW _ _ _ vr _ c u w h.rd (cq_ 0 _ 3 _ o) i o_ a.u0 (by have:=a.u1;grind) a.n0 w_ a.d0 (by have:=a.d1;grind)).mono ?_;rintro e w' ⟨f,d,l⟩;rw[Zdm] at f d;have t:Aa (λk=>k=_∨some k=wv.ownBlock) w _:=(Aa.refl _ w).grown l (λk hk _=>.inl (by injection hk with hk;exact hk.symm))
 have b:=h.ob.touch ((Aa.refl (λk=>k=rb) w).grown l (λk hk _=>w_)) (λk hk e=>by
  obtain⟨x,r⟩:=Ad h.ob hk
  exact h.ne_of_type r d_ e)
 have j:=t.mono (λk _ e=>by
  rcases e with e|e
  exact e ▸ h.mr
  exact h.mw k e.symm)
 have g:Be false u _ s.bs c=(Bz u s.p c).map _:=rfl;unfold Zan;rw[g]
 cases hq:Bz u s.p c with
 | none=>
  rw[hq] at f d;refine⟨f,⟨_,wv,h.rewrite (p:=s.p) (bs:=s.bs) t d b (.inl rfl),λk e=>.inl e,λk e=>?_⟩,j⟩
  rcases e with e|e
  exact .inl e;exact .inl (h.mw k e)
 | some q=>
  rw[hq] at f d;refine⟨f,⟨_,wv,h.rewrite (p:=q) (bs:=s.bs) t d b (.inl rfl),λk e=>.inl e,λk e=>?_⟩,j⟩
  rcases e with e|e
  exact .inl e;exact .inl (h.mw k e)
def Zf9(h:Oo w K M rb fb cb n wd sc ct bins size s vW vr wv vc) c u (x:s.bs.length<=8):C_ 209 #[.pointer (some ⟨rb,6,none⟩),.int .u8 c] w λe w'=>Zan w K M rb fb cb n wd sc ct bins size s vW vr vc (Be true u s.p s.bs c) e w':=by
 refine(Zab _ 0 _ _ _ _ _ _ _ _ c w ⟨h.rd,h.ob⟩ o_ o_).mono ?_;rintro e w' ⟨d,⟨i,⟨a,b⟩,g⟩,j⟩
 have o:=Aa.mono j (λk _ e=>by
  rcases e with e|e
  exact e ▸ h.mr
  exact h.mw k e.symm)
 have f:Be true u _ s.bs c=(Bt _ _ c).map (λq=>({s.p with st:=q.1},_)):=rfl
 have m:∀k,(M k∨i.ownBlock=some k)->M k∨w.heap.size<=k:=λk e=>by
  rcases e with e|e
  exact .inl e
  rcases g with r|⟨v,r,t⟩
  exact .inl (h.mw k (r ▸ e))
  grind
 unfold Zan;rw[f];have l:Bt ({s.p with wv:=wv}:_).st s.bs c=Bt s.p.st _ c:=rfl;rw[l] at d a b
 cases hq:Bt s.p.st s.bs c with
 | none=>
  rw[hq] at d a b;exact⟨d,⟨_,i,h.rewrite (p:=s.p) (bs:=s.bs) j a b g,λk e=>.inl e,m⟩,o⟩
 | some q=>
  rw[hq] at d a b;exact⟨d,⟨_,i,h.rewrite (p:={s.p with st:=q.1}) (bs:=q.2) j a b g,λk e=>.inl e,m⟩,o⟩
end
def Au{w:World}{base ty size n:Nat}{v xs}(h:w.ownsRow base ty size v n xs){k k' ty' cur}(hk:v.ownBlock=some k)(hb:w.heap[k']? =some (.cells cur ty' (0,0)))(hne:ty≠ty'):k≠k':=λe=>by
 obtain⟨c,hc⟩:=Ad h hk
 grind
def zp{w:World}{b1 b2 e1 e2 s1 s2 n1 n2:Nat}{v u xs ys}(h:w.ownsRow b1 e1 s1 v n1 xs)(g:w.ownsRow b2 e2 s2 u n2 ys)(hne:e1≠e2){k}(hk:v.ownBlock=some k):u.ownBlock≠some k:=λe=>by obtain⟨c,hc⟩:=Ad g e;exact Au h hk hc hne rfl
section
variable {w:World} {K M:Nat->Prop} {rb fb cb n:Nat} {wd:Nat->Bool} {sc ct:Nat->Int} {bins size:Int} {s:RS} {vW vr wv:Value} {vc:Nat->Value}
def Oo.rdAt(h:Oo w K M rb fb cb n wd sc ct bins size s vW vr wv vc):∃cur,w.heap[rb]? =some (.cells cur 256 (0,0)):=⟨_,h.rd⟩
def Oo.cb_rb(h:Oo w K M rb fb cb n wd sc ct bins size s vW vr wv vc):cb≠rb:=by obtain⟨a,b,_⟩:=h.cl;exact h.ne_of_type b d_
def yy{M:Nat->Prop}{v v':Value}{N}(hm:∀k,v.ownBlock=some k->M k)(hd:v'.ownBlock=v.ownBlock∨∃k,v'.ownBlock=some k/\N<=k):∀k,(M k∨v'.ownBlock=some k)->M k∨N<=k:=λk e=>w_
def Oo.putW{w' vW' ws' wt fl}(h:Oo w K M rb fb cb n wd sc ct bins size s vW vr wv vc)(t:Aa (λk=>k=rb∨vW.ownBlock=some k) w w')(b:RB w' rb (L_ fb n n) vW' (L_ cb n n) wt fl vr {s.p with wv:=wv})(l:Ag w' 0 vW' ws')(r:vW'.ownBlock=vW.ownBlock∨∃k,vW'.ownBlock=some k/\w.heap.size<=k):
  Oo w' K (λk=>M k∨vW'.ownBlock=some k) rb fb cb n wd sc ct bins size {s with ws:=ws',wt:=wt,fl:=fl} vW' vr wv vc/\(∀k,(M k∨vW'.ownBlock=some k)->M k∨w.heap.size<=k)/\Aa M w w':=by
 obtain⟨u,j⟩:=h.rdAt;obtain⟨c,m,o,q⟩:=h.cl;have f:=yy h.mW r
 have d:∀{ty size n:Nat} {v xs},w.ownsRow 0 ty size v n xs->ty≠256->ty≠3->∀k,v.ownBlock=some k->¬(k=rb∨vW.ownBlock=some k):=λb g h2 k a e=>by
  rcases e with e|e
  exact Au b a j g e;exact zp b h.ow h2 a e
 refine⟨⟨b,l,h.or.touch t (d h.or d_ d_),h.ob.touch t (d h.ob d_ d_),⟨c,t.at_ m ?_,o,q⟩,λi hi=>(h.oc i hi).touch t (d (h.oc i hi) d_ d_),h.fs.touch t ?_,h.ap,h.ar,.inl h.mr,.inl h.mc,λk e=>.inr e,λk e=>.inl (h.mv k e),λk e=>.inl (h.mw k e),λi k hi e=>.inl (h.mq i k hi e),λk e=>?_,λk e=>?_⟩,f,t.mono (λk _ e=>?_)⟩
 ·intro e
  rcases e with e|e
  exact h.cb_rb e;exact Au h.ow e m d_ rfl
 ·intro k a e
  rcases e with e|e
  exact(h.kk k a).2 (e ▸ h.mr);exact(h.kk k a).2 (h.mW k e)
 ·have g:=h.kk k e;refine⟨Qh g.1 t.size,λe2=>?_⟩
  grind
 ·rcases e with e|e
  exact Qh (h.ml k e) t.size;exact(rl_ l k e).2
 rcases e with e|e
 exact e ▸ h.mr;exact h.mW k e
def Oo.putRow{w' vr' row' p bs wv' wt fl}(h:Oo w K M rb fb cb n wd sc ct bins size s vW vr wv vc)(t:Aa (λk=>k=rb∨vr.ownBlock=some k) w w')(d:RB w' rb (L_ fb n n) vW (L_ cb n n) wt fl vr' {p with wv:=wv'})(l:Ir w' 0 vr' row')(m:vr'.ownBlock=vr.ownBlock∨vr'.ownBlock=none∨∃k,vr'.ownBlock=some k/\w.heap.size<=k)(y:Bj w' 0 wv' bs)(j:wv'.ownBlock=none∨wv'=wv):
  Oo w' K (λk=>M k∨vr'.ownBlock=some k) rb fb cb n wd sc ct bins size {s with row:=row',p:=p,bs:=bs,wt:=wt,fl:=fl} vW vr' wv' vc/\(∀k,(M k∨vr'.ownBlock=some k)->M k∨w.heap.size<=k)/\Aa M w w':=by
 obtain⟨z,c⟩:=h.rdAt;obtain⟨f,q,r,u⟩:=h.cl
 have g:∀k,(M k∨vr'.ownBlock=some k)->M k∨w.heap.size<=k:=by
  rcases m with a|a|a
  exact yy h.mv (.inl a)
  ·grind
  grind
 have x:∀{ty size n:Nat} {v xs},w.ownsRow 0 ty size v n xs->ty≠256->ty≠308->∀k,v.ownBlock=some k->¬(k=rb∨vr.ownBlock=some k):=λd a o k b e=>by
  rcases e with e|e
  exact Au d b c a e;exact zp d h.or o b e
 refine⟨⟨d,h.ow.touch t (x h.ow d_ d_),l,y,⟨f,t.at_ q ?_,r,u⟩,λi hi=>(h.oc i hi).touch t ?_,h.fs.touch t ?_,h.ap,λi hi=>?_,.inl h.mr,.inl h.mc,λk e=>.inl (h.mW k e),λk e=>.inr e,λk e=>?_,λi k hi e=>.inl (h.mq i k hi e),λk e=>?_,λk e=>?_⟩,g,t.mono (λk _ e=>?_)⟩
 ·intro e
  rcases e with e|e
  exact h.cb_rb e;exact Au h.or e q d_ rfl
 ·intro k b e
  rcases e with e|e
  exact Au (h.oc i hi) b c d_ e
  rcases h.ar i hi with a|a
  ·grind
  grind
 ·intro k b e
  rcases e with e|e
  exact(h.kk k b).2 (e ▸ h.mr);exact(h.kk k b).2 (h.mv k e)
 ·rcases m with a|a|⟨A,a,o⟩
  rw[a];exact h.ar i hi
  ·grind
  cases hv:(vc i).ownBlock with
  |none=>exact .inl rfl
  | some k=>
   refine .inr λe=>?_;rw[a] at e;injection e with e;have:=(rl_ (h.oc i hi) k hv).2;omega
 ·rcases j with a|a
  ·grind
  exact .inl (h.mw k (a ▸ e))
 ·have a:=h.kk k e;refine⟨Qh a.1 t.size,λe2=>?_⟩
  grind
 ·rcases e with e|e
  exact Qh (h.ml k e) t.size;exact(rl_ l k e).2
 rcases e with e|e
 exact e ▸ h.mr;exact h.mv k e
def upd{α:Type}(f:Nat->α)(i:Nat)(x:α):Nat->α:=λj=>if j=i then x else f j
def Nn{α} f i (x:α):upd f i x i=x:=if_pos rfl
def Oh{α} f {i j}(x:α)(h:j≠i):upd f i x j=f j:=if_neg h
def Oo.putCol{w' i v' col'}(h:Oo w K M rb fb cb n wd sc ct bins size s vW vr wv vc)(f:i<n)(t:Aa (λk=>k=cb∨(vc i).ownBlock=some k) w w')(r:∃cur:Array Value,w'.heap[cb]? =some (.cells cur 251 (0,0))/\cur.size=n/\∀j,j<n->cur[j]? =some (upd vc i v' j))(x:Ir w' 0 v' col')(y:v'.ownBlock=(vc i).ownBlock∨∃k,v'.ownBlock=some k/\w.heap.size<=k):Oo w' K (λk=>M k∨v'.ownBlock=some k) rb fb cb n wd sc ct bins size {s with cols:=upd s.cols i col'} vW vr wv (upd vc i v')/\(∀k,(M k∨v'.ownBlock=some k)->M k∨w.heap.size<=k)/\Aa M w w':=by
 obtain⟨z,o⟩:=h.rdAt;obtain⟨cur,m,A,B⟩:=h.cl;have g:=yy (λk e=>h.mq i k f e) y
 have p:∀{ty size n:Nat} {v xs},w.ownsRow 0 ty size v n xs->ty≠251->ty≠308->∀k,v.ownBlock=some k->¬(k=cb∨(vc i).ownBlock=some k):=λhr a h2 k b e=>by
  rcases e with e|e
  exact Au hr b m a e;exact zp hr (h.oc i f) h2 b e
 have d:∀{u:Value},(u.ownBlock=none∨(vc i).ownBlock=none∨u.ownBlock≠(vc i).ownBlock)->(∀k,u.ownBlock=some k->k<w.heap.size)->u.ownBlock=none∨u.ownBlock≠v'.ownBlock:=w_;have q:∀{u v:Value},(u.ownBlock=none∨u.ownBlock≠v.ownBlock)->v.ownBlock=none∨v.ownBlock≠u.ownBlock:=w_;refine⟨⟨h.rd.touch t ?_,h.ow.touch t (p h.ow d_ d_),h.or.touch t ?_,h.ob.touch t (p h.ob d_ d_),r,λj hj=>?_,h.fs.touch t ?_,λj l hj hl hne=>?_,λj hj=>?_,.inl h.mr,.inl h.mc,λk e=>.inl (h.mW k e),λk e=>.inl (h.mv k e),λk e=>.inl (h.mw k e),λj k hj e=>?_,λk e=>?_,λk e=>?_⟩,g,t.mono (λk _ e=>?_)⟩
 ·intro e
  rcases e with e|e
  ·grind
  exact Au (h.oc i f) e o d_ rfl
 ·intro k b e
  rcases e with e|e
  exact Au h.or b m d_ e
  rcases h.ar i f with a|a
  ·grind
  grind
 ·by_cases e:j=i
  ·grind [upd]
  rw[Oh _ _ e];show Ir w' 0 (vc j) (upd s.cols i col' j);rw[Oh _ _ e];refine(h.oc j hj).touch t ?_;intro k b c
  rcases c with c|c
  exact Au (h.oc j hj) b m d_ c
  rcases h.ap j i hj f e with a|a
  ·grind
  grind
 ·intro k b e
  rcases e with e|e
  exact(h.kk k b).2 (e ▸ h.mc);exact(h.kk k b).2 (h.mq i k f e)
 ·by_cases e1:j=i
  ·subst e1;have c:l≠j:=o_;rw[Nn,Oh _ _ c];refine q (d ?_ (λk b=>(rl_ (h.oc l hl) k b).2))
   rcases h.ap l j hl hj c with a|a
   exact .inl a
   grind
  rw[Oh _ _ e1]
  by_cases c:l=i
  ·subst c;rw[Nn];refine d ?_ (λk b=>(rl_ (h.oc j hj) k b).2)
   rcases h.ap j l hj hl e1 with a|a
   exact .inl a
   grind
  rw[Oh _ _ c];exact h.ap j l hj hl hne
 ·by_cases e1:j=i
  ·subst e1;rw[Nn];refine q (d ?_ (λk b=>(rl_ h.or k b).2))
   rcases h.ar j hj with a|a
   ·grind
   grind
  rw[Oh _ _ e1];exact h.ar j hj
 ·by_cases e1:j=i
  subst e1;rw[Nn] at e;exact .inr e;rw[Oh _ _ e1] at e;exact .inl (h.mq j k hj e)
 ·have a:=h.kk k e;refine⟨Qh a.1 t.size,λc=>?_⟩
  grind
 ·rcases e with e|e
  exact Qh (h.ml k e) t.size;exact(rl_ x k e).2
 rcases e with e|e
 exact e ▸ h.mc;exact h.mq i k f e
end
def Az{P y o a w K Q E}(R:o.guard=none) s x t (I:o.op=.call {callee:=.builtin .append,args:=#[s,x],argTypes:=#[t,t]}) f e (i:TypeInfo) z b k (S:P.underlying t=some (.slice e))(N:P.info? e=some i)(U:i.zero=some z)(p:i.size=b)(H:i.bytes=k)(F:z.cells.size=b)(D:0<b) v n B (X:a.eval s=v)(A:w.ownsRow f e b v n B) G m c (d:List Value)(L:a.eval x=.slice (some G) m c)(W:d.length=m*b)(r:∀j u,d[j]? =some u->w.cell? (G.add j)=some u)(M:∀u∈d,u.oneCell'=true)(O:0<m)(C:n+m<=maxLen)(l:(n+m)*k<=140737488355328)(q:f<=w.heap.size)(h:∀v' w',Hid (w'.ownsRow f e b v' (n+m) (B++d)/\w.grownBy w' v.ownBlock/\(v'.ownBlock=v.ownBlock∨v'.ownBlock=some w.heap.size/\Below w.heap.size w w')/\w'.ownsRow f e b v n B/\∃g cap,v'=L_ g (n+m) cap)->K (a.put o.dst v') w'):if Region.wanted o (yielded y a.tmps)=true then Oper.wp P o a w K Q else E:=by
 have T:Region.wanted o (yielded y a.tmps)=true:=(by simp[Region.wanted,R]);rw[if_pos T];obtain⟨v',w',V,J⟩:=Pc (P:=P) w f t o.type e i z b k S N U p H F D v n B A G m c d W r M O C l q;unfold Oper.wp;simp only[execOp,I,resolve,invoke,builtin,Sem.run_bind,Sem.run_pure,Result.andThen_ok,List.map_toArray,List.map_cons,List.map_nil,X,L,V];exact h _ _ J
def ZhP:(Tryz.prog.info? 3).map (λi=>(i.zero,i.size,i.bytes))=some (some (I_ 0),1,8):=k_
def uh{w w2 o}{v u:Value}(hg:(w.alloc o).drew.grownBy w2 v.ownBlock) b {j}:Aa (λk=>k=b∨v.ownBlock=some k) w (w2.setCell (A_ b j) u):=
 ((((Aa.refl (λk=>k=b∨v.ownBlock=some k) w).alloc o).drew).grown hg (λ_ e _=>.inr e)).setCell (p:=(A_ b j)) (λ_=>.inl rfl) u
def ZeW{w b:World}{o}{v a:Value}(c:a.ownBlock=v.ownBlock∨a.ownBlock=some (w.alloc o).drew.heap.size/\Below (w.alloc o).drew.heap.size (w.alloc o).drew b):a.ownBlock=v.ownBlock∨∃k,a.ownBlock=some k/\w.heap.size<=k:=by
 rcases c with h|⟨h,_⟩
 exact .inl h;exact .inr ⟨_,h,s_⟩
def Aa.trans2{S S' a b c}(h:Aa S a b)(k:Aa S' b c)(hs:∀z,S' z->S z∨a.heap.size<=z):Aa S a c:=
 ⟨k.os.trans h.os,k.tape.trans h.tape,k.output.trans h.output,Nat.le_trans h.size k.size,λi hi hn=>(k.block i (Qh hi h.size) (λe=>by rcases hs i e with e1|e1;exact hn e1;omega)).trans (h.block i hi hn)⟩
def Vp{w:World}{ty size n b j ty':Nat}{v u xs cur}(h:w.ownsRow 0 ty size v n xs)(hb:w.heap[b]? =some (.cells cur ty' (0,0)))(hne:ty≠ty'):(w.setCell (A_ b j) u).ownsRow 0 ty size v n xs:=
 ((Aa.refl (λk=>k=b) w).setCell (p:=(A_ b j)) (λ_=>rfl) u).row h (λ_ hk e=>Au h hk hb hne e)
def Ir.form{w b v L}(h:Ir w b v L):∃a c,v=.slice a L.length c:=by
 rcases h.2 with⟨rfl,h0⟩|⟨q,p,cur,rfl,_⟩
 exact⟨none,0,by rw[h0]⟩;exact⟨_,_,rfl⟩
def Ww:∀(L:List VS) (k:Nat),k<L.length->∀c,c<3->(Ic L)[k*3+c]? =(Hy (L.getD k Ax))[c]?
 |[],k,h=>by simp at h
 |e::L,0,_=>λc hc=>by simp only[Ic];rw[show 0*3+c=c by omega,List.getElem?_append_left (by simpa [Hy] using hc)];rfl
 |e::L,k+1,h=>λc hc=>by simp only[Ic];rw[List.getElem?_append_right (by simp[Hy];omega),show(k+1)*3+c-(Hy e).length=k*3+c by simp[Hy];omega];exact Ww L k (by simpa using h) c hc
def Ir.at{w d a m i L}(h:Ir w d (.slice a m i) L){k}(l:k<L.length):∃q,a=some ⟨q,0,none⟩/\q<w.heap.size/\w.cell? (A_ q (k*3))=some (.bool (L.getD k Ax).miss)/\w.cell? (A_ q (k*3+1))=some (I_ (L.getD k Ax).num)/\w.cell? (A_ q (k*3+2))=some (.string (L.getD k Ax).word):=by
 have j:=h
 rcases h.2 with⟨e,h0⟩|⟨q,p,cur,e,_⟩
 omega;injection e with e1 e2 e3;subst e1 e2 e3
 have b:=λc u hc hu=>by have:=World.ownsRow.cells j (g:=q) rfl (k*3+c) u ((Ww L k l c hc).trans hu);have f:((A_ q 0):Addr).add (k*3+c)=(A_ q (k*3+c)):=(by unfold Addr.add;split<;>simp_all);rw[f] at this;exact this
 exact⟨q,rfl,(rl_ j q rfl).2,b 0 _ o_ rfl,b 1 _ o_ rfl,b 2 _ o_ rfl⟩
def Ir.more{w a v L x}(h:w.ownsRow a 308 3 v (L.length+1) (Ic L++Hy x)):Ir w a v (L++[x]):=by
 unfold Ir;rw[Uv,Qe]
 simpa [Ic] using h
def Ot(s:RS)(k:Nat):RS:={s with ws:=s.ws++[s.wt],cols:=λi=>if i<k then s.cols i++[s.row.getD i Ax] else s.cols i}
def ZcM s:Ot s 0={s with ws:=s.ws++[s.wt]}:=by unfold Ot;have:(λi=>if i<0 then s.cols i++[s.row.getD i Ax] else s.cols i)=s.cols:=(by funext i;rw[if_neg o_]);rw[this]
def ZcL s k:{Ot s k with cols:=upd (Ot s k).cols k (s.cols k++[s.row.getD k Ax])}=Ot s (k+1):=by
 unfold Ot
 have:upd (λi=>if i<k then s.cols i++[s.row.getD i Ax] else s.cols i) k (s.cols k++[s.row.getD k Ax])=λi=>if i<k+1 then s.cols i++[s.row.getD i Ax] else s.cols i:=by
  funext i
  by_cases e:i=k
  subst e;rw[Nn,if_pos o_];rw[Oh _ _ e]
  by_cases c:i<k
  rw[if_pos c,if_pos o_];rw[if_neg c,if_neg o_]
 simp only[this]
def Zk1{w:World}{a n i b}(h:∃cur:Array Value,w.heap[a]? =some (.cells cur 251 (0,0))/\cur.size=n/\∀j,j<n->cur[j]? =some (b j))(g:i<n) v:∃cur:Array Value,(w.setCell (A_ a i) v).heap[a]? =some (.cells cur 251 (0,0))/\cur.size=n/\∀j,j<n->cur[j]? =some (upd b i v j):=by
 obtain⟨cur,f,d,c⟩:=h;refine⟨_,hs_ w _ i _ _ v f,by simp[d],λj hj=>?_⟩
 by_cases e:j=i
 subst e;rw[Array.getElem?_setIfInBounds_self_of_lt o_,Nn];rw[Array.getElem?_setIfInBounds_ne (λk=>e k.symm),Oh _ _ e];exact c j hj
def Zhn s k:(Ot s k).cols k=s.cols k:=by unfold Ot;simp
section
variable {w:World} {K M:Nat->Prop} {rb fb cb n:Nat} {wd:Nat->Bool} {sc ct:Nat->Int} {bins size:Int} {s:RS} {vW vr wv:Value} {vc:Nat->Value}
def ZcS(I:Oo w K M rb fb cb n wd sc ct bins size s vW vr wv vc)(H:s.row.length=n)(hn:n<=4)(aO:s.ws.length<=200)(a5:∀i,i<n->(s.cols i).length<=200):C_ 222 #[.pointer (some ⟨rb,0,none⟩)] w λe w'=>e=.returned (.tuple #[])/\Ze8 w K M rb fb cb n wd sc ct bins size {s with ws:=s.ws++[s.wt],cols:=λi=>if i<n then s.cols i++[s.row.getD i Ax] else s.cols i,wt:=0,fl:=false,row:=[]} w':=by
 obtain⟨i3,L,a8,a4,aA⟩:=info_parts ZhP;obtain⟨i8,O,aI,aK,aJ⟩:=info_parts Zez;obtain⟨ar,cr,J⟩:=I.or.form;rw[H] at J;subst J;obtain⟨_,c1,c2,c3,c4,c5⟩:=I.rd.head;have cf:=I.rd.part.2.2.2.2.2.2;have E:=x1_ I;have aB:=x1_ I.ow;go_enter Tryz.func222,Tryz.ntmps222;go_upto_region 0 with fail;refine Al (λw'=>w'.cell? _=some _/\w'.cell? _=some _) 15 k_ ⟨c1,c3⟩ (λhHeld=>?_);refine Ah 0 ?_;refine Ah 1 ?_;refine Ah 2 ?_;refine Ah 3 ?_;refine Ah 4 ?_;refine Ua [11,12,13,14,15] 5 (v:=?_) ?_ ?_
 rotate_left
 ·intro w d;try obtain⟨_,_⟩:=d
  go_simp;try with_reducible rfl
 try simp only[Act.put,sA,sB,sC]
 refine Ah 6 ?_;refine Ah 7 ?_;refine Ah 8 ?_;refine Ua [10,11,12,13,14,15] 9 (v:=?_) ?_ ?_
 rotate_left
 ·intro w d;try obtain⟨_,_⟩:=d
  go_simp;try with_reducible rfl
 try simp only[Act.put,sA,sB,sC]
 refine Gg (i:=10) k_ rfl (λKK hK=>?_);go_simp;refine hK _ _ ⟨by go_keep,by go_keep⟩ (λhHeld=>?_);try simp only[Act.put,sA,sB,sC]
 refine Gg (i:=11) k_ rfl (λKK hK=>?_);refine Az rfl (.tmp 9) (.tmp 14) 25 rfl 0 3 i3 (I_ 0) 1 8 Tryz.underlying25 L a8 a4 aA rfl d_ vW s.ws.length _ j_ (ra_ aB _) _ 1 1 [I_ s.wt] j_ rfl (Am w #[I_ s.wt] 3) (by intro u P;simp only[List.mem_cons,List.not_mem_nil,or_false] at P;rcases P with rfl;rfl) d_ m_ o_ s_ ?_;intro v2 U a0;obtain⟨Z,C,hd,_,t,y,rfl⟩:=a0;have h:=RB.grown (w:=w.drew.alloc _) ((hb_ w _ _ E.rd.lt).trans E.rd) C (λe=>Au E.ow e.symm E.rd d_ rfl);have e1:=h.head.2.1;have e3:=h.head.2.2.2.1;have ef:=h.part.2.2.2.2.2.2
 have aF:=E.putW (w':=U.setCell _ _) (vW':=.slice _ _ _) (ws':=s.ws++[s.wt]) (wt:=s.wt) (fl:=s.fl) (uh C _) (h.setVW _) (Ag.more (Vp Z h d_)) (ZeW hd);have D:=x1_ aF;refine hK _ _ ⟨e1,e3⟩ (λhHeld=>?_);try simp only[Act.put,sA,sB,sC]
 refine Ah 12 ?_;refine Ah 13 ?_;refine Ah 14 ?_;refine Mg (i:=15) k_ rfl k_ (λKK hK=>?_);go_simp;refine hK _ _ ?_;try simp only[Act.put,sA,sB,sC]
 refine Ak k_ ?_ _;have r:Hid (Oo (U.setCell (A_ rb 1) (L_ t (s.ws.length+1) y)) K (λk=>M k∨(L_ t (s.ws.length+1) y).ownBlock=some k) rb fb cb n wd sc ct bins size (Ot s 0) (L_ t (s.ws.length+1) y) (.slice ar n cr) wv vc/\(∀k,(M k∨(L_ t (s.ws.length+1) y).ownBlock=some k)->M k∨w.heap.size<=k)/\Aa M w (U.setCell (A_ rb 1) (L_ t (s.ws.length+1) y))):=(by rw[ZcM];exact D);have d5:=r.1.rd.head.2.2.2.2.2;generalize U.setCell (A_ rb 1) (L_ t (s.ws.length+1) y)=w3 at *;have l:∃W:_,W=(λk=>M k∨(L_ t (s.ws.length+1) y).ownBlock=some k):=⟨_,rfl⟩;obtain⟨W,l⟩:=l;have aD:Hid ((∀k,W k->M k∨w.heap.size<=k)/\Aa M w w3):=(by rw[l];exact r.2);rw[<- l] at r;generalize L_ t (s.ws.length+1) y=vW3 at *;go_wp2_with fail
 go_loopw [24] (λti wr=>∃(k:Nat) (vc':Nat->Value) (Mk:Nat->Prop),k<=n/\ti=.int .i64 k/\Hid (Oo wr K Mk rb fb cb n wd sc ct bins size (Ot s k) vW3 (.slice ar n cr) wv vc')/\Hid ((∀k,Mk k->M k∨w.heap.size<=k)/\Aa M w wr)) (λti _=>n-(intOf ti).toNat)
 case atStart=>exact⟨0,vc,W,qg_,rfl,r.1,aD⟩
 case round=>
  obtain⟨k,G,Mk,hk,rfl,c,f⟩:=hrel
  by_cases hlt:k<n
  ·obtain⟨q,rfl,aL,r0,r1,r2⟩:=c.or.at (k:=k) (by show k<s.row.length;omega);have aG:Hid ((Ot s k).row.getD k Ax=s.row.getD k _):=rfl;rw[aG] at r0 r1 r2;generalize hx:s.row.getD k Ax=x at *;have aN:0<=(k:Int):=o_;have aM:k<(n:Int):=o_;go_upto_region 4 with fail;have Q:Below _ wr (wr.alloc (.cells #[.bool x.miss,I_ x.num,.string x.word] 308)):=bA_;have b:=x1_ (c.touch (Aa.of_below (S:=λ_=>False) Q) (λ_ _=>id));have T:=x1_ (f.2.below Q)
   have aC:Hid ((G k).ownBlock≠some wr.heap.size):=λe=>by have:=(rl_ (c.oc k hlt) _ e).2;omega
   have a9:Hid (wr.heap.size<(wr.alloc (.cells #[.bool x.miss,I_ x.num,.string x.word] 308)).heap.size):=show _<_ by simp
   have aH:Hid (Ir (wr.alloc (.cells #[.bool x.miss,I_ x.num,.string x.word] 308)) 0 (G k) (s.cols k)):=(by have:=b.oc k hlt;rw[Zhn] at this;exact this);have x0:(wr.alloc (.cells #[_,I_ x.num,.string x.word] 308)).cell? _=some (.bool x.miss):=cq_ 0 _ _ _ hn_;have x1:(wr.alloc (.cells #[.bool x.miss,_,.string x.word] 308)).cell? _=some (I_ x.num):=cq_ 1 _ _ _ hn_;have x2:(wr.alloc (.cells #[.bool x.miss,I_ x.num,_] 308)).cell? _=some (.string x.word):=cq_ 2 _ _ _ hn_;have aQ:=a5 k hlt;generalize wr.alloc (.cells #[.bool x.miss,I_ x.num,.string x.word] 308)=w4 at *;have y2:=b.rd.head.2.2.1;have y4:w4.cell? (A_ cb k)=some (G k):=by obtain⟨g,V,_,Y⟩:=b.cl;exact(cq_ k _ _ _ V).trans (Y k hlt)
   refine Al (λw'=>w'.cell? _=some _/\w'.cell? _=some _/\w'.cell? _=some _/\w'.cell? _=some _/\w'.cell? _=some _) 18 k_ ⟨y2,y4,x0,x1,x2⟩ (λhHeld=>?_);refine Ah 0 ?_;refine Ah 1 ?_;refine Ah 2 ?_;refine Ah 3 ?_;refine Ua [17,18] 4 (v:=?_) ?_ ?_
   rotate_left
   ·intro w d;try obtain⟨_,_,_,_,_⟩:=d
    go_simp;try with_reducible rfl
   try simp only[Act.put,sA,sB,sC]
   refine Ah 5 ?_;refine Ah 6 ?_;refine Ah 7 ?_;refine Ah 8 ?_;refine Ah 9 ?_;refine Ua [12,13,16,17,18] 10 (v:=?_) ?_ ?_
   rotate_left
   ·intro w d;try obtain⟨_,_,_,_,_⟩:=d
    go_simp;try with_reducible rfl
   try simp only[Act.put,sA,sB,sC]
   refine Ah 11 ?_;refine Ah 12 ?_;refine Ua [16,17,18] 13 (v:=?_) ?_ ?_
   rotate_left
   ·intro w d;try obtain⟨_,_,_,_,_⟩:=d
    go_simp;try with_reducible rfl
   try simp only[Act.put,sA,sB,sC]
   refine Ua [15,16,17,18] 14 (v:=?_) ?_ ?_
   rotate_left
   ·intro w d;try obtain⟨_,_,_,_,_⟩:=d
    go_simp;try with_reducible rfl
   try simp only[Act.put,sA,sB,sC]
   refine Gg (i:=15) k_ rfl (λKK hK=>?_);go_simp;refine hK _ _ ⟨by go_keep,by go_keep,by go_keep,by go_keep,by go_keep⟩ (λhHeld=>?_);try simp only[Act.put,sA,sB,sC]
   refine Gg (i:=16) k_ rfl (λKK hK=>?_);refine Az rfl (.tmp 42) (.tmp 44) 251 rfl 0 308 i8 _ 3 32 Tryz.underlying251 O aI aK aJ rfl d_ (G k) (s.cols k).length (Ic (s.cols k)) j_ (ra_ aH _) _ 1 1 (Hy x) j_ rfl (Am w4 _ 308) (by intro u P;simp only[Hy,List.mem_cons,List.not_mem_nil,or_false] at P;rcases P with rfl|rfl|rfl<;>rfl) d_ m_ o_ s_ ?_;intro v5 w5 X;obtain⟨Z,C,hd,_,q5,p5,rfl⟩:=X
   have N:∃g:Array Value,w5.heap[cb]? =some (.cells g 251 (0,0))/\g.size=n/\∀j,j<n->g[j]? =some (G j):=by obtain⟨g,V,a2,Y⟩:=b.cl;refine⟨g,?_,a2,Y⟩;rw[C.block cb (by simp;have:=b.ml cb b.mc;omega) (λe=>Au (b.oc k hlt) e.symm V d_ rfl)];exact(hc_ (b.ml _ b.mc)).trans V
   have e2:=(RB.grown (w:=w4.drew.alloc _) ((hc_ b.rd.lt).trans b.rd) C (λe=>Au (b.oc k hlt) e.symm b.rd d_ rfl)).head.2.2.1;obtain⟨a7,m,a6,F⟩:=N;have e4:=(cq_ k _ _ _ m).trans (F k hlt);have aP:=λo=>fq_ o _ _ m;have aE:=a9.out;have A:=λo=>(cb_ (w:=w4.drew.alloc _) (a:=(A_ wr.heap.size o)) (C.block _ t_ (λe=>aC e.symm))).trans (Below.cell (B:=w4.heap.size) (w:=w4) (p:=(A_ wr.heap.size o)) ((bz_.drew).alloc s_ _) aE);have D:=x1_ (b.putCol (w':=w5.setCell _ _) (v':=.slice _ _ _) (col':=s.cols k++[x]) hlt (uh C _) (Zk1 ⟨a7,m,a6,F⟩ hlt _) (Ir.more (Vp Z m d_)) (ZeW hd));rw[<- hx,ZcL] at D
   refine hK _ _ ⟨e2,e4,(A _).trans x0,(A _).trans x1,(A _).trans x2⟩ (λhHeld=>?_);try simp only[Act.put,sA,sB,sC]
   refine Ah 17 ?_;refine Mg (i:=18) k_ rfl k_ (λKK hK=>?_);go_simp;refine hK _ _ ?_;try simp only[Act.put,sA,sB,sC]
   refine Ak k_ ?_ _;refine rd_ ?_;exact⟨k+1,_,_,o_,g_,D.1,λz hz=>(by rcases D.out.2.1 z hz with R|R;exact f.1 z R;exact .inr (by have:=T.size;omega)),T.trans2 D.2.2 f.1⟩
  obtain rfl:k=n:=o_;have g3:=c.rd.head;have gf:=c.rd.part.2.2.2.2.2.2;obtain⟨_,_,_,g3,g4,g5⟩:=g3
  have HF:=x1_ (c.putRow (w':=((wr.setCell _ _).setCell _ _).setCell _ _) (vr':=.slice none 0 0) (row':=[]) (p:=s.p) (bs:=s.bs) (wv':=wv) (wt:=0) (fl:=false)
   ((((Aa.refl _ wr).setCell (p:=(A_ rb 3)) (λ_=>.inl rfl) _).setCell (p:=(A_ rb 4)) (λ_=>.inl rfl) _).setCell (p:=(A_ rb 5)) (λ_=>.inl rfl) _)
   (((c.rd.setWt 0).setFl false).setVr _) (Ir.nil _ _) (.inr (.inl rfl))
   (Vp (Vp (Vp c.ob c.rd d_) (c.rd.setWt 0) d_) ((c.rd.setWt 0).setFl false) d_) (.inr rfl))
  have HS:Hid (({Ot s k with row:=[],p:=s.p,bs:=s.bs,wt:=0,fl:=false}:RS)={s with ws:=s.ws++[s.wt],cols:=λi=>if i<k then _ else _,wt:=0,fl:=false,row:=[]}):=rfl;go_wp2;go_end0;refine⟨rfl,⟨_,⟨_,_,_,_,HF.1⟩,λz hz=>?_⟩,f.2.trans2 HF.2.2 f.1⟩
  rcases HF.out.2.1 z hz with R|R
  exact f.1 z R;exact .inr (by have:=f.2.size;omega)
end
def Bj.nil w base:Bj w base (.slice none 0 0) []:=World.ownsRow_nil w base 5 1
def Zdt{w w2 o}{v u:Value}(hg:(w.alloc o).grownBy w2 v.ownBlock) b {j}:Aa (λk=>k=b∨v.ownBlock=some k) w (w2.setCell (A_ b j) u):=
 (((Aa.refl (λk=>k=b∨v.ownBlock=some k) w).alloc o).grown hg (λ_ e _=>.inr e)).setCell (p:=(A_ b j)) (λ_=>.inl rfl) u
def Zip{w b:World}{o}{v a:Value}(c:a.ownBlock=v.ownBlock∨a.ownBlock=some (w.alloc o).heap.size/\Below (w.alloc o).heap.size (w.alloc o) b):a.ownBlock=v.ownBlock∨∃k,a.ownBlock=some k/\w.heap.size<=k:=by
 rcases c with h|⟨h,_⟩
 exact .inl h;exact .inr ⟨_,h,s_⟩
def En(n:Nat)(wd:Nat->Bool)(sc:Nat->Int)(s:RS)(c:Int):Option RS:=
 match Be (wd s.row.length) (Cp (sc s.row.length).toNat) s.p s.bs c with
 |some q=>some {s with p:=q.1,bs:=q.2}
 |none=>if c=Eg s.row.length n/\El s.p.st=true then some (Gd n s (s.row++[Gq s.p s.bs])) else none
def Aa.undrew{S w w'}(t:Aa S w.drew w'):Aa S w w':=⟨t.os,t.tape,t.output,t.size,t.block⟩
section
variable {w:World} {K M:Nat->Prop} {rb fb cb n:Nat} {wd:Nat->Bool} {sc ct:Nat->Int} {bins size:Int} {s:RS} {vW vr wv:Value} {vc:Nat->Value}
def Zg4{p:Prop}(h:p:=by
 go_wp2_with (first|(go_at_call 219;refine(HSEP).mono ?_;rintro e w' ⟨rfl,m,rfl⟩)|(go_at_call 220;refine(HME _).mono ?_;rintro e w' ⟨rfl,hw'⟩;obtain rfl:=hw'.symm))
 go_ret;rw[HO]
 exact⟨rfl,⟨M3,⟨_,_,_,_,HXD _⟩,HM1.1⟩,HTD _⟩):p:=h
def Zy c (I:Oo w K M rb fb cb n wd sc ct bins size s vW vr wv vc)(U:Ht n s)(hn:n<=4)(aU:s.ws.length<200)(aK:∀i,i<n->wd i=false->0<=sc i/\sc i<=3):C_ 163 #[.pointer (some ⟨rb,0,none⟩),.int .u8 c] w λe w'=>e=.returned (.bool (En n wd sc s c).isSome)/\Ze8 w K M rb fb cb n wd sc ct bins size ((En n wd sc s c).getD s) w':=by
 obtain⟨i8,a8,aG,aF,aI⟩:=info_parts Zez;obtain⟨Y,cr,rfl⟩:=I.or.form;obtain⟨c0,_,_,_,_,c5⟩:=I.rd.head;obtain⟨v0,v1,v2,c6,hF⟩:=I.feat U.row;have aS:0<=(s.row.length:Int):=o_;have aQ:s.row.length<(n:Int):=(by have:=U.row;omega);have a2:=I.touch (S:=λ_=>False) (Aa.refl _ w).drew (λ_ _=>id)
 have a0:∃(f:Nat) (cs:Array Value),v0=.func (.func f) #[] cs/\C_ f (#[.pointer (some ⟨rb,6,none⟩),.int .u8 c]++cs) w.drew (λe w'=>Zan w.drew K M rb fb cb n wd sc ct bins size s vW (.slice Y s.row.length cr) vc (Be (wd s.row.length) (Cp (sc s.row.length).toNat) s.p s.bs c) e w')/\((f=209/\cs=#[])∨∃k0,f=214/\cs=#[.pointer (some ⟨k0,0,none⟩)]):=by
  rcases hF with⟨e,k1,k2,k3,e0,_⟩|⟨e,k0,k1,k2,k3,e0,_,_,_,_,_,_,h0,_⟩
  refine⟨209,#[],e0,?_,.inl ⟨rfl,rfl⟩⟩;rw[e];exact Zf9 a2 c _ U.bs;refine⟨214,_,e0,?_,.inr ⟨k0,rfl,rfl⟩⟩;have:=aK _ U.row e;have ht:=lr (sc s.row.length).toNat o_;rw[e];exact Zix a2 c _ _ h0 o_ ht.2 U.num
 obtain⟨f,cs,rfl,b,a3⟩:=a0;have HX:=x1_ I;have HI:=x1_ U;have aD:=I.fb_ne;have a5:=λk e=>(I.kk k e).2;have G:K fb:=(by obtain⟨_,_,_,h3,_⟩:=I.fs;exact h3);have o:=(I.kk _ G).1;have H:=x1_ (a5 _ G);have aV:=U.row;clear I a2 hF U a5 G
 cases hfs:Be (wd s.row.length) (Cp (sc s.row.length).toNat) s.p s.bs c with
 | some q=>
  have HO:Hid (En n wd sc s c=some {s with p:=q.1,bs:=q.2}):=(by show En n wd sc s c=_;unfold En;rw[hfs]);rw[hfs] at b;have HC:=x1_ b;clear b hfs
  rcases a3 with⟨rfl,rfl⟩|⟨k0,rfl,rfl⟩
  ·go_enter Tryz.func163,Tryz.ntmps163;go_wp2_with fail
   go_region_held3 (λw'=>w'.cell? (A_ rb 0)=some (L_ fb n n)/\w'.cell? (A_ rb 5)=some (.slice Y s.row.length cr)/\w'.cell? (A_ fb (s.row.length*3))=some (.func (.func 209) #[] #[])) (go_keep) (first|(go_at_call 209;refine(HC).mono ?_;rintro e w' ⟨rfl,⟨P,C,l,t,d⟩,z⟩;have e0:=l.rd.head.1;have e5:=l.rd.head.2.2.2.2.2;have ef:w'.cell? _=some (.func (.func 209) _ _):=(cb_ (w:=w.drew) (a:=(A_ fb (s.row.length*3))) (z.block _ o H)).trans c6;have HR:Hid (Ze8 w K M _ _ _ n _ _ _ _ _ {s with p:=q.1,bs:=q.2} _):=⟨⟨P,⟨_,_,_,_,l⟩,d⟩,z.undrew⟩;clear l t d z))
   all_goals go_wp2
   all_goals go_ret
   all_goals rw[HO]
   all_goals exact⟨rfl,HR⟩
  go_enter Tryz.func163,Tryz.ntmps163;go_wp2_with fail
  go_region_held3 (λw'=>w'.cell? (A_ rb 0)=some (L_ fb n n)/\w'.cell? (A_ rb 5)=some (.slice Y s.row.length cr)/\w'.cell? (A_ fb (s.row.length*3))=some (.func (.func 214) #[] #[P_ k0])) (go_keep) (first|(go_at_call 214;refine(HC).mono ?_;rintro e w' ⟨rfl,⟨P,C,l,t,d⟩,z⟩;have e0:=l.rd.head.1;have e5:=l.rd.head.2.2.2.2.2;have ef:w'.cell? _=some (.func (.func 214) _ _):=(cb_ (w:=w.drew) (a:=(A_ fb (s.row.length*3))) (z.block _ o H)).trans c6;have HR:Hid (Ze8 w K M _ _ _ n _ _ _ _ _ {s with p:=q.1,bs:=q.2} _):=⟨⟨P,⟨_,_,_,_,l⟩,d⟩,z.undrew⟩;clear l t d z))
  all_goals go_wp2
  all_goals go_ret
  all_goals rw[HO]
  all_goals exact⟨rfl,HR⟩
 | none=>
  rw[hfs] at b;have HC:=x1_ b
  have aA:=show Hid _ from hfs
  clear b hfs;go_enter Tryz.func163,Tryz.ntmps163;go_wp2_with fail
  go_cut [21] (λv wx=>v=.bool false/\∃M3 r,Hid (Oo wx K M3 rb fb cb n wd sc ct bins size s vW (.slice Y s.row.length cr) r vc)/\Hid ((∀k,M3 k->M k∨w.heap.size<=k)/\Aa M w wx))
  case first=>
   rcases a3 with⟨rfl,rfl⟩|⟨k0,rfl,rfl⟩
   ·go_region_held3 (λw'=>w'.cell? (A_ rb 0)=some (L_ fb n n)/\w'.cell? (A_ rb 5)=some (.slice Y s.row.length cr)/\w'.cell? (A_ fb (s.row.length*3))=some (.func (.func 209) #[] #[])) (go_keep) (first|(go_at_call 209;refine(HC).mono ?_;rintro e w' ⟨rfl,⟨P,C,l,t,d⟩,z⟩;have e0:=l.rd.head.1;have e5:=l.rd.head.2.2.2.2.2;have ef:w'.cell? _=some (.func (.func 209) _ _):=(cb_ (w:=w.drew) (a:=(A_ fb (s.row.length*3))) (z.block _ o H)).trans c6;have HR:Hid (∃M3 r,Hid (Oo w' K M3 rb fb cb n wd sc ct _ _ s vW _ r vc)/\Hid ((∀k,M3 k->M k∨w.heap.size<=k)/\_)):=⟨P,C,l,d,z.undrew⟩;clear l t d z))
    all_goals go_wp2
    all_goals go_meet
    all_goals exact⟨rfl,HR⟩
   go_region_held3 (λw'=>w'.cell? (A_ rb 0)=some (L_ fb n n)/\w'.cell? (A_ rb 5)=some (.slice Y s.row.length cr)/\w'.cell? (A_ fb (s.row.length*3))=some (.func (.func 214) #[] #[P_ k0])) (go_keep) (first|(go_at_call 214;refine(HC).mono ?_;rintro e w' ⟨rfl,⟨P,C,l,t,d⟩,z⟩;have e0:=l.rd.head.1;have e5:=l.rd.head.2.2.2.2.2;have ef:w'.cell? _=some (.func (.func 214) _ _):=(cb_ (w:=w.drew) (a:=(A_ fb (s.row.length*3))) (z.block _ o H)).trans c6;have HR:Hid (∃M3 r,Hid (Oo w' K M3 rb fb cb n wd sc ct _ _ s vW _ r vc)/\Hid ((∀k,M3 k->M k∨w.heap.size<=k)/\_)):=⟨P,C,l,d,z.undrew⟩;clear l t d z))
   all_goals go_wp2
   all_goals go_meet
   all_goals exact⟨rfl,HR⟩
  case rest=>
   obtain⟨rfl,M3,r,L,HM1⟩:=hcut;clear c0 c5 c6 o H HC a3;have HSEP:=x1_ (qp _ _ n n _ _ _ _ _ _ _ _ _ L.rd o_ o_);have HME:Hid (∀m,Calls _ _ _ _ λe w'=>e=.returned (.bool (El s.p.st))/\_):=λm=>Zdh _ _ _ _ _ _ _ {s.p with wv:=r} (wc.drewN m) L.rd;have HXD:Hid (∀m,Oo (wc.drewN m) K _ _ _ _ n _ _ _ _ _ s _ _ _ _):=λm=>L.touch (S:=λ_=>False) ⟨rfl,rfl,rfl,qa_,λ_ _ _=>rfl⟩ (λ_ _=>id);have HTD:Hid (∀m,Aa M w (wc.drewN m)):=λm=>⟨HM1.2.os,HM1.2.tape,HM1.2.output,HM1.2.size,HM1.2.block⟩;have g:Hid (En n wd sc s c=if c=Eg s.row.length n/\El s.p.st=true then some (Gd n s (s.row++[Gq s.p s.bs])) else none):=(by show En n wd sc s c=_;unfold En;rw[aA]);clear aA
   by_cases hc:c=Eg s.row.length n
   ·by_cases hm:El s.p.st=true
    ·have HO:Hid (En n wd sc s c=some (Gd n s (s.row++[Gq s.p s.bs]))):=(by show _=_;rw[g,if_pos ⟨hc,hm⟩]);rw[hm] at HME;rw[<- hc] at HSEP;clear hc hm g;go_upto_region 5 with(first|(go_at_call 219;refine(HSEP).mono ?_;rintro e w' ⟨rfl,m,rfl⟩)|(go_at_call 220;refine(HME _).mono ?_;rintro e w' ⟨rfl,hw'⟩;obtain rfl:=hw'.symm))
     have x:=x1_ ((HXD m).touch (S:=λ_=>False) (Aa.refl _ _).drew (λ_ _=>id));have a9:=x1_ ((HTD m).drew);clear HXD HTD HSEP HME L;generalize wc.drewN m=w3 at *;have aR:=HI.num.le;have aT:=HI.num.n0;have R:Hid (C_ 221 _ w3.drew λe w'=>e=.returned (.agg #[.bool (decide (s.p.st=0)),.int .i64 (Qv s.p),.string (strOfNums s.bs)])/\_):=Zgw _ 0 _ _ _ _ _ _ {s.p with wv:=r} _ _ ⟨x.rd,x.ob⟩ (by show _<=s.p.num;omega) (by show s.p.num<=_;omega);have a6:=x.rd.head.2.2.2.2.2;refine Al (λw'=>w'.cell? _=some _) 13 k_ a6 (λhHeld=>?_);refine Ah 0 ?_;refine Ah 1 ?_;refine Ah 2 ?_;refine Ah 3 ?_;refine Ah 4 ?_;refine Ah 5 ?_;refine Ah 6 ?_;refine Ah 7 ?_;refine Gg (i:=8) k_ rfl (λKK hK=>?_);go_simp;refine(R).mono ?_
     rintro e w4 ⟨rfl,O⟩;have d5:=(O.cell (p:=(A_ rb 5)) x.rd.lt).trans x.rd.head.2.2.2.2.2;have y:=x1_ (x.touch (Aa.of_below (S:=λ_=>False) O) (λ_ _=>id));have a4:=x1_ (a9.below O);clear O;go_simp;refine hK _ _ d5 (λhHeld=>?_);clear hK KK;try simp only[Act.put,sA,sB,sC]
     refine Gg (i:=9) k_ rfl (λKK hK=>?_);go_simp;refine hK _ _ (by go_keep) (λhHeld=>?_);clear hK KK;try simp only[Act.put,sA,sB,sC]
     refine Gg (i:=10) k_ rfl (λKK hK=>?_);refine Az rfl (.tmp 37) (.tmp 42) 251 rfl 0 308 i8 _ 3 32 Tryz.underlying251 a8 aG aF aI rfl d_ (.slice Y s.row.length cr) s.row.length (Ic s.row) j_ (ra_ y.or _) _ 1 1 (Hy (Gq s.p s.bs)) j_ rfl (Am w4 _ 308) (by intro u hu;simp only[Hy,List.mem_cons,List.not_mem_nil,or_false] at hu;rcases hu with rfl|rfl|rfl<;>rfl) d_ m_ o_ s_ ?_;intro v5 w5 aC;obtain⟨ho,hg,hd,_,T,Q,rfl⟩:=aC;have A:=RB.grown (w:=w4.alloc _) ((hc_ y.rd.lt).trans y.rd) hg (λe=>Au y.or e.symm y.rd d_ rfl);have e5:=A.head.2.2.2.2.2;have aP:=A.part.2.2.2.2.2.2
     have a7:=(((((((A.setVr (L_ T (s.row.length+1) Q)).st 0).neg false).dig 0).unit 0).num 0).wv (.slice none 0 0));have t6:=((((((Zdt (u:=L_ T (s.row.length+1) Q) (j:=5) hg rb).setCell (p:=(A_ rb 6)) (λ_=>.inl rfl) (I_ 0)).setCell (p:=(A_ rb 7)) (λ_=>.inl rfl) (.bool false)).setCell (p:=(A_ rb 8)) (λ_=>.inl rfl) (I_ 0)).setCell (p:=(A_ rb 9)) (λ_=>.inl rfl) (I_ 0)).setCell (p:=(A_ rb 10)) (λ_=>.inl rfl) (I_ 0)).setCell (p:=(A_ rb 11)) (λ_=>.inl rfl) (.slice none 0 0);have E:=Ir.more ho
     have F:=((((((Aa.refl (λk=>k=rb) w5).setCell (p:=(A_ rb 5)) (λ_=>rfl) (L_ T (s.row.length+1) Q)).setCell (p:=(A_ rb 6)) (λ_=>rfl) (I_ 0)).setCell (p:=(A_ rb 7)) (λ_=>rfl) (.bool false)).setCell (p:=(A_ rb 8)) (λ_=>rfl) (I_ 0)).setCell (p:=(A_ rb 9)) (λ_=>rfl) (I_ 0)).setCell (p:=(A_ rb 10)) (λ_=>rfl) (I_ 0);have HP:=x1_ (y.putRow (s:=s) (p:=part0) (bs:=[]) (wt:=s.wt) (fl:=s.fl) t6 a7 (E.touch (F.setCell (p:=(A_ rb 11)) (λ_=>rfl) _) (λk hk e=>Au E hk A d_ e)) (by rcases Zip hd with J|J;exact .inl J;exact .inr (.inr J)) (Bj.nil _ _) (.inl rfl));have aH:(w5.setCell _ (L_ T (s.row.length+1) Q)).cell? _=_:=(A.setVr _).head.2.2.2.2.2;have dp:=(A.setVr (L_ T (s.row.length+1) Q)).part;obtain⟨g6,g7,g8,g9,aE,aM,gf⟩:=dp
     clear ho hg hd A a7 t6 E F;refine hK _ _ e5 (λhHeld=>?_);clear hK KK;try simp only[Act.put,sA,sB,sC]
     refine Ah 11 ?_;refine Ah 12 ?_;refine Mg (i:=13) k_ rfl k_ (λKK hK=>?_);go_simp;refine hK _ _ ?_;clear hK KK;try simp only[Act.put,sA,sB,sC]
     refine Ak k_ ?_ _;have Z:=x1_ HP;clear HP R x a9 hHeld d5 e5 aP a6;go_upto_region 7 with fail;clear g6 g7 g8 g9 aE aM gf aH;generalize (((((((w5.setCell (A_ rb 5) (L_ T (s.row.length+1) Q)).setCell (A_ rb 6) (I_ 0)).setCell (A_ rb 7) (.bool false)).setCell (A_ rb 8) (I_ 0)).setCell (A_ rb 9) (I_ 0)).setCell (A_ rb 10) (I_ 0)).setCell (A_ rb 11) (.slice none 0 0))=w6 at *;obtain⟨M6,W⟩:∃M6:Nat->Prop,M6=(λk=>M3 k∨(L_ T (s.row.length+1) Q).ownBlock=some k):=⟨_,rfl⟩;have V:Hid ((∀k,M6 k->M3 k∨w4.heap.size<=k)/\Aa M3 w4 w6):=(by rw[W];exact Z.2);have N:Hid (Oo w6 K M6 rb fb cb n wd sc ct bins size {s with row:=s.row++[Gq s.p s.bs],p:=part0,bs:=[]} vW (L_ T (s.row.length+1) Q) (.slice none 0 0) vc):=by rw[W];exact Z.1
     have B:=x1_ (a4.trans2 V.2 HM1.1)
     have X:Hid (∀k,M6 k->M k∨w.heap.size<=k):=λk hk=>by
      rcases V.out.1 k hk with J|J
      exact HM1.1 k J;exact .inr (by have:=a4.size;omega)
     have g0:=N.rd.head.1;have g5:=N.rd.head.2.2.2.2.2
     have aO:∀i,_->(s.cols i).length<=200:=λi hi=>by rw[HI.col i hi];omega
     clear W Z V y a4 HM1
     by_cases hl:s.row.length+1=n
     ·have a1:Hid (Gd n s (s.row++[Gq s.p s.bs])={({s with row:=s.row++[Gq s.p s.bs],p:=part0,bs:=[]}:RS) with ws:=s.ws++[s.wt],cols:=λi=>if i<n then s.cols i++[(s.row++[Gq s.p s.bs]).getD i Ax] else s.cols i,wt:=0,fl:=false,row:=[]}):=by show _=_;unfold Gd;rw[if_pos (by simp;exact hl)]
      have aL:Hid (∀m,C_ 222 #[.pointer (some ⟨rb,0,none⟩)] (w6.drewN m) λe w'=>e=.returned (.tuple #[])/\Ze8 (w6.drewN m) K M6 rb fb cb n wd sc ct bins size {({s with row:=s.row++[Gq s.p s.bs],p:=part0,bs:=[]}:RS) with ws:=s.ws++[s.wt],cols:=λi=>if i<n then s.cols i++[(s.row++[Gq s.p s.bs]).getD i Ax] else s.cols i,wt:=0,fl:=false,row:=[]} w'):=λm=>ZcS (w:=w6.drewN m) (N.touch (w':=w6.drewN m) (S:=λ_=>False) ⟨rfl,rfl,rfl,qa_,λ_ _ _=>rfl⟩ (λ_ _=>id)) (by simp;exact hl) hn (by show s.ws.length<=200;omega) aO;have e1:((s.row.length+1:Nat)==(n:Int))=true:=t_;have e2:((s.row.length+1)==(n:Int))=true:=t_;go_big_quiet (fail);go_wp2_with (go_at_call 222;refine(aL _).mono ?_;rintro e w7 ⟨rfl,hL⟩)
      go_ret;rw[HO,a1];obtain⟨⟨P,aJ,aN⟩,D⟩:=hL;refine⟨rfl,⟨P,aJ,λk hk=>?_⟩,B.trans2 ⟨D.os,D.tape,D.output,D.size,D.block⟩ X⟩
      rcases aN k hk with J|J
      exact X k J;exact .inr (Nat.le_trans B.size J)
     have a1:Hid (Gd n s (s.row++[Gq s.p s.bs])={s with row:=s.row++[Gq s.p s.bs],p:=part0,bs:=[]}):=(by show _=_;unfold Gd;rw[if_neg (by simp;exact hl)]);have e1:(((s.row.length+1:_):_)==(n:Int))=_:=beq_eq_false_iff_ne.2 o_;have e2:(((s.row.length:_)+1)==(n:Int))=_:=beq_eq_false_iff_ne.2 o_;go_big_quiet (fail);go_wp2;go_ret;rw[HO,a1];exact⟨rfl,⟨M6,⟨_,_,_,_,N.touch (S:=λ_=>False) ⟨rfl,rfl,rfl,qa_,λ_ _ _=>rfl⟩ (λ_ _=>id)⟩,X⟩,⟨B.os,B.tape,B.output,B.size,B.block⟩⟩
    have aB:El s.p.st=false:=by simpa using hm
    have HO:Hid (En n wd sc s c=none):=(by show _=_;rw[g,if_neg (λh=>hm h.2)]);rw[aB] at HME;rw[<- hc] at HSEP;clear hc hm aB g;exact Zg4
   have HO:Hid (En n wd sc s c=none):=(by show _=_;rw[g,if_neg (λh=>hc h.1)]);have aW:=beq_eq_false_iff_ne.2 hc;generalize Eg s.row.length n=sp at *;clear g;exact Zg4
end
def ZfD{w b v L}(h:Ag w b v L):∃a c,v=.slice a L.length c:=by
 rcases h.2 with⟨rfl,h0⟩|⟨q,p,cur,rfl,_⟩
 ·grind
 grind
def ZkB(w:World)(K M:Nat->Prop)(rb fb cb n:Nat)(wd:Nat->Bool)(sc ct:Nat->Int)(bins size:Int)(o:Except Int RS)(e:Ending)(w':World):Prop:=
 match o with
 |.error z=>e=.returned (.int .i64 z)/\Aa M w w'
 |.ok s'=>e=.returned (.int .i64 0)/\Ze8 w K M rb fb cb n wd sc ct bins size s' w'
def Ht.take{n f d s g c}(h:Ht n s)(j:1<=n)(e:∀i,i<n->f i=false->0<=d i/\d i<=3)(a:Cw n f d s c=.ok g):Ht n g:=by
 unfold Cw at a;split at a
 ·cases a
 rename_i h200;split at a
 ·split at a
  ·cases a
  injection a with a;subst a;exact⟨h.ws,h.col,h.wt0,h.wt1,h.row,h.num,h.bs⟩;rename_i z hz;injection a with a;subst a;have:=qz hz;exact⟨h.ws,h.col,w_,w_,h.row,h.num,h.bs⟩
 split at a
 ·rename_i p bs hf;injection a with a;subst a
  have b:Fv p/\bs.length<=8:=by
   unfold Be at hf;split at hf
   ·cases hq:Bt s.p.st s.bs c with
    |none=>grind
    | some q=>
     rw[hq] at hf;injection hf with hf;injection hf with h1 h2;subst h1 h2;exact⟨h.num.st _,Zae hq h.bs⟩
   rename_i hw
   cases hq:Bz (Cp (d s.row.length).toNat) s.p c with
   |none=>grind
   | some q=>
    rw[hq] at hf;injection hf with hf;injection hf with h1 h2;subst h1 h2;have:=e _ h.row (by simpa using hw);have a:=lr (d s.row.length).toNat o_;exact⟨h.num.step a.1 a.2 hq,h.bs⟩
  exact⟨h.ws,h.col,h.wt0,h.wt1,h.row,b.1,b.2⟩
 split at a
 ·injection a with a;subst a;unfold Gd;split;rename_i hl;refine⟨?_,λi hi=>?_,Int.le_refl 0,w_,by show 0<n;omega,Fv.part0,qg_⟩;show(s.ws++[s.wt]).length<=200;have:=h.ws;simp;omega;show(if i<n then s.cols i++[(s.row++[Gq s.p s.bs]).getD i Ax] else s.cols i).length=(s.ws++[s.wt]).length;rw[if_pos hi];have:=h.col i hi;simp[this];rename_i hl;have:=h.row;refine⟨h.ws,h.col,h.wt0,h.wt1,?_,Fv.part0,qg_⟩
  grind
 cases a
section
variable {w:World} {K M:Nat->Prop} {rb fb cb n:Nat} {wd:Nat->Bool} {sc ct:Nat->Int} {bins size:Int} {s:RS}
def ZiU c (I:RdM w K M rb fb cb n wd sc ct bins size s)(m:Ht n s)(H:n<=4)(u:∀i,i<n->wd i=false->0<=sc i/\sc i<=3)(y:0<=c)(v:c<=255):C_ 98 #[.pointer (some ⟨rb,0,none⟩),.int .u8 c] w λe w'=>ZkB w K M rb fb cb n wd sc ct bins size (Cw n wd sc s c) e w':=by
 obtain⟨N,R,B,T,a⟩:=I;obtain⟨Q,P,b⟩:=ZfD a.ow
 by_cases h200:s.ws.length=200
 have f:Hid (Cw n wd sc s c=_):=if_pos h200;rw[h200] at b;subst b;refine(Zgr _ _ _ _ _ _ _ _ _ c w a.rd).mono ?_;rintro e w' ⟨rfl,rfl⟩;rw[f];exact⟨rfl,Aa.refl _ _⟩;have g:s.ws.length<200:=(by have:=m.ws;omega);subst b
 cases hfl:s.fl with
 | false=>
  have j:=a.rd;rw[hfl] at j;refine(Zb2 _ _ _ _ _ _ _ _ _ c w j g m.wt0 m.wt1 y v).mono ?_;rintro e w' ⟨rfl,O,d⟩
  have f:Cw n wd sc s c=match Bd s.wt c with|none=>.error 2|some none=>.ok {s with fl:=true}|some (some z)=>.ok {s with wt:=z}:=by grind [Cw]
  rw[f];obtain⟨D,d⟩:=d;have t:Aa (λk=>k=_∨some k=B.ownBlock) w _:=(Aa.refl _ w).grown D (λk hk _=>.inl (by injection hk with hk;exact hk.symm))
  have q:=t.mono (λk _ e=>by
   rcases e with e|e
   exact e ▸ a.mr
   exact a.mw k e.symm)
  have h:=a.ob.touch ((Aa.refl (λk=>k=rb) w).grown D (λk hk _=>w_)) (λk hk e=>by
   obtain⟨G,F⟩:=Ad a.ob hk
   exact a.ne_of_type F d_ e)
  have A:∀k,(M k∨B.ownBlock=some k)->M k∨w.heap.size<=k:=λk e=>by
   rcases e with e|e
   exact .inl e;exact .inl (a.mw k e)
  rcases hw:Bd s.wt c with _|_|z
  exact⟨rfl,q⟩
  ·skip
   rw[hw] at d;exact⟨rfl,⟨_,⟨_,_,_,_,a.rewrite (p:=s.p) (bs:=s.bs) (wt:=s.wt) (fl:=true) t d.2 h (.inl rfl)⟩,A⟩,q⟩
  skip
  rw[hw] at d;have l:=d.2;rw[<- hfl] at l;exact⟨rfl,⟨_,⟨_,_,_,_,a.rewrite (p:=s.p) (bs:=s.bs) (wt:=z) (fl:=s.fl) t l h (.inl rfl)⟩,A⟩,q⟩
 | true=>
  have o:=x1_ (Zy c a m H g u)
  have f:Hid (Cw n wd sc s c=match En n wd sc s c with|some s'=>.ok s'|none=>.error 2):=by
   show Cw n wd sc s c=_
   grind [Cw,En]
  obtain⟨_,S,_,_,J,_⟩:=a.rd.head;rw[hfl] at J;have L:((s.ws.length:Int)==200)=_:=beq_eq_false_iff_ne.2 o_;have C:¬(s.ws.length:Int)=200:=o_;rw[f]
  cases hout:En n wd sc s c with
  | none=>
   rw[hout] at o;go_enter Tryz.func98,Tryz.ntmps98;go_wp2_with fail
   refine o.mono ?_;rintro e E ⟨rfl,r⟩
   have x:=show Hid _ from r
   simp only[Option.isSome];go_wp2;go_ret;exact⟨rfl,x.2⟩
  | some s'=>
   rw[hout] at o;go_enter Tryz.func98,Tryz.ntmps98;go_wp2_with fail
   refine o.mono ?_;rintro e E ⟨rfl,r⟩
   have x:=show Hid _ from r
   simp only[Option.isSome];go_wp2;go_ret;exact⟨rfl,x⟩
end
def Aq(b:ByteArray):List Int:=b.data.toList.map (λu=>u.toNat)
def Ca(n:Nat)(wd:Nat->Bool)(sc:Nat->Int):RS->List Int->Nat->Except (Int×Nat) RS
 |s,[],_=>.ok s
 | s,c::r,k=>match Cw n wd sc s c with
  |.error z=>.error (z,k)
  |.ok s'=>Ca n wd sc s' r (k+1)
def Jf n wd sc:∀a b s k,Ca n wd sc s (a++b) k=match Ca n wd sc s a k with
  |.error z=>.error z
  |.ok s'=>Ca n wd sc s' b (k+a.length)
 |[],b,s,k=>by simp[Ca]
 | c ::a,b,s,k=>by
  simp only[List.cons_append,Ca]
  cases Cw n wd sc s c with
  |error z=>rfl
  | ok s'=>
   have:=Jf n wd sc a b s' (k+1)
   grind
def Ht.takes{n wd sc}(hn:1<=n)(hsc:∀i,i<n->wd i=false->0<=sc i/\sc i<=3):∀l {s s' k},Ht n s->Ca n wd sc s l k=.ok s'->Ht n s'
 |[],s,s',k,h,e=>by injection e with e;subst e;exact h
 | c::l,s,s',k,h,e=>by
  simp only[Ca] at e
  cases ht:Cw n wd sc s c with
  |error z=>grind
  |ok s1=>rw[ht] at e;exact Ht.takes hn hsc l (h.take hn hsc ht) e
def uk{n a b s c z}(h:Cw n a b s c=.error z):z=2∨z=3:=by grind [Cw]
structure InX(w:World)(K M)(ib tb rb fb cb n:Nat)(wd)(sc ct)(bins size budget)(s)(len:Nat):Prop where
 ik:w.heap[ib]? =some (.cells #[P_ tb,.bool false,I_ 0,I_ 0] 119 (0,0))
 tx:w.heap[tb]? =some (.cells #[L_ fb n n,I_ budget,P_ rb,I_ len] 158 (0,0))
 rd:RdM w K M rb fb cb n wd sc ct bins size s
 ni:¬K ib/\¬M ib
 nt:¬K tb/\¬M tb
section
variable {w:World} {K M:Nat->Prop} {ib tb rb fb cb n:Nat} {wd:Nat->Bool} {sc ct:Nat->Int} {bins size budget:Int} {s:RS} {len:Nat}
def InX.ne(h:InX w K M ib tb rb fb cb n wd sc ct bins size budget s len):ib≠tb:=λe=>by have h1:=h.ik;rw[e,h.tx] at h1;simp at h1
def Ze6(w:World)(K M:Nat->Prop)(ib tb rb fb cb n:Nat)(wd:Nat->Bool)(sc ct:Nat->Int)(bins size budget:Int)(len:Nat)(o:Except (Int×Nat) RS)(w':World):Prop:=
 (match o with
 |.error (z,p)=>w'.heap[ib]? =some (.cells #[.pointer none,.bool false,.int .i64 z,.int .i64 p] 119 (0,0))
 |.ok s'=>∃M',InX w' K M' ib tb rb fb cb n wd sc ct bins size budget s' len/\(∀k,M' k->M k∨w.heap.size<=k))/\Aa (λk=>M k∨k=ib∨k=tb) w w'
def Zc9 b (hX:InX w K M ib tb rb fb cb n wd sc ct bins size budget s len)(hI:Ht n s)(V:1<=n)(hn:n<=4)(H:∀i,i<n->wd i=false->0<=sc i/\sc i<=3)(Y:len+b.size<=4000000000000000000):C_ 58 #[.pointer (some ⟨ib,0,none⟩),.string b] w λe w'=>e=.returned (.tuple #[])/\Ze6 w K M ib tb rb fb cb n wd sc ct bins size budget (len+b.size) (Ca n wd sc s (Aq b) len) w':=by
 have Z:=x1_ hX;go_enter Tryz.func58,Tryz.ntmps58;go_wp2_with fail
 go_loopw [8] (λti wr=>∃(k:Nat) (C:RS) (J:Nat->Prop),k<=b.size/\ti=.int .i64 k/\Hid (Ca n wd sc s ((Aq b).take k) len=.ok C)/\Hid (InX wr K J ib tb rb fb cb n wd sc ct bins size budget C (len+k))/\Hid ((∀z,J z->M z∨w.heap.size<=z)/\Aa (λz=>M z∨z=ib∨z=tb) w wr)) (λti _=>b.size-(intOf ti).toNat)
 case atStart=>exact⟨0,s,M,qg_,rfl,rfl,Z,λ_ e=>.inl e,Aa.refl _ _⟩
 case round=>
  obtain⟨k,C,J,hk,rfl,X,a,m⟩:=hrel;have i0:=cR_ 0 a.ik;have i2:=cR_ 2 a.ik;have i3:=cR_ 3 a.ik;have t2:=cR_ 2 a.tx
  by_cases hlt:k<b.size
  ·have a1:0<=(k:Int):=o_;have a0:k<(b.size:Int):=o_;go_upto_region 3 with fail;have HC:Hid (Calls _ 98 #[_,.int .u8 (b[k].toNat:Int)] _ λe w'=>_):=ZiU (w:=wr.drew) _ (a.rd.touch (w':=wr.drew) (S:=λ_=>False) (Aa.refl _ _).drew (λ_ _=>id)) (Ht.takes V H _ hI X) hn H o_ (by have:=UInt8.toNat_lt b[k];omega);refine Al (λw'=>w'.cell? _=some _/\w'.cell? _=some _) 10 k_ ⟨i0,t2⟩ (λhHeld=>?_);refine Ah 0 ?_;refine Ah 1 ?_;refine Ah 2 ?_;refine Ua [4,5,6,10,11] 3 (v:=?_) ?_ ?_
   rotate_left
   ·intro w A;try obtain⟨_,_⟩:=A
    go_simp;try with_reducible rfl
   try simp only[Act.put,sA,sB,sC]
   refine Ah 4 ?_;refine Ah 5 ?_;refine Ua [10,11] 6 (v:=?_) ?_ ?_
   rotate_left
   ·intro w A;try obtain⟨_,_⟩:=A
    go_simp;try with_reducible rfl
   try simp only[Act.put,sA,sB,sC]
   refine Ah 7 ?_;refine Ah 8 ?_;refine Ah 9 ?_;refine Ai (i:=10) k_ rfl k_ (λKK hK=>?_);go_simp;refine(HC).mono ?_;intro e F D;have B:=x1_ D
   have he:∃z:Int,e=.returned (I_ z):=by
    unfold ZkB at D
    cases E:Cw n wd sc C (b[k].toNat:Int) with
    |error z=>rw[E] at D;exact⟨z,D.1⟩
    |ok s'=>rw[E] at D;exact⟨0,D.1⟩
   obtain⟨z,rfl⟩:=he;go_simp;refine hK _ _ ?_;try simp only[Act.put,sA,sB,sC]
   refine Ai (i:=11) k_ rfl k_ (λKK hK=>?_);go_simp;refine hK _ _ ?_;try simp only[Act.put,sA,sB,sC]
   refine Ak k_ ?_ _;have P:Hid ((Aq b).take (k+1)=(Aq b).take k++[(b[k].toNat:Int)]):=(by show _=_;rw[Qi (by unfold Aq;rw[List.length_map];exact hlt)];congr 2;simp only[Aq,List.getElem_map];rfl);have j:Hid (Ca n wd sc s ((Aq b).take (k+1)) len=match Cw n wd sc C b[k].toNat with|.error z=>.error (z,len+k)|.ok s'=>.ok s'):=(by show _=_;rw[P,Jf,X];have hl:((Aq b).take k).length=k:=(by rw[List.length_take];unfold Aq;rw[List.length_map];exact Nat.min_eq_left hk);simp only[hl,Ca]);have U:=a.ne
   cases hrt:Cw n wd sc C (b[k].toNat:Int) with
   | error y=>
    rw[hrt] at B j;have t:Hid (_/\_):=⟨by have:=B.1;injection this,B.2⟩;obtain⟨x,E⟩:=t;injection x with _ x;subst x;have g:=E.undrew;have f:=g.at_ a.ik a.ni.2;have d:=g.at_ a.tx a.nt.2;have j0:=cR_ 0 f;have j2:=cR_ 2 f;have j3:=cR_ 3 f;have jf:=λo=>fq_ o _ _ f;have x3:=cR_ 3 d;have I:(((F.setCell (A_ ib 2) (I_ z)).setCell (A_ ib 3) (I_ (len+k:Nat))).setCell (A_ ib 0) (.pointer none)).heap[ib]? =some (.cells #[.pointer none,.bool false,I_ z,I_ (len+k:Nat)] 119 (0,0)):=ht_ 0 _ _ _ (ht_ 3 _ _ _ (ht_ 2 _ _ _ f))
    have l:Hid (Ze6 w K M ib tb rb fb cb n wd sc ct bins size budget (len+b.size) (Ca n wd sc s (Aq b) len) (((F.setCell (A_ ib 2) (I_ z)).setCell (A_ ib 3) (I_ (len+k:Nat))).setCell (A_ ib 0) (.pointer none))):=(by have e:Ca n wd sc s (Aq b) len=.error (z,len+k):=(by have:Aq b=(Aq b).take (k+1)++(Aq b).drop (k+1):=(List.take_append_drop _ _).symm;rw[this,Jf,j]);rw[e];refine⟨I,?_⟩;have t1:=m.2.trans2 g (λq u=>by rcases m.out.1 q u with c|c;exact .inl (.inl c);exact .inr c);exact((t1.setCell (p:=(A_ ib 2)) (λ_=>.inr (.inl rfl)) _).setCell (p:=(A_ ib 3)) (λ_=>.inr (.inl rfl)) _).setCell (p:=(A_ ib 0)) (λ_=>.inr (.inl rfl)) _);have HZ:=x1_ (uk hrt)
    rcases HZ.out with rfl|rfl
    ·go_wp2;exact bodyPost_ret (results_none rfl _ _ _) rfl ⟨rfl,l⟩
    go_wp2;exact bodyPost_ret (results_none rfl _ _ _) rfl ⟨rfl,l⟩
   | ok s1=>
    rw[hrt] at B j;have t:Hid (_/\_):=⟨by have:=B.1;injection this,B.2⟩;obtain⟨x,⟨O,R,r⟩,E⟩:=t;injection x with _ x;subst x;have g:=E.undrew;have f:=g.at_ a.ik a.ni.2;have d:=g.at_ a.tx a.nt.2;have j0:=cR_ 0 f;have x3:=cR_ 3 d;have xf:=λo=>fq_ o _ _ d;have L:=(Qb a.ik).1;have Q:=(Qb a.tx).1
    have W:¬_:=λe=>by rcases r ib e with c|c;exact a.ni.2 c;exact absurd L (by simpa using c)
    have G:¬_:=λe=>by rcases r tb e with c|c;exact a.nt.2 c;exact absurd Q (by simpa using c)
    have N:Hid (InX (F.setCell (A_ tb 3) (I_ ((len+k:Nat)+1))) K O ib tb rb fb cb n wd sc ct bins size budget s1 (len+(k+1))):=by
     refine⟨(Below.heap_setCell _ _ _ _ (λe=>U e)).trans f,?_,R.touch ((Aa.refl (λq=>q=tb) _).setCell (p:=(A_ tb 3)) (λ_=>rfl) _) ?_,⟨a.ni.1,W⟩,⟨a.nt.1,G⟩⟩;have:=hs_ F tb 3 _ 158 (I_ (((len+k:Nat):Int)+1)) d;rw[this];have:(((len+k:Nat):Int)+1)=((len+(k+1):Nat):Int):=o_;rw[this];rfl;intro q u e;subst e
     rcases u with c|c
     exact a.nt.1 c;exact G c
    have T:Hid ((∀q,O q->M q∨w.heap.size<=q)/\Aa (λq=>M q∨q=ib∨q=tb) w (F.setCell (A_ tb 3) (I_ ((len+k:Nat)+1)))):=by
     refine⟨λq u=>?_,?_⟩
     ·rcases r q u with c|c
      exact m.1 q c;exact .inr (Nat.le_trans m.2.size c)
     exact(m.2.trans2 g (λq u=>by rcases m.out.1 q u with c|c;exact .inl (.inl c);exact .inr c)).setCell (p:=(A_ tb 3)) (λ_=>.inr (.inr rfl)) _
    have a2:_=((len+k:_):Int)+1:=Cb o_ o_;generalize ((len+k:Nat):Int)=lk at *;go_wp2;go_roundw;case rel=>exact⟨k+1,s1,O,o_,g_,j,N,T⟩
    case measure=>exact z_
  obtain rfl:k=b.size:=o_;have HE:Hid ((Aq b).take b.size=_):=List.take_of_length_le (by unfold Aq;rw[List.length_map];exact qa_);go_wp2;go_end0;refine⟨rfl,?_,m.2⟩;rw[<- HE,X];exact⟨J,a,m.1⟩
end
def Nr:Except (Int×Nat) RS->Int×Int
  |.error (z,p)=>(z,p)
  |.ok _=>(0,0)
def Sl(w:World)(ib:Nat)(cl:Bool)(z p:Int):Prop:=w.heap[ib]? =some (.cells #[.pointer none,.bool cl,I_ z,I_ p] 119 (0,0))
section
variable {w:World} {K M:Nat->Prop} {ib tb rb fb cb n:Nat} {wd:Nat->Bool} {sc ct:Nat->Int} {bins size budget:Int} {s:RS} {len:Nat}
def Ze6.drewN{o c}(h:Ze6 w K M ib tb rb fb cb n wd sc ct bins size budget len o c) m:Ze6 w K M ib tb rb fb cb n wd sc ct bins size budget len o (c.drewN m):=by
 obtain⟨d,a⟩:=h;refine⟨?_,⟨a.os,a.tape,a.output,a.size,a.block⟩⟩
 cases o with
 |error q=>exact d
 | ok s'=>
  obtain⟨e,b,f⟩:=d;exact⟨e,⟨b.ik,b.tx,b.rd.touch (c:=c.drewN m) (S:=λ_=>False) ⟨rfl,rfl,rfl,qa_,λ_ _ _=>rfl⟩ (λ_ _=>id),b.ni,b.nt⟩,f⟩
def Zhz b (a:InX w K M ib tb rb fb cb n wd sc ct bins size budget s len)(o:Ht n s)(f:1<=n)(l:n<=4)(g:∀i,i<n->wd i=false->0<=sc i/\sc i<=3)(d:len+b.size<=4000000000000000000):C_ 32 #[.pointer (some ⟨ib,0,none⟩),.string b] w λe w'=>e=.returned (.tuple #[.int .i64 (Nr (Ca n wd sc s (Aq b) len)).1,.int .i64 (Nr (Ca n wd sc s (Aq b) len)).2])/\Ze6 w K M ib tb rb fb cb n wd sc ct bins size budget (len+b.size) (Ca n wd sc s (Aq b) len) w':=by
 have m:=x1_ (Zc9 b a o f l g d);have v:=cR_ 1 a.ik;have u:=cR_ 2 a.ik;go_enter Tryz.func32,Tryz.ntmps32;go_wp2_with fail
 refine m.mono ?_;rintro e h ⟨rfl,c⟩;have k:=x1_ c
 have j:h.cell? (A_ ib 2)=some (I_ (Nr (Ca n wd sc s (Aq b) len)).1)/\h.cell? (A_ ib 3)=some (I_ (Nr (Ca n wd sc s (Aq b) len)).2):=by
  cases hr:Ca n wd sc s (Aq b) len with
  | error q=>
   rw[hr] at c;exact⟨cq_ 2 _ _ _ c.1,cq_ 3 _ _ _ c.1⟩
  | ok s'=>
   rw[hr] at c;obtain⟨⟨p,a,_⟩,_⟩:=c;exact⟨cq_ 2 _ _ _ a.ik,cq_ 3 _ _ _ a.ik⟩
 obtain⟨r,t⟩:=j;go_wp2_with fail
 go_big_quiet (fail);go_wp2;go_ret2
 exact⟨rfl,k.drewN _⟩
end
def ZcU b a z p w (h:Sl w a false z p)(c:z=2∨z=3):C_ 32 #[.pointer (some ⟨a,0,none⟩),.string b] w λe w'=>e=.returned (.tuple #[.int .i64 z,.int .i64 p])/\∃m,w'=w.drewN m:=by
 have f:=cR_ 1 h;have d:=cR_ 2 h;have g:=cR_ 3 h
 rcases c with rfl|rfl
 all_goals go_enter Tryz.func32,Tryz.ntmps32
 all_goals go_wp2_with fail
 all_goals go_big_quiet (fail)
 all_goals go_wp2
 all_goals go_ret2
 all_goals exact⟨rfl,_,rfl⟩
def ZaR b a z p w (h:Sl w a true z p):C_ 32 #[.pointer (some ⟨a,0,none⟩),.string b] w λe w'=>e=.returned (.tuple #[.int .i64 1,.int .i64 0])/\w'=w:=by
 have c:=cR_ 1 h;go_enter Tryz.func32,Tryz.ntmps32;go_wp2;go_ret2
 exact⟨rfl,rfl⟩
def Ld S k:Ib S k 0=Cj (Dt S k):=by unfold Ib Cj;simp
def Zdf S k:Vi S k 0=Gm (Dt S k):=by unfold Vi Gm;simp
def Ge S k b:Bw S k 0 b=decide (Dt S k=b):=by unfold Bw;simp
def ZiG S k (h:Dt S k≠34):ki S k=Pe (Dt S k):=by grind [ki,Pe,Zdf,Ge]
def ql(S:ByteArray)(wd:Bool)(u:Int):Nat->Cm->List Int->Nat->Option (Cm×List Int)
 |0,p,bs,_=>some (p,bs)
 | m+1,p,bs,k=>match Be wd u p bs (Dt S k) with
  |some q=>ql S wd u m q.1 q.2 (k+1)
  |none=>none
def Fg(S:ByteArray)(wd:Bool)(u:Int)(p:Cm)(bs:List Int)(k:Nat)(p':Cm)(bs':List Int)(k':Nat):Prop:=∃m,k'=k+m/\ql S wd u m p bs k=some (p',bs')
section
variable {S:ByteArray} {wd:Bool} {u:Int} {p p' p'':Cm} {bs bs' bs'':List Int} {k k' k'':Nat}
def Fg.refl:Fg S wd u p bs k p bs k:=⟨0,rfl,rfl⟩
def ZbV:∀(a b:Nat) (p:Cm) (bs:List Int) (k:Nat),ql S wd u (a+b) p bs k=(ql S wd u a p bs k).bind (λq=>ql S wd u b q.1 q.2 (k+a))
 |0,b,p,bs,k=>by simp[ql]
 | a +1,b,p,bs,k=>by
  rw[show a+1+b=(a+b)+1 by omega];simp only[ql]
  cases Be wd u p bs (Dt S k) with
  |none=>rfl
  | some q=>
   simp only;rw[ZbV a b q.1 q.2 (k+1),show k+1+a=k+(a+1) by omega]
def Fg.trans(h:Fg S wd u p bs k p' bs' k')(g:Fg S wd u p' bs' k' p'' bs'' k''):Fg S wd u p bs k p'' bs'' k'':=by obtain⟨a,rfl,h⟩:=h;obtain⟨b,rfl,g⟩:=g;exact⟨a+b,o_,by rw[ZbV,h];exact g⟩
def Fg.one(h:Be wd u p bs (Dt S k)=some (p',bs')):Fg S wd u p bs k p' bs' (k+1):=⟨1,rfl,by simp[ql,h]⟩
end
def pD(mi zero:Bool)(u n:Int)(j:Nat):Cm:=⟨if zero=true then 2 else 3,mi,j,u,n*u,.slice none 0 0⟩
def ZeP S u b a:∀f j n k,1<=j->f+j=5->(a=true->j=1)->Fg S false u (pD b a u n j) [] k (pD b a u (No S 0 a f j n k).1 (No S 0 a f j n k).2.1) [] (No S 0 a f j n k).2.2/\1<=(No S 0 a f j n k).2.1/\(a=true->(No S 0 a f j n k).2.1=1)/\(a=true∨(No S 0 a f j n k).2.1=5∨Cj (Dt S (No S 0 a f j n k).2.2)=false)
 |0,j,n,k,hj,hf,hz=>by simp only[No];exact⟨.refl,hj,hz,.inr (.inl o_)⟩
 | f + 1,j,n,k,hj,hf,hz=>by
  unfold No;split
  ·rename_i hc
   have hz0:a=false:=by
    cases a
    rfl
    grind
   subst hz0;have c:=ZeP S u b false f (j+1) (10*n+(Dt S k-48)) (k+1) o_ o_ s_;refine⟨Fg.trans (Fg.one ?_) c.1,c.2⟩;have d:Cj (Dt S k)=true:=(by rw[<- Ld];exact hc.1);unfold Be Bz pD Iv
   grind
  rename_i hc;simp only;refine⟨.refl,hj,hz,?_⟩
  grind [Ld]
def p1(mi:Bool):Cm:=if mi=true then {part0 with st:=1,neg:=true} else part0
def Zft S u a k (h:Cj (Dt S k)=true):Be false u (p1 a) [] (Dt S k)=some (pD a (decide (Dt S k=48)) u (Dt S k-48) 1,[]):=by
 have b:=Kn h
 grind [Be,Bz,p1,part0,Oa,Gy,pD]
def Zkh S u b k:(Cj (Dt S k)=true/\(Md S k 0 5 true).2.2.2=0/\∃zero,Fg S false u (p1 b) [] k (pD b zero u (Md S k 0 5 true).1 (Md S k 0 5 true).2.1) [] (Md S k 0 5 true).2.2.1/\(zero=true∨(Md S k 0 5 true).2.1=5∨Cj (Dt S (Md S k 0 5 true).2.2.1)=false))∨(Cj (Dt S k)=false/\Md S k 0 5 true=(0,0,k,2)):=by
 have e:Md S k 0 5 true=(_,_,_,_):=if_neg s_
 cases hd:Cj (Dt S k) with
 | true=>
  have a:No S 0 (Bw S k 0 48) 5 0 0 k=No S 0 (Bw S k 0 48) 4 1 (Dt S k-48) (k+1):=by
   conv=>lhs;unfold No
   rw[if_pos ⟨by rw[Ld];exact hd,s_⟩];simp
  rw[a] at e;obtain⟨c,f,g,d⟩:=ZeP S u b (Bw S k 0 48) 4 1 (Dt S k-48) (k+1) o_ o_ (λ_=>rfl);rw[e];refine .inl ⟨rfl,if_neg o_,Bw S k 0 _,Fg.trans (Fg.one ?_) c,d⟩;rw[Ge];exact Zft S u _ k hd
 | false=>
  have a:No S 0 (Bw S k 0 48) 5 0 0 k=(0,0,k):=(by unfold No;rw[if_neg (λh=>by rw[Ld,hd] at h;grind)]);rw[a] at e;exact .inr ⟨rfl,e⟩
def Ya:∀k,Cp k=10^k
 |0=>rfl
 |k+1=>by rw[Cp,Ya k,Int.pow_succ]
def pF(mi:Bool)(j:Nat)(st:Int)(l:Nat)(m:Int):Cm:=⟨st,mi,j,10^l,m*10^l,.slice none 0 0⟩
def jn{l}(h:0<l):(10:Int)^l≠1:=by obtain⟨l,rfl⟩:∃l',l=l'+1:=⟨l-1,o_⟩;omega
def Zet S u a j:∀l m k st,(st=4∨st=5)->∃st',(st'=5∨st'=st/\(Va S 0 l m k).2.2=k)/\Fg S false u (pF a j st l m) [] k (pF a j st' (Va S 0 l m k).2.1 (Va S 0 l m k).1) [] (Va S 0 l m k).2.2/\((Va S 0 l m k).2.1=0∨Cj (Dt S (Va S 0 l m k).2.2)=false)
 |0,m,k,st,hs=>⟨st,.inr ⟨rfl,rfl⟩,.refl,.inl rfl⟩
 | l +1,m,k,st,hs=>by
  unfold Va;split
  ·rename_i hc;have hd:Cj (Dt S k)=true:=(by rw[<- Ld];exact hc);obtain⟨st',h1,h2,h3⟩:=Zet S u a j l (10*m+(Dt S k-48)) (k+1) 5 (.inr rfl);refine⟨5,.inl rfl,?_,h3⟩
   have h5:st'=5:=by rcases h1 with h|h;exact h;exact h.1
   subst h5;refine Fg.trans (Fg.one ?_) h2;have c:=jn (show 0<l+1 by omega);have d:(10:Int)^(l+1)/10=10^l:=by rw[Int.pow_succ];omega
   have b:m*10^(l+1)+(Dt S k-48)*10^l=(10*m+(Dt S k-48))*10^l:=(by rw[Int.add_mul,Int.pow_succ,Int.mul_assoc 10 m,<- Int.mul_assoc m,Int.mul_comm (m*10^l) 10]);unfold Be Bz pF Hj
   grind
  rename_i hc;exact⟨st,.inr ⟨rfl,rfl⟩,.refl,.inr (by rw[<- Ld];grind)⟩
def ZhF S z:∀l m k,k<=(Va S z l m k).2.2
 |0,m,k=>qa_
 | l+1,m,k=>by
  unfold Va;split;have:=ZhF S z l (10*m+(Dt S k-48)) (k+1);omega
  grind
def ZhE S l m k:Va S 2 l m k=(m,l,k):=by
 cases l with
 |zero=>rfl
 |succ l=>unfold Va;rw[if_neg (by unfold Ib;simp)]
def Zlp S b a u n j k (h:a=true∨j=5∨Cj (Dt S k)=false)(c:¬(Dt S k=46/\u≠1)):Be false u (pD b a u n j) [] (Dt S k)=none:=by grind [Be,Bz,pD,Iv,Iz]
def Zil S c a b n j k (h:Dt S k=46)(d:0<b):Be false (Cp b) (pD c a (Cp b) n j) [] (Dt S k)=some (pF c j 4 b n,[]):=by
 have e:=jn d;unfold Be Bz pD pF
 grind [Ya,Iv,Cj,Iz]
def ZjC S k a:∃p,Fg S false (Cp a) part0 [] k p [] (bp S k 0 a).2.1/\Be false (Cp a) p [] (Dt S (bp S k 0 a).2.1)=none/\(((bp S k 0 a).2.2=0/\El p.st=true/\p.st≠0/\Qv p=(bp S k 0 a).1)∨((bp S k 0 a).2.2=2/\(El p.st=false∨(bp S k 0 a).2.1=k))):=by
 have f:Fg S false (Cp a) part0 [] k (p1 (Bw S k 0 45)) [] (if Bw S k 0 45=true then k+1 else k):=by
  cases c:Bw S k 0 45 with
  |false=>exact .refl
  | true=>
   rw[Ge] at c;have c:=of_decide_eq_true c;refine Fg.one ?_;rw[c];rfl
 have o:Bw S k 0 _=false->(if Bw S k 0 _=true then k+1 else k)=k/\Dt S k≠45:=λh=>⟨by rw[h];rfl,λe=>by rw[Ge,decide_eq_true e] at h;cases h⟩;unfold bp;simp only;generalize Bw S k 0 45=mi at *;generalize (if mi=true then k+1 else k)=k1 at *
 rcases Zkh S (Cp a) mi k1 with⟨_,hz,zero,hr,he⟩|⟨hd,e⟩
 ·generalize Md S k1 0 5 true=A at *;obtain⟨n,j,b,r⟩:=A;simp only at hz hr he;subst hz;unfold ptF;split
  ·rename_i hc;rw[Ge,decide_eq_true_eq] at hc;have i:=(f.trans hr).trans (Fg.one (Zil S _ _ _ n j _ hc.1 hc.2))
   cases hd:Cj (Dt S (b+1)) with
   | true=>
    have e0:Ib S (b+1) 0=true:=(by rw[Ld];exact hd);simp only[e0,if_true];obtain⟨d,m,q,s⟩:=Zet S (Cp a) mi j a n (b+1) 4 (.inl rfl)
    have g:d=5:=by
     rcases m with h|⟨_,h⟩
     exact h;exfalso;obtain⟨l,rfl⟩:∃l',a=l'+1:=⟨a-1,o_⟩
     grind [Va,ZhF]
    subst g;generalize Va S 0 a n (b+1)=B at *;refine⟨_,i.trans q,?_,.inl ⟨by trivial,rfl,by simp[pF],?_⟩⟩
    ·grind [Be,Bz,pF,Hj]
    unfold Qv pF
    cases mi<;>rfl
   | false=>
    have e0:Ib S (b+1) 0=false:=(by rw[Ld,hd]);simp only[e0,Bool.false_eq_true,if_false];rw[show wrg 0=2 from rfl,ZhE];refine⟨_,i,?_,.inr ⟨by trivial,.inl rfl⟩⟩;unfold Be Bz pF Hj;simp[hd]
  rename_i hc;rw[Ge,decide_eq_true_eq] at hc;refine⟨_,f.trans hr,Zlp S _ _ _ n j _ he (λh=>hc ⟨h.1,Nat.pos_of_ne_zero λe=>h.2 (by rw[e];rfl)⟩),.inl ⟨rfl,?_,?_,?_⟩⟩
  ·cases zero<;>rfl
  ·cases zero<;>simp[pD]
  grind [Qv,pD,Ya]
 rw[e];simp only;have e0:ptF S k1 2 a 0=_:=if_neg (λh=>by unfold Bw at h;simp at h);rw[e0];refine⟨_,f,?_,.inr ⟨rfl,?_⟩⟩
 ·grind [Be,Bz,p1,part0,Oa,Gy]
 cases mi
 ·grind
 exact .inl rfl
def pW(st:Int):Cm:={part0 with st:=st}
def me{S u st a k o}(h:Bt st a (Dt S k)=o):Be true u (pW st) a (Dt S k)=o.map (λq=>(pW q.1,q.2)):=by unfold Be;rw[if_pos rfl];show(Bt st a (Dt S k)).map _=_;rw[h];rfl
def Zj3{S k bs}(h:bs.length=8∨Gm (Dt S k)=false):Jc bs (Dt S k)=none:=if_neg λh2=>w_
def ZfJ{c}(h:Gm c=true):c≠34:=λe=>by rw[e] at h;exact absurd h d_
def Zbh S u:∀f bs k st,(st=0∨st=6)->bs.length+f=8->∃st',(st'=6∨st'=st/\(Lh S f bs k).2=k)/\Fg S true u (pW st) bs k (pW st') (Lh S f bs k).1 (Lh S f bs k).2/\((Lh S f bs k).1.length=8∨Gm (Dt S (Lh S f bs k).2)=false)
 |0,bs,k,st,hs,hb=>⟨st,.inr ⟨rfl,rfl⟩,.refl,.inl (by simpa [Lh] using hb)⟩
 | f + 1,bs,k,st,hs,hb=>by
  unfold Lh;split
  ·rename_i hc;rw[Zdf] at hc;obtain⟨st',h1,h2,h3⟩:=Zbh S u f (bs++[Dt S k]) (k+1) 6 (.inr rfl) t_
   have h6:st'=6:=by rcases h1 with h|h;exact h;exact h.1
   subst h6;refine⟨6,.inl rfl,Fg.trans (Fg.one ?_) h2,h3⟩;have b:Jc bs _=_:=if_pos ⟨hc,o_⟩
   have a:Bt st bs (Dt S k)=some (6,bs++[Dt S k]):=by
    unfold Bt
    rcases hs with rfl|rfl
    rw[if_pos rfl,if_neg (ZfJ hc)];exact b
    grind
   exact me a
  rename_i hc;rw[Zdf] at hc;exact⟨st,.inr ⟨rfl,rfl⟩,.refl,.inr (Bool.eq_false_iff.2 hc)⟩
def zi S u:∀f bs k,bs.length+f=9->bs.length<=8->∃st,Fg S true u (pW 7) bs k (pW st) (Zt S f bs k).1 (Zt S f bs k).2.1/\Bt st (Zt S f bs k).1 (Dt S (Zt S f bs k).2.1)=none/\(((Zt S f bs k).2.2=0/\st=8)∨((Zt S f bs k).2.2=2/\st=7))
 |0,bs,k,hb,h8=>o_
 | f + 1,bs,k,hb,h8=>by
  unfold Zt;split
  ·rename_i hq;rw[Ge,decide_eq_true_eq] at hq;have r1:Fg S _ u (pW 7) _ k (pW 8) bs _:=Fg.one (me (o:=some (8,bs)) (by rw[hq];rfl));split
   ·rename_i hc;rw[Ge,decide_eq_true_eq] at hc;obtain⟨st,h1,h2,h3⟩:=zi S u f (bs++[34]) (k+2) t_ t_;refine⟨st,r1.trans (Fg.trans (Fg.one (k:=k+1) (me (o:=some (7,bs++[34])) ?_)) h1),h2,h3⟩
    grind [Bt,Kh]
   grind [Ge,Bt,Kh]
  rename_i hq;rw[Ge,decide_eq_true_eq] at hq;split
  ·rename_i hc;rw[ZiG S k hq] at hc;obtain⟨st,h1,h2,h3⟩:=zi S u f (bs++[Dt S k]) (k+1) t_ t_;refine⟨st,Fg.trans (Fg.one (me (o:=some (7,bs++[Dt S k])) ?_)) h1,h2,h3⟩
   grind [Bt,Sx]
  rename_i hc;rw[ZiG S k hq] at hc;refine⟨7,.refl,?_,.inr ⟨rfl,rfl⟩⟩
  grind [Bt,Sx]
def Zkw S k u:∃st,Fg S true u part0 [] k (pW st) (ae S k).1 (ae S k).2.1/\Be true u (pW st) (ae S k).1 (Dt S (ae S k).2.1)=none/\(((ae S k).2.2=0/\El st=true/\(st≠0∨(ae S k).2.1=k))∨((ae S k).2.2=2/\El st=false)):=by
 unfold ae;split
 ·rename_i hq;rw[Ge,decide_eq_true_eq] at hq;obtain⟨st,b,a,c⟩:=zi S u 9 [] (k+1) rfl s_;refine⟨st,Fg.trans (Fg.one (me (st:=0) (o:=some _) (by rw[hq];rfl))) b,me (o:=none) a,?_⟩
  rcases c with⟨e,rfl⟩|⟨e,rfl⟩
  exact .inl ⟨e,rfl,.inl d_⟩;exact .inr ⟨e,rfl⟩
 rename_i hq;rw[Ge,decide_eq_true_eq] at hq;obtain⟨st,b,a,c⟩:=Zbh S u 8 [] k 0 (.inl rfl) rfl;refine⟨st,a,me (o:=none) ?_,.inl ⟨rfl,?_,?_⟩⟩
 ·grind [Zj3,Bt]
 ·rcases b with rfl|⟨rfl,e⟩<;>rfl
 grind
def Xq(S:ByteArray)(n:Nat)(wd:Nat->Bool)(sc:Nat->Int):Nat->RS->Nat->Except (Int×Nat) RS
 |0,s,_=>.ok s
 | m+1,s,k=>match Cw n wd sc s (Dt S k) with
  |.error z=>.error (z,k)
  |.ok s'=>Xq S n wd sc m s' (k+1)
def Hu(S:ByteArray)(n:Nat)(wd:Nat->Bool)(sc:Nat->Int)(s:RS)(k:Nat)(s':RS)(k':Nat):Prop:=∃m,k'=k+m/\Xq S n wd sc m s k=.ok s'
section
variable {S:ByteArray} {n:Nat} {wd:Nat->Bool} {sc:Nat->Int} {s s' s'':RS} {k k' k'':Nat}
def Hu.refl:Hu S n wd sc s k s k:=⟨0,rfl,rfl⟩
def jx:∀(a b:Nat) (s:RS) (k:Nat),Xq S n wd sc (a+b) s k=match Xq S n wd sc a s k with
  |.error z=>.error z
  |.ok s'=>Xq S n wd sc b s' (k+a)
 |0,b,s,k=>by simp[Xq]
 | a +1,b,s,k=>by
  rw[show a+1+b=(a+b)+1 by omega];simp only[Xq]
  cases Cw n wd sc s (Dt S k) with
  |error z=>rfl
  | ok q=>
   simp only;rw[jx a b q (k+1),show k+1+a=k+(a+1) by omega]
def Hu.trans(h:Hu S n wd sc s k s' k')(g:Hu S n wd sc s' k' s'' k''):Hu S n wd sc s k s'' k'':=by obtain⟨a,rfl,h⟩:=h;obtain⟨b,rfl,g⟩:=g;exact⟨a+b,o_,by rw[jx,h];exact g⟩
def Hu.one(h:Cw n wd sc s (Dt S k)=.ok s'):Hu S n wd sc s k s' (k+1):=⟨1,rfl,by simp[Xq,h]⟩
def ZiC{c p a}(b:s.ws.length≠200)(d:s.fl=true)(h:Be (wd s.row.length) (Cp (sc s.row.length).toNat) s.p s.bs c=some (p,a)):Cw n wd sc s c=.ok {s with p:=p,a:=a}:=by grind [Cw]
def Xp{c}(d:s.ws.length≠200)(e:s.fl=true)(h:Be (wd s.row.length) (Cp (sc s.row.length).toNat) s.p s.bs c=none)(a:c=Eg s.row.length n)(b:El s.p.st=true):Cw n wd sc s c=.ok (Gd n s (s.row++[Gq s.p s.bs])):=by grind [Cw]
def Rx{c}(b:s.ws.length≠200)(d:s.fl=true)(h:Be (wd s.row.length) (Cp (sc s.row.length).toNat) s.p s.bs c=none)(a:c≠Eg s.row.length n∨El s.p.st=false):Cw n wd sc s c=.error 2:=by grind [Cw]
def Fg.up{b a}(c:s.ws.length≠200)(d:s.fl=true)(h:Fg S (wd s.row.length) (Cp (sc s.row.length).toNat) s.p s.bs k b a k'):Hu S n wd sc s k {s with p:=b,bs:=a} k':=by
 obtain⟨m,rfl,h⟩:=h
 induction m generalizing s k with
 | zero=>
  simp only[ql,Option.some.injEq,Prod.mk.injEq] at h;obtain⟨rfl,rfl⟩:=h;exact .refl
 | succ m ih=>
  simp only[ql] at h
  cases hq:Be (wd s.row.length) (Cp (sc s.row.length).toNat) s.p s.bs (Dt S k) with
  |none=>grind
  | some q=>
   rw[hq] at h;have e:=Hu.one (ZiC (n:=n) c d hq);have f:=ih (s:={s with p:=q.1,bs:=q.2}) (k:=k+1) c d h;rw[show k+(m+1)=k+1+m by omega];exact e.trans f
def Yx{p b}{a}:Gd n {s with p:=p,b:=b} a=Gd n s a:=by unfold Gd;split<;>rfl
def Xk{b}:Mr S k 2 b=k/\Ni S k 2 b=2:=by have e:Bw S k 2 b=false:=(by unfold Bw;simp);unfold Mr Ni;rw[e];exact⟨rfl,rfl⟩
def Zdk{b}:(Dt S k=b/\Mr S k 0 b=k+1/\Ni S k 0 b=0)∨(Dt S k≠b/\Mr S k 0 b=k/\Ni S k 0 b=2):=by
 unfold Mr Ni;rw[Ge]
 by_cases h:Dt S k=b
 ·grind
 rw[decide_eq_false h];exact .inr ⟨h,rfl,rfl⟩
def ZjH(j:s.ws.length≠200)(i:s.fl=true)(l:s.p=part0)(o:s.bs=[]):((br S k (wd s.row.length) (sc s.row.length).toNat (Eg s.row.length n)).2.2=0/\Hu S n wd sc s k (Gd n s (s.row++[(br S k (wd s.row.length) (sc s.row.length).toNat (Eg s.row.length n)).1])) (br S k (wd s.row.length) (sc s.row.length).toNat (Eg s.row.length n)).2.1)∨((br S k (wd s.row.length) (sc s.row.length).toNat (Eg s.row.length n)).2.2=2/\∃s',Hu S n wd sc s k s' (br S k (wd s.row.length) (sc s.row.length).toNat (Eg s.row.length n)).2.1/\s'.wt=s.wt/\Cw n wd sc s' (Dt S (br S k (wd s.row.length) (sc s.row.length).toNat (Eg s.row.length n)).2.1)=.error 2):=by
 have m:Eg s.row.length n=10∨Eg s.row.length n=44:=(by unfold Eg;split;exact .inl rfl;exact .inr rfl);unfold br;split
 ·rename_i hs;rw[Ge,decide_eq_true_eq] at hs;refine .inl ⟨rfl,Hu.one ?_⟩
  have v:Be (wd s.row.length) (Cp (sc s.row.length).toNat) s.p s.bs (Dt S k)=none:=by
   rw[l,o,hs]
   cases wd s.row.length<;>rcases m with e|e<;>rw[e]<;>rfl
  rw[Xp j i v hs (by rw[l];rfl),l,o];rfl
 rename_i hs;rw[Ge,decide_eq_true_eq] at hs;split
 ·rename_i a;obtain⟨g,q,d,f⟩:=Zkw S k (Cp (sc s.row.length).toNat);generalize ae S k=r at *;have t:Hu S n wd _ s k _ _:=Fg.up j i (by rw[l,o,a];exact q);rw[<- a] at d
  rcases f with⟨hz,hm,f⟩|⟨hz,hm⟩
  ·rw[hz]
   rcases Zdk (S:=S) (k:=r.2.1) (b:=Eg s.row.length n) with⟨e1,e2,e3⟩|⟨e1,e2,e3⟩
   ·rw[e2,e3]
    have c:g≠0:=by
     rcases f with h|h
     exact h
     grind
    refine .inl ⟨rfl,t.trans (Hu.one ?_)⟩;rw[Xp (s:={s with p:=pW g,bs:=r.1}) j i d e1 hm,Yx];have u:Gq (pW g) r.1=⟨false,0,strOfNums r.1⟩:=by unfold Gq;rw[show(pW g).st=g from rfl,decide_eq_false c];rfl
    grind
   grind [Rx]
  grind [Xk,Rx,pW]
 rename_i a;have a:=Bool.eq_false_iff.2 a;obtain⟨p,q,d,f⟩:=ZjC S k (sc s.row.length).toNat;generalize bp S k 0 (sc s.row.length).toNat=r at *;have t:Hu S n wd _ s k _ _:=Fg.up j i (by rw[l,o,a];exact q);rw[<- a] at d
 rcases f with⟨hz,hm,c,u⟩|⟨hz,hm⟩
 ·rw[hz]
  rcases Zdk (S:=S) (k:=r.2.1) (b:=Eg s.row.length n) with⟨e1,e2,e3⟩|⟨e1,e2,e3⟩
  rw[e2,e3];refine .inl ⟨rfl,t.trans (Hu.one ?_)⟩;rw[Xp (s:={s with p:=p,bs:=[]}) j i d e1 hm,Yx];simp only[Gq,decide_eq_false c,u];rfl
  grind [Rx]
 grind [Xk,Rx]
def ZjF(n:Nat)(s:RS)(F:List VS):RS:=⟨s.ws++[s.wt],λi=>if i<n then s.cols i++[F.getD i Ax] else s.cols i,0,false,[],part0,[]⟩
def Zev:∀(f:Nat)(s:RS)(k:Nat),s.ws.length≠200->s.fl=true->s.p=part0->s.bs=[]->s.row.length+(f+1)=n->((St S n wd sc (f+1) s.row.length s.row k).2.2=0/\Hu S n wd sc s k (ZjF n s (St S n wd sc (f+1) s.row.length s.row k).1) (St S n wd sc (f+1) s.row.length s.row k).2.1)∨((St S n wd sc (f+1) s.row.length s.row k).2.2=2/\∃s',Hu S n wd sc s k s' (St S n wd sc (f+1) s.row.length s.row k).2.1/\s'.wt=s.wt/\Cw n wd sc s' (Dt S (St S n wd sc (f+1) s.row.length s.row k).2.1)=.error 2)
 | f,s,k,hw,hf,hp,hb,hn=>by
  have h:=ZjH (S:=S) (n:=n) (wd:=wd) (sc:=sc) (k:=k) hw hf hp hb;unfold St;simp only;generalize br S k (wd s.row.length) (sc s.row.length).toNat (Eg s.row.length n)=r at *
  rcases h with⟨hz,h1⟩|⟨hz,s',h1,h2,h3⟩
  ·rw[if_pos hz]
   cases f with
   | zero=>
    refine .inl ⟨rfl,?_⟩;have e:Gd n s _=ZjF n s (_++[r.1]):=if_pos (by rw[Qe];simpa using hn);rw[e] at h1;exact h1
   | succ f=>
    have e:Gd n s (s.row++[r.1])=_:=if_neg w_;rw[e] at h1;have ih:=Zev f {s with row:=s.row++[r.1],p:=part0,bs:=[]} r.2.1 hw hf rfl rfl t_;simp only[Qe,List.length_singleton] at ih
    rcases ih with⟨g1,g2⟩|⟨g1,s',g2,g3,g4⟩
    exact .inl ⟨g1,h1.trans g2⟩;exact .inr ⟨g1,s',h1.trans g2,g3,g4⟩
  grind
def Ra{c}(a:s.ws.length≠200)(b:s.fl=false):Cw n wd sc s c=match Bd s.wt c with
  |none=>.error 2
  |some none=>.ok {s with fl:=true}
  |some (some z)=>.ok {s with wt:=z}:=by
 grind [Cw]
def Zkf S k s (g:s.ws.length≠200)(i:s.fl=false)(j:s.wt=0):((Md S k 0 2 false).2.2.2=0/\1<=(Md S k 0 2 false).1/\Hu S n wd sc s k {s with wt:=(Md S k 0 2 false).1} (Md S k 0 2 false).2.2.1/\(Dt S (Md S k 0 2 false).2.2.1≠44->Cw n wd sc {s with wt:=(Md S k 0 2 false).1} (Dt S (Md S k 0 2 false).2.2.1)=.error 2))∨
  (Md S k 0 2 false=(0,0,k,2)/\Cw n wd sc s (Dt S k)=.error 2):=by
 by_cases hc:Cj (Dt S k)=true/\Dt S k≠48
 ·have c:=Kn hc.1;have e0:Bw S k 0 48=false:=(by rw[Ge,decide_eq_false hc.2]);have a:Ib S k 0=true:=by rw[Ld];exact hc.1
  have d:Hu S n wd sc s k {s with wt:=Dt S k-48} (k+1):=Hu.one (by grind [Ra,Bd])
  cases hd1:Cj (Dt S (k+1)) with
  | true=>
   have f:=Kn hd1;have b:Ib S (k+1) 0=true:=by rw[Ld];exact hd1
   have e:Md S k 0 2 false=(10*(Dt S k-48)+(Dt S (k+1)-48),2,k+2,0):=(by unfold Md;rw[e0,if_neg s_];simp[No,a,b]);rw[e];refine .inl ⟨rfl,by simp only;omega,d.trans (Hu.one ?_),λh44=>?_⟩
   ·grind [Ra,Bd]
   grind [Ra,Bd]
  | false=>
   grind [Ib,Md,No,Cw,Cj,Bd]
 refine .inr ⟨?_,?_⟩
 ·unfold Md;rw[Ge]
  by_cases h48:Dt S k=48
  rw[if_pos ⟨decide_eq_true h48,rfl⟩];rfl;have c:Ib S k 0=false:=(by rw[Ld,Bool.eq_false_iff];exact λh=>hc ⟨h,h48⟩);rw[if_neg (by simp[h48])];simp[No,c];rfl
 grind [Ra,Bd,Cj]
end
structure Bnd(s:RS):Prop where
 fl:s.fl=false
 wt:s.wt=0
 row:s.row=[]
 p:s.p=part0
 bs:s.bs=[]
section
variable {S:ByteArray} {n:Nat} {wd:Nat->Bool} {sc:Nat->Int}
def Zks(y:1<=n) s k (g:s.ws.length≠200)(u:Bnd s):((Zu S n wd sc k).2.2.2=0/\Hu S n wd sc s k (ZjF n {s with wt:=(Zu S n wd sc k).1} (Zu S n wd sc k).2.1) (Zu S n wd sc k).2.2.1)∨
  ((Zu S n wd sc k).2.2.2=2/\∃s',Hu S n wd sc s k s' (Zu S n wd sc k).2.2.1/\Cw n wd sc s' (Dt S (Zu S n wd sc k).2.2.1)=.error 2/\((Zu S n wd sc k).2.2.1=k∨s'.wt≠0)):=by
 obtain⟨c,a,v,x,w,p,z⟩:=s;obtain⟨h,t,o,q,i⟩:=u;simp only at h t o q i g;subst h t o q i;unfold Zu;simp only
 rcases Zkf (n:=n) (wd:=wd) (sc:=sc) S k ⟨c,a,0,false,[],part0,[]⟩ g rfl rfl with⟨h1,h2,h3,h4⟩|⟨h1,h2⟩
 ·generalize Md S k 0 2 false=A at *;obtain⟨wt,j,e,B⟩:=A;simp only at *;subst h1
  rcases Zdk (S:=S) (k:=e) (b:=44) with⟨e1,d,f⟩|⟨e1,d,f⟩
  ·rw[d,f,if_pos rfl];have l:Hu S n wd sc ⟨c,a,wt,false,[],part0,[]⟩ e ⟨c,a,wt,true,[],part0,[]⟩ (e+1):=Hu.one (by grind [Ra,Bd]);obtain⟨m,rfl⟩:∃m,n=m+1:=⟨n-1,o_⟩;have r:=Zev (S:=S) (n:=m+1) (wd:=wd) (sc:=sc) m ⟨c,a,wt,true,[],part0,[]⟩ (e+1) g rfl rfl rfl s_;simp only[List.length_nil] at r
   rcases r with⟨g1,g2⟩|⟨g1,s',g2,g3,g4⟩
   exact .inl ⟨g1,(h3.trans l).trans g2⟩;exact .inr ⟨g1,s',(h3.trans l).trans g2,g4,.inr o_⟩
  grind
 rw[h1];obtain⟨d,f⟩:=Xk (S:=S) (k:=k) (b:=44);simp only[d,f];rw[if_neg d_];exact .inr ⟨rfl,_,.refl,h2,.inl rfl⟩
def Zd6(n:Nat)(s:RS)(L:List (Int×List VS)):Prop:=s.ws=L.map Prod.fst/\∀i,i<n->s.cols i=L.map (λr=>r.2.getD i Ax)
def ZeX(hn:1<=n):∀f L k s,Bnd s->Zd6 n s L->L.length<=200->k<=S.size->S.size+1<=f+k->((Je S n wd sc f L k).2.2=0/\(Je S n wd sc f L k).2.1=S.size/\∃s',Hu S n wd sc s k s' S.size/\Bnd s'/\Zd6 n s' (Je S n wd sc f L k).1)∨((Je S n wd sc f L k).2.2=2/\(Je S n wd sc f L k).2.1=S.size/\∃s',Hu S n wd sc s k s' S.size/\s'.wt≠0)∨((Je S n wd sc f L k).2.2≠0/\(Je S n wd sc f L k).2.1<S.size/\∃s',Hu S n wd sc s k s' (Je S n wd sc f L k).2.1/\Cw n wd sc s' (Dt S (Je S n wd sc f L k).2.1)=.error (Je S n wd sc f L k).2.2)
 |0,L,k,s,hb,hs,hL,hk,hf=>o_
 | f + 1,L,k,s,hb,hs,hL,hk,hf=>by
  have hlen:s.ws.length=L.length:=(by rw[hs.1,List.length_map]);unfold Je;split
  ·rename_i hks;split
   ·rename_i h200;refine .inr (.inr ⟨s_,hks,s,.refl,?_⟩)
    grind [Cw]
   rename_i h200;have h1:=Zks (S:=S) (wd:=wd) (sc:=sc) hn s k o_ hb;have h2:=ZkR (S:=S) n wd sc hk;simp only;generalize Zu S n wd sc k=r at *
   rcases h1 with⟨hz,h1⟩|⟨hz,s',h1,h3,h4⟩
   ·rw[if_pos hz];have ih:=ZeX hn f (L++[(r.1,r.2.1)]) r.2.2.1 (ZjF n {s with wt:=r.1} r.2.1) ⟨rfl,rfl,rfl,rfl,rfl⟩ ⟨?_,λi hi=>?_⟩ t_ h2.1.2 o_
    ·rcases ih with⟨g1,g2,s',g3,g4⟩|⟨g1,g2,s',g3,g4⟩|⟨g1,g2,s',g3,g4⟩
     exact .inl ⟨g1,g2,s',h1.trans g3,g4⟩;exact .inr (.inl ⟨g1,g2,s',h1.trans g3,g4⟩);exact .inr (.inr ⟨g1,g2,s',h1.trans g3,g4⟩)
    show s.ws++[r.1]=_;rw[hs.1,List.map_append];rfl;show(if i<n then s.cols i++[r.2.1.getD i Ax] else s.cols i)=_;rw[if_pos hi,hs.2 i hi,List.map_append];rfl
   grind
  rename_i hks;have he:k=S.size:=o_;exact .inl ⟨rfl,he,s,by rw[<- he];exact .refl,hb,hs⟩
def ZaB{k}(h:k<S.size):(Aq S).drop k=Dt S k::(Aq S).drop (k+1):=by have a:k<(Aq S).length:=(by unfold Aq;rw[List.length_map];exact h);rw[List.drop_eq_getElem_cons a,Wm h];congr 1;simp only[Aq,List.getElem_map];rfl
def uq:∀(m:Nat)(s:RS)(k:Nat),k+m=S.size->Ca n wd sc s ((Aq S).drop k) k=Xq S n wd sc m s k
 |0,s,k,h=>by have:(Aq S).drop k=[]:=List.drop_eq_nil_of_le (by unfold Aq;rw[List.length_map];show S.size<=k;omega);rw[this];rfl
 | m+1,s,k,h=>by
  rw[ZaB o_];simp only[Ca,Xq]
  cases Cw n wd sc s (Dt S k) with
  |error z=>rfl
  |ok s'=>exact uq m _ _ o_
def ZbR(c:1<=n):(∃s,Ca n wd sc RS.start (Aq S) 0=.ok s/\s.wt=0/\(Je S n wd sc (S.size+1) [] 0).2.2=0/\(Je S n wd sc (S.size+1) [] 0).2.1=S.size/\Zd6 n s (Je S n wd sc (S.size+1) [] 0).1)∨(∃s,Ca n wd sc RS.start (Aq S) 0=.ok s/\s.wt≠0/\(Je S n wd sc (S.size+1) [] 0).2.2=2/\(Je S n wd sc (S.size+1) [] 0).2.1=S.size)∨(Ca n wd sc RS.start (Aq S) 0=.error ((Je S n wd sc (S.size+1) [] 0).2.2,(Je S n wd sc (S.size+1) [] 0).2.1)/\(Je S n wd sc (S.size+1) [] 0).2.2≠0/\(Je S n wd sc (S.size+1) [] 0).2.1<S.size):=by
 have a:=uq (S:=S) (n:=n) (wd:=wd) (sc:=sc) S.size RS.start 0 o_;rw[List.drop_zero] at a
 rcases ZeX (S:=S) (wd:=wd) (sc:=sc) c (S.size+1) [] 0 RS.start ⟨rfl,rfl,rfl,rfl,rfl⟩ ⟨rfl,λ_ _=>rfl⟩ s_ qg_ o_ with⟨g1,g2,s',⟨m,hm,g3⟩,g4,g5⟩|⟨g1,g2,s',⟨m,hm,g3⟩,g4⟩|⟨g1,g2,s',⟨m,hm,g3⟩,g4⟩
 have:m=S.size:=o_;subst this;exact .inl ⟨s',by rw[a,g3],g4.wt,g1,g2,g5⟩
 ·grind
 refine .inr (.inr ⟨?_,g1,g2⟩);obtain⟨j,b⟩:∃j,S.size=m+(j+1):=⟨S.size-m-1,o_⟩;have e:Xq S n wd sc S.size RS.start 0=Xq S n wd sc (m+(j+1)) RS.start 0:=(by rw[<- b]);rw[a,e,jx,g3];simp only[Xq];rw[<- hm,g4]
end
end Go.Proofs.YtfcgnpchbcmdeaaGreat
