import Derived.Test.YtfcgnpchbcmdeaaGreatZraw
import Derived.Test.YtfcgnpchbcmdeaaGreatZray
import Derived.Test.YtfcgnpchbcmdeaaGreatZrav
namespace Go.Proofs.YtfcgnpchbcmdeaaGreat
set_option linter.all false
set_option maxRecDepth 100000
set_option maxHeartbeats 4000000
open Go.RowKit
structure RS where
 ws:List Int
 cols:Nat->List VS
 wt:Int
 fl:Bool
 row:List VS
 p:Cm
 bs:List Int
def RS.start:RS:=⟨[],λ_=>[],0,false,[],part0,[]⟩
def Gq(p:Cm)(bs:List Int):VS:=⟨decide (p.st=0),Qv p,strOfNums bs⟩
def Be(wd:Bool)(u:Int)(p:Cm)(bs:List Int)(c:Int):Option (Cm×List Int):=
 if wd=true then(Bt p.st bs c).map (λq=>({p with st:=q.1},q.2)) else(Bz u p c).map (λq=>(q,bs))
def Ax:VS:=⟨false,0,⟨#[]⟩⟩
def Gd(n:Nat)(s:RS)(row:List VS):RS:=
 if row.length=n then⟨s.ws++[s.wt],λi=>if i<n then s.cols i++[row.getD i Ax] else s.cols i,0,false,[],part0,[]⟩
 else {s with row:=row,p:=part0,bs:=[]}
def Cw(n:Nat)(wd:Nat->Bool)(sc:Nat->Int)(s:RS)(c:Int):Except Int RS:=
 if s.ws.length=200 then .error 3
 else if s.fl=false then
  match Bd s.wt c with
  |none=>.error 2
  |some none=>.ok {s with fl:=true}
  |some (some z)=>.ok {s with wt:=z}
 else
  match Be (wd s.row.length) (Cp (sc s.row.length).toNat) s.p s.bs c with
  |some (p,bs)=>.ok {s with p:=p,bs:=bs}
  |none=>if c=Eg s.row.length n/\El s.p.st=true then .ok (Gd n s (s.row++[Gq s.p s.bs])) else .error 2
structure Fv(p:Cm):Prop where
 u0:0<=p.unit
 u1:p.unit<=1000
 n0:0<=p.num
 d0:0<=p.dig
 d1:p.dig<=5
 nu:p.num+p.unit<=Cp p.dig.toNat*1000
def ZdU k (h:k<=5):1<=Cp k/\Cp k<=100000:=by
 have:k=0∨k=1∨k=2∨k=3∨k=4∨k=5:=o_
 rcases this with rfl|rfl|rfl|rfl|rfl|rfl<;>decide
def Fv.le{p}(h:Fv p):p.num<=100000000:=by have c:=h.nu;have a:=h.u0;have b:=(ZdU p.dig.toNat (by have:=h.d0;have:=h.d1;omega)).2;omega
theorem Fv.part0:Fv part0:=⟨d_,d_,d_,d_,d_,d_⟩
def Kj{c}(h:Cj c=true):48<=c/\c<=57:=by simpa [Cj] using h
def Fv.step{u}(y:1<=u)(o:u<=1000){p q c}(h:Fv p)(t:Bz u p c=some q):Fv q:=by
 obtain⟨b,l,r,k,m,w⟩:=h
 have first:∀q,Gy u p c=some q->Fv q:=λq hq=>by
  unfold Gy at hq;split at hq
  ·rename_i a;obtain⟨s,x⟩:=Kj a;injection hq with hq;subst hq;have i:0<=(c-48)*u:=Int.mul_nonneg o_ o_;have v:(c-48)*u<=9*u:=Int.mul_le_mul_of_nonneg_right o_ o_;refine⟨w_,o,i,w_,w_,?_⟩
   grind [Cp]
  cases hq
 have f:∀q,Oa p c=some q->Fv q:=λq hq=>by
  unfold Oa at hq;split at hq;injection hq with hq;subst hq;exact⟨b,l,r,k,m,w⟩
  cases hq
 have n:∀q,Iy p c=some q->Fv q:=λq hq=>by
  unfold Iy at hq;split at hq;injection hq with hq;subst hq;exact⟨b,l,r,k,m,w⟩
  cases hq
 have g:∀q,Iu p c=some q->Fv q:=λq hq=>by
  unfold Iu at hq;split at hq
  ·rename_i a;obtain⟨a,z⟩:=a;obtain⟨s,x⟩:=Kj a;injection hq with hq;subst hq;have i:0<=(c-48)*_:=Int.mul_nonneg o_ b;have v:(c-48)*_<=9*_:=Int.mul_le_mul_of_nonneg_right o_ b;refine⟨b,l,?_,?_,?_,?_⟩
   ·grind
   ·grind
   ·grind
   show p.num*10+(c-48)*p.unit+p.unit<=Cp (p.dig+1).toNat*1000;have e:(p.dig+1).toNat=p.dig.toNat+1:=o_
   grind [Cp]
  cases hq
 have d:∀q,Hj p c=some q->Fv q:=λq hq=>by
  unfold Hj at hq;split at hq
  ·rename_i a;obtain⟨a,z⟩:=a;obtain⟨s,x⟩:=Kj a;injection hq with hq;subst hq;have j:0<=p.unit/10:=o_;have i:0<=(c-48)*_:=Int.mul_nonneg o_ j;have v:(c-48)*_<=9*_:=Int.mul_le_mul_of_nonneg_right o_ j;refine⟨j,?_,?_,k,m,?_⟩
   ·grind
   ·grind
   grind
  cases hq
 unfold Bz at t;split at t
 ·grind [Oa]
 grind [Iu]
def Fv.st{p}(h:Fv p) z:Fv {p with st:=z}:=⟨h.u0,h.u1,h.n0,h.d0,h.d1,h.nu⟩
def Zdm u p c v:Bz u {p with wv:=v} c=(Bz u p c).map (λq=>{q with wv:=v}):=by grind [Oa,Gy,Iu,Iy,Hj,Bz]
def Zaf{b a c q}(h:Bt b a c=some q)(d:a.length<=8):q.2.length<=8:=by grind [Jb,Sv,Kd,Bt]
structure Ht(n)(s:RS):Prop where
 ws:s.ws.length<=200
 col:∀i,i<n->(s.cols i).length=s.ws.length
 wt0:0<=s.wt
 wt1:s.wt<=99
 row:s.row.length<n
 num:Fv s.p
 bs:s.bs.length<=8
def Ht.start{n}(h:1<=n):Ht n RS.start:=⟨d_,λ_ _=>rfl,d_,d_,h,Fv.part0,d_⟩
def rf{a c z}(h:Bd a c=some (some z)):1<=z/\z<=99:=by grind [Bd]
def dy(w:World)(K:Nat->Prop)(v0 v1 v2:Value)(wd:Bool)(u ct bins size:Int):Prop:=
 (wd=true/\∃k1 k2 k3:Nat,v0=.func (.func 209) #[] #[]/\v1=.func (.func 210) #[] #[P_ k1,P_ k2]/\v2=.func (.func 266) #[] #[P_ k3]/\K k1/\K k2/\K k3/\w.heap[k1]? =some (.cells #[I_ ct] 3 (0,0))/\w.heap[k2]? =some (.cells #[I_ bins] 3 (0,0))/\w.heap[k3]? =some (.cells #[.func (.func 213) #[] #[]] 261 (0,0)))∨
 (wd=false/\∃k0 k1 k2 k3:Nat,v0=.func (.func 214) #[] #[P_ k0]/\v1=.func (.func 216) #[] #[P_ k1,P_ k2]/\v2=.func (.func 266) #[] #[P_ k3]/\K k0/\K k1/\K k2/\K k3/\w.heap[k0]? =some (.cells #[I_ u] 3 (0,0))/\w.heap[k1]? =some (.cells #[I_ bins] 3 (0,0))/\w.heap[k2]? =some (.cells #[I_ size] 3 (0,0))/\w.heap[k3]? =some (.cells #[.func (.func 218) #[] #[]] 261 (0,0)))
structure Ta(w)(K)(fb n)(wd:Nat->Bool)(sc ct:Nat->Int)(bins size):Prop where
 ex:∃cur:Array Value,w.heap[fb]? =some (.cells cur 263 (0,0))/\cur.size=n*3/\K fb/\∀i,i<n->∃v0 v1 v2,cur[i*3]? =some v0/\cur[i*3+1]? =some v1/\cur[i*3+2]? =some v2/\dy w K v0 v1 v2 (wd i) (Cp (sc i).toNat) (ct i) bins size
def dy.touch{S K w w' j f g i u d a b}(h:dy w K j f g i u d a b)(t:Aa S w w')(c:∀k,K k->¬S k):dy w' K j f g i u d a b:=by
 rcases h with⟨e,k1,k2,k3,e0,e1,e2,m1,m2,m3,h1,h2,h3⟩|⟨e,k0,k1,k2,k3,e0,e1,e2,m0,m1,m2,m3,h0,h1,h2,h3⟩
 exact .inl ⟨e,k1,k2,k3,e0,e1,e2,m1,m2,m3,t.at_ h1 (c _ m1),t.at_ h2 (c _ m2),t.at_ h3 (c _ m3)⟩;exact .inr ⟨e,k0,k1,k2,k3,e0,e1,e2,m0,m1,m2,m3,t.at_ h0 (c _ m0),t.at_ h1 (c _ m1),t.at_ h2 (c _ m2),t.at_ h3 (c _ m3)⟩
def Ta.touch{S K w w' l n q j p f e}(h:Ta w K l n q j p f e)(t:Aa S w w')(o:∀k,K k->¬S k):Ta w' K l n q j p f e:=by obtain⟨g,y,u,m,v⟩:=h;refine⟨g,t.at_ y (o _ m),u,m,λi hi=>?_⟩;obtain⟨s,x,r,a,b,c,d⟩:=v i hi;exact⟨s,x,r,a,b,c,d.touch t o⟩
def Ta.of_made{w f l n q o p j g} K (h:Gt w f l n n q o p j g)(m:K l)(hK:∀k cur ty,f<=k->w.heap[k]? =some (.cells cur ty (0,0))->(ty=3∨ty=261)->K k):Ta w K l n q o p j g:=by
 obtain⟨cur,x,u,r⟩:=h;refine⟨cur,x,u,m,λi hi=>?_⟩;obtain⟨t,v,s,a,b,c,d⟩:=r i hi;refine⟨t,v,s,a,b,c,?_⟩
 rcases d with⟨e,⟨k1,k2,k3,d1,d2,d3,d4,d5,d6,d7⟩⟩|⟨e,⟨k0,k1,k2,k3,d1,d2,d3,d4,d5,d6,d7,d8,d9⟩⟩
 simp only[Value.agg.injEq,Array.mk.injEq,List.cons.injEq,and_true] at d1;obtain⟨rfl,rfl,rfl⟩:=d1;exact .inl ⟨e,k1,k2,k3,rfl,rfl,rfl,hK _ _ _ d2 d5 (.inl rfl),hK _ _ _ d3 d6 (.inl rfl),hK _ _ _ d4 d7 (.inr rfl),d5,d6,d7⟩;simp only[Value.agg.injEq,Array.mk.injEq,List.cons.injEq,and_true] at d1;obtain⟨rfl,rfl,rfl⟩:=d1;exact .inr ⟨e,k0,k1,k2,k3,rfl,rfl,rfl,hK _ _ _ d2 d6 (.inl rfl),hK _ _ _ d3 d7 (.inl rfl),hK _ _ _ d4 d8 (.inl rfl),hK _ _ _ d5 d9 (.inr rfl),d6,d7,d8,d9⟩
structure Oo(w)(K M:Nat->Prop)(rb fb cb n)(wd)(sc ct)(bins size)(s:RS)(vW vr wv)(vc:Nat->Value):Prop where
 rd:RB w rb (L_ fb n n) vW (L_ cb n n) s.wt s.fl vr {s.p with wv:=wv}
 ow:Ag w 0 vW s.ws
 or:Iq w 0 vr s.row
 ob:Bj w 0 wv s.bs
 cl:∃cur:Array Value,w.heap[cb]? =some (.cells cur 251 (0,0))/\cur.size=n/\∀i,i<n->cur[i]? =some (vc i)
 oc:∀i,i<n->Iq w 0 (vc i) (s.cols i)
 fs:Ta w K fb n wd sc ct bins size
 ap:∀i j,i<n->j<n->i≠j->(vc i).ownBlock=none∨(vc i).ownBlock≠(vc j).ownBlock
 ar:∀i,i<n->(vc i).ownBlock=none∨(vc i).ownBlock≠vr.ownBlock
 mr:M rb
 mc:M cb
 mW:∀k,vW.ownBlock=some k->M k
 mv:∀k,vr.ownBlock=some k->M k
 mw:∀k,wv.ownBlock=some k->M k
 mq:∀i k,i<n->(vc i).ownBlock=some k->M k
 kk:∀k,K k->k<w.heap.size/\¬M k
 ml:∀k,M k->k<w.heap.size
def RdM(w:World)(K M:Nat->Prop)(rb fb cb n:Nat)(wd:Nat->Bool)(sc ct:Nat->Int)(bins size:Int)(s:RS):Prop:=∃vW vr wv vc,Oo w K M rb fb cb n wd sc ct bins size s vW vr wv vc
def Iq.touch{S w w' base v L}(h:Iq w base v L)(t:Aa S w w')(hs:∀k,v.ownBlock=some k->¬S k):Iq w' base v L:=t.row h hs
def Ag.touch{S w w' base v L}(h:Ag w base v L)(t:Aa S w w')(hs:∀k,v.ownBlock=some k->¬S k):Ag w' base v L:=t.row h hs
def Bj.touch{S w w' base v L}(h:Bj w base v L)(t:Aa S w w')(hs:∀k,v.ownBlock=some k->¬S k):Bj w' base v L:=t.row h hs
def RB.touch{S w w' b vf vW vC wt fl vr p}(h:RB w b vf vW vC wt fl vr p)(t:Aa S w w')(hs:¬S b):RB w' b vf vW vC wt fl vr p:=t.at_ h hs
section
variable {w:World} {K M:Nat->Prop} {rb fb cb n:Nat} {wd:Nat->Bool} {sc ct:Nat->Int} {bins size:Int} {s:RS} {vW vr wv:Value} {vc:Nat->Value}
def Oo.touch{S w'}(h:Oo w K M rb fb cb n wd sc ct bins size s vW vr wv vc)(t:Aa S w w')(a:∀k,K k∨M k->¬S k):Oo w' K M rb fb cb n wd sc ct bins size s vW vr wv vc:=by
 obtain⟨b,f,d,c⟩:=h.cl
 exact⟨h.rd.touch t (a _ (.inr h.mr)),h.ow.touch t (λk e=>a _ (.inr (h.mW k e))),h.or.touch t (λk e=>a _ (.inr (h.mv k e))),h.ob.touch t (λk e=>a _ (.inr (h.mw k e))),
  ⟨b,t.at_ f (a _ (.inr h.mc)),d,c⟩,λi hi=>(h.oc i hi).touch t (λk e=>a _ (.inr (h.mq i k hi e))),h.fs.touch t (λk e=>a _ (.inl e)),h.ap,h.ar,h.mr,h.mc,h.mW,h.mv,h.mw,h.mq,
  λk e=>⟨Qh (h.kk k e).1 t.size,(h.kk k e).2⟩,λk e=>Qh (h.ml k e) t.size⟩
def RdM.touch{S w'}(h:RdM w K M rb fb cb n wd sc ct bins size s)(t:Aa S w w')(e:∀k,K k∨M k->¬S k):RdM w' K M rb fb cb n wd sc ct bins size s:=by obtain⟨d,c,b,a,h⟩:=h;exact⟨d,c,b,a,h.touch t e⟩
def Oo.fb_ne(h:Oo w K M rb fb cb n wd sc ct bins size s vW vr wv vc):fb≠rb:=by obtain⟨b,_,_,a,_⟩:=h.fs;intro e;exact(h.kk _ a).2 (e ▸ h.mr)
def Oo.feat(h:Oo w K M rb fb cb n wd sc ct bins size s vW vr wv vc){i}(b:i<n):∃v0 v1 v2,w.cell? (A_ fb (i*3))=some v0/\dy w K v0 v1 v2 (wd i) (Cp (sc i).toNat) (ct i) bins size:=by
 obtain⟨a,d,_,_,c⟩:=h.fs
 grind [cell_of_row]
end
def Ze8(w:World)(K M:Nat->Prop)(rb fb cb n:Nat)(wd:Nat->Bool)(sc ct:Nat->Int)(bins size:Int)(s':RS)(w':World):Prop:=
 (∃M',RdM w' K M' rb fb cb n wd sc ct bins size s'/\(∀k,M' k->M k∨w.heap.size<=k))/\Aa M w w'
section
variable {w:World} {K M:Nat->Prop} {rb fb cb n:Nat} {wd:Nat->Bool} {sc ct:Nat->Int} {bins size:Int} {s:RS} {vW vr wv:Value} {vc:Nat->Value}
def Oo.ne_of_type(h:Oo w K M rb fb cb n wd sc ct bins size s vW vr wv vc){k ty:Nat}{cur}(hk:w.heap[k]? =some (.cells cur ty (0,0)))(hty:ty≠256):k≠rb:=λe=>by
 subst e;have:=h.rd
 grind [RB]
def Oo.rewrite{f}(h:Oo w K M rb fb cb n wd sc ct bins size s vW vr wv vc)(t:Aa (λk=>k=rb∨some k=wv.ownBlock) w f){p bs a wt fl}(l:RB f rb (L_ fb n n) vW (L_ cb n n) wt fl vr {p with wv:=a})(q:Bj f 0 a bs)(x:a.ownBlock=wv.ownBlock∨∃k,a.ownBlock=some k/\w.heap.size<=k):
  Oo f K (λk=>M k∨a.ownBlock=some k) rb fb cb n wd sc ct bins size {s with p:=p,bs:=bs,wt:=wt,fl:=fl} vW vr a vc:=by
 have j:∀{ty:Nat} {size n v xs},w.ownsRow 0 ty size v n xs->ty≠256->ty≠5->∀k,v.ownBlock=some k->¬(k=rb∨some k=wv.ownBlock):=λ{ty size n v xs} l b A k g e=>by
  obtain⟨d,B⟩:=Ad l g
  rcases e with e|e
  exact h.ne_of_type B b e;obtain⟨c,o⟩:=Ad h.ob e.symm
  grind
 obtain⟨d,r,y,z⟩:=h.cl
 have m:¬(cb=rb∨some cb=wv.ownBlock):=λe=>by
  rcases e with e|e
  exact h.ne_of_type r d_ e;obtain⟨c,o⟩:=Ad h.ob e.symm
  grind
 have u:∀k,a.ownBlock=some k->M k∨w.heap.size<=k:=λk e=>by
  rcases x with b|⟨C,b,A⟩
  exact .inl (h.mw k (b ▸ e))
  grind
 refine⟨l,h.ow.touch t (j h.ow d_ d_),h.or.touch t (j h.or d_ d_),q,⟨d,t.at_ r m,y,z⟩,λi hi=>(h.oc i hi).touch t (j (h.oc i hi) d_ d_),h.fs.touch t ?_,h.ap,h.ar,.inl h.mr,.inl h.mc,λk e=>.inl (h.mW k e),λk e=>.inl (h.mv k e),λk e=>.inr e,λi k hi e=>.inl (h.mq i k hi e),λk e=>?_,λk e=>?_⟩
 ·intro k g e
  rcases e with e|e
  exact(h.kk k g).2 (e ▸ h.mr);exact(h.kk k g).2 (h.mw k e.symm)
 ·have b:=h.kk k e;refine⟨Qh b.1 t.size,λe2=>?_⟩
  grind
 rcases e with e|e
 exact Qh (h.ml k e) t.size;exact(rl_ q k e).2
def Zao(w:World)(K M:Nat->Prop)(rb fb cb n:Nat)(wd:Nat->Bool)(sc ct:Nat->Int)(bins size:Int)(s:RS)(vW vr:Value)(vc:Nat->Value)(o:Option (Cm×List Int))(e:Ending)(w':World):Prop:=
 e=.returned (.bool o.isSome)/\(∃M' wv',Oo w' K M' rb fb cb n wd sc ct bins size {s with p:=(o.getD (s.p,s.bs)).1,bs:=(o.getD (s.p,s.bs)).2} vW vr wv' vc/\(∀k,M k->M' k)/\(∀k,M' k->M k∨w.heap.size<=k))/\Aa M w w'
def Ziz(h:Oo w K M rb fb cb n wd sc ct bins size s vW vr wv vc) c u l (r:w.heap[l]? =some (.cells #[I_ u] 3 (0,0)))(g:0<=u)(x:u<=1000)(a:Fv s.p):C_ 214 #[.pointer (some ⟨rb,6,none⟩),.int .u8 c,.pointer (some ⟨l,0,none⟩)] w λe w'=>Zao w K M rb fb cb n wd sc ct bins size s vW vr vc (Be false u s.p s.bs c) e w':=by
 have o:=a.le;refine(ZbS rb _ _ vW _ _ _ vr _ c u w h.rd (cq_ 0 _ 3 _ r) g o_ a.u0 (by have:=a.u1;grind) a.n0 w_ a.d0 (by have:=a.d1;grind)).mono ?_;rintro e w' ⟨b,f,m⟩;rw[Zdm] at b f;have t:Aa (λk=>k=_∨some k=wv.ownBlock) w _:=(Aa.refl _ w).grown m (λk hk _=>.inl (by injection hk with hk;exact hk.symm))
 have d:=h.ob.touch ((Aa.refl (λk=>k=rb) w).grown m (λk hk _=>w_)) (λk hk e=>by
  obtain⟨v,y⟩:=Ad h.ob hk
  exact h.ne_of_type y d_ e)
 have j:=t.mono (λk _ e=>by
  rcases e with e|e
  exact e ▸ h.mr
  exact h.mw k e.symm)
 have i:Be false u _ s.bs c=(Bz u s.p c).map _:=rfl;unfold Zao;rw[i]
 cases hq:Bz u s.p c with
 | none=>
  rw[hq] at b f;refine⟨b,⟨_,wv,h.rewrite (p:=s.p) (bs:=s.bs) t f d (.inl rfl),λk e=>.inl e,λk e=>?_⟩,j⟩
  rcases e with e|e
  exact .inl e;exact .inl (h.mw k e)
 | some q=>
  rw[hq] at b f;refine⟨b,⟨_,wv,h.rewrite (p:=q) (bs:=s.bs) t f d (.inl rfl),λk e=>.inl e,λk e=>?_⟩,j⟩
  rcases e with e|e
  exact .inl e;exact .inl (h.mw k e)
def Zga(h:Oo w K M rb fb cb n wd sc ct bins size s vW vr wv vc) c u (v:s.bs.length<=8):C_ 209 #[.pointer (some ⟨rb,6,none⟩),.int .u8 c] w λe w'=>Zao w K M rb fb cb n wd sc ct bins size s vW vr vc (Be true u s.p s.bs c) e w':=by
 refine(Zac _ 0 _ _ _ _ _ _ _ _ c w ⟨h.rd,h.ob⟩ o_ o_).mono ?_;rintro e w' ⟨a,⟨i,⟨b,d⟩,f⟩,l⟩
 have m:=Aa.mono l (λk _ e=>by
  rcases e with e|e
  exact e ▸ h.mr
  exact h.mw k e.symm)
 have j:Be true u _ s.bs c=(Bt _ _ c).map (λq=>({s.p with st:=q.1},_)):=rfl
 have o:∀k,(M k∨i.ownBlock=some k)->M k∨w.heap.size<=k:=λk e=>by
  rcases e with e|e
  exact .inl e
  rcases f with r|⟨t,r,x⟩
  exact .inl (h.mw k (r ▸ e))
  grind
 unfold Zao;rw[j];have g:Bt ({s.p with wv:=wv}:_).st s.bs c=Bt s.p.st _ c:=rfl;rw[g] at a b d
 cases hq:Bt s.p.st s.bs c with
 | none=>
  rw[hq] at a b d;exact⟨a,⟨_,i,h.rewrite (p:=s.p) (bs:=s.bs) l b d f,λk e=>.inl e,o⟩,m⟩
 | some q=>
  rw[hq] at a b d;exact⟨a,⟨_,i,h.rewrite (p:={s.p with st:=q.1}) (bs:=q.2) l b d f,λk e=>.inl e,o⟩,m⟩
end
def Au{w:World}{base ty size n:Nat}{v xs}(h:w.ownsRow base ty size v n xs){k k' ty' cur}(hk:v.ownBlock=some k)(hb:w.heap[k']? =some (.cells cur ty' (0,0)))(hne:ty≠ty'):k≠k':=λe=>by
 obtain⟨c,hc⟩:=Ad h hk
 grind
def zq{w:World}{b1 b2 e1 e2 s1 s2 n1 n2:Nat}{v u xs ys}(h:w.ownsRow b1 e1 s1 v n1 xs)(g:w.ownsRow b2 e2 s2 u n2 ys)(hne:e1≠e2){k}(hk:v.ownBlock=some k):u.ownBlock≠some k:=λe=>by obtain⟨c,hc⟩:=Ad g e;exact Au h hk hc hne rfl
section
variable {w:World} {K M:Nat->Prop} {rb fb cb n:Nat} {wd:Nat->Bool} {sc ct:Nat->Int} {bins size:Int} {s:RS} {vW vr wv:Value} {vc:Nat->Value}
def Oo.rdAt(h:Oo w K M rb fb cb n wd sc ct bins size s vW vr wv vc):∃cur,w.heap[rb]? =some (.cells cur 256 (0,0)):=⟨_,h.rd⟩
def Oo.cb_rb(h:Oo w K M rb fb cb n wd sc ct bins size s vW vr wv vc):cb≠rb:=by obtain⟨b,a,_⟩:=h.cl;exact h.ne_of_type a d_
def yz{M:Nat->Prop}{v v':Value}{N}(hm:∀k,v.ownBlock=some k->M k)(hd:v'.ownBlock=v.ownBlock∨∃k,v'.ownBlock=some k/\N<=k):∀k,(M k∨v'.ownBlock=some k)->M k∨N<=k:=λk e=>w_
def Oo.putW{w' vW' ws' wt fl}(h:Oo w K M rb fb cb n wd sc ct bins size s vW vr wv vc)(t:Aa (λk=>k=rb∨vW.ownBlock=some k) w w')(b:RB w' rb (L_ fb n n) vW' (L_ cb n n) wt fl vr {s.p with wv:=wv})(l:Ag w' 0 vW' ws')(o:vW'.ownBlock=vW.ownBlock∨∃k,vW'.ownBlock=some k/\w.heap.size<=k):
  Oo w' K (λk=>M k∨vW'.ownBlock=some k) rb fb cb n wd sc ct bins size {s with ws:=ws',wt:=wt,fl:=fl} vW' vr wv vc/\(∀k,(M k∨vW'.ownBlock=some k)->M k∨w.heap.size<=k)/\Aa M w w':=by
 obtain⟨u,g⟩:=h.rdAt;obtain⟨f,m,q,r⟩:=h.cl;have c:=yz h.mW o
 have d:∀{ty size n:Nat} {v xs},w.ownsRow 0 ty size v n xs->ty≠256->ty≠3->∀k,v.ownBlock=some k->¬(k=rb∨vW.ownBlock=some k):=λb j h2 k a e=>by
  rcases e with e|e
  exact Au b a g j e;exact zq b h.ow h2 a e
 refine⟨⟨b,l,h.or.touch t (d h.or d_ d_),h.ob.touch t (d h.ob d_ d_),⟨f,t.at_ m ?_,q,r⟩,λi hi=>(h.oc i hi).touch t (d (h.oc i hi) d_ d_),h.fs.touch t ?_,h.ap,h.ar,.inl h.mr,.inl h.mc,λk e=>.inr e,λk e=>.inl (h.mv k e),λk e=>.inl (h.mw k e),λi k hi e=>.inl (h.mq i k hi e),λk e=>?_,λk e=>?_⟩,c,t.mono (λk _ e=>?_)⟩
 ·intro e
  rcases e with e|e
  exact h.cb_rb e;exact Au h.ow e m d_ rfl
 ·intro k a e
  rcases e with e|e
  exact(h.kk k a).2 (e ▸ h.mr);exact(h.kk k a).2 (h.mW k e)
 ·have j:=h.kk k e;refine⟨Qh j.1 t.size,λe2=>?_⟩
  grind
 ·rcases e with e|e
  exact Qh (h.ml k e) t.size;exact(rl_ l k e).2
 rcases e with e|e
 exact e ▸ h.mr;exact h.mW k e
def Oo.putRow{w' vr' row' p bs wv' wt fl}(h:Oo w K M rb fb cb n wd sc ct bins size s vW vr wv vc)(t:Aa (λk=>k=rb∨vr.ownBlock=some k) w w')(d:RB w' rb (L_ fb n n) vW (L_ cb n n) wt fl vr' {p with wv:=wv'})(m:Iq w' 0 vr' row')(l:vr'.ownBlock=vr.ownBlock∨vr'.ownBlock=none∨∃k,vr'.ownBlock=some k/\w.heap.size<=k)(x:Bj w' 0 wv' bs)(f:wv'.ownBlock=none∨wv'=wv):
  Oo w' K (λk=>M k∨vr'.ownBlock=some k) rb fb cb n wd sc ct bins size {s with row:=row',p:=p,bs:=bs,wt:=wt,fl:=fl} vW vr' wv' vc/\(∀k,(M k∨vr'.ownBlock=some k)->M k∨w.heap.size<=k)/\Aa M w w':=by
 obtain⟨A,c⟩:=h.rdAt;obtain⟨j,o,u,y⟩:=h.cl
 have g:∀k,(M k∨vr'.ownBlock=some k)->M k∨w.heap.size<=k:=by
  rcases l with a|a|a
  exact yz h.mv (.inl a)
  ·grind
  grind
 have r:∀{ty size n:Nat} {v xs},w.ownsRow 0 ty size v n xs->ty≠256->ty≠308->∀k,v.ownBlock=some k->¬(k=rb∨vr.ownBlock=some k):=λd a q k b e=>by
  rcases e with e|e
  exact Au d b c a e;exact zq d h.or q b e
 refine⟨⟨d,h.ow.touch t (r h.ow d_ d_),m,x,⟨j,t.at_ o ?_,u,y⟩,λi hi=>(h.oc i hi).touch t ?_,h.fs.touch t ?_,h.ap,λi hi=>?_,.inl h.mr,.inl h.mc,λk e=>.inl (h.mW k e),λk e=>.inr e,λk e=>?_,λi k hi e=>.inl (h.mq i k hi e),λk e=>?_,λk e=>?_⟩,g,t.mono (λk _ e=>?_)⟩
 ·intro e
  rcases e with e|e
  exact h.cb_rb e;exact Au h.or e o d_ rfl
 ·intro k b e
  rcases e with e|e
  exact Au (h.oc i hi) b c d_ e
  rcases h.ar i hi with a|a
  ·grind
  grind
 ·intro k b e
  rcases e with e|e
  exact(h.kk k b).2 (e ▸ h.mr);exact(h.kk k b).2 (h.mv k e)
 ·rcases l with a|a|⟨z,a,q⟩
  rw[a];exact h.ar i hi
  ·grind
  cases hv:(vc i).ownBlock with
  |none=>exact .inl rfl
  | some k=>
   refine .inr λe=>?_;rw[a] at e;injection e with e;have:=(rl_ (h.oc i hi) k hv).2;omega
 ·rcases f with a|a
  ·grind
  exact .inl (h.mw k (a ▸ e))
 ·have a:=h.kk k e;refine⟨Qh a.1 t.size,λe2=>?_⟩
  grind
 ·rcases e with e|e
  exact Qh (h.ml k e) t.size;exact(rl_ m k e).2
 rcases e with e|e
 exact e ▸ h.mr;exact h.mv k e
def upd{α:Type}(f:Nat->α)(i:Nat)(x:α):Nat->α:=λj=>if j=i then x else f j
def Nm{α} f i (x:α):upd f i x i=x:=if_pos rfl
def Oh{α} f {i j}(x:α)(h:j≠i):upd f i x j=f j:=if_neg h
def Oo.putCol{w' i v' col'}(h:Oo w K M rb fb cb n wd sc ct bins size s vW vr wv vc)(d:i<n)(t:Aa (λk=>k=cb∨(vc i).ownBlock=some k) w w')(y:∃cur:Array Value,w'.heap[cb]? =some (.cells cur 251 (0,0))/\cur.size=n/\∀j,j<n->cur[j]? =some (upd vc i v' j))(x:Iq w' 0 v' col')(r:v'.ownBlock=(vc i).ownBlock∨∃k,v'.ownBlock=some k/\w.heap.size<=k):Oo w' K (λk=>M k∨v'.ownBlock=some k) rb fb cb n wd sc ct bins size {s with cols:=upd s.cols i col'} vW vr wv (upd vc i v')/\(∀k,(M k∨v'.ownBlock=some k)->M k∨w.heap.size<=k)/\Aa M w w':=by
 obtain⟨A,o⟩:=h.rdAt;obtain⟨cur,m,z,B⟩:=h.cl;have g:=yz (λk e=>h.mq i k d e) r
 have p:∀{ty size n:Nat} {v xs},w.ownsRow 0 ty size v n xs->ty≠251->ty≠308->∀k,v.ownBlock=some k->¬(k=cb∨(vc i).ownBlock=some k):=λhr b h2 k a e=>by
  rcases e with e|e
  exact Au hr a m b e;exact zq hr (h.oc i d) h2 a e
 have f:∀{u:Value},(u.ownBlock=none∨(vc i).ownBlock=none∨u.ownBlock≠(vc i).ownBlock)->(∀k,u.ownBlock=some k->k<w.heap.size)->u.ownBlock=none∨u.ownBlock≠v'.ownBlock:=w_;have q:∀{u v:Value},(u.ownBlock=none∨u.ownBlock≠v.ownBlock)->v.ownBlock=none∨v.ownBlock≠u.ownBlock:=w_;refine⟨⟨h.rd.touch t ?_,h.ow.touch t (p h.ow d_ d_),h.or.touch t ?_,h.ob.touch t (p h.ob d_ d_),y,λj hj=>?_,h.fs.touch t ?_,λj l hj hl hne=>?_,λj hj=>?_,.inl h.mr,.inl h.mc,λk e=>.inl (h.mW k e),λk e=>.inl (h.mv k e),λk e=>.inl (h.mw k e),λj k hj e=>?_,λk e=>?_,λk e=>?_⟩,g,t.mono (λk _ e=>?_)⟩
 ·intro e
  rcases e with e|e
  ·grind
  exact Au (h.oc i d) e o d_ rfl
 ·intro k a e
  rcases e with e|e
  exact Au h.or a m d_ e
  rcases h.ar i d with b|b
  ·grind
  grind
 ·by_cases e:j=i
  ·grind [upd]
  rw[Oh _ _ e];show Iq w' 0 (vc j) (upd s.cols i col' j);rw[Oh _ _ e];refine(h.oc j hj).touch t ?_;intro k a c
  rcases c with c|c
  exact Au (h.oc j hj) a m d_ c
  rcases h.ap j i hj d e with b|b
  ·grind
  grind
 ·intro k a e
  rcases e with e|e
  exact(h.kk k a).2 (e ▸ h.mc);exact(h.kk k a).2 (h.mq i k d e)
 ·by_cases e1:j=i
  ·subst e1;have c:l≠j:=o_;rw[Nm,Oh _ _ c];refine q (f ?_ (λk a=>(rl_ (h.oc l hl) k a).2))
   rcases h.ap l j hl hj c with b|b
   exact .inl b
   grind
  rw[Oh _ _ e1]
  by_cases c:l=i
  ·subst c;rw[Nm];refine f ?_ (λk a=>(rl_ (h.oc j hj) k a).2)
   rcases h.ap j l hj hl e1 with b|b
   exact .inl b
   grind
  rw[Oh _ _ c];exact h.ap j l hj hl hne
 ·by_cases e1:j=i
  ·subst e1;rw[Nm];refine q (f ?_ (λk a=>(rl_ h.or k a).2))
   rcases h.ar j hj with b|b
   ·grind
   grind
  rw[Oh _ _ e1];exact h.ar j hj
 ·by_cases e1:j=i
  subst e1;rw[Nm] at e;exact .inr e;rw[Oh _ _ e1] at e;exact .inl (h.mq j k hj e)
 ·have b:=h.kk k e;refine⟨Qh b.1 t.size,λc=>?_⟩
  grind
 ·rcases e with e|e
  exact Qh (h.ml k e) t.size;exact(rl_ x k e).2
 rcases e with e|e
 exact e ▸ h.mc;exact h.mq i k d e
end
def Az{P y o a w K Q E}(O:o.guard=none) s x t (J:o.op=.call {callee:=.builtin .append,args:=#[s,x],argTypes:=#[t,t]}) f e (i:TypeInfo) z b k (R:P.underlying t=some (.slice e))(I:P.info? e=some i)(L:i.zero=some z)(r:i.size=b)(F:i.bytes=k)(G:z.cells.size=b)(D:0<b) v n B (M:a.eval s=v)(A:w.ownsRow f e b v n B) H m c (d:List Value)(V:a.eval x=.slice (some H) m c)(N:d.length=m*b)(q:∀j u,d[j]? =some u->w.cell? (H.add j)=some u)(X:∀u∈d,u.oneCell'=true)(S:0<m)(C:n+m<=maxLen)(l:(n+m)*k<=140737488355328)(p:f<=w.heap.size)(h:∀v' w',Hid (w'.ownsRow f e b v' (n+m) (B++d)/\w.grownBy w' v.ownBlock/\(v'.ownBlock=v.ownBlock∨v'.ownBlock=some w.heap.size/\Below w.heap.size w w')/\w'.ownsRow f e b v n B/\∃g cap,v'=L_ g (n+m) cap)->K (a.put o.dst v') w'):if Region.wanted o (yielded y a.tmps)=true then Oper.wp P o a w K Q else E:=by
 have W:Region.wanted o (yielded y a.tmps)=true:=(by simp[Region.wanted,O]);rw[if_pos W];obtain⟨v',w',T,U⟩:=Pc (P:=P) w f t o.type e i z b k R I L r F G D v n B A H m c d N q X S C l p;unfold Oper.wp;simp only[execOp,J,resolve,invoke,builtin,Sem.run_bind,Sem.run_pure,Result.andThen_ok,List.map_toArray,List.map_cons,List.map_nil,M,V,T];exact h _ _ U
def ZhS:(Tryz.prog.info? 3).map (λi=>(i.zero,i.size,i.bytes))=some (some (I_ 0),1,8):=k_
def ui{w w2 o}{v u:Value}(hg:(w.alloc o).drew.grownBy w2 v.ownBlock) b {j}:Aa (λk=>k=b∨v.ownBlock=some k) w (w2.setCell (A_ b j) u):=
 ((((Aa.refl (λk=>k=b∨v.ownBlock=some k) w).alloc o).drew).grown hg (λ_ e _=>.inr e)).setCell (p:=(A_ b j)) (λ_=>.inl rfl) u
def ZeW{w c:World}{o}{v a:Value}(b:a.ownBlock=v.ownBlock∨a.ownBlock=some (w.alloc o).drew.heap.size/\Below (w.alloc o).drew.heap.size (w.alloc o).drew c):a.ownBlock=v.ownBlock∨∃k,a.ownBlock=some k/\w.heap.size<=k:=by
 rcases b with h|⟨h,_⟩
 exact .inl h;exact .inr ⟨_,h,s_⟩
def Aa.trans2{S S' a b c}(h:Aa S a b)(k:Aa S' b c)(hs:∀z,S' z->S z∨a.heap.size<=z):Aa S a c:=
 ⟨k.os.trans h.os,k.tape.trans h.tape,k.output.trans h.output,Nat.le_trans h.size k.size,λi hi hn=>(k.block i (Qh hi h.size) (λe=>by rcases hs i e with e1|e1;exact hn e1;omega)).trans (h.block i hi hn)⟩
def Vn{w:World}{ty size n b j ty':Nat}{v u xs cur}(h:w.ownsRow 0 ty size v n xs)(hb:w.heap[b]? =some (.cells cur ty' (0,0)))(hne:ty≠ty'):(w.setCell (A_ b j) u).ownsRow 0 ty size v n xs:=
 ((Aa.refl (λk=>k=b) w).setCell (p:=(A_ b j)) (λ_=>rfl) u).row h (λ_ hk e=>Au h hk hb hne e)
def Iq.form{w b v L}(h:Iq w b v L):∃a c,v=.slice a L.length c:=by
 rcases h.2 with⟨rfl,h0⟩|⟨q,p,cur,rfl,_⟩
 exact⟨none,0,by rw[h0]⟩;exact⟨_,_,rfl⟩
def Ww:∀(L:List VS) (k:Nat),k<L.length->∀c,c<3->(Ic L)[k*3+c]? =(Hy (L.getD k Ax))[c]?
 |[],k,h=>by simp at h
 |e::L,0,_=>λc hc=>by simp only[Ic];rw[show 0*3+c=c by omega,List.getElem?_append_left (by simpa [Hy] using hc)];rfl
 |e::L,k+1,h=>λc hc=>by simp only[Ic];rw[List.getElem?_append_right (by simp[Hy];omega),show(k+1)*3+c-(Hy e).length=k*3+c by simp[Hy];omega];exact Ww L k (by simpa using h) c hc
def Iq.at{w d a m i L}(h:Iq w d (.slice a m i) L){k}(l:k<L.length):∃q,a=some ⟨q,0,none⟩/\q<w.heap.size/\w.cell? (A_ q (k*3))=some (.bool (L.getD k Ax).miss)/\w.cell? (A_ q (k*3+1))=some (I_ (L.getD k Ax).num)/\w.cell? (A_ q (k*3+2))=some (.string (L.getD k Ax).word):=by
 have j:=h
 rcases h.2 with⟨e,h0⟩|⟨q,p,cur,e,_⟩
 omega;injection e with e1 e2 e3;subst e1 e2 e3
 have b:=λc u hc hu=>by have:=World.ownsRow.cells j (g:=q) rfl (k*3+c) u ((Ww L k l c hc).trans hu);have f:((A_ q 0):Addr).add (k*3+c)=(A_ q (k*3+c)):=(by unfold Addr.add;split<;>simp_all);rw[f] at this;exact this
 exact⟨q,rfl,(rl_ j q rfl).2,b 0 _ o_ rfl,b 1 _ o_ rfl,b 2 _ o_ rfl⟩
def Iq.more{w a v L x}(h:w.ownsRow a 308 3 v (L.length+1) (Ic L++Hy x)):Iq w a v (L++[x]):=by
 unfold Iq;rw[Us,Qe]
 simpa [Ic] using h
def Ot(s:RS)(k:Nat):RS:={s with ws:=s.ws++[s.wt],cols:=λi=>if i<k then s.cols i++[s.row.getD i Ax] else s.cols i}
def ZcM s:Ot s 0={s with ws:=s.ws++[s.wt]}:=by unfold Ot;have:(λi=>if i<0 then s.cols i++[s.row.getD i Ax] else s.cols i)=s.cols:=(by funext i;rw[if_neg o_]);rw[this]
def ZcL s k:{Ot s k with cols:=upd (Ot s k).cols k (s.cols k++[s.row.getD k Ax])}=Ot s (k+1):=by
 unfold Ot
 have:upd (λi=>if i<k then s.cols i++[s.row.getD i Ax] else s.cols i) k (s.cols k++[s.row.getD k Ax])=λi=>if i<k+1 then s.cols i++[s.row.getD i Ax] else s.cols i:=by
  funext i
  by_cases e:i=k
  subst e;rw[Nm,if_pos o_];rw[Oh _ _ e]
  by_cases c:i<k
  rw[if_pos c,if_pos o_];rw[if_neg c,if_neg o_]
 simp only[this]
def Zk4{w:World}{a n i b}(h:∃cur:Array Value,w.heap[a]? =some (.cells cur 251 (0,0))/\cur.size=n/\∀j,j<n->cur[j]? =some (b j))(g:i<n) v:∃cur:Array Value,(w.setCell (A_ a i) v).heap[a]? =some (.cells cur 251 (0,0))/\cur.size=n/\∀j,j<n->cur[j]? =some (upd b i v j):=by
 obtain⟨cur,c,d,f⟩:=h;refine⟨_,hs_ w _ i _ _ v c,by simp[d],λj hj=>?_⟩
 by_cases e:j=i
 subst e;rw[Array.getElem?_setIfInBounds_self_of_lt o_,Nm];rw[Array.getElem?_setIfInBounds_ne (λk=>e k.symm),Oh _ _ e];exact f j hj
def Zhp s k:(Ot s k).cols k=s.cols k:=by unfold Ot;simp
section
variable {w:World} {K M:Nat->Prop} {rb fb cb n:Nat} {wd:Nat->Bool} {sc ct:Nat->Int} {bins size:Int} {s:RS} {vW vr wv:Value} {vc:Nat->Value}
def ZcS(Q:Oo w K M rb fb cb n wd sc ct bins size s vW vr wv vc)(F:s.row.length=n)(hn:n<=4)(aM:s.ws.length<=200)(aH:∀i,i<n->(s.cols i).length<=200):C_ 222 #[.pointer (some ⟨rb,0,none⟩)] w λe w'=>e=.returned (.tuple #[])/\Ze8 w K M rb fb cb n wd sc ct bins size {s with ws:=s.ws++[s.wt],cols:=λi=>if i<n then s.cols i++[s.row.getD i Ax] else s.cols i,wt:=0,fl:=false,row:=[]} w':=by
 obtain⟨i3,R,aJ,aF,aD⟩:=info_parts ZhS;obtain⟨i8,L,a6,a5,aE⟩:=info_parts Zez;obtain⟨ar,cr,E⟩:=Q.or.form;rw[F] at E;subst E;obtain⟨_,c1,c2,c3,c4,c5⟩:=Q.rd.head;have cf:=Q.rd.part.2.2.2.2.2.2;have H:=x1_ Q;have X:=x1_ Q.ow;go_enter Tryz.func222,Tryz.ntmps222;go_upto_region 0 with fail;refine Al (λw'=>w'.cell? _=some _/\w'.cell? _=some _) 15 k_ ⟨c1,c3⟩ (λhHeld=>?_);refine Ah 0 ?_;refine Ah 1 ?_;refine Ah 2 ?_;refine Ah 3 ?_;refine Ah 4 ?_;refine Tx [11,12,13,14,15] 5 (v:=?_) ?_ ?_
 rotate_left
 ·intro w c;try obtain⟨_,_⟩:=c
  go_simp;try with_reducible rfl
 try simp only[Act.put,sA,sB,sC]
 refine Ah 6 ?_;refine Ah 7 ?_;refine Ah 8 ?_;refine Tx [10,11,12,13,14,15] 9 (v:=?_) ?_ ?_
 rotate_left
 ·intro w c;try obtain⟨_,_⟩:=c
  go_simp;try with_reducible rfl
 try simp only[Act.put,sA,sB,sC]
 refine Gg (i:=10) k_ rfl (λKK hK=>?_);go_simp;refine hK _ _ ⟨by go_keep,by go_keep⟩ (λhHeld=>?_);try simp only[Act.put,sA,sB,sC]
 refine Gg (i:=11) k_ rfl (λKK hK=>?_);refine Az rfl (.tmp 9) (.tmp 14) 25 rfl 0 3 i3 (I_ 0) 1 8 Tryz.underlying25 R aJ aF aD rfl d_ vW s.ws.length _ j_ (ra_ X _) _ 1 1 [I_ s.wt] j_ rfl (Am w #[I_ s.wt] 3) (by intro u P;simp only[List.mem_cons,List.not_mem_nil,or_false] at P;rcases P with rfl;rfl) d_ m_ o_ s_ ?_;intro v2 V a8;obtain⟨ho,C,Y,_,t,y,rfl⟩:=a8;have h:=RB.grown (w:=w.drew.alloc _) ((hb_ w _ _ H.rd.lt).trans H.rd) C (λe=>Au H.ow e.symm H.rd d_ rfl);have e1:=h.head.2.1;have e3:=h.head.2.2.2.1;have ef:=h.part.2.2.2.2.2.2
 have aI:=H.putW (w':=V.setCell _ _) (vW':=.slice _ _ _) (ws':=s.ws++[s.wt]) (wt:=s.wt) (fl:=s.fl) (ui C _) (h.setVW _) (Ag.more (Vn ho h d_)) (ZeW Y);have D:=x1_ aI;refine hK _ _ ⟨e1,e3⟩ (λhHeld=>?_);try simp only[Act.put,sA,sB,sC]
 refine Ah 12 ?_;refine Ah 13 ?_;refine Ah 14 ?_;refine Mf (i:=15) k_ rfl k_ (λKK hK=>?_);go_simp;refine hK _ _ ?_;try simp only[Act.put,sA,sB,sC]
 refine Ak k_ ?_ _;have l:Hid (Oo (V.setCell (A_ rb 1) (L_ t (s.ws.length+1) y)) K (λk=>M k∨(L_ t (s.ws.length+1) y).ownBlock=some k) rb fb cb n wd sc ct bins size (Ot s 0) (L_ t (s.ws.length+1) y) (.slice ar n cr) wv vc/\(∀k,(M k∨(L_ t (s.ws.length+1) y).ownBlock=some k)->M k∨w.heap.size<=k)/\Aa M w (V.setCell (A_ rb 1) (L_ t (s.ws.length+1) y))):=(by rw[ZcM];exact D);have d5:=l.1.rd.head.2.2.2.2.2;generalize V.setCell (A_ rb 1) (L_ t (s.ws.length+1) y)=w3 at *;have r:∃U:_,U=(λk=>M k∨(L_ t (s.ws.length+1) y).ownBlock=some k):=⟨_,rfl⟩;obtain⟨U,r⟩:=r;have a9:Hid ((∀k,U k->M k∨w.heap.size<=k)/\Aa M w w3):=(by rw[r];exact l.2);rw[<- r] at l;generalize L_ t (s.ws.length+1) y=vW3 at *;go_wp2_with fail
 go_loopw [24] (λti wr=>∃(k:Nat) (vc':Nat->Value) (Mk:Nat->Prop),k<=n/\ti=.int .i64 k/\Hid (Oo wr K Mk rb fb cb n wd sc ct bins size (Ot s k) vW3 (.slice ar n cr) wv vc')/\Hid ((∀k,Mk k->M k∨w.heap.size<=k)/\Aa M w wr)) (λti _=>n-(intOf ti).toNat)
 case atStart=>exact⟨0,vc,U,qg_,rfl,l.1,a9⟩
 case round=>
  obtain⟨k,N,Mk,hk,rfl,d,f⟩:=hrel
  by_cases hlt:k<n
  ·obtain⟨q,rfl,aK,r0,r1,r2⟩:=d.or.at (k:=k) (by show k<s.row.length;omega);have Z:Hid ((Ot s k).row.getD k Ax=s.row.getD k _):=rfl;rw[Z] at r0 r1 r2;generalize hx:s.row.getD k Ax=x at *;have aP:0<=(k:Int):=o_;have aL:k<(n:Int):=o_;go_upto_region 4 with fail;have I:Below _ wr (wr.alloc (.cells #[.bool x.miss,I_ x.num,.string x.word] 308)):=bA_;have b:=x1_ (d.touch (Aa.of_below (S:=λ_=>False) I) (λ_ _=>id));have T:=x1_ (f.2.below I)
   have aG:Hid ((N k).ownBlock≠some wr.heap.size):=λe=>by have:=(rl_ (d.oc k hlt) _ e).2;omega
   have aB:Hid (wr.heap.size<(wr.alloc (.cells #[.bool x.miss,I_ x.num,.string x.word] 308)).heap.size):=show _<_ by simp
   have a0:Hid (Iq (wr.alloc (.cells #[.bool x.miss,I_ x.num,.string x.word] 308)) 0 (N k) (s.cols k)):=(by have:=b.oc k hlt;rw[Zhp] at this;exact this);have x0:(wr.alloc (.cells #[_,I_ x.num,.string x.word] 308)).cell? _=some (.bool x.miss):=cq_ 0 _ _ _ hn_;have x1:(wr.alloc (.cells #[.bool x.miss,_,.string x.word] 308)).cell? _=some (I_ x.num):=cq_ 1 _ _ _ hn_;have x2:(wr.alloc (.cells #[.bool x.miss,I_ x.num,_] 308)).cell? _=some (.string x.word):=cq_ 2 _ _ _ hn_;have aO:=aH k hlt;generalize wr.alloc (.cells #[.bool x.miss,I_ x.num,.string x.word] 308)=w4 at *;have y2:=b.rd.head.2.2.1;have y4:w4.cell? (A_ cb k)=some (N k):=by obtain⟨g,W,_,a3⟩:=b.cl;exact(cq_ k _ _ _ W).trans (a3 k hlt)
   refine Al (λw'=>w'.cell? _=some _/\w'.cell? _=some _/\w'.cell? _=some _/\w'.cell? _=some _/\w'.cell? _=some _) 18 k_ ⟨y2,y4,x0,x1,x2⟩ (λhHeld=>?_);refine Ah 0 ?_;refine Ah 1 ?_;refine Ah 2 ?_;refine Ah 3 ?_;refine Tx [17,18] 4 (v:=?_) ?_ ?_
   rotate_left
   ·intro w c;try obtain⟨_,_,_,_,_⟩:=c
    go_simp;try with_reducible rfl
   try simp only[Act.put,sA,sB,sC]
   refine Ah 5 ?_;refine Ah 6 ?_;refine Ah 7 ?_;refine Ah 8 ?_;refine Ah 9 ?_;refine Tx [12,13,16,17,18] 10 (v:=?_) ?_ ?_
   rotate_left
   ·intro w c;try obtain⟨_,_,_,_,_⟩:=c
    go_simp;try with_reducible rfl
   try simp only[Act.put,sA,sB,sC]
   refine Ah 11 ?_;refine Ah 12 ?_;refine Tx [16,17,18] 13 (v:=?_) ?_ ?_
   rotate_left
   ·intro w c;try obtain⟨_,_,_,_,_⟩:=c
    go_simp;try with_reducible rfl
   try simp only[Act.put,sA,sB,sC]
   refine Tx [15,16,17,18] 14 (v:=?_) ?_ ?_
   rotate_left
   ·intro w c;try obtain⟨_,_,_,_,_⟩:=c
    go_simp;try with_reducible rfl
   try simp only[Act.put,sA,sB,sC]
   refine Gg (i:=15) k_ rfl (λKK hK=>?_);go_simp;refine hK _ _ ⟨by go_keep,by go_keep,by go_keep,by go_keep,by go_keep⟩ (λhHeld=>?_);try simp only[Act.put,sA,sB,sC]
   refine Gg (i:=16) k_ rfl (λKK hK=>?_);refine Az rfl (.tmp 42) (.tmp 44) 251 rfl 0 308 i8 _ 3 32 Tryz.underlying251 L a6 a5 aE rfl d_ (N k) (s.cols k).length (Ic (s.cols k)) j_ (ra_ a0 _) _ 1 1 (Hy x) j_ rfl (Am w4 _ 308) (by intro u P;simp only[Hy,List.mem_cons,List.not_mem_nil,or_false] at P;rcases P with rfl|rfl|rfl<;>rfl) d_ m_ o_ s_ ?_;intro v5 w5 a7;obtain⟨ho,C,Y,_,q5,p5,rfl⟩:=a7
   have G:∃g:Array Value,w5.heap[cb]? =some (.cells g 251 (0,0))/\g.size=n/\∀j,j<n->g[j]? =some (N j):=by obtain⟨g,W,a2,a3⟩:=b.cl;refine⟨g,?_,a2,a3⟩;rw[C.block cb (by simp;have:=b.ml cb b.mc;omega) (λe=>Au (b.oc k hlt) e.symm W d_ rfl)];exact(hc_ (b.ml _ b.mc)).trans W
   have e2:=(RB.grown (w:=w4.drew.alloc _) ((hc_ b.rd.lt).trans b.rd) C (λe=>Au (b.oc k hlt) e.symm b.rd d_ rfl)).head.2.2.1;obtain⟨aA,m,aC,J⟩:=G;have e4:=(cq_ k _ _ _ m).trans (J k hlt);have aN:=λo=>fq_ o _ _ m;have a4:=aB.out;have A:=λo=>(cb_ (w:=w4.drew.alloc _) (a:=(A_ wr.heap.size o)) (C.block _ t_ (λe=>aG e.symm))).trans (Below.cell (B:=w4.heap.size) (w:=w4) (p:=(A_ wr.heap.size o)) ((bz_.drew).alloc s_ _) a4);have D:=x1_ (b.putCol (w':=w5.setCell _ _) (v':=.slice _ _ _) (col':=s.cols k++[x]) hlt (ui C _) (Zk4 ⟨aA,m,aC,J⟩ hlt _) (Iq.more (Vn ho m d_)) (ZeW Y));rw[<- hx,ZcL] at D
   refine hK _ _ ⟨e2,e4,(A _).trans x0,(A _).trans x1,(A _).trans x2⟩ (λhHeld=>?_);try simp only[Act.put,sA,sB,sC]
   refine Ah 17 ?_;refine Mf (i:=18) k_ rfl k_ (λKK hK=>?_);go_simp;refine hK _ _ ?_;try simp only[Act.put,sA,sB,sC]
   refine Ak k_ ?_ _;refine rd_ ?_;exact⟨k+1,_,_,o_,g_,D.1,λz hz=>(by rcases D.out.2.1 z hz with O|O;exact f.1 z O;exact .inr (by have:=T.size;omega)),T.trans2 D.2.2 f.1⟩
  obtain rfl:k=n:=o_;have g3:=d.rd.head;have gf:=d.rd.part.2.2.2.2.2.2;obtain⟨_,_,_,g3,g4,g5⟩:=g3
  have HF:=x1_ (d.putRow (w':=((wr.setCell _ _).setCell _ _).setCell _ _) (vr':=.slice none 0 0) (row':=[]) (p:=s.p) (bs:=s.bs) (wv':=wv) (wt:=0) (fl:=false)
   ((((Aa.refl _ wr).setCell (p:=(A_ rb 3)) (λ_=>.inl rfl) _).setCell (p:=(A_ rb 4)) (λ_=>.inl rfl) _).setCell (p:=(A_ rb 5)) (λ_=>.inl rfl) _)
   (((d.rd.setWt 0).setFl false).setVr _) (Iq.nil _ _) (.inr (.inl rfl))
   (Vn (Vn (Vn d.ob d.rd d_) (d.rd.setWt 0) d_) ((d.rd.setWt 0).setFl false) d_) (.inr rfl))
  have HS:Hid (({Ot s k with row:=[],p:=s.p,bs:=s.bs,wt:=0,fl:=false}:RS)={s with ws:=s.ws++[s.wt],cols:=λi=>if i<k then _ else _,wt:=0,fl:=false,row:=[]}):=rfl;go_wp2;go_end0;refine⟨rfl,⟨_,⟨_,_,_,_,HF.1⟩,λz hz=>?_⟩,f.2.trans2 HF.2.2 f.1⟩
  rcases HF.out.2.1 z hz with O|O
  exact f.1 z O;exact .inr (by have:=f.2.size;omega)
end
def Bj.nil w base:Bj w base (.slice none 0 0) []:=World.ownsRow_nil w base 5 1
def Zdt{w w2 o}{v u:Value}(hg:(w.alloc o).grownBy w2 v.ownBlock) b {j}:Aa (λk=>k=b∨v.ownBlock=some k) w (w2.setCell (A_ b j) u):=
 (((Aa.refl (λk=>k=b∨v.ownBlock=some k) w).alloc o).grown hg (λ_ e _=>.inr e)).setCell (p:=(A_ b j)) (λ_=>.inl rfl) u
def Zir{w c:World}{o}{v a:Value}(b:a.ownBlock=v.ownBlock∨a.ownBlock=some (w.alloc o).heap.size/\Below (w.alloc o).heap.size (w.alloc o) c):a.ownBlock=v.ownBlock∨∃k,a.ownBlock=some k/\w.heap.size<=k:=by
 rcases b with h|⟨h,_⟩
 exact .inl h;exact .inr ⟨_,h,s_⟩
def En(n:Nat)(wd:Nat->Bool)(sc:Nat->Int)(s:RS)(c:Int):Option RS:=
 match Be (wd s.row.length) (Cp (sc s.row.length).toNat) s.p s.bs c with
 |some q=>some {s with p:=q.1,bs:=q.2}
 |none=>if c=Eg s.row.length n/\El s.p.st=true then some (Gd n s (s.row++[Gq s.p s.bs])) else none
def Aa.undrew{S w w'}(t:Aa S w.drew w'):Aa S w w':=⟨t.os,t.tape,t.output,t.size,t.block⟩
section
variable {w:World} {K M:Nat->Prop} {rb fb cb n:Nat} {wd:Nat->Bool} {sc ct:Nat->Int} {bins size:Int} {s:RS} {vW vr wv:Value} {vc:Nat->Value}
def Zg5{p:Prop}(h:p:=by
 go_wp2_with (first|(go_at_call 219;refine(HSEP).mono ?_;rintro e w' ⟨rfl,m,rfl⟩)|(go_at_call 220;refine(HME _).mono ?_;rintro e w' ⟨rfl,hw'⟩;obtain rfl:=hw'.symm))
 go_ret;rw[HO]
 exact⟨rfl,⟨M3,⟨_,_,_,_,HXD _⟩,HM1.1⟩,HTD _⟩):p:=h
def Zz c (J:Oo w K M rb fb cb n wd sc ct bins size s vW vr wv vc)(R:Ht n s)(hn:n<=4)(aU:s.ws.length<200)(aC:∀i,i<n->wd i=false->0<=sc i/\sc i<=3):C_ 163 #[.pointer (some ⟨rb,0,none⟩),.int .u8 c] w λe w'=>e=.returned (.bool (En n wd sc s c).isSome)/\Ze8 w K M rb fb cb n wd sc ct bins size ((En n wd sc s c).getD s) w':=by
 obtain⟨i8,a8,aP,aO,aN⟩:=info_parts Zez;obtain⟨W,cr,rfl⟩:=J.or.form;obtain⟨c0,_,_,_,_,c5⟩:=J.rd.head;obtain⟨v0,v1,v2,c6,hF⟩:=J.feat R.row;have aV:0<=(s.row.length:Int):=o_;have aR:s.row.length<(n:Int):=(by have:=R.row;omega);have Y:=J.touch (S:=λ_=>False) (Aa.refl _ w).drew (λ_ _=>id)
 have a4:∃(f:Nat) (cs:Array Value),v0=.func (.func f) #[] cs/\C_ f (#[.pointer (some ⟨rb,6,none⟩),.int .u8 c]++cs) w.drew (λe w'=>Zao w.drew K M rb fb cb n wd sc ct bins size s vW (.slice W s.row.length cr) vc (Be (wd s.row.length) (Cp (sc s.row.length).toNat) s.p s.bs c) e w')/\((f=209/\cs=#[])∨∃k0,f=214/\cs=#[.pointer (some ⟨k0,0,none⟩)]):=by
  rcases hF with⟨e,k1,k2,k3,e0,_⟩|⟨e,k0,k1,k2,k3,e0,_,_,_,_,_,_,h0,_⟩
  refine⟨209,#[],e0,?_,.inl ⟨rfl,rfl⟩⟩;rw[e];exact Zga Y c _ R.bs;refine⟨214,_,e0,?_,.inr ⟨k0,rfl,rfl⟩⟩;have:=aC _ R.row e;have ht:=lu (sc s.row.length).toNat o_;rw[e];exact Ziz Y c _ _ h0 o_ ht.2 R.num
 obtain⟨f,cs,rfl,b,a1⟩:=a4;have HX:=x1_ J;have HI:=x1_ R;have aH:=J.fb_ne;have a7:=λk e=>(J.kk k e).2;have C:K fb:=(by obtain⟨_,_,_,h3,_⟩:=J.fs;exact h3);have o:=(J.kk _ C).1;have E:=x1_ (a7 _ C);have aS:=R.row;clear J Y hF R a7 C
 cases hfs:Be (wd s.row.length) (Cp (sc s.row.length).toNat) s.p s.bs c with
 | some q=>
  have HO:Hid (En n wd sc s c=some {s with p:=q.1,bs:=q.2}):=(by show En n wd sc s c=_;unfold En;rw[hfs]);rw[hfs] at b;have HC:=x1_ b;clear b hfs
  rcases a1 with⟨rfl,rfl⟩|⟨k0,rfl,rfl⟩
  ·go_enter Tryz.func163,Tryz.ntmps163;go_wp2_with fail
   go_region_held3 (λw'=>w'.cell? (A_ rb 0)=some (L_ fb n n)/\w'.cell? (A_ rb 5)=some (.slice W s.row.length cr)/\w'.cell? (A_ fb (s.row.length*3))=some (.func (.func 209) #[] #[])) (go_keep) (first|(go_at_call 209;refine(HC).mono ?_;rintro e w' ⟨rfl,⟨L,F,l,y,d⟩,x⟩;have e0:=l.rd.head.1;have e5:=l.rd.head.2.2.2.2.2;have ef:w'.cell? _=some (.func (.func 209) _ _):=(cb_ (w:=w.drew) (a:=(A_ fb (s.row.length*3))) (x.block _ o E)).trans c6;have HR:Hid (Ze8 w K M _ _ _ n _ _ _ _ _ {s with p:=q.1,bs:=q.2} _):=⟨⟨L,⟨_,_,_,_,l⟩,d⟩,x.undrew⟩;clear l y d x))
   all_goals go_wp2
   all_goals go_ret
   all_goals rw[HO]
   all_goals exact⟨rfl,HR⟩
  go_enter Tryz.func163,Tryz.ntmps163;go_wp2_with fail
  go_region_held3 (λw'=>w'.cell? (A_ rb 0)=some (L_ fb n n)/\w'.cell? (A_ rb 5)=some (.slice W s.row.length cr)/\w'.cell? (A_ fb (s.row.length*3))=some (.func (.func 214) #[] #[P_ k0])) (go_keep) (first|(go_at_call 214;refine(HC).mono ?_;rintro e w' ⟨rfl,⟨L,F,l,y,d⟩,x⟩;have e0:=l.rd.head.1;have e5:=l.rd.head.2.2.2.2.2;have ef:w'.cell? _=some (.func (.func 214) _ _):=(cb_ (w:=w.drew) (a:=(A_ fb (s.row.length*3))) (x.block _ o E)).trans c6;have HR:Hid (Ze8 w K M _ _ _ n _ _ _ _ _ {s with p:=q.1,bs:=q.2} _):=⟨⟨L,⟨_,_,_,_,l⟩,d⟩,x.undrew⟩;clear l y d x))
  all_goals go_wp2
  all_goals go_ret
  all_goals rw[HO]
  all_goals exact⟨rfl,HR⟩
 | none=>
  rw[hfs] at b;have HC:=x1_ b
  have a9:=show Hid _ from hfs
  clear b hfs;go_enter Tryz.func163,Tryz.ntmps163;go_wp2_with fail
  go_cut [21] (λv wx=>v=.bool false/\∃M3 r,Hid (Oo wx K M3 rb fb cb n wd sc ct bins size s vW (.slice W s.row.length cr) r vc)/\Hid ((∀k,M3 k->M k∨w.heap.size<=k)/\Aa M w wx))
  case first=>
   rcases a1 with⟨rfl,rfl⟩|⟨k0,rfl,rfl⟩
   ·go_region_held3 (λw'=>w'.cell? (A_ rb 0)=some (L_ fb n n)/\w'.cell? (A_ rb 5)=some (.slice W s.row.length cr)/\w'.cell? (A_ fb (s.row.length*3))=some (.func (.func 209) #[] #[])) (go_keep) (first|(go_at_call 209;refine(HC).mono ?_;rintro e w' ⟨rfl,⟨L,F,l,y,d⟩,x⟩;have e0:=l.rd.head.1;have e5:=l.rd.head.2.2.2.2.2;have ef:w'.cell? _=some (.func (.func 209) _ _):=(cb_ (w:=w.drew) (a:=(A_ fb (s.row.length*3))) (x.block _ o E)).trans c6;have HR:Hid (∃M3 r,Hid (Oo w' K M3 rb fb cb n wd sc ct _ _ s vW _ r vc)/\Hid ((∀k,M3 k->M k∨w.heap.size<=k)/\_)):=⟨L,F,l,d,x.undrew⟩;clear l y d x))
    all_goals go_wp2
    all_goals go_meet
    all_goals exact⟨rfl,HR⟩
   go_region_held3 (λw'=>w'.cell? (A_ rb 0)=some (L_ fb n n)/\w'.cell? (A_ rb 5)=some (.slice W s.row.length cr)/\w'.cell? (A_ fb (s.row.length*3))=some (.func (.func 214) #[] #[P_ k0])) (go_keep) (first|(go_at_call 214;refine(HC).mono ?_;rintro e w' ⟨rfl,⟨L,F,l,y,d⟩,x⟩;have e0:=l.rd.head.1;have e5:=l.rd.head.2.2.2.2.2;have ef:w'.cell? _=some (.func (.func 214) _ _):=(cb_ (w:=w.drew) (a:=(A_ fb (s.row.length*3))) (x.block _ o E)).trans c6;have HR:Hid (∃M3 r,Hid (Oo w' K M3 rb fb cb n wd sc ct _ _ s vW _ r vc)/\Hid ((∀k,M3 k->M k∨w.heap.size<=k)/\_)):=⟨L,F,l,d,x.undrew⟩;clear l y d x))
   all_goals go_wp2
   all_goals go_meet
   all_goals exact⟨rfl,HR⟩
  case rest=>
   obtain⟨rfl,M3,r,O,HM1⟩:=hcut;clear c0 c5 c6 o E HC a1;have HSEP:=x1_ (qq _ _ n n _ _ _ _ _ _ _ _ _ O.rd o_ o_);have HME:Hid (∀m,Calls _ _ _ _ λe w'=>e=.returned (.bool (El s.p.st))/\_):=λm=>Zdh _ _ _ _ _ _ _ {s.p with wv:=r} (wc.drewN m) O.rd;have HXD:Hid (∀m,Oo (wc.drewN m) K _ _ _ _ n _ _ _ _ _ s _ _ _ _):=λm=>O.touch (S:=λ_=>False) ⟨rfl,rfl,rfl,qa_,λ_ _ _=>rfl⟩ (λ_ _=>id);have HTD:Hid (∀m,Aa M w (wc.drewN m)):=λm=>⟨HM1.2.os,HM1.2.tape,HM1.2.output,HM1.2.size,HM1.2.block⟩;have g:Hid (En n wd sc s c=if c=Eg s.row.length n/\El s.p.st=true then some (Gd n s (s.row++[Gq s.p s.bs])) else none):=(by show En n wd sc s c=_;unfold En;rw[a9]);clear a9
   by_cases hc:c=Eg s.row.length n
   ·by_cases hm:El s.p.st=true
    ·have HO:Hid (En n wd sc s c=some (Gd n s (s.row++[Gq s.p s.bs]))):=(by show _=_;rw[g,if_pos ⟨hc,hm⟩]);rw[hm] at HME;rw[<- hc] at HSEP;clear hc hm g;go_upto_region 5 with(first|(go_at_call 219;refine(HSEP).mono ?_;rintro e w' ⟨rfl,m,rfl⟩)|(go_at_call 220;refine(HME _).mono ?_;rintro e w' ⟨rfl,hw'⟩;obtain rfl:=hw'.symm))
     have z:=x1_ ((HXD m).touch (S:=λ_=>False) (Aa.refl _ _).drew (λ_ _=>id));have aB:=x1_ ((HTD m).drew);clear HXD HTD HSEP HME O;generalize wc.drewN m=w3 at *;have aQ:=HI.num.le;have aW:=HI.num.n0;have Q:Hid (C_ 221 _ w3.drew λe w'=>e=.returned (.agg #[.bool (decide (s.p.st=0)),.int .i64 (Qv s.p),.string (strOfNums s.bs)])/\_):=Zgx _ 0 _ _ _ _ _ _ {s.p with wv:=r} _ _ ⟨z.rd,z.ob⟩ (by show _<=s.p.num;omega) (by show s.p.num<=_;omega);have a6:=z.rd.head.2.2.2.2.2;refine Al (λw'=>w'.cell? _=some _) 13 k_ a6 (λhHeld=>?_);refine Ah 0 ?_;refine Ah 1 ?_;refine Ah 2 ?_;refine Ah 3 ?_;refine Ah 4 ?_;refine Ah 5 ?_;refine Ah 6 ?_;refine Ah 7 ?_;refine Gg (i:=8) k_ rfl (λKK hK=>?_);go_simp;refine(Q).mono ?_
     rintro e w4 ⟨rfl,N⟩;have d5:=(N.cell (p:=(A_ rb 5)) z.rd.lt).trans z.rd.head.2.2.2.2.2;have A:=x1_ (z.touch (Aa.of_below (S:=λ_=>False) N) (λ_ _=>id));have a3:=x1_ (aB.below N);clear N;go_simp;refine hK _ _ d5 (λhHeld=>?_);clear hK KK;try simp only[Act.put,sA,sB,sC]
     refine Gg (i:=9) k_ rfl (λKK hK=>?_);go_simp;refine hK _ _ (by go_keep) (λhHeld=>?_);clear hK KK;try simp only[Act.put,sA,sB,sC]
     refine Gg (i:=10) k_ rfl (λKK hK=>?_);refine Az rfl (.tmp 37) (.tmp 42) 251 rfl 0 308 i8 _ 3 32 Tryz.underlying251 a8 aP aO aN rfl d_ (.slice W s.row.length cr) s.row.length (Ic s.row) j_ (ra_ A.or _) _ 1 1 (Hy (Gq s.p s.bs)) j_ rfl (Am w4 _ 308) (by intro u hu;simp only[Hy,List.mem_cons,List.not_mem_nil,or_false] at hu;rcases hu with rfl|rfl|rfl<;>rfl) d_ m_ o_ s_ ?_;intro v5 w5 aG;obtain⟨ho,hg,hd,_,U,T,rfl⟩:=aG;have t:=RB.grown (w:=w4.alloc _) ((hc_ A.rd.lt).trans A.rd) hg (λe=>Au A.or e.symm A.rd d_ rfl);have e5:=t.head.2.2.2.2.2;have aK:=t.part.2.2.2.2.2.2
     have aA:=(((((((t.setVr (L_ U (s.row.length+1) T)).st 0).neg false).dig 0).unit 0).num 0).wv (.slice none 0 0));have t6:=((((((Zdt (u:=L_ U (s.row.length+1) T) (j:=5) hg rb).setCell (p:=(A_ rb 6)) (λ_=>.inl rfl) (I_ 0)).setCell (p:=(A_ rb 7)) (λ_=>.inl rfl) (.bool false)).setCell (p:=(A_ rb 8)) (λ_=>.inl rfl) (I_ 0)).setCell (p:=(A_ rb 9)) (λ_=>.inl rfl) (I_ 0)).setCell (p:=(A_ rb 10)) (λ_=>.inl rfl) (I_ 0)).setCell (p:=(A_ rb 11)) (λ_=>.inl rfl) (.slice none 0 0);have H:=Iq.more ho
     have D:=((((((Aa.refl (λk=>k=rb) w5).setCell (p:=(A_ rb 5)) (λ_=>rfl) (L_ U (s.row.length+1) T)).setCell (p:=(A_ rb 6)) (λ_=>rfl) (I_ 0)).setCell (p:=(A_ rb 7)) (λ_=>rfl) (.bool false)).setCell (p:=(A_ rb 8)) (λ_=>rfl) (I_ 0)).setCell (p:=(A_ rb 9)) (λ_=>rfl) (I_ 0)).setCell (p:=(A_ rb 10)) (λ_=>rfl) (I_ 0);have HP:=x1_ (A.putRow (s:=s) (p:=part0) (bs:=[]) (wt:=s.wt) (fl:=s.fl) t6 aA (H.touch (D.setCell (p:=(A_ rb 11)) (λ_=>rfl) _) (λk hk e=>Au H hk t d_ e)) (by rcases Zir hd with I|I;exact .inl I;exact .inr (.inr I)) (Bj.nil _ _) (.inl rfl));have aD:(w5.setCell _ (L_ U (s.row.length+1) T)).cell? _=_:=(t.setVr _).head.2.2.2.2.2;have dp:=(t.setVr (L_ U (s.row.length+1) T)).part;obtain⟨g6,g7,g8,g9,aI,aJ,gf⟩:=dp
     clear ho hg hd t aA t6 H D;refine hK _ _ e5 (λhHeld=>?_);clear hK KK;try simp only[Act.put,sA,sB,sC]
     refine Ah 11 ?_;refine Ah 12 ?_;refine Mf (i:=13) k_ rfl k_ (λKK hK=>?_);go_simp;refine hK _ _ ?_;clear hK KK;try simp only[Act.put,sA,sB,sC]
     refine Ak k_ ?_ _;have X:=x1_ HP;clear HP Q z aB hHeld d5 e5 aK a6;go_upto_region 7 with fail;clear g6 g7 g8 g9 aI aJ gf aD;generalize (((((((w5.setCell (A_ rb 5) (L_ U (s.row.length+1) T)).setCell (A_ rb 6) (I_ 0)).setCell (A_ rb 7) (.bool false)).setCell (A_ rb 8) (I_ 0)).setCell (A_ rb 9) (I_ 0)).setCell (A_ rb 10) (I_ 0)).setCell (A_ rb 11) (.slice none 0 0))=w6 at *;obtain⟨M6,V⟩:∃M6:Nat->Prop,M6=(λk=>M3 k∨(L_ U (s.row.length+1) T).ownBlock=some k):=⟨_,rfl⟩;have Z:Hid ((∀k,M6 k->M3 k∨w4.heap.size<=k)/\Aa M3 w4 w6):=(by rw[V];exact X.2);have P:Hid (Oo w6 K M6 rb fb cb n wd sc ct bins size {s with row:=s.row++[Gq s.p s.bs],p:=part0,bs:=[]} vW (L_ U (s.row.length+1) T) (.slice none 0 0) vc):=by rw[V];exact X.1
     have B:=x1_ (a3.trans2 Z.2 HM1.1)
     have a0:Hid (∀k,M6 k->M k∨w.heap.size<=k):=λk hk=>by
      rcases Z.out.1 k hk with I|I
      exact HM1.1 k I;exact .inr (by have:=a3.size;omega)
     have g0:=P.rd.head.1;have g5:=P.rd.head.2.2.2.2.2
     have aE:∀i,_->(s.cols i).length<=200:=λi hi=>by rw[HI.col i hi];omega
     clear V X Z A a3 HM1
     by_cases hl:s.row.length+1=n
     ·have a2:Hid (Gd n s (s.row++[Gq s.p s.bs])={({s with row:=s.row++[Gq s.p s.bs],p:=part0,bs:=[]}:RS) with ws:=s.ws++[s.wt],cols:=λi=>if i<n then s.cols i++[(s.row++[Gq s.p s.bs]).getD i Ax] else s.cols i,wt:=0,fl:=false,row:=[]}):=by show _=_;unfold Gd;rw[if_pos (by simp;exact hl)]
      have aL:Hid (∀m,C_ 222 #[.pointer (some ⟨rb,0,none⟩)] (w6.drewN m) λe w'=>e=.returned (.tuple #[])/\Ze8 (w6.drewN m) K M6 rb fb cb n wd sc ct bins size {({s with row:=s.row++[Gq s.p s.bs],p:=part0,bs:=[]}:RS) with ws:=s.ws++[s.wt],cols:=λi=>if i<n then s.cols i++[(s.row++[Gq s.p s.bs]).getD i Ax] else s.cols i,wt:=0,fl:=false,row:=[]} w'):=λm=>ZcS (w:=w6.drewN m) (P.touch (w':=w6.drewN m) (S:=λ_=>False) ⟨rfl,rfl,rfl,qa_,λ_ _ _=>rfl⟩ (λ_ _=>id)) (by simp;exact hl) hn (by show s.ws.length<=200;omega) aE;have e1:((s.row.length+1:Nat)==(n:Int))=true:=t_;have e2:((s.row.length+1)==(n:Int))=true:=t_;go_big_quiet (fail);go_wp2_with (go_at_call 222;refine(aL _).mono ?_;rintro e w7 ⟨rfl,hL⟩)
      go_ret;rw[HO,a2];obtain⟨⟨L,aF,aM⟩,G⟩:=hL;refine⟨rfl,⟨L,aF,λk hk=>?_⟩,B.trans2 ⟨G.os,G.tape,G.output,G.size,G.block⟩ a0⟩
      rcases aM k hk with I|I
      exact a0 k I;exact .inr (Nat.le_trans B.size I)
     have a2:Hid (Gd n s (s.row++[Gq s.p s.bs])={s with row:=s.row++[Gq s.p s.bs],p:=part0,bs:=[]}):=(by show _=_;unfold Gd;rw[if_neg (by simp;exact hl)]);have e1:(((s.row.length+1:_):_)==(n:Int))=_:=beq_eq_false_iff_ne.2 o_;have e2:(((s.row.length:_)+1)==(n:Int))=_:=beq_eq_false_iff_ne.2 o_;go_big_quiet (fail);go_wp2;go_ret;rw[HO,a2];exact⟨rfl,⟨M6,⟨_,_,_,_,P.touch (S:=λ_=>False) ⟨rfl,rfl,rfl,qa_,λ_ _ _=>rfl⟩ (λ_ _=>id)⟩,a0⟩,⟨B.os,B.tape,B.output,B.size,B.block⟩⟩
    have a5:El s.p.st=false:=by simpa using hm
    have HO:Hid (En n wd sc s c=none):=(by show _=_;rw[g,if_neg (λh=>hm h.2)]);rw[a5] at HME;rw[<- hc] at HSEP;clear hc hm a5 g;exact Zg5
   have HO:Hid (En n wd sc s c=none):=(by show _=_;rw[g,if_neg (λh=>hc h.1)]);have aT:=beq_eq_false_iff_ne.2 hc;generalize Eg s.row.length n=sp at *;clear g;exact Zg5
end
def ZfD{w b v L}(h:Ag w b v L):∃a c,v=.slice a L.length c:=by
 rcases h.2 with⟨rfl,h0⟩|⟨q,p,cur,rfl,_⟩
 ·grind
 grind
def ZkE(w:World)(K M:Nat->Prop)(rb fb cb n:Nat)(wd:Nat->Bool)(sc ct:Nat->Int)(bins size:Int)(o:Except Int RS)(e:Ending)(w':World):Prop:=
 match o with
 |.error z=>e=.returned (.int .i64 z)/\Aa M w w'
 |.ok s'=>e=.returned (.int .i64 0)/\Ze8 w K M rb fb cb n wd sc ct bins size s' w'
def Ht.take{n f d s g c}(h:Ht n s)(j:1<=n)(e:∀i,i<n->f i=false->0<=d i/\d i<=3)(a:Cw n f d s c=.ok g):Ht n g:=by
 unfold Cw at a;split at a
 ·cases a
 rename_i h200;split at a
 ·split at a
  ·cases a
  injection a with a;subst a;exact⟨h.ws,h.col,h.wt0,h.wt1,h.row,h.num,h.bs⟩;rename_i z hz;injection a with a;subst a;have:=rf hz;exact⟨h.ws,h.col,w_,w_,h.row,h.num,h.bs⟩
 split at a
 ·rename_i p bs hf;injection a with a;subst a
  have b:Fv p/\bs.length<=8:=by
   unfold Be at hf;split at hf
   ·cases hq:Bt s.p.st s.bs c with
    |none=>grind
    | some q=>
     rw[hq] at hf;injection hf with hf;injection hf with h1 h2;subst h1 h2;exact⟨h.num.st _,Zaf hq h.bs⟩
   rename_i hw
   cases hq:Bz (Cp (d s.row.length).toNat) s.p c with
   |none=>grind
   | some q=>
    rw[hq] at hf;injection hf with hf;injection hf with h1 h2;subst h1 h2;have:=e _ h.row (by simpa using hw);have a:=lu (d s.row.length).toNat o_;exact⟨h.num.step a.1 a.2 hq,h.bs⟩
  exact⟨h.ws,h.col,h.wt0,h.wt1,h.row,b.1,b.2⟩
 split at a
 ·injection a with a;subst a;unfold Gd;split;rename_i hl;refine⟨?_,λi hi=>?_,Int.le_refl 0,w_,by show 0<n;omega,Fv.part0,qg_⟩;show(s.ws++[s.wt]).length<=200;have:=h.ws;simp;omega;show(if i<n then s.cols i++[(s.row++[Gq s.p s.bs]).getD i Ax] else s.cols i).length=(s.ws++[s.wt]).length;rw[if_pos hi];have:=h.col i hi;simp[this];rename_i hl;have:=h.row;refine⟨h.ws,h.col,h.wt0,h.wt1,?_,Fv.part0,qg_⟩
  grind
 cases a
section
variable {w:World} {K M:Nat->Prop} {rb fb cb n:Nat} {wd:Nat->Bool} {sc ct:Nat->Int} {bins size:Int} {s:RS}
def ZiW c (E:RdM w K M rb fb cb n wd sc ct bins size s)(o:Ht n s)(G:n<=4)(q:∀i,i<n->wd i=false->0<=sc i/\sc i<=3)(v:0<=c)(r:c<=255):C_ 98 #[.pointer (some ⟨rb,0,none⟩),.int .u8 c] w λe w'=>ZkE w K M rb fb cb n wd sc ct bins size (Cw n wd sc s c) e w':=by
 obtain⟨R,P,C,Q,a⟩:=E;obtain⟨N,S,b⟩:=ZfD a.ow
 by_cases h200:s.ws.length=200
 have j:Hid (Cw n wd sc s c=_):=if_pos h200;rw[h200] at b;subst b;refine(Zgs _ _ _ _ _ _ _ _ _ c w a.rd).mono ?_;rintro e w' ⟨rfl,rfl⟩;rw[j];exact⟨rfl,Aa.refl _ _⟩;have g:s.ws.length<200:=(by have:=o.ws;omega);subst b
 cases hfl:s.fl with
 | false=>
  have f:=a.rd;rw[hfl] at f;refine(Zb2 _ _ _ _ _ _ _ _ _ c w f g o.wt0 o.wt1 v r).mono ?_;rintro e w' ⟨rfl,O,d⟩
  have j:Cw n wd sc s c=match Bd s.wt c with|none=>.error 2|some none=>.ok {s with fl:=true}|some (some z)=>.ok {s with wt:=z}:=by grind [Cw]
  rw[j];obtain⟨B,d⟩:=d;have t:Aa (λk=>k=_∨some k=C.ownBlock) w _:=(Aa.refl _ w).grown B (λk hk _=>.inl (by injection hk with hk;exact hk.symm))
  have x:=t.mono (λk _ e=>by
   rcases e with e|e
   exact e ▸ a.mr
   exact a.mw k e.symm)
  have h:=a.ob.touch ((Aa.refl (λk=>k=rb) w).grown B (λk hk _=>w_)) (λk hk e=>by
   obtain⟨F,L⟩:=Ad a.ob hk
   exact a.ne_of_type L d_ e)
  have A:∀k,(M k∨C.ownBlock=some k)->M k∨w.heap.size<=k:=λk e=>by
   rcases e with e|e
   exact .inl e;exact .inl (a.mw k e)
  rcases hw:Bd s.wt c with _|_|z
  exact⟨rfl,x⟩
  ·skip
   rw[hw] at d;exact⟨rfl,⟨_,⟨_,_,_,_,a.rewrite (p:=s.p) (bs:=s.bs) (wt:=s.wt) (fl:=true) t d.2 h (.inl rfl)⟩,A⟩,x⟩
  skip
  rw[hw] at d;have l:=d.2;rw[<- hfl] at l;exact⟨rfl,⟨_,⟨_,_,_,_,a.rewrite (p:=s.p) (bs:=s.bs) (wt:=z) (fl:=s.fl) t l h (.inl rfl)⟩,A⟩,x⟩
 | true=>
  have m:=x1_ (Zz c a o G g q)
  have j:Hid (Cw n wd sc s c=match En n wd sc s c with|some s'=>.ok s'|none=>.error 2):=by
   show Cw n wd sc s c=_
   grind [Cw,En]
  obtain⟨_,T,_,_,I,_⟩:=a.rd.head;rw[hfl] at I;have J:((s.ws.length:Int)==200)=_:=beq_eq_false_iff_ne.2 o_;have D:¬(s.ws.length:Int)=200:=o_;rw[j]
  cases hout:En n wd sc s c with
  | none=>
   rw[hout] at m;go_enter Tryz.func98,Tryz.ntmps98;go_wp2_with fail
   refine m.mono ?_;rintro e H ⟨rfl,y⟩
   have u:=show Hid _ from y
   simp only[Option.isSome];go_wp2;go_ret;exact⟨rfl,u.2⟩
  | some s'=>
   rw[hout] at m;go_enter Tryz.func98,Tryz.ntmps98;go_wp2_with fail
   refine m.mono ?_;rintro e H ⟨rfl,y⟩
   have u:=show Hid _ from y
   simp only[Option.isSome];go_wp2;go_ret;exact⟨rfl,u⟩
end
def Aq(b:ByteArray):List Int:=b.data.toList.map (λu=>u.toNat)
def Ca(n:Nat)(wd:Nat->Bool)(sc:Nat->Int):RS->List Int->Nat->Except (Int×Nat) RS
 |s,[],_=>.ok s
 | s,c::r,k=>match Cw n wd sc s c with
  |.error z=>.error (z,k)
  |.ok s'=>Ca n wd sc s' r (k+1)
theorem Je n wd sc:∀a b s k,Ca n wd sc s (a++b) k=match Ca n wd sc s a k with
  |.error z=>.error z
  |.ok s'=>Ca n wd sc s' b (k+a.length)
 |[],b,s,k=>by simp[Ca]
 | c ::a,b,s,k=>by
  simp only[List.cons_append,Ca]
  cases Cw n wd sc s c with
  |error z=>rfl
  | ok s'=>
   have:=Je n wd sc a b s' (k+1)
   grind
def Ht.takes{n wd sc}(hn:1<=n)(hsc:∀i,i<n->wd i=false->0<=sc i/\sc i<=3):∀l {s s' k},Ht n s->Ca n wd sc s l k=.ok s'->Ht n s'
 |[],s,s',k,h,e=>by injection e with e;subst e;exact h
 | c::l,s,s',k,h,e=>by
  simp only[Ca] at e
  cases ht:Cw n wd sc s c with
  |error z=>grind
  |ok s1=>rw[ht] at e;exact Ht.takes hn hsc l (h.take hn hsc ht) e
def ul{n a b s c z}(h:Cw n a b s c=.error z):z=2∨z=3:=by grind [Cw]
structure InX(w:World)(K M)(ib tb rb fb cb n:Nat)(wd)(sc ct)(bins size budget)(s)(len:Nat):Prop where
 ik:w.heap[ib]? =some (.cells #[P_ tb,.bool false,I_ 0,I_ 0] 119 (0,0))
 tx:w.heap[tb]? =some (.cells #[L_ fb n n,I_ budget,P_ rb,I_ len] 158 (0,0))
 rd:RdM w K M rb fb cb n wd sc ct bins size s
 ni:¬K ib/\¬M ib
 nt:¬K tb/\¬M tb
section
variable {w:World} {K M:Nat->Prop} {ib tb rb fb cb n:Nat} {wd:Nat->Bool} {sc ct:Nat->Int} {bins size budget:Int} {s:RS} {len:Nat}
def InX.ne(h:InX w K M ib tb rb fb cb n wd sc ct bins size budget s len):ib≠tb:=λe=>by have h1:=h.ik;rw[e,h.tx] at h1;simp at h1
def Ze6(w:World)(K M:Nat->Prop)(ib tb rb fb cb n:Nat)(wd:Nat->Bool)(sc ct:Nat->Int)(bins size budget:Int)(len:Nat)(o:Except (Int×Nat) RS)(w':World):Prop:=
 (match o with
 |.error (z,p)=>w'.heap[ib]? =some (.cells #[.pointer none,.bool false,.int .i64 z,.int .i64 p] 119 (0,0))
 |.ok s'=>∃M',InX w' K M' ib tb rb fb cb n wd sc ct bins size budget s' len/\(∀k,M' k->M k∨w.heap.size<=k))/\Aa (λk=>M k∨k=ib∨k=tb) w w'
def Zc9 b (hX:InX w K M ib tb rb fb cb n wd sc ct bins size budget s len)(hI:Ht n s)(R:1<=n)(hn:n<=4)(G:∀i,i<n->wd i=false->0<=sc i/\sc i<=3)(Y:len+b.size<=4000000000000000000):C_ 58 #[.pointer (some ⟨ib,0,none⟩),.string b] w λe w'=>e=.returned (.tuple #[])/\Ze6 w K M ib tb rb fb cb n wd sc ct bins size budget (len+b.size) (Ca n wd sc s (Aq b) len) w':=by
 have HX:=x1_ hX;go_enter Tryz.func58,Tryz.ntmps58;go_wp2_with fail
 go_loopw [8] (λti wr=>∃(k:Nat) (C:RS) (J:Nat->Prop),k<=b.size/\ti=.int .i64 k/\Hid (Ca n wd sc s ((Aq b).take k) len=.ok C)/\Hid (InX wr K J ib tb rb fb cb n wd sc ct bins size budget C (len+k))/\Hid ((∀z,J z->M z∨w.heap.size<=z)/\Aa (λz=>M z∨z=ib∨z=tb) w wr)) (λti _=>b.size-(intOf ti).toNat)
 case atStart=>exact⟨0,s,M,qg_,rfl,rfl,HX,λ_ e=>.inl e,Aa.refl _ _⟩
 case round=>
  obtain⟨k,C,J,hk,rfl,T,a,l⟩:=hrel;have i0:=cR_ 0 a.ik;have i2:=cR_ 2 a.ik;have i3:=cR_ 3 a.ik;have t2:=cR_ 2 a.tx
  by_cases hlt:k<b.size
  ·have a2:0<=(k:Int):=o_;have a0:k<(b.size:Int):=o_;go_upto_region 3 with fail;have HC:Hid (Calls _ 98 #[_,.int .u8 (b[k].toNat:Int)] _ λe w'=>_):=ZiW (w:=wr.drew) _ (a.rd.touch (w':=wr.drew) (S:=λ_=>False) (Aa.refl _ _).drew (λ_ _=>id)) (Ht.takes R G _ hI T) hn G o_ (by have:=UInt8.toNat_lt b[k];omega);refine Al (λw'=>w'.cell? _=some _/\w'.cell? _=some _) 10 k_ ⟨i0,t2⟩ (λhHeld=>?_);refine Ah 0 ?_;refine Ah 1 ?_;refine Ah 2 ?_;refine Tx [4,5,6,10,11] 3 (v:=?_) ?_ ?_
   rotate_left
   ·intro w u;try obtain⟨_,_⟩:=u
    go_simp;try with_reducible rfl
   try simp only[Act.put,sA,sB,sC]
   refine Ah 4 ?_;refine Ah 5 ?_;refine Tx [10,11] 6 (v:=?_) ?_ ?_
   rotate_left
   ·intro w u;try obtain⟨_,_⟩:=u
    go_simp;try with_reducible rfl
   try simp only[Act.put,sA,sB,sC]
   refine Ah 7 ?_;refine Ah 8 ?_;refine Ah 9 ?_;refine Ai (i:=10) k_ rfl k_ (λKK hK=>?_);go_simp;refine(HC).mono ?_;intro e H E;have D:=x1_ E
   have he:∃z:Int,e=.returned (I_ z):=by
    unfold ZkE at E
    cases B:Cw n wd sc C (b[k].toNat:Int) with
    |error z=>rw[B] at E;exact⟨z,E.1⟩
    |ok s'=>rw[B] at E;exact⟨0,E.1⟩
   obtain⟨z,rfl⟩:=he;go_simp;refine hK _ _ ?_;try simp only[Act.put,sA,sB,sC]
   refine Ai (i:=11) k_ rfl k_ (λKK hK=>?_);go_simp;refine hK _ _ ?_;try simp only[Act.put,sA,sB,sC]
   refine Ak k_ ?_ _;have O:Hid ((Aq b).take (k+1)=(Aq b).take k++[(b[k].toNat:Int)]):=(by show _=_;rw[Qi (by unfold Aq;rw[List.length_map];exact hlt)];congr 2;simp only[Aq,List.getElem_map];rfl);have j:Hid (Ca n wd sc s ((Aq b).take (k+1)) len=match Cw n wd sc C b[k].toNat with|.error z=>.error (z,len+k)|.ok s'=>.ok s'):=(by show _=_;rw[O,Je,T];have hl:((Aq b).take k).length=k:=(by rw[List.length_take];unfold Aq;rw[List.length_map];exact Nat.min_eq_left hk);simp only[hl,Ca]);have V:=a.ne
   cases hrt:Cw n wd sc C (b[k].toNat:Int) with
   | error y=>
    rw[hrt] at D j;have t:Hid (_/\_):=⟨by have:=D.1;injection this,D.2⟩;obtain⟨A,B⟩:=t;injection A with _ A;subst A;have g:=B.undrew;have f:=g.at_ a.ik a.ni.2;have d:=g.at_ a.tx a.nt.2;have j0:=cR_ 0 f;have j2:=cR_ 2 f;have j3:=cR_ 3 f;have jf:=λo=>fq_ o _ _ f;have Z:=cR_ 3 d;have F:(((H.setCell (A_ ib 2) (I_ z)).setCell (A_ ib 3) (I_ (len+k:Nat))).setCell (A_ ib 0) (.pointer none)).heap[ib]? =some (.cells #[.pointer none,.bool false,I_ z,I_ (len+k:Nat)] 119 (0,0)):=ht_ 0 _ _ _ (ht_ 3 _ _ _ (ht_ 2 _ _ _ f))
    have m:Hid (Ze6 w K M ib tb rb fb cb n wd sc ct bins size budget (len+b.size) (Ca n wd sc s (Aq b) len) (((H.setCell (A_ ib 2) (I_ z)).setCell (A_ ib 3) (I_ (len+k:Nat))).setCell (A_ ib 0) (.pointer none))):=(by have e:Ca n wd sc s (Aq b) len=.error (z,len+k):=(by have:Aq b=(Aq b).take (k+1)++(Aq b).drop (k+1):=(List.take_append_drop _ _).symm;rw[this,Je,j]);rw[e];refine⟨F,?_⟩;have t1:=l.2.trans2 g (λq r=>by rcases l.out.1 q r with c|c;exact .inl (.inl c);exact .inr c);exact((t1.setCell (p:=(A_ ib 2)) (λ_=>.inr (.inl rfl)) _).setCell (p:=(A_ ib 3)) (λ_=>.inr (.inl rfl)) _).setCell (p:=(A_ ib 0)) (λ_=>.inr (.inl rfl)) _);have HZ:=x1_ (ul hrt)
    rcases HZ.out with rfl|rfl
    ·go_wp2;exact bodyPost_ret (results_none rfl _ _ _) rfl ⟨rfl,m⟩
    go_wp2;exact bodyPost_ret (results_none rfl _ _ _) rfl ⟨rfl,m⟩
   | ok s1=>
    rw[hrt] at D j;have t:Hid (_/\_):=⟨by have:=D.1;injection this,D.2⟩;obtain⟨A,⟨W,Q,x⟩,B⟩:=t;injection A with _ A;subst A;have g:=B.undrew;have f:=g.at_ a.ik a.ni.2;have d:=g.at_ a.tx a.nt.2;have j0:=cR_ 0 f;have Z:=cR_ 3 d;have xf:=λo=>fq_ o _ _ d;have L:=(Qb a.ik).1;have N:=(Qb a.tx).1
    have U:¬_:=λe=>by rcases x ib e with c|c;exact a.ni.2 c;exact absurd L (by simpa using c)
    have I:¬_:=λe=>by rcases x tb e with c|c;exact a.nt.2 c;exact absurd N (by simpa using c)
    have P:Hid (InX (H.setCell (A_ tb 3) (I_ ((len+k:Nat)+1))) K W ib tb rb fb cb n wd sc ct bins size budget s1 (len+(k+1))):=by
     refine⟨(Below.heap_setCell _ _ _ _ (λe=>V e)).trans f,?_,Q.touch ((Aa.refl (λq=>q=tb) _).setCell (p:=(A_ tb 3)) (λ_=>rfl) _) ?_,⟨a.ni.1,U⟩,⟨a.nt.1,I⟩⟩;have:=hs_ H tb 3 _ 158 (I_ (((len+k:Nat):Int)+1)) d;rw[this];have:(((len+k:Nat):Int)+1)=((len+(k+1):Nat):Int):=o_;rw[this];rfl;intro q r e;subst e
     rcases r with c|c
     exact a.nt.1 c;exact I c
    have X:Hid ((∀q,W q->M q∨w.heap.size<=q)/\Aa (λq=>M q∨q=ib∨q=tb) w (H.setCell (A_ tb 3) (I_ ((len+k:Nat)+1)))):=by
     refine⟨λq r=>?_,?_⟩
     ·rcases x q r with c|c
      exact l.1 q c;exact .inr (Nat.le_trans l.2.size c)
     exact(l.2.trans2 g (λq r=>by rcases l.out.1 q r with c|c;exact .inl (.inl c);exact .inr c)).setCell (p:=(A_ tb 3)) (λ_=>.inr (.inr rfl)) _
    have a1:_=((len+k:_):Int)+1:=Cb o_ o_;generalize ((len+k:Nat):Int)=lk at *;go_wp2;go_roundw;case rel=>exact⟨k+1,s1,W,o_,g_,j,P,X⟩
    case measure=>exact z_
  obtain rfl:k=b.size:=o_;have HE:Hid ((Aq b).take b.size=_):=List.take_of_length_le (by unfold Aq;rw[List.length_map];exact qa_);go_wp2;go_end0;refine⟨rfl,?_,l.2⟩;rw[<- HE,T];exact⟨J,a,l.1⟩
end
def Nr:Except (Int×Nat) RS->Int×Int
  |.error (z,p)=>(z,p)
  |.ok _=>(0,0)
def Sj(w:World)(ib:Nat)(cl:Bool)(z p:Int):Prop:=w.heap[ib]? =some (.cells #[.pointer none,.bool cl,I_ z,I_ p] 119 (0,0))
section
variable {w:World} {K M:Nat->Prop} {ib tb rb fb cb n:Nat} {wd:Nat->Bool} {sc ct:Nat->Int} {bins size budget:Int} {s:RS} {len:Nat}
def Ze6.drewN{o c}(h:Ze6 w K M ib tb rb fb cb n wd sc ct bins size budget len o c) m:Ze6 w K M ib tb rb fb cb n wd sc ct bins size budget len o (c.drewN m):=by
 obtain⟨d,a⟩:=h;refine⟨?_,⟨a.os,a.tape,a.output,a.size,a.block⟩⟩
 cases o with
 |error q=>exact d
 | ok s'=>
  obtain⟨f,b,e⟩:=d;exact⟨f,⟨b.ik,b.tx,b.rd.touch (w':=c.drewN m) (S:=λ_=>False) ⟨rfl,rfl,rfl,qa_,λ_ _ _=>rfl⟩ (λ_ _=>id),b.ni,b.nt⟩,e⟩
def ZhB b (c:InX w K M ib tb rb fb cb n wd sc ct bins size budget s len)(j:Ht n s)(f:1<=n)(k:n<=4)(g:∀i,i<n->wd i=false->0<=sc i/\sc i<=3)(d:len+b.size<=4000000000000000000):C_ 32 #[.pointer (some ⟨ib,0,none⟩),.string b] w λe w'=>e=.returned (.tuple #[.int .i64 (Nr (Ca n wd sc s (Aq b) len)).1,.int .i64 (Nr (Ca n wd sc s (Aq b) len)).2])/\Ze6 w K M ib tb rb fb cb n wd sc ct bins size budget (len+b.size) (Ca n wd sc s (Aq b) len) w':=by
 have o:=x1_ (Zc9 b c j f k g d);have p:=cR_ 1 c.ik;have u:=cR_ 2 c.ik;go_enter Tryz.func32,Tryz.ntmps32;go_wp2_with fail
 refine o.mono ?_;rintro e h ⟨rfl,a⟩;have m:=x1_ a
 have l:h.cell? (A_ ib 2)=some (I_ (Nr (Ca n wd sc s (Aq b) len)).1)/\h.cell? (A_ ib 3)=some (I_ (Nr (Ca n wd sc s (Aq b) len)).2):=by
  cases hr:Ca n wd sc s (Aq b) len with
  | error q=>
   rw[hr] at a;exact⟨cq_ 2 _ _ _ a.1,cq_ 3 _ _ _ a.1⟩
  | ok s'=>
   rw[hr] at a;obtain⟨⟨t,c,_⟩,_⟩:=a;exact⟨cq_ 2 _ _ _ c.ik,cq_ 3 _ _ _ c.ik⟩
 obtain⟨v,r⟩:=l;go_wp2_with fail
 go_big_quiet (fail);go_wp2;go_ret2
 exact⟨rfl,m.drewN _⟩
end
def ZcU b a z p w (h:Sj w a false z p)(c:z=2∨z=3):C_ 32 #[.pointer (some ⟨a,0,none⟩),.string b] w λe w'=>e=.returned (.tuple #[.int .i64 z,.int .i64 p])/\∃m,w'=w.drewN m:=by
 have f:=cR_ 1 h;have g:=cR_ 2 h;have d:=cR_ 3 h
 rcases c with rfl|rfl
 all_goals go_enter Tryz.func32,Tryz.ntmps32
 all_goals go_wp2_with fail
 all_goals go_big_quiet (fail)
 all_goals go_wp2
 all_goals go_ret2
 all_goals exact⟨rfl,_,rfl⟩
def ZaS b a z p w (h:Sj w a true z p):C_ 32 #[.pointer (some ⟨a,0,none⟩),.string b] w λe w'=>e=.returned (.tuple #[.int .i64 1,.int .i64 0])/\w'=w:=by
 have c:=cR_ 1 h;go_enter Tryz.func32,Tryz.ntmps32;go_wp2;go_ret2
 exact⟨rfl,rfl⟩
theorem Lb S k:Ib S k 0=Cj (Ds S k):=by unfold Ib Cj;simp
theorem Zdf S k:Vg S k 0=Gm (Ds S k):=by unfold Vg Gm;simp
theorem Ge S k b:Bw S k 0 b=decide (Ds S k=b):=by unfold Bw;simp
def ZiI S k (h:Ds S k≠34):kj S k=Pe (Ds S k):=by grind [kj,Pe,Zdf,Ge]
def qm(S:ByteArray)(wd:Bool)(u:Int):Nat->Cm->List Int->Nat->Option (Cm×List Int)
 |0,p,bs,_=>some (p,bs)
 | m+1,p,bs,k=>match Be wd u p bs (Ds S k) with
  |some q=>qm S wd u m q.1 q.2 (k+1)
  |none=>none
def Fg(S:ByteArray)(wd:Bool)(u:Int)(p:Cm)(bs:List Int)(k:Nat)(p':Cm)(bs':List Int)(k':Nat):Prop:=∃m,k'=k+m/\qm S wd u m p bs k=some (p',bs')
section
variable {S:ByteArray} {wd:Bool} {u:Int} {p p' p'':Cm} {bs bs' bs'':List Int} {k k' k'':Nat}
def Fg.refl:Fg S wd u p bs k p bs k:=⟨0,rfl,rfl⟩
def ZbV:∀(a b:Nat) (p:Cm) (bs:List Int) (k:Nat),qm S wd u (a+b) p bs k=(qm S wd u a p bs k).bind (λq=>qm S wd u b q.1 q.2 (k+a))
 |0,b,p,bs,k=>by simp[qm]
 | a +1,b,p,bs,k=>by
  rw[show a+1+b=(a+b)+1 by omega];simp only[qm]
  cases Be wd u p bs (Ds S k) with
  |none=>rfl
  | some q=>
   simp only;rw[ZbV a b q.1 q.2 (k+1),show k+1+a=k+(a+1) by omega]
def Fg.trans(h:Fg S wd u p bs k p' bs' k')(g:Fg S wd u p' bs' k' p'' bs'' k''):Fg S wd u p bs k p'' bs'' k'':=by obtain⟨a,rfl,h⟩:=h;obtain⟨b,rfl,g⟩:=g;exact⟨a+b,o_,by rw[ZbV,h];exact g⟩
def Fg.one(h:Be wd u p bs (Ds S k)=some (p',bs')):Fg S wd u p bs k p' bs' (k+1):=⟨1,rfl,by simp[qm,h]⟩
end
def pD(mi zero:Bool)(u n:Int)(j:Nat):Cm:=⟨if zero=true then 2 else 3,mi,j,u,n*u,.slice none 0 0⟩
def ZeP S u b a:∀f j n k,1<=j->f+j=5->(a=true->j=1)->Fg S false u (pD b a u n j) [] k (pD b a u (Nn S 0 a f j n k).1 (Nn S 0 a f j n k).2.1) [] (Nn S 0 a f j n k).2.2/\1<=(Nn S 0 a f j n k).2.1/\(a=true->(Nn S 0 a f j n k).2.1=1)/\(a=true∨(Nn S 0 a f j n k).2.1=5∨Cj (Ds S (Nn S 0 a f j n k).2.2)=false)
 |0,j,n,k,hj,hf,hz=>by simp only[Nn];exact⟨.refl,hj,hz,.inr (.inl o_)⟩
 | f + 1,j,n,k,hj,hf,hz=>by
  unfold Nn;split
  ·rename_i hc
   have hz0:a=false:=by
    cases a
    rfl
    grind
   subst hz0;have c:=ZeP S u b false f (j+1) (10*n+(Ds S k-48)) (k+1) o_ o_ s_;refine⟨Fg.trans (Fg.one ?_) c.1,c.2⟩;have d:Cj (Ds S k)=true:=(by rw[<- Lb];exact hc.1);unfold Be Bz pD Iu
   grind
  rename_i hc;simp only;refine⟨.refl,hj,hz,?_⟩
  grind [Lb]
def p1(mi:Bool):Cm:=if mi=true then {part0 with st:=1,neg:=true} else part0
def Zft S u a k (h:Cj (Ds S k)=true):Be false u (p1 a) [] (Ds S k)=some (pD a (decide (Ds S k=48)) u (Ds S k-48) 1,[]):=by
 have b:=Kj h
 grind [Be,Bz,p1,part0,Oa,Gy,pD]
def Zkk S u b k:(Cj (Ds S k)=true/\(Mc S k 0 5 true).2.2.2=0/\∃zero,Fg S false u (p1 b) [] k (pD b zero u (Mc S k 0 5 true).1 (Mc S k 0 5 true).2.1) [] (Mc S k 0 5 true).2.2.1/\(zero=true∨(Mc S k 0 5 true).2.1=5∨Cj (Ds S (Mc S k 0 5 true).2.2.1)=false))∨(Cj (Ds S k)=false/\Mc S k 0 5 true=(0,0,k,2)):=by
 have e:Mc S k 0 5 true=(_,_,_,_):=if_neg s_
 cases hd:Cj (Ds S k) with
 | true=>
  have a:Nn S 0 (Bw S k 0 48) 5 0 0 k=Nn S 0 (Bw S k 0 48) 4 1 (Ds S k-48) (k+1):=by
   conv=>lhs;unfold Nn
   rw[if_pos ⟨by rw[Lb];exact hd,s_⟩];simp
  rw[a] at e;obtain⟨d,f,g,c⟩:=ZeP S u b (Bw S k 0 48) 4 1 (Ds S k-48) (k+1) o_ o_ (λ_=>rfl);rw[e];refine .inl ⟨rfl,if_neg o_,Bw S k 0 _,Fg.trans (Fg.one ?_) d,c⟩;rw[Ge];exact Zft S u _ k hd
 | false=>
  have a:Nn S 0 (Bw S k 0 48) 5 0 0 k=(0,0,k):=(by unfold Nn;rw[if_neg (λh=>by rw[Lb,hd] at h;grind)]);rw[a] at e;exact .inr ⟨rfl,e⟩
theorem Yb:∀k,Cp k=10^k
 |0=>rfl
 |k+1=>by rw[Cp,Yb k,Int.pow_succ]
def pF(mi:Bool)(j:Nat)(st:Int)(l:Nat)(m:Int):Cm:=⟨st,mi,j,10^l,m*10^l,.slice none 0 0⟩
def jo{l}(h:0<l):(10:Int)^l≠1:=by obtain⟨l,rfl⟩:∃l',l=l'+1:=⟨l-1,o_⟩;omega
def Zet S u a j:∀l m k st,(st=4∨st=5)->∃st',(st'=5∨st'=st/\(Ux S 0 l m k).2.2=k)/\Fg S false u (pF a j st l m) [] k (pF a j st' (Ux S 0 l m k).2.1 (Ux S 0 l m k).1) [] (Ux S 0 l m k).2.2/\((Ux S 0 l m k).2.1=0∨Cj (Ds S (Ux S 0 l m k).2.2)=false)
 |0,m,k,st,hs=>⟨st,.inr ⟨rfl,rfl⟩,.refl,.inl rfl⟩
 | l +1,m,k,st,hs=>by
  unfold Ux;split
  ·rename_i hc;have hd:Cj (Ds S k)=true:=(by rw[<- Lb];exact hc);obtain⟨st',h1,h2,h3⟩:=Zet S u a j l (10*m+(Ds S k-48)) (k+1) 5 (.inr rfl);refine⟨5,.inl rfl,?_,h3⟩
   have h5:st'=5:=by rcases h1 with h|h;exact h;exact h.1
   subst h5;refine Fg.trans (Fg.one ?_) h2;have b:=jo (show 0<l+1 by omega);have c:(10:Int)^(l+1)/10=10^l:=by rw[Int.pow_succ];omega
   have d:m*10^(l+1)+(Ds S k-48)*10^l=(10*m+(Ds S k-48))*10^l:=(by rw[Int.add_mul,Int.pow_succ,Int.mul_assoc 10 m,<- Int.mul_assoc m,Int.mul_comm (m*10^l) 10]);unfold Be Bz pF Hj
   grind
  rename_i hc;exact⟨st,.inr ⟨rfl,rfl⟩,.refl,.inr (by rw[<- Lb];grind)⟩
theorem ZhI S z:∀l m k,k<=(Ux S z l m k).2.2
 |0,m,k=>qa_
 | l+1,m,k=>by
  unfold Ux;split;have:=ZhI S z l (10*m+(Ds S k-48)) (k+1);omega
  grind
def ZhH S l m k:Ux S 2 l m k=(m,l,k):=by
 cases l with
 |zero=>rfl
 |succ l=>unfold Ux;rw[if_neg (by unfold Ib;simp)]
def Zlu S b a u n j k (h:a=true∨j=5∨Cj (Ds S k)=false)(c:¬(Ds S k=46/\u≠1)):Be false u (pD b a u n j) [] (Ds S k)=none:=by grind [Be,Bz,pD,Iu,Iy]
def Zin S c a b n j k (h:Ds S k=46)(d:0<b):Be false (Cp b) (pD c a (Cp b) n j) [] (Ds S k)=some (pF c j 4 b n,[]):=by
 have e:=jo d;unfold Be Bz pD pF
 grind [Yb,Iu,Cj,Iy]
def ZjE S k a:∃p,Fg S false (Cp a) part0 [] k p [] (br S k 0 a).2.1/\Be false (Cp a) p [] (Ds S (br S k 0 a).2.1)=none/\(((br S k 0 a).2.2=0/\El p.st=true/\p.st≠0/\Qv p=(br S k 0 a).1)∨((br S k 0 a).2.2=2/\(El p.st=false∨(br S k 0 a).2.1=k))):=by
 have g:Fg S false (Cp a) part0 [] k (p1 (Bw S k 0 45)) [] (if Bw S k 0 45=true then k+1 else k):=by
  cases c:Bw S k 0 45 with
  |false=>exact .refl
  | true=>
   rw[Ge] at c;have c:=of_decide_eq_true c;refine Fg.one ?_;rw[c];rfl
 have o:Bw S k 0 _=false->(if Bw S k 0 _=true then k+1 else k)=k/\Ds S k≠45:=λh=>⟨by rw[h];rfl,λe=>by rw[Ge,decide_eq_true e] at h;cases h⟩;unfold br;simp only;generalize Bw S k 0 45=mi at *;generalize (if mi=true then k+1 else k)=k1 at *
 rcases Zkk S (Cp a) mi k1 with⟨_,hz,zero,hr,he⟩|⟨hd,e⟩
 ·generalize Mc S k1 0 5 true=A at *;obtain⟨n,j,b,r⟩:=A;simp only at hz hr he;subst hz;unfold ptF;split
  ·rename_i hc;rw[Ge,decide_eq_true_eq] at hc;have i:=(g.trans hr).trans (Fg.one (Zin S _ _ _ n j _ hc.1 hc.2))
   cases hd:Cj (Ds S (b+1)) with
   | true=>
    have e0:Ib S (b+1) 0=true:=(by rw[Lb];exact hd);simp only[e0,if_true];obtain⟨f,q,m,s⟩:=Zet S (Cp a) mi j a n (b+1) 4 (.inl rfl)
    have d:f=5:=by
     rcases q with h|⟨_,h⟩
     exact h;exfalso;obtain⟨l,rfl⟩:∃l',a=l'+1:=⟨a-1,o_⟩
     grind [Ux,ZhI]
    subst d;generalize Ux S 0 a n (b+1)=B at *;refine⟨_,i.trans m,?_,.inl ⟨by trivial,rfl,by simp[pF],?_⟩⟩
    ·grind [Be,Bz,pF,Hj]
    unfold Qv pF
    cases mi<;>rfl
   | false=>
    have e0:Ib S (b+1) 0=false:=(by rw[Lb,hd]);simp only[e0,Bool.false_eq_true,if_false];rw[show wrg 0=2 from rfl,ZhH];refine⟨_,i,?_,.inr ⟨by trivial,.inl rfl⟩⟩;unfold Be Bz pF Hj;simp[hd]
  rename_i hc;rw[Ge,decide_eq_true_eq] at hc;refine⟨_,g.trans hr,Zlu S _ _ _ n j _ he (λh=>hc ⟨h.1,Nat.pos_of_ne_zero λe=>h.2 (by rw[e];rfl)⟩),.inl ⟨rfl,?_,?_,?_⟩⟩
  ·cases zero<;>rfl
  ·cases zero<;>simp[pD]
  grind [Qv,pD,Yb]
 rw[e];simp only;have e0:ptF S k1 2 a 0=_:=if_neg (λh=>by unfold Bw at h;simp at h);rw[e0];refine⟨_,g,?_,.inr ⟨rfl,?_⟩⟩
 ·grind [Be,Bz,p1,part0,Oa,Gy]
 cases mi
 ·grind
 exact .inl rfl
def pW(st:Int):Cm:={part0 with st:=st}
def mg{S u st a k o}(h:Bt st a (Ds S k)=o):Be true u (pW st) a (Ds S k)=o.map (λq=>(pW q.1,q.2)):=by unfold Be;rw[if_pos rfl];show(Bt st a (Ds S k)).map _=_;rw[h];rfl
theorem Zj6{S k bs}(h:bs.length=8∨Gm (Ds S k)=false):Jb bs (Ds S k)=none:=if_neg λh2=>w_
def ZfJ{c}(h:Gm c=true):c≠34:=λe=>by rw[e] at h;exact absurd h d_
def Zbh S u:∀f bs k st,(st=0∨st=6)->bs.length+f=8->∃st',(st'=6∨st'=st/\(Lf S f bs k).2=k)/\Fg S true u (pW st) bs k (pW st') (Lf S f bs k).1 (Lf S f bs k).2/\((Lf S f bs k).1.length=8∨Gm (Ds S (Lf S f bs k).2)=false)
 |0,bs,k,st,hs,hb=>⟨st,.inr ⟨rfl,rfl⟩,.refl,.inl (by simpa [Lf] using hb)⟩
 | f + 1,bs,k,st,hs,hb=>by
  unfold Lf;split
  ·rename_i hc;rw[Zdf] at hc;obtain⟨st',h1,h2,h3⟩:=Zbh S u f (bs++[Ds S k]) (k+1) 6 (.inr rfl) t_
   have h6:st'=6:=by rcases h1 with h|h;exact h;exact h.1
   subst h6;refine⟨6,.inl rfl,Fg.trans (Fg.one ?_) h2,h3⟩;have b:Jb bs _=_:=if_pos ⟨hc,o_⟩
   have a:Bt st bs (Ds S k)=some (6,bs++[Ds S k]):=by
    unfold Bt
    rcases hs with rfl|rfl
    rw[if_pos rfl,if_neg (ZfJ hc)];exact b
    grind
   exact mg a
  rename_i hc;rw[Zdf] at hc;exact⟨st,.inr ⟨rfl,rfl⟩,.refl,.inr (Bool.eq_false_iff.2 hc)⟩
def zj S u:∀f bs k,bs.length+f=9->bs.length<=8->∃st,Fg S true u (pW 7) bs k (pW st) (Zu S f bs k).1 (Zu S f bs k).2.1/\Bt st (Zu S f bs k).1 (Ds S (Zu S f bs k).2.1)=none/\(((Zu S f bs k).2.2=0/\st=8)∨((Zu S f bs k).2.2=2/\st=7))
 |0,bs,k,hb,h8=>o_
 | f + 1,bs,k,hb,h8=>by
  unfold Zu;split
  ·rename_i hq;rw[Ge,decide_eq_true_eq] at hq;have r1:Fg S _ u (pW 7) _ k (pW 8) bs _:=Fg.one (mg (o:=some (8,bs)) (by rw[hq];rfl));split
   ·rename_i hc;rw[Ge,decide_eq_true_eq] at hc;obtain⟨st,h1,h2,h3⟩:=zj S u f (bs++[34]) (k+2) t_ t_;refine⟨st,r1.trans (Fg.trans (Fg.one (k:=k+1) (mg (o:=some (7,bs++[34])) ?_)) h1),h2,h3⟩
    grind [Bt,Kd]
   grind [Ge,Bt,Kd]
  rename_i hq;rw[Ge,decide_eq_true_eq] at hq;split
  ·rename_i hc;rw[ZiI S k hq] at hc;obtain⟨st,h1,h2,h3⟩:=zj S u f (bs++[Ds S k]) (k+1) t_ t_;refine⟨st,Fg.trans (Fg.one (mg (o:=some (7,bs++[Ds S k])) ?_)) h1,h2,h3⟩
   grind [Bt,Sv]
  rename_i hc;rw[ZiI S k hq] at hc;refine⟨7,.refl,?_,.inr ⟨rfl,rfl⟩⟩
  grind [Bt,Sv]
def Zkz S k u:∃st,Fg S true u part0 [] k (pW st) (ai S k).1 (ai S k).2.1/\Be true u (pW st) (ai S k).1 (Ds S (ai S k).2.1)=none/\(((ai S k).2.2=0/\El st=true/\(st≠0∨(ai S k).2.1=k))∨((ai S k).2.2=2/\El st=false)):=by
 unfold ai;split
 ·rename_i hq;rw[Ge,decide_eq_true_eq] at hq;obtain⟨st,b,a,c⟩:=zj S u 9 [] (k+1) rfl s_;refine⟨st,Fg.trans (Fg.one (mg (st:=0) (o:=some _) (by rw[hq];rfl))) b,mg (o:=none) a,?_⟩
  rcases c with⟨e,rfl⟩|⟨e,rfl⟩
  exact .inl ⟨e,rfl,.inl d_⟩;exact .inr ⟨e,rfl⟩
 rename_i hq;rw[Ge,decide_eq_true_eq] at hq;obtain⟨st,b,a,c⟩:=Zbh S u 8 [] k 0 (.inl rfl) rfl;refine⟨st,a,mg (o:=none) ?_,.inl ⟨rfl,?_,?_⟩⟩
 ·grind [Zj6,Bt]
 ·rcases b with rfl|⟨rfl,e⟩<;>rfl
 grind
def Xr(S:ByteArray)(n:Nat)(wd:Nat->Bool)(sc:Nat->Int):Nat->RS->Nat->Except (Int×Nat) RS
 |0,s,_=>.ok s
 | m+1,s,k=>match Cw n wd sc s (Ds S k) with
  |.error z=>.error (z,k)
  |.ok s'=>Xr S n wd sc m s' (k+1)
def Hu(S:ByteArray)(n:Nat)(wd:Nat->Bool)(sc:Nat->Int)(s:RS)(k:Nat)(s':RS)(k':Nat):Prop:=∃m,k'=k+m/\Xr S n wd sc m s k=.ok s'
section
variable {S:ByteArray} {n:Nat} {wd:Nat->Bool} {sc:Nat->Int} {s s' s'':RS} {k k' k'':Nat}
def Hu.refl:Hu S n wd sc s k s k:=⟨0,rfl,rfl⟩
def jy:∀(a b:Nat) (s:RS) (k:Nat),Xr S n wd sc (a+b) s k=match Xr S n wd sc a s k with
  |.error z=>.error z
  |.ok s'=>Xr S n wd sc b s' (k+a)
 |0,b,s,k=>by simp[Xr]
 | a +1,b,s,k=>by
  rw[show a+1+b=(a+b)+1 by omega];simp only[Xr]
  cases Cw n wd sc s (Ds S k) with
  |error z=>rfl
  | ok q=>
   simp only;rw[jy a b q (k+1),show k+1+a=k+(a+1) by omega]
def Hu.trans(h:Hu S n wd sc s k s' k')(g:Hu S n wd sc s' k' s'' k''):Hu S n wd sc s k s'' k'':=by obtain⟨a,rfl,h⟩:=h;obtain⟨b,rfl,g⟩:=g;exact⟨a+b,o_,by rw[jy,h];exact g⟩
def Hu.one(h:Cw n wd sc s (Ds S k)=.ok s'):Hu S n wd sc s k s' (k+1):=⟨1,rfl,by simp[Xr,h]⟩
def ZiE{c p a}(d:s.ws.length≠200)(b:s.fl=true)(h:Be (wd s.row.length) (Cp (sc s.row.length).toNat) s.p s.bs c=some (p,a)):Cw n wd sc s c=.ok {s with p:=p,bs:=a}:=by grind [Cw]
def Xq{c}(d:s.ws.length≠200)(b:s.fl=true)(h:Be (wd s.row.length) (Cp (sc s.row.length).toNat) s.p s.bs c=none)(a:c=Eg s.row.length n)(e:El s.p.st=true):Cw n wd sc s c=.ok (Gd n s (s.row++[Gq s.p s.bs])):=by grind [Cw]
theorem Rv{c}(b:s.ws.length≠200)(d:s.fl=true)(h:Be (wd s.row.length) (Cp (sc s.row.length).toNat) s.p s.bs c=none)(a:c≠Eg s.row.length n∨El s.p.st=false):Cw n wd sc s c=.error 2:=by grind [Cw]
def Fg.up{b a}(c:s.ws.length≠200)(d:s.fl=true)(h:Fg S (wd s.row.length) (Cp (sc s.row.length).toNat) s.p s.bs k b a k'):Hu S n wd sc s k {s with p:=b,bs:=a} k':=by
 obtain⟨m,rfl,h⟩:=h
 induction m generalizing s k with
 | zero=>
  simp only[qm,Option.some.injEq,Prod.mk.injEq] at h;obtain⟨rfl,rfl⟩:=h;exact .refl
 | succ m ih=>
  simp only[qm] at h
  cases hq:Be (wd s.row.length) (Cp (sc s.row.length).toNat) s.p s.bs (Ds S k) with
  |none=>grind
  | some q=>
   rw[hq] at h;have f:=Hu.one (ZiE (n:=n) c d hq);have e:=ih (s:={s with p:=q.1,bs:=q.2}) (k:=k+1) c d h;rw[show k+(m+1)=k+1+m by omega];exact f.trans e
def Yy{p b}{a}:Gd n {s with p:=p,bs:=b} a=Gd n s a:=by unfold Gd;split<;>rfl
theorem Xk{b}:Mq S k 2 b=k/\Ng S k 2 b=2:=by have e:Bw S k 2 b=false:=(by unfold Bw;simp);unfold Mq Ng;rw[e];exact⟨rfl,rfl⟩
def Zdk{b}:(Ds S k=b/\Mq S k 0 b=k+1/\Ng S k 0 b=0)∨(Ds S k≠b/\Mq S k 0 b=k/\Ng S k 0 b=2):=by
 unfold Mq Ng;rw[Ge]
 by_cases h:Ds S k=b
 ·grind
 rw[decide_eq_false h];exact .inr ⟨h,rfl,rfl⟩
def ZjJ(m:s.ws.length≠200)(j:s.fl=true)(f:s.p=part0)(o:s.bs=[]):((bz S k (wd s.row.length) (sc s.row.length).toNat (Eg s.row.length n)).2.2=0/\Hu S n wd sc s k (Gd n s (s.row++[(bz S k (wd s.row.length) (sc s.row.length).toNat (Eg s.row.length n)).1])) (bz S k (wd s.row.length) (sc s.row.length).toNat (Eg s.row.length n)).2.1)∨((bz S k (wd s.row.length) (sc s.row.length).toNat (Eg s.row.length n)).2.2=2/\∃s',Hu S n wd sc s k s' (bz S k (wd s.row.length) (sc s.row.length).toNat (Eg s.row.length n)).2.1/\s'.wt=s.wt/\Cw n wd sc s' (Ds S (bz S k (wd s.row.length) (sc s.row.length).toNat (Eg s.row.length n)).2.1)=.error 2):=by
 have g:Eg s.row.length n=10∨Eg s.row.length n=44:=(by unfold Eg;split;exact .inl rfl;exact .inr rfl);unfold bz;split
 ·rename_i hs;rw[Ge,decide_eq_true_eq] at hs;refine .inl ⟨rfl,Hu.one ?_⟩
  have v:Be (wd s.row.length) (Cp (sc s.row.length).toNat) s.p s.bs (Ds S k)=none:=by
   rw[f,o,hs]
   cases wd s.row.length<;>rcases g with e|e<;>rw[e]<;>rfl
  rw[Xq m j v hs (by rw[f];rfl),f,o];rfl
 rename_i hs;rw[Ge,decide_eq_true_eq] at hs;split
 ·rename_i a;obtain⟨l,t,d,i⟩:=Zkz S k (Cp (sc s.row.length).toNat);generalize ai S k=r at *;have q:Hu S n wd _ s k _ _:=Fg.up m j (by rw[f,o,a];exact t);rw[<- a] at d
  rcases i with⟨hz,hm,i⟩|⟨hz,hm⟩
  ·rw[hz]
   rcases Zdk (S:=S) (k:=r.2.1) (b:=Eg s.row.length n) with⟨e1,e2,e3⟩|⟨e1,e2,e3⟩
   ·rw[e2,e3]
    have c:l≠0:=by
     rcases i with h|h
     exact h
     grind
    refine .inl ⟨rfl,q.trans (Hu.one ?_)⟩;rw[Xq (s:={s with p:=pW l,bs:=r.1}) m j d e1 hm,Yy];have u:Gq (pW l) r.1=⟨false,0,strOfNums r.1⟩:=by unfold Gq;rw[show(pW l).st=l from rfl,decide_eq_false c];rfl
    grind
   grind [Rv]
  grind [Xk,Rv,pW]
 rename_i a;have a:=Bool.eq_false_iff.2 a;obtain⟨p,t,d,i⟩:=ZjE S k (sc s.row.length).toNat;generalize br S k 0 (sc s.row.length).toNat=r at *;have q:Hu S n wd _ s k _ _:=Fg.up m j (by rw[f,o,a];exact t);rw[<- a] at d
 rcases i with⟨hz,hm,c,u⟩|⟨hz,hm⟩
 ·rw[hz]
  rcases Zdk (S:=S) (k:=r.2.1) (b:=Eg s.row.length n) with⟨e1,e2,e3⟩|⟨e1,e2,e3⟩
  rw[e2,e3];refine .inl ⟨rfl,q.trans (Hu.one ?_)⟩;rw[Xq (s:={s with p:=p,bs:=[]}) m j d e1 hm,Yy];simp only[Gq,decide_eq_false c,u];rfl
  grind [Rv]
 grind [Xk,Rv]
def ZjH(n:Nat)(s:RS)(F:List VS):RS:=⟨s.ws++[s.wt],λi=>if i<n then s.cols i++[F.getD i Ax] else s.cols i,0,false,[],part0,[]⟩
def Zev:∀(f:Nat)(s:RS)(k:Nat),s.ws.length≠200->s.fl=true->s.p=part0->s.bs=[]->s.row.length+(f+1)=n->((Sr S n wd sc (f+1) s.row.length s.row k).2.2=0/\Hu S n wd sc s k (ZjH n s (Sr S n wd sc (f+1) s.row.length s.row k).1) (Sr S n wd sc (f+1) s.row.length s.row k).2.1)∨((Sr S n wd sc (f+1) s.row.length s.row k).2.2=2/\∃s',Hu S n wd sc s k s' (Sr S n wd sc (f+1) s.row.length s.row k).2.1/\s'.wt=s.wt/\Cw n wd sc s' (Ds S (Sr S n wd sc (f+1) s.row.length s.row k).2.1)=.error 2)
 | f,s,k,hw,hf,hp,hb,hn=>by
  have h:=ZjJ (S:=S) (n:=n) (wd:=wd) (sc:=sc) (k:=k) hw hf hp hb;unfold Sr;simp only;generalize bz S k (wd s.row.length) (sc s.row.length).toNat (Eg s.row.length n)=r at *
  rcases h with⟨hz,h1⟩|⟨hz,s',h1,h2,h3⟩
  ·rw[if_pos hz]
   cases f with
   | zero=>
    refine .inl ⟨rfl,?_⟩;have e:Gd n s _=ZjH n s (_++[r.1]):=if_pos (by rw[Qe];simpa using hn);rw[e] at h1;exact h1
   | succ f=>
    have e:Gd n s (s.row++[r.1])=_:=if_neg w_;rw[e] at h1;have ih:=Zev f {s with row:=s.row++[r.1],p:=part0,bs:=[]} r.2.1 hw hf rfl rfl t_;simp only[Qe,List.length_singleton] at ih
    rcases ih with⟨g1,g2⟩|⟨g1,s',g2,g3,g4⟩
    exact .inl ⟨g1,h1.trans g2⟩;exact .inr ⟨g1,s',h1.trans g2,g3,g4⟩
  grind
theorem Qz{c}(a:s.ws.length≠200)(b:s.fl=false):Cw n wd sc s c=match Bd s.wt c with
  |none=>.error 2
  |some none=>.ok {s with fl:=true}
  |some (some z)=>.ok {s with wt:=z}:=by
 grind [Cw]
def Zki S k s (j:s.ws.length≠200)(i:s.fl=false)(g:s.wt=0):((Mc S k 0 2 false).2.2.2=0/\1<=(Mc S k 0 2 false).1/\Hu S n wd sc s k {s with wt:=(Mc S k 0 2 false).1} (Mc S k 0 2 false).2.2.1/\(Ds S (Mc S k 0 2 false).2.2.1≠44->Cw n wd sc {s with wt:=(Mc S k 0 2 false).1} (Ds S (Mc S k 0 2 false).2.2.1)=.error 2))∨
  (Mc S k 0 2 false=(0,0,k,2)/\Cw n wd sc s (Ds S k)=.error 2):=by
 by_cases hc:Cj (Ds S k)=true/\Ds S k≠48
 ·have c:=Kj hc.1;have e0:Bw S k 0 48=false:=(by rw[Ge,decide_eq_false hc.2]);have b:Ib S k 0=true:=by rw[Lb];exact hc.1
  have d:Hu S n wd sc s k {s with wt:=Ds S k-48} (k+1):=Hu.one (by grind [Qz,Bd])
  cases hd1:Cj (Ds S (k+1)) with
  | true=>
   have f:=Kj hd1;have a:Ib S (k+1) 0=true:=by rw[Lb];exact hd1
   have e:Mc S k 0 2 false=(10*(Ds S k-48)+(Ds S (k+1)-48),2,k+2,0):=(by unfold Mc;rw[e0,if_neg s_];simp[Nn,b,a]);rw[e];refine .inl ⟨rfl,by simp only;omega,d.trans (Hu.one ?_),λh44=>?_⟩
   ·grind [Qz,Bd]
   grind [Qz,Bd]
  | false=>
   grind [Ib,Mc,Nn,Cw,Cj,Bd]
 refine .inr ⟨?_,?_⟩
 ·unfold Mc;rw[Ge]
  by_cases h48:Ds S k=48
  rw[if_pos ⟨decide_eq_true h48,rfl⟩];rfl;have c:Ib S k 0=false:=(by rw[Lb,Bool.eq_false_iff];exact λh=>hc ⟨h,h48⟩);rw[if_neg (by simp[h48])];simp[Nn,c];rfl
 grind [Qz,Bd,Cj]
end
structure Bnd(s:RS):Prop where
 fl:s.fl=false
 wt:s.wt=0
 row:s.row=[]
 p:s.p=part0
 bs:s.bs=[]
section
variable {S:ByteArray} {n:Nat} {wd:Nat->Bool} {sc:Nat->Int}
def Zkv(z:1<=n) s k (g:s.ws.length≠200)(u:Bnd s):((Zv S n wd sc k).2.2.2=0/\Hu S n wd sc s k (ZjH n {s with wt:=(Zv S n wd sc k).1} (Zv S n wd sc k).2.1) (Zv S n wd sc k).2.2.1)∨
  ((Zv S n wd sc k).2.2.2=2/\∃s',Hu S n wd sc s k s' (Zv S n wd sc k).2.2.1/\Cw n wd sc s' (Ds S (Zv S n wd sc k).2.2.1)=.error 2/\((Zv S n wd sc k).2.2.1=k∨s'.wt≠0)):=by
 obtain⟨c,a,v,y,w,p,B⟩:=s;obtain⟨t,h,l,r,q⟩:=u;simp only at t h l r q g;subst t h l r q;unfold Zv;simp only
 rcases Zki (n:=n) (wd:=wd) (sc:=sc) S k ⟨c,a,0,false,[],part0,[]⟩ g rfl rfl with⟨h1,h2,h3,h4⟩|⟨h1,h2⟩
 ·generalize Mc S k 0 2 false=A at *;obtain⟨wt,j,f,x⟩:=A;simp only at *;subst h1
  rcases Zdk (S:=S) (k:=f) (b:=44) with⟨e1,d,e⟩|⟨e1,d,e⟩
  ·rw[d,e,if_pos rfl];have o:Hu S n wd sc ⟨c,a,wt,false,[],part0,[]⟩ f ⟨c,a,wt,true,[],part0,[]⟩ (f+1):=Hu.one (by grind [Qz,Bd]);obtain⟨m,rfl⟩:∃m,n=m+1:=⟨n-1,o_⟩;have i:=Zev (S:=S) (n:=m+1) (wd:=wd) (sc:=sc) m ⟨c,a,wt,true,[],part0,[]⟩ (f+1) g rfl rfl rfl s_;simp only[List.length_nil] at i
   rcases i with⟨g1,g2⟩|⟨g1,s',g2,g3,g4⟩
   exact .inl ⟨g1,(h3.trans o).trans g2⟩;exact .inr ⟨g1,s',(h3.trans o).trans g2,g4,.inr o_⟩
  grind
 rw[h1];obtain⟨d,e⟩:=Xk (S:=S) (k:=k) (b:=44);simp only[d,e];rw[if_neg d_];exact .inr ⟨rfl,_,.refl,h2,.inl rfl⟩
def Zd6(n:Nat)(s:RS)(L:List (Int×List VS)):Prop:=s.ws=L.map Prod.fst/\∀i,i<n->s.cols i=L.map (λr=>r.2.getD i Ax)
def ZeX(hn:1<=n):∀f L k s,Bnd s->Zd6 n s L->L.length<=200->k<=S.size->S.size+1<=f+k->((Jd S n wd sc f L k).2.2=0/\(Jd S n wd sc f L k).2.1=S.size/\∃s',Hu S n wd sc s k s' S.size/\Bnd s'/\Zd6 n s' (Jd S n wd sc f L k).1)∨((Jd S n wd sc f L k).2.2=2/\(Jd S n wd sc f L k).2.1=S.size/\∃s',Hu S n wd sc s k s' S.size/\s'.wt≠0)∨((Jd S n wd sc f L k).2.2≠0/\(Jd S n wd sc f L k).2.1<S.size/\∃s',Hu S n wd sc s k s' (Jd S n wd sc f L k).2.1/\Cw n wd sc s' (Ds S (Jd S n wd sc f L k).2.1)=.error (Jd S n wd sc f L k).2.2)
 |0,L,k,s,hb,hs,hL,hk,hf=>o_
 | f + 1,L,k,s,hb,hs,hL,hk,hf=>by
  have hlen:s.ws.length=L.length:=(by rw[hs.1,List.length_map]);unfold Jd;split
  ·rename_i hks;split
   ·rename_i h200;refine .inr (.inr ⟨s_,hks,s,.refl,?_⟩)
    grind [Cw]
   rename_i h200;have h1:=Zkv (S:=S) (wd:=wd) (sc:=sc) hn s k o_ hb;have h2:=ZkT (S:=S) n wd sc hk;simp only;generalize Zv S n wd sc k=r at *
   rcases h1 with⟨hz,h1⟩|⟨hz,s',h1,h3,h4⟩
   ·rw[if_pos hz];have ih:=ZeX hn f (L++[(r.1,r.2.1)]) r.2.2.1 (ZjH n {s with wt:=r.1} r.2.1) ⟨rfl,rfl,rfl,rfl,rfl⟩ ⟨?_,λi hi=>?_⟩ t_ h2.1.2 o_
    ·rcases ih with⟨g1,g2,s',g3,g4⟩|⟨g1,g2,s',g3,g4⟩|⟨g1,g2,s',g3,g4⟩
     exact .inl ⟨g1,g2,s',h1.trans g3,g4⟩;exact .inr (.inl ⟨g1,g2,s',h1.trans g3,g4⟩);exact .inr (.inr ⟨g1,g2,s',h1.trans g3,g4⟩)
    show s.ws++[r.1]=_;rw[hs.1,List.map_append];rfl;show(if i<n then s.cols i++[r.2.1.getD i Ax] else s.cols i)=_;rw[if_pos hi,hs.2 i hi,List.map_append];rfl
   grind
  rename_i hks;have he:k=S.size:=o_;exact .inl ⟨rfl,he,s,by rw[<- he];exact .refl,hb,hs⟩
def ZaC{k}(h:k<S.size):(Aq S).drop k=Ds S k::(Aq S).drop (k+1):=by have a:k<(Aq S).length:=(by unfold Aq;rw[List.length_map];exact h);rw[List.drop_eq_getElem_cons a,Wm h];congr 1;simp only[Aq,List.getElem_map];rfl
def ur:∀(m:Nat)(s:RS)(k:Nat),k+m=S.size->Ca n wd sc s ((Aq S).drop k) k=Xr S n wd sc m s k
 |0,s,k,h=>by have:(Aq S).drop k=[]:=List.drop_eq_nil_of_le (by unfold Aq;rw[List.length_map];show S.size<=k;omega);rw[this];rfl
 | m+1,s,k,h=>by
  rw[ZaC o_];simp only[Ca,Xr]
  cases Cw n wd sc s (Ds S k) with
  |error z=>rfl
  |ok s'=>exact ur m _ _ o_
def ZbR(b:1<=n):(∃s,Ca n wd sc RS.start (Aq S) 0=.ok s/\s.wt=0/\(Jd S n wd sc (S.size+1) [] 0).2.2=0/\(Jd S n wd sc (S.size+1) [] 0).2.1=S.size/\Zd6 n s (Jd S n wd sc (S.size+1) [] 0).1)∨(∃s,Ca n wd sc RS.start (Aq S) 0=.ok s/\s.wt≠0/\(Jd S n wd sc (S.size+1) [] 0).2.2=2/\(Jd S n wd sc (S.size+1) [] 0).2.1=S.size)∨(Ca n wd sc RS.start (Aq S) 0=.error ((Jd S n wd sc (S.size+1) [] 0).2.2,(Jd S n wd sc (S.size+1) [] 0).2.1)/\(Jd S n wd sc (S.size+1) [] 0).2.2≠0/\(Jd S n wd sc (S.size+1) [] 0).2.1<S.size):=by
 have a:=ur (S:=S) (n:=n) (wd:=wd) (sc:=sc) S.size RS.start 0 o_;rw[List.drop_zero] at a
 rcases ZeX (S:=S) (wd:=wd) (sc:=sc) b (S.size+1) [] 0 RS.start ⟨rfl,rfl,rfl,rfl,rfl⟩ ⟨rfl,λ_ _=>rfl⟩ s_ qg_ o_ with⟨g1,g2,s',⟨m,hm,g3⟩,g4,g5⟩|⟨g1,g2,s',⟨m,hm,g3⟩,g4⟩|⟨g1,g2,s',⟨m,hm,g3⟩,g4⟩
 have:m=S.size:=o_;subst this;exact .inl ⟨s',by rw[a,g3],g4.wt,g1,g2,g5⟩
 ·grind
 refine .inr (.inr ⟨?_,g1,g2⟩);obtain⟨j,c⟩:∃j,S.size=m+(j+1):=⟨S.size-m-1,o_⟩;have e:Xr S n wd sc S.size RS.start 0=Xr S n wd sc (m+(j+1)) RS.start 0:=(by rw[<- c]);rw[a,e,jy,g3];simp only[Xr];rw[<- hm,g4]
end
end Go.Proofs.YtfcgnpchbcmdeaaGreat
