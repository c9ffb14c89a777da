import Derived.Test.YtfcgnpchbcmdeaaGreatZfar
import Derived.Laws.EntriesVeiled
import Derived.Test.YtfcgnpchbcmdeaaGreatZfat
import Derived.Test.YtfcgnpchbcmdeaaGreatZfaf
namespace Go.Proofs.YtfcgnpchbcmdeaaGreat
set_option linter.unusedSimpArgs false
set_option maxRecDepth 100000
set_option maxHeartbeats 4000000
open Go.RowKit
structure RS where
 ws:List Int
 cols:Nat->List VS
 wt:Int
 fl:Bool
 row:List VS
 p:ZA
 bs:List Int
def RS.start:RS:=⟨[],fun _=>[],0,false,[],part0,[]⟩
def Y0(p:ZA)(bs:List Int):VS:=⟨decide (p.st=0),Zcc p,strOfNums bs⟩
def Z6(wd:Bool)(u:Int)(p:ZA)(bs:List Int)(c:Int):Option (ZA×List Int):=
 if wd=true then(Z3 p.st bs c).map (fun q=>({p with st:=q.1},q.2)) else(ZU u p c).map (fun q=>(q,bs))
def ZF:VS:=⟨false,0,⟨#[]⟩⟩
def Y8(n:Nat)(s:RS)(row:List VS):RS:=
 if row.length=n then⟨s.ws++[s.wt],fun i=>if i<n then s.cols i++[row.getD i ZF] else s.cols i,0,false,[],part0,[]⟩
 else {s with row:=row,p:=part0,bs:=[]}
def Yx(n:Nat)(wd:Nat->Bool)(sc:Nat->Int)(s:RS)(c:Int):Except Int RS:=
 if s.ws.length=200 then .error 3
 else if s.fl=false then
  match Zn s.wt c with
  |none=>.error 2
  |some none=>.ok {s with fl:=true}
  |some (some z)=>.ok {s with wt:=z}
 else
  match Z6 (wd s.row.length) (ZC (sc s.row.length).toNat) s.p s.bs c with
  |some (p,bs)=>.ok {s with p:=p,bs:=bs}
  |none=>if c=QX s.row.length n/\YX s.p.st=true then .ok (Y8 n s (s.row++[Y0 s.p s.bs])) else .error 2
structure Y2(p:ZA):Prop where
 u0:0<=p.unit
 u1:p.unit<=1000
 n0:0<=p.num
 d0:0<=p.dig
 d1:p.dig<=5
 nu:p.num+p.unit<=ZC p.dig.toNat*1000
theorem Zkr(k:Nat)(h:k<=5):1<=ZC k/\ZC k<=100000:=by
 have:k=0∨k=1∨k=2∨k=3∨k=4∨k=5:=by omega
 rcases this with rfl|rfl|rfl|rfl|rfl|rfl<;>decide
theorem Y2.le{p:ZA}(h:Y2 p):p.num<=100000000:=by have h1:=h.nu;have h2:=h.u0;have h3:=(Zkr p.dig.toNat (by have:=h.d0;have:=h.d1;omega)).2;omega
theorem Y2.part0:Y2 part0:=⟨by decide,by decide,by decide,by decide,by decide,by decide⟩
theorem ZdQ{c:Int}(h:YH c=true):48<=c/\c<=57:=by simpa [YH] using h
theorem Y2.step{u:Int}(hu0:1<=u)(hu1:u<=1000){p q:ZA}{c:Int}(h:Y2 p)(hs:ZU u p c=some q):Y2 q:=by
 obtain⟨a0,a1,a2,a3,a4,a5⟩:=h
 have first:∀q,YS u p c=some q->Y2 q:=fun q hq=>by
  unfold YS at hq;split at hq;rename_i hd;obtain⟨c0,c1⟩:=ZdQ hd;injection hq with hq;subst hq;have m0:0<=(c-48)*u:=Int.mul_nonneg (by omega) (by omega);have m1:(c-48)*u<=9*u:=Int.mul_le_mul_of_nonneg_right (by omega) (by omega);refine⟨by show 0<=u;omega,hu1,m0,by show(0:Int)<=1;decide,by show(1:Int)<=5;decide,?_⟩;show(c-48)*u+u<=ZC 1*1000;have:ZC 1=10:=(by decide);rw[this];omega
  cases hq
 have minus:∀q,QV p c=some q->Y2 q:=fun q hq=>by
  unfold QV at hq;split at hq;injection hq with hq;subst hq;exact⟨a0,a1,a2,a3,a4,a5⟩
  cases hq
 have point:∀q,QH p c=some q->Y2 q:=fun q hq=>by
  unfold QH at hq;split at hq;injection hq with hq;subst hq;exact⟨a0,a1,a2,a3,a4,a5⟩
  cases hq
 have digit:∀q,Qt p c=some q->Y2 q:=fun q hq=>by
  unfold Qt at hq;split at hq;rename_i hd;obtain⟨hd,h5⟩:=hd;obtain⟨c0,c1⟩:=ZdQ hd;injection hq with hq;subst hq;have m0:0<=(c-48)*p.unit:=Int.mul_nonneg (by omega) a0;have m1:(c-48)*p.unit<=9*p.unit:=Int.mul_le_mul_of_nonneg_right (by omega) a0;refine⟨a0,a1,?_,?_,?_,?_⟩;show 0<=p.num*10+(c-48)*p.unit;omega;show 0<=p.dig+1;omega;show p.dig+1<=5;omega;show p.num*10+(c-48)*p.unit+p.unit<=ZC (p.dig+1).toNat*1000;have e:(p.dig+1).toNat=p.dig.toNat+1:=(by omega);rw[e];show _<=ZC p.dig.toNat*10*1000;omega
  cases hq
 have behind:∀q,QA p c=some q->Y2 q:=fun q hq=>by
  unfold QA at hq;split at hq;rename_i hd;obtain⟨hd,h5⟩:=hd;obtain⟨c0,c1⟩:=ZdQ hd;injection hq with hq;subst hq;have v0:0<=p.unit/10:=(by omega);have m0:0<=(c-48)*(p.unit/10):=Int.mul_nonneg (by omega) v0;have m1:(c-48)*(p.unit/10)<=9*(p.unit/10):=Int.mul_le_mul_of_nonneg_right (by omega) v0;refine⟨v0,?_,?_,a3,a4,?_⟩;show p.unit/10<=1000;omega;show 0<=p.num+(c-48)*(p.unit/10);omega;show p.num+(c-48)*(p.unit/10)+p.unit/10<=ZC p.dig.toNat*1000;omega
  cases hq
 unfold ZU at hs;split at hs
 ·cases hm:QV p c with
  |some q'=>rw[hm] at hs;exact minus q (hm.trans hs)
  |none=>rw[hm] at hs;exact first q hs
 split at hs
 ·exact first q hs
 split at hs
 ·cases hm:Qt p c with
  |some q'=>rw[hm] at hs;exact digit q (hm.trans hs)
  |none=>rw[hm] at hs;exact point q hs
 split at hs;exact point q hs;exact behind q hs
theorem Y2.st{p:ZA}(h:Y2 p)(z:Int):Y2 {p with st:=z}:=⟨h.u0,h.u1,h.n0,h.d0,h.d1,h.nu⟩
theorem Zj6(u:Int)(p:ZA)(c:Int)(v:Value):ZU u {p with wv:=v} c=(ZU u p c).map (fun q=>{q with wv:=v}):=by
 have e1:QV {p with wv:=v} c=(QV p c).map (fun q=>{q with wv:=v}):=(by unfold QV;split<;>rfl);have e2:YS u {p with wv:=v} c=(YS u p c).map (fun q=>{q with wv:=v}):=by unfold YS;split<;>rfl
 have e3:Qt {p with wv:=v} c=(Qt p c).map (fun q=>{q with wv:=v}):=by
  unfold Qt
  by_cases k:YH c=true/\p.dig≠5
  rw[if_pos k,if_pos k];rfl;rw[if_neg k,if_neg k];rfl
 have e4:QH {p with wv:=v} c=(QH p c).map (fun q=>{q with wv:=v}):=by
  unfold QH
  by_cases k:c=46/\p.unit≠1
  rw[if_pos k,if_pos k];rfl;rw[if_neg k,if_neg k];rfl
 have e5:QA {p with wv:=v} c=(QA p c).map (fun q=>{q with wv:=v}):=by
  unfold QA
  by_cases k:YH c=true/\p.unit≠1
  rw[if_pos k,if_pos k];rfl;rw[if_neg k,if_neg k];rfl
 unfold ZU;rw[e1,e2,e3,e4,e5];show(if p.st=0 then _ else if p.st=1 then _ else if p.st=3 then _ else if p.st=2 then _ else _)=_
 by_cases s0:p.st=0
 ·rw[if_pos s0,if_pos s0]
  cases QV p c<;>rfl
 rw[if_neg s0,if_neg s0]
 by_cases s1:p.st=1
 rw[if_pos s1,if_pos s1];rw[if_neg s1,if_neg s1]
 by_cases s3:p.st=3
 ·rw[if_pos s3,if_pos s3]
  cases Qt p c<;>rfl
 rw[if_neg s3,if_neg s3]
 by_cases s2:p.st=2
 rw[if_pos s2,if_pos s2];rw[if_neg s2,if_neg s2]
theorem ZhR{st:Int}{bs:List Int}{c:Int}{q:Int×List Int}(h:Z3 st bs c=some q)(hb:bs.length<=8):q.2.length<=8:=by
 have letter:∀q,QB bs c=some q->q.2.length<=8:=fun q hq=>by
  unfold QB at hq;split at hq;rename_i k;injection hq with hq;subst hq;have:=k.2;simp;omega
  cases hq
 have sign:∀q,ZdF st bs c=some q->q.2.length<=8:=fun q hq=>by
  unfold ZdF at hq;split at hq;rename_i k;injection hq with hq;subst hq;have:=k.2;simp;omega
  cases hq
 have second:∀q,Zav bs c=some q->q.2.length<=8:=fun q hq=>by
  unfold Zav at hq;split at hq;rename_i k;injection hq with hq;subst hq;have:=k.2;simp;omega
  cases hq
 unfold Z3 at h;split at h
 ·by_cases k:c=34
  rw[if_pos k] at h;injection h with h;subst h;exact hb;rw[if_neg k] at h;exact letter q h
 split at h;exact letter q h;split at h
 ·by_cases k:c=34
  rw[if_pos k] at h;injection h with h;subst h;exact hb;rw[if_neg k] at h;exact sign q h
 exact second q h
structure QD(n:Nat)(s:RS):Prop where
 ws:s.ws.length<=200
 col:∀i,i<n->(s.cols i).length=s.ws.length
 wt0:0<=s.wt
 wt1:s.wt<=99
 row:s.row.length<n
 num:Y2 s.p
 bs:s.bs.length<=8
theorem QD.start{n:Nat}(h:1<=n):QD n RS.start:=⟨by decide,fun _ _=>rfl,by decide,by decide,h,Y2.part0,by decide⟩
theorem Zgr{wt c z:Int}(h:Zn wt c=some (some z)):1<=z/\z<=99:=by
 unfold Zn at h;split at h
 ·cases h
 split at h;injection h with h;injection h with h;omega
 cases h
def ZeQ(w:World)(K:Nat->Prop)(v0 v1 v2:Value)(wd:Bool)(u ct bins size:Int):Prop:=
 (wd=true/\∃k1 k2 k3:Nat,v0=.func (.func 209) #[] #[]/\v1=.func (.func 210) #[] #[.pointer (some ⟨k1,0,none⟩),.pointer (some ⟨k2,0,none⟩)]/\v2=.func (.func 266) #[] #[.pointer (some ⟨k3,0,none⟩)]/\K k1/\K k2/\K k3/\w.heap[k1]? =some (.cells #[.int .i64 ct] 3 (0,0))/\w.heap[k2]? =some (.cells #[.int .i64 bins] 3 (0,0))/\w.heap[k3]? =some (.cells #[.func (.func 213) #[] #[]] 261 (0,0)))∨
 (wd=false/\∃k0 k1 k2 k3:Nat,v0=.func (.func 214) #[] #[.pointer (some ⟨k0,0,none⟩)]/\v1=.func (.func 216) #[] #[.pointer (some ⟨k1,0,none⟩),.pointer (some ⟨k2,0,none⟩)]/\v2=.func (.func 266) #[] #[.pointer (some ⟨k3,0,none⟩)]/\K k0/\K k1/\K k2/\K k3/\w.heap[k0]? =some (.cells #[.int .i64 u] 3 (0,0))/\w.heap[k1]? =some (.cells #[.int .i64 bins] 3 (0,0))/\w.heap[k2]? =some (.cells #[.int .i64 size] 3 (0,0))/\w.heap[k3]? =some (.cells #[.func (.func 218) #[] #[]] 261 (0,0)))
structure ZcU(w:World)(K:Nat->Prop)(fb n:Nat)(wd:Nat->Bool)(sc ct:Nat->Int)(bins size:Int):Prop where
 ex:∃cur:Array Value,w.heap[fb]? =some (.cells cur 263 (0,0))/\cur.size=n*3/\K fb/\∀i,i<n->∃v0 v1 v2,cur[i*3]? =some v0/\cur[i*3+1]? =some v1/\cur[i*3+2]? =some v2/\ZeQ w K v0 v1 v2 (wd i) (ZC (sc i).toNat) (ct i) bins size
theorem ZeQ.touch{S K:Nat->Prop}{w w':World}{v0 v1 v2:Value}{wd:Bool}{u ct bins size:Int}(h:ZeQ w K v0 v1 v2 wd u ct bins size)(t:Za S w w')(hs:∀k,K k->¬S k):ZeQ w' K v0 v1 v2 wd u ct bins size:=by
 rcases h with⟨e,k1,k2,k3,e0,e1,e2,m1,m2,m3,h1,h2,h3⟩|⟨e,k0,k1,k2,k3,e0,e1,e2,m0,m1,m2,m3,h0,h1,h2,h3⟩
 exact .inl ⟨e,k1,k2,k3,e0,e1,e2,m1,m2,m3,t.at_ h1 (hs _ m1),t.at_ h2 (hs _ m2),t.at_ h3 (hs _ m3)⟩;exact .inr ⟨e,k0,k1,k2,k3,e0,e1,e2,m0,m1,m2,m3,t.at_ h0 (hs _ m0),t.at_ h1 (hs _ m1),t.at_ h2 (hs _ m2),t.at_ h3 (hs _ m3)⟩
theorem ZcU.touch{S K:Nat->Prop}{w w':World}{fb n:Nat}{wd:Nat->Bool}{sc ct:Nat->Int}{bins size:Int}(h:ZcU w K fb n wd sc ct bins size)(t:Za S w w')(hs:∀k,K k->¬S k):ZcU w' K fb n wd sc ct bins size:=by obtain⟨cur,h1,h2,h3,h4⟩:=h;refine⟨cur,t.at_ h1 (hs _ h3),h2,h3,fun i hi=>?_⟩;obtain⟨v0,v1,v2,a,b,c,d⟩:=h4 i hi;exact⟨v0,v1,v2,a,b,c,d.touch t hs⟩
theorem ZcU.of_made{w:World}{base fb n:Nat}{wd:Nat->Bool}{sc ct:Nat->Int}{bins size:Int}(K:Nat->Prop)(h:YG w base fb n n wd sc ct bins size)(hfb:K fb)(hK:∀k cur ty,base<=k->w.heap[k]? =some (.cells cur ty (0,0))->(ty=3∨ty=261)->K k):ZcU w K fb n wd sc ct bins size:=by
 obtain⟨cur,h1,h2,h3⟩:=h;refine⟨cur,h1,h2,hfb,fun i hi=>?_⟩;obtain⟨v0,v1,v2,a,b,c,d⟩:=h3 i hi;refine⟨v0,v1,v2,a,b,c,?_⟩
 rcases d with⟨e,⟨k1,k2,k3,d1,d2,d3,d4,d5,d6,d7⟩⟩|⟨e,⟨k0,k1,k2,k3,d1,d2,d3,d4,d5,d6,d7,d8,d9⟩⟩
 simp only[Value.agg.injEq,Array.mk.injEq,List.cons.injEq,and_true] at d1;obtain⟨rfl,rfl,rfl⟩:=d1;exact .inl ⟨e,k1,k2,k3,rfl,rfl,rfl,hK _ _ _ d2 d5 (.inl rfl),hK _ _ _ d3 d6 (.inl rfl),hK _ _ _ d4 d7 (.inr rfl),d5,d6,d7⟩;simp only[Value.agg.injEq,Array.mk.injEq,List.cons.injEq,and_true] at d1;obtain⟨rfl,rfl,rfl⟩:=d1;exact .inr ⟨e,k0,k1,k2,k3,rfl,rfl,rfl,hK _ _ _ d2 d6 (.inl rfl),hK _ _ _ d3 d7 (.inl rfl),hK _ _ _ d4 d8 (.inl rfl),hK _ _ _ d5 d9 (.inr rfl),d6,d7,d8,d9⟩
structure RdX(w:World)(K M:Nat->Prop)(rb fb cb n:Nat)(wd:Nat->Bool)(sc ct:Nat->Int)(bins size:Int)(s:RS)(vW vr wv:Value)(vc:Nat->Value):Prop where
 rd:RB w rb (.slice (some ⟨fb,0,none⟩) n n) vW (.slice (some ⟨cb,0,none⟩) n n) s.wt s.fl vr {s.p with wv:=wv}
 ow:Ze w 0 vW s.ws
 or:Qr w 0 vr s.row
 ob:Zo w 0 wv s.bs
 cl:∃cur:Array Value,w.heap[cb]? =some (.cells cur 251 (0,0))/\cur.size=n/\∀i,i<n->cur[i]? =some (vc i)
 oc:∀i,i<n->Qr w 0 (vc i) (s.cols i)
 fs:ZcU w K fb n wd sc ct bins size
 ap:∀i j,i<n->j<n->i≠j->(vc i).ownBlock=none∨(vc i).ownBlock≠(vc j).ownBlock
 ar:∀i,i<n->(vc i).ownBlock=none∨(vc i).ownBlock≠vr.ownBlock
 mr:M rb
 mc:M cb
 mW:∀k,vW.ownBlock=some k->M k
 mv:∀k,vr.ownBlock=some k->M k
 mw:∀k,wv.ownBlock=some k->M k
 mq:∀i k,i<n->(vc i).ownBlock=some k->M k
 kk:∀k,K k->k<w.heap.size/\¬M k
 ml:∀k,M k->k<w.heap.size
def RdM(w:World)(K M:Nat->Prop)(rb fb cb n:Nat)(wd:Nat->Bool)(sc ct:Nat->Int)(bins size:Int)(s:RS):Prop:=∃vW vr wv vc,RdX w K M rb fb cb n wd sc ct bins size s vW vr wv vc
theorem Qr.touch{S:Nat->Prop}{w w':World}{base:Nat}{v:Value}{L:List VS}(h:Qr w base v L)(t:Za S w w')(hs:∀k,v.ownBlock=some k->¬S k):Qr w' base v L:=t.row h hs
theorem Ze.touch{S:Nat->Prop}{w w':World}{base:Nat}{v:Value}{L:List Int}(h:Ze w base v L)(t:Za S w w')(hs:∀k,v.ownBlock=some k->¬S k):Ze w' base v L:=t.row h hs
theorem Zo.touch{S:Nat->Prop}{w w':World}{base:Nat}{v:Value}{L:List Int}(h:Zo w base v L)(t:Za S w w')(hs:∀k,v.ownBlock=some k->¬S k):Zo w' base v L:=t.row h hs
theorem RB.touch{S:Nat->Prop}{w w':World}{b:Nat}{vf vW vC:Value}{wt:Int}{fl:Bool}{vr:Value}{p:ZA}(h:RB w b vf vW vC wt fl vr p)(t:Za S w w')(hs:¬S b):RB w' b vf vW vC wt fl vr p:=t.at_ h hs
section
variable {w:World} {K M:Nat->Prop} {rb fb cb n:Nat} {wd:Nat->Bool} {sc ct:Nat->Int} {bins size:Int} {s:RS} {vW vr wv:Value} {vc:Nat->Value}
theorem RdX.touch{S:Nat->Prop}{w':World}(h:RdX w K M rb fb cb n wd sc ct bins size s vW vr wv vc)(t:Za S w w')(hs:∀k,K k∨M k->¬S k):RdX w' K M rb fb cb n wd sc ct bins size s vW vr wv vc:=by
 obtain⟨cur,c1,c2,c3⟩:=h.cl
 exact⟨h.rd.touch t (hs _ (.inr h.mr)),h.ow.touch t (fun k e=>hs _ (.inr (h.mW k e))),h.or.touch t (fun k e=>hs _ (.inr (h.mv k e))),h.ob.touch t (fun k e=>hs _ (.inr (h.mw k e))),
  ⟨cur,t.at_ c1 (hs _ (.inr h.mc)),c2,c3⟩,fun i hi=>(h.oc i hi).touch t (fun k e=>hs _ (.inr (h.mq i k hi e))),h.fs.touch t (fun k e=>hs _ (.inl e)),h.ap,h.ar,h.mr,h.mc,h.mW,h.mv,h.mw,h.mq,
  fun k e=>⟨Qh (h.kk k e).1 t.size,(h.kk k e).2⟩,fun k e=>Qh (h.ml k e) t.size⟩
theorem RdM.touch{S:Nat->Prop}{w':World}(h:RdM w K M rb fb cb n wd sc ct bins size s)(t:Za S w w')(hs:∀k,K k∨M k->¬S k):RdM w' K M rb fb cb n wd sc ct bins size s:=by obtain⟨vW,vr,wv,vc,h⟩:=h;exact⟨vW,vr,wv,vc,h.touch t hs⟩
theorem RdX.fb_ne(h:RdX w K M rb fb cb n wd sc ct bins size s vW vr wv vc):fb≠rb:=by obtain⟨cur,_,_,h3,_⟩:=h.fs;intro e;exact(h.kk fb h3).2 (e ▸ h.mr)
theorem RdX.feat(h:RdX w K M rb fb cb n wd sc ct bins size s vW vr wv vc){i:Nat}(hi:i<n):∃v0 v1 v2,w.cell? ⟨fb,i*3,none⟩=some v0/\ZeQ w K v0 v1 v2 (wd i) (ZC (sc i).toNat) (ct i) bins size:=by obtain⟨cur,h1,_,_,h4⟩:=h.fs;obtain⟨v0,v1,v2,a,_,_,d⟩:=h4 i hi;exact⟨v0,v1,v2,(cell_of_row w fb _ cur 263 (0,0) h1).trans a,d⟩
end
def Zh3(w:World)(K M:Nat->Prop)(rb fb cb n:Nat)(wd:Nat->Bool)(sc ct:Nat->Int)(bins size:Int)(s':RS)(w':World):Prop:=
 (∃M',RdM w' K M' rb fb cb n wd sc ct bins size s'/\(∀k,M' k->M k∨w.heap.size<=k))/\Za M w w'
section
variable {w:World} {K M:Nat->Prop} {rb fb cb n:Nat} {wd:Nat->Bool} {sc ct:Nat->Int} {bins size:Int} {s:RS} {vW vr wv:Value} {vc:Nat->Value}
theorem RdX.ne_of_type(h:RdX w K M rb fb cb n wd sc ct bins size s vW vr wv vc){k ty:Nat}{cur:Array Value}(hk:w.heap[k]? =some (.cells cur ty (0,0)))(hty:ty≠256):k≠rb:=fun e=>by subst e;have:=h.rd;unfold RB at this;rw[this] at hk;simp at hk;exact hty hk.2.symm
theorem RdX.rewrite{w':World}(h:RdX w K M rb fb cb n wd sc ct bins size s vW vr wv vc)(t:Za (fun k=>k=rb∨some k=wv.ownBlock) w w'){p:ZA}{bs:List Int}{wv':Value}{wt:Int}{fl:Bool}(hr:RB w' rb (.slice (some ⟨fb,0,none⟩) n n) vW (.slice (some ⟨cb,0,none⟩) n n) wt fl vr {p with wv:=wv'})(ho:Zo w' 0 wv' bs)(hv:wv'.ownBlock=wv.ownBlock∨∃k,wv'.ownBlock=some k/\w.heap.size<=k):
  RdX w' K (fun k=>M k∨wv'.ownBlock=some k) rb fb cb n wd sc ct bins size {s with p:=p,bs:=bs,wt:=wt,fl:=fl} vW vr wv' vc:=by
 have hb:∀{ty:Nat} {size n:Nat} {v:Value} {xs:List Value},w.ownsRow 0 ty size v n xs->ty≠256->ty≠5->∀k,v.ownBlock=some k->¬(k=rb∨some k=wv.ownBlock):=fun {ty size n v xs} hr h1 h2 k hk e=>by
  obtain⟨cur,hc⟩:=Zf hr hk
  rcases e with e|e
  exact h.ne_of_type hc h1 e;obtain⟨cur',hc'⟩:=Zf h.ob e.symm;rw[hc] at hc';simp at hc';exact h2 hc'.2
 obtain⟨cur,c1,c2,c3⟩:=h.cl
 have hcb:¬(cb=rb∨some cb=wv.ownBlock):=fun e=>by
  rcases e with e|e
  exact h.ne_of_type c1 (by decide) e;obtain⟨cur',hc'⟩:=Zf h.ob e.symm;rw[c1] at hc';simp at hc'
 have hMs:∀k,wv'.ownBlock=some k->M k∨w.heap.size<=k:=fun k e=>by
  rcases hv with h1|⟨k',h1,h2⟩
  exact .inl (h.mw k (h1 ▸ e));rw[h1] at e;injection e with e;subst e;exact .inr h2
 refine⟨hr,h.ow.touch t (hb h.ow (by decide) (by decide)),h.or.touch t (hb h.or (by decide) (by decide)),ho,⟨cur,t.at_ c1 hcb,c2,c3⟩,fun i hi=>(h.oc i hi).touch t (hb (h.oc i hi) (by decide) (by decide)),h.fs.touch t ?_,h.ap,h.ar,.inl h.mr,.inl h.mc,fun k e=>.inl (h.mW k e),fun k e=>.inl (h.mv k e),fun k e=>.inr e,fun i k hi e=>.inl (h.mq i k hi e),fun k e=>?_,fun k e=>?_⟩
 ·intro k hk e
  rcases e with e|e
  exact(h.kk k hk).2 (e ▸ h.mr);exact(h.kk k hk).2 (h.mw k e.symm)
 ·have h1:=h.kk k e;refine⟨Qh h1.1 t.size,fun e2=>?_⟩
  rcases e2 with e2|e2
  exact h1.2 e2
  rcases hMs k e2 with e3|e3
  exact h1.2 e3;omega
 rcases e with e|e
 exact Qh (h.ml k e) t.size;exact(World.ownsRow.lt ho k e).2
def ZeT(w:World)(K M:Nat->Prop)(rb fb cb n:Nat)(wd:Nat->Bool)(sc ct:Nat->Int)(bins size:Int)(s:RS)(vW vr:Value)(vc:Nat->Value)(o:Option (ZA×List Int))(e:Ending)(w':World):Prop:=
 e=.returned (.bool o.isSome)/\(∃M' wv',RdX w' K M' rb fb cb n wd sc ct bins size {s with p:=(o.getD (s.p,s.bs)).1,bs:=(o.getD (s.p,s.bs)).2} vW vr wv' vc/\(∀k,M k->M' k)/\(∀k,M' k->M k∨w.heap.size<=k))/\Za M w w'
theorem Znn(h:RdX w K M rb fb cb n wd sc ct bins size s vW vr wv vc)(c u:Int)(ub:Nat)(hu:w.heap[ub]? =some (.cells #[.int .i64 u] 3 (0,0)))(hu0:0<=u)(hu1:u<=1000)(hn:Y2 s.p):Calls Tryz.prog 214 #[.pointer (some ⟨rb,6,none⟩),.int .u8 c,.pointer (some ⟨ub,0,none⟩)] w fun e w'=>ZeT w K M rb fb cb n wd sc ct bins size s vW vr vc (Z6 false u s.p s.bs c) e w':=by
 have hle:=hn.le;refine(Zi1 rb ub _ vW _ s.wt s.fl vr {s.p with wv:=wv} c u w h.rd (cell_of_row _ _ 0 _ 3 (0,0) hu) hu0 (by omega) hn.u0 (by have:=hn.u1;show s.p.unit<=_;omega) hn.n0 (by show s.p.num<=_;omega) hn.d0 (by have:=hn.d1;show s.p.dig<=_;omega)).mono ?_;rintro e w' ⟨e1,e2,e3⟩;rw[Zj6] at e1 e2;have t:Za (fun k=>k=rb∨some k=wv.ownBlock) w w':=(Za.refl _ w).grown e3 (fun k hk _=>.inl (by injection hk with hk;exact hk.symm))
 have hob:Zo w' 0 wv s.bs:=h.ob.touch ((Za.refl (fun k=>k=rb) w).grown e3 (fun k hk _=>by injection hk with hk;exact hk.symm)) (fun k hk e=>by
  obtain⟨cur,hc⟩:=Zf h.ob hk
  exact h.ne_of_type hc (by decide) e)
 have tM:Za M w w':=t.mono (fun k _ e=>by
  rcases e with e|e
  exact e ▸ h.mr
  exact h.mw k e.symm)
 have hfs:Z6 false u s.p s.bs c=(ZU u s.p c).map (fun q=>(q,s.bs)):=rfl;unfold ZeT;rw[hfs]
 cases hq:ZU u s.p c with
 | none=>
  rw[hq] at e1 e2;refine⟨e1,⟨_,wv,h.rewrite (p:=s.p) (bs:=s.bs) t e2 hob (.inl rfl),fun k e=>.inl e,fun k e=>?_⟩,tM⟩
  rcases e with e|e
  exact .inl e;exact .inl (h.mw k e)
 | some q=>
  rw[hq] at e1 e2;refine⟨e1,⟨_,wv,h.rewrite (p:=q) (bs:=s.bs) t e2 hob (.inl rfl),fun k e=>.inl e,fun k e=>?_⟩,tM⟩
  rcases e with e|e
  exact .inl e;exact .inl (h.mw k e)
theorem Zma(h:RdX w K M rb fb cb n wd sc ct bins size s vW vr wv vc)(c u:Int)(hl:s.bs.length<=8):Calls Tryz.prog 209 #[.pointer (some ⟨rb,6,none⟩),.int .u8 c] w fun e w'=>ZeT w K M rb fb cb n wd sc ct bins size s vW vr vc (Z6 true u s.p s.bs c) e w':=by
 refine(ZhO rb 0 _ vW _ s.wt s.fl vr {s.p with wv:=wv} s.bs c w ⟨h.rd,h.ob⟩ (by omega) (by omega)).mono ?_;rintro e w' ⟨e1,⟨v',⟨e2,e3⟩,e4⟩,e5⟩
 have tM:Za M w w':=Za.mono e5 (fun k _ e=>by
  rcases e with e|e
  exact e ▸ h.mr
  exact h.mw k e.symm)
 have hfs:Z6 true u s.p s.bs c=(Z3 s.p.st s.bs c).map (fun q=>({s.p with st:=q.1},q.2)):=rfl
 have hM:∀k,(M k∨v'.ownBlock=some k)->M k∨w.heap.size<=k:=fun k e=>by
  rcases e with e|e
  exact .inl e
  rcases e4 with h1|⟨k',h1,h2⟩
  exact .inl (h.mw k (h1 ▸ e));rw[h1] at e;injection e with e;subst e;exact .inr h2
 unfold ZeT;rw[hfs];have hst:Z3 ({s.p with wv:=wv}:ZA).st s.bs c=Z3 s.p.st s.bs c:=rfl;rw[hst] at e1 e2 e3
 cases hq:Z3 s.p.st s.bs c with
 | none=>
  rw[hq] at e1 e2 e3;exact⟨e1,⟨_,v',h.rewrite (p:=s.p) (bs:=s.bs) e5 e2 e3 e4,fun k e=>.inl e,hM⟩,tM⟩
 | some q=>
  rw[hq] at e1 e2 e3;exact⟨e1,⟨_,v',h.rewrite (p:={s.p with st:=q.1}) (bs:=q.2) e5 e2 e3 e4,fun k e=>.inl e,hM⟩,tM⟩
end
theorem Zv{w:World}{base ty size n:Nat}{v:Value}{xs:List Value}(h:w.ownsRow base ty size v n xs){k k' ty':Nat}{cur:Array Value}(hk:v.ownBlock=some k)(hb:w.heap[k']? =some (.cells cur ty' (0,0)))(hne:ty≠ty'):k≠k':=fun e=>by obtain⟨c,hc⟩:=Zf h hk;subst e;rw[hc] at hb;simp at hb;exact hne hb.2
theorem ZhJ{w:World}{b1 b2 e1 e2 s1 s2 n1 n2:Nat}{v u:Value}{xs ys:List Value}(h:w.ownsRow b1 e1 s1 v n1 xs)(g:w.ownsRow b2 e2 s2 u n2 ys)(hne:e1≠e2){k:Nat}(hk:v.ownBlock=some k):u.ownBlock≠some k:=fun e=>by obtain⟨c,hc⟩:=Zf g e;exact Zv h hk hc hne rfl
section
variable {w:World} {K M:Nat->Prop} {rb fb cb n:Nat} {wd:Nat->Bool} {sc ct:Nat->Int} {bins size:Int} {s:RS} {vW vr wv:Value} {vc:Nat->Value}
theorem RdX.rdAt(h:RdX w K M rb fb cb n wd sc ct bins size s vW vr wv vc):∃cur,w.heap[rb]? =some (.cells cur 256 (0,0)):=⟨_,h.rd⟩
theorem RdX.cb_rb(h:RdX w K M rb fb cb n wd sc ct bins size s vW vr wv vc):cb≠rb:=by obtain⟨cur,c1,_⟩:=h.cl;exact h.ne_of_type c1 (by decide)
theorem ZeK{M:Nat->Prop}{v v':Value}{N:Nat}(hm:∀k,v.ownBlock=some k->M k)(hd:v'.ownBlock=v.ownBlock∨∃k,v'.ownBlock=some k/\N<=k):∀k,(M k∨v'.ownBlock=some k)->M k∨N<=k:=fun k e=>by
 rcases e with e|e
 exact .inl e
 rcases hd with h1|⟨k',h1,h2⟩
 exact .inl (hm k (h1 ▸ e));rw[h1] at e;injection e with e;subst e;exact .inr h2
theorem RdX.putW{w':World}{vW':Value}{ws':List Int}{wt:Int}{fl:Bool}(h:RdX w K M rb fb cb n wd sc ct bins size s vW vr wv vc)(t:Za (fun k=>k=rb∨vW.ownBlock=some k) w w')(hr:RB w' rb (.slice (some ⟨fb,0,none⟩) n n) vW' (.slice (some ⟨cb,0,none⟩) n n) wt fl vr {s.p with wv:=wv})(ho:Ze w' 0 vW' ws')(hd:vW'.ownBlock=vW.ownBlock∨∃k,vW'.ownBlock=some k/\w.heap.size<=k):
  RdX w' K (fun k=>M k∨vW'.ownBlock=some k) rb fb cb n wd sc ct bins size {s with ws:=ws',wt:=wt,fl:=fl} vW' vr wv vc/\(∀k,(M k∨vW'.ownBlock=some k)->M k∨w.heap.size<=k)/\Za M w w':=by
 obtain⟨cr,hcr⟩:=h.rdAt;obtain⟨cur,c1,c2,c3⟩:=h.cl;have hMs:=ZeK h.mW hd
 have aw:∀{ty size n:Nat} {v:Value} {xs:List Value},w.ownsRow 0 ty size v n xs->ty≠256->ty≠3->∀k,v.ownBlock=some k->¬(k=rb∨vW.ownBlock=some k):=fun hr h1 h2 k hk e=>by
  rcases e with e|e
  exact Zv hr hk hcr h1 e;exact ZhJ hr h.ow h2 hk e
 refine⟨⟨hr,ho,h.or.touch t (aw h.or (by decide) (by decide)),h.ob.touch t (aw h.ob (by decide) (by decide)),⟨cur,t.at_ c1 ?_,c2,c3⟩,fun i hi=>(h.oc i hi).touch t (aw (h.oc i hi) (by decide) (by decide)),h.fs.touch t ?_,h.ap,h.ar,.inl h.mr,.inl h.mc,fun k e=>.inr e,fun k e=>.inl (h.mv k e),fun k e=>.inl (h.mw k e),fun i k hi e=>.inl (h.mq i k hi e),fun k e=>?_,fun k e=>?_⟩,hMs,t.mono (fun k _ e=>?_)⟩
 ·intro e
  rcases e with e|e
  exact h.cb_rb e;exact Zv h.ow e c1 (by decide) rfl
 ·intro k hk e
  rcases e with e|e
  exact(h.kk k hk).2 (e ▸ h.mr);exact(h.kk k hk).2 (h.mW k e)
 ·have h1:=h.kk k e;refine⟨Qh h1.1 t.size,fun e2=>?_⟩
  rcases hMs k e2 with e3|e3
  exact h1.2 e3;omega
 ·rcases e with e|e
  exact Qh (h.ml k e) t.size;exact(World.ownsRow.lt ho k e).2
 rcases e with e|e
 exact e ▸ h.mr;exact h.mW k e
theorem RdX.putRow{w':World}{vr':Value}{row':List VS}{p:ZA}{bs:List Int}{wv':Value}{wt:Int}{fl:Bool}(h:RdX w K M rb fb cb n wd sc ct bins size s vW vr wv vc)(t:Za (fun k=>k=rb∨vr.ownBlock=some k) w w')(hr:RB w' rb (.slice (some ⟨fb,0,none⟩) n n) vW (.slice (some ⟨cb,0,none⟩) n n) wt fl vr' {p with wv:=wv'})(ho:Qr w' 0 vr' row')(hd:vr'.ownBlock=vr.ownBlock∨vr'.ownBlock=none∨∃k,vr'.ownBlock=some k/\w.heap.size<=k)(hb:Zo w' 0 wv' bs)(hwv:wv'.ownBlock=none∨wv'=wv):
  RdX w' K (fun k=>M k∨vr'.ownBlock=some k) rb fb cb n wd sc ct bins size {s with row:=row',p:=p,bs:=bs,wt:=wt,fl:=fl} vW vr' wv' vc/\(∀k,(M k∨vr'.ownBlock=some k)->M k∨w.heap.size<=k)/\Za M w w':=by
 obtain⟨cr,hcr⟩:=h.rdAt;obtain⟨cur,c1,c2,c3⟩:=h.cl
 have hMs:∀k,(M k∨vr'.ownBlock=some k)->M k∨w.heap.size<=k:=by
  rcases hd with h1|h1|h1
  exact ZeK h.mv (.inl h1)
  ·intro k e
   rcases e with e|e
   exact .inl e;rw[h1] at e;cases e
  exact ZeK h.mv (.inr h1)
 have aw:∀{ty size n:Nat} {v:Value} {xs:List Value},w.ownsRow 0 ty size v n xs->ty≠256->ty≠308->∀k,v.ownBlock=some k->¬(k=rb∨vr.ownBlock=some k):=fun hr h1 h2 k hk e=>by
  rcases e with e|e
  exact Zv hr hk hcr h1 e;exact ZhJ hr h.or h2 hk e
 refine⟨⟨hr,h.ow.touch t (aw h.ow (by decide) (by decide)),ho,hb,⟨cur,t.at_ c1 ?_,c2,c3⟩,fun i hi=>(h.oc i hi).touch t ?_,h.fs.touch t ?_,h.ap,fun i hi=>?_,.inl h.mr,.inl h.mc,fun k e=>.inl (h.mW k e),fun k e=>.inr e,fun k e=>?_,fun i k hi e=>.inl (h.mq i k hi e),fun k e=>?_,fun k e=>?_⟩,hMs,t.mono (fun k _ e=>?_)⟩
 ·intro e
  rcases e with e|e
  exact h.cb_rb e;exact Zv h.or e c1 (by decide) rfl
 ·intro k hk e
  rcases e with e|e
  exact Zv (h.oc i hi) hk hcr (by decide) e
  rcases h.ar i hi with h1|h1
  rw[h1] at hk;cases hk;exact h1 (hk.trans e.symm)
 ·intro k hk e
  rcases e with e|e
  exact(h.kk k hk).2 (e ▸ h.mr);exact(h.kk k hk).2 (h.mv k e)
 ·rcases hd with h1|h1|⟨k',h1,h2⟩
  rw[h1];exact h.ar i hi
  ·rw[h1]
   cases hv:(vc i).ownBlock with
   |none=>exact .inl rfl
   |some k=>exact .inr (by simp)
  cases hv:(vc i).ownBlock with
  |none=>exact .inl rfl
  | some k=>
   refine .inr fun e=>?_;rw[h1] at e;injection e with e;have:=(World.ownsRow.lt (h.oc i hi) k hv).2;omega
 ·rcases hwv with h1|h1
  rw[h1] at e;cases e;exact .inl (h.mw k (h1 ▸ e))
 ·have h1:=h.kk k e;refine⟨Qh h1.1 t.size,fun e2=>?_⟩
  rcases hMs k e2 with e3|e3
  exact h1.2 e3;omega
 ·rcases e with e|e
  exact Qh (h.ml k e) t.size;exact(World.ownsRow.lt ho k e).2
 rcases e with e|e
 exact e ▸ h.mr;exact h.mv k e
def upd{α:Type}(f:Nat->α)(i:Nat)(x:α):Nat->α:=fun j=>if j=i then x else f j
theorem Zae{α:Type}(f:Nat->α)(i:Nat)(x:α):upd f i x i=x:=if_pos rfl
theorem ZbJ{α:Type}(f:Nat->α){i j:Nat}(x:α)(h:j≠i):upd f i x j=f j:=if_neg h
theorem RdX.putCol{w':World}{i:Nat}{v':Value}{col':List VS}(h:RdX w K M rb fb cb n wd sc ct bins size s vW vr wv vc)(hi:i<n)(t:Za (fun k=>k=cb∨(vc i).ownBlock=some k) w w')(hc:∃cur:Array Value,w'.heap[cb]? =some (.cells cur 251 (0,0))/\cur.size=n/\∀j,j<n->cur[j]? =some (upd vc i v' j))(ho:Qr w' 0 v' col')(hd:v'.ownBlock=(vc i).ownBlock∨∃k,v'.ownBlock=some k/\w.heap.size<=k):RdX w' K (fun k=>M k∨v'.ownBlock=some k) rb fb cb n wd sc ct bins size {s with cols:=upd s.cols i col'} vW vr wv (upd vc i v')/\(∀k,(M k∨v'.ownBlock=some k)->M k∨w.heap.size<=k)/\Za M w w':=by
 obtain⟨cr,hcr⟩:=h.rdAt;obtain⟨cur,c1,c2,c3⟩:=h.cl;have hMs:=ZeK (fun k e=>h.mq i k hi e) hd
 have aw:∀{ty size n:Nat} {v:Value} {xs:List Value},w.ownsRow 0 ty size v n xs->ty≠251->ty≠308->∀k,v.ownBlock=some k->¬(k=cb∨(vc i).ownBlock=some k):=fun hr h1 h2 k hk e=>by
  rcases e with e|e
  exact Zv hr hk c1 h1 e;exact ZhJ hr (h.oc i hi) h2 hk e
 have far:∀{u:Value},(u.ownBlock=none∨(vc i).ownBlock=none∨u.ownBlock≠(vc i).ownBlock)->(∀k,u.ownBlock=some k->k<w.heap.size)->u.ownBlock=none∨u.ownBlock≠v'.ownBlock:=fun {u} h1 h2=>by
  cases hu:u.ownBlock with
  |none=>exact .inl rfl
  | some k=>
   refine .inr fun e=>?_
   rcases hd with h3|⟨k',h3,h4⟩
   ·rw[h3] at e
    rcases h1 with h1|h1|h1
    rw[h1] at hu;cases hu;rw[h1] at e;cases e;exact h1 (hu.trans e)
   rw[h3] at e;injection e with e;have:=h2 k hu;omega
 have sw:∀{u v:Value},(u.ownBlock=none∨u.ownBlock≠v.ownBlock)->v.ownBlock=none∨v.ownBlock≠u.ownBlock:=fun {u v} h1=>by
  rcases h1 with h1|h1
  ·cases hv:v.ownBlock with
   |none=>exact .inl rfl
   |some k=>exact .inr (by rw[h1];simp)
  exact .inr (fun e=>h1 e.symm)
 refine⟨⟨h.rd.touch t ?_,h.ow.touch t (aw h.ow (by decide) (by decide)),h.or.touch t ?_,h.ob.touch t (aw h.ob (by decide) (by decide)),hc,fun j hj=>?_,h.fs.touch t ?_,fun j l hj hl hne=>?_,fun j hj=>?_,.inl h.mr,.inl h.mc,fun k e=>.inl (h.mW k e),fun k e=>.inl (h.mv k e),fun k e=>.inl (h.mw k e),fun j k hj e=>?_,fun k e=>?_,fun k e=>?_⟩,hMs,t.mono (fun k _ e=>?_)⟩
 ·intro e
  rcases e with e|e
  exact h.cb_rb e.symm;exact Zv (h.oc i hi) e hcr (by decide) rfl
 ·intro k hk e
  rcases e with e|e
  exact Zv h.or hk c1 (by decide) e
  rcases h.ar i hi with h1|h1
  rw[h1] at e;cases e;exact h1 (e.trans hk.symm)
 ·by_cases e:j=i
  subst e;rw[Zae];show Qr w' 0 v' (upd s.cols j col' j);rw[Zae];exact ho;rw[ZbJ _ _ e];show Qr w' 0 (vc j) (upd s.cols i col' j);rw[ZbJ _ _ e];refine(h.oc j hj).touch t ?_;intro k hk e2
  rcases e2 with e2|e2
  exact Zv (h.oc j hj) hk c1 (by decide) e2
  rcases h.ap j i hj hi e with h1|h1
  rw[h1] at hk;cases hk;exact h1 (hk.trans e2.symm)
 ·intro k hk e
  rcases e with e|e
  exact(h.kk k hk).2 (e ▸ h.mc);exact(h.kk k hk).2 (h.mq i k hi e)
 ·by_cases e1:j=i
  ·subst e1;have e2:l≠j:=fun e=>hne e.symm;rw[Zae,ZbJ _ _ e2];refine sw (far ?_ (fun k hk=>(World.ownsRow.lt (h.oc l hl) k hk).2))
   rcases h.ap l j hl hj e2 with h1|h1
   exact .inl h1;exact .inr (.inr h1)
  rw[ZbJ _ _ e1]
  by_cases e2:l=i
  ·subst e2;rw[Zae];refine far ?_ (fun k hk=>(World.ownsRow.lt (h.oc j hj) k hk).2)
   rcases h.ap j l hj hl e1 with h1|h1
   exact .inl h1;exact .inr (.inr h1)
  rw[ZbJ _ _ e2];exact h.ap j l hj hl hne
 ·by_cases e1:j=i
  ·subst e1;rw[Zae];refine sw (far ?_ (fun k hk=>(World.ownsRow.lt h.or k hk).2))
   rcases h.ar j hj with h1|h1
   exact .inr (.inl h1);exact .inr (.inr (fun e=>h1 e.symm))
  rw[ZbJ _ _ e1];exact h.ar j hj
 ·by_cases e1:j=i
  subst e1;rw[Zae] at e;exact .inr e;rw[ZbJ _ _ e1] at e;exact .inl (h.mq j k hj e)
 ·have h1:=h.kk k e;refine⟨Qh h1.1 t.size,fun e2=>?_⟩
  rcases hMs k e2 with e3|e3
  exact h1.2 e3;omega
 ·rcases e with e|e
  exact Qh (h.ml k e) t.size;exact(World.ownsRow.lt ho k e).2
 rcases e with e|e
 exact e ▸ h.mc;exact h.mq i k hi e
end
theorem ZI{P:Program}{ops:Array Oper}{o:Oper}{a:Act}{w:World}{K:Act->World->Prop}{Q:Exit->Act->World->Prop}{E:Prop}(hg:o.guard=none)(s x:Operand)(t:TypeId)(ho:o.op=.call {callee:=.builtin .append,args:=#[s,x],argTypes:=#[t,t]})(base:Nat)(e:TypeId)(i:TypeInfo)(z:Value)(size bytes:Nat)(ht:P.underlying t=some (.slice e))(hi:P.info? e=some i)(hz:i.zero=some z)(hsize:i.size=size)(hby:i.bytes=bytes)(hzs:z.cells.size=size)(hsz:0<size)(v:Value)(n:Nat)(xs:List Value)(hs:a.eval s=v)(hown:w.ownsRow base e size v n xs)(ad:Addr)(m c:Nat)(news:List Value)(hx:a.eval x=.slice (some ad) m c)(hl:news.length=m*size)(hnews:∀j u,news[j]? =some u->w.cell? (ad.add j)=some u)(h1:∀u∈news,u.oneCell'=true)(hm:0<m)(h63:n+m<=maxLen)(hbytes:(n+m)*bytes<=140737488355328)(hbase:base<=w.heap.size)(h:∀v' w',Hid (w'.ownsRow base e size v' (n+m) (xs++news)/\w.grownBy w' v.ownBlock/\(v'.ownBlock=v.ownBlock∨v'.ownBlock=some w.heap.size/\Below w.heap.size w w')/\w'.ownsRow base e size v n xs/\∃g cap,v'=.slice (some ⟨g,0,none⟩) (n+m) cap)->K (a.put o.dst v') w'):if Region.wanted o (yielded ops a.tmps)=true then Oper.wp P o a w K Q else E:=by
 have hw:Region.wanted o (yielded ops a.tmps)=true:=(by simp[Region.wanted,hg]);rw[if_pos hw];obtain⟨v',w',hr,h2⟩:=ZbO (P:=P) w base t o.type e i z size bytes ht hi hz hsize hby hzs hsz v n xs hown ad m c news hl hnews h1 hm h63 hbytes hbase;unfold Oper.wp;simp only[execOp,ho,resolve,invoke,builtin,Sem.run_bind,Sem.run_pure,Result.andThen_ok,List.map_toArray,List.map_cons,List.map_nil,hs,hx,hr];exact h v' w' h2
theorem Zm4:(Tryz.prog.info? 3).map (fun i=>(i.zero,i.size,i.bytes))=some (some (.int .i64 0),1,8):=by kernel_rfl
theorem ZgU{w w2:World}{o:Obj}{v u:Value}(hg:(w.alloc o).drew.grownBy w2 v.ownBlock)(b:Nat){j:Nat}:Za (fun k=>k=b∨v.ownBlock=some k) w (w2.setCell ⟨b,j,none⟩ u):=
 ((((Za.refl (fun k=>k=b∨v.ownBlock=some k) w).alloc o).drew).grown hg (fun _ e _=>.inr e)).setCell (p:=⟨b,j,none⟩) (fun _=>.inl rfl) u
theorem Zlb{w w2:World}{o:Obj}{v v':Value}(hd:v'.ownBlock=v.ownBlock∨v'.ownBlock=some (w.alloc o).drew.heap.size/\Below (w.alloc o).drew.heap.size (w.alloc o).drew w2):v'.ownBlock=v.ownBlock∨∃k,v'.ownBlock=some k/\w.heap.size<=k:=by
 rcases hd with h|⟨h,_⟩
 exact .inl h;exact .inr ⟨_,h,by simp⟩
theorem Za.trans2{S S':Nat->Prop}{a b c:World}(h:Za S a b)(k:Za S' b c)(hs:∀z,S' z->S z∨a.heap.size<=z):Za S a c:=
 ⟨k.os.trans h.os,k.tape.trans h.tape,k.output.trans h.output,Nat.le_trans h.size k.size,fun i hi hn=>(k.block i (Qh hi h.size) (fun e=>by rcases hs i e with e1|e1;exact hn e1;omega)).trans (h.block i hi hn)⟩
theorem Zdw{w:World}{ty size n b j ty':Nat}{v u:Value}{xs:List Value}{cur:Array Value}(h:w.ownsRow 0 ty size v n xs)(hb:w.heap[b]? =some (.cells cur ty' (0,0)))(hne:ty≠ty'):(w.setCell ⟨b,j,none⟩ u).ownsRow 0 ty size v n xs:=
 ((Za.refl (fun k=>k=b) w).setCell (p:=⟨b,j,none⟩) (fun _=>rfl) u).row h (fun _ hk e=>Zv h hk hb hne e)
theorem Qr.form{w:World}{base:Nat}{v:Value}{L:List VS}(h:Qr w base v L):∃a c,v=.slice a L.length c:=by
 rcases h.2 with⟨rfl,h0⟩|⟨q,p,cur,rfl,_⟩
 exact⟨none,0,by rw[h0]⟩;exact⟨_,_,rfl⟩
theorem Zgz:∀(L:List VS) (k:Nat),k<L.length->∀c,c<3->(Zbk L)[k*3+c]? =(Zai (L.getD k ZF))[c]?
 |[],k,h=>by simp at h
 |e::L,0,_=>fun c hc=>by simp only[Zbk];rw[show 0*3+c=c by omega,List.getElem?_append_left (by simpa [Zai] using hc)];rfl
 |e::L,k+1,h=>fun c hc=>by simp only[Zbk];rw[List.getElem?_append_right (by simp[Zai];omega),show(k+1)*3+c-(Zai e).length=k*3+c by simp[Zai];omega];exact Zgz L k (by simpa using h) c hc
theorem Qr.at{w:World}{base:Nat}{a:Option Addr}{m cap:Nat}{L:List VS}(h:Qr w base (.slice a m cap) L){k:Nat}(hk:k<L.length):∃q,a=some ⟨q,0,none⟩/\q<w.heap.size/\w.cell? ⟨q,k*3,none⟩=some (.bool (L.getD k ZF).miss)/\w.cell? ⟨q,k*3+1,none⟩=some (.int .i64 (L.getD k ZF).num)/\w.cell? ⟨q,k*3+2,none⟩=some (.string (L.getD k ZF).word):=by
 have h':=h
 rcases h.2 with⟨e,h0⟩|⟨q,p,cur,e,_⟩
 omega;injection e with e1 e2 e3;subst e1 e2 e3
 have key:∀c u,c<3->(Zai (L.getD k ZF))[c]? =some u->w.cell? ⟨q,k*3+c,none⟩=some u:=fun c u hc hu=>by have:=World.ownsRow.cells h' (g:=q) rfl (k*3+c) u ((Zgz L k hk c hc).trans hu);have hadd:(⟨q,0,none⟩:Addr).add (k*3+c)=⟨q,k*3+c,none⟩:=(by unfold Addr.add;split<;>simp_all);rw[hadd] at this;exact this
 exact⟨q,rfl,(World.ownsRow.lt h' q rfl).2,key 0 _ (by omega) rfl,key 1 _ (by omega) rfl,key 2 _ (by omega) rfl⟩
theorem Qr.more{w:World}{base:Nat}{v:Value}{L:List VS}{x:VS}(h:w.ownsRow base 308 3 v (L.length+1) (Zbk L++Zai x)):Qr w base v (L++[x]):=by
 unfold Qr;rw[Zhr,Qe]
 simpa [Zbk] using h
def Zbi(s:RS)(k:Nat):RS:={s with ws:=s.ws++[s.wt],cols:=fun i=>if i<k then s.cols i++[s.row.getD i ZF] else s.cols i}
theorem ZjD(s:RS):Zbi s 0={s with ws:=s.ws++[s.wt]}:=by unfold Zbi;have:(fun i=>if i<0 then s.cols i++[s.row.getD i ZF] else s.cols i)=s.cols:=(by funext i;rw[if_neg (by omega)]);rw[this]
theorem ZjC(s:RS)(k:Nat):{Zbi s k with cols:=upd (Zbi s k).cols k (s.cols k++[s.row.getD k ZF])}=Zbi s (k+1):=by
 unfold Zbi
 have:upd (fun i=>if i<k then s.cols i++[s.row.getD i ZF] else s.cols i) k (s.cols k++[s.row.getD k ZF])=fun i=>if i<k+1 then s.cols i++[s.row.getD i ZF] else s.cols i:=by
  funext i
  by_cases e:i=k
  subst e;rw[Zae,if_pos (by omega)];rw[ZbJ _ _ e]
  by_cases c:i<k
  rw[if_pos c,if_pos (by omega)];rw[if_neg c,if_neg (by omega)]
 simp only[this]
theorem ZoO{w:World}{cb n i:Nat}{vc:Nat->Value}(h:∃cur:Array Value,w.heap[cb]? =some (.cells cur 251 (0,0))/\cur.size=n/\∀j,j<n->cur[j]? =some (vc j))(hi:i<n)(v:Value):∃cur:Array Value,(w.setCell ⟨cb,i,none⟩ v).heap[cb]? =some (.cells cur 251 (0,0))/\cur.size=n/\∀j,j<n->cur[j]? =some (upd vc i v j):=by
 obtain⟨cur,a1,a2,a3⟩:=h;refine⟨_,heap_setCell_same w cb i _ 251 v a1,by simp[a2],fun j hj=>?_⟩
 by_cases e:j=i
 subst e;rw[Array.getElem?_setIfInBounds_self_of_lt (by omega),Zae];rw[Array.getElem?_setIfInBounds_ne (fun k=>e k.symm),ZbJ _ _ e];exact a3 j hj
theorem ZmQ(s:RS)(k:Nat):(Zbi s k).cols k=s.cols k:=by unfold Zbi;simp
section
variable {w:World} {K M:Nat->Prop} {rb fb cb n:Nat} {wd:Nat->Bool} {sc ct:Nat->Int} {bins size:Int} {s:RS} {vW vr wv:Value} {vc:Nat->Value}
theorem ZjH(hX:RdX w K M rb fb cb n wd sc ct bins size s vW vr wv vc)(hrow:s.row.length=n)(hn:n<=4)(hws:s.ws.length<=200)(hcs:∀i,i<n->(s.cols i).length<=200):Calls Tryz.prog 222 #[.pointer (some ⟨rb,0,none⟩)] w fun e w'=>e=.returned (.tuple #[])/\Zh3 w K M rb fb cb n wd sc ct bins size {s with ws:=s.ws++[s.wt],cols:=fun i=>if i<n then s.cols i++[s.row.getD i ZF] else s.cols i,wt:=0,fl:=false,row:=[]} w':=by
 obtain⟨i3,inf3,iz0,iz1,iz2⟩:=info_parts Zm4;obtain⟨i8,inf8,jz0,jz1,jz2⟩:=info_parts Zk0;obtain⟨ar,cr,hvr⟩:=hX.or.form;rw[hrow] at hvr;subst hvr;obtain⟨_,c1,c2,c3,c4,c5⟩:=hX.rd.head;have cf:=hX.rd.part.2.2.2.2.2.2;have HX:Hid (RdX w K M rb fb cb n wd sc ct bins size s vW (.slice ar n cr) wv vc):=hX;have HOW:Hid (Ze w 0 vW s.ws):=hX.ow;clear hX;go_enter Tryz.func222,Tryz.ntmps222;go_upto_region 0 with fail;refine ZJ (fun w'=>w'.cell? ⟨rb,1,none⟩=some vW/\w'.cell? ⟨rb,3,none⟩=some (.int .i64 s.wt)) 15 (by kernel_rfl) ⟨c1,c3⟩ (fun hHeld=>?_);refine ZL 0 ?_;try simp only[Act.put,sA,sB,sC]
 refine ZL 1 ?_;try simp only[Act.put,sA,sB,sC]
 refine ZL 2 ?_;try simp only[Act.put,sA,sB,sC]
 refine ZL 3 ?_;try simp only[Act.put,sA,sB,sC]
 refine ZL 4 ?_;try simp only[Act.put,sA,sB,sC]
 refine tkM [11,12,13,14,15] 5 (v:=?_) ?_ ?_
 rotate_left
 ·intro w hSw;try obtain⟨_,_⟩:=hSw
  go_simp;try with_reducible rfl
 try simp only[Act.put,sA,sB,sC]
 refine ZL 6 ?_;try simp only[Act.put,sA,sB,sC]
 refine ZL 7 ?_;try simp only[Act.put,sA,sB,sC]
 refine ZL 8 ?_;try simp only[Act.put,sA,sB,sC]
 refine tkM [10,11,12,13,14,15] 9 (v:=?_) ?_ ?_
 rotate_left
 ·intro w hSw;try obtain⟨_,_⟩:=hSw
  go_simp;try with_reducible rfl
 try simp only[Act.put,sA,sB,sC]
 refine Qj (i:=10) (by kernel_rfl) rfl (fun KK hK=>?_);go_simp;refine hK.out _ _ ⟨by go_keep,by go_keep⟩ (fun hHeld=>?_);clear hK KK;try simp only[Act.put,sA,sB,sC]
 refine Qj (i:=11) (by kernel_rfl) rfl (fun KK hK=>?_);refine ZI rfl (.tmp 9) (.tmp 14) 25 rfl 0 3 i3 (.int .i64 0) 1 8 Tryz.underlying25 inf3 iz0 iz1 iz2 rfl (by decide) vW s.ws.length (s.ws.map (Value.int .i64)) (by simp[Act.eval]) (World.ownsRow.alloc HOW.out _) ⟨w.heap.size,0,none⟩ 1 1 [.int .i64 s.wt] (by simp[Act.eval]) rfl (Zu w #[.int .i64 s.wt] 3) (by intro u hu;simp only[List.mem_cons,List.not_mem_nil,or_false] at hu;rcases hu with rfl;rfl) (by decide) (by unfold maxLen;omega) (by omega) (by simp) ?_;intro v2 w2 hX2;obtain⟨ho,hg,hd,_,q2,p2,rfl⟩:=hX2.out
 have hb2:RB w2 rb (.slice (some ⟨fb,0,none⟩) n n) vW (.slice (some ⟨cb,0,none⟩) n n) s.wt s.fl (.slice ar n cr) {s.p with wv:=wv}:=RB.grown (w:=w.drew.alloc (.cells #[.int .i64 s.wt] 3)) ((Below.heap_alloc w _ rb HX.out.rd.lt).trans HX.out.rd) hg (fun e=>Zv HX.out.ow e.symm HX.out.rd (by decide) rfl);have e1:w2.cell? ⟨rb,1,none⟩=some vW:=hb2.head.2.1;have e3:w2.cell? ⟨rb,3,none⟩=some (.int .i64 s.wt):=hb2.head.2.2.2.1;have ef:∀o,w2.frozen? ⟨rb,o,none⟩=false:=hb2.part.2.2.2.2.2.2;have HP1:=HX.out.putW (w':=w2.setCell ⟨rb,1,none⟩ (.slice (some ⟨q2,0,none⟩) (s.ws.length+1) p2)) (vW':=.slice (some ⟨q2,0,none⟩) (s.ws.length+1) p2) (ws':=s.ws++[s.wt]) (wt:=s.wt) (fl:=s.fl) (ZgU hg rb) (hb2.setVW _) (Ze.more (Zdw ho hb2 (by decide))) (Zlb hd);have HP:Hid _:=HP1;clear HP1 ho hg hd hX2 hb2
 refine hK.out _ _ ⟨e1,e3⟩ (fun hHeld=>?_);clear hK KK;try simp only[Act.put,sA,sB,sC]
 refine ZL 12 ?_;try simp only[Act.put,sA,sB,sC]
 refine ZL 13 ?_;try simp only[Act.put,sA,sB,sC]
 refine ZL 14 ?_;try simp only[Act.put,sA,sB,sC]
 refine Za5 (i:=15) (by kernel_rfl) rfl (by kernel_rfl) (fun KK hK=>?_);go_simp;refine hK.out _ _ ?_;clear hK KK;try simp only[Act.put,sA,sB,sC]
 refine Zz (by kernel_rfl) ?_ _;have HP3:Hid (RdX (w2.setCell ⟨rb,1,none⟩ (.slice (some ⟨q2,0,none⟩) (s.ws.length+1) p2)) K (fun k=>M k∨(Value.slice (some ⟨q2,0,none⟩) (s.ws.length+1) p2).ownBlock=some k) rb fb cb n wd sc ct bins size (Zbi s 0) (.slice (some ⟨q2,0,none⟩) (s.ws.length+1) p2) (.slice ar n cr) wv vc/\(∀k,(M k∨(Value.slice (some ⟨q2,0,none⟩) (s.ws.length+1) p2).ownBlock=some k)->M k∨w.heap.size<=k)/\Za M w (w2.setCell ⟨rb,1,none⟩ (.slice (some ⟨q2,0,none⟩) (s.ws.length+1) p2))):=(by rw[ZjD];exact HP.out);have d5:(w2.setCell ⟨rb,1,none⟩ (.slice (some ⟨q2,0,none⟩) (s.ws.length+1) p2)).cell? ⟨rb,5,none⟩=some (.slice ar n cr):=HP3.out.1.rd.head.2.2.2.2.2;generalize w2.setCell ⟨rb,1,none⟩ (.slice (some ⟨q2,0,none⟩) (s.ws.length+1) p2)=w3 at *
 have hM3:∃M3:Nat->Prop,M3=(fun k=>M k∨(Value.slice (some ⟨q2,0,none⟩) (s.ws.length+1) p2).ownBlock=some k):=⟨_,rfl⟩;obtain⟨M3,hM3⟩:=hM3;have HPM:Hid ((∀k,M3 k->M k∨w.heap.size<=k)/\Za M w w3):=(by rw[hM3];exact HP3.out.2);rw[<- hM3] at HP3;clear hM3;generalize Value.slice (some ⟨q2,0,none⟩) (s.ws.length+1) p2=vW3 at *;clear HP e1 e3 ef c1 c2 c3 c4 c5 cf HOW hHeld;go_wp2_with fail
 go_loopw [24] (fun ti wr=>∃(k:Nat) (vc':Nat->Value) (Mk:Nat->Prop),k<=n/\ti=.int .i64 k/\Hid (RdX wr K Mk rb fb cb n wd sc ct bins size (Zbi s k) vW3 (.slice ar n cr) wv vc')/\Hid ((∀k,Mk k->M k∨w.heap.size<=k)/\Za M w wr)) (fun ti _=>n-(intOf ti).toNat)
 case atStart=>exact⟨0,vc,M3,Qg _,rfl,HP3.out.1,HPM.out⟩
 case round=>
  obtain⟨k,vk,Mk,hk,rfl,HXk,HMk⟩:=hrel
  by_cases hlt:k<n
  ·obtain⟨q,rfl,hql,r0,r1,r2⟩:=HXk.out.or.at (k:=k) (by show k<s.row.length;omega);have HRW:Hid ((Zbi s k).row.getD k ZF=s.row.getD k ZF):=rfl;rw[HRW.out] at r0 r1 r2;generalize hx:s.row.getD k ZF=x at *;have bk1:(0:Int)<=(k:Int):=(by omega);have bk2:(k:Int)<(n:Int):=(by omega);go_upto_region 4 with fail;have hb4:Below wr.heap.size wr (wr.alloc (.cells #[.bool x.miss,.int .i64 x.num,.string x.word] 308)):=(Below.refl _ _).alloc (Qa _) _;have HX4:Hid (RdX (wr.alloc (.cells #[.bool x.miss,.int .i64 x.num,.string x.word] 308)) K Mk rb fb cb n wd sc ct bins size (Zbi s k) vW3 (.slice (some ⟨q,0,none⟩) n cr) wv vk):=HXk.out.touch (Za.of_below (S:=fun _=>False) hb4) (fun _ _=>id)
   have HT4:Hid (Za M w (wr.alloc (.cells #[.bool x.miss,.int .i64 x.num,.string x.word] 308))):=HMk.out.2.below hb4
   have HBX:Hid ((vk k).ownBlock≠some wr.heap.size):=fun e=>by have:=(World.ownsRow.lt (HXk.out.oc k hlt) _ e).2;omega
   have HSZ:Hid (wr.heap.size<(wr.alloc (.cells #[.bool x.miss,.int .i64 x.num,.string x.word] 308)).heap.size):=show _<_ by simp
   have HCK:Hid (Qr (wr.alloc (.cells #[.bool x.miss,.int .i64 x.num,.string x.word] 308)) 0 (vk k) (s.cols k)):=(by have:=HX4.out.oc k hlt;rw[ZmQ] at this;exact this);have x0:(wr.alloc (.cells #[.bool x.miss,.int .i64 x.num,.string x.word] 308)).cell? ⟨wr.heap.size,0,none⟩=some (.bool x.miss):=cell_of_row _ _ 0 _ 308 (0,0) (heap_alloc_new wr _);have x1:(wr.alloc (.cells #[.bool x.miss,.int .i64 x.num,.string x.word] 308)).cell? ⟨wr.heap.size,1,none⟩=some (.int .i64 x.num):=cell_of_row _ _ 1 _ 308 (0,0) (heap_alloc_new wr _);have x2:(wr.alloc (.cells #[.bool x.miss,.int .i64 x.num,.string x.word] 308)).cell? ⟨wr.heap.size,2,none⟩=some (.string x.word):=cell_of_row _ _ 2 _ 308 (0,0) (heap_alloc_new wr _);have hck:=hcs k hlt;clear hb4;generalize wr.alloc (.cells #[.bool x.miss,.int .i64 x.num,.string x.word] 308)=w4 at *
   have y2:w4.cell? ⟨rb,2,none⟩=some (.slice (some ⟨cb,0,none⟩) n n):=HX4.out.rd.head.2.2.1;have y4:w4.cell? ⟨cb,k,none⟩=some (vk k):=(by obtain⟨cur,a1,_,a3⟩:=HX4.out.cl;exact(cell_of_row w4 cb k cur 251 (0,0) a1).trans (a3 k hlt));refine ZJ (fun w'=>w'.cell? ⟨rb,2,none⟩=some (.slice (some ⟨cb,0,none⟩) n n)/\w'.cell? ⟨cb,k,none⟩=some (vk k)/\w'.cell? ⟨wr.heap.size,0,none⟩=some (.bool x.miss)/\w'.cell? ⟨wr.heap.size,1,none⟩=some (.int .i64 x.num)/\w'.cell? ⟨wr.heap.size,2,none⟩=some (.string x.word)) 18 (by kernel_rfl) ⟨y2,y4,x0,x1,x2⟩ (fun hHeld=>?_);refine ZL 0 ?_;try simp only[Act.put,sA,sB,sC]
   refine ZL 1 ?_;try simp only[Act.put,sA,sB,sC]
   refine ZL 2 ?_;try simp only[Act.put,sA,sB,sC]
   refine ZL 3 ?_;try simp only[Act.put,sA,sB,sC]
   refine tkM [17,18] 4 (v:=?_) ?_ ?_
   rotate_left
   ·intro w hSw;try obtain⟨_,_,_,_,_⟩:=hSw
    go_simp;try with_reducible rfl
   try simp only[Act.put,sA,sB,sC]
   refine ZL 5 ?_;try simp only[Act.put,sA,sB,sC]
   refine ZL 6 ?_;try simp only[Act.put,sA,sB,sC]
   refine ZL 7 ?_;try simp only[Act.put,sA,sB,sC]
   refine ZL 8 ?_;try simp only[Act.put,sA,sB,sC]
   refine ZL 9 ?_;try simp only[Act.put,sA,sB,sC]
   refine tkM [12,13,16,17,18] 10 (v:=?_) ?_ ?_
   rotate_left
   ·intro w hSw;try obtain⟨_,_,_,_,_⟩:=hSw
    go_simp;try with_reducible rfl
   try simp only[Act.put,sA,sB,sC]
   refine ZL 11 ?_;try simp only[Act.put,sA,sB,sC]
   refine ZL 12 ?_;try simp only[Act.put,sA,sB,sC]
   refine tkM [16,17,18] 13 (v:=?_) ?_ ?_
   rotate_left
   ·intro w hSw;try obtain⟨_,_,_,_,_⟩:=hSw
    go_simp;try with_reducible rfl
   try simp only[Act.put,sA,sB,sC]
   refine tkM [15,16,17,18] 14 (v:=?_) ?_ ?_
   rotate_left
   ·intro w hSw;try obtain⟨_,_,_,_,_⟩:=hSw
    go_simp;try with_reducible rfl
   try simp only[Act.put,sA,sB,sC]
   refine Qj (i:=15) (by kernel_rfl) rfl (fun KK hK=>?_);go_simp;refine hK.out _ _ ⟨by go_keep,by go_keep,by go_keep,by go_keep,by go_keep⟩ (fun hHeld=>?_);clear hK KK;try simp only[Act.put,sA,sB,sC]
   refine Qj (i:=16) (by kernel_rfl) rfl (fun KK hK=>?_);refine ZI rfl (.tmp 42) (.tmp 44) 251 rfl 0 308 i8 (.agg #[.bool false,.int .i64 0,.string ⟨#[]⟩]) 3 32 Tryz.underlying251 inf8 jz0 jz1 jz2 rfl (by decide) (vk k) (s.cols k).length (Zbk (s.cols k)) (by simp[Act.eval]) (World.ownsRow.alloc HCK.out _) ⟨w4.heap.size,0,none⟩ 1 1 (Zai x) (by simp[Act.eval]) rfl (Zu w4 #[.bool x.miss,.int .i64 x.num,.string x.word] 308) (by intro u hu;simp only[Zai,List.mem_cons,List.not_mem_nil,or_false] at hu;rcases hu with rfl|rfl|rfl<;>rfl) (by decide) (by unfold maxLen;omega) (by omega) (by simp) ?_;intro v5 w5 hX5;obtain⟨ho,hg,hd,_,q5,p5,rfl⟩:=hX5.out
   have hcl5:∃cur:Array Value,w5.heap[cb]? =some (.cells cur 251 (0,0))/\cur.size=n/\∀j,j<n->cur[j]? =some (vk j):=by obtain⟨cur,a1,a2,a3⟩:=HX4.out.cl;refine⟨cur,?_,a2,a3⟩;rw[hg.block cb (by simp;have:=HX4.out.ml cb HX4.out.mc;omega) (fun e=>Zv (HX4.out.oc k hlt) e.symm a1 (by decide) rfl)];exact(Below.heap_alloc w4 _ cb (HX4.out.ml cb HX4.out.mc)).trans a1
   have e2:w5.cell? ⟨rb,2,none⟩=some (.slice (some ⟨cb,0,none⟩) n n):=(RB.grown (w:=w4.drew.alloc (.cells #[.bool x.miss,.int .i64 x.num,.string x.word] 308)) ((Below.heap_alloc w4 _ rb HX4.out.rd.lt).trans HX4.out.rd) hg (fun e=>Zv (HX4.out.oc k hlt) e.symm HX4.out.rd (by decide) rfl)).head.2.2.1;obtain⟨cu5,cu1,cu2,cu3⟩:=hcl5;have e4:w5.cell? ⟨cb,k,none⟩=some (vk k):=(cell_of_row w5 cb k cu5 251 (0,0) cu1).trans (cu3 k hlt);have ef5:∀o,w5.frozen? ⟨cb,o,none⟩=false:=fun o=>frozen_of_row w5 cb o cu5 251 cu1;have hbx:wr.heap.size<w4.heap.size:=HSZ.out
   have hbk:∀o,w5.cell? ⟨wr.heap.size,o,none⟩=w4.cell? ⟨wr.heap.size,o,none⟩:=fun o=>(World.cell?_of_block (w:=w4.drew.alloc (.cells #[.bool x.miss,.int .i64 x.num,.string x.word] 308)) (a:=⟨wr.heap.size,o,none⟩) (hg.block _ (by simp;omega) (fun e=>HBX.out e.symm))).trans (Below.cell (B:=w4.heap.size) (w:=w4) (p:=⟨wr.heap.size,o,none⟩) (((Below.refl _ _).drew).alloc (by simp) _) hbx);have HP:Hid _:=HX4.out.putCol (w':=w5.setCell ⟨cb,k,none⟩ (.slice (some ⟨q5,0,none⟩) ((s.cols k).length+1) p5)) (v':=.slice (some ⟨q5,0,none⟩) ((s.cols k).length+1) p5) (col':=s.cols k++[x]) hlt (ZgU hg cb) (ZoO ⟨cu5,cu1,cu2,cu3⟩ hlt _) (Qr.more (Zdw ho cu1 (by decide))) (Zlb hd);rw[<- hx,ZjC] at HP;clear ho hg hd hX5;refine hK.out _ _ ⟨e2,e4,(hbk _).trans x0,(hbk _).trans x1,(hbk _).trans x2⟩ (fun hHeld=>?_)
   clear hK KK;try simp only[Act.put,sA,sB,sC]
   refine ZL 17 ?_;try simp only[Act.put,sA,sB,sC]
   refine Za5 (i:=18) (by kernel_rfl) rfl (by kernel_rfl) (fun KK hK=>?_);go_simp;refine hK.out _ _ ?_;clear hK KK;try simp only[Act.put,sA,sB,sC]
   refine Zz (by kernel_rfl) ?_ _;go_wp2;go_roundw;case rel=>exact⟨k+1,_,_,by omega,by go_num,HP.out.1,fun z hz=>(by rcases HP.out.2.1 z hz with h1|h1;exact HMk.out.1 z h1;exact .inr (by have:=HT4.out.size;omega)),HT4.out.trans2 HP.out.2.2 HMk.out.1⟩
   case measure=>simp[intOf];omega
  obtain rfl:k=n:=(by omega);have g3:=HXk.out.rd.head;have gf:=HXk.out.rd.part.2.2.2.2.2.2;obtain⟨_,_,_,g3,g4,g5⟩:=g3
  have HF:Hid _:=HXk.out.putRow (w':=((wr.setCell ⟨rb,3,none⟩ (.int .i64 0)).setCell ⟨rb,4,none⟩ (.bool false)).setCell ⟨rb,5,none⟩ (.slice none 0 0)) (vr':=.slice none 0 0) (row':=[]) (p:=s.p) (bs:=s.bs) (wv':=wv) (wt:=0) (fl:=false)
   ((((Za.refl (fun z=>z=rb∨(Value.slice ar k cr).ownBlock=some z) wr).setCell (p:=⟨rb,3,none⟩) (fun _=>.inl rfl) (.int .i64 0)).setCell (p:=⟨rb,4,none⟩) (fun _=>.inl rfl) (.bool false)).setCell (p:=⟨rb,5,none⟩) (fun _=>.inl rfl) (.slice none 0 0))
   (((HXk.out.rd.setWt 0).setFl false).setVr (.slice none 0 0)) (Qr.nil _ _) (.inr (.inl rfl))
   (Zdw (Zdw (Zdw HXk.out.ob HXk.out.rd (by decide)) (HXk.out.rd.setWt 0) (by decide)) ((HXk.out.rd.setWt 0).setFl false) (by decide)) (.inr rfl)
  have HS:Hid (({Zbi s k with row:=[],p:=s.p,bs:=s.bs,wt:=0,fl:=false}:RS)={s with ws:=s.ws++[s.wt],cols:=fun i=>if i<k then s.cols i++[s.row.getD i ZF] else s.cols i,wt:=0,fl:=false,row:=[]}):=rfl;go_wp2;go_end0;refine⟨rfl,⟨_,⟨_,_,_,_,HF.out.1⟩,fun z hz=>?_⟩,HMk.out.2.trans2 HF.out.2.2 HMk.out.1⟩
  rcases HF.out.2.1 z hz with h1|h1
  exact HMk.out.1 z h1;exact .inr (by have:=HMk.out.2.size;omega)
end
theorem Zo.nil(w:World)(base:Nat):Zo w base (.slice none 0 0) []:=World.ownsRow_nil w base 5 1
theorem Zkc{w w2:World}{o:Obj}{v u:Value}(hg:(w.alloc o).grownBy w2 v.ownBlock)(b:Nat){j:Nat}:Za (fun k=>k=b∨v.ownBlock=some k) w (w2.setCell ⟨b,j,none⟩ u):=
 (((Za.refl (fun k=>k=b∨v.ownBlock=some k) w).alloc o).grown hg (fun _ e _=>.inr e)).setCell (p:=⟨b,j,none⟩) (fun _=>.inl rfl) u
theorem Znk{w w2:World}{o:Obj}{v v':Value}(hd:v'.ownBlock=v.ownBlock∨v'.ownBlock=some (w.alloc o).heap.size/\Below (w.alloc o).heap.size (w.alloc o) w2):v'.ownBlock=v.ownBlock∨∃k,v'.ownBlock=some k/\w.heap.size<=k:=by
 rcases hd with h|⟨h,_⟩
 exact .inl h;exact .inr ⟨_,h,by simp⟩
def Yq(n:Nat)(wd:Nat->Bool)(sc:Nat->Int)(s:RS)(c:Int):Option RS:=
 match Z6 (wd s.row.length) (ZC (sc s.row.length).toNat) s.p s.bs c with
 |some q=>some {s with p:=q.1,bs:=q.2}
 |none=>if c=QX s.row.length n/\YX s.p.st=true then some (Y8 n s (s.row++[Y0 s.p s.bs])) else none
theorem Za.undrew{S:Nat->Prop}{w w':World}(t:Za S w.drew w'):Za S w w':=⟨t.os,t.tape,t.output,t.size,t.block⟩
section
variable {w:World} {K M:Nat->Prop} {rb fb cb n:Nat} {wd:Nat->Bool} {sc ct:Nat->Int} {bins size:Int} {s:RS} {vW vr wv:Value} {vc:Nat->Value}
theorem ZeD(c:Int)(hX:RdX w K M rb fb cb n wd sc ct bins size s vW vr wv vc)(hI:QD n s)(hn:n<=4)(hws:s.ws.length<200)(hsc:∀i,i<n->wd i=false->0<=sc i/\sc i<=3):Calls Tryz.prog 163 #[.pointer (some ⟨rb,0,none⟩),.int .u8 c] w fun e w'=>e=.returned (.bool (Yq n wd sc s c).isSome)/\Zh3 w K M rb fb cb n wd sc ct bins size ((Yq n wd sc s c).getD s) w':=by
 obtain⟨i8,inf8,iz0,iz1,iz2⟩:=info_parts Zk0;obtain⟨ar,cr,rfl⟩:=hX.or.form;obtain⟨c0,_,_,_,_,c5⟩:=hX.rd.head;obtain⟨v0,v1,v2,c6,hF⟩:=hX.feat hI.row;have bk1:(0:Int)<=(s.row.length:Int):=(by omega);have bk2:(s.row.length:Int)<(n:Int):=(by have:=hI.row;omega);have hXd:RdX w.drew K M rb fb cb n wd sc ct bins size s vW (.slice ar s.row.length cr) wv vc:=hX.touch (S:=fun _=>False) (Za.refl _ w).drew (fun _ _=>id)
 have hread:∃(f:Nat) (cs:Array Value),v0=.func (.func f) #[] cs/\Calls Tryz.prog f (#[.pointer (some ⟨rb,6,none⟩),.int .u8 c]++cs) w.drew (fun e w'=>ZeT w.drew K M rb fb cb n wd sc ct bins size s vW (.slice ar s.row.length cr) vc (Z6 (wd s.row.length) (ZC (sc s.row.length).toNat) s.p s.bs c) e w')/\((f=209/\cs=#[])∨∃k0,f=214/\cs=#[.pointer (some ⟨k0,0,none⟩)]):=by
  rcases hF with⟨e,k1,k2,k3,e0,_⟩|⟨e,k0,k1,k2,k3,e0,_,_,_,_,_,_,h0,_⟩
  refine⟨209,#[],e0,?_,.inl ⟨rfl,rfl⟩⟩;rw[e];exact Zma hXd c _ hI.bs;refine⟨214,_,e0,?_,.inr ⟨k0,rfl,rfl⟩⟩;have:=hsc _ hI.row e;have ht:=ZfT (sc s.row.length).toNat (by omega);rw[e];exact Znn hXd c _ k0 h0 (by omega) ht.2 hI.num
 obtain⟨f,cs,rfl,hcall,hfc⟩:=hread;have HX:Hid (RdX w K M rb fb cb n wd sc ct bins size s vW (.slice ar s.row.length cr) wv vc):=hX;have HI:Hid (QD n s):=hI;have hfbne:fb≠rb:=hX.fb_ne;have hKM:∀k,K k->¬M k:=fun k e=>(hX.kk k e).2;have hfbK:K fb:=(by obtain⟨_,_,_,h3,_⟩:=hX.fs;exact h3);have hflt:fb<w.heap.size:=(hX.kk fb hfbK).1;have HNM:Hid (¬M fb):=hKM fb hfbK;have hrl:s.row.length<n:=hI.row;clear hX hXd hF hI hKM hfbK
 cases hfs:Z6 (wd s.row.length) (ZC (sc s.row.length).toNat) s.p s.bs c with
 | some q=>
  have HO:Hid (Yq n wd sc s c=some {s with p:=q.1,bs:=q.2}):=(by show Yq n wd sc s c=_;unfold Yq;rw[hfs]);rw[hfs] at hcall;have HC:Hid (Calls Tryz.prog f (#[.pointer (some ⟨rb,6,none⟩),.int .u8 c]++cs) w.drew (fun e w'=>ZeT w.drew K M rb fb cb n wd sc ct bins size s vW (.slice ar s.row.length cr) vc (some q) e w')):=hcall;clear hcall hfs
  rcases hfc with⟨rfl,rfl⟩|⟨k0,rfl,rfl⟩
  ·go_enter Tryz.func163,Tryz.ntmps163;go_wp2_with fail
   go_region_held3 (fun w'=>w'.cell? ⟨rb,0,none⟩=some (.slice (some ⟨fb,0,none⟩) n n)/\w'.cell? ⟨rb,5,none⟩=some (.slice ar s.row.length cr)/\w'.cell? ⟨fb,s.row.length*3,none⟩=some (.func (.func 209) #[] #[])) (go_keep) (first|(go_at_call 209;refine(HC.out).mono ?_;rintro e w' ⟨rfl,⟨M',wv',hR,hM1,hM2⟩,hT⟩;have e0:=hR.rd.head.1;have e5:=hR.rd.head.2.2.2.2.2;have ef:w'.cell? ⟨fb,s.row.length*3,none⟩=some (.func (.func 209) #[] #[]):=(World.cell?_of_block (w:=w.drew) (a:=⟨fb,s.row.length*3,none⟩) (hT.block fb hflt HNM.out)).trans c6;have HR:Hid (Zh3 w K M rb fb cb n wd sc ct bins size {s with p:=q.1,bs:=q.2} w'):=⟨⟨M',⟨_,_,_,_,hR⟩,hM2⟩,hT.undrew⟩;clear hR hM1 hM2 hT))
   all_goals go_wp2
   all_goals go_ret
   all_goals rw[HO.out]
   all_goals exact⟨rfl,HR.out⟩
  go_enter Tryz.func163,Tryz.ntmps163;go_wp2_with fail
  go_region_held3 (fun w'=>w'.cell? ⟨rb,0,none⟩=some (.slice (some ⟨fb,0,none⟩) n n)/\w'.cell? ⟨rb,5,none⟩=some (.slice ar s.row.length cr)/\w'.cell? ⟨fb,s.row.length*3,none⟩=some (.func (.func 214) #[] #[.pointer (some ⟨k0,0,none⟩)])) (go_keep) (first|(go_at_call 214;refine(HC.out).mono ?_;rintro e w' ⟨rfl,⟨M',wv',hR,hM1,hM2⟩,hT⟩;have e0:=hR.rd.head.1;have e5:=hR.rd.head.2.2.2.2.2;have ef:w'.cell? ⟨fb,s.row.length*3,none⟩=some (.func (.func 214) #[] #[.pointer (some ⟨k0,0,none⟩)]):=(World.cell?_of_block (w:=w.drew) (a:=⟨fb,s.row.length*3,none⟩) (hT.block fb hflt HNM.out)).trans c6;have HR:Hid (Zh3 w K M rb fb cb n wd sc ct bins size {s with p:=q.1,bs:=q.2} w'):=⟨⟨M',⟨_,_,_,_,hR⟩,hM2⟩,hT.undrew⟩;clear hR hM1 hM2 hT))
  all_goals go_wp2
  all_goals go_ret
  all_goals rw[HO.out]
  all_goals exact⟨rfl,HR.out⟩
 | none=>
  rw[hfs] at hcall;have HC:Hid (Calls Tryz.prog f (#[.pointer (some ⟨rb,6,none⟩),.int .u8 c]++cs) w.drew (fun e w'=>ZeT w.drew K M rb fb cb n wd sc ct bins size s vW (.slice ar s.row.length cr) vc none e w')):=hcall
  have HFS:=show Hid (Z6 (wd s.row.length) (ZC (sc s.row.length).toNat) s.p s.bs c=none) from hfs
  clear hcall hfs;go_enter Tryz.func163,Tryz.ntmps163;go_wp2_with fail
  go_cut [21] (fun v wx=>v=.bool false/\∃M3 wv3,Hid (RdX wx K M3 rb fb cb n wd sc ct bins size s vW (.slice ar s.row.length cr) wv3 vc)/\Hid ((∀k,M3 k->M k∨w.heap.size<=k)/\Za M w wx))
  case first=>
   rcases hfc with⟨rfl,rfl⟩|⟨k0,rfl,rfl⟩
   ·go_region_held3 (fun w'=>w'.cell? ⟨rb,0,none⟩=some (.slice (some ⟨fb,0,none⟩) n n)/\w'.cell? ⟨rb,5,none⟩=some (.slice ar s.row.length cr)/\w'.cell? ⟨fb,s.row.length*3,none⟩=some (.func (.func 209) #[] #[])) (go_keep) (first|(go_at_call 209;refine(HC.out).mono ?_;rintro e w' ⟨rfl,⟨M',wv',hR,hM1,hM2⟩,hT⟩;have e0:=hR.rd.head.1;have e5:=hR.rd.head.2.2.2.2.2;have ef:w'.cell? ⟨fb,s.row.length*3,none⟩=some (.func (.func 209) #[] #[]):=(World.cell?_of_block (w:=w.drew) (a:=⟨fb,s.row.length*3,none⟩) (hT.block fb hflt HNM.out)).trans c6;have HR:Hid (∃M3 wv3,Hid (RdX w' K M3 rb fb cb n wd sc ct bins size s vW (.slice ar s.row.length cr) wv3 vc)/\Hid ((∀k,M3 k->M k∨w.heap.size<=k)/\Za M w w')):=⟨M',wv',hR,hM2,hT.undrew⟩;clear hR hM1 hM2 hT))
    all_goals go_wp2
    all_goals go_meet
    all_goals exact⟨rfl,HR.out⟩
   go_region_held3 (fun w'=>w'.cell? ⟨rb,0,none⟩=some (.slice (some ⟨fb,0,none⟩) n n)/\w'.cell? ⟨rb,5,none⟩=some (.slice ar s.row.length cr)/\w'.cell? ⟨fb,s.row.length*3,none⟩=some (.func (.func 214) #[] #[.pointer (some ⟨k0,0,none⟩)])) (go_keep) (first|(go_at_call 214;refine(HC.out).mono ?_;rintro e w' ⟨rfl,⟨M',wv',hR,hM1,hM2⟩,hT⟩;have e0:=hR.rd.head.1;have e5:=hR.rd.head.2.2.2.2.2;have ef:w'.cell? ⟨fb,s.row.length*3,none⟩=some (.func (.func 214) #[] #[.pointer (some ⟨k0,0,none⟩)]):=(World.cell?_of_block (w:=w.drew) (a:=⟨fb,s.row.length*3,none⟩) (hT.block fb hflt HNM.out)).trans c6;have HR:Hid (∃M3 wv3,Hid (RdX w' K M3 rb fb cb n wd sc ct bins size s vW (.slice ar s.row.length cr) wv3 vc)/\Hid ((∀k,M3 k->M k∨w.heap.size<=k)/\Za M w w')):=⟨M',wv',hR,hM2,hT.undrew⟩;clear hR hM1 hM2 hT))
   all_goals go_wp2
   all_goals go_meet
   all_goals exact⟨rfl,HR.out⟩
  case rest=>
   obtain⟨rfl,M3,wv3,HX1,HM1⟩:=hcut;clear c0 c5 c6 hflt HNM HC hfc;have HSEP:Hid (Calls Tryz.prog 219 #[.pointer (some ⟨rb,0,none⟩)] wc fun e w'=>e=.returned (.int .u8 (QX s.row.length n))/\∃m,w'=wc.drewN m):=Zgm rb _ n n vW _ s.wt s.fl ar s.row.length cr _ wc HX1.out.rd (by omega) (by omega);have HME:Hid (∀m,Calls Tryz.prog 220 #[.pointer (some ⟨rb,6,none⟩)] (wc.drewN m) fun e w'=>e=.returned (.bool (YX s.p.st))/\w'=wc.drewN m):=fun m=>Zj3 rb _ _ _ _ _ _ {s.p with wv:=wv3} (wc.drewN m) HX1.out.rd;have HXD:Hid (∀m,RdX (wc.drewN m) K M3 rb fb cb n wd sc ct bins size s vW (.slice ar s.row.length cr) wv3 vc):=fun m=>HX1.out.touch (S:=fun _=>False) ⟨rfl,rfl,rfl,Qa _,fun _ _ _=>rfl⟩ (fun _ _=>id)
   have HTD:Hid (∀m,Za M w (wc.drewN m)):=fun m=>⟨HM1.out.2.os,HM1.out.2.tape,HM1.out.2.output,HM1.out.2.size,HM1.out.2.block⟩;have HOUT:Hid (Yq n wd sc s c=if c=QX s.row.length n/\YX s.p.st=true then some (Y8 n s (s.row++[Y0 s.p s.bs])) else none):=(by show Yq n wd sc s c=_;unfold Yq;rw[HFS.out]);clear HFS
   by_cases hc:c=QX s.row.length n
   ·by_cases hm:YX s.p.st=true
    ·have HO:Hid (Yq n wd sc s c=some (Y8 n s (s.row++[Y0 s.p s.bs]))):=(by show _=_;rw[HOUT.out,if_pos ⟨hc,hm⟩]);rw[hm] at HME;rw[<- hc] at HSEP;clear hc hm HOUT;go_upto_region 5 with(first|(go_at_call 219;refine(HSEP.out).mono ?_;rintro e w' ⟨rfl,m,rfl⟩)|(go_at_call 220;refine(HME.out _).mono ?_;rintro e w' ⟨rfl,hw'⟩;obtain rfl:=hw'.symm))
     have HX3:Hid (RdX (wc.drewN m).drew K M3 rb fb cb n wd sc ct bins size s vW (.slice ar s.row.length cr) wv3 vc):=(HXD.out m).touch (S:=fun _=>False) (Za.refl _ _).drew (fun _ _=>id);have HT3:Hid (Za M w (wc.drewN m).drew):=(HTD.out m).drew;clear HXD HTD HSEP HME HX1;generalize wc.drewN m=w3 at *;have hle:=HI.out.num.le;have hge:=HI.out.num.n0;have HVAL:Hid (Calls Tryz.prog 221 #[.pointer (some ⟨rb,6,none⟩)] w3.drew fun e w'=>e=.returned (.agg #[.bool (decide (s.p.st=0)),.int .i64 (Zcc s.p),.string (strOfNums s.bs)])/\Below w3.drew.heap.size w3.drew w'):=Zmo rb 0 _ _ _ _ _ _ {s.p with wv:=wv3} s.bs w3.drew ⟨HX3.out.rd,HX3.out.ob⟩ (by show _<=s.p.num;omega) (by show s.p.num<=_;omega);have d5a:w3.drew.cell? ⟨rb,5,none⟩=some (.slice ar s.row.length cr):=HX3.out.rd.head.2.2.2.2.2
     refine ZJ (fun w'=>w'.cell? ⟨rb,5,none⟩=some (.slice ar s.row.length cr)) 13 (by kernel_rfl) d5a (fun hHeld=>?_);refine ZL 0 ?_;try simp only[Act.put,sA,sB,sC]
     refine ZL 1 ?_;try simp only[Act.put,sA,sB,sC]
     refine ZL 2 ?_;try simp only[Act.put,sA,sB,sC]
     refine ZL 3 ?_;try simp only[Act.put,sA,sB,sC]
     refine ZL 4 ?_;try simp only[Act.put,sA,sB,sC]
     refine ZL 5 ?_;try simp only[Act.put,sA,sB,sC]
     refine ZL 6 ?_;try simp only[Act.put,sA,sB,sC]
     refine ZL 7 ?_;try simp only[Act.put,sA,sB,sC]
     refine Qj (i:=8) (by kernel_rfl) rfl (fun KK hK=>?_);go_simp;refine(HVAL.out).mono ?_;rintro e w4 ⟨rfl,hb4⟩;have d5:w4.cell? ⟨rb,5,none⟩=some (.slice ar s.row.length cr):=(hb4.cell (p:=⟨rb,5,none⟩) HX3.out.rd.lt).trans HX3.out.rd.head.2.2.2.2.2;have HX4:Hid (RdX w4 K M3 rb fb cb n wd sc ct bins size s vW (.slice ar s.row.length cr) wv3 vc):=HX3.out.touch (Za.of_below (S:=fun _=>False) hb4) (fun _ _=>id);have HT4:Hid (Za M w w4):=HT3.out.below hb4;clear hb4;go_simp;refine hK.out _ _ d5 (fun hHeld=>?_);clear hK KK;try simp only[Act.put,sA,sB,sC]
     refine Qj (i:=9) (by kernel_rfl) rfl (fun KK hK=>?_);go_simp;refine hK.out _ _ (by go_keep) (fun hHeld=>?_);clear hK KK;try simp only[Act.put,sA,sB,sC]
     refine Qj (i:=10) (by kernel_rfl) rfl (fun KK hK=>?_);refine ZI rfl (.tmp 37) (.tmp 42) 251 rfl 0 308 i8 (.agg #[.bool false,.int .i64 0,.string ⟨#[]⟩]) 3 32 Tryz.underlying251 inf8 iz0 iz1 iz2 rfl (by decide) (.slice ar s.row.length cr) s.row.length (Zbk s.row) (by simp[Act.eval]) (World.ownsRow.alloc HX4.out.or _) ⟨w4.heap.size,0,none⟩ 1 1 (Zai (Y0 s.p s.bs)) (by simp[Act.eval]) rfl (Zu w4 #[.bool (decide (s.p.st=0)),.int .i64 (Zcc s.p),.string (strOfNums s.bs)] 308) (by intro u hu;simp only[Zai,List.mem_cons,List.not_mem_nil,or_false] at hu;rcases hu with rfl|rfl|rfl<;>rfl) (by decide) (by unfold maxLen;omega) (by omega) (by simp) ?_;intro v5 w5 hX5;obtain⟨ho,hg,hd,_,q5,p5,rfl⟩:=hX5.out
     have hb5:RB w5 rb (.slice (some ⟨fb,0,none⟩) n n) vW (.slice (some ⟨cb,0,none⟩) n n) s.wt s.fl (.slice ar s.row.length cr) {s.p with wv:=wv3}:=RB.grown (w:=w4.alloc (.cells #[.bool (decide (s.p.st=0)),.int .i64 (Zcc s.p),.string (strOfNums s.bs)] 308)) ((Below.heap_alloc w4 _ rb HX4.out.rd.lt).trans HX4.out.rd) hg (fun e=>Zv HX4.out.or e.symm HX4.out.rd (by decide) rfl);have e5:w5.cell? ⟨rb,5,none⟩=some (.slice ar s.row.length cr):=hb5.head.2.2.2.2.2;have ef5:∀o,w5.frozen? ⟨rb,o,none⟩=false:=hb5.part.2.2.2.2.2.2;have hb6:=(((((((hb5.setVr (.slice (some ⟨q5,0,none⟩) (s.row.length+1) p5)).st 0).neg false).dig 0).unit 0).num 0).wv (.slice none 0 0))
     have t6:=((((((Zkc (u:=.slice (some ⟨q5,0,none⟩) (s.row.length+1) p5) (j:=5) hg rb).setCell (p:=⟨rb,6,none⟩) (fun _=>.inl rfl) (.int .i64 0)).setCell (p:=⟨rb,7,none⟩) (fun _=>.inl rfl) (.bool false)).setCell (p:=⟨rb,8,none⟩) (fun _=>.inl rfl) (.int .i64 0)).setCell (p:=⟨rb,9,none⟩) (fun _=>.inl rfl) (.int .i64 0)).setCell (p:=⟨rb,10,none⟩) (fun _=>.inl rfl) (.int .i64 0)).setCell (p:=⟨rb,11,none⟩) (fun _=>.inl rfl) (.slice none 0 0);have hown:Qr w5 0 (.slice (some ⟨q5,0,none⟩) (s.row.length+1) p5) (s.row++[Y0 s.p s.bs]):=Qr.more ho
     have hown6:=((((((Za.refl (fun k=>k=rb) w5).setCell (p:=⟨rb,5,none⟩) (fun _=>rfl) (.slice (some ⟨q5,0,none⟩) (s.row.length+1) p5)).setCell (p:=⟨rb,6,none⟩) (fun _=>rfl) (.int .i64 0)).setCell (p:=⟨rb,7,none⟩) (fun _=>rfl) (.bool false)).setCell (p:=⟨rb,8,none⟩) (fun _=>rfl) (.int .i64 0)).setCell (p:=⟨rb,9,none⟩) (fun _=>rfl) (.int .i64 0)).setCell (p:=⟨rb,10,none⟩) (fun _=>rfl) (.int .i64 0);have HP:Hid _:=HX4.out.putRow (s:=s) (p:=part0) (bs:=[]) (wt:=s.wt) (fl:=s.fl) t6 hb6 (hown.touch (hown6.setCell (p:=⟨rb,11,none⟩) (fun _=>rfl) (.slice none 0 0)) (fun k hk e=>Zv hown hk hb5 (by decide) e)) (by rcases Znk hd with h1|h1;exact .inl h1;exact .inr (.inr h1)) (Zo.nil _ _) (.inl rfl)
     have d5b:(w5.setCell ⟨rb,5,none⟩ (.slice (some ⟨q5,0,none⟩) (s.row.length+1) p5)).cell? ⟨rb,5,none⟩=some (.slice (some ⟨q5,0,none⟩) (s.row.length+1) p5):=(hb5.setVr _).head.2.2.2.2.2;have dp:=(hb5.setVr (.slice (some ⟨q5,0,none⟩) (s.row.length+1) p5)).part;obtain⟨g6,g7,g8,g9,g10,g11,gf⟩:=dp;clear ho hg hd hX5 hb5 hb6 t6 hown hown6;refine hK.out _ _ e5 (fun hHeld=>?_);clear hK KK;try simp only[Act.put,sA,sB,sC]
     refine ZL 11 ?_;try simp only[Act.put,sA,sB,sC]
     refine ZL 12 ?_;try simp only[Act.put,sA,sB,sC]
     refine Za5 (i:=13) (by kernel_rfl) rfl (by kernel_rfl) (fun KK hK=>?_);go_simp;refine hK.out _ _ ?_;clear hK KK;try simp only[Act.put,sA,sB,sC]
     refine Zz (by kernel_rfl) ?_ _
     have HP6:Hid (RdX ((((((((w5.setCell ⟨rb,5,none⟩ (.slice (some ⟨q5,0,none⟩) (s.row.length+1) p5)).setCell ⟨rb,6,none⟩ (.int .i64 0)).setCell ⟨rb,7,none⟩ (.bool false)).setCell ⟨rb,8,none⟩ (.int .i64 0)).setCell ⟨rb,9,none⟩ (.int .i64 0)).setCell ⟨rb,10,none⟩ (.int .i64 0)).setCell ⟨rb,11,none⟩ (.slice none 0 0))) K (fun k=>M3 k∨(Value.slice (some ⟨q5,0,none⟩) (s.row.length+1) p5).ownBlock=some k) rb fb cb n wd sc ct bins size {s with row:=s.row++[Y0 s.p s.bs],p:=part0,bs:=[]} vW (.slice (some ⟨q5,0,none⟩) (s.row.length+1) p5) (.slice none 0 0) vc/\(∀k,(M3 k∨(Value.slice (some ⟨q5,0,none⟩) (s.row.length+1) p5).ownBlock=some k)->M3 k∨w4.heap.size<=k)/\Za M3 w4 ((((((((w5.setCell ⟨rb,5,none⟩ (.slice (some ⟨q5,0,none⟩) (s.row.length+1) p5)).setCell ⟨rb,6,none⟩ (.int .i64 0)).setCell ⟨rb,7,none⟩ (.bool false)).setCell ⟨rb,8,none⟩ (.int .i64 0)).setCell ⟨rb,9,none⟩ (.int .i64 0)).setCell ⟨rb,10,none⟩ (.int .i64 0)).setCell ⟨rb,11,none⟩ (.slice none 0 0)))):=HP.out
     clear HP HVAL HX3 HT3 hHeld d5 e5 ef5 d5a;go_upto_region 7 with fail;clear g6 g7 g8 g9 g10 g11 gf d5b;generalize (((((((w5.setCell ⟨rb,5,none⟩ (.slice (some ⟨q5,0,none⟩) (s.row.length+1) p5)).setCell ⟨rb,6,none⟩ (.int .i64 0)).setCell ⟨rb,7,none⟩ (.bool false)).setCell ⟨rb,8,none⟩ (.int .i64 0)).setCell ⟨rb,9,none⟩ (.int .i64 0)).setCell ⟨rb,10,none⟩ (.int .i64 0)).setCell ⟨rb,11,none⟩ (.slice none 0 0))=w6 at *;obtain⟨M6,hM6⟩:∃M6:Nat->Prop,M6=(fun k=>M3 k∨(Value.slice (some ⟨q5,0,none⟩) (s.row.length+1) p5).ownBlock=some k):=⟨_,rfl⟩;have HM6:Hid ((∀k,M6 k->M3 k∨w4.heap.size<=k)/\Za M3 w4 w6):=by rw[hM6];exact HP6.out.2
     have HX6:Hid (RdX w6 K M6 rb fb cb n wd sc ct bins size {s with row:=s.row++[Y0 s.p s.bs],p:=part0,bs:=[]} vW (.slice (some ⟨q5,0,none⟩) (s.row.length+1) p5) (.slice none 0 0) vc):=(by rw[hM6];exact HP6.out.1);have HT6:Hid (Za M w w6):=HT4.out.trans2 HM6.out.2 HM1.out.1
     have HN6:Hid (∀k,M6 k->M k∨w.heap.size<=k):=fun k hk=>by
      rcases HM6.out.1 k hk with h1|h1
      exact HM1.out.1 k h1;exact .inr (by have:=HT4.out.size;omega)
     have g0:w6.cell? ⟨rb,0,none⟩=some (.slice (some ⟨fb,0,none⟩) n n):=HX6.out.rd.head.1;have g5:w6.cell? ⟨rb,5,none⟩=some (.slice (some ⟨q5,0,none⟩) (s.row.length+1) p5):=HX6.out.rd.head.2.2.2.2.2
     have hcl:∀i,i<n->(s.cols i).length<=200:=fun i hi=>by rw[HI.out.col i hi];omega
     clear hM6 HP6 HM6 HX4 HT4 HM1
     by_cases hl:s.row.length+1=n
     ·have HRE:Hid (Y8 n s (s.row++[Y0 s.p s.bs])={({s with row:=s.row++[Y0 s.p s.bs],p:=part0,bs:=[]}:RS) with ws:=s.ws++[s.wt],cols:=fun i=>if i<n then s.cols i++[(s.row++[Y0 s.p s.bs]).getD i ZF] else s.cols i,wt:=0,fl:=false,row:=[]}):=by show _=_;unfold Y8;rw[if_pos (by simp;exact hl)]
      have HER:Hid (∀m,Calls Tryz.prog 222 #[.pointer (some ⟨rb,0,none⟩)] (w6.drewN m) fun e w'=>e=.returned (.tuple #[])/\Zh3 (w6.drewN m) K M6 rb fb cb n wd sc ct bins size {({s with row:=s.row++[Y0 s.p s.bs],p:=part0,bs:=[]}:RS) with ws:=s.ws++[s.wt],cols:=fun i=>if i<n then s.cols i++[(s.row++[Y0 s.p s.bs]).getD i ZF] else s.cols i,wt:=0,fl:=false,row:=[]} w'):=fun m=>ZjH (w:=w6.drewN m) (HX6.out.touch (w':=w6.drewN m) (S:=fun _=>False) ⟨rfl,rfl,rfl,Qa _,fun _ _ _=>rfl⟩ (fun _ _=>id)) (by simp;exact hl) hn (by show s.ws.length<=200;omega) hcl;have e1:(((s.row.length+1:Nat):Int)==(n:Int))=true:=(by simp;omega);have e2:(((s.row.length:Int)+1)==(n:Int))=true:=(by simp;omega);go_big_quiet (fail)
      go_wp2_with (go_at_call 222;refine(HER.out _).mono ?_;rintro e w7 ⟨rfl,hL⟩)
      go_ret;rw[HO.out,HRE.out];obtain⟨⟨M',hM',hs'⟩,hT'⟩:=hL;refine⟨rfl,⟨M',hM',fun k hk=>?_⟩,HT6.out.trans2 ⟨hT'.os,hT'.tape,hT'.output,hT'.size,hT'.block⟩ HN6.out⟩
      rcases hs' k hk with h1|h1
      exact HN6.out k h1;exact .inr (Nat.le_trans HT6.out.size h1)
     have HRE:Hid (Y8 n s (s.row++[Y0 s.p s.bs])={s with row:=s.row++[Y0 s.p s.bs],p:=part0,bs:=[]}):=(by show _=_;unfold Y8;rw[if_neg (by simp;exact hl)]);have e1:(((s.row.length+1:Nat):Int)==(n:Int))=false:=beq_eq_false_iff_ne.2 (by omega);have e2:(((s.row.length:Int)+1)==(n:Int))=false:=beq_eq_false_iff_ne.2 (by omega);go_big_quiet (fail);go_wp2;go_ret;rw[HO.out,HRE.out];exact⟨rfl,⟨M6,⟨_,_,_,_,HX6.out.touch (S:=fun _=>False) ⟨rfl,rfl,rfl,Qa _,fun _ _ _=>rfl⟩ (fun _ _=>id)⟩,HN6.out⟩,⟨HT6.out.os,HT6.out.tape,HT6.out.output,HT6.out.size,HT6.out.block⟩⟩
    have hmf:YX s.p.st=false:=by simpa using hm
    have HO:Hid (Yq n wd sc s c=none):=(by show _=_;rw[HOUT.out,if_neg (fun h=>hm h.2)]);rw[hmf] at HME;rw[<- hc] at HSEP;clear hc hm hmf HOUT;go_wp2_with (first|(go_at_call 219;refine(HSEP.out).mono ?_;rintro e w' ⟨rfl,m,rfl⟩)|(go_at_call 220;refine(HME.out _).mono ?_;rintro e w' ⟨rfl,hw'⟩;obtain rfl:=hw'.symm))
    go_ret;rw[HO.out];exact⟨rfl,⟨M3,⟨_,_,_,_,HXD.out _⟩,HM1.out.1⟩,HTD.out _⟩
   have HO:Hid (Yq n wd sc s c=none):=(by show _=_;rw[HOUT.out,if_neg (fun h=>hc h.1)]);have hcb:(c==QX s.row.length n)=false:=beq_eq_false_iff_ne.2 hc;generalize QX s.row.length n=sp at *;clear HOUT;go_wp2_with (first|(go_at_call 219;refine(HSEP.out).mono ?_;rintro e w' ⟨rfl,m,rfl⟩)|(go_at_call 220;refine(HME.out _).mono ?_;rintro e w' ⟨rfl,hw'⟩;obtain rfl:=hw'.symm))
   go_ret;rw[HO.out];exact⟨rfl,⟨M3,⟨_,_,_,_,HXD.out _⟩,HM1.out.1⟩,HTD.out _⟩
end
theorem ZlM{w:World}{base:Nat}{v:Value}{L:List Int}(h:Ze w base v L):∃a c,v=.slice a L.length c:=by
 rcases h.2 with⟨rfl,h0⟩|⟨q,p,cur,rfl,_⟩
 exact⟨none,0,by rw[h0]⟩;exact⟨_,_,rfl⟩
def ZkE(w:World)(K M:Nat->Prop)(rb fb cb n:Nat)(wd:Nat->Bool)(sc ct:Nat->Int)(bins size:Int)(o:Except Int RS)(e:Ending)(w':World):Prop:=
 match o with
 |.error z=>e=.returned (.int .i64 z)/\Za M w w'
 |.ok s'=>e=.returned (.int .i64 0)/\Zh3 w K M rb fb cb n wd sc ct bins size s' w'
theorem QD.take{n:Nat}{wd:Nat->Bool}{sc:Nat->Int}{s s':RS}{c:Int}(h:QD n s)(hn:1<=n)(hsc:∀i,i<n->wd i=false->0<=sc i/\sc i<=3)(ht:Yx n wd sc s c=.ok s'):QD n s':=by
 unfold Yx at ht;split at ht
 ·cases ht
 rename_i h200;split at ht
 ·split at ht
  ·cases ht
  injection ht with ht;subst ht;exact⟨h.ws,h.col,h.wt0,h.wt1,h.row,h.num,h.bs⟩;rename_i z hz;injection ht with ht;subst ht;have:=Zgr hz;exact⟨h.ws,h.col,by show 0<=z;omega,by show z<=99;omega,h.row,h.num,h.bs⟩
 split at ht
 ·rename_i p bs hf;injection ht with ht;subst ht
  have hok:Y2 p/\bs.length<=8:=by
   unfold Z6 at hf;split at hf
   ·cases hq:Z3 s.p.st s.bs c with
    |none=>rw[hq] at hf;cases hf
    | some q=>
     rw[hq] at hf;injection hf with hf;injection hf with h1 h2;subst h1 h2;exact⟨h.num.st _,ZhR hq h.bs⟩
   rename_i hw
   cases hq:ZU (ZC (sc s.row.length).toNat) s.p c with
   |none=>rw[hq] at hf;cases hf
   | some q=>
    rw[hq] at hf;injection hf with hf;injection hf with h1 h2;subst h1 h2;have:=hsc _ h.row (by simpa using hw);have ht:=ZfT (sc s.row.length).toNat (by omega);exact⟨h.num.step ht.1 ht.2 hq,h.bs⟩
  exact⟨h.ws,h.col,h.wt0,h.wt1,h.row,hok.1,hok.2⟩
 split at ht;injection ht with ht;subst ht;unfold Y8;split;rename_i hl;refine⟨?_,fun i hi=>?_,Int.le_refl 0,by show(0:Int)<=99;decide,by show 0<n;omega,Y2.part0,Qg _⟩;show(s.ws++[s.wt]).length<=200;have:=h.ws;simp;omega;show(if i<n then s.cols i++[(s.row++[Y0 s.p s.bs]).getD i ZF] else s.cols i).length=(s.ws++[s.wt]).length;rw[if_pos hi];have:=h.col i hi;simp[this];rename_i hl;have:=h.row;refine⟨h.ws,h.col,h.wt0,h.wt1,?_,Y2.part0,Qg _⟩;show(s.row++[Y0 s.p s.bs]).length<n;simp at hl ⊢;omega
 cases ht
section
variable {w:World} {K M:Nat->Prop} {rb fb cb n:Nat} {wd:Nat->Bool} {sc ct:Nat->Int} {bins size:Int} {s:RS}
theorem Znu(c:Int)(hR:RdM w K M rb fb cb n wd sc ct bins size s)(hI:QD n s)(hn:n<=4)(hsc:∀i,i<n->wd i=false->0<=sc i/\sc i<=3)(hc0:0<=c)(hc1:c<=255):Calls Tryz.prog 98 #[.pointer (some ⟨rb,0,none⟩),.int .u8 c] w fun e w'=>ZkE w K M rb fb cb n wd sc ct bins size (Yx n wd sc s c) e w':=by
 obtain⟨vW,vr,wv,vc,hX⟩:=hR;obtain⟨aW,cW,hvW⟩:=ZlM hX.ow
 by_cases h200:s.ws.length=200
 have HO:Hid (Yx n wd sc s c=.error 3):=if_pos h200;rw[h200] at hvW;subst hvW;refine(Zml rb _ aW cW _ _ _ _ _ c w hX.rd).mono ?_;rintro e w' ⟨rfl,rfl⟩;rw[HO.out];exact⟨rfl,Za.refl _ _⟩;have hlt:s.ws.length<200:=(by have:=hI.ws;omega);subst hvW
 cases hfl:s.fl with
 | false=>
  have hrd:=hX.rd;rw[hfl] at hrd;refine(Zi9 rb _ aW s.ws.length cW _ s.wt vr _ c w hrd hlt hI.wt0 hI.wt1 hc0 hc1).mono ?_;rintro e w' ⟨rfl,e',ht⟩
  have HO:Yx n wd sc s c=match Zn s.wt c with|none=>.error 2|some none=>.ok {s with fl:=true}|some (some z)=>.ok {s with wt:=z}:=by unfold Yx;rw[if_neg h200,if_pos hfl];try(rcases Zn s.wt c with _|_|z<;>rfl)
  rw[HO];obtain⟨hg,ht⟩:=ht;have t:Za (fun k=>k=rb∨some k=wv.ownBlock) w w':=(Za.refl _ w).grown hg (fun k hk _=>.inl (by injection hk with hk;exact hk.symm))
  have tM:Za M w w':=t.mono (fun k _ e=>by
   rcases e with e|e
   exact e ▸ hX.mr
   exact hX.mw k e.symm)
  have hob:Zo w' 0 wv s.bs:=hX.ob.touch ((Za.refl (fun k=>k=rb) w).grown hg (fun k hk _=>by injection hk with hk;exact hk.symm)) (fun k hk e=>by
   obtain⟨cur,hc⟩:=Zf hX.ob hk
   exact hX.ne_of_type hc (by decide) e)
  have hM:∀k,(M k∨wv.ownBlock=some k)->M k∨w.heap.size<=k:=fun k e=>by
   rcases e with e|e
   exact .inl e;exact .inl (hX.mw k e)
  rcases hw:Zn s.wt c with _|_|z
  exact⟨rfl,tM⟩
  ·skip
   rw[hw] at ht;exact⟨rfl,⟨_,⟨_,_,_,_,hX.rewrite (p:=s.p) (bs:=s.bs) (wt:=s.wt) (fl:=true) t ht.2 hob (.inl rfl)⟩,hM⟩,tM⟩
  skip
  rw[hw] at ht;have hr2:=ht.2;rw[<- hfl] at hr2;exact⟨rfl,⟨_,⟨_,_,_,_,hX.rewrite (p:=s.p) (bs:=s.bs) (wt:=z) (fl:=s.fl) t hr2 hob (.inl rfl)⟩,hM⟩,tM⟩
 | true=>
  have HC:Hid (Calls Tryz.prog 163 #[.pointer (some ⟨rb,0,none⟩),.int .u8 c] w fun e w'=>e=.returned (.bool (Yq n wd sc s c).isSome)/\Zh3 w K M rb fb cb n wd sc ct bins size ((Yq n wd sc s c).getD s) w'):=ZeD c hX hI hn hlt hsc
  have HO:Hid (Yx n wd sc s c=match Yq n wd sc s c with|some s'=>.ok s'|none=>.error 2):=by
   show Yx n wd sc s c=_;unfold Yx Yq;rw[if_neg h200,if_neg (by rw[hfl];decide)]
   cases Z6 (wd s.row.length) (ZC (sc s.row.length).toNat) s.p s.bs c with
   |some q=>rfl
   | none=>
    show(if _ then _ else _)=_
    by_cases k:c=QX s.row.length n/\YX s.p.st=true
    rw[if_pos k,if_pos k];rw[if_neg k,if_neg k]
  obtain⟨_,c1,_,_,c4,_⟩:=hX.rd.head;rw[hfl] at c4;have hne:((s.ws.length:Int)==200)=false:=beq_eq_false_iff_ne.2 (by omega);have hne':¬(s.ws.length:Int)=200:=(by omega);clear hX hfl;rw[HO.out]
  cases hout:Yq n wd sc s c with
  | none=>
   rw[hout] at HC;clear hout;go_enter Tryz.func98,Tryz.ntmps98;go_wp2_with fail
   refine HC.out.mono ?_;rintro e w1 ⟨rfl,hL⟩
   have HL:=show Hid _ from hL
   clear hL;simp only[Option.isSome];go_wp2;go_ret;exact⟨rfl,HL.out.2⟩
  | some s'=>
   rw[hout] at HC;clear hout;go_enter Tryz.func98,Tryz.ntmps98;go_wp2_with fail
   refine HC.out.mono ?_;rintro e w1 ⟨rfl,hL⟩
   have HL:=show Hid _ from hL
   clear hL;simp only[Option.isSome];go_wp2;go_ret;exact⟨rfl,HL.out⟩
end
def Zb(b:ByteArray):List Int:=b.data.toList.map (fun u=>(u.toNat:Int))
def Zj(n:Nat)(wd:Nat->Bool)(sc:Nat->Int):RS->List Int->Nat->Except (Int×Nat) RS
 |s,[],_=>.ok s
 | s,c::r,k=>match Yx n wd sc s c with
  |.error z=>.error (z,k)
  |.ok s'=>Zj n wd sc s' r (k+1)
theorem Z0(n:Nat)(wd:Nat->Bool)(sc:Nat->Int):∀(a b:List Int) (s:RS) (k:Nat),Zj n wd sc s (a++b) k=match Zj n wd sc s a k with
  |.error z=>.error z
  |.ok s'=>Zj n wd sc s' b (k+a.length)
 |[],b,s,k=>by simp[Zj]
 | c ::a,b,s,k=>by
  simp only[List.cons_append,Zj]
  cases Yx n wd sc s c with
  |error z=>rfl
  | ok s'=>
   have:=Z0 n wd sc a b s' (k+1);simp only;rw[this,show k+1+a.length=k+(c::a).length by simp;omega]
theorem QD.takes{n:Nat}{wd:Nat->Bool}{sc:Nat->Int}(hn:1<=n)(hsc:∀i,i<n->wd i=false->0<=sc i/\sc i<=3):∀(l:List Int) {s s':RS} {k:Nat},QD n s->Zj n wd sc s l k=.ok s'->QD n s'
 |[],s,s',k,h,e=>by injection e with e;subst e;exact h
 | c::l,s,s',k,h,e=>by
  simp only[Zj] at e
  cases ht:Yx n wd sc s c with
  |error z=>rw[ht] at e;cases e
  |ok s1=>rw[ht] at e;exact QD.takes hn hsc l (h.take hn hsc ht) e
theorem ZgX{n:Nat}{wd:Nat->Bool}{sc:Nat->Int}{s:RS}{c z:Int}(h:Yx n wd sc s c=.error z):z=2∨z=3:=by
 unfold Yx at h;split at h;injection h with h;exact .inr h.symm;split at h
 ·split at h;injection h with h;exact .inl h.symm
  ·cases h
  cases h
 split at h
 ·cases h
 split at h
 ·cases h
 injection h with h;exact .inl h.symm
structure InX(w:World)(K M:Nat->Prop)(ib tb rb fb cb n:Nat)(wd:Nat->Bool)(sc ct:Nat->Int)(bins size budget:Int)(s:RS)(len:Nat):Prop where
 ik:w.heap[ib]? =some (.cells #[.pointer (some ⟨tb,0,none⟩),.bool false,.int .i64 0,.int .i64 0] 119 (0,0))
 tx:w.heap[tb]? =some (.cells #[.slice (some ⟨fb,0,none⟩) n n,.int .i64 budget,.pointer (some ⟨rb,0,none⟩),.int .i64 len] 158 (0,0))
 rd:RdM w K M rb fb cb n wd sc ct bins size s
 ni:¬K ib/\¬M ib
 nt:¬K tb/\¬M tb
section
variable {w:World} {K M:Nat->Prop} {ib tb rb fb cb n:Nat} {wd:Nat->Bool} {sc ct:Nat->Int} {bins size budget:Int} {s:RS} {len:Nat}
theorem InX.ne(h:InX w K M ib tb rb fb cb n wd sc ct bins size budget s len):ib≠tb:=fun e=>by have h1:=h.ik;rw[e,h.tx] at h1;simp at h1
def Zh0(w:World)(K M:Nat->Prop)(ib tb rb fb cb n:Nat)(wd:Nat->Bool)(sc ct:Nat->Int)(bins size budget:Int)(len:Nat)(o:Except (Int×Nat) RS)(w':World):Prop:=
 (match o with
 |.error (z,p)=>w'.heap[ib]? =some (.cells #[.pointer none,.bool false,.int .i64 z,.int .i64 p] 119 (0,0))
 |.ok s'=>∃M',InX w' K M' ib tb rb fb cb n wd sc ct bins size budget s' len/\(∀k,M' k->M k∨w.heap.size<=k))/\Za (fun k=>M k∨k=ib∨k=tb) w w'
theorem ZjS(b:ByteArray)(hX:InX w K M ib tb rb fb cb n wd sc ct bins size budget s len)(hI:QD n s)(hn1:1<=n)(hn:n<=4)(hsc:∀i,i<n->wd i=false->0<=sc i/\sc i<=3)(hlen:len+b.size<=4000000000000000000):Calls Tryz.prog 58 #[.pointer (some ⟨ib,0,none⟩),.string b] w fun e w'=>e=.returned (.tuple #[])/\Zh0 w K M ib tb rb fb cb n wd sc ct bins size budget (len+b.size) (Zj n wd sc s (Zb b) len) w':=by
 have HX:Hid (InX w K M ib tb rb fb cb n wd sc ct bins size budget s len):=hX;clear hX;go_enter Tryz.func58,Tryz.ntmps58;go_wp2_with fail
 go_loopw [8] (fun ti wr=>∃(k:Nat) (sk:RS) (Mk:Nat->Prop),k<=b.size/\ti=.int .i64 k/\Hid (Zj n wd sc s ((Zb b).take k) len=.ok sk)/\Hid (InX wr K Mk ib tb rb fb cb n wd sc ct bins size budget sk (len+k))/\Hid ((∀z,Mk z->M z∨w.heap.size<=z)/\Za (fun z=>M z∨z=ib∨z=tb) w wr)) (fun ti _=>b.size-(intOf ti).toNat)
 case atStart=>exact⟨0,s,M,Qg _,rfl,rfl,HX.out,fun _ e=>.inl e,Za.refl _ _⟩
 case round=>
  obtain⟨k,sk,Mk,hk,rfl,HR,HXk,HT⟩:=hrel;have i0:wr.cell? ⟨ib,0,none⟩=some (.pointer (some ⟨tb,0,none⟩)):=cell_of_row _ _ 0 _ 119 (0,0) HXk.out.ik;have i2:wr.cell? ⟨ib,2,none⟩=some (.int .i64 0):=cell_of_row _ _ 2 _ 119 (0,0) HXk.out.ik;have i3:wr.cell? ⟨ib,3,none⟩=some (.int .i64 0):=cell_of_row _ _ 3 _ 119 (0,0) HXk.out.ik;have t2:wr.cell? ⟨tb,2,none⟩=some (.pointer (some ⟨rb,0,none⟩)):=cell_of_row _ _ 2 _ 158 (0,0) HXk.out.tx
  by_cases hlt:k<b.size
  ·have bk1:(0:Int)<=(k:Int):=(by omega);have bk2:(k:Int)<(b.size:Int):=(by omega);go_upto_region 3 with fail;have HC:Hid (Calls Tryz.prog 98 #[.pointer (some ⟨rb,0,none⟩),.int .u8 (b[k].toNat:Int)] wr.drew fun e w'=>ZkE wr.drew K Mk rb fb cb n wd sc ct bins size (Yx n wd sc sk (b[k].toNat:Int)) e w'):=Znu (w:=wr.drew) _ (HXk.out.rd.touch (w':=wr.drew) (S:=fun _=>False) (Za.refl _ wr).drew (fun _ _=>id)) (QD.takes hn1 hsc _ hI HR.out) hn hsc (by omega) (by have:=UInt8.toNat_lt b[k];omega);refine ZJ (fun w'=>w'.cell? ⟨ib,0,none⟩=some (.pointer (some ⟨tb,0,none⟩))/\w'.cell? ⟨tb,2,none⟩=some (.pointer (some ⟨rb,0,none⟩))) 10 (by kernel_rfl) ⟨i0,t2⟩ (fun hHeld=>?_);refine ZL 0 ?_;try simp only[Act.put,sA,sB,sC]
   refine ZL 1 ?_;try simp only[Act.put,sA,sB,sC]
   refine ZL 2 ?_;try simp only[Act.put,sA,sB,sC]
   refine tkM [4,5,6,10,11] 3 (v:=?_) ?_ ?_
   rotate_left
   ·intro w hSw;try obtain⟨_,_⟩:=hSw
    go_simp;try with_reducible rfl
   try simp only[Act.put,sA,sB,sC]
   refine ZL 4 ?_;try simp only[Act.put,sA,sB,sC]
   refine ZL 5 ?_;try simp only[Act.put,sA,sB,sC]
   refine tkM [10,11] 6 (v:=?_) ?_ ?_
   rotate_left
   ·intro w hSw;try obtain⟨_,_⟩:=hSw
    go_simp;try with_reducible rfl
   try simp only[Act.put,sA,sB,sC]
   refine ZL 7 ?_;try simp only[Act.put,sA,sB,sC]
   refine ZL 8 ?_;try simp only[Act.put,sA,sB,sC]
   refine ZL 9 ?_;try simp only[Act.put,sA,sB,sC]
   refine Zx (i:=10) (by kernel_rfl) rfl (by kernel_rfl) (fun KK hK=>?_);go_simp;refine(HC.out).mono ?_;intro e w1 hP;have HP:Hid (ZkE wr.drew K Mk rb fb cb n wd sc ct bins size (Yx n wd sc sk (b[k].toNat:Int)) e w1):=hP
   have he:∃z:Int,e=.returned (.int .i64 z):=by
    unfold ZkE at hP
    cases ht:Yx n wd sc sk (b[k].toNat:Int) with
    |error z=>rw[ht] at hP;exact⟨z,hP.1⟩
    |ok s'=>rw[ht] at hP;exact⟨0,hP.1⟩
   obtain⟨z,rfl⟩:=he;clear hP;go_simp;refine hK.out _ _ ?_;clear hK KK;try simp only[Act.put,sA,sB,sC]
   refine Zx (i:=11) (by kernel_rfl) rfl (by kernel_rfl) (fun KK hK=>?_);go_simp;refine hK.out _ _ ?_;clear hK KK;try simp only[Act.put,sA,sB,sC]
   refine Zz (by kernel_rfl) ?_ _;have HKB:Hid ((Zb b).take (k+1)=(Zb b).take k++[(b[k].toNat:Int)]):=(by show _=_;rw[Qi (by unfold Zb;rw[List.length_map];exact hlt)];congr 2;simp only[Zb,List.getElem_map];rfl);have HRS:Hid (Zj n wd sc s ((Zb b).take (k+1)) len=match Yx n wd sc sk (b[k].toNat:Int) with|.error z=>.error (z,len+k)|.ok s'=>.ok s'):=(by show _=_;rw[HKB.out,Z0,HR.out];have hl:((Zb b).take k).length=k:=(by rw[List.length_take];unfold Zb;rw[List.length_map];exact Nat.min_eq_left hk);simp only[hl,Zj]);clear HC hHeld i0 i2 i3 t2;have hne:=HXk.out.ne
   cases hrt:Yx n wd sc sk (b[k].toNat:Int) with
   | error y=>
    rw[hrt] at HP HRS;have HPO:Hid (Value.int .i64 z=.int .i64 y/\Za Mk wr.drew w1):=⟨by have:=HP.out.1;injection this,HP.out.2⟩;obtain⟨hz,ht⟩:=HPO.out;injection hz with _ hz;subst hz;have hT1:Za Mk wr w1:=ht.undrew;have hi1:w1.heap[ib]? =some (.cells #[.pointer (some ⟨tb,0,none⟩),.bool false,.int .i64 0,.int .i64 0] 119 (0,0)):=hT1.at_ HXk.out.ik HXk.out.ni.2;have htx1:w1.heap[tb]? =some (.cells #[.slice (some ⟨fb,0,none⟩) n n,.int .i64 budget,.pointer (some ⟨rb,0,none⟩),.int .i64 ((len+k:Nat):Int)] 158 (0,0)):=hT1.at_ HXk.out.tx HXk.out.nt.2;have j0:w1.cell? ⟨ib,0,none⟩=some (.pointer (some ⟨tb,0,none⟩)):=cell_of_row _ _ 0 _ 119 (0,0) hi1;have j2:w1.cell? ⟨ib,2,none⟩=some (.int .i64 0):=cell_of_row _ _ 2 _ 119 (0,0) hi1
    have j3:w1.cell? ⟨ib,3,none⟩=some (.int .i64 0):=cell_of_row _ _ 3 _ 119 (0,0) hi1;have jf:∀o,w1.frozen? ⟨ib,o,none⟩=false:=fun o=>frozen_of_row _ _ o _ 119 hi1;have x3:w1.cell? ⟨tb,3,none⟩=some (.int .i64 ((len+k:Nat):Int)):=cell_of_row _ _ 3 _ 158 (0,0) htx1;have hfin:(((w1.setCell ⟨ib,2,none⟩ (.int .i64 z)).setCell ⟨ib,3,none⟩ (.int .i64 ((len+k:Nat):Int))).setCell ⟨ib,0,none⟩ (.pointer none)).heap[ib]? =some (.cells #[.pointer none,.bool false,.int .i64 z,.int .i64 ((len+k:Nat):Int)] 119 (0,0)):=heap_setCell_same _ ib 0 _ 119 _ (heap_setCell_same _ ib 3 _ 119 _ (heap_setCell_same w1 ib 2 _ 119 _ hi1))
    have HFIN:Hid (Zh0 w K M ib tb rb fb cb n wd sc ct bins size budget (len+b.size) (Zj n wd sc s (Zb b) len) (((w1.setCell ⟨ib,2,none⟩ (.int .i64 z)).setCell ⟨ib,3,none⟩ (.int .i64 ((len+k:Nat):Int))).setCell ⟨ib,0,none⟩ (.pointer none))):=by have e:Zj n wd sc s (Zb b) len=.error (z,len+k):=(by have:Zb b=(Zb b).take (k+1)++(Zb b).drop (k+1):=(List.take_append_drop _ _).symm;rw[this,Z0,HRS.out]);rw[e];refine⟨hfin,?_⟩;have t1:Za (fun q=>M q∨q=ib∨q=tb) w w1:=HT.out.2.trans2 hT1 (fun q hq=>by rcases HT.out.1 q hq with h1|h1;exact .inl (.inl h1);exact .inr h1);exact((t1.setCell (p:=⟨ib,2,none⟩) (fun _=>.inr (.inl rfl)) _).setCell (p:=⟨ib,3,none⟩) (fun _=>.inr (.inl rfl)) _).setCell (p:=⟨ib,0,none⟩) (fun _=>.inr (.inl rfl)) _
    have HZ:Hid (z=2∨z=3):=ZgX hrt;clear hrt HPO ht hT1 hi1 htx1 hfin HRS HP
    rcases HZ.out with rfl|rfl
    ·go_wp2;exact bodyPost_ret (results_none rfl _ _ _) rfl ⟨rfl,HFIN.out⟩
    go_wp2;exact bodyPost_ret (results_none rfl _ _ _) rfl ⟨rfl,HFIN.out⟩
   | ok s1=>
    rw[hrt] at HP HRS;have HPO:Hid (Value.int .i64 z=.int .i64 0/\Zh3 wr.drew K Mk rb fb cb n wd sc ct bins size s1 w1):=⟨by have:=HP.out.1;injection this,HP.out.2⟩;obtain⟨hz,⟨M1,hR1,hM1⟩,ht⟩:=HPO.out;injection hz with _ hz;subst hz;have hT1:Za Mk wr w1:=ht.undrew;have hi1:w1.heap[ib]? =some (.cells #[.pointer (some ⟨tb,0,none⟩),.bool false,.int .i64 0,.int .i64 0] 119 (0,0)):=hT1.at_ HXk.out.ik HXk.out.ni.2;have htx1:w1.heap[tb]? =some (.cells #[.slice (some ⟨fb,0,none⟩) n n,.int .i64 budget,.pointer (some ⟨rb,0,none⟩),.int .i64 ((len+k:Nat):Int)] 158 (0,0)):=hT1.at_ HXk.out.tx HXk.out.nt.2;have j0:w1.cell? ⟨ib,0,none⟩=some (.pointer (some ⟨tb,0,none⟩)):=cell_of_row _ _ 0 _ 119 (0,0) hi1;have x3:w1.cell? ⟨tb,3,none⟩=some (.int .i64 ((len+k:Nat):Int)):=cell_of_row _ _ 3 _ 158 (0,0) htx1
    have xf:∀o,w1.frozen? ⟨tb,o,none⟩=false:=fun o=>frozen_of_row _ _ o _ 158 htx1;have hib:ib<wr.heap.size:=(Qb HXk.out.ik).1;have htb:tb<wr.heap.size:=(Qb HXk.out.tx).1
    have ni1:¬M1 ib:=fun e=>by rcases hM1 ib e with h1|h1;exact HXk.out.ni.2 h1;exact absurd hib (by simpa using h1)
    have nt1:¬M1 tb:=fun e=>by rcases hM1 tb e with h1|h1;exact HXk.out.nt.2 h1;exact absurd htb (by simpa using h1)
    have HNX:Hid (InX (w1.setCell ⟨tb,3,none⟩ (.int .i64 (((len+k:Nat):Int)+1))) K M1 ib tb rb fb cb n wd sc ct bins size budget s1 (len+(k+1))):=by
     refine⟨(Below.heap_setCell _ _ _ _ (fun e=>hne e)).trans hi1,?_,hR1.touch ((Za.refl (fun q=>q=tb) w1).setCell (p:=⟨tb,3,none⟩) (fun _=>rfl) _) ?_,⟨HXk.out.ni.1,ni1⟩,⟨HXk.out.nt.1,nt1⟩⟩;have:=heap_setCell_same w1 tb 3 _ 158 (.int .i64 (((len+k:Nat):Int)+1)) htx1;rw[this];have:(((len+k:Nat):Int)+1)=((len+(k+1):Nat):Int):=(by omega);rw[this];rfl;intro q hq e;subst e
     rcases hq with h1|h1
     exact HXk.out.nt.1 h1;exact nt1 h1
    have HNT:Hid ((∀q,M1 q->M q∨w.heap.size<=q)/\Za (fun q=>M q∨q=ib∨q=tb) w (w1.setCell ⟨tb,3,none⟩ (.int .i64 (((len+k:Nat):Int)+1)))):=by
     refine⟨fun q hq=>?_,?_⟩
     ·rcases hM1 q hq with h1|h1
      exact HT.out.1 q h1;exact .inr (Nat.le_trans HT.out.2.size h1)
     exact(HT.out.2.trans2 hT1 (fun q hq=>by rcases HT.out.1 q hq with h1|h1;exact .inl (.inl h1);exact .inr h1)).setCell (p:=⟨tb,3,none⟩) (fun _=>.inr (.inr rfl)) _
    have hwr:IntKind.i64.wrap (((len+k:Nat):Int)+1)=((len+k:Nat):Int)+1:=ZD (by omega) (by omega);generalize ((len+k:Nat):Int)=lk at *;clear hrt HPO hR1 hM1 ht hT1 hi1 htx1 HP HXk HT ni1 nt1;go_wp2;go_roundw;case rel=>exact⟨k+1,s1,M1,by omega,by go_num,HRS.out,HNX.out,HNT.out⟩
    case measure=>simp[intOf];omega
  obtain rfl:k=b.size:=(by omega);have HE:Hid ((Zb b).take b.size=Zb b):=List.take_of_length_le (by unfold Zb;rw[List.length_map];exact Qa _);go_wp2;go_end0;refine⟨rfl,?_,HT.out.2⟩;rw[<- HE.out,HR.out];exact⟨Mk,HXk.out,HT.out.1⟩
end
end Go.Proofs.YtfcgnpchbcmdeaaGreat
