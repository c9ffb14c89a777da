import Derived.Test.YtfcgnpchbcmdeaaGreatZobr
namespace Go.Proofs.YtfcgnpchbcmdeaaGreat
set_option linter.all false
open Go.RowKit List Nat World Go.Proofs.Tryz Value IntKind Lib Region
def de(d:List Bool)(c:List Nat):List Bool:=c.foldl (λa b=>a.set b true) d
def Zar(c:List Bool)(b:List Nat)(a:Nat):de c (b++[a])=(de c b).set a true:=by simp[de]
theorem vn(b:List Bool):∀a:List Nat,(de b a).length=b.length:=λa=>by
 unfold de
 induction a generalizing b with
 |nil=>rfl
 |cons c a d=>grind
theorem Tn{b:Nat}:∀{a:List Nat} {inn:List Bool},b ∉ a->(de inn a).getD b false=inn.getD b false
 |[],inn,_=>rfl
 |d::a,inn,e=>by have c:de inn (d::a)=de (inn.set d _) a:=rfl;rw[c,Tn (λf=>e (mem_cons_of_mem _ f)),Qc,Qc,getElem?_set_ne (show d≠b from λc=>e (c ▸ (mem_cons_self ..)))]
def Zop{c g:List Int}{a:List Nat}{K:Nat}{e:List Bool}{d:Cu}(r:Kn c d (Rv a++g))(hK:K<=256)(n:∀b∈a,b<K)(u:a.Nodup)(o:∀b∈a,e.getD b false=false):(Hh (zu c K) (d,e,[]) a.length).2=(de e a,a)/\Kn c (Hh (zu c K) (d,e,[]) a.length).1 g:=by
 have l:Kn c d (a.flatMap (λb=>[((b:Nat):Int)%256])++g):=by
  have f:Rv a=a.flatMap (λb=>[((b:Nat):Int)%256]):=by unfold Rv;rw[map_eq_flatMap]
  grind
 have i:=Kn.a (f:=zu c K) (A:=λf=>(de _ _,a.take f)) l (λf h d q m=>by
  have s:=n _ (Qf h);have⟨j,k⟩:=Kn.num (most:=(K:Int)-1) m O O
  have p:a[f] ∉ a.take f:=λt=>by grind [getElem_of_mem,getElem_inj]
  unfold zu;simp only;rw[j,Tn p,o _ (Qf h),aC C,Qi h,Zar]
  exact⟨rfl,k⟩) _ x_
 simp only[take_length,drop_length,flatMap_nil,nil_append,take_zero] at i;exact i
theorem Zal(c:List KS):∀(b:List Nat) (d:Nat),Ia c (An b) (d:Int)=true->dfB c (Yn c b d)=false
 |[],d,a=>by simp[An,Ia] at a
 | e ::b,d,a=>by
  have f:An (e::b)=(e:Int)::An b:=rfl;rw[f] at a;simp only[Ia,Int.toNat_natCast,Og,decide_eq_true_eq] at a;have g:(c.getD e Ai).a=_+2:=rfl;simp only[Yn];split at a
  ·rw[aD O];unfold Vv at a;simp only[dfB]
   grind
  rw[aC O];apply Zal _ _ _
  grind
def Zok{f e:List Int}{d:Nat}{b:List KS}{a:BS}{inn:List Bool}{Fs Cs:List (List Nat)}{h:Cu}(k:Kn f h (Dm a++e))(c:BRt b d a)(r:d<=200)(hK:b.length<=4)(z:a.fs.length<=b.length)(s:a.fs.Nodup)(q:∀n∈a.fs,inn.getD n false=false):(ep f d b (h,inn,Fs,Cs)).2=(de inn a.fs,Fs++[a.fs],Cs++[a.N])/\Kn f (ep f d b (h,inn,Fs,Cs)).1 e:=by
 have m:Dm a++e=((a.fs.length:Nat):Int)%256::(Rv a.fs++(Hr a.N a.g++e)):=(by unfold Dm;simp);rw[m] at k;have A:=c.i;have y:=c.o;have⟨v,u⟩:=k.num (most:=(b.length:Int)) O O;have⟨w,l⟩:=Zop u O c.n s q;have⟨x,j⟩:=ZoK l r c.len c.le O
 have p:((range d).any λg=>dfB b (Nj b a.fs (a.N.getD g 0)))=false:=by
  rw[any_eq_false];intro g t;have D:=mem_range.1 t;have B:=c.len;have i:=c.h;unfold Dt at i;simp only[all_eq_true,Bool.or_eq_true,decide_eq_true_eq] at i;have E:=i (a.N.getD g 0) w_;unfold Nj
  by_cases o:a.N.getD g 0=0
  rw[aD o];exact Bool.false_ne_true
  grind [Zal]
 unfold ep;simp only;rw[v,w];simp only;rw[<- c.sum,aC (show ¬(a.fs.length=0∨40<a.g) by omega),aC (by rw[l.z];decide),x,Fu,p,Bool.or_false];exact⟨rfl,j.z,j.k,j.t⟩
def riB(a:List XS)(x:XS):Bool:=decide (a=[]∨(a.getD (a.length-1) Di).row<x.row∨(a.getD (a.length-1) Di).row=x.row/\(a.getD (a.length-1) Di).f<x.f)
def xcB(a:List KS)(c b:List (List Nat))(d:List XS)(x:XS):Bool:=(goR a c b x.row x.f&&riB d x)&&(decide (x.i<(a.getD x.f Ai).e.g.length+(a.getD x.f Ai).e.c.length+2)&&!decide (x.i=(a.getD x.f Ai).d))
def xcR(a:List Int)(b:Cu):Cu×XS:=((Cv a 255 (Cv a 255 (Cv a 255 b).1).1).1,⟨(Cv a 255 b).2,(Cv a 255 (Cv a 255 b).1).2,(Cv a 255 (Cv a 255 (Cv a 255 b).1).1).2⟩)
def xcS(b:List Int)(f:Nat)(c:List KS)(e d:List (List Nat))(a:Cu×List XS):Cu×List XS:=
 if(xcR b a.1).1.z=true∨f<=(xcR b a.1).2.row∨c.length<=(xcR b a.1).2.f then(⟨(xcR b a.1).1.k,true⟩,a.2)
 else(if xcB c e d a.2 (xcR b a.1).2=true then(xcR b a.1).1 else⟨(xcR b a.1).1.k,true⟩,a.2++[(xcR b a.1).2])
def xcC(a:List Int)(f:Nat)(e:List KS)(d c:List (List Nat))(b:Cu):Cu×List XS:=Hh (xcS a f e d c) ((La a 2 b).1,[]) (Ys (La a 2 b).2)
structure cv(h a:World)(d e j:Nat)(m k l g:Value)(b:ByteArray)(c:Cu)(i:List XS):Prop where
 w:Oj a d b c
 D:c.k<=b.size
 v:Nh a e j m k l g
 q:Wl a h.1.size 231 3 g (i.map Ct)
 u:Aa (λf=>f=d∨f=e) h a
section
variable {w W b:World} {base cb db n:Nat} {vF vB vC vX v':Value} {kvs:List (Value×Value)} {bvs cvs:List Value} {Ks:List KS} {Fs Cs:List (List Nat)} {S:ByteArray} {c d:Cu} {a:List XS}
def cv.F(h:cv w W cb db n vF vB vC vX S c a)(e:cj w base db n vF vB vC Dd kvs bvs cvs Ks Fs Cs)(l:∃k,w.1[cb]? =some (O_ k 288)):cj W base db n vF vB vC vX kvs bvs cvs Ks Fs Cs:=by
 have j:∀b f d,w.1[b]? =some (O_ f d)->d≠288->d≠142->¬(b=cb∨b=db):=λb f d g o p i=>by
  obtain⟨m,q⟩:=l;have r:=e.v
  grind [Nh]
 exact⟨h.v,e.z.p h.u (λb f d g i _=>j b f d g O O),e.r.p h.u (λb f d g i _=>j b _ d g O O),e.co.p h.u (λb f d g i _=>j b _ d g O O),e.B,e.x,e.y⟩
def cv.call(e:cv w W cb db n vF vB vC vX S c a)(i:Oj b cb S d)(j:d.k<=S.size)(g:Aa (λh=>h=cb) W b):cv w b cb db n vF vB vC vX S d a:=
 ⟨i,j,g.g e.v (λf=>e.v.o e.w C f.s),e.q.p g (λh k f=>Ah e.q.row k e.w C f),e.u.T (g.m (λ_ _ f=>.inl f))⟩
def cv.g(b:cv w W cb db n vF vB vC vX S c a):=b.call b.w.g.1 b.D b.w.g.2
def cv.below(d:cv w W cb db n vF vB vC vX S c a)(e:E_ W b):=d.call (d.w.below e) d.D (.a e)
def cv.cells(b:cv w W cb db n vF vB vC vX S c a):W.cell? (J cb 2)=some (.bool c.z)/\W.frozen? (J cb 2)=false/\W.cell? (J db 0)=some (I n)/\W.cell? (J db 1)=some vF/\W.cell? (J db 4)=some vX/\W.frozen? (J db 4)=false:=⟨n_ 2 b.w,R_ 2 _ _ b.w,n_ 0 b.v,n_ 1 b.v,n_ 4 b.v,R_ 4 _ _ b.v⟩
def cv.E{x:XS}(e:cv w W cb db n vF vB vC vX S c a)(j:W.grownBy b vX.ownBlock)(i:b.ownsRow w.1.size 231 3 v' (a.length+1) ((a.map Ct).flatten++Ct x)):cv w (b.setCell (J db 4) v') cb db n vF vB vC v' S c (a++[x])/\Nh b db n vF vB vC vX:=by
 have f:=Kt (i:=4) e.v e.q.row j i C;have l:Nh _ _ n _ _ _ _:=f.1;have k:_≠_:=λd=>e.v.o e.w C d;have g:=e.q.E (x:=Ct x) (by rw[length_map];exact i) rfl;have o:Aa _ _ (b.setCell _ v'):=(Aa.refl (λh=>h=db) _).setCell (p:=(J _ 4)) (λ_=>rfl) _;refine⟨⟨f.2.2.2.g e.w (λd=>?_),e.D,f.2.1,?_,?_⟩,l⟩
 ·rcases d with d|d
  exact k d;exact Ah e.q.row d e.w C rfl
 rw[map_append];exact g.p o (λh m d=>by obtain⟨p,q⟩:=Ac g.row m;grind);exact e.u.c f.2.2.2 λh d=>d.elim (λd=>.inl (.inr d)) λd=>.inr (B_ e.q.row h d).1
end
def Zls{a:Nat}(b:a<65536):Ys (Ay (a:Nat) 2)=a:=by simp only[Ay,Sy,nil_append,cons_append,Ys];omega
def ZoN{d i:List Int}{f:Nat}{c:List KS}{h g:List (List Nat)}{a:List XS}{e:Cu}(v:Kn d e (Ay (a.length:Nat) 2++(a.flatMap xB++i)))(E:a.length<=800)(z:Gl a)(y:∀x∈a,x.row<f/\x.f<c.length/\x.i<256/\goR c h g x.row x.f=true/\x.i<(c.getD x.f Ai).e.g.length+(c.getD x.f Ai).e.c.length+2/\x.i≠(c.getD x.f Ai).d)(F:f<=200)(hK:c.length<=4):(xcC d f c h g e).2=a/\Kn d (xcC d f c h g e).1 i:=by
 have⟨B,A⟩:=v.take (Dv _ 2)
 have k:=Kn.a (f:=xcS d f c h g) (A:=λb=>a.take b) A (λb l e m w=>by
  have⟨H,L,M,N,P,Q⟩:=y _ (Qf l);have⟨o,n⟩:=Kn.num (most:=255) w O O;have⟨q,p⟩:=Kn.num (most:=255) n O O;have⟨s,r⟩:=Kn.num (most:=255) p O O;have u:(xcR d e).2=a[b]:=(by unfold xcR;simp only;rw[o,q,s]);have j:Kn d (xcR d e).1 m:=r
  have G:riB (a.take b) a[b]=true:=by
   unfold riB;rw[decide_eq_true_eq]
   by_cases D:b=0
   ·grind
   right;have t:(a.take b).getD ((a.take b).length-1) Di=a[b-1]:=w_;rw[t];exact pairwise_iff_getElem.1 z _ b O _ O
  unfold xcS;simp only;rw[u,j.z,aC t_,aD (by unfold xcB;grind)]
  exact⟨by rw[Qi l],j⟩) a.length x_
 simp only[take_length,drop_length,flatMap_nil,nil_append,take_zero] at k;unfold xcC;rw[B,Zls O];exact k
def Zkm{b:List KS}(e:List Nat):∀(a:List Nat) (d:Nat),(a++e).Nodup->(a.any λc=>decide ((c:Int)=(pi (Yn b (a++e) d)).1))=decide (d<Bj b a)
 |[],d,_=>by simp[Bj]
 | c ::a,d,g=>by
  have f:Bj b (c::a)=(b.getD c Ai).a+Bj b a:=(by simp[Bj]);rw[cons_append,nodup_cons] at g;rw[f,any_cons];simp only[cons_append,Yn]
  by_cases j:d<(b.getD c Ai).a
  ·grind [pi]
  have h:decide ((c:Int)=(pi (Yn b (a++e) (d-(b.getD c Ai).a))).1)=false:=by
   cases i:Yn b (a++e) (d-(b.getD c Ai).a) with
   |none=>simp[pi]
   | some l=>
    have k:=yg _ i;exact aE λf=>g.1 (by simp only[pi] at f;grind)
  rw[aC j,h,Zkm e a _ g.2,Bool.false_or]
  grind
def ZaB{g:Int}{c:Nat}:∀{b:List Nat} {e:Bool},c ∉ b->goF g c b e=none
 |[],_,_=>rfl
 |f::b,e,d=>by simp only[goF];rw[aC (show ¬f=c from λa=>d (a ▸ (mem_cons_self ..)))];exact ZaB λa=>d (mem_cons_of_mem _ a)
def ZeV{g:Int}{c:Nat}(f:List Nat):∀{a:List Nat} {b:Bool},c ∉ a->goF g c (a++c::f) b=some (b||a.any λe=>decide ((e:Int)=g))
 |[],b,_=>by simp[goF]
 |e::a,b,h=>by simp only[cons_append,goF];rw[aC (show ¬e=c from λd=>h (d ▸ (mem_cons_self ..))),ZeV f (λd=>h (mem_cons_of_mem _ d)),any_cons,Bool.or_assoc]
def Zi2{d:Nat->Option Bool}{f:Nat}{h:Bool}:∀(a b:List Nat),(∀c∈a,d c=none)->d f=some h->goL d (a++f::b)=h
 |[],b,_,e=>by simp[goL,e]
 |c::a,b,g,e=>by simp only[cons_append,goL];rw[g c (mem_cons_self ..),Option.getD_none];exact Zi2 a b (λi j=>g i (mem_cons_of_mem _ j)) e
def Znh{Ks:List KS}{a Cs:List (List Nat)}{b xr e:Nat}{c f:List Nat}(o:b<a.length)(i:a.getD b []=c++e::f)(n:∀d,d<b->e ∉ a.getD d [])(j:(c++e::f).Nodup):goR Ks a Cs xr e=(decide (0<(Cs.getD b []).getD xr 0)&&decide ((Cs.getD b []).getD xr 0<=Bj Ks c)):=by
 unfold goR;have k:range a.length=range b++b::(range' (b+1) (a.length-b-1)):=(by rw[range_eq_range',range_eq_range',<- range'_succ,<- show b+(a.length-b-1+1)=a.length by omega,<- range'_append_1];congr 2<;>omega);have m:_ ∉ c:=λl=>(nodup_append.1 j).2.2 _ l _ (mem_cons_self ..) rfl;rw[k];apply Zi2 _ _ (λd g=>ZaB (n d (mem_range.1 g)));rw[i,ZeV f m,Bool.false_or];congr 1;unfold Gn Nj;rw[i];generalize (Cs.getD b []).getD xr 0=h
 by_cases g:h=0
 rw[aD g,g];simp[pi];rw[aC g,Zkm _ _ _ j,aF (show 0<h by omega),Bool.true_and]
 grind
def Zfq{D:Ga}(h:(D.g.flatMap (·.fs)).Perm (range D.h.length)){b:Nat}(k:b<D.h.length):∃a,∃f:a<D.g.length,∃e g,D.g[a].fs=e++b::g/\(e++b::g).Nodup/\Da D b=a/\Ll D a (Iq D b)=1+Bj D.h e/\∀d (l:d<D.g.length),d≠a->b ∉ D.g[d].fs:=by
 obtain⟨c,q,r⟩:∃c∈D.g,b∈c.fs:=by
  have:b∈D.g.flatMap (·.fs):=h.mem_iff.2 (mem_range.2 k)
  simpa using this
 obtain⟨a,f⟩:∃a,D.g.findIdx (λc=>decide (b∈c.fs))=a:=⟨_,rfl⟩;have m:a<D.g.length:=w_
 have n:b∈D.g[a].fs:=w_;have i:D.g.getD a Db=D.g[a]:=w_;have u:=idxOf_lt_length_of_mem n;have j:D.g[a].fs=D.g[a].fs.take (D.g[a].fs.idxOf b)++b::D.g[a].fs.drop (D.g[a].fs.idxOf b+1):=(by grind [take_append_drop,drop_eq_getElem_cons]);have⟨o,p⟩:=pairwise_flatMap.1 (h.nodup_iff.2 nodup_range);refine⟨a,m,_,_,j,w_,f,?_,λd l t s=>?_⟩;have:Da D b=a:=f;unfold Iq Ll;rw[this,i]
 grind [pairwise_iff_getElem]
def Zx{d:Type}{a:List BS}(c:BS->List d){b:Nat}(e:b<a.length):(a.map c).getD b []=c a[b]:=w_
def sx{d:Nat}{a:List KS}{b:List BS}(m:∀g∈b,BRt a d g)(o:(b.flatMap (·.fs)).Perm (range a.length)){x:XS}(p:x.f<a.length):Ff ⟨a,b,[]⟩ d x=(decide (x.row<d)&&(decide (x.f<a.length)&&(Vv (a.getD x.f Ai).e (a.getD x.f Ai).d (x.i:Nat)&&goR a (b.map (·.fs)) (b.map (·.N)) x.row x.f))):=by
 have⟨c,f,q,r,i,j,k,l,s⟩:=Zfq (D:=⟨a,b,[]⟩) o p;have e:=m _ (Qf f);have n:=Znh (Ks:=a) (Cs:=b.map (·.N)) (xr:=x.row) (b:=c) w_ ((Zx _ _).T i) (λh t=>w_) j;rw[n,Zx _ f];unfold Ff Zgw;rw[k,l];have h:(⟨a,b,[]⟩:Ga).g.getD c Db=b[c]:=w_;rw[h,Zcs e.le (p_ e.i)]
 grind
def Pt{h:Type}{f:Cu×h->Cu×h}{s:Cu×h}(d:Nat->Cu×h->Prop)(i:s.1.z=false->d 0 s):∀a,(∀e c,e<a->c.1.z=false->d e c->(f c).1.z=false->d (e+1) (f c))->(Hh f s a).1.z=false->d a (Hh f s a)/\s.1.z=false
 |0,_,b=>⟨i b,b⟩
 | a +1,j,b=>by
  cases g:(Hh f s a).1.z with
  |true=>rw[Xk g (le_succ a),g] at b;cases b
  | false=>
   have l:=Pt d i a (λe c k=>j e c O) g;rw[Kv g] at b ⊢
   grind
theorem Zkq{l:List Int}{n:Nat}{c:Cu}(a:(La l n c).1.z=false):c.z=false:=by
 unfold La at a
 grind
def Uy{l:List Int}{m:Int}{c:Cu}(a:(Cv l m c).1.z=false):c.z=false/\((Cv l m c).2:Int)<=m:=by grind [Cv,Zkq]
theorem Zed{a:List ByteArray}{b:ByteArray}(c:Df a=true)(e:Ei b=true)(f:containsS a b=false):Df (a++[b])=true:=by
 unfold Df at c ⊢;rw[Qe,length_singleton,ej];have d:Ij (a++[b]) a.length=Ij a a.length:=by grind [Ij]
 grind
def Zg3{a:List Int}{d:Int}(b:Re a=true)(g:¬(a≠[]/\d<=a.getD (a.length-1) 0)):Re (a++[d])=true:=by
 unfold Re Rf at b ⊢;simp only[all_eq_true,decide_eq_true_eq,mem_range] at b ⊢;intro c e;rw[Qe,length_singleton] at e
 by_cases f:c+1<a.length
 ·have:=b c O
  grind
 grind
def Znf{a:List Int}{d:Cu}(A:∀t∈a,0<=t/\t<256)(i:(gu a d).1.z=false):KRt (gu a d).2/\d.z=false:=by
 unfold gu at i ⊢;simp only at i ⊢;have D:=Zkq (l:=a) (n:=1) (c:=d);have N:decide ((La a 1 d).2=[119])=true->(La a 1 d).2≠[110]:=w_;generalize La a 1 d=r at *;have E:=Uy (l:=a) (m:=255) (c:=r.1);generalize Cv a 255 r.1=v at *;have F:=Uy (l:=a) (m:=16) (c:=v.1);generalize Cv a 16 v.1=m at *;generalize decide (r.2=[119])=h at *;split at i
 ·rename_i B
  have⟨o,x⟩:=Pt (f:=ftS a) (s:=(m.1,⟨h,[],[]⟩)) (λq b=>b.2.a=h/\(h=true->b.2.g=[]/\b.2.c.length=q/\Df b.2.c=true)/\(h=false->b.2.c=[]/\b.2.g.length=q/\Re b.2.g=true/\∀e∈b.2.g,-2147483648<=e/\e<=2147483647)) (λ_=>⟨rfl,λ_=>⟨rfl,rfl,rfl⟩,λ_=>⟨rfl,rfl,rfl,s_⟩⟩) m.2 (λq b M c o g=>by
   obtain⟨k,s,l⟩:=o;unfold ftS at g ⊢
   cases h with
   | true=>
    grind [ftW,Zed]
   | false=>
    rw[k,aC C] at g ⊢;have⟨p,u,f,j⟩:=l rfl;unfold ftN at g ⊢;simp only at g ⊢;split at g
    ·cases g
    rename_i w;refine⟨trivial,λn=>(by cases n),λ_=>⟨p,w_,Zg3 f w,λe c=>?_⟩⟩
    rcases mem_append.1 c with c|c
    exact j e c;have:=Zr _ (Nc A 4 b.1)
    grind [Ib,sgR]) i
  have y:=F x;have z:=E y.1;refine⟨?_,D z.1⟩;generalize Hh (ftS a) (m.1,⟨h,[],[]⟩) m.2=G at *;obtain⟨L,n,w,H⟩:=G;obtain⟨k,s,l⟩:=o;simp only at k s l B ⊢;subst k
  cases n with
  | true=>
   obtain⟨rfl,u,f⟩:=s rfl;have p:(⟨true,[],_⟩:ES).b=H.length:=rfl;refine⟨⟨.inr ⟨rfl,rfl,w_,pd f⟩,w_,?_,?_⟩,λe c=>by cases c⟩;unfold Zy;rw[p,aF O,f];rfl
   grind
  | false=>
   obtain⟨rfl,u,f,j⟩:=l rfl;have p:(⟨false,_,[]⟩:ES).b=w.length:=rfl;refine⟨⟨.inl ⟨rfl,rfl,w_,λe c=>p_ (j e c)⟩,w_,?_,?_⟩,j⟩;unfold Zy;rw[p,aF O,f];rfl
   grind
 cases i
def fsC(b:List Int)(a:Cu×List KS):Cu×List KS:=((gu b a.1).1,a.2++[(gu b a.1).2])
def Znd{b:List Int}{a:Cu}(j:∀f∈b,0<=f/\f<256){c:Nat}(i:(Hh (fsC b) (a,[]) c).1.z=false):((Hh (fsC b) (a,[]) c).2.length=c/\∀K∈(Hh (fsC b) (a,[]) c).2,KRt K)/\a.z=false:=
 Pt (f:=fsC b) (s:=(a,[])) (λh e=>e.2.length=h/\∀K∈e.2,KRt K) (λ_=>⟨rfl,s_⟩) c (λh e _ _ g k=>⟨by simp[fsC,g.1],λK hK=>by
  rcases mem_append.1 hK with d|d
  exact g.2 K d
  rw[mem_singleton.1 d];exact(Znf j k).1⟩) i
def vm{b:Nat}:∀{a:List Nat} {inn:List Bool},b∈a->b<inn.length->(de inn a).getD b false=true
 | c::a,inn,g,f=>by
  have e:de inn (c::a)=de (inn.set c _) a:=rfl;rw[e]
  by_cases d:b∈a
  exact vm d (by simpa using f);rw[Tn d]
  grind
theorem ZbJ(a:List KS):∀(b:List Nat) (d:Nat),d<Bj a b->dfB a (Yn a b d)=false->Ia a (An b) (d:Int)=true
 |[],d,f,_=>by simp[Bj] at f
 | c ::b,d,f,e=>by
  have g:An (c::b)=(c:Int)::An b:=rfl;have h:Bj a (c::b)=(a.getD c Ai).a+Bj a b:=(by simp[Bj]);have i:(a.getD c Ai).a=_+2:=rfl;rw[g];simp only[Ia,Int.toNat_natCast,Og,decide_eq_true_eq];simp only[Yn] at e;split at e
  ·rw[aD O];simp only[dfB] at e;unfold Vv Og
   grind
  rw[aC O];have:=ZbJ a b _ O e
  grind
def ZmV{l:List Int}{K m:Nat}{a:List Bool}{c:Cu}(n:a.length=K)(i:(Hh (zu l K) (c,a,[]) m).1.z=false):((Hh (zu l K) (c,a,[]) m).2.2.length=m/\(Hh (zu l K) (c,a,[]) m).2.1=de a (Hh (zu l K) (c,a,[]) m).2.2/\(Hh (zu l K) (c,a,[]) m).2.2.Nodup/\∀d∈(Hh (zu l K) (c,a,[]) m).2.2,d<K/\a.getD d false=false)/\c.z=false:=
 Pt (f:=zu l K) (s:=(c,a,[])) (λg b=>b.2.2.length=g/\b.2.1=de a b.2.2/\b.2.2.Nodup/\∀d∈b.2.2,d<K/\a.getD d false=false) (λ_=>⟨rfl,rfl,s_,s_⟩) m (λg b _ _ j e=>by
  obtain⟨o,h,s,p⟩:=j;unfold zu at e ⊢;simp only at e ⊢;split at e
  ·cases e
  rename_i k;have r:=Uy e;generalize Cv l ((K:Int)-1) b.1=t at *;have q:_ ∉ _:=λf=>k (by rw[h];exact vm f (n ▸ (p _ f).1));refine⟨by simp[o],by rw[Zar,h],?_,λd e=>?_⟩
  ·grind
  grind [Tn]) i
def ZmU{d:List Int}{h:Nat}{a:List KS}{b:Cu×List Bool×List (List Nat)×List (List Nat)}(t:∀c∈d,0<=c/\c<256)(v:b.2.1.length=a.length)(hK:a.length<=4)(f:(ep d h a b).1.z=false):∃c:BS,BRt a h c/\(ep d h a b).2=(de b.2.1 c.fs,b.2.2.1++[c.fs],b.2.2.2++[c.N])/\c.fs.Nodup/\∀g∈c.fs,b.2.1.getD g false=false:=by
 unfold ep at f ⊢;simp only at f ⊢;have E:=Uy (l:=d) (m:=a.length) (c:=b.1);generalize Cv d (a.length:Int) b.1=i at *;have x:=ZmV (l:=d) (m:=i.2) (c:=i.1) v;generalize Hh (zu d a.length) (i.1,b.2.1,[]) i.2=e at *
 by_cases u:i.2=0∨40<Bj a e.2.2
 ·grind
 simp only[aC u] at f ⊢
 cases o:e.1.z with
 |true=>grind
 | false=>
  simp only[o,Bool.false_eq_true,if_false] at f ⊢;have⟨⟨F,z,A,p⟩,G⟩:=x o;have⟨B,H⟩:=Zkt t h (Bj a e.2.2) e.1;generalize vaC d h (Bj a e.2.2) e.1=q at *;rw[Bool.or_eq_false_iff,any_eq_false] at f;have m:∀j∈q.2.map Int.toNat,j<=Bj a e.2.2:=w_;refine⟨⟨e.2.2,q.2.map _,Bj _ _⟩,⟨by simpa using B,m,w_,w_,w_,λg k=>(p g k).1,rfl,?_⟩,by rw[z],A,λg k=>(p g k).2⟩;unfold Dt;rw[all_eq_true];intro j n;have⟨y,w,r⟩:=aM n;have l:=f.2 y (mem_range.2 w_);rw[Qc,Qd w,Option.getD_some,r] at l;have D:=m j n;unfold Nj at l
  by_cases s:j=0
  simp[s]
  grind [ZbJ]
def Zk6{f:List Int}{d g:Nat}{b:List KS}{e:Cu}(v:∀c∈f,0<=c/\c<256)(hK:b.length<=4)(r:(Hh (ep f d b) (e,replicate b.length false,[],[]) g).1.z=false):(∃a:List BS,a.length=g/\(Hh (ep f d b) (e,replicate b.length false,[],[]) g).2=(de (replicate b.length false) (a.flatMap (·.fs)),a.map (·.fs),a.map (·.N))/\(∀c∈a,BRt b d c)/\(a.flatMap (·.fs)).Nodup)/\e.z=false:=
 Pt (f:=ep f d b) (s:=(e,replicate b.length false,[],[])) (λm o=>∃a:List BS,a.length=m/\o.2=(de (replicate b.length false) (a.flatMap (·.fs)),a.map (·.fs),a.map (·.N))/\(∀c∈a,BRt b d c)/\(a.flatMap (·.fs)).Nodup) (λ_=>⟨[],rfl,rfl,s_,s_⟩) g (λm o _ _ t w=>by
  obtain⟨a,z,n,A,B⟩:=t;have⟨c,E,i,s,j⟩:=ZmU v (by rw[n];simp[vn]) hK w;rw[n] at i j;refine⟨a++[c],by simp[z],by rw[i];simp[de],λp l=>?_,?_⟩
  ·grind
  rw[flatMap_append,flatMap_singleton,nodup_append];refine⟨B,s,λh k p l q=>?_⟩;have x:h<b.length:=(by have⟨D,y,u⟩:=mem_flatMap.1 k;exact(A D y).n h u);have:=j p l;rw[<- q,vm k (by simpa using x)] at this
  cases this) r
def ZlW{K:Nat}{a:List Nat}(e:a.Nodup)(d:∀b∈a,b<K)(f:(de (replicate K false) a).all id=true):a.Perm (range K):=by
 rw[perm_ext_iff_of_nodup e nodup_range];intro b;rw[mem_range];refine⟨d b,λh=>?_⟩
 by_cases c:b∈a
 exact c;have g:=Tn (inn:=replicate K false) c
 grind [vn,Qf]
def Zd0{a:List XS}{n:Nat}(g:Gl a)(b:∀x∈a,x.row<n/\x.f<4):a.length<=4*n:=by
 have i:∀(a:List XS) (c:Nat),Gl a->(∀x∈a,x.row<n/\x.f<4/\c<=4*x.row+x.f)->a.length<=4*n-c:=λa=>by
  induction a with
  |nil=>simp
  | cons f a h=>
   intro c e b;have j:=b f (mem_cons_self ..);unfold Gl at e;rw[pairwise_cons] at e;have:=h (4*f.row+f.f+1) e.2 (λx d=>w_)
   grind
 have:=i a 0 g (λx d=>⟨(b x d).1,(b x d).2,r_⟩);omega
def ZnU{g:List Int}{e:Nat}{b:List KS}{d c:List (List Nat)}{f:Cu}(i:(xcC g e b d c f).1.z=false):(Gl (xcC g e b d c f).2/\∀a∈(xcC g e b d c f).2,a.row<e/\a.f<b.length/\goR b d c a.row a.f=true/\a.i<(b.getD a.f Ai).e.g.length+(b.getD a.f Ai).e.c.length+2/\a.i≠(b.getD a.f Ai).d)/\f.z=false:=by have⟨j,k⟩:=Pt (f:=xcS g e b d c) (s:=((La g 2 f).1,[])) (λ_ h=>Gl h.2/\∀a∈h.2,a.row<e/\a.f<b.length/\goR b d c a.row a.f=true/\a.i<(b.getD a.f Ai).e.g.length+(b.getD a.f Ai).e.c.length+2/\a.i≠(b.getD a.f Ai).d) (λ_=>⟨Pairwise.nil,s_⟩) _ (λm h _ _ a l=>by grind [xcS,xcB,riB,ea]) i;exact⟨j,Zkq k⟩
section
variable (a:List Int)
def opM:Cu×List Int:=La a 2 ⟨0,false⟩
def xf:Cu×Nat:=Cv a 200 (opM a).1
def opK:Cu×Nat:=Cv a 4 (xf a).1
def Rl:Cu×List KS:=Hh (fsC a) ((opK a).1,[]) (opK a).2
def opB:Cu×Nat:=Cv a 255 (Rl a).1
def opG:Cu×List Bool×List (List Nat)×List (List Nat):=Hh (ep a (xf a).2 (Rl a).2) ((opB a).1,replicate (opK a).2 false,[],[]) (opB a).2
def opC:Cu:=if(opG a).2.1.all id=true then(opG a).1 else⟨(opG a).1.k,true⟩
def opX:Cu×List XS:=xcC a (xf a).2 (Rl a).2 (opG a).2.2.1 (opG a).2.2.2 (opC a)
end
def gz{a:List Int}(h:∀b∈a,0<=b/\b<256)(d:(Rl a).1.z=false):(xf a).2<=200/\(Rl a).2.length=(opK a).2/\(opK a).2<=4/\∀K∈(Rl a).2,KRt K:=by have⟨⟨e,f⟩,g⟩:=Znd h d;have c:=Uy g;have:((opK a).2:Int)<=4:=c.2;have:((xf a).2:Int)<=200:=(Uy c.1).2;exact⟨O,e,O,f⟩
def ZjD{a:List Int}(e:∀c∈a,0<=c/\c<256){m:Nat}(f:(Rl a).1.z=false)(d:(Hh (ep a (xf a).2 (Rl a).2) ((opB a).1,replicate (opK a).2 false,[],[]) m).1.z=false):∃b:List BS,b.length=m/\(Hh (ep a (xf a).2 (Rl a).2) ((opB a).1,replicate (opK a).2 false,[],[]) m).2=(de (replicate (Rl a).2.length false) (b.flatMap (·.fs)),b.map (·.fs),b.map (·.N))/\(∀c∈b,BRt (Rl a).2 (xf a).2 c)/\(b.flatMap (·.fs)).Nodup:=by have g:=gz e f;rw[<- g.2.1] at d ⊢;exact(Zk6 e O d).1
def ZmI{a:List Int}(e:∀d∈a,0<=d/\d<256)(v:(opK a).2≠0)(g:(opC a).z=false):∃c:List BS,(opG a).2.2=(c.map (·.fs),c.map (·.N))/\(∀f,Gl f->(∀b∈f,Ff ⟨(Rl a).2,c,[]⟩ (xf a).2 b=true)->DRt (xf a).2 ⟨(Rl a).2,c,f⟩ f)/\∀b:XS,b.f<(Rl a).2.length->Ff ⟨(Rl a).2,c,[]⟩ (xf a).2 b=(decide (b.row<(xf a).2)&&(decide (b.f<(Rl a).2.length)&&(Vv ((Rl a).2.getD b.f Ai).e ((Rl a).2.getD b.f Ai).d (b.i:Nat)&&goR (Rl a).2 (opG a).2.2.1 (opG a).2.2.2 b.row b.f))):=by
 unfold opC at g;split at g
 ·rename_i x;have l:(Rl a).1.z=false:=(by have:=(Pt (f:=ep a (xf a).2 (Rl a).2) (λ_ _=>True) (λ_=>trivial) _ (λ_ _ _ _ _ _=>trivial) g).2;exact(Uy this).1);have⟨c,w,o,h,p⟩:=ZjD e l g;have k:(opG a).2=_:=o;have⟨u,z,y,r⟩:=gz e l
  have i:=ZlW (K:=(Rl a).2.length) p (λf j=>by
   have⟨d,e,m⟩:=mem_flatMap.1 j
   exact(h d e).n f m) w_
  have s:=ZeO λd e=>(h d e).o;rw[i.length_eq,length_range] at s
  have q:0<c.length:=by
   have:0∈c.flatMap (·.fs):=i.mem_iff.2 (mem_range.2 O)
   grind
  refine⟨c,by rw[k],λf m n=>⟨u,w_,w_,q,w_,r,h,i,m,n,?_⟩,λb j=>by rw[sx h i j,k]⟩
  have:=Zd0 (n:=200) m (λb t=>by
   have:=Mf (n b t)
   grind)
  omega
 cases g
def KRt.sum{K:KS}(b:KRt K):K.e.g.length+K.e.c.length=K.e.b:=by
 unfold ES.b Kr
 rcases b.ok.q with a|a
 ·grind
 grind
def ZnC{a:List Int}(h:∀f∈a,0<=f/\f<256)(k:(opK a).2≠0)(g:(opX a).1.z=false):∃b:List BS,(opG a).2.2=(b.map (·.fs),b.map (·.N))/\DRt (xf a).2 ⟨(Rl a).2,b,(opX a).2⟩ (opX a).2:=by
 unfold opX at g ⊢;have⟨⟨q,r⟩,c⟩:=ZnU g;have⟨b,l,m,n⟩:=ZmI h k c;refine⟨b,l,m _ q λd p=>?_⟩;have⟨s,e,t,i,u⟩:=r d p
 have o:(Rl a).1.z=false:=by
  unfold opC at c;split at c;have j:=c;exact(Uy (Pt (f:=ep a (xf a).2 (Rl a).2) (λ_ _=>True) (λ_=>trivial) _ (λ_ _ _ _ _ _=>trivial) j).2).1
  cases c
 have j:(Rl a).2.getD d.f Ai=(Rl a).2[d.f]:=w_;rw[n d e,t,aF s,aF e];rw[j] at i u ⊢;unfold Vv Og;rw[((gz h o).2.2.2 _ (Qf e)).sum] at i;simp;omega
def Zlt{a:Int}(b:0<=a)(c:a<4294967296):(Ys (Ay a 4):Int)=a:=by simp only[Ay,Sy,nil_append,cons_append,Ys];omega
def ZlY{a:List Int}{D:Ga}(j:Rp a)(T:opD a=some D):4<=a.length/\(Ys (a.drop (a.length-4)):Int)=Gp (a.take (a.length-4))/\(opM (a.take (a.length-4))).2=[71,82]/\(opK (a.take (a.length-4))).2≠0/\(opC (a.take (a.length-4))).z=false/\(opX (a.take (a.length-4))).1.z=false/\(opX (a.take (a.length-4))).1.k=a.length-4/\(Rl (a.take (a.length-4))).2=D.h/\(opG (a.take (a.length-4))).2.2=(D.g.map (·.fs),D.g.map (·.N))/\(opX (a.take (a.length-4))).2=D.q/\Cb D D.q=a/\∀h∈D.g,h.g=Bj D.h h.fs:=by
 have b:=ZnB j T;generalize (a.getD 2 0).toNat=n at b;have v:Cb D D.q=a:=(by grind [opD]);have U:(D.g.getD 0 Db).N.length=n:=(by have:=b.g _ (Hk Db b.k);exact this.len);have y:a=_++_:=v.s;have a8:a.length=(Hm D D.q).length+4:=(by rw[y,Qe,(Dv _ 4)]);have B:a.take (a.length-4)=Hm D D.q:=w_;have w:a.drop (a.length-4)=Ay (Gp (Hm D D.q)) 4:=w_;rw[B,w];have f:=Pn .xor 4294967295 (ZfV (Hm D D.q));refine⟨O,Zlt f.1 f.2,?_⟩;clear f
 have l:Hm D D.q=[71,82]++((n:Int)%256::((D.h.length:Int)%256::(D.h.flatMap Lc++((D.g.length:Int)%256::(D.g.flatMap Dm++(Ay (D.q.length:Nat) 2++(D.q.flatMap xB++[]))))))):=by
  unfold Hm
  grind
 have⟨r,u⟩:=Y_ (Ay (D.q.length:Nat) 2++(D.q.flatMap xB++([]:List Int)));have⟨H,t⟩:=Y_ ((D.g.length:Int)%256::(D.g.flatMap Dm++r));rw[u,t] at l;have⟨c,p⟩:=Y_ (Hm D D.q);rw[p] at l ⊢;have z:=b.w;have x:=b.j;have a6:=b.l;have a7:=b.v;have L:Kn c ⟨0,_⟩ _:=⟨rfl,r_,l⟩;have a5:c.length=a.length-4:=(by rw[<- p];omega);clear p l w B y U;have⟨a2,a1⟩:=L.take (n:=2) rfl;have⟨a4,a3⟩:=a1.num (most:=200) O O;have⟨a0,Z⟩:=a3.num (most:=4) O O;have F:(xf c).2=n:=a4;have E:(opK c).2=_:=a0
 have i:(Rl c).2=D.h/\Kn c (Rl c).1 H:=by
  have e:=Kn.a (f:=fsC c) (A:=λd=>D.h.take d) Z (λd k Q G f=>by
   have⟨g,m⟩:=Zos (b.h _ (Qf k)) f
   exact⟨by simp only[fsC];rw[g,Qi k],m⟩) D.h.length x_
  simp only[take_length,drop_length,flatMap_nil,nil_append,take_zero] at e;unfold Rl;rw[E];exact e
 rw[<- t] at i;have⟨N,M⟩:=i.2.num (most:=255) O O;have P:(opB c).2=_:=N;have A:=b.i.nodup_iff.2 nodup_range;have q:=b.i.length_eq;rw[length_range] at q
 have g:(opG c).2=(de (replicate D.h.length false) (D.g.flatMap (·.fs)),D.g.map (·.fs),D.g.map (·.N))/\Kn c (opG c).1 r:=by
  have e:=Kn.a (f:=ep c n D.h) (A:=λd=>(de (replicate D.h.length false) ((D.g.take d).flatMap (·.fs)),(D.g.take d).map (·.fs),(D.g.take d).map (·.N))) M (λd k Q G f=>by
   have X:D.g.flatMap (·.fs)=(D.g.take d).flatMap (·.fs)++(D.g[d].fs++(D.g.drop (d+1)).flatMap (·.fs)):=(by grind [take_append_drop,drop_eq_getElem_cons]);rw[X] at A q;have⟨_,m,o⟩:=nodup_append.1 A;simp only[Qe] at q
   have⟨R,S⟩:=Zok (inn:=de (replicate D.h.length false) ((D.g.take d).flatMap (·.fs))) (Fs:=(D.g.take d).map (·.fs)) (Cs:=(D.g.take d).map (·.N)) f (b.g _ (Qf k)) z x O (nodup_append.1 m).1 (λe W=>by
    rw[Tn (λs=>o e s e (mem_append_left _ W) rfl)]
    grind)
   refine⟨?_,S⟩;rw[R,Qi k]
   simp only[flatMap_append,map_append,flatMap_singleton,map_cons,map_nil,de,foldl_append]) D.g.length x_
  simp only[take_length,drop_length,flatMap_nil,nil_append,take_zero] at e;unfold opG;rw[F,i.1,E,P];exact e
 have m:opC c=(opG c).1:=by
  unfold opC;rw[if_pos];rw[g.1,all_eq_true];intro h j;have⟨k,d,s⟩:=aM j
  have e:k<D.h.length:=by rw[vn] at d;simpa using d
  have:=vm (inn:=replicate D.h.length false) (b.i.mem_iff.2 (mem_range.2 e)) (by simpa using e)
  grind
 rw[<- u] at g
 have e:(opX c).2=D.q/\Kn c (opX c).1 []:=by
  unfold opX;rw[m,F,i.1,g.1];refine ZoN g.2 b.r b.q (λG s=>?_) z x;have k:=b.n G s;have d:=Mf k;simp only at d;rw[sx b.g b.i d.2.1] at k;simp only[Bool.and_eq_true,decide_eq_true_eq] at k;obtain⟨_,_,o,Q⟩:=k;have hK:=b.h _ (Hk Ai d.2.1);have f:=hK.ok.g;rw[hK.sum];unfold Vv at o
  grind
 have d:=congrArg length e.2.t;rw[length_drop,length_nil] at d;have k:=e.2.k;exact⟨a2,O,m ▸ g.2.z,e.2.z,O,i.1,by rw[g.1],e.1,v,λh j=>(b.g h j).sum⟩
end Go.Proofs.YtfcgnpchbcmdeaaGreat
