import Derived.Test.YtfcgnpchbcmdeaaGreatHdb
open Array renaming size->B,toList->Y4
open Option renaming some->T,none->ZP
open Go.World renaming cell?->ZV,alloc->ZN,ownsRow->ZD,grownBy->Y3,drew->YY
open Go renaming World->ZT,maxLen->Y2,Value->ZY,madeCells->YV
open Go.Obj renaming cells->YU
open _root_ renaming Nat->H,Bool->ZG,rfl->X,List->U,Array->YZ,Int->E
open Bool renaming false->ZZ,true->Z0
open Decidable renaming decide->ZE
open List renaming length->F
open Go.Value renaming ownBlock->ZW,slice->ZH,int->ZX
open Or renaming inl->ZM,inr->ZJ
open Go.Proofs.Tryz renaming prog->Y8
open Go.IntKind renaming i64->ZQ
namespace Go.Proofs.YtfcgnpchbcmdeaaGreat
set_option linter.all false
open Go.RowKit List Nat Go.World Go.Proofs.Tryz Go.Value Go.IntKind Go.Lib Go.Region
def one_new(b:ZT) d e:∀a c,(Y4 d)[a]? =T c->ZV (ZN b (YU d e)) (((J (B b.1) 0):Addr).add a)=T c:=by
 intro a c g;have f:((J (B b.1) 0):Addr).add a=(J (B b.1) a):=by unfold Addr.add;split<;>simp_all
 grind [cell_of_row,heap_alloc_new]
def one_at{w:ZT}{g c t}(d:B w.1=g):∀a b,(Y4 c)[a]? =T b->ZV (ZN w (YU c t)) (((J g 0):Addr).add a)=T b:=d ▸ one_new w c t
def apB(c:Program)(f d b:H):ZG:=
 match c.underlying f,c.info? d with
 |some (.slice e),T a=>e==d&&a.size==b&&ZE (0<b)&&ZE (a.bytes<=64)&&(match a.zero with|some g=>B g.cells==b|none=>ZZ)
 |_,_=>ZZ
def run_ap{k b q h ty w u p e v l d c o}(s:apB k h w u=Z0)(f:ZD b q w u p e v)(t:F o=d*u)(y:∀a1 D,o[a1]? =T D->ZV b (l.add a1)=T D)(Q:∀D∈o,D.oneCell'=Z0)(b0:0<d)(G:e+d<=Y2)(a6:(e+d)*64<=140737488355328)(a4:q<=B b.1):∃i j,(Builtin.append_ #[h,h] ty #[p,ZH (T l) d c]).run k b=.ok i j/\ZD j q w u i (e+d) (v++o)/\Y3 b j (ZW p)/\(ZW i=ZW p∨ZW i=T (B b.1)/\Below (B b.1) b j)/\ZD j q w u p e v/\∃g m,i=L_ g (e+d) m:=by
 unfold apB at s;split at s;case h_2=>cases s
 rename_i r n A x;simp only[Bool.and_eq_true,beq_iff_eq,decide_eq_true_eq] at s;obtain⟨⟨⟨⟨rfl,rfl⟩,b2⟩,a3⟩,L⟩:=s;split at L;case h_2=>cases L
 rename_i N M;have S:(e+d)*n.bytes<=140737488355328:=aG (mul_le_mul_left _ a3) a6;obtain⟨i,j,z,R,a2,_⟩:=run_append_own (P:=k) b q h ty r n N _ _ A x M X X (by simpa using L) b2 p e v f l d c o t y Q G S a4;refine⟨i,j,z,R,a2,?_⟩;rw[<- and_assoc];refine⟨?_,?_⟩
 rcases f.2 with⟨rfl,rfl⟩|⟨g,m,P,rfl,a5,W,b1,a7,a8,b3⟩
 have a:=run_append_nil (P:=k) b h ty r n N A x M l d c _ t y b0 (by simp only[Y2] at G;omega) w_;rw[z] at a;simp only[Result.ok.injEq] at a;have:v=[]:=eq_nil_of_length_eq_zero (by simpa using f.1);subst this;exact⟨ZJ ⟨by rw[a.1];rfl,by rw[a.2];exact(y_.drew).alloc s_ _⟩,rn_⟩
 ·by_cases a0:e+d<=m
  have a9:e*n.size+F o<=B P:=(by rw[t,a8,<- Nat.add_mul];exact aK _ a0);have a:=run_append_room (P:=k) b h ty r n A x g e _ _ W l d c _ t y Q a0 a9;rw[z] at a;simp only[Result.ok.injEq] at a;refine⟨ZM (by rw[a.1];rfl),?_⟩;rw[a.2];refine⟨f.1,ZJ ⟨g,m,_,X,a5,setRow_heap b g _ _ r _ W,b1,a7,?_,?_⟩⟩<;>grind;have a:=run_append_grow (P:=k) b h ty r n N A x M _ e m _ f.1 (f.cells (g:=g) X) l d c _ t y O (by simp only[Y2] at G;omega) (growslice_fits O S);rw[z] at a;simp only[Result.ok.injEq] at a;rw[a.1,a.2];exact⟨ZJ ⟨X,(y_.drew).alloc s_ _⟩,ra_ (w:=YY b) f _⟩
 rcases R.2 with⟨_,a0⟩|⟨g,m,P,a,_⟩
 omega
 grind
section
variable {w:ZT} {d:YZ Oper} {f:U Oper} {o:Oper} {a:Act} {K:Act->ZT->Prop} {Q:Exit->Act->ZT->Prop} {E:Prop} {s x:Operand} {t e:TypeId} {v:ZY} {size base n m c:H} {xs:U ZY} {b:Addr}
def aq_(h:U ZY)(M:ZD w base e size v n xs)(p:∀f g,Hid (ZD g base e size f (n+m) (xs++h)/\Y3 w g (ZW v)/\(ZW f=ZW v∨ZW f=T (B w.1)/\Below (B w.1) w g)/\ZD g base e size v n xs/\∃l k,f=L_ l (n+m) k)->K (a.put o.dst f) g)(z:o.guard=ZP:=by rfl)(L:o.op=.call {callee:=.builtin .append,args:=#[s,x],argTypes:=#[t,t]}:=by rfl)(P:a.eval s=v:=by first|rfl|simp[Act.eval])(R:a.eval x=ZH (T b) m c:=by first|rfl|simp[Act.eval])(D:F h=m*size:=by rfl)(hnews:∀j i,h[j]? =T i->ZV w (b.add j)=T i:=by first|exact one_new _ _ _|exact one_at s_)(h1:∀i∈h,i.oneCell'=Z0:=by simp[oneCell'])(G:0<m:=by decide)(r:n+m<=Y2:=by unfold maxLen;omega)(y:(n+m)*64<=140737488355328:=by omega)(u:base<=B w.1:=by first|omega|(simp<;>omega))(A:apB Y8 t e size=Z0:=by kernel_rfl):if wanted o (yielded d a.tmps)=Z0 then Oper.wp Y8 o a w K Q else E:=by
 rw[aD (by simp[wanted,z])];obtain⟨f,g,N,q⟩:=run_ap (ty:=o.type) (c:=c) A M D hnews h1 G r y u;unfold Oper.wp;simp only[execOp,L,resolve,invoke,builtin,Sem.run_bind,Sem.run_pure,Result.andThen_ok,map_toArray,map_cons,map_nil,P,R,N];exact p _ _ q
def ap_(g:U ZY)(P:ZD w base e size v n xs)(q:∀h i,Hid (ZD i base e size h (n+m) (xs++g)/\Y3 w i (ZW v)/\(ZW h=ZW v∨ZW h=T (B w.1)/\Below (B w.1) w i)/\ZD i base e size v n xs/\∃p l,h=L_ p (n+m) l)->wpList Y8 d Q f (a.put o.dst h) i)(A:o.guard=ZP:=by rfl)(N:o.op=.call {callee:=.builtin .append,args:=#[s,x],argTypes:=#[t,t]}:=by rfl)(R:a.eval s=v:=by first|rfl|simp[Act.eval])(S:a.eval x=ZH (T b) m c:=by first|rfl|simp[Act.eval])(G:F g=m*size:=by rfl)(M:∀k j,g[k]? =T j->ZV w (b.add k)=T j:=by first|exact one_new _ _ _|exact one_at s_)(h1:∀j∈g,j.oneCell'=Z0:=by simp[oneCell'])(L:0<m:=by decide)(u:n+m<=Y2:=by unfold maxLen;omega)(z:(n+m)*64<=140737488355328:=by omega)(y:base<=B w.1:=by first|omega|(simp<;>omega))(D:apB Y8 t e size=Z0:=by kernel_rfl):wpList Y8 d Q (o::f) a w:=
 wpList_step λ_ hK=>aq_ g P (λ_ _ r=>hK _ _ (q _ _ r)) A N R S G M h1 L u z y D
end
def mk_(i:H){g d e a k:H}{l:YZ ZY}{j f:E}{c:ZT}(w:f<=100000000000:=by omega)(m:j=e:=by omega)(n:f=a:=by omega)(x:e<=a:=by omega)(r:k=a*i:=by omega)
  (s:prog.underlying g=T (.slice d):=by kernel_rfl) (p:(prog.info? d).map (λb=>(b.zero.map Value.cells,b.size,ZE (b.bytes<=1000)))=T (T l,i,Z0):=by kernel_rfl):
  (Instr.makeSlice g (ZX ZQ j) (ZX ZQ f)).run Y8 c=.ok (L_ (B c.1) e a) (ZN c (YU (YV l k) d)):=by
 have⟨b,q,h⟩:=Option.map_eq_some_iff.1 p;simp only[Prod.mk.injEq,decide_eq_true_eq,Option.map_eq_some_iff] at h;obtain⟨⟨u,t,rfl⟩,rfl,v⟩:=h;subst m n r;have o:(b.bytes:E)*a<=1000*a:=Int.mul_le_mul_of_nonneg_right O O;have:=run_make (P:=Y8) c g d b u s q t ZQ ZQ (e:E) (a:E) O O (Int.le_trans o O) O;rw[this];rfl
end Go.Proofs.YtfcgnpchbcmdeaaGreat
