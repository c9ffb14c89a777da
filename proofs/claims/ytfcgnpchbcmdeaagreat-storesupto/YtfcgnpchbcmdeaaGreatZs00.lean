namespace Go.Proofs.YtfcgnpchbcmdeaaGreat
set_option linter.all false
def Qa(n:Nat):n<=n:=Nat.le_refl n
def Qb{α:Type}{xs:Array α}{i:Nat}{b:α}(h:xs[i]? =some b):∃h,xs[i]=b:=Array.getElem?_eq_some_iff.1 h
def Qc{α:Type}{l:List α}{i:Nat}{a:α}:l.getD i a=l[i]?.getD a:=List.getD_eq_getElem?_getD
def Qd{α:Type}{l:List α}{i:Nat}(h:i<l.length):l[i]? =some l[i]:=List.getElem?_eq_getElem h
def Qe{α:Type}{p q:List α}:(p++q).length=p.length+q.length:=List.length_append
theorem Qf{α:Type}{l:List α}{n:Nat}(h:n<l.length):l[n]∈l:=List.getElem_mem h
def Qg(n:Nat):0<=n:=Nat.zero_le n
def Qh{n m k:Nat}(h:n<m)(g:m<=k):n<k:=Nat.lt_of_lt_of_le h g
theorem Qi{α:Type}{n:Nat}{l:List α}(h:n<l.length):l.take (n+1)=l.take n++[l[n]]:=List.take_succ_eq_append_getElem h
def O{p:Prop}(h:p:=by omega):p:=h
def C{p:Prop}(h:p:=by decide):p:=h
def s_{p:Prop}(h:p:=by simp):p:=h
def t_{p:Prop}(h:p:=by simp;omega):p:=h
def u_{p:Prop}(h:p:=by simp<;>omega):p:=h
def a_{p:Prop}(h:p:=by assumption):p:=h
def f_{p:Prop}(h:p:=by first|omega|(simp;omega)|simp):p:=h
def w_{p:Prop}(h:p:=by grind):p:=h
end Go.Proofs.YtfcgnpchbcmdeaaGreat
