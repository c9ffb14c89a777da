namespace Go.Proofs.YtfcgnpchbcmdeaaGreat
theorem Qa(n:Nat):n<=n:=Nat.le_refl n
theorem Qb{α:Type}{xs:Array α}{i:Nat}{b:α}(h:xs[i]? =some b):∃h,xs[i]=b:=Array.getElem?_eq_some_iff.1 h
theorem Qc{α:Type}{l:List α}{i:Nat}{a:α}:l.getD i a=l[i]?.getD a:=List.getD_eq_getElem?_getD
theorem Qd{α:Type}{l:List α}{i:Nat}(h:i<l.length):l[i]? =some l[i]:=List.getElem?_eq_getElem h
theorem Qe{α:Type}{p q:List α}:(p++q).length=p.length+q.length:=List.length_append
theorem Qf{α:Type}{l:List α}{n:Nat}(h:n<l.length):l[n]∈l:=List.getElem_mem h
theorem Qg(n:Nat):0<=n:=Nat.zero_le n
theorem Qh{n m k:Nat}(h:n<m)(g:m<=k):n<k:=Nat.lt_of_lt_of_le h g
theorem Qi{α:Type}{n:Nat}{l:List α}(h:n<l.length):l.take (n+1)=l.take n++[l[n]]:=List.take_succ_eq_append_getElem h
end Go.Proofs.YtfcgnpchbcmdeaaGreat
