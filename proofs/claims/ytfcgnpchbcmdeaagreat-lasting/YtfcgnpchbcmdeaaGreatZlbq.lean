import Derived.Test.YtfcgnpchbcmdeaaGreatZlbh
import Derived.Test.YtfcgnpchbcmdeaaGreatZlbo
import Derived.Laws.IdiomStrings
import Derived.Test.YtfcgnpchbcmdeaaGreatZlbn
import Derived.Test.YtfcgnpchbcmdeaaGreatZlal
namespace Go.Proofs.YtfcgnpchbcmdeaaGreat
open Go.RowKit
theorem ZlA(S:ByteArray):ByI (Zb S):=fun x hx=>by unfold Zb at hx;obtain⟨u,_,rfl⟩:=List.mem_map.1 hx;have:=u.toNat_lt;simp;omega
theorem Zi7{w:World}{gb db:Nat}{D:QP}{S:ByteArray}(h:Zsn w gb db D)(ho:opD (Zb S)=some D):Calls Tryz.prog 34 #[.pointer (some ⟨gb,0,none⟩)] w fun e w'=>e=.returned (.string S)/\Below w.heap.size w w':=by
 obtain⟨hg,vK,vB,vX,kvs,bvs,hM⟩:=h;unfold opD at ho;split at ho
 ·cases ho
 rename_i E r hr;split at ho;rename_i he;injection ho with ho;subst ho;have hok:=ZkT (ZlA S) hr;have e:strOfNums (Z6 E E.xs)=S:=(Zk7 (Zcd _ _)).2 he;rw[<- e];exact Zd8 gb db vK vB vX kvs bvs E.xs E w hg hM hok.b0 (fun K hK=>(hok.ks K hK).kn) hok.k4 hok.bun (by have:=hok.se.b4;have:=hok.k4;omega) (by have:=hok.xl;omega) (Zgb E E.xs)
 cases ho
def Zgd(w:World)(a:Option Addr)(n:Nat)(A:Nat->Int×Int×Int):Prop:=
 (∀i,i<n->(Lit.int .i64 (A i).1).wf=true/\(Lit.int .i64 (A i).2.1).wf=true/\(Lit.int .i64 (A i).2.2).wf=true)/\(n=0∨∃b off,a=some ⟨b,off,none⟩/\b<w.heap.size/\∀i,i<n->w.cell? ⟨b,off+i*3,none⟩=some (.int .i64 (A i).1)/\w.cell? ⟨b,off+i*3+1,none⟩=some (.int .i64 (A i).2.1)/\w.cell? ⟨b,off+i*3+2,none⟩=some (.int .i64 (A i).2.2))
theorem Zgd.below{w w':World}{a:Option Addr}{n:Nat}{A:Nat->Int×Int×Int}(h:Zgd w a n A)(hb:Below w.heap.size w w'):Zgd w' a n A:=by
 refine⟨h.1,?_⟩
 rcases h.2 with h0|⟨b,off,e,hl,hc⟩
 exact .inl h0
 exact .inr ⟨b,off,e,Qh hl hb.size,fun i hi=>by
  obtain⟨h1,h2,h3⟩:=hc i hi
  exact⟨(hb.cell (p:=⟨b,_,none⟩) hl).trans h1,(hb.cell (p:=⟨b,_,none⟩) hl).trans h2,(hb.cell (p:=⟨b,_,none⟩) hl).trans h3⟩⟩
def ZlH:Option ByteArray->ByteArray
 |none=>⟨#[]⟩
 |some t=>t
def GQ(B:Nat)(v:Value)(k:Nat):Prop:=B<=k/\v.ownBlock≠some k
structure ZiY(W0:World)(g:Nat)(t:ByteArray):Prop where
 by_:∀W,Below W0.heap.size W0 W->Calls Tryz.prog 34 #[.pointer (some ⟨g,0,none⟩)] W fun e w'=>e=.returned (.string t)/\Below W.heap.size W w'
 sz:t.size<=100000
 op:∃E,opD (Zb t)=some E
structure Y5(w W0:World)(sb db R:Nat)(t1 t2:ByteArray)(v:Value)(M:List ByteArray)(o:Option ByteArray):Prop where
 dk:DkA w (GQ W0.heap.size v) sb db R o
 own:ZD w W0.heap.size v M
 low:Below W0.heap.size W0 w
 con:ZlH o∈M
 is_:o=none∨o=some t1∨o=some t2
theorem DkA.re{w:World}{G G':Nat->Prop}{sb db room:Nat}{o:Option ByteArray}(h:DkA w G sb db room o)(hg:∀k,k<w.heap.size->G k->G' k):DkA w G' sb db room o:=by obtain⟨dn,f,fr,sc,fl,h1,h2,h3,h4,h5,h6,h7⟩:=h;exact⟨dn,f,fr,sc,fl,h1,h2,h3,hg _ h1.lt h4,fun k e=>⟨hg k (h5 k e).2 (h5 k e).1,(h5 k e).2⟩,fun k e=>⟨hg k (h6 k e).2 (h6 k e).1,(h6 k e).2⟩,h7⟩
theorem DkA.below{w w':World}{G:Nat->Prop}{sb db room:Nat}{o:Option ByteArray}(h:DkA w G sb db room o)(hb:Below w.heap.size w w'):DkA w' G sb db room o:=by obtain⟨dn,f,h⟩:=h;exact⟨dn,f,h.below hb⟩
theorem ZD.row{w w':World}{B:Nat}{v:Value}{M:List ByteArray}(h:ZD w B v M)(t:Za (GQ B v) w w'):ZD w' B v M:=Za.row t h (fun _ hk hg=>hg.2 hk)
theorem GQ.low{B:Nat}{v:Value}{w w':World}(t:Za (GQ B v) w w')(hB:B<=w.heap.size):Below B w w':=t.to_below hB (fun _ h=>h.1)
section
variable {w w' W0:World} {sb db R:Nat} {t1 t2:ByteArray} {v:Value} {M:List ByteArray} {o o':Option ByteArray}
theorem Y5.touch(h:Y5 w W0 sb db R t1 t2 v M o)(hd:DkA w' (GQ W0.heap.size v) sb db R o')(ht:Za (GQ W0.heap.size v) w w')(hc:ZlH o'∈M)(hi:o'=none∨o'=some t1∨o'=some t2):Y5 w' W0 sb db R t1 t2 v M o':=
 ⟨hd,h.own.row ht,h.low.trans (GQ.low ht h.low.size),hc,hi⟩
theorem Y5.below(h:Y5 w W0 sb db R t1 t2 v M o)(hb:Below w.heap.size w w'):Y5 w' W0 sb db R t1 t2 v M o:=
 ⟨h.dk.below hb,h.own.below hb,h.low.trans (hb.mono h.low.size),h.con,h.is_⟩
theorem Y5.len(h:Y5 w W0 sb db R t1 t2 v M o)(h1:t1.size<=100000)(h2:t2.size<=100000):Zcn o<=100000:=by
 rcases h.is_ with rfl|rfl|rfl
 exact Qg _;exact h1;exact h2
theorem Y5.new(h:Y5 w W0 sb db R t1 t2 v M o):∀k,w.heap.size<=k->GQ W0.heap.size v k:=fun k hk=>by have:=h.low.size;refine⟨by omega,fun e=>?_⟩;have:=(World.ownsRow.lt h.own k e).2;omega
theorem Y5.one{q:Nat}{s:ByteArray}(h:Y5 w W0 sb db R t1 t2 v M o)(hq:q=w.heap.size)(hs:ZlH o=s):Y5 (w.alloc (.cells #[.string s] 9)) W0 sb db R t1 t2 (.slice (some ⟨q,0,none⟩) 1 1) [s] o:=by have hb:Below w.heap.size w (w.alloc (.cells #[.string s] 9)):=(Below.refl _ _).alloc (Qa _) _;have hB:=h.low.size;subst hq;refine⟨(h.dk.re (G':=GQ W0.heap.size (.slice (some ⟨w.heap.size,0,none⟩) 1 1)) (fun k hk hg=>⟨hg.1,fun e=>by simp[Value.ownBlock] at e;omega⟩)).below hb,?_,h.low.trans (hb.mono hB),by rw[hs];simp,h.is_⟩;refine⟨by simp,.inr ⟨w.heap.size,1,#[.string s],rfl,hB,heap_alloc_new _ _,by simp,by decide,by simp,by simp⟩⟩
end
def Zjc(cs l:List Int):QP:=ZhL (YK cs) (cfW cs) (cfT cs) (cfB cs:Nat) (cfS cs) (cfU cs) (stR cs l (QC cs l))
theorem Znc(cs:List Int):∀i,i<YK cs+1->cfW cs i=false->0<=cfC cs i/\cfC cs i<=3:=fun i hi hw=>by have hfe:=(Zav (Zf4 cs)).2.2.2.2.2.2.2.2;have:=hfe i hi;unfold ZaJ at this;rw[hw] at this;simp at this;omega
theorem ZjB(cs l:List Int):Zk (YK cs+1) (cfW cs) (cfC cs) RS.start (Zb (Qx cs l (QC cs l))) 0=.ok (stR cs l (QC cs l)):=ZnG cs l (QC cs l) (by unfold QC;omega)
theorem Zm7(cs l:List Int):ZaZ lwF (YK cs) (cfW cs) (cfT cs) (cfB cs:Nat) (cfS cs) (stR cs l (QC cs l)):=by have hcf:=Zik cs;obtain⟨h1,h4,c1,c2,c3,c4,c5,c6,_⟩:=Zav (Zf4 cs);exact Zfr (Znc cs) (by omega) (by omega) (by omega) (by omega) (ZjB cs l)
theorem Zrv(cs l:List Int)(W:World)(fk fc:Nat)(hF:Qr W fk 0 (YK cs+1) (cfW cs) (cfC cs) (cfT cs)):Calls Tryz.prog 25 #[.agg #[.slice (some ⟨fk,0,none⟩) (YK cs+1) fc,.int .i64 (cfB cs:Nat),.int .i64 (cfS cs:Nat),.int .i64 (cfU cs:Nat)],.string (Qx cs l (QC cs l)),.slice none 0 0] W fun e w'=>∃g d,e=.returned (.tuple #[.pointer (some ⟨g,0,none⟩),.int .i64 0,.int .i64 0])/\Zba w' g d (Zjc cs l)/\Below W.heap.size W w':=by
 have hts:=Zei cs l (QC cs l);have hmany:QC cs l<=150:=(by unfold QC;omega);refine(ZqW _ fk (YK cs) fc 0 0 none [] (cfB cs:Nat) (cfS cs) (cfU cs) (cfW cs) (cfC cs) (cfT cs) W hF (Zf4 cs) ⟨rfl,by simp,.inl rfl⟩ (by decide) (by omega)).mono ?_;rintro e w' ⟨hA,hb⟩;rw[ZjB cs l] at hA
 rcases hA with⟨hne,_⟩|⟨_,g,d,e1,hO⟩
 exact absurd (ZmB cs l (QC cs l)).wt hne;exact⟨g,d,e1,hO,hb⟩
theorem Zp0(cs l:List Int){W:World}{g d:Nat}(ho:Zba W g d (Zjc cs l)):∃t,ZiY W g t:=by
 have hcf:=Zik cs;obtain⟨h1,h4,c1,c2,c3,c4,c5,c6,_⟩:=Zav (Zf4 cs);have htook:=Ztd (Znc cs) (ZjB cs l);have hsig:=ZeW.takes (n:=YK cs+1) _ (ZeW.start (YK cs+1)) (ZjB cs l);have hd:Zfo (stR cs l (QC cs l)).ws.length (Zjc cs l):=Zky (by omega) htook.inv.ws (htook.binok (Zm7 cs l));have hkn:∀K∈(Zjc cs l).ks,Zd1 K:=htook.kn (by omega) (by omega) (by omega) (by omega);obtain⟨vK,vB,vX,kvs,bvs,X,hM⟩:=ho.md;refine⟨strOfNums (Z6 (Zjc cs l) X),fun V hV=>Zkg g d _ _ V (ho.below hV) hd hkn X hM.perm hM.sorted,?_,?_⟩;rw[Zc3];exact Zlz hd hkn hM.perm;rw[Zce (Zcd _ _)];exact⟨_,Zri htook hsig (Zm7 cs l) (by omega) (by omega) (by omega) (by omega) (by omega) hM.perm hM.sorted⟩
end Go.Proofs.YtfcgnpchbcmdeaaGreat
