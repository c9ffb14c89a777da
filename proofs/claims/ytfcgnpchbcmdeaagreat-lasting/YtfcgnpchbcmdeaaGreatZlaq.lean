import Derived.Test.YtfcgnpchbcmdeaaGreatZlaf
import Derived.Test.YtfcgnpchbcmdeaaGreatZlao
import Derived.Test.YtfcgnpchbcmdeaaGreatZlaj
import Derived.BigQuiet
namespace Go.Proofs.YtfcgnpchbcmdeaaGreat
set_option maxRecDepth 100000
set_option maxHeartbeats 4000000
open Go.RowKit
def Z8(w:World)(db room:Nat)(dn:Bool)(fr ca sf sc fl:Option Addr):Prop:=w.heap[db]? =some (.cells #[.int .i64 (room:Nat),.bool dn,.pointer fr,.pointer ca,.pointer sf,.pointer sc,.pointer fl] 192 (0,0))
def QH(w:World)(fb:Nat)(t:ByteArray)(s:Nat):Prop:=w.heap[fb]? =some (.cells #[.string t,.int .i64 (s:Nat)] 196 (0,0))
theorem Z8.cells{w:World}{db room:Nat}{dn:Bool}{fr ca sf sc fl:Option Addr}(h:Z8 w db room dn fr ca sf sc fl):w.cell? ⟨db,0,none⟩=some (.int .i64 (room:Nat))/\w.cell? ⟨db,1,none⟩=some (.bool dn)/\w.cell? ⟨db,2,none⟩=some (.pointer fr)/\w.cell? ⟨db,3,none⟩=some (.pointer ca)/\w.cell? ⟨db,4,none⟩=some (.pointer sf)/\w.cell? ⟨db,5,none⟩=some (.pointer sc)/\w.cell? ⟨db,6,none⟩=some (.pointer fl)/\(∀o,w.frozen? ⟨db,o,none⟩=false):=by unfold Z8 at h;refine⟨?_,?_,?_,?_,?_,?_,?_,fun o=>frozen_of_row w db o _ 192 h⟩<;>simp[World.cell?,h]
theorem QH.cells{w:World}{fb s:Nat}{t:ByteArray}(h:QH w fb t s):w.cell? ⟨fb,0,none⟩=some (.string t)/\w.cell? ⟨fb,1,none⟩=some (.int .i64 (s:Nat))/\(∀o,w.frozen? ⟨fb,o,none⟩=false):=by unfold QH at h;refine⟨?_,?_,fun o=>frozen_of_row w fb o _ 196 h⟩<;>simp[World.cell?,h]
theorem Z8.touch{w w':World}{S:Nat->Prop}{db room:Nat}{dn:Bool}{fr ca sf sc fl:Option Addr}(h:Z8 w db room dn fr ca sf sc fl)(t:Za S w w')(hs:¬S db):Z8 w' db room dn fr ca sf sc fl:=t.at_ h hs
theorem QH.touch{w w':World}{S:Nat->Prop}{fb s:Nat}{b:ByteArray}(h:QH w fb b s)(t:Za S w w')(hs:¬S fb):QH w' fb b s:=t.at_ h hs
theorem ZlJ(db room:Nat)(dn:Bool)(fr ca sf sc fl:Option Addr)(w:World)(h:Z8 w db room dn fr ca sf sc fl):Calls Tryz.prog 106 #[.pointer (some ⟨db,0,none⟩)] w fun e w'=>e=.returned (.int .i64 0)/\∃fb,w.heap.size<=fb/\Z8 w' db room dn (some ⟨fb,0,none⟩) ca sf sc fl/\QH w' fb ⟨#[]⟩ 0/\Za (fun k=>k=db) w w':=by
 obtain⟨c0,c1,c2,c3,c4,c5,c6,cf⟩:=h.cells;have hl:db<w.heap.size:=(Qb h).1;have H:Hid (Z8 w db room dn fr ca sf sc fl):=h;clear h;go_enter Tryz.func106,Tryz.ntmps106;go_wp2;go_ret;refine⟨rfl,w.heap.size,Qa _,?_,?_,?_⟩;exact(Below.heap_alloc _ _ db (by simpa [World.setCell] using hl)).trans (heap_setCell_same _ db 2 _ 192 _ H.out);have h1:=heap_alloc_new (w.setCell ⟨db,2,none⟩ (.pointer (some ⟨w.heap.size,0,none⟩))) (.cells #[.string ⟨#[]⟩,.int .i64 0] 196);rw[show(w.setCell ⟨db,2,none⟩ (.pointer (some ⟨w.heap.size,0,none⟩))).heap.size=w.heap.size by simp[World.setCell]] at h1;exact h1;exact((Za.refl (fun k=>k=db) w).setCell (p:=⟨db,2,none⟩) (fun _=>rfl) _).alloc _
theorem Zmq(db room:Nat)(dn:Bool)(fr ca sf sc fl:Option Addr)(w:World)(h:Z8 w db room dn fr ca sf sc fl):Calls Tryz.prog 108 #[.pointer (some ⟨db,0,none⟩)] w fun e w'=>e=.returned (.int .i64 0)/\Z8 w' db room dn none fr sf sc fl/\Za (fun k=>k=db) w w':=by obtain⟨c0,c1,c2,c3,c4,c5,c6,cf⟩:=h.cells;have hl:db<w.heap.size:=(Qb h).1;have H:Hid (Z8 w db room dn fr ca sf sc fl):=h;clear h;go_enter Tryz.func108,Tryz.ntmps108;go_wp2;go_ret;refine⟨rfl,heap_setCell_same _ db 3 _ 192 _ (heap_setCell_same _ db 2 _ 192 _ H.out),((Za.refl (fun k=>k=db) w).setCell (p:=⟨db,2,none⟩) (fun _=>rfl) _).setCell (p:=⟨db,3,none⟩) (fun _=>rfl) _⟩
theorem Zh7(db room:Nat)(dn:Bool)(fr ca sf sc fl:Option Addr)(w:World)(h:Z8 w db room dn fr ca sf sc fl):Calls Tryz.prog 109 #[.pointer (some ⟨db,0,none⟩)] w fun e w'=>e=.returned (.int .i64 0)/\Z8 w' db room dn fr ca fr ca fl/\Za (fun k=>k=db) w w':=by obtain⟨c0,c1,c2,c3,c4,c5,c6,cf⟩:=h.cells;have hl:db<w.heap.size:=(Qb h).1;have H:Hid (Z8 w db room dn fr ca sf sc fl):=h;clear h;go_enter Tryz.func109,Tryz.ntmps109;go_wp2;go_ret;refine⟨rfl,heap_setCell_same _ db 5 _ 192 _ (heap_setCell_same _ db 4 _ 192 _ H.out),((Za.refl (fun k=>k=db) w).setCell (p:=⟨db,4,none⟩) (fun _=>rfl) _).setCell (p:=⟨db,5,none⟩) (fun _=>rfl) _⟩
theorem ZlK(db room:Nat)(dn:Bool)(fr ca sf sc fl:Option Addr)(w:World)(h:Z8 w db room dn fr ca sf sc fl):Calls Tryz.prog 66 #[.pointer (some ⟨db,0,none⟩)] w fun e w'=>e=.returned (.int .i64 (if dn=true then 0 else 1))/\Z8 w' db room false fr ca sf sc fl/\Za (fun k=>k=db) w w':=by
 obtain⟨c0,c1,c2,c3,c4,c5,c6,cf⟩:=h.cells;have H:Hid (Z8 w db room dn fr ca sf sc fl):=h;clear h
 cases dn
 ·go_enter Tryz.func66,Tryz.ntmps66;go_wp2;go_ret;exact⟨rfl,H.out,Za.refl _ _⟩
 go_enter Tryz.func66,Tryz.ntmps66;go_wp2;go_ret;exact⟨rfl,heap_setCell_same _ db 1 _ 192 _ H.out,(Za.refl (fun k=>k=db) w).setCell (p:=⟨db,1,none⟩) (fun _=>rfl) _⟩
def LdS(dn:Bool)(o:Option ByteArray):Value:=if dn=true then .tuple #[.string ⟨#[]⟩,.int .i64 5] else match o with
 |none=>.tuple #[.string ⟨#[]⟩,.int .i64 4]
 |some t=>.tuple #[.string t,.int .i64 0]
def Zas(w:World)(v:Option Addr)(o:Option ByteArray):Prop:=match o with
 |none=>v=none
 |some t=>∃fb,v=some ⟨fb,0,none⟩/\QH w fb t t.size
theorem ZnY(db room:Nat)(dn:Bool)(fr ca sf sc fl:Option Addr)(o:Option ByteArray)(w:World)(h:Z8 w db room dn fr ca sf sc fl)(ho:Zas w ca o):Calls Tryz.prog 64 #[.pointer (some ⟨db,0,none⟩)] w fun e w'=>e=.returned (LdS dn o)/\w'=w:=by
 obtain⟨c0,c1,c2,c3,c4,c5,c6,cf⟩:=h.cells;clear h
 cases dn
 ·cases o with
  | none=>
   have e:ca=none:=ho;subst e;go_enter Tryz.func64,Tryz.ntmps64;go_wp2;go_ret2
   exact⟨rfl,rfl⟩
  | some t=>
   obtain⟨fb,rfl,hF⟩:=ho;obtain⟨f0,f1,ff⟩:=hF.cells;clear hF;go_enter Tryz.func64,Tryz.ntmps64;go_wp2;go_ret2
   exact⟨rfl,rfl⟩
 clear ho;go_enter Tryz.func64,Tryz.ntmps64;go_wp2;go_ret2
 exact⟨rfl,rfl⟩
theorem Zqv(db room fb s:Nat)(t:ByteArray)(dn:Bool)(ca sf sc fl:Option Addr)(w:World)(h:Z8 w db room dn (some ⟨fb,0,none⟩) ca sf sc fl)(hf:QH w fb t s):Calls Tryz.prog 107 #[.pointer (some ⟨db,0,none⟩)] w fun e w'=>e=.returned (.int .i64 0)/\QH w' fb t t.size/\Za (fun k=>k=fb) w w':=by
 obtain⟨c0,c1,c2,c3,c4,c5,c6,cf⟩:=h.cells;obtain⟨f0,f1,ff⟩:=hf.cells;have H:Hid (QH w fb t s):=hf;clear h hf;go_enter Tryz.func107,Tryz.ntmps107;go_upto_region 1 with fail;refine Zo (fun w'=>w'.cell? ⟨db,2,none⟩=some (.pointer (some ⟨fb,0,none⟩))/\w'.cell? ⟨fb,0,none⟩=some (.string t)) 16 (by kernel_rfl) ⟨c2,f0⟩ (fun hHeld=>?_);refine Zm 0 ?_;refine Zm 1 ?_;refine Zm 2 ?_;refine Zm 3 ?_;refine Zm 4 ?_;refine Zm 5 ?_;refine Zm 6 ?_;refine Zm 7 ?_;refine Zm 8 ?_;refine Zm 9 ?_;refine Zm 10 ?_;refine Zm 11 ?_;refine Zm 12 ?_;refine Zm 13 ?_;refine Zm 14 ?_;refine Zm 15 ?_;refine Zh (i:=16) (by kernel_rfl) rfl (by kernel_rfl) (fun KK hK=>?_);go_simp;refine hK.out _ _ ?_;clear hK KK;try simp only[Act.put,tA,tB,tC]
 refine Zj (by kernel_rfl) ?_ _;have HF:Hid (QH (w.setCell ⟨fb,1,none⟩ (.int .i64 (t.size:Nat))).drew fb t t.size/\Za (fun k=>k=fb) w (w.setCell ⟨fb,1,none⟩ (.int .i64 (t.size:Nat))).drew):=⟨heap_setCell_same _ fb 1 _ 196 _ H.out,((Za.refl (fun k=>k=fb) w).setCell (p:=⟨fb,1,none⟩) (fun _=>rfl) _).drew⟩;clear hHeld c0 c1 c2 c3 c4 c5 c6 cf f0 f1 ff;go_wp2;go_ret;exact⟨rfl,HF.out⟩
theorem ZqZ:(Tryz.prog.info? 187).map (fun i=>(i.zero,i.size,i.bytes))=some (some (.pointer none),1,8):=by kernel_rfl
def YM(w:World)(base:Nat)(v:Value)(ps:List (Option Addr)):Prop:=w.ownsRow base 187 1 v ps.length (ps.map Value.pointer)
theorem YM.nil(w:World)(base:Nat):YM w base (.slice none 0 0) []:=World.ownsRow_nil w base 187 1
theorem YM.alloc{w:World}{base:Nat}{v:Value}{L:List (Option Addr)}(h:YM w base v L)(o:Obj):YM (w.alloc o) base v L:=World.ownsRow.alloc h o
theorem YM.lt{w:World}{base:Nat}{v:Value}{L:List (Option Addr)}(h:YM w base v L):∀k,v.ownBlock=some k->base<=k/\k<w.heap.size:=World.ownsRow.lt h
theorem YM.mono{w:World}{b b':Nat}{v:Value}{L:List (Option Addr)}(h:YM w b' v L)(hb:b<=b'):YM w b v L:=by
 refine⟨h.1,?_⟩
 rcases h.2 with hn|⟨g,cap,cur,e,hg,r⟩
 exact .inl hn;exact .inr ⟨g,cap,cur,e,Nat.le_trans hb hg,r⟩
theorem YM.form{w:World}{base:Nat}{v:Value}{L:List (Option Addr)}(h:YM w base v L):∃a c,v=.slice a L.length c:=by
 rcases h.2 with⟨rfl,h0⟩|⟨q,p,cur,rfl,_⟩
 exact⟨none,0,by rw[h0]⟩;exact⟨_,_,rfl⟩
theorem YM.at_{w:World}{base n c:Nat}{a:Option Addr}{L:List (Option Addr)}(h:YM w base (.slice a n c) L)(hn:L.length=n){k:Nat}(hk:k<n):∃q,a=some ⟨q,0,none⟩/\w.cell? ⟨q,k,none⟩=some (.pointer (L.getD k none)):=by
 subst hn;have h':=h
 rcases h'.2 with⟨e,h0⟩|⟨g,cap,cur,e,_,hh,hnc,_⟩
 omega;injection e with e1 e2 e3;subst e1;refine⟨g,rfl,?_⟩;have hr:w.ownsRow base 187 1 (.slice (some ⟨g,0,none⟩) L.length c) L.length (L.map Value.pointer):=h;rw[World.ownsRow.cellAt hr k (by omega)];simp[List.getD,hk]
theorem ZbI{w:World}{ops:Array Oper}{rest:List Oper}{o:Oper}{a:Act}{Q:Exit->Act->World->Prop}(hgd:o.guard=none)(s x:Operand)(ho:o.op=.call {callee:=.builtin .append,args:=#[s,x],argTypes:=#[273,273]})(base:Nat)(v:Value)(zs:List (Option Addr))(z:Option Addr)(hs:a.eval s=v)(hown:YM w base v zs)(g c:Nat)(hx:a.eval x=.slice (some ⟨g,0,none⟩) 1 c)(hg:w.cell? ⟨g,0,none⟩=some (.pointer z))(hl:zs.length<=1000000)(hbase:base<=w.heap.size)(h:∀v' w',Hid (YM w' base v' (zs++[z])/\w.grownBy w' v.ownBlock)->wpList Tryz.prog ops Q rest (a.put o.dst v') w'):wpList Tryz.prog ops Q (o::rest) a w:=by
 obtain⟨i0,hinf,hz0,hz1,hz2⟩:=info_parts ZqZ;refine Zf hgd s x 273 ho base 187 i0 (.pointer none) 1 8 Tryz.underlying273 hinf hz0 hz1 hz2 rfl (by decide) v zs.length (zs.map Value.pointer) hs hown ⟨g,0,none⟩ 1 c [.pointer z] hx rfl ?_ ?_ (by decide) (by unfold maxLen;omega) (by omega) hbase ?_
 ·intro j u hj
  cases j with
  |zero=>simp at hj;subst hj;simpa [Addr.add] using hg
  |succ j=>simp at hj
 intro u hu;simp at hu;subst hu;rfl;intro v' w' H;obtain⟨h1,h2,h3,_,_⟩:=H.out;refine h v' w' ⟨?_,h2⟩;unfold YM;rw[Qe,List.map_append];exact h1
def Zaq(a b:Option Addr):Nat->List (Option Addr)
 |0=>[]
 |1=>if a=none then[] else[a]
 |_=>(if a=none then[] else[a])++(if b=none then[] else[b])
theorem ZgB(a b:Option Addr)(k:Nat):(Zaq a b k).length<=2:=by unfold Zaq;split;simp;split<;>simp;rw[Qe];split<;>split<;>simp
theorem Zim(a b:Option Addr)(w:World):Calls Tryz.prog 171 #[.agg #[.pointer a,.pointer b]] w fun e w'=>∃v,e=.returned v/\YM w' w.heap.size v (Zaq a b 2)/\Below w.heap.size w w':=by
 go_enter Tryz.func171,Tryz.ntmps171;go_wp2_with fail
 generalize hw2:(w.alloc (.cells #[.pointer a,.pointer b] 189)).alloc (.cells #[.pointer a,.pointer b] 187)=w2;have hb2:Below w.heap.size w w2:=(by rw[<- hw2];exact((Below.refl _ _).alloc (Qa _) _).alloc (by simp) _);have hz2:w2.heap.size=w.heap.size+2:=(by rw[<- hw2];simp);have f0:w2.cell? ⟨w.heap.size+1,0,none⟩=some (.pointer a):=(by rw[<- hw2];simp[go_sem]);have f1:w2.cell? ⟨w.heap.size+1,1,none⟩=some (.pointer b):=by rw[<- hw2];simp[go_sem]
 have HC:Hid (∀W,Below w2.heap.size w2 W->Below w.heap.size w W/\W.cell? ⟨w.heap.size+1,0,none⟩=some (.pointer a)/\W.cell? ⟨w.heap.size+1,1,none⟩=some (.pointer b)):=fun W hW=>⟨hb2.trans (hW.mono (by omega)),(hW.cell (p:=⟨w.heap.size+1,0,none⟩) (by show w.heap.size+1<_;omega)).trans f0,(hW.cell (p:=⟨w.heap.size+1,1,none⟩) (by show w.heap.size+1<_;omega)).trans f1⟩;have HZ2:Hid (w.heap.size<=w2.heap.size):=(by show _<=_;omega);clear hw2 f0 f1 hb2 hz2;go_loopw [12,3] (fun ti o wr=>∃k:Nat,ti=.int .i64 k/\k<=2/\Hid (YM wr w2.heap.size o (Zaq a b k))/\Hid (Below w2.heap.size w2 wr)) (fun ti _ _=>2-(intOf ti).toNat)
 case atStart=>exact⟨0,rfl,Qg _,YM.nil _ _,Below.refl _ _⟩
 case round=>
  obtain⟨k,rfl,hk,HO,HB⟩:=hrel;obtain⟨_,d0,d1⟩:=HC.out wr HB.out;have hsz:=HB.out.size;have hlen:=ZgB a b k
  rcases(show k=0∨k=1∨k=2 by omega) with rfl|rfl|rfl
  ·cases a with
   | none=>
    have HF:Hid (YM wr w2.heap.size u3 (Zaq none b 1)):=HO;clear HO hlen;go_wp2;go_roundw;case rel=>exact⟨1,by go_num,by omega,HF,HB⟩
    case measure=>simp[intOf]
   | some p=>
    go_wp2_with (at_builtin;refine ZbI rfl (.tmp 18) (.tmp 20) rfl w2.heap.size _ (Zaq (some p) b 0) (some p) rfl (HO.out.alloc _) wr.heap.size 1 rfl ?_ ?_ ?_ ?_)
    ·simp[go_sem]
    omega;simp;omega;intro v3 w3 H3;have HF:Hid (YM w3 w2.heap.size v3 (Zaq (some p) b 1)):=H3.out.1;have HB3:Hid (Below w2.heap.size w2 w3):=HB.out.trans (((Below.refl w2.heap.size wr).alloc hsz _).grown H3.out.2 (by simp;omega) (fun k hk=>(HO.out.lt k hk).1));clear HB HO H3 d0 d1;go_wp2;go_roundw;case rel=>exact⟨1,by go_num,by omega,HF,HB3⟩
    case measure=>simp[intOf]
  ·cases b with
   | none=>
    have HF:Hid (YM wr w2.heap.size u3 (Zaq a none 2)):=by have e:Zaq a none 2=Zaq a none 1:=(by simp[Zaq]);show YM _ _ _ _;rw[e];exact HO.out
    clear HO hlen;go_wp2;go_roundw;case rel=>exact⟨2,by go_num,by omega,HF,HB⟩
    case measure=>simp[intOf]
   | some p=>
    go_wp2_with (at_builtin;refine ZbI rfl (.tmp 18) (.tmp 20) rfl w2.heap.size _ (Zaq a (some p) 1) (some p) rfl (HO.out.alloc _) wr.heap.size 1 rfl ?_ ?_ ?_ ?_)
    ·simp[go_sem]
    omega;simp;omega;intro v3 w3 H3;have HF:Hid (YM w3 w2.heap.size v3 (Zaq a (some p) 2)):=by have e:Zaq a (some p) 2=Zaq a (some p) 1++[some p]:=(by simp[Zaq]);show YM _ _ _ _;rw[e];exact H3.out.1
    have HB3:Hid (Below w2.heap.size w2 w3):=HB.out.trans (((Below.refl w2.heap.size wr).alloc hsz _).grown H3.out.2 (by simp;omega) (fun k hk=>(HO.out.lt k hk).1));clear HB HO H3 d0 d1;go_wp2;go_roundw;case rel=>exact⟨2,by go_num,by omega,HF,HB3⟩
    case measure=>simp[intOf]
  have HF:Hid (YM wr w.heap.size u3 (Zaq a b 2)/\Below w.heap.size w wr):=⟨HO.out.mono HZ2.out,(HC.out wr HB.out).1⟩;clear HO HB d0 d1;go_wp2;go_ret;exact⟨_,rfl,HF.out⟩
def Zcn:Option ByteArray->Nat
 |none=>0
 |some t=>t.size
def Zbm(Fs:List (Nat×ByteArray))(k:Nat):Nat:=((Fs.take k).map (fun x=>x.2.size)).sum
theorem Zhm{Fs:List (Nat×ByteArray)}{k:Nat}(h:k<Fs.length):Zbm Fs (k+1)=Zbm Fs k+(Fs.getD k (0,⟨#[]⟩)).2.size:=by unfold Zbm;rw[Qi h,List.map_append,List.sum_append,Qc,Qd h];simp
theorem ZnC(a b:Option Addr)(Fs:List (Nat×ByteArray))(w:World)(hF:Zaq a b 2=Fs.map (fun x=>some ⟨x.1,0,none⟩))(hc:∀x∈Fs,x.1<w.heap.size/\w.cell? ⟨x.1,0,none⟩=some (.string x.2)/\x.2.size<=1000000):Calls Tryz.prog 170 #[.agg #[.pointer a,.pointer b]] w fun e w'=>e=.returned (.int .i64 (Zbm Fs Fs.length:Nat))/\Below w.heap.size w w':=by
 have HA:Hid (∀W:World,Calls Tryz.prog 171 #[.agg #[.pointer a,.pointer b]] W fun e w'=>∃v,e=.returned v/\YM w' W.heap.size v (Zaq a b 2)/\Below W.heap.size W w'):=fun W=>Zim _ _ W;have hl2:Fs.length<=2:=(by have:=ZgB a b 2;rw[hF,List.length_map] at this;exact this);obtain⟨n,hn⟩:∃n,n=Fs.length:=⟨_,rfl⟩;have HN:Hid (Fs.length=n):=hn.symm;have HF:Hid (Zaq a b 2=Fs.map (fun x=>some ⟨x.1,0,none⟩)):=hF;have HC:Hid (∀x∈Fs,x.1<w.heap.size/\w.cell? ⟨x.1,0,none⟩=some (.string x.2)/\x.2.size<=1000000):=hc
 have HS:Hid (∀k,Zbm Fs k<=k*1000000):=fun k=>by
  induction k with
  |zero=>simp[Zbm]
  | succ k ih=>
   rcases Nat.lt_or_ge k Fs.length with h|h
   rw[Zhm h];have:=(hc _ (Qf h)).2.2;rw[Qc,Qd h,Option.getD_some];omega;have:Zbm Fs (k+1)=Zbm Fs k:=(by unfold Zbm;rw[List.take_of_length_le h,List.take_of_length_le (by omega)]);omega
 rw[<- hn] at hl2 ⊢;clear hF hc hn;go_enter Tryz.func170,Tryz.ntmps170;go_wp2_with fail
 refine(HA.out _).mono ?_;rintro e w1 ⟨v,rfl,hO,hb⟩;rw[HF.out] at hO;obtain⟨q,c,rfl⟩:=hO.form;rw[List.length_map,HN.out] at hO ⊢;have HB1:Hid (Below w.heap.size w w1):=((Below.refl _ _).alloc (Qa _) _).trans (hb.mono (by simp))
 have HO:Hid (∀k,k<n->∃g,q=some ⟨g,0,none⟩/\w1.cell? ⟨g,k,none⟩=some (.pointer (some ⟨(Fs.getD k (0,⟨#[]⟩)).1,0,none⟩))/\w1.cell? ⟨(Fs.getD k (0,⟨#[]⟩)).1,0,none⟩=some (.string (Fs.getD k (0,⟨#[]⟩)).2)/\(Fs.getD k (0,⟨#[]⟩)).2.size<=1000000):=fun k hk=>by obtain⟨g,e1,e2⟩:=hO.at_ (by rw[List.length_map];exact HN.out) hk;have hk2:k<Fs.length:=(by rw[HN.out];exact hk);have e3:Fs.getD k (0,⟨#[]⟩)=Fs[k]:=(by rw[Qc,Qd hk2];rfl);have hx:=HC.out _ (Qf hk2);rw[e3];refine⟨g,e1,?_,(HB1.out.cell (p:=⟨Fs[k].1,0,none⟩) hx.1).trans hx.2.1,hx.2.2⟩;rw[e2,Qc,List.getElem?_map,Qd hk2];rfl
 clear hO hb HA HC HF;go_wp2_with fail
 go_loopw [9,3] (fun ti o wr=>∃k:Nat,ti=.int .i64 k/\k<=n/\o=.int .i64 (Zbm Fs k:Nat)/\Hid (w1=wr)) (fun ti _ _=>n-(intOf ti).toNat)
 case atStart=>exact⟨0,rfl,Qg _,by simp[Zbm],rfl⟩
 case round=>
  obtain⟨k,rfl,hk,rfl,hw⟩:=hrel;have hw2:=hw.out;subst hw2;clear hw;have hsk:=HS.out k
  by_cases hkn:k<n
  ·obtain⟨g,rfl,g0,g1,g2⟩:=HO.out k hkn;have HX:Hid (Zbm Fs (k+1)=Zbm Fs k+(Fs.getD k (0,⟨#[]⟩)).2.size):=Zhm (by rw[HN.out];exact hkn);generalize Zbm Fs k=S at *;generalize Fs.getD k (0,⟨#[]⟩)=x at *;obtain⟨xb,xt⟩:=x;simp only at g0 g1 g2 HX;have b1:(0:Int)<=(k:Int):=(by omega);have b2:(k:Int)<(n:Int):=(by omega);go_wp2;go_roundw;case rel=>exact⟨k+1,by go_num,by omega,by rw[HX.out];go_num,True.intro⟩
   case measure=>simp[intOf];omega
  have hnk:¬(k:Int)<(n:Int):=(by omega);have e:k=n:=(by omega);subst e;go_wp2;go_ret;exact⟨rfl,HB1.out⟩
theorem Zas.touch{w w':World}{S:Nat->Prop}{v:Option Addr}{o:Option ByteArray}(h:Zas w v o)(t:Za S w w')(hs:∀fb,v=some ⟨fb,0,none⟩->¬S fb):Zas w' v o:=by
 cases o with
 |none=>exact h
 | some b=>
  obtain⟨fb,e,hf⟩:=h;exact⟨fb,e,hf.touch t (hs fb e)⟩
theorem Zas.below{w w':World}{v:Option Addr}{o:Option ByteArray}(h:Zas w v o)(hb:Below w.heap.size w w'):Zas w' v o:=h.touch (Za.of_below (S:=fun _=>False) hb) (fun _ _=>id)
theorem Zp3(fb:Nat)(t:ByteArray)(keep:Nat)(w:World)(h:QH w fb t t.size)(ht:t.size<=1000000)(hk:keep<=1000000):Calls Tryz.prog 172 #[.pointer (some ⟨fb,0,none⟩),.int .i64 (keep:Nat)] w fun e w'=>e=.returned (.tuple #[])/\QH w' fb t t.size/\Za (fun k=>k=fb) w w':=by
 obtain⟨f0,f1,ff⟩:=h.cells;have H:Hid (QH w fb t t.size):=h;have HE:Hid (t.extract 0 t.size=t):=(by show _=_;exact ByteArray.extract_zero_size);go_enter Tryz.func172,Tryz.ntmps172;go_upto_region 0 with fail;go_quiet (fail);go_upto_region 1 with fail;generalize hw1:w.drewN nq=w1;have hb1:Below w.heap.size w w1:=(by rw[<- hw1];exact below_drewN (Below.refl _ _) _);have H1:Hid (QH w1 fb t t.size):=h.touch (Za.of_below (S:=fun _=>False) hb1) id;have HB:Hid (Below w.heap.size w w1):=hb1;clear hw1 hb1 f0 f1 ff h;obtain⟨f0,f1,ff⟩:=H1.out.cells;have b0:(0:Int)<=(t.size:Int):=(by omega);have b1:(if 0<keep then(0:Int) else(keep:Int))=0:=(by split<;>omega);have b2:IntKind.i64.wrap ((t.size:Int))=(t.size:Int):=Zz (by omega) (by omega);have b3:t.extract 0 t.size=t:=HE.out
 refine Zo (fun w'=>w'.cell? ⟨fb,0,none⟩=some (.string t)/\w'.cell? ⟨fb,1,none⟩=some (.int .i64 (t.size:Nat))) 16 (by kernel_rfl) ⟨f0,f1⟩ (fun hHeld=>?_);refine Zm 0 ?_;refine Zm 1 ?_;refine Zm 2 ?_;refine Zm 3 ?_;refine Zm 4 ?_;refine Zm 5 ?_;refine Zm 6 ?_;refine Zm 7 ?_;refine Zm 8 ?_;refine Zm 9 ?_;refine Zm 10 ?_;refine Zm 11 ?_;refine Zm 12 ?_;refine Zm 13 ?_;refine Zm 14 ?_;refine Zm 15 ?_;refine Zh (i:=16) (by kernel_rfl) rfl (by kernel_rfl) (fun KK hK=>?_);go_simp;refine hK.out _ _ ?_;clear hK KK;try simp only[Act.put,tA,tB,tC]
 refine Zj (by kernel_rfl) ?_ _;have HF:Hid (QH (w1.setCell ⟨fb,0,none⟩ (.string t)).drew fb t t.size/\Za (fun k=>k=fb) w (w1.setCell ⟨fb,0,none⟩ (.string t)).drew):=⟨heap_setCell_same _ fb 0 _ 196 _ H1.out,((Za.of_below (S:=fun k=>k=fb) HB.out).setCell (p:=⟨fb,0,none⟩) (fun _=>rfl) _).drew⟩;clear hHeld f0 f1 ff b0 b1 b2 b3;go_wp2;go_end0;exact⟨rfl,HF.out⟩
theorem QH.lt{w:World}{fb s:Nat}{t:ByteArray}(h:QH w fb t s):fb<w.heap.size:=(Qb h).1
theorem Z8.lt{w:World}{db room:Nat}{dn:Bool}{fr ca sf sc fl:Option Addr}(h:Z8 w db room dn fr ca sf sc fl):db<w.heap.size:=(Qb h).1
theorem Z8.ne{w:World}{db room fb s:Nat}{t:ByteArray}{dn:Bool}{fr ca sf sc fl:Option Addr}(h:Z8 w db room dn fr ca sf sc fl)(hf:QH w fb t s):fb≠db:=fun e=>by subst e;unfold Z8 at h;unfold QH at hf;rw[h] at hf;simp at hf
def Zgk(db:Nat)(sc:Option Addr)(k:Nat):Prop:=k=db∨sc=some ⟨k,0,none⟩
theorem ZdP(db room:Nat)(dn:Bool)(fr ca sc fl:Option Addr)(o:Option ByteArray)(keep:Nat)(w:World)(h:Z8 w db room dn fr ca none sc fl)(ho:Zas w sc o)(hl:Zcn o<=1000000)(hk:keep<=1000000):Calls Tryz.prog 111 #[.pointer (some ⟨db,0,none⟩),.int .i64 (keep:Nat)] w fun e w'=>e=.returned (.tuple #[])/\Z8 w' db room true none sc none sc none/\Zas w' sc o/\Za (Zgk db sc) w w':=by
 obtain⟨c0,c1,c2,c3,c4,c5,c6,cf⟩:=h.cells;have HA:Hid (∀W:World,Calls Tryz.prog 171 #[.agg #[.pointer none,.pointer sc]] W fun e w'=>∃v,e=.returned v/\YM w' W.heap.size v (Zaq none sc 2)/\Below W.heap.size W w'):=fun W=>Zim _ _ W;have hdl:=h.lt;have H:Hid (Z8 w db room dn fr ca none sc fl):=h;have HO:Hid (Zas w sc o):=ho;clear h ho;go_enter Tryz.func111,Tryz.ntmps111;go_upto_region 1 with fail;generalize hw1:(w.setCell ⟨db,2,none⟩ (.pointer none)).setCell ⟨db,3,none⟩ (.pointer sc)=w1;have hT1:Za (fun k=>k=db) w w1:=(by rw[<- hw1];exact((Za.refl (fun k=>k=db) w).setCell (p:=⟨db,2,none⟩) (fun _=>rfl) _).setCell (p:=⟨db,3,none⟩) (fun _=>rfl) _);have hD1:Z8 w1 db room dn none sc none sc fl:=by rw[<- hw1];exact heap_setCell_same _ db 3 _ 192 _ (heap_setCell_same _ db 2 _ 192 _ H.out)
 have hO1:Zas w1 sc o:=HO.out.touch hT1 (fun fb e=>by
  cases o with
  |none=>have e2:sc=none:=HO.out;rw[e2] at e;cases e
  | some t=>
   obtain⟨fb',e2,hf⟩:=HO.out;rw[e2] at e;injection e with e;injection e with e;subst e
   exact H.out.ne hf)
 have HW1:Hid (Z8 w1 db room dn none sc none sc fl/\Zas w1 sc o/\Za (Zgk db sc) w w1):=⟨hD1,hO1,hT1.mono (fun _ _ e=>.inl e)⟩;clear hw1 hT1 hD1 hO1 c0 c1 c2 c3 c4 c5 c6 cf HO H;obtain⟨c0,c1,c2,c3,c4,c5,c6,cf⟩:=HW1.out.1.cells;have hs1:=HW1.out.2.2.size;go_wp2_with fail
 refine(HA.out _).mono ?_;rintro e w2 ⟨v,rfl,hOw,hb2⟩;have HW2:Hid (Z8 w2 db room dn none sc none sc fl/\Zas w2 sc o/\Za (Zgk db sc) w w2):=⟨HW1.out.1.touch (Za.of_below (S:=fun _=>False) hb2) id,HW1.out.2.1.below hb2,HW1.out.2.2.below hb2⟩;obtain⟨q,c,rfl⟩:=hOw.form
 have HQ:Hid (∀k,k<(Zaq none sc 2).length->∃g fb t,q=some ⟨g,0,none⟩/\w2.cell? ⟨g,k,none⟩=some (.pointer (some ⟨fb,0,none⟩))/\sc=some ⟨fb,0,none⟩/\o=some t/\g≠fb/\g≠db/\g<w2.heap.size):=fun k hk=>by
  obtain⟨g,e1,e2⟩:=hOw.at_ rfl hk
  cases o with
  | none=>
   have e3:sc=none:=HW2.out.2.1;rw[e3] at hk;simp[Zaq] at hk
  | some t=>
   obtain⟨fb,e3,hf⟩:=HW1.out.2.1;have e4:Zaq none sc 2=[some ⟨fb,0,none⟩]:=(by rw[e3];simp[Zaq]);rw[e4] at hk e2
   have hk0:k=0:=by simpa using hk
   subst hk0;have hg:=hOw.lt g (by rw[e1];rfl);have:=hf.lt;have:=HW1.out.1.lt;exact⟨g,fb,t,e1,e2,e3,rfl,by omega,by omega,hg.2⟩
 have hn2:=ZgB none sc 2;generalize (Zaq none sc 2).length=n at *;clear hOw hb2 HA HW1 c0 c1 c2 c3 c4 c5 c6 cf;go_wp2_with fail
 go_loopw [19] (fun ti wr=>∃k:Nat,ti=.int .i64 k/\k<=n/\Hid (Z8 wr db room dn none sc none sc fl/\Zas wr sc o/\Za (Zgk db sc) w wr/\Za (Zgk db sc) w2 wr)) (fun ti _=>n-(intOf ti).toNat)
 case atStart=>exact⟨0,rfl,Qg _,HW2.out.1,HW2.out.2.1,HW2.out.2.2,Za.refl _ _⟩
 case round=>
  obtain⟨k,rfl,hkn,HR⟩:=hrel
  by_cases hkm:k<n
  ·obtain⟨g,fb,t,rfl,e2,rfl,rfl,hgf,hgd,hgl⟩:=HQ.out k hkm;obtain⟨fb',e3,hf⟩:=HR.out.2.1;injection e3 with e3;injection e3 with e3;subst e3
   have d0:wr.cell? ⟨g,k,none⟩=some (.pointer (some ⟨fb,0,none⟩)):=by
    have hbk:=HR.out.2.2.2.block g hgl (fun hS=>by
     rcases hS with h1|h1
     exact hgd h1
     injection h1 with h1;injection h1 with h1;exact hgf h1.symm)
    rw[<- e2];unfold World.cell?;rw[hbk]
   have hLo:=Zp3 fb t keep wr hf hl hk;have b1:(0:Int)<=(k:Int):=(by omega);have b2:(k:Int)<(n:Int):=(by omega);clear hf e2;go_wp2_with fail
   refine hLo.mono ?_;rintro e w3 ⟨rfl,hf3,ht3⟩;have HR3:Hid (Z8 w3 db room dn none (some ⟨fb,0,none⟩) none (some ⟨fb,0,none⟩) fl/\Zas w3 (some ⟨fb,0,none⟩) (some t)/\Za (Zgk db (some ⟨fb,0,none⟩)) w w3/\Za (Zgk db (some ⟨fb,0,none⟩)) w2 w3):=⟨HR.out.1.touch ht3 (fun e=>HR.out.1.ne (HR.out.2.1.elim (fun x hx=>by obtain⟨e1,e2⟩:=hx;injection e1 with e1;injection e1 with e1;subst e1;exact e2)) e.symm),⟨fb,rfl,hf3⟩,HR.out.2.2.1.trans (ht3.mono (fun k _ e=>.inr (by rw[e]))),HR.out.2.2.2.trans (ht3.mono (fun k _ e=>.inr (by rw[e])))⟩;clear hf3 ht3 hLo HR d0;go_wp2;go_roundw;case rel=>exact⟨k+1,by go_num,by omega,HR3⟩
   case measure=>simp[intOf];omega
  have hnk:¬(k:Int)<(n:Int):=(by omega);obtain⟨c0,c1,c2,c3,c4,c5,c6,cf⟩:=HR.out.1.cells
  have HF:Hid (Z8 ((wr.setCell ⟨db,6,none⟩ (.pointer none)).setCell ⟨db,1,none⟩ (.bool true)) db room true none sc none sc none/\Zas ((wr.setCell ⟨db,6,none⟩ (.pointer none)).setCell ⟨db,1,none⟩ (.bool true)) sc o/\Za (Zgk db sc) w ((wr.setCell ⟨db,6,none⟩ (.pointer none)).setCell ⟨db,1,none⟩ (.bool true))):=by
   have ht:Za (fun k=>k=db) wr ((wr.setCell ⟨db,6,none⟩ (.pointer none)).setCell ⟨db,1,none⟩ (.bool true)):=((Za.refl (fun k=>k=db) wr).setCell (p:=⟨db,6,none⟩) (fun _=>rfl) _).setCell (p:=⟨db,1,none⟩) (fun _=>rfl) _;refine⟨heap_setCell_same _ db 1 _ 192 _ (heap_setCell_same _ db 6 _ 192 _ HR.out.1),HR.out.2.1.touch ht (fun fb e e'=>?_),HR.out.2.2.1.trans (ht.mono (fun _ _ e=>.inl e))⟩
   cases o with
   |none=>have e2:sc=none:=HR.out.2.1;rw[e2] at e;cases e
   | some t=>
    obtain⟨fb',e2,hf⟩:=HR.out.2.1;rw[e2] at e;injection e with e;injection e with e;subst e;exact HR.out.1.ne hf e'
  clear HR;go_wp2;go_end0;exact⟨rfl,HF.out⟩
theorem Zn2(t:ByteArray):(⟨#[]⟩:ByteArray)++t=t:=by exact ByteArray.empty_append
def WrP(fb L room:Nat)(t:ByteArray)(w:World)(e:Ending)(w':World):Prop:=(room<L+t.size->e=.returned (.int .i64 7)/\Below w.heap.size w w')/\(L+t.size<=room->e=.returned (.int .i64 0)/\QH w' fb t 0/\Za (fun k=>k=fb) w w')
theorem Zpa(db room fb:Nat)(t:ByteArray)(dn:Bool)(ca sf sc fl:Option Addr)(o:Option ByteArray)(w:World)(h:Z8 w db room dn (some ⟨fb,0,none⟩) ca sf sc fl)(hf:QH w fb ⟨#[]⟩ 0)(ho:Zas w ca o)(hl:Zcn o<=1000000)(ht:t.size<=1000000):Calls Tryz.prog 105 #[.pointer (some ⟨db,0,none⟩),.string t] w fun e w'=>WrP fb (Zcn o) room t w e w':=by
 obtain⟨c0,c1,c2,c3,c4,c5,c6,cf⟩:=h.cells;have hdl:=h.lt;have hfl:=hf.lt
 have HSZ:Hid (∀W:World,Below w.heap.size w W->Calls Tryz.prog 170 #[.agg #[.pointer (some ⟨fb,0,none⟩),.pointer ca]] W fun e w'=>e=.returned (.int .i64 (Zcn o:Nat))/\Below w.heap.size w w'):=fun W hW=>by
  have hf0:=hf.cells.1
  cases o with
  | none=>
   have e:ca=none:=ho;subst e;refine(ZnC _ _ [(fb,⟨#[]⟩)] W (by simp[Zaq]) ?_).mono (fun _ _ h=>⟨h.1,hW.trans (h.2.mono hW.size)⟩);intro x hx;rw[List.mem_singleton.1 hx];exact⟨Qh hfl hW.size,(hW.cell (p:=⟨fb,0,none⟩) hfl).trans hf0,Qg _⟩
  | some u=>
   obtain⟨cb,rfl,hc⟩:=ho;refine(ZnC _ _ [(fb,⟨#[]⟩),(cb,u)] W (by simp[Zaq]) ?_).mono (fun e w' h=>⟨by rw[h.1];simp[Zbm,Zcn,show(⟨#[]⟩:ByteArray).size=0 from rfl],hW.trans (h.2.mono hW.size)⟩);intro x hx;simp only[List.mem_cons,List.not_mem_nil,or_false] at hx
   rcases hx with rfl|rfl
   exact⟨Qh hfl hW.size,(hW.cell (p:=⟨fb,0,none⟩) hfl).trans hf0,Qg _⟩;exact⟨Qh hc.lt hW.size,(hW.cell (p:=⟨cb,0,none⟩) hc.lt).trans hc.cells.1,hl⟩
 have H:Hid (Z8 w db room dn (some ⟨fb,0,none⟩) ca sf sc fl/\QH w fb ⟨#[]⟩ 0):=⟨h,hf⟩;clear h hf ho c1 c4 c5 c6;generalize Zcn o=L at *;go_enter Tryz.func105,Tryz.ntmps105;go_upto_region 1 with fail;refine Zo (fun w'=>w'.cell? ⟨db,0,none⟩=some (.int .i64 (room:Nat))/\w'.cell? ⟨db,2,none⟩=some (.pointer (some ⟨fb,0,none⟩))/\w'.cell? ⟨db,3,none⟩=some (.pointer ca)) 12 (by kernel_rfl) ⟨c0,c2,c3⟩ (fun hHeld=>?_);refine Zm 0 ?_;refine Zm 1 ?_;refine Zm 2 ?_;refine Zm 3 ?_;refine Zm 5 ?_;refine Zm 6 ?_;refine Zm 8 ?_;refine Zm 9 ?_;refine Zm 10 ?_;refine Zm 11 ?_;refine Zc (i:=4) (by kernel_rfl) rfl (fun KK hK=>?_);go_simp;refine(HSZ.out w.drew (Below.refl _ _).drew).mono ?_;rintro e w1 ⟨rfl,hb1⟩
 have hHeld2:w1.cell? ⟨db,0,none⟩=some (.int .i64 (room:Nat))/\w1.cell? ⟨db,2,none⟩=some (.pointer (some ⟨fb,0,none⟩))/\w1.cell? ⟨db,3,none⟩=some (.pointer ca):=⟨(hb1.cell (p:=⟨db,0,none⟩) hdl).trans c0,(hb1.cell (p:=⟨db,2,none⟩) hdl).trans c2,(hb1.cell (p:=⟨db,3,none⟩) hdl).trans c3⟩;have HB1:Hid (Below w.heap.size w w1):=hb1;clear hb1;go_simp;refine hK.out _ _ hHeld2 (fun hHeld=>?_);clear hK KK;try simp only[Act.put,tA,tB,tC]
 refine Zm 7 ?_;refine Zh (i:=12) (by kernel_rfl) rfl (by kernel_rfl) (fun KK hK=>?_);go_simp;refine hK.out _ _ ?_;clear hK KK;try simp only[Act.put,tA,tB,tC]
 refine Zj (by kernel_rfl) ?_ _;have hwr:IntKind.i64.wrap ((L:Int)+(t.size:Int))=(L:Int)+(t.size:Int):=Zz (by omega) (by omega);rw[hwr];clear hwr hHeld2 c0 c2 c3 HSZ cf;obtain⟨d0,d2,d3⟩:=hHeld;have HF1:Hid (QH w1 fb ⟨#[]⟩ 0):=H.out.2.touch (Za.of_below (S:=fun _=>False) HB1.out) id;obtain⟨f0,f1,ff⟩:=HF1.out.cells
 by_cases hx:room<L+t.size
 ·have b1:(room:Int)<(L:Int)+(t.size:Int):=(by omega);go_wp2;go_ret;exact⟨fun _=>⟨rfl,HB1.out⟩,fun h=>absurd hx (by omega)⟩
 have b1:¬(room:Int)<(L:Int)+(t.size:Int):=(by omega);have b2:=Zn2 t;have b3:(⟨#[]⟩:ByteArray).size+t.size<=9223372036854775807:=(by show 0+_<=_;omega);go_wp2;go_ret;refine⟨fun h=>absurd h hx,fun _=>⟨rfl,heap_setCell_same _ fb 0 _ 196 _ HF1.out,(Za.of_below (S:=fun k=>k=fb) HB1.out).setCell (p:=⟨fb,0,none⟩) (fun _=>rfl) _⟩⟩
def ZfM(w:World)(fp s k:Nat):Prop:=w.heap[fp]? =some (.cells #[.int .i64 (s:Nat),.int .i64 (k:Nat)] 199 (0,0))
theorem ZfM.cells{w:World}{fp s k:Nat}(h:ZfM w fp s k):w.cell? ⟨fp,0,none⟩=some (.int .i64 (s:Nat))/\w.cell? ⟨fp,1,none⟩=some (.int .i64 (k:Nat))/\(∀o,w.frozen? ⟨fp,o,none⟩=false):=by unfold ZfM at h;refine⟨?_,?_,fun o=>frozen_of_row w fp o _ 199 h⟩<;>simp[World.cell?,h]
def ZcC(w:World)(fl:Option Addr)(f:Option (Nat×Nat)):Prop:=match f with
 |none=>fl=none
 |some (s,k)=>∃fp,fl=some ⟨fp,0,none⟩/\ZfM w fp s k/\s<=1000/\k<=1000000
def Zs5:Option (Nat×Nat)->Option (Nat×Nat)
  |some (s+1,k)=>some (s,k)
  |f=>f
def FlS(fl:Option Addr)(k:Nat):Prop:=fl=some ⟨k,0,none⟩
theorem Z8.nf{w:World}{db room fp s k:Nat}{dn:Bool}{fr ca sf sc fl:Option Addr}(h:Z8 w db room dn fr ca sf sc fl)(hf:ZfM w fp s k):fp≠db:=fun e=>by subst e;unfold Z8 at h;unfold ZfM at hf;rw[h] at hf;simp at hf
def TkP(db room:Nat)(sc:Option Addr)(o:Option ByteArray)(f:Option (Nat×Nat))(R:Int->World->Prop)(w:World)(e:Ending)(w':World):Prop:=match f with
 |some (0,_)=>e=.returned (.int .i64 6)/\Z8 w' db room true none sc none sc none/\Zas w' sc o/\Za (Zgk db sc) w w'
 |_=>∃z,e=.returned (.int .i64 z)/\R z w'
theorem Zn0(db room n:Nat)(dn:Bool)(fr ca sc fl:Option Addr)(bv cv:Array Value)(f:Option (Nat×Nat))(o:Option ByteArray)(w:World)(h:Z8 w db room dn fr ca none sc fl)(hf:ZcC w fl f)(ho:Zas w sc o)(hl:Zcn o<=1000000)(hcf:∀W:World,Sem.run Tryz.prog (callFunc n (bv++cv)) W=.ok (.enter n (bv++cv)) W)(R:Int->World->Prop)(hstep:∀W,Za (FlS fl) w W->ZcC W fl (Zs5 f)->Calls Tryz.prog n (bv++cv) W fun e w'=>∃z,e=.returned (.int .i64 z)/\R z w'):Calls Tryz.prog 110 #[.pointer (some ⟨db,0,none⟩),.func (.func n) bv cv] w fun e w'=>TkP db room sc o f R w e w':=by
 obtain⟨c0,c1,c2,c3,c4,c5,c6,cf⟩:=h.cells
 cases f with
 | none=>
  have e:fl=none:=hf;subst e;have hs:=hstep w (Za.refl _ _) rfl;clear h hf ho hstep;go_enter Tryz.func110,Tryz.ntmps110;go_wp2_with fail
  refine hs.mono ?_;rintro e w1 ⟨z,rfl,hR⟩;have HR:Hid (R z w1):=hR;clear hR hs;go_wp2;go_ret;exact⟨z,rfl,HR.out⟩
 | some p=>
  obtain⟨s,k⟩:=p;obtain⟨fp,rfl,hF,hs1,hk1⟩:=hf;obtain⟨f0,f1,ff⟩:=hF.cells
  cases s with
  | zero=>
   have hL:=ZdP db room dn fr ca sc (some ⟨fp,0,none⟩) o k w h ho hl hk1;clear h ho hstep;go_enter Tryz.func110,Tryz.ntmps110;go_wp2_with fail
   refine hL.mono ?_;rintro e w1 ⟨rfl,h1,h2,h3⟩;have HR:Hid (Z8 w1 db room true none sc none sc none/\Zas w1 sc o/\Za (Zgk db sc) w w1):=⟨h1,h2,h3⟩;clear hL h1 h2 h3;go_wp2;go_ret;exact⟨rfl,HR.out⟩
  | succ s=>
   have ht:Za (FlS (some ⟨fp,0,none⟩)) w (w.setCell ⟨fp,0,none⟩ (.int .i64 (s:Nat))):=(Za.refl (FlS (some ⟨fp,0,none⟩)) w).setCell (p:=⟨fp,0,none⟩) (fun _=>rfl) _;have hs:=hstep _ ht ⟨fp,rfl,heap_setCell_same _ fp 0 _ 199 _ hF,by omega,hk1⟩;have hne:fp≠db:=h.nf hF;have b1:(((s+1:Nat):Int)==0)=false:=beq_eq_false_iff_ne.2 (by omega);have b2:((s+1:Nat):Int)-1=(s:Int):=(by omega);clear h ho hstep ht;generalize hS:((s+1:Nat):Int)=S at *;go_enter Tryz.func110,Tryz.ntmps110;go_wp2_with fail
   refine hs.mono ?_;rintro e w1 ⟨z,rfl,hR⟩;have HR:Hid (R z w1):=hR;clear hR hs;go_wp2;go_ret;exact⟨z,rfl,HR.out⟩
def Yp:Except (Int×Nat) RS->Int×Int
  |.error (z,p)=>(z,p)
  |.ok _=>(0,0)
def ZjI(w:World)(ib:Nat)(cl:Bool)(z p:Int):Prop:=w.heap[ib]? =some (.cells #[.pointer none,.bool cl,.int .i64 z,.int .i64 p] 119 (0,0))
section
variable {w:World} {K M:Nat->Prop} {ib tb rb fb cb n:Nat} {wd:Nat->Bool} {sc ct:Nat->Int} {bins size budget:Int} {s:RS} {len:Nat}
theorem ZjJ.drewN{o:Except (Int×Nat) RS}{w':World}(h:ZjJ w K M ib tb rb fb cb n wd sc ct bins size budget len o w')(m:Nat):ZjJ w K M ib tb rb fb cb n wd sc ct bins size budget len o (w'.drewN m):=by
 obtain⟨h1,h2⟩:=h;refine⟨?_,⟨h2.os,h2.tape,h2.output,h2.size,h2.block⟩⟩
 cases o with
 |error q=>exact h1
 | ok s'=>
  obtain⟨M',hX,hM⟩:=h1;exact⟨M',⟨hX.ik,hX.tx,hX.rd.touch (w':=w'.drewN m) (S:=fun _=>False) ⟨rfl,rfl,rfl,Qa _,fun _ _ _=>rfl⟩ (fun _ _=>id),hX.ni,hX.nt⟩,hM⟩
theorem ZpQ(b:ByteArray)(hX:InX w K M ib tb rb fb cb n wd sc ct bins size budget s len)(hI:Q4 n s)(hn1:1<=n)(hn:n<=4)(hsc:∀i,i<n->wd i=false->0<=sc i/\sc i<=3)(hlen:len+b.size<=4000000000000000000):Calls Tryz.prog 32 #[.pointer (some ⟨ib,0,none⟩),.string b] w fun e w'=>e=.returned (.tuple #[.int .i64 (Yp (Zk n wd sc s (Zb b) len)).1,.int .i64 (Yp (Zk n wd sc s (Zb b) len)).2])/\ZjJ w K M ib tb rb fb cb n wd sc ct bins size budget (len+b.size) (Zk n wd sc s (Zb b) len) w':=by
 have HC:Hid (Calls Tryz.prog 58 #[.pointer (some ⟨ib,0,none⟩),.string b] w fun e w'=>e=.returned (.tuple #[])/\ZjJ w K M ib tb rb fb cb n wd sc ct bins size budget (len+b.size) (Zk n wd sc s (Zb b) len) w'):=ZlY b hX hI hn1 hn hsc hlen;have i1:w.cell? ⟨ib,1,none⟩=some (.bool false):=cell_of_row _ _ 1 _ 119 (0,0) hX.ik;have i2:w.cell? ⟨ib,2,none⟩=some (.int .i64 0):=cell_of_row _ _ 2 _ 119 (0,0) hX.ik;clear hX;go_enter Tryz.func32,Tryz.ntmps32;go_wp2_with fail
 refine HC.out.mono ?_;rintro e w1 ⟨rfl,hF⟩;have HF:Hid (ZjJ w K M ib tb rb fb cb n wd sc ct bins size budget (len+b.size) (Zk n wd sc s (Zb b) len) w1):=hF
 have hc:w1.cell? ⟨ib,2,none⟩=some (.int .i64 (Yp (Zk n wd sc s (Zb b) len)).1)/\w1.cell? ⟨ib,3,none⟩=some (.int .i64 (Yp (Zk n wd sc s (Zb b) len)).2):=by
  cases hr:Zk n wd sc s (Zb b) len with
  | error q=>
   rw[hr] at hF;exact⟨cell_of_row _ _ 2 _ 119 (0,0) hF.1,cell_of_row _ _ 3 _ 119 (0,0) hF.1⟩
  | ok s'=>
   rw[hr] at hF;obtain⟨⟨M',hX,_⟩,_⟩:=hF;exact⟨cell_of_row _ _ 2 _ 119 (0,0) hX.ik,cell_of_row _ _ 3 _ 119 (0,0) hX.ik⟩
 obtain⟨c2,c3⟩:=hc;clear hF i1 i2 HC;go_wp2_with fail
 go_big_quiet (fail);go_wp2;go_ret2
 exact⟨rfl,HF.out.drewN _⟩
end
theorem ZlQ(b:ByteArray)(ib:Nat)(z p:Int)(w:World)(h:ZjI w ib false z p)(hz:z=2∨z=3):Calls Tryz.prog 32 #[.pointer (some ⟨ib,0,none⟩),.string b] w fun e w'=>e=.returned (.tuple #[.int .i64 z,.int .i64 p])/\∃m,w'=w.drewN m:=by
 have i1:w.cell? ⟨ib,1,none⟩=some (.bool false):=cell_of_row _ _ 1 _ 119 (0,0) h;have i2:w.cell? ⟨ib,2,none⟩=some (.int .i64 z):=cell_of_row _ _ 2 _ 119 (0,0) h;have i3:w.cell? ⟨ib,3,none⟩=some (.int .i64 p):=cell_of_row _ _ 3 _ 119 (0,0) h;clear h
 rcases hz with rfl|rfl
 all_goals go_enter Tryz.func32,Tryz.ntmps32
 all_goals go_wp2_with fail
 all_goals go_big_quiet (fail)
 all_goals go_wp2
 all_goals go_ret2
 all_goals exact⟨rfl,_,rfl⟩
end Go.Proofs.YtfcgnpchbcmdeaaGreat
