import Derived.Test.YtfcgnpchbcmdeaaGreatZfaf
import Derived.Test.YtfcgnpchbcmdeaaGreatZfbc
namespace Go.Proofs.YtfcgnpchbcmdeaaGreat
set_option linter.unusedSimpArgs false
set_option maxRecDepth 100000
set_option maxHeartbeats 8000000
open Go.RowKit
def ZdJ(bs:List Int):List Int:=bs.flatMap (fun x=>Zad x 4)
theorem Zlq{L:List Int}{k:Nat}(h:k<L.length):ZdJ (L.take (k+1))=ZdJ (L.take k)++Zad (L.getD k 0) 4:=by unfold ZdJ;rw[Qi h,List.flatMap_append];simp[List.getD,h]
theorem Zh9(L:List Int):(ZdJ L).length=L.length*4:=by
 induction L with
 |nil=>rfl
 | cons x L ih=>
  unfold ZdJ at ih ⊢;rw[List.flatMap_cons,Qe,ih,Zca,List.length_cons];omega
def knB(k:KS):List Int:=[110,((k.d:Nat):Int)%256,((k.e.cnt:Nat):Int)%256]++ZdJ k.e.bs
theorem Zev(W0:World)(ab aw:Option Addr)(cb cw:Nat)(k:KS)(a:Option Addr)(c:Nat)(bs:List Int)(w:World)(hwd:k.e.wd=false)(hI:Ze W0 0 (.slice ab k.e.bs.length cb) k.e.bs)(ho:Ya W0 w (.slice a bs.length c) bs)(hbl1:k.e.bs.length<=1000)(hr:∀x∈k.e.bs,-1000000000000<=x/\x<=1000000000000)(hl:bs.length<=900000):Calls Tryz.prog 100 #[.agg #[.bool k.e.wd,.slice ab k.e.bs.length cb,.slice aw 0 cw,.int .i64 (k.d:Nat)],.slice a bs.length c] w fun e w'=>Zeq W0 (bs++knB k) e w':=by
 rw[hwd];have H0:Hid (Ya W0 w (.slice a bs.length c) bs):=ho;have HI:Hid (Ze W0 0 (.slice ab k.e.bs.length cb) k.e.bs):=hI;have HRg:Hid (∀x∈k.e.bs,-1000000000000<=x/\x<=1000000000000):=hr;have hcnt:k.e.cnt=k.e.bs.length:=by unfold ES.cnt ZaR;rw[hwd];rfl
 have HKB:Hid (knB k=[110,((k.d:Nat):Int)%256,((k.e.bs.length:Nat):Int)%256]++ZdJ k.e.bs):=by show _=_;unfold knB;rw[hcnt]
 have HCT:Hid (∀W:World,Calls Tryz.prog 169 #[.agg #[.bool false,.slice ab k.e.bs.length cb,.slice aw 0 cw]] W fun e w'=>e=.returned (.int .i64 ((k.e.bs.length:Nat):Int))/\Below W.heap.size W w'):=fun W=>ZdN false ab aw _ cb 0 cw W;obtain⟨i0,hinf,hz0,hz1,hz2⟩:=info_parts Zbm;have HR0:Hid (w.ownsRow 0 5 1 (.slice a bs.length c) bs.length (bs.map (Value.int .u8))):=ho.ow;clear hI ho hr hwd hcnt;generalize k.d=d at *;generalize hbl:bs.length=bl at *;generalize hnb:k.e.bs.length=nb at *;have HBL:Hid (bs.length=bl/\k.e.bs.length=nb):=⟨hbl,hnb⟩;clear hbl hnb;go_enter Tryz.func100,Tryz.ntmps100;go_upto_region 4 with fail;generalize hW1:w.alloc (.cells #[.bool false,.slice ab nb cb,.slice aw 0 cw,.int .i64 (d:Nat)] 172)=w1;have hB1:Below w.heap.size w w1:=by rw[<- hW1];exact(Below.refl _ _).alloc (Qa _) _
 have hX1:w1.heap[w.heap.size]? =some (.cells #[.bool false,.slice ab nb cb,.slice aw 0 cw,.int .i64 (d:Nat)] 172 (0,0)):=(by rw[<- hW1];exact heap_alloc_new _ _);have hwl:w.heap.size<w1.heap.size:=(Qb hX1).1;have x0:w1.drew.cell? ⟨w.heap.size,0,none⟩=some (.bool false):=cell_of_row _ _ 0 _ 172 (0,0) hX1;have x1:w1.drew.cell? ⟨w.heap.size,1,none⟩=some (.slice ab nb cb):=cell_of_row _ _ 1 _ 172 (0,0) hX1;have x2:w1.drew.cell? ⟨w.heap.size,2,none⟩=some (.slice aw 0 cw):=cell_of_row _ _ 2 _ 172 (0,0) hX1;have x3:w1.drew.cell? ⟨w.heap.size,3,none⟩=some (.int .i64 (d:Nat)):=cell_of_row _ _ 3 _ 172 (0,0) hX1;have HX1:Hid (w1.heap[w.heap.size]? =some (.cells #[.bool false,.slice ab nb cb,.slice aw 0 cw,.int .i64 (d:Nat)] 172 (0,0))/\Below w.heap.size w w1):=⟨hX1,hB1⟩;clear hW1 hB1 hX1
 refine ZJ (fun w'=>w'.cell? ⟨w.heap.size,0,none⟩=some (.bool false)/\w'.cell? ⟨w.heap.size,1,none⟩=some (.slice ab nb cb)/\w'.cell? ⟨w.heap.size,2,none⟩=some (.slice aw 0 cw)/\w'.cell? ⟨w.heap.size,3,none⟩=some (.int .i64 (d:Nat))) 11 (by kernel_rfl) ⟨x0,x1,x2,x3⟩ (fun hHeld=>?_);refine ZL 0 ?_;try simp only[Act.put,sA,sB,sC]
 refine ZL 1 ?_;try simp only[Act.put,sA,sB,sC]
 refine ZL 2 ?_;try simp only[Act.put,sA,sB,sC]
 refine tkM [4,9,10,11] 3 (v:=?_) ?_ ?_
 rotate_left
 ·intro w hSw;try obtain⟨_,_,_,_⟩:=hSw
  go_simp;try with_reducible rfl
 try simp only[Act.put,sA,sB,sC]
 refine ZL 4 ?_;try simp only[Act.put,sA,sB,sC]
 refine ZL 5 ?_;try simp only[Act.put,sA,sB,sC]
 refine tkM [7,8,9,10,11] 6 (v:=?_) ?_ ?_
 rotate_left
 ·intro w hSw;try obtain⟨_,_,_,_⟩:=hSw
  go_simp;try with_reducible rfl
 try simp only[Act.put,sA,sB,sC]
 refine Zk (i:=7) (by kernel_rfl) rfl (fun KK hK=>?_);go_simp;refine(HCT.out _).mono ?_;rintro e w2 ⟨rfl,hb2⟩;have hb12:Below w1.heap.size w1 w2:=(Below.refl w1.heap.size w1).drew.trans hb2;have y0:=(hb12.cell (p:=⟨w.heap.size,0,none⟩) hwl).trans x0;have y1:=(hb12.cell (p:=⟨w.heap.size,1,none⟩) hwl).trans x1;have y2:=(hb12.cell (p:=⟨w.heap.size,2,none⟩) hwl).trans x2;have y3:=(hb12.cell (p:=⟨w.heap.size,3,none⟩) hwl).trans x3;have hwl2:w.heap.size<w2.heap.size:=Qh hwl hb12.size;go_simp;refine hK.out _ _ ⟨y0,y1,y2,y3⟩ (fun hHeld=>?_);clear hK KK hb2;try simp only[Act.put,sA,sB,sC]
 refine ZL 8 ?_;try simp only[Act.put,sA,sB,sC]
 refine Zk (i:=9) (by kernel_rfl) rfl (fun KK hK=>?_);go_simp;refine hK.out _ _ ⟨(Below.cell (B:=w2.heap.size) (p:=⟨w.heap.size,0,none⟩) ((Below.refl _ _).alloc (Qa _) _) hwl2).trans y0,(Below.cell (B:=w2.heap.size) (p:=⟨w.heap.size,1,none⟩) ((Below.refl _ _).alloc (Qa _) _) hwl2).trans y1,(Below.cell (B:=w2.heap.size) (p:=⟨w.heap.size,2,none⟩) ((Below.refl _ _).alloc (Qa _) _) hwl2).trans y2,(Below.cell (B:=w2.heap.size) (p:=⟨w.heap.size,3,none⟩) ((Below.refl _ _).alloc (Qa _) _) hwl2).trans y3⟩ (fun hHeld=>?_);clear hK KK;try simp only[Act.put,sA,sB,sC]
 refine Zk (i:=10) (by kernel_rfl) rfl (fun KK hK=>?_);have hbw2:Below w.heap.size w w2:=HX1.out.2.trans (hb12.mono (Nat.le_of_lt hwl));refine ZI rfl (.tmp 13) (.tmp 22) 66 rfl 0 5 i0 (.int .u8 0) 1 1 Tryz.underlying66 hinf hz0 hz1 hz2 rfl (by decide) (.slice a bl c) bl (bs.map (Value.int .u8)) (by simp[Act.eval]) (World.ownsRow.alloc (w:=w2) ((Za.of_below (S:=fun _=>False) hbw2).row HR0.out (fun _ _=>id)) _) ⟨w2.heap.size,0,none⟩ 3 3 [.int .u8 110,.int .u8 ((d:Int)%256),.int .u8 ((nb:Int)%256)] (by simp[Act.eval]) rfl (Zu w2 #[.int .u8 110,.int .u8 ((d:Int)%256),.int .u8 ((nb:Int)%256)] 5) (by intro u hu;simp at hu;rcases hu with rfl|rfl|rfl<;>rfl) (by decide) (by unfold maxLen;omega) (by omega) (by simp) ?_;intro v6 w6 H6;obtain⟨r6,g6,dd6,_,q6,p6,hv6⟩:=H6.out
 have hb26:Below w.heap.size w (w2.alloc (.cells #[.int .u8 110,.int .u8 ((d:Int)%256),.int .u8 ((nb:Int)%256)] 5)):=hbw2.alloc hbw2.size _;have hA6:Z8 w (.slice a bl c) w6 v6:=Z8.pre hb26 (Z8.of_mark g6 dd6 (Qa _));have hO6:Zo w6 0 v6 (bs++[110,(d:Int)%256,(nb:Int)%256]):=Zo.more (n:=3) (by rw[HBL.out.1];exact r6) rfl
 have hX6:w6.heap[w.heap.size]? =some (.cells #[.bool false,.slice ab nb cb,.slice aw 0 cw,.int .i64 (d:Nat)] 172 (0,0)):=(g6.block w.heap.size (by simp;omega) (fun e=>by
  have:=(World.ownsRow.lt HR0.out _ e.symm).2
  omega)).trans ((Below.heap_alloc _ _ _ hwl2).trans ((hb12.block _ hwl).trans HX1.out.1))
 have h0:=H0.out;have HA6:Hid (Ya W0 w6 v6 (bs++[110,(d:Int)%256,(nb:Int)%256])/\w6.heap[w.heap.size]? =some (.cells #[.bool false,.slice ab nb cb,.slice aw 0 cw,.int .i64 (d:Nat)] 172 (0,0))):=⟨h0.app hO6 hA6,hX6⟩;have z0:w6.cell? ⟨w.heap.size,0,none⟩=some (.bool false):=cell_of_row _ _ 0 _ 172 (0,0) hX6;have z1:w6.cell? ⟨w.heap.size,1,none⟩=some (.slice ab nb cb):=cell_of_row _ _ 1 _ 172 (0,0) hX6;have z2:w6.cell? ⟨w.heap.size,2,none⟩=some (.slice aw 0 cw):=cell_of_row _ _ 2 _ 172 (0,0) hX6;have z3:w6.cell? ⟨w.heap.size,3,none⟩=some (.int .i64 (d:Nat)):=cell_of_row _ _ 3 _ 172 (0,0) hX6;subst hv6;clear H6 r6 g6 dd6 hb26 hA6 hO6 hX6 h0 y0 y1 y2 y3 hbw2;refine hK.out _ _ ⟨z0,z1,z2,z3⟩ (fun hHeld=>?_);clear hK KK;try simp only[Act.put,sA,sB,sC]
 refine Zx (i:=11) (by kernel_rfl) rfl (by kernel_rfl) (fun KK hK=>?_);go_simp;refine hK.out _ _ ?_;clear hK KK;try simp only[Act.put,sA,sB,sC]
 refine Zz (by kernel_rfl) ?_ _;clear x0 x1 x2 x3 hHeld;have e1:w6.cell? ⟨w.heap.size,1,none⟩=some (.slice ab nb cb):=cell_of_row _ _ 1 _ 172 (0,0) HA6.out.2;go_wp2_with fail
 go_loopw [1,28] (fun tv ti wr=>∃(j:Nat) (aj:Option Addr) (cj:Nat),tv=.slice aj (bl+3+j*4) cj/\ti=.int .i64 j/\j<=nb/\Hid (Ya W0 wr (.slice aj (bl+3+j*4) cj) (bs++[110,(d:Int)%256,(nb:Int)%256]++ZdJ (k.e.bs.take j))/\wr.heap[w.heap.size]? =some (.cells #[.bool false,.slice ab nb cb,.slice aw 0 cw,.int .i64 (d:Nat)] 172 (0,0)))) (fun _ ti _=>nb-(intOf ti).toNat)
 case atStart=>exact⟨0,_,_,rfl,rfl,Qg _,by rw[List.take_zero];show Ya _ _ _ (_++[])/\_;rw[List.append_nil];exact HA6.out⟩
 case round=>
  clear HA6 e1;obtain⟨j,aj,cj,rfl,rfl,hj,HR⟩:=hrel;have hwr:w.heap.size<wr.heap.size:=(Qb HR.out.2).1;have HLL:Hid ((bs++[110,(d:Int)%256,(nb:Int)%256]++ZdJ (k.e.bs.take j)).length=bl+3+j*4):=by show _=_;rw[Qe,Qe,Zh9,List.length_take,HBL.out.1,HBL.out.2,Nat.min_eq_left hj];rfl
  by_cases hjl:j<nb
  ·have hjL:j<k.e.bs.length:=(by rw[HBL.out.2];exact hjl);have hIw:Ze wr 0 (.slice ab nb cb) k.e.bs:=HI.out.below HR.out.1.bl;obtain⟨q,hq,hql,_,y0,_⟩:=hIw.atK HBL.out.2 hjl;subst hq;have hgk:k.e.bs.getD j 0=k.e.bs[j]:=(by simp[List.getD,hjL]);have hrg:=HRg.out _ (Qf hjL);rw[<- hgk] at hrg;have HX:Hid (bs++[110,(d:Int)%256,(nb:Int)%256]++ZdJ (k.e.bs.take (j+1))=(bs++[110,(d:Int)%256,(nb:Int)%256]++ZdJ (k.e.bs.take j))++Zad (k.e.bs.getD j 0) 4):=(by show _=_;rw[Zlq hjL,List.append_assoc (bs++_)]);generalize bs++[110,(d:Int)%256,(nb:Int)%256]++ZdJ (k.e.bs.take j)=L0 at *;clear hgk hIw;generalize k.e.bs.getD j 0=x at *
   have HAL:Calls Tryz.prog 102 #[.slice aj (bl+3+j*4) cj,.int .i64 x,.int .i64 4] wr fun e w'=>ZhW wr (.slice aj (bl+3+j*4) cj) L0 (Zad x 4) e w':=(by have h1:=HR.out.1;rw[<- HLL.out] at h1 ⊢;exact Zbb aj cj 4 L0 x wr h1.ow (by omega) (by rw[HLL.out];omega) hrg.1 hrg.2);have bk1:(0:Int)<=(j:Int):=(by omega);have bk2:(j:Int)<(nb:Int):=(by omega);clear hrg hHeld z0 z1 z2 z3;go_wp2_with fail
   refine HAL.mono ?_;rintro e w3 ⟨v3,rfl,ho3,hp3⟩;have hf3:=HR.out.1.app ho3 hp3;have hx3:=hp3.1.at_ HR.out.2 (fun e=>Zv HR.out.1.ow e HR.out.2 (by decide) rfl);obtain⟨a3,c3,hv3⟩:=ho3.form;rw[Qe,Zca,HLL.out,show bl+3+j*4+4=bl+3+(j+1)*4 by omega] at hv3;subst hv3;rw[<- HX.out] at hf3;have HN:Hid (Ya W0 w3 (.slice a3 (bl+3+(j+1)*4) c3) (bs++[110,(d:Int)%256,(nb:Int)%256]++ZdJ (k.e.bs.take (j+1)))/\w3.heap[w.heap.size]? =some (.cells #[.bool false,.slice (some ⟨q,0,none⟩) nb cb,.slice aw 0 cw,.int .i64 (d:Nat)] 172 (0,0))):=⟨hf3,hx3⟩;clear HAL ho3 hp3 hf3 hx3 HR HX y0;go_wp2;go_roundw;case rel=>exact⟨j+1,a3,c3,rfl,by go_num,by omega,HN⟩
   case measure=>simp[intOf];omega
  have hnj:¬(j:Int)<(nb:Int):=(by omega);have hjk:k.e.bs.take j=k.e.bs:=List.take_of_length_le (by have:=HBL.out.2;omega);have HF:Hid (Ya W0 wr (.slice aj (bl+3+j*4) cj) (bs++knB k)/\(bs++knB k).length=bl+3+j*4):=(by have h1:=HR.out.1;have h2:=HLL.out;rw[hjk,List.append_assoc,<- HKB.out] at h1 h2;exact⟨h1,h2⟩);have e2:wr.cell? ⟨w.heap.size,2,none⟩=some (.slice aw 0 cw):=cell_of_row _ _ 2 _ 172 (0,0) HR.out.2;clear hjk HR HLL hHeld z0 z1 z2 z3;obtain⟨wl,hwl3⟩:∃wl,wl=wr:=⟨wr,rfl⟩;subst hwl3;go_wp2_with fail
  go_loopw [1,40] (fun tv ti wr=>tv=.slice aj (bl+3+j*4) cj/\ti=.int .i64 0/\Hid (wl=wr)) (fun _ _ _=>0)
  case atStart=>exact⟨rfl,rfl,rfl⟩
  case round=>
   obtain⟨rfl,rfl,hw⟩:=hrel;have hw2:=hw.out;subst hw2;clear hw;go_wp2;go_ret;exact⟨aj,cj,by rw[HF.out.2];rfl,by rw[HF.out.2];exact HF.out.1⟩
theorem Zgn(n d:Int)(w:World):Calls Tryz.prog 299 #[.agg #[.int .i64 n,.int .i64 d]] w fun e w'=>e=.returned (.int .i64 n)/\Below w.heap.size w w':=by go_enter Tryz.func299,Tryz.ntmps299;go_wp2;go_ret;exact⟨rfl,(Below.refl _ _).alloc (Qa _) _⟩
theorem Znp:((Tryz.prog.info? 380).bind (fun i=>(i.methods.find? (fun m=>m.name== "Rows")).map (fun m=>(m.path.toList.map (fun s=>(s.struct,s.index,s.deref)),m.func))))=some ([(403,0,true)],some (299,false)):=by kernel_rfl
theorem Znq:((Tryz.prog.info? 382).bind (fun i=>(i.methods.find? (fun m=>m.name== "Rows")).map (fun m=>(m.path.toList.map (fun s=>(s.struct,s.index,s.deref)),m.func))))=some ([(396,0,true)],some (299,false)):=by kernel_rfl
theorem ZeV{α β:Type}{o:Option α}{f:α->Option β}{i:α}{y:β}(h:o.bind f=some y)(hi:o=some i):f i=some y:=by subst hi;exact h
theorem Zmd(sb:Nat)(w:World)(n d:Int)(s0:w.cell? ⟨sb,0,none⟩=some (.int .i64 n))(s1:w.cell? ⟨sb,1,none⟩=some (.int .i64 d)):(method 535 380 (.pointer (some ⟨sb,0,none⟩)) "Rows").run Tryz.prog w=.ok (299,.agg #[.int .i64 n,.int .i64 d]) w:=by
 obtain⟨i,hi⟩:∃i,Tryz.prog.info? 380=some i:=by
  cases h:Tryz.prog.info? 380 with
  |none=>have:=Znp;rw[h] at this;exact absurd this (by intro h;cases h)
  |some i=>exact⟨i,rfl⟩
 have h1:=ZeV Znp hi;obtain⟨m,hm,h2⟩:=Option.map_eq_some_iff.1 h1;injection h2 with hp hf
 obtain⟨s,hs⟩:∃s,m.path.toList=[s]/\(s.struct,s.index,s.deref)=(403,0,true):=by
  cases hq:m.path.toList with
  |nil=>rw[hq] at hp;cases hp
  | cons a l=>
   rw[hq] at hp;simp only[List.map_cons,List.cons.injEq] at hp;obtain⟨hp1,hp2⟩:=hp;exact⟨a,by rw[List.map_eq_nil_iff.1 hp2],hp1⟩
 obtain⟨hs1,hs2⟩:=hs;injection hs2 with e1 e2;injection e2 with e2 e3;unfold method;have hp2:m.path=#[s]:=(by rw[<- Array.toArray_toList (xs:=m.path),hs1]);simp[go_sem,typeInfo,hi,hm,hp2,hf,follow,e1,e2,e3,Place.get,receiverAt,s0,s1]
theorem Zme(sb:Nat)(w:World)(n d:Int)(s0:w.cell? ⟨sb,0,none⟩=some (.int .i64 n))(s1:w.cell? ⟨sb,1,none⟩=some (.int .i64 d)):(method 535 382 (.pointer (some ⟨sb,0,none⟩)) "Rows").run Tryz.prog w=.ok (299,.agg #[.int .i64 n,.int .i64 d]) w:=by
 obtain⟨i,hi⟩:∃i,Tryz.prog.info? 382=some i:=by
  cases h:Tryz.prog.info? 382 with
  |none=>have:=Znq;rw[h] at this;exact absurd this (by intro h;cases h)
  |some i=>exact⟨i,rfl⟩
 have h1:=ZeV Znq hi;obtain⟨m,hm,h2⟩:=Option.map_eq_some_iff.1 h1;injection h2 with hp hf
 obtain⟨s,hs⟩:∃s,m.path.toList=[s]/\(s.struct,s.index,s.deref)=(396,0,true):=by
  cases hq:m.path.toList with
  |nil=>rw[hq] at hp;cases hp
  | cons a l=>
   rw[hq] at hp;simp only[List.map_cons,List.cons.injEq] at hp;obtain⟨hp1,hp2⟩:=hp;exact⟨a,by rw[List.map_eq_nil_iff.1 hp2],hp1⟩
 obtain⟨hs1,hs2⟩:=hs;injection hs2 with e1 e2;injection e2 with e2 e3;unfold method;have hp2:m.path=#[s]:=(by rw[<- Array.toArray_toList (xs:=m.path),hs1]);simp[go_sem,typeInfo,hi,hm,hp2,hf,follow,e1,e2,e3,Place.get,receiverAt,s0,s1]
theorem Ze9:∀(vs:List (Value×Value)) (i:Nat),i<vs.length->∀c,c<2->(ZaI vs)[i*2+c]? =[(vs.getD i vv0).1,(vs.getD i vv0).2][c]?
  |[],i,h=>by simp at h
  |x::L,0,_=>fun c hc=>by simp only[ZaI];rw[show 0*2+c=c by omega,List.getElem?_append_left (by simpa using hc)];rfl
  |x::L,i+1,h=>fun c hc=>by simp only[ZaI];rw[List.getElem?_append_right (by simp;omega),show(i+1)*2+c-[x.1,x.2].length=i*2+c by simp;omega];exact Ze9 L i (by simpa using h) c hc
theorem Zc6.at{w:World}{vB:Value}{vs:List (Value×Value)}{Bs:List BS}(h:Zc6 w vB vs Bs){i:Nat}(hi:i<Bs.length):∃q c,vB=.slice (some ⟨q,0,none⟩) Bs.length c/\q<w.heap.size/\w.cell? ⟨q,i*2,none⟩=some (vs.getD i vv0).1/\w.cell? ⟨q,i*2+1,none⟩=some (vs.getD i vv0).2:=by
 have hr:=h.row
 rcases h.row.2 with⟨_,h0⟩|⟨g,cap,cur,e,hb,hh,hnc,_⟩
 omega;subst e
 have key:∀c u,c<2->[(vs.getD i vv0).1,(vs.getD i vv0).2][c]? =some u->w.cell? ⟨g,i*2+c,none⟩=some u:=fun c u hc hu=>by rw[World.ownsRow.cellAt hr (i*2+c) (by omega)];exact(Ze9 vs i (by rw[h.len];exact hi) c hc).trans hu
 exact⟨g,cap,rfl,(Qb hh).1,key 0 _ (by omega) rfl,key 1 _ (by omega) rfl⟩
theorem Zc6.form{w:World}{vB:Value}{vs:List (Value×Value)}{Bs:List BS}(h:Zc6 w vB vs Bs):∃a c,vB=.slice a Bs.length c:=by
 rcases h.row.2 with⟨rfl,h0⟩|⟨q,p,cur,rfl,_⟩
 exact⟨none,0,by rw[h0]⟩;exact⟨_,_,rfl⟩
theorem ZcY(db:Nat)(vK vB vX:Value)(bvs:List (Value×Value))(bs:List BS)(X:List XS)(w:World)(h:DsX w db vK vB vX bvs bs X)(h0:0<bs.length):Calls Tryz.prog 51 #[.pointer (some ⟨db,0,none⟩)] w fun e w'=>e=.returned (.int .i64 ((bs.getD 0 ZH).N.length:Nat))/\Below w.heap.size w w':=by
 obtain⟨q,cB,hvB,hql,y0,y1⟩:=h.bn.at h0;subst hvB;have c1:w.cell? ⟨db,1,none⟩=some (.slice (some ⟨q,0,none⟩) bs.length cB):=cell_of_row _ _ 1 _ 168 (0,0) h.blk;have hl:(0:Int)<(bs.length:Int):=(by omega);have HR:Hid (∀(n d:Int) (W:World),Calls Tryz.prog 299 #[.agg #[.int .i64 n,.int .i64 d]] W fun e w'=>e=.returned (.int .i64 n)/\Below W.heap.size W w'):=Zgn;have hcol:=(h.bn.each 0 h0).2;generalize bs.length=bl at *;rw[show 0*2+1=1 from rfl] at y1
 rcases hcol with⟨h1,p,e,sb,vc,e2,_,hX⟩|⟨h1,p,e,d2,q2,e2,_,hX⟩
 ·rw[e,e2] at y1;have s0:w.cell? ⟨sb,0,none⟩=some (.int .i64 ((bs.getD 0 ZH).N.length:Nat)):=cell_of_row _ _ 0 _ 403 (0,0) hX.blk;have s1:w.cell? ⟨sb,1,none⟩=some (.int .i64 (Lib.bitLen (bs.getD 0 ZH).g:Nat)):=cell_of_row _ _ 1 _ 403 (0,0) hX.blk;clear hX e e2 h1;generalize (bs.getD 0 ZH).N.length=nn at *;generalize Lib.bitLen (bs.getD 0 ZH).g=gg at *;have hm:=Zmd sb w _ _ s0 s1;clear h y0;go_enter Tryz.func51,Tryz.ntmps51;go_wp2_with fail
  refine(HR.out _ _ _).mono ?_;rintro e w2 ⟨rfl,hb⟩;have HB:Hid (Below w.heap.size w w2):=hb;clear hb;go_wp2;go_ret;exact⟨rfl,HB.out⟩
 rw[e,e2] at y1;have s0:w.cell? ⟨d2,0,none⟩=some (.int .i64 ((bs.getD 0 ZH).N.length:Nat)):=cell_of_row _ _ 0 _ 396 (0,0) hX.blk;have s1:w.cell? ⟨d2,1,none⟩=some (.int .i64 (Lib.bitLen (bs.getD 0 ZH).g:Nat)):=cell_of_row _ _ 1 _ 396 (0,0) hX.blk;clear hX e e2 h1;generalize (bs.getD 0 ZH).N.length=nn at *;generalize Lib.bitLen (bs.getD 0 ZH).g=gg at *;have hm:=Zme d2 w _ _ s0 s1;clear h y0;go_enter Tryz.func51,Tryz.ntmps51;go_wp2_with fail
 refine(HR.out _ _ _).mono ?_;rintro e w2 ⟨rfl,hb⟩;have HB:Hid (Below w.heap.size w w2):=hb;clear hb;go_wp2;go_ret;exact⟨rfl,HB.out⟩
theorem Zas.form{w:World}{vK:Value}{vs:List (Value×Value)}{Ks:List KS}(h:Zas w vK vs Ks):∃a c,vK=.slice a Ks.length c:=by
 rcases h.row.2 with⟨rfl,h0⟩|⟨q,p,cur,rfl,_⟩
 exact⟨none,0,by rw[h0]⟩;exact⟨_,_,rfl⟩
theorem Zhp(db:Nat)(vK vB vX:Value)(kvs bvs:List (Value×Value))(X:List XS)(D:DSS)(w:World)(h:Zbg w db vK vB vX kvs bvs X D):Calls Tryz.prog 93 #[.pointer (some ⟨db,0,none⟩)] w fun e w'=>e=.returned (.int .i64 (D.ks.length:Nat))/\w'=w:=by obtain⟨a,c,rfl⟩:=h.kn.form;have c0:w.cell? ⟨db,0,none⟩=some (.slice a D.ks.length c):=cell_of_row _ _ 0 _ 168 (0,0) h.ds.blk;clear h;go_enter Tryz.func93,Tryz.ntmps93;go_wp2;go_ret;exact⟨rfl,rfl⟩
theorem Zb7(gb db:Nat)(D:DSS)(f:Int)(w:World)(h:Y1 w gb db D)(hk:D.ks.length<=1000):Calls Tryz.prog 52 #[.pointer (some ⟨gb,0,none⟩),.int .i64 f] w fun e w'=>e=.returned (.bool (decide (0<=f/\f<=(D.ks.length:Int)-1)))/\w'=w:=by
 have g0:w.cell? ⟨gb,0,none⟩=some (.pointer (some ⟨db,0,none⟩)):=cell_of_row _ _ 0 _ 110 (0,0) h.gp;obtain⟨vK,vB,vX,kvs,bvs,X,hX⟩:=h.md;have HF:=Zhp db vK vB vX kvs bvs X D w hX;clear hX h;generalize D.ks.length=nk at *;go_enter Tryz.func52,Tryz.ntmps52;go_wp2_with fail
 refine HF.mono ?_;rintro e w2 ⟨rfl,hw⟩;obtain rfl:=hw.symm;go_wp2
 all_goals go_ret
 all_goals (refine⟨?_,rfl⟩;simp<;>omega)
theorem ZlK(gb db:Nat)(D:DSS)(w:World)(h:Y1 w gb db D)(h0:0<D.bs.length):Calls Tryz.prog 26 #[.pointer (some ⟨gb,0,none⟩)] w fun e w'=>e=.returned (.int .i64 ((D.bs.getD 0 ZH).N.length:Nat))/\Below w.heap.size w w':=by
 have g0:w.cell? ⟨gb,0,none⟩=some (.pointer (some ⟨db,0,none⟩)):=cell_of_row _ _ 0 _ 110 (0,0) h.gp;obtain⟨vK,vB,vX,kvs,bvs,X,hX⟩:=h.md;have HR:=ZcY db vK vB vX bvs D.bs X w hX.ds h0;clear hX h h0;generalize (D.bs.getD 0 ZH).N.length=nn at *;go_enter Tryz.func26,Tryz.ntmps26;go_wp2_with fail
 refine HR.mono ?_;rintro e w2 ⟨rfl,hb⟩;have HB:Hid (Below w.heap.size w w2):=hb;clear hb;go_wp2;go_ret;exact⟨rfl,HB.out⟩
end Go.Proofs.YtfcgnpchbcmdeaaGreat
