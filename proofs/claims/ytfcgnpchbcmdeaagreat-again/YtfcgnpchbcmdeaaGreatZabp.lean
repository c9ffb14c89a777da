import Derived.Test.YtfcgnpchbcmdeaaGreatZabf
import Derived.Test.YtfcgnpchbcmdeaaGreatZaao
import Derived.Test.YtfcgnpchbcmdeaaGreatZaaq
namespace Go.Proofs.YtfcgnpchbcmdeaaGreat
set_option maxRecDepth 100000
set_option maxHeartbeats 4000000
open Go.RowKit
def bH:ByteArray:=⟨#[49,44,49,10,49,44,50,10]⟩
def noW:Nat->Bool:=fun _=>false
def no0:Nat->Int:=fun _=>0
def lwH:List VS->List Int->Int->Int->ES:=fun _ _ _ _=>⟨false,[],[]⟩
def sH:RS:=match Zi 1 noW no0 RS.start (Zb bH) 0 with
 |.ok s=>s
 |.error _=>RS.start
def eH:ES:=⟨false,[1],[]⟩
def dH:YY:=⟨[⟨eH,0⟩],[⟨[0],[0,2],3⟩],[]⟩
def Zr5:List Int:=[71,82,2,1,110,0,1,1,0,0,0,1,1,0,100,8,0,0]
theorem Zra:Zi 1 noW no0 RS.start (Zb bH) 0=.ok sH:=by kernel_rfl
theorem Zr9:sH.wt=0:=by kernel_rfl
theorem Zrb:sH.ws=[1,1]:=by kernel_rfl
theorem Zr8:(sH.cols 0).map (fun v=>v.word.size)=[0,0]:=by kernel_rfl
theorem ZrH:(sH.cols 0).map VS.num=[1,2]:=by kernel_rfl
theorem ZlO:ZT lwH false 0 2 2 (sH.cols 0) sH.ws=eH:=by kernel_rfl
theorem Zsy:(sH.cols 0).map (YM eH)=[0,1]:=by kernel_rfl
theorem Zr4:ZH 0 2 0 [eH] [[0,1]]=dH:=by kernel_rfl
theorem ZqW:Zat dH []=Zr5:=by kernel_rfl
theorem Zrl:ZU dH []=Zr5++[119,135,217,86]:=by kernel_rfl
theorem ZsF:(strOfNums (ZU dH [])).size=22/\(strOfNums (ZU dH [])).extract 0 18=⟨#[71,82,2,1,110,0,1,1,0,0,0,1,1,0,100,8,0,0]⟩:=by rw[Zrl];exact⟨by kernel_rfl,by kernel_rfl⟩
theorem Zsg:ZV 0 (ZdQ (Zk [5,3,5] [1,2,4]))=[⟨3,0,2,2⟩,⟨5,2,7,5⟩]:=by kernel_rfl
theorem Zsh:ZV 0 (ZdQ (Zk [4] [1]))=[⟨4,0,1,1⟩]:=by kernel_rfl
theorem Zr1:ZE [⟨3,0,2,2⟩,⟨5,2,7,5⟩] [⟨4,0,1,1⟩]=[⟨3,0,2,2⟩,⟨4,2,3,1⟩,⟨5,3,8,5⟩]:=by kernel_rfl
theorem Zro:Q6 lwH 0 noW no0 2 2 sH:=by refine⟨(fun ⟨i,_,h⟩=>absurd h (by simp[noW])),fun i hi=>?_,fun i hi v hv=>?_,fun z hz=>?_⟩;obtain rfl:i=0:=(by omega);rw[show ZT lwH (noW 0) (no0 0) 2 2 (sH.cols 0) sH.ws=eH from ZlO];exact⟨⟨by decide,by decide,by decide⟩,rfl,by decide⟩;obtain rfl:i=0:=(by omega);have hm:v.num∈(sH.cols 0).map VS.num:=List.mem_map.2 ⟨v,hv,rfl⟩;have hm2:v.word.size∈(sH.cols 0).map (fun v=>v.word.size):=List.mem_map.2 ⟨v,hv,rfl⟩;rw[ZrH] at hm;rw[Zr8] at hm2;simp only[List.mem_cons,List.not_mem_nil,or_false,or_self] at hm hm2;omega;rw[Zrb] at hz;simp at hz;omega
theorem knH:∀K∈dH.ks,Zdq K:=by intro K hK;simp[dH] at hK;subst hK;exact .inl ⟨rfl,rfl,by decide,by decide⟩
theorem Zsz:∀b∈dH.bs,Zf7 b:=by intro b hb;simp[dH] at hb;subst hb;refine⟨by decide,by decide,⟨by decide,by decide⟩,by decide,by decide⟩
theorem byH:∀b∈Zat dH [],0<=b/\b<256:=by rw[ZqW];decide
theorem Zsa:Zbf dH 0 0 0:=by refine⟨by decide,by decide,by decide,fun i j hi hj h=>?_,fun i hi=>?_,fun i j hi hj=>?_,fun i hi=>?_⟩;omega;obtain rfl:i=0:=(by omega);decide;obtain rfl:i=0:=(by omega);obtain rfl:j=0:=(by have:(dH.bs.getD 0 ZB).fs.length=1:=rfl;omega);decide;obtain rfl:i=0:=(by have:dH.ks.length=1:=rfl;omega);decide
theorem ZsA(w:World)(fk fc:Nat)(hF:QE w fk 0 1 noW no0 no0):Calls Tryz.prog 25 #[.agg #[.slice (some ⟨fk,0,none⟩) 1 fc,.int .i64 2,.int .i64 2,.int .i64 0],.string bH,.slice none 0 0] w fun e w'=>∃gb db,e=.returned (.tuple #[.pointer (some ⟨gb,0,none⟩),.int .i64 0,.int .i64 0])/\YL w' gb db dH/\Below w.heap.size w w':=by
 refine(Zfs lwH bH fk 0 0 fc 0 0 none [] 2 2 0 noW no0 no0 w hF (by decide) ⟨rfl,by simp,.inl rfl⟩ (by omega) (by decide) (fun s hs _=>?_)).mono ?_;rw[Zra] at hs;injection hs with hs;rw[<- hs];exact Zro;rintro e w' ⟨hR,hb⟩;rw[Zra] at hR
 rcases hR with⟨h,_⟩|⟨_,gb,db,rfl,hO⟩
 exact absurd Zr9 h;refine⟨gb,db,rfl,?_,hb⟩;have e1:(List.range (0+1)).map (fun i=>ZT lwH (noW i) (no0 i) 2 2 (sH.cols i) sH.ws)=[eH]:=(by show[ZT lwH false 0 2 2 (sH.cols 0) sH.ws]=_;rw[ZlO]);have e2:(List.range (0+1)).map (fun i=>(sH.cols i).map (YM (ZT lwH (noW i) (no0 i) 2 2 (sH.cols i) sH.ws)))=[[0,1]]:=(by show[(sH.cols 0).map (YM (ZT lwH false 0 2 2 (sH.cols 0) sH.ws))]=_;rw[ZlO,Zsy]);have e3:sH.ws.length=2:=(by rw[Zrb];rfl);rw[e1,e2,e3,Zr4] at hO;exact hO
theorem Zrk(w:World)(gb db:Nat)(h:YL w gb db dH):Calls Tryz.prog 34 #[.pointer (some ⟨gb,0,none⟩)] w fun e w'=>e=.returned (.string (strOfNums (ZU dH [])))/\Below w.heap.size w w':=by obtain⟨vK,vB,vX,kvs,bvs,X,hX⟩:=h.md;have hp:=hX.perm;have hX0:X=[]:=List.Perm.eq_nil (by exact hp);subst hX0;exact ZgA gb db vK vB vX kvs bvs [] dH w h.gp hX (by decide) knH (by decide) Zsz (by decide) (by decide) byH
theorem Zr2(w:World)(gb db:Nat)(h:YL w gb db dH):Calls Tryz.prog 44 #[.pointer (some ⟨gb,0,none⟩),.int .i64 1,.int .i64 0] w fun e w'=>e=.returned (.tuple #[.int .i64 1,.int .i64 0])/\Below w.heap.size w w':=by refine Zfo gb db 0 1 dH 1 w h (by decide) (by decide) (by decide) (by decide) (by decide) (fun W hW=>?_);obtain⟨vK,vB,vX,kvs,bvs,X,hX⟩:=hW.md;exact ZnW db 0 0 0 1 vK vB vX kvs bvs X dH W hX Zsa (by decide) (by decide) (by decide) (by decide) (by decide) (by decide) (by decide) (by decide)
theorem Zhk(W:World)(b:Nat)(x y z:Int)(hx:(Lit.int .i64 x).wf=true/\(Lit.int .i64 y).wf=true/\(Lit.int .i64 z).wf=true)(h:W.heap[b]? =some (.cells #[.int .i64 x,.int .i64 y,.int .i64 z] 3 (0,0))):ZX W (some ⟨b,0,none⟩) 3 [x,y,z]:=by
 refine⟨rfl,fun q hq=>?_,.inr ⟨b,0,rfl,(Qb h).1,fun i hi=>?_⟩⟩
 ·simp at hq
  rcases hq with e|e|e
  rw[e];exact hx.1;rw[e];exact hx.2.1;rw[e];exact hx.2.2
 rw[Nat.zero_add,cell_of_row _ _ i _ 3 (0,0) h]
 match i,hi with
 |0,_=>rfl
 |1,_=>rfl
 |2,_=>rfl
theorem Zkz(W:World)(b:Nat)(x:Int)(hx:(Lit.int .i64 x).wf=true)(h:W.heap[b]? =some (.cells #[.int .i64 x] 3 (0,0))):ZX W (some ⟨b,0,none⟩) 1 [x]:=by
 refine⟨rfl,fun q hq=>?_,.inr ⟨b,0,rfl,(Qb h).1,fun i hi=>?_⟩⟩;simp at hq;rw[hq];exact hx;rw[Nat.zero_add,cell_of_row _ _ i _ 3 (0,0) h]
 match i,hi with
 |0,_=>rfl
theorem Zse(W:World)(b1 b2 c1 c2:Nat)(h1:W.heap[b1]? =some (.cells #[.int .i64 5,.int .i64 3,.int .i64 5] 3 (0,0)))(h2:W.heap[b2]? =some (.cells #[.int .i64 1,.int .i64 2,.int .i64 4] 3 (0,0))):Calls Tryz.prog 19 #[.slice (some ⟨b1,0,none⟩) 3 c1,.slice (some ⟨b2,0,none⟩) 3 c2] W fun e w'=>∃v,e=.returned v/\Zj w' W.heap.size v [⟨3,0,2,2⟩,⟨5,2,7,5⟩]/\Below W.heap.size W w':=by refine(ZfB _ _ 3 c1 3 c2 [5,3,5] [1,2,4] W (Zhk W b1 5 3 5 (by decide) h1) (Zhk W b2 1 2 4 (by decide) h2) (by decide) (by decide)).mono ?_;rintro e w' ⟨v,M,rfl,hM,ho,hb⟩;refine⟨v,rfl,?_,hb⟩;rw[<- Zhb hM,Zsg] at ho;exact ho
theorem Zsf(W:World)(b1 b2 c1 c2:Nat)(h1:W.heap[b1]? =some (.cells #[.int .i64 4] 3 (0,0)))(h2:W.heap[b2]? =some (.cells #[.int .i64 1] 3 (0,0))):Calls Tryz.prog 19 #[.slice (some ⟨b1,0,none⟩) 1 c1,.slice (some ⟨b2,0,none⟩) 1 c2] W fun e w'=>∃v,e=.returned v/\Zj w' W.heap.size v [⟨4,0,1,1⟩]/\Below W.heap.size W w':=by refine(ZfB _ _ 1 c1 1 c2 [4] [1] W (Zkz W b1 4 (by decide) h1) (Zkz W b2 1 (by decide) h2) (by decide) (by decide)).mono ?_;rintro e w' ⟨v,M,rfl,hM,ho,hb⟩;refine⟨v,rfl,?_,hb⟩;rw[<- Zhb hM,Zsh] at ho;exact ho
theorem Zrt:ZJ [⟨3,0,2,2⟩,⟨5,2,7,5⟩]:=⟨by decide,by decide⟩
theorem Zru:ZJ [⟨4,0,1,1⟩]:=⟨by decide,by decide⟩
theorem Zps:ZjD:=by
 intro w;obtain⟨w1,hw1⟩:∃w1,w1=(w.alloc (.cells #[.int .i64 5,.int .i64 3,.int .i64 5] 3)).alloc (.cells #[.int .i64 1,.int .i64 2,.int .i64 4] 3):=⟨_,rfl⟩;have hb1:Below w.heap.size w w1:=(by rw[hw1];exact((Below.refl _ _).alloc (Qa _) _).alloc (by simp) _);have h1a:w1.heap[w.heap.size]? =some (.cells #[.int .i64 5,.int .i64 3,.int .i64 5] 3 (0,0)):=by rw[hw1];exact(Below.heap_alloc _ _ _ (by simp)).trans (heap_alloc_new w _)
 have h1b:w1.heap[w.heap.size+1]? =some (.cells #[.int .i64 1,.int .i64 2,.int .i64 4] 3 (0,0)):=(by have:=heap_alloc_new (w.alloc (.cells #[.int .i64 5,.int .i64 3,.int .i64 5] 3)) (.cells #[.int .i64 1,.int .i64 2,.int .i64 4] 3);rw[show(w.alloc (.cells #[.int .i64 5,.int .i64 3,.int .i64 5] 3)).heap.size=w.heap.size+1 by simp] at this;rw[hw1];exact this);have HS1:=Zse w1 _ _ 3 3 h1a h1b;have HB1:Hid (Below w.heap.size w w1):=hb1;clear hb1 h1a h1b;go_enter Tryz.func16,Tryz.ntmps16;go_wp2_with fail
 rw[<- hw1];clear hw1;refine HS1.mono ?_;rintro e w2 ⟨v1,rfl,ho1,hb2⟩;obtain⟨a1,c1,e1,hE1,_,_⟩:=ho1.seen (by decide);obtain rfl:v1=.slice a1 2 c1:=e1
 obtain⟨b1,o1,rfl,hA1⟩:∃b off,a1=some ⟨b,off,none⟩/\Zab w2 b off [⟨3,0,2,2⟩,⟨5,2,7,5⟩]:=by
  rcases hE1.2 with h0|h
  ·cases h0
  exact h
 have HB2:Hid (Below w.heap.size w w2):=HB1.out.trans (hb2.mono HB1.out.size);have HA1:Hid (Zab w2 b1 o1 [⟨3,0,2,2⟩,⟨5,2,7,5⟩]):=hA1;clear ho1 hb2 hE1 hA1 HS1 HB1;obtain⟨w3,hw3⟩:∃w3,w3=(w2.alloc (.cells #[.int .i64 4] 3)).alloc (.cells #[.int .i64 1] 3):=⟨_,rfl⟩;have hb3:Below w2.heap.size w2 w3:=(by rw[hw3];exact((Below.refl _ _).alloc (Qa _) _).alloc (by simp) _);have h3a:w3.heap[w2.heap.size]? =some (.cells #[.int .i64 4] 3 (0,0)):=by rw[hw3];exact(Below.heap_alloc _ _ _ (by simp)).trans (heap_alloc_new w2 _)
 have h3b:w3.heap[w2.heap.size+1]? =some (.cells #[.int .i64 1] 3 (0,0)):=(by have:=heap_alloc_new (w2.alloc (.cells #[.int .i64 4] 3)) (.cells #[.int .i64 1] 3);rw[show(w2.alloc (.cells #[.int .i64 4] 3)).heap.size=w2.heap.size+1 by simp] at this;rw[hw3];exact this);have HS2:=Zsf w3 _ _ 1 1 h3a h3b;have HB3:Hid (Below w2.heap.size w2 w3):=hb3;clear hb3 h3a h3b;go_wp2_with fail
 rw[<- hw3];clear hw3;refine HS2.mono ?_;rintro e w4 ⟨v2,rfl,ho2,hb4⟩;obtain⟨a2,c2,e2,hE2,_,_⟩:=ho2.seen (by decide);obtain rfl:v2=.slice a2 1 c2:=e2;have HB4:Hid (Below w2.heap.size w2 w4):=HB3.out.trans (hb4.mono HB3.out.size);have HJ:=Zi8 (some ⟨b1,o1,none⟩) a2 [⟨3,0,2,2⟩,⟨5,2,7,5⟩] [⟨4,0,1,1⟩] c1 c2 w4 ⟨by decide,.inr ⟨b1,o1,rfl,HA1.out.below HB4.out⟩⟩ hE2 Zrt Zru;rw[Zr1] at HJ;clear ho2 hb4 hE2 HS2 HB3;go_wp2_with fail
 refine HJ.mono ?_;rintro e w5 ⟨v3,rfl,ho3,hb5⟩;obtain⟨a3,c3,e3,hE3,_,_⟩:=ho3.seen (by decide);obtain rfl:v3=.slice a3 3 c3:=e3
 obtain⟨b3,o3,rfl,hA3⟩:∃b off,a3=some ⟨b,off,none⟩/\Zab w5 b off [⟨3,0,2,2⟩,⟨4,2,3,1⟩,⟨5,3,8,5⟩]:=by
  rcases hE3.2 with h0|h
  ·cases h0
  exact h
 have HB5:Hid (Below w2.heap.size w2 w5):=HB4.out.trans (hb5.mono HB4.out.size);have hA1:=HA1.out.below HB5.out;have x0:w5.cell? ⟨b1,o1+4,none⟩=some (.int .i64 5):=hA1.v 1 (by decide);have x1:w5.cell? ⟨b1,o1+4+1,none⟩=some (.int .i64 2):=hA1.lo 1 (by decide);have x2:w5.cell? ⟨b1,o1+4+2,none⟩=some (.int .i64 7):=hA1.hi 1 (by decide);have x3:w5.cell? ⟨b1,o1+4+3,none⟩=some (.int .i64 5):=hA1.wt 1 (by decide);have y0:w5.cell? ⟨b3,o3+4,none⟩=some (.int .i64 4):=hA3.v 1 (by decide);have y1:w5.cell? ⟨b3,o3+4+1,none⟩=some (.int .i64 2):=hA3.lo 1 (by decide);have y2:w5.cell? ⟨b3,o3+4+2,none⟩=some (.int .i64 3):=hA3.hi 1 (by decide);have y3:w5.cell? ⟨b3,o3+4+3,none⟩=some (.int .i64 1):=hA3.wt 1 (by decide);have HB5w:Hid (Below w.heap.size w w5):=HB2.out.trans (HB5.out.mono HB2.out.size)
 clear ho3 hb5 hE3 HJ HB4 hA1 hA3 HA1 HB2 HB5;go_upto_region 5 with fail;clear x0 x1 x2 x3 y0 y1 y2 y3;obtain⟨w6,hw6⟩:∃w6,w6=w5.alloc (.cells #[.bool false,.int .i64 0,.int .i64 0] 51):=⟨_,rfl⟩;have hb6:Below w5.heap.size w5 w6:=(by rw[hw6];exact(Below.refl _ _).alloc (Qa _) _);have h6:w6.heap[w5.heap.size]? =some (.cells #[.bool false,.int .i64 0,.int .i64 0] 51 (0,0)):=by rw[hw6];exact heap_alloc_new w5 _
 have hft:QE w6 w5.heap.size 0 1 noW no0 no0:=(by refine⟨by decide,fun _=>(Qb h6).1,fun i hi=>?_,fun i hi=>?_,fun i hi=>?_⟩;obtain rfl:i=0:=(by omega);exact cell_of_row _ _ 0 _ 51 (0,0) h6;obtain rfl:i=0:=(by omega);exact cell_of_row _ _ 1 _ 51 (0,0) h6;obtain rfl:i=0:=(by omega);exact cell_of_row _ _ 2 _ 51 (0,0) h6);have HFD:=ZsA w6 w5.heap.size 1 hft;unfold bH at HFD;have HB6:Hid (Below w.heap.size w w6):=HB5w.out.trans (hb6.mono HB5w.out.size);clear hft h6 hb6 HB5w;go_wp2_with fail
 rw[<- hw6];clear hw6;refine HFD.mono ?_;rintro e w7 ⟨gb,db,rfl,hO7,hb7⟩;have HO7:Hid (YL w7 gb db dH):=hO7;have HB7:Hid (Below w.heap.size w w7):=HB6.out.trans (hb7.mono HB6.out.size);clear hO7 hb7 HFD HB6;have HBY:=Zrk w7 gb db HO7.out;obtain⟨hs1,hs2⟩:=ZsF;generalize strOfNums (ZU dH [])=S at *;have HS2:Hid (S.extract 0 18=⟨#[71,82,2,1,110,0,1,1,0,0,0,1,1,0,100,8,0,0]⟩):=hs2;clear hs2;go_wp2_with fail
 refine HBY.mono ?_;rintro e w8 ⟨rfl,hb8⟩;have HLK:=Zr2 w8 gb db (HO7.out.below hb8);have HB8:Hid (Below w.heap.size w w8):=HB7.out.trans (hb8.mono HB7.out.size);clear hb8 HBY HB7 HO7;go_wp2_with fail
 refine HLK.mono ?_;rintro e w9 ⟨rfl,hb9⟩;have HB9:Hid (Below w.heap.size w w9):=HB8.out.trans (hb9.mono HB8.out.size);clear hb9 HLK HB8;have hs2:=HS2.out;have l1:(S.size:Int)=22:=(by rw[hs1];rfl);have l2:(18:Int)<=(S.size:Int):=(by omega);clear hs1;go_wp2;go_ret;exact⟨rfl,HB9.out⟩
end Go.Proofs.YtfcgnpchbcmdeaaGreat
