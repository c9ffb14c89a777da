import Derived.Test.YtfcgnpchbcmdeaaGreatZfao
import Derived.Test.YtfcgnpchbcmdeaaGreatZfaq
import Derived.Test.YtfcgnpchbcmdeaaGreatZfas
namespace Go.Proofs.YtfcgnpchbcmdeaaGreat
set_option linter.unusedSimpArgs false
set_option maxRecDepth 100000
set_option maxHeartbeats 4000000
open Go.RowKit
theorem ZoZ:Zjo:=fun va wa vl vc wl wc vz wz w h1 h2 h3 h4=>Znf va wa vl vc wl wc vz wz w h1 h2 h3 h4
def ZaR(wd:Bool)(nb nw:Nat):Nat:=if wd=true then nw else nb
theorem ZdN(wd:Bool)(ab aw:Option Addr)(nb cb nw cw:Nat)(w:World):Calls Tryz.prog 169 #[.agg #[.bool wd,.slice ab nb cb,.slice aw nw cw]] w fun e w'=>e=.returned (.int .i64 (ZaR wd nb nw:Nat))/\Below w.heap.size w w':=by
 cases wd
 all_goals
  go_enter Tryz.func169,Tryz.ntmps169;go_wp2;go_ret;exact⟨rfl,(Below.refl _ _).alloc (Qa _) _⟩
theorem Zei(wd:Bool)(ab aw:Option Addr)(nb cb nw cw:Nat)(w:World)(h:ZaR wd nb nw<=1000000):Calls Tryz.prog 191 #[.agg #[.bool wd,.slice ab nb cb,.slice aw nw cw]] w fun e w'=>e=.returned (.int .i64 ((ZaR wd nb nw:Nat)+1))/\Below w.heap.size w w':=by
 have HC:Hid (∀W,Calls Tryz.prog 169 #[.agg #[.bool wd,.slice ab nb cb,.slice aw nw cw]] W fun e w'=>e=.returned (.int .i64 (ZaR wd nb nw:Nat))/\Below W.heap.size W w'):=fun W=>ZdN wd ab aw nb cb nw cw W;generalize ZaR wd nb nw=n at *;go_enter Tryz.func191,Tryz.ntmps191;go_wp2_with fail
 refine(HC.out _).mono ?_;rintro e w1 ⟨rfl,hb⟩;have hb2:Below w.heap.size w w1:=((Below.refl _ _).alloc (Qa _) _).trans (hb.mono (by simp));clear hb;go_wp2;go_ret;exact⟨rfl,hb2⟩
theorem Y5(wd:Bool)(ab aw:Option Addr)(nb cb nw cw:Nat)(w:World)(h:ZaR wd nb nw<=1000000):Calls Tryz.prog 146 #[.agg #[.bool wd,.slice ab nb cb,.slice aw nw cw]] w fun e w'=>e=.returned (.int .i64 ((ZaR wd nb nw:Nat)+2))/\Below w.heap.size w w':=by
 have HC:Hid (∀W,Calls Tryz.prog 191 #[.agg #[.bool wd,.slice ab nb cb,.slice aw nw cw]] W fun e w'=>e=.returned (.int .i64 ((ZaR wd nb nw:Nat)+1))/\Below W.heap.size W w'):=fun W=>Zei wd ab aw nb cb nw cw W h;generalize ZaR wd nb nw=n at *;go_enter Tryz.func146,Tryz.ntmps146;go_wp2_with fail
 refine(HC.out _).mono ?_;rintro e w1 ⟨rfl,hb⟩;have hb2:Below w.heap.size w w1:=((Below.refl _ _).alloc (Qa _) _).trans (hb.mono (by simp));clear hb;go_wp2;go_ret;exact⟨by rw[Int.add_assoc];rfl,hb2⟩
def Zp:List VS->List Int->List (Int×Int)
 |[],_=>[]
 |_::_,[]=>[]
 |v::L,z::ws=>if v.miss=true then Zp L ws else(v.num,z)::Zp L ws
def Ym(L:List VS)(ws:List Int)(bins:Int)(size:Nat):List Int:=ZT (ZW size ((Zp L ws).map Prod.fst) ((Zp L ws).map Prod.snd)) bins
theorem Zay:∀(L:List VS) (ws:List Int),(Zp L ws).length<=L.length
 |[],_=>by simp[Zp]
 |_::_,[]=>by simp[Zp]
 |v::L,z::ws=>by have:=Zay L ws;simp only[Zp];split;simp;omega;simp;omega
theorem Zfk:∀(L:List VS) (ws:List Int),∀p∈Zp L ws,(∃v∈L,v.num=p.1)/\p.2∈ws
 |[],_=>by simp[Zp]
 |_::_,[]=>by simp[Zp]
 | v::L,z::ws=>fun p hp=>by
  have ih:=Zfk L ws p;simp only[Zp] at hp;split at hp;obtain⟨⟨x,hx,e⟩,h2⟩:=ih hp;exact⟨⟨x,by simp[hx],e⟩,by simp[h2]⟩
  rcases List.mem_cons.1 hp with rfl|hp
  exact⟨⟨v,by simp,rfl⟩,by simp⟩;obtain⟨⟨x,hx,e⟩,h2⟩:=ih hp;exact⟨⟨x,by simp[hx],e⟩,by simp[h2]⟩
theorem Zfl:∀(A:List VS) (ws:List Int) (v:VS) (z:Int),A.length=ws.length->Zp (A++[v]) (ws++[z])=Zp A ws++(if v.miss=true then[] else[(v.num,z)])
 |[],[],v,z,_=>by simp only[Zp,List.nil_append]
 |a::A,y::ws,v,z,h=>by have ih:=Zfl A ws v z (by simpa using h);simp only[List.cons_append,Zp];rw[ih];split;rfl;rfl
 |[],y::ws,v,z,h=>by simp at h
 |a::A,[],v,z,h=>by simp at h
theorem Zkp(L:List VS){r:Nat}(h:r<L.length):L.take (r+1)=L.take r++[L.getD r ZF]:=by rw[Qi h];simp[List.getD,h]
theorem Zko(L:List Int){r:Nat}(h:r<L.length):L.take (r+1)=L.take r++[L.getD r 0]:=by rw[Qi h];simp[List.getD,h]
theorem Znz{z:Int}(h1: -1000000000000<=z)(h2:z<=1000000000000):(Lit.int .i64 z).wf=true:=by simp[Lit.wf,IntKind.min,IntKind.max,IntKind.bits,IntKind.signed];omega
theorem Ze.seen{w:World}{base:Nat}{v:Value}{zs:List Int}(h:Ze w base v zs)(hr:∀z∈zs,-1000000000000<=z/\z<=1000000000000):∃a c,v=.slice a zs.length c/\ZM w a zs.length zs/\zs.length<=c/\(a=none->c=0):=by
 have h':=h
 rcases h.2 with⟨rfl,h0⟩|⟨g,cap,cur,rfl,_,hh,hnc,_⟩
 exact⟨none,0,by rw[h0],⟨rfl,fun z hz=>Znz (hr z hz).1 (hr z hz).2,.inl h0⟩,by omega,fun _=>rfl⟩;refine⟨_,cap,rfl,⟨rfl,fun z hz=>Znz (hr z hz).1 (hr z hz).2,.inr ⟨g,0,rfl,(Qb hh).1,fun i hi=>?_⟩⟩,hnc,fun e=>by cases e⟩;rw[Nat.zero_add,World.ownsRow.cellAt h' i (by omega)];simp[List.getD,hi]
def Zpa(w:World)(base:Nat)(v:Value)(bs:List Int):Prop:=∃vb,v=.agg #[.bool false,vb,.slice none 0 0]/\Ze w base vb bs
theorem Ze.mono{w:World}{b b':Nat}{v:Value}{L:List Int}(h:Ze w b' v L)(hb:b<=b'):Ze w b v L:=by
 refine⟨h.1,?_⟩
 rcases h.2 with hn|⟨g,cap,cur,e,hg,r⟩
 exact .inl hn;exact .inr ⟨g,cap,cur,e,Nat.le_trans hb hg,r⟩
theorem Zl{w:World}{base ty size n b j ty':Nat}{v u:Value}{xs:List Value}{cur:Array Value}(h:w.ownsRow base ty size v n xs)(hb:w.heap[b]? =some (.cells cur ty' (0,0)))(hne:ty≠ty'):(w.setCell ⟨b,j,none⟩ u).ownsRow base ty size v n xs:=
 ((Za.refl (fun k=>k=b) w).setCell (p:=⟨b,j,none⟩) (fun _=>rfl) u).row h (fun _ hk e=>Zv h hk hb hne e)
theorem Zbu{size:Nat}(hs:2<=size)(hs2:size<=32):∀(f:Nat) (Ls:List (List Zm)) (vs ws:List Int),Yt Ls->Zw Ls+1000*(vs.length:Int)<=1000000000000->vs.length<=2097152->Yt (Yj size f Ls vs ws)/\Zw (Yj size f Ls vs ws)<=Zw Ls+1000*(vs.length:Int)
 |0,Ls,vs,ws,h,ht,hl=>⟨h,by simp only[Yj];omega⟩
 |f+1,Ls,vs,ws,h,ht,hl=>by simp only[Yj];split;exact⟨h,by omega⟩;have h1:=ZeM (vs:=vs.take size) (ws:=ws.take size) (by simp;omega);have hp:=Yn h.good;have hlen:(vs.take size).length+(vs.drop size).length=vs.length:=(by simp;omega);have hlt:(vs.take size).length<=size:=(by simp;omega);obtain⟨t1,t2⟩:=Zbq (size:=(size:Int)) (by omega) (by omega) h h1.1 (by omega) (by omega);obtain⟨i1,i2⟩:=Zbu hs hs2 f _ (vs.drop size) (ws.drop size) t1 (by omega) (by omega);exact⟨i1,by omega⟩
theorem Zfd{size:Int}(hs:2<=size)(hs2:size<=32):∀(Ls:List (List Zm)) (al:List Zm),Yt Ls->Zy al->al.length<=32->Zc al+Zw Ls<=1000000000000->Zy (YC size al Ls)/\(YC size al Ls).length<=32
 |[],al,h,g,hl,ht=>⟨g,hl⟩
 |l::r,al,h,g,hl,ht=>by have gl:=h.good l (by simp);have hr:Yt r:=⟨fun x hx=>h.good x (by simp[hx]),fun x hx=>h.len x (by simp[hx])⟩;have p1:=Yn hr.good;simp only[Zw] at ht;have gj:=Y6 g gl (by omega);have lc:=Zbj (Zr al l) hs;have tc:Zc (Yz (Zr al l) size)=Zc al+Zc l:=(by rw[Zaz,Y9]);simp only[YC];exact Zfd hs hs2 r _ hr (gj.sub (Q9 gj size)) (by omega) (by omega)
theorem Zb8{size:Nat}(hs:2<=size)(hs2:size<=32)(vs ws:List Int)(hl:vs.length<=2097152):Zy (ZW size vs ws)/\(ZW size vs ws).length<=32:=by obtain⟨h1,h2⟩:=Zbu hs hs2 vs.length [] vs ws Yt.nil (by simp[Zw];omega) hl;exact Zfd (by omega) (by omega) _ [] h1 Zy.nil (by simp) (by simp[Zc,Zw] at h2 ⊢;omega)
theorem Zex(va wa:Option Addr)(n vcap wcap size:Nat)(bins:Int)(L:List VS)(ws:List Int)(w:World)(hv:Qr w 0 (.slice va n vcap) L)(hw:ZM w wa n ws)(hL:L.length=n)(hn:n<=200)(hr:∀v∈L,-1000000000<=v.num/\v.num<=1000000000)(hz:∀z∈ws,0<=z/\z<=99)(hs:2<=size)(hs2:size<=32)(hb1:2<=bins)(hb2:bins<=16):Calls Tryz.prog 217 #[.slice va n vcap,.slice wa n wcap,.int .i64 bins,.int .i64 size] w fun e w'=>∃v,e=.returned v/\Zpa w' w.heap.size v (Ym L ws bins size)/\Below w.heap.size w w':=by
 have HV:Hid (Qr w 0 (.slice va n vcap) L):=hv;have HW:Hid (ZM w wa n ws):=hw;have HLL:Hid (L.length=n/\ws.length=n):=⟨hL,hw.1⟩;have HR:Hid ((∀v∈L,-1000000000<=v.num/\v.num<=1000000000)/\∀z∈ws,0<=z/\z<=99):=⟨hr,hz⟩;clear hv hw hL hr hz;go_enter Tryz.func217,Tryz.ntmps217;go_wp2_with fail
 go_loopw [15,9,10] (fun ti tn tw wr=>∃k:Nat,ti=.int .i64 k/\k<=n/\Hid (Ze wr (w.heap.size+1) tn ((Zp (L.take k) (ws.take k)).map Prod.fst)/\Ze wr (w.heap.size+1) tw ((Zp (L.take k) (ws.take k)).map Prod.snd)/\Zao tn tw)/\Below (w.heap.size+1) (w.alloc (.cells #[.bool false,.slice none 0 0,.slice none 0 0] 170)) wr) (fun ti _ _ _=>n-(intOf ti).toNat)
 case atStart=>exact⟨0,rfl,Qg _,⟨Ze.nil _ _,Ze.nil _ _,.inl rfl⟩,Below.refl _ _⟩
 case round=>
  obtain⟨k,rfl,hk,HO,hbel⟩:=hrel;have hsz:=hbel.size;simp at hsz
  by_cases hkn:k<n
  ·have hkL:k<L.length:=(by rw[HLL.out.1];exact hkn);obtain⟨q,rfl,hql,c0,c1,c2⟩:=HV.out.at hkL;rcases HW.out with⟨_,_,h0|⟨b2,o2,rfl,hb2',hc2⟩⟩;omega;have hbw:Below w.heap.size w wr:=((Below.refl _ _).alloc (Qa _) _).trans (hbel.mono (by omega));have a0:=(hbw.cell (p:=⟨q,k*3,none⟩) hql).trans c0;have a1:=(hbw.cell (p:=⟨q,k*3+1,none⟩) hql).trans c1;have a2:=(hbw.cell (p:=⟨q,k*3+2,none⟩) hql).trans c2;have d1:=(hbw.cell (p:=⟨b2,o2+k,none⟩) hb2').trans (hc2 k hkn);have hkw:k<ws.length:=(by rw[HLL.out.2];exact hkn);have hsn:=Zfl (L.take k) (ws.take k) (L.getD k ZF) (ws.getD k 0) (by simp;have:=HLL.out;omega);rw[<- Zkp L hkL,<- Zko ws hkw] at hsn;have hkl:=Zay (L.take k) (ws.take k)
   have hkl2:(Zp (L.take k) (ws.take k)).length<=200:=(by rw[List.length_take] at hkl;omega);clear hkl hc2 c0 c1 c2;generalize L.getD k ZF=x at *;generalize ws.getD k 0=z at *;obtain⟨xm,xn,xw⟩:=x;simp only at a0 a1 a2 hsn;have bk1:(0:Int)<=(k:Int):=(by omega);have bk2:(k:Int)<(n:Int):=by omega
   cases xm with
   | true=>
    have HSN:Hid (Zp (L.take (k+1)) (ws.take (k+1))=Zp (L.take k) (ws.take k)):=(by show _=_;rw[hsn];simp);clear hsn;have hf1:=HO.out.1.alloc (.cells #[.bool true,.int .i64 xn,.string xw] 308);have hf2:=HO.out.2.1.alloc (.cells #[.bool true,.int .i64 xn,.string xw] 308);have HF:Hid (Ze (wr.alloc (.cells #[.bool true,.int .i64 xn,.string xw] 308)) (w.heap.size+1) u9 ((Zp (L.take (k+1)) (ws.take (k+1))).map Prod.fst)/\Ze (wr.alloc (.cells #[.bool true,.int .i64 xn,.string xw] 308)) (w.heap.size+1) u10 ((Zp (L.take (k+1)) (ws.take (k+1))).map Prod.snd)/\Zao u9 u10):=by rw[HSN.out];exact⟨hf1,hf2,HO.out.2.2⟩
    clear hf1 hf2 HO;go_wp2;go_roundw;case rel=>exact⟨k+1,by go_num,by omega,HF,hbel.trans ((Below.refl _ _).alloc (by omega) _)⟩
    case measure=>simp[intOf];omega
   | false=>
    have HSN:Hid (Zp (L.take (k+1)) (ws.take (k+1))=Zp (L.take k) (ws.take k)++[(xn,z)]):=(by show _=_;rw[hsn];simp);clear hsn;generalize Zp (L.take k) (ws.take k)=out at *;have HO1:Hid (Ze wr (w.heap.size+1) u9 (out.map Prod.fst)):=HO.out.1;have HO2:Hid (Ze wr (w.heap.size+1) u10 (out.map Prod.snd)):=HO.out.2.1;have HAP:Hid (Zao u9 u10):=HO.out.2.2;clear HO;go_wp2_with (at_builtin;refine Z5 rfl (.tmp 23) (.tmp 26) rfl (w.heap.size+1) _ (out.map Prod.fst) xn rfl ((HO1.out.alloc _).alloc _) (wr.heap.size+1) 1 rfl ?_ ?_ ?_ ?_)
    ·simp[go_sem]
    simp;omega;simp;omega;intro v3 w3 H3;have hq2:=H3.out.2.1;have hsz3:=hq2.size;simp at hsz3;have HO3:Hid (Ze w3 (w.heap.size+1) v3 (out.map Prod.fst++[xn])):=H3.out.1;have HO4:Hid (Ze w3 (w.heap.size+1) u10 (out.map Prod.snd)):=Ze.kept ((HO2.out.alloc _).alloc _) hq2 HAP.out.keeps
    have HAP2:Hid (Zao v3 u10):=Zao.moved HAP.out ((HO2.out.alloc (.cells #[.bool false,.int .i64 xn,.string xw] 308)).alloc (.cells #[.int .i64 xn] 3)) (by
     rcases H3.out.2.2 with e|e
     exact .inl e
     exact .inr (by simpa using e.1))
    have hb3:Below (w.heap.size+1) wr w3:=(((Below.refl _ _).alloc (by omega) _).alloc (by simp;omega) _).grown hq2 (by simp;omega) (fun k hk=>(HO1.out.lt k hk).1);have d3:w3.cell? ⟨b2,o2+k,none⟩=some (.int .i64 z):=(hb3.cell (p:=⟨b2,o2+k,none⟩) (by show b2<_;omega)).trans d1;clear H3 hq2 HO1 HO2 HAP d1 a0 a1 a2;go_wp2_with (at_builtin;refine Z5 rfl (.tmp 28) (.tmp 33) rfl (w.heap.size+1) _ (out.map Prod.snd) z rfl (HO4.out.alloc _) w3.heap.size 1 rfl ?_ ?_ ?_ ?_)
    ·simp[go_sem]
    simp;omega;simp;omega;intro v5 w5 H5;have hq5:=H5.out.2.1
    have HF:Hid (Ze w5 (w.heap.size+1) v3 ((Zp (L.take (k+1)) (ws.take (k+1))).map Prod.fst)/\Ze w5 (w.heap.size+1) v5 ((Zp (L.take (k+1)) (ws.take (k+1))).map Prod.snd)/\Zao v3 v5):=by
     rw[HSN.out];simp only[List.map_append,List.map_cons,List.map_nil];refine⟨Ze.kept (HO3.out.alloc _) hq5 HAP2.out.symm.keeps,H5.out.1,?_⟩
     exact(Zao.moved HAP2.out.symm (HO3.out.alloc (.cells #[.int .i64 z] 3)) (by
      rcases H5.out.2.2 with e|e
      exact .inl e
      exact .inr (by simpa using e.1))).symm
    have hb5:Below (w.heap.size+1) w3 w5:=((Below.refl _ _).alloc (by omega) _).grown hq5 (by simp;omega) (fun k hk=>(HO4.out.lt k hk).1);clear H5 hq5 HO3 HO4 HAP2 d3;go_wp2;go_roundw;case rel=>exact⟨k+1,by go_num,by omega,HF,hbel.trans (hb3.trans hb5)⟩
    case measure=>simp[intOf];omega
  have hnk:¬(k:Int)<(n:Int):=(by omega);have hfull:Zp (L.take k) (ws.take k)=Zp L ws:=(by rw[List.take_of_length_le (by have:=HLL.out;omega),List.take_of_length_le (by have:=HLL.out;omega)]);rw[hfull] at HO;have hkl:=Zay L ws;rw[HLL.out.1] at hkl;obtain⟨hi1,hi2,_⟩:=HO.out
  obtain⟨a1,c1,rfl,hV1,hC1,_⟩:=hi1.seen (fun z hz=>by
   obtain⟨p,hp,rfl⟩:=List.mem_map.1 hz;obtain⟨⟨v,hv,e⟩,_⟩:=Zfk L ws p hp
   have:=HR.out.1 v hv;omega)
  obtain⟨a2,c2,rfl,hV2,hC2,_⟩:=hi2.seen (fun z hz=>by
   obtain⟨p,hp,rfl⟩:=List.mem_map.1 hz;obtain⟨_,h⟩:=Zfk L ws p hp
   have:=HR.out.2 _ h;omega)
  have hl1:((Zp L ws).map Prod.fst).length=(Zp L ws).length:=(by simp);have hl2:((Zp L ws).map Prod.snd).length=(Zp L ws).length:=(by simp);rw[hl1] at hV1 hC1 ⊢;rw[hl2] at hV2 hC2 ⊢;have HIB:Hid (Calls Tryz.prog 274 #[.slice a1 (Zp L ws).length c1,.slice a2 (Zp L ws).length c2,.int .i64 size] wr fun e w'=>∃v,e=.returned v/\Zh w' wr.heap.size v (ZW size ((Zp L ws).map Prod.fst) ((Zp L ws).map Prod.snd))/\Below wr.heap.size wr w'):=Zhv ZoZ a1 a2 _ c1 c2 size _ _ wr hV1 hV2 (by omega) hC1 hC2 hs hs2;have hok:=Zb8 hs hs2 ((Zp L ws).map Prod.fst) ((Zp L ws).map Prod.snd) (by simp;omega)
  have HOK:Hid (Zy (ZW size ((Zp L ws).map Prod.fst) ((Zp L ws).map Prod.snd))/\(ZW size ((Zp L ws).map Prod.fst) ((Zp L ws).map Prod.snd)).length<=32/\Ym L ws bins size=ZT (ZW size ((Zp L ws).map Prod.fst) ((Zp L ws).map Prod.snd)) bins):=⟨hok.1,hok.2,rfl⟩;clear hi1 hi2 hV1 hV2 hC1 hC2 HO hl1 hl2 hfull hok;generalize ZW size ((Zp L ws).map Prod.fst) ((Zp L ws).map Prod.snd)=I at *;generalize (Zp L ws).length=nk at *;have c8a:wr.cell? ⟨w.heap.size,0,none⟩=some (.bool false):=(hbel.cell (p:=⟨w.heap.size,0,none⟩) (by show w.heap.size<_;omega)).trans (by simp[go_sem]);go_wp2_with fail
  refine HIB.out.mono ?_;rintro e w1 ⟨vj,rfl,hoj,hbj⟩;have hs1:=hbj.size;obtain⟨aj,cj,rfl,hEj,hnj,hcj⟩:=hoj.seen (by have:=HOK.out.2.1;omega);have HBD:Hid (Calls Tryz.prog 273 #[.slice aj I.length cj,.int .i64 bins] w1 fun e w'=>∃v,e=.returned v/\Ze w' w1.heap.size v (ZT I bins)/\Below w1.heap.size w1 w'):=Zjv aj I cj bins w1 hEj HOK.out.1 hcj hb1 hb2;clear hoj hEj hnj hcj HIB;generalize I.length=nI at *;go_wp2_with fail
  refine HBD.out.mono ?_;rintro e w2 ⟨vb,rfl,hob,hbb⟩;have hs2':=hbb.size;have hb12:Below (w.heap.size+1) wr w2:=(hbj.mono (by omega)).trans (hbb.mono (by omega));have HF:Hid (Ze w2 w.heap.size vb (Ym L ws bins size)):=(by rw[HOK.out.2.2];exact hob.mono (by omega));have hbf:Below w.heap.size w w2:=((Below.refl _ _).alloc (Qa _) _).trans ((hbel.trans hb12).mono (by omega));have hg8:w2.heap[w.heap.size]? =some (.cells #[.bool false,.slice none 0 0,.slice none 0 0] 170 (0,0)):=((hbel.trans hb12).block w.heap.size (by omega)).trans (heap_alloc_new _ _)
  obtain⟨ab,cb,hvb⟩:∃a c,vb=.slice a (Ym L ws bins size).length c:=by
   rcases HF.out.2 with⟨rfl,h0⟩|⟨q,p,cur,rfl,_⟩
   exact⟨none,0,by rw[h0]⟩;exact⟨_,_,rfl⟩
  subst hvb;have e0:w2.cell? ⟨w.heap.size,0,none⟩=some (.bool false):=cell_of_row _ _ 0 _ 170 (0,0) hg8;have e1:w2.cell? ⟨w.heap.size,1,none⟩=some (.slice none 0 0):=cell_of_row _ _ 1 _ 170 (0,0) hg8;have e2:w2.cell? ⟨w.heap.size,2,none⟩=some (.slice none 0 0):=cell_of_row _ _ 2 _ 170 (0,0) hg8;have f0:w2.frozen? ⟨w.heap.size,0,none⟩=false:=frozen_of_row _ _ 0 _ 170 hg8;have f1:w2.frozen? ⟨w.heap.size,1,none⟩=false:=frozen_of_row _ _ 1 _ 170 hg8;have f2:w2.frozen? ⟨w.heap.size,2,none⟩=false:=frozen_of_row _ _ 2 _ 170 hg8;have HG8:Hid (w2.heap[w.heap.size]? =some (.cells #[.bool false,.slice none 0 0,.slice none 0 0] 170 (0,0))):=hg8;have HBF:Hid (Below w.heap.size w w2):=hbf;clear hob hbb hbj HBD c8a hg8 hbf;generalize (Ym L ws bins size).length=nb at *;go_wp2
  refine bodyPost_ret (v:=.agg #[.bool false,.slice ab nb cb,.slice none 0 0]) (by simp[results,Tryz.results217,go_sem, *]) rfl ?_;refine⟨_,rfl,⟨_,rfl,?_⟩,?_⟩;exact((Zl (Zl (Zl HF.out HG8.out (by decide)) (by exact heap_setCell_same _ _ _ _ _ _ HG8.out) (by decide)) (by exact heap_setCell_same _ _ _ _ _ _ (heap_setCell_same _ _ _ _ _ _ HG8.out)) (by decide)));exact((HBF.out.setCell (Qa _) _).setCell (Qa _) _).setCell (Qa _) _
end Go.Proofs.YtfcgnpchbcmdeaaGreat
