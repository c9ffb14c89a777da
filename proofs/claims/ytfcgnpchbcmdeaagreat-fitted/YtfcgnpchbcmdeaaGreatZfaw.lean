import Derived.Test.YtfcgnpchbcmdeaaGreatZfau
import Derived.Test.YtfcgnpchbcmdeaaGreatZfav
import Derived.Test.YtfcgnpchbcmdeaaGreatZfaf
namespace Go.Proofs.YtfcgnpchbcmdeaaGreat
set_option linter.unusedSimpArgs false
set_option maxRecDepth 100000
set_option maxHeartbeats 4000000
open Go.RowKit
def ZR(w:World)(base:Nat)(v:Value)(ss:List ByteArray):Prop:=w.ownsRow base 9 1 v ss.length (ss.map Value.string)
theorem ZR.nil(w:World)(base:Nat):ZR w base (.slice none 0 0) []:=World.ownsRow_nil w base 9 1
structure ES where
 wd:Bool
 bs:List Int
 ww:List ByteArray
def ES.cnt(e:ES):Nat:=ZaR e.wd e.bs.length e.ww.length
def ZcA(w:World)(base:Nat)(v:Value)(e:ES):Prop:=∃vb vw,v=.agg #[.bool e.wd,vb,vw]/\Ze w base vb e.bs/\ZR w base vw e.ww
def Yi(e:ES)(v:VS):Nat:=if v.miss=true then e.cnt+1 else if e.wd=true then e.ww.findIdx (fun y=>decide (y=v.word)) else e.bs.countP (fun b=>decide (b<v.num))
theorem ZR.below{w w':World}{base:Nat}{v:Value}{L:List ByteArray}(h:ZR w base v L)(hb:Below w.heap.size w w'):ZR w' base v L:=(Za.of_below (S:=fun _=>False) hb).row h (fun _ _=>id)
theorem ZcA.below{w w':World}{base:Nat}{v:Value}{e:ES}(h:ZcA w base v e)(hb:Below w.heap.size w w'):ZcA w' base v e:=by obtain⟨vb,vw,h1,h2,h3⟩:=h;exact⟨vb,vw,h1,h2.below hb,h3.below hb⟩
theorem Ze.shape{w:World}{base:Nat}{v:Value}{L:List Int}(h:Ze w base v L):∃a c,v=.slice a L.length c:=by
 rcases h.2 with⟨rfl,h0⟩|⟨q,p,cur,rfl,_⟩
 exact⟨none,0,by rw[h0]⟩;exact⟨_,_,rfl⟩
theorem ZR.form{w:World}{base:Nat}{v:Value}{L:List ByteArray}(h:ZR w base v L):∃a c,v=.slice a L.length c:=by
 rcases h.2 with⟨rfl,h0⟩|⟨q,p,cur,rfl,_⟩
 exact⟨none,0,by rw[h0]⟩;exact⟨_,_,rfl⟩
theorem ZcA.form{w:World}{base:Nat}{v:Value}{e:ES}(h:ZcA w base v e):∃ab cb aw cw,v=.agg #[.bool e.wd,.slice ab e.bs.length cb,.slice aw e.ww.length cw]/\Ze w base (.slice ab e.bs.length cb) e.bs/\ZR w base (.slice aw e.ww.length cw) e.ww:=by obtain⟨vb,vw,h1,h2,h3⟩:=h;obtain⟨ab,cb,rfl⟩:=h2.shape;obtain⟨aw,cw,rfl⟩:=h3.form;exact⟨ab,cb,aw,cw,h1,h2,h3⟩
theorem Zkg(a:Option Addr)(c base:Nat)(bs:List Int)(x:Int)(w:World)(h:Ze w base (.slice a bs.length c) bs)(hs:bs.Pairwise (· <= ·))(hl:bs.length<=1000000):Calls Tryz.prog 275 #[.slice a bs.length c,.int .i64 x] w fun e w'=>(∃f,e=.returned (.tuple #[.int .i64 (bs.countP (fun b=>decide (b<x)):Nat),.bool f]))/\Below w.heap.size w w':=by
 have h':=h
 rcases h.2 with⟨e,h0⟩|⟨g,cap,cur,e,_,hh,hnc,_⟩
 rw[h0];refine(Tryz.slices_BinarySearch_int_empty a c x w).mono ?_;rintro e w' ⟨rfl,rfl⟩;have:bs=[]:=List.length_eq_zero_iff.1 h0;subst this;exact⟨⟨false,rfl⟩,Below.refl _ _⟩;injection e with e1 e2 e3;subst e1 e3;refine(Tryz.slices_BinarySearch_int g 0 bs.length c bs x w (Qa _) (by omega) (fun j hj=>?_) (by rw[List.take_length];exact hs)).mono ?_;rw[Nat.zero_add,World.ownsRow.cellAt h' j (by omega)];simp[List.getD,hj];rintro e w' ⟨rfl,q,rfl⟩;rw[List.take_length];exact⟨⟨_,rfl⟩,below_drewN (Below.refl _ _) q⟩
theorem Zet(v x:Value)(base:Nat)(e:ES)(s:VS)(w:World)(h:ZcA w base v e)(hs:e.bs.Pairwise (· <= ·))(hl:e.bs.length<=1000000)(hx:x=.agg #[.bool s.miss,.int .i64 s.num,.string s.word]):Calls Tryz.prog 218 #[v,x] w fun r w'=>r=.returned (.int .i64 (e.bs.countP (fun b=>decide (b<s.num)):Nat))/\Below w.heap.size w w':=by
 obtain⟨ab,cb,aw,cw,rfl,hb,_⟩:=h.form;subst hx;have HS:Hid (∀W:World,Below w.heap.size w W->Calls Tryz.prog 275 #[.slice ab e.bs.length cb,.int .i64 s.num] W fun r w'=>(∃f,r=.returned (.tuple #[.int .i64 (e.bs.countP (fun b=>decide (b<s.num)):Nat),.bool f]))/\Below W.heap.size W w'):=fun W hW=>Zkg ab cb base e.bs s.num W (hb.below hW) hs hl;clear h hb hs;generalize e.bs.countP (fun b=>decide (b<s.num))=r at *;generalize e.bs.length=n at *;go_enter Tryz.func218,Tryz.ntmps218;go_wp2_with fail
 refine(HS.out _ (((Below.refl _ _).alloc (Qa _) _).alloc (by simp) _)).mono ?_;rintro q w1 ⟨⟨f,rfl⟩,hb1⟩;have hb2:Below w.heap.size w w1:=(((Below.refl _ _).alloc (Qa _) _).alloc (by simp) _).trans (hb1.mono (by simp;omega));clear hb1;go_wp2;go_ret;exact⟨rfl,hb2⟩
theorem Ziw:∀(ss:List ByteArray) (x:ByteArray) (i:Nat),(if 0<=Lib.idxFromS ss x i then Lib.idxFromS ss x i else((i+ss.length:Nat):Int))=((i+ss.findIdx (fun y=>decide (y=x)):Nat):Int)
 |[],x,i=>by simp[Lib.idxFromS]
 | z::ss,x,i=>by
  have ih:=Ziw ss x (i+1)
  by_cases e:z=x
  subst e;simp[Lib.idxFromS,List.findIdx_cons];simp only[Lib.idxFromS,List.findIdx_cons,e,decide_false,cond_false,List.length_cons,if_false];rw[show i+(ss.length+1)=i+1+ss.length by omega,show i+(ss.findIdx (fun y=>decide (y=x))+1)=i+1+ss.findIdx (fun y=>decide (y=x)) by omega];exact ih
theorem ZlL(a:Option Addr)(c base:Nat)(ss:List ByteArray)(x:ByteArray)(w:World)(h:ZR w base (.slice a ss.length c) ss)(hl:ss.length<=1000000):Calls Tryz.prog 267 #[.slice a ss.length c,.string x] w fun e w'=>e=.returned (.int .i64 (Lib.idxOfS ss x))/\w'=w:=by
 have h':=h
 rcases h.2 with⟨e,h0⟩|⟨g,cap,cur,e,_,hh,hnc,_⟩
 rw[h0];have:ss=[]:=List.length_eq_zero_iff.1 h0;subst this;exact Tryz.slices_Index_string_empty a c x w;injection e with e1 e2 e3;subst e1 e3
 have:=Tryz.slices_Index_string g 0 ss.length c ss x w (Qa _) (by omega) (fun j hj=>by
  rw[Nat.zero_add,World.ownsRow.cellAt h' j (by omega)]
  simp[List.getD,hj])
 rw[List.take_length] at this;exact this
theorem Zf5(v x:Value)(base:Nat)(e:ES)(s:VS)(w:World)(h:ZcA w base v e)(hl:e.ww.length<=1000000)(hx:x=.agg #[.bool s.miss,.int .i64 s.num,.string s.word]):Calls Tryz.prog 213 #[v,x] w fun r w'=>r=.returned (.int .i64 (e.ww.findIdx (fun y=>decide (y=s.word)):Nat))/\Below w.heap.size w w':=by
 obtain⟨ab,cb,aw,cw,rfl,_,hb⟩:=h.form;subst hx;have HS:Hid (∀W:World,Below w.heap.size w W->Calls Tryz.prog 267 #[.slice aw e.ww.length cw,.string s.word] W fun r w'=>r=.returned (.int .i64 (Lib.idxOfS e.ww s.word))/\w'=W):=fun W hW=>ZlL aw cw base e.ww s.word W (hb.below hW) hl;have hid:=Ziw e.ww s.word 0;simp only[Nat.zero_add] at hid;have HI:Hid ((if 0<=Lib.idxOfS e.ww s.word then Lib.idxOfS e.ww s.word else(e.ww.length:Int))=((e.ww.findIdx (fun y=>decide (y=s.word)):Nat):Int)):=hid;clear h hb hid;generalize e.ww.findIdx (fun y=>decide (y=s.word))=r at *;generalize Lib.idxOfS e.ww s.word=d at *;generalize e.ww.length=n at *
 by_cases hd:0<=d
 ·have hd2:¬d<0:=(by omega);have HR:Hid (d=(r:Int)):=(by have:=HI.out;rw[if_pos hd] at this;exact this);clear HI;go_enter Tryz.func213,Tryz.ntmps213;go_wp2_with fail
  refine(HS.out _ (((Below.refl _ _).alloc (Qa _) _).alloc (by simp) _)).mono ?_;rintro q w1 ⟨rfl,rfl⟩;go_wp2;go_ret;exact⟨by rw[HR.out];rfl,(((Below.refl _ _).alloc (Qa _) _).alloc (by simp) _)⟩
 have hd2:d<0:=(by omega);have HR:Hid ((n:Int)=(r:Int)):=(by have:=HI.out;rw[if_neg hd] at this;exact this);clear HI;go_enter Tryz.func213,Tryz.ntmps213;go_wp2_with fail
 refine(HS.out _ (((Below.refl _ _).alloc (Qa _) _).alloc (by simp) _)).mono ?_;rintro q w1 ⟨rfl,rfl⟩;go_wp2;go_ret;exact⟨by rw[HR.out];rfl,(((Below.refl _ _).alloc (Qa _) _).alloc (by simp) _)⟩
structure ZcI(e:ES):Prop where
 rise:e.bs.Pairwise (· <= ·)
 lb:e.bs.length<=1000
 lw:e.ww.length<=1000
theorem ZnL(v x:Value)(base k3:Nat)(e:ES)(s:VS)(w:World)(h:ZcA w base v e)(hk:ZcI e)(hx:x=.agg #[.bool s.miss,.int .i64 s.num,.string s.word])(hc:w.cell? ⟨k3,0,none⟩=some (.func (.func (if e.wd=true then 213 else 218)) #[] #[]))(hkl:k3<w.heap.size):Calls Tryz.prog 266 #[v,x,.pointer (some ⟨k3,0,none⟩)] w fun r w'=>r=.returned (.int .i64 (Yi e s:Nat))/\Below w.heap.size w w':=by
 obtain⟨ab,cb,aw,cw,hv,_,_⟩:=h.form
 have HM:Hid (∀W:World,Calls Tryz.prog 191 #[v] W fun r w'=>r=.returned (.int .i64 ((e.cnt:Nat)+1))/\Below W.heap.size W w'):=fun W=>by rw[hv];exact Zei e.wd ab aw _ cb _ cw W (by have:=hk.lb;have:=hk.lw;unfold ZaR;split<;>omega)
 have HN:Hid (∀W:World,Below w.heap.size w W->Calls Tryz.prog 218 #[v,x] W fun r w'=>r=.returned (.int .i64 (e.bs.countP (fun b=>decide (b<s.num)):Nat))/\Below W.heap.size W w'):=fun W hW=>Zet v x base e s W (h.below hW) hk.rise (by have:=hk.lb;omega) hx;have HW:Hid (∀W:World,Below w.heap.size w W->Calls Tryz.prog 213 #[v,x] W fun r w'=>r=.returned (.int .i64 (e.ww.findIdx (fun y=>decide (y=s.word)):Nat))/\Below W.heap.size W w'):=fun W hW=>Zf5 v x base e s W (h.below hW) (by have:=hk.lw;omega) hx;have HB:Hid (Yi e s=if s.miss=true then e.cnt+1 else if e.wd=true then e.ww.findIdx (fun y=>decide (y=s.word)) else e.bs.countP (fun b=>decide (b<s.num))):=rfl;subst hv hx;clear h hk;obtain⟨sm,sn,sw⟩:=s;simp only at HM HN HW HB ⊢
 generalize e.ww.findIdx (fun y=>decide (y=sw))=r1 at *;generalize e.bs.countP (fun b=>decide (b<sn))=r2 at *;generalize Yi e ⟨sm,sn,sw⟩=r at *;generalize e.cnt=cn at *;obtain⟨ew,eb,es⟩:=e;simp only at HM HN HW HB hc ⊢;generalize eb.length=nb at *;generalize es.length=nw at *
 cases sm with
 | true=>
  have HB2:Hid (r=cn+1):=(by have:=HB.out;rw[if_pos rfl] at this;exact this);clear HB HN HW;go_enter Tryz.func266,Tryz.ntmps266;go_wp2_with fail
  refine(HM.out _).mono ?_;rintro q w1 ⟨rfl,hb1⟩;have hb2:Below w.heap.size w w1:=(((Below.refl _ _).alloc (Qa _) _).alloc (by simp) _).trans (hb1.mono (by simp;omega));clear hb1;go_wp2;go_ret;exact⟨by rw[HB2.out];rfl,hb2⟩
 | false=>
  have hB:=HB.out;rw[if_neg (by decide)] at hB;clear HB HM
  cases ew with
  | true=>
   have HB2:Hid (r=r1):=(by rw[if_pos rfl] at hB;exact hB);rw[if_pos rfl] at hc;clear hB HN;go_enter Tryz.func266,Tryz.ntmps266;go_wp2_with fail
   refine(HW.out _ (((Below.refl _ _).alloc (Qa _) _).alloc (by simp) _)).mono ?_;rintro q w1 ⟨rfl,hb1⟩;have hb2:Below w.heap.size w w1:=(((Below.refl _ _).alloc (Qa _) _).alloc (by simp) _).trans (hb1.mono (by simp;omega));clear hb1;go_wp2;go_ret;exact⟨by rw[HB2.out];rfl,hb2⟩
  | false=>
   have HB2:Hid (r=r2):=(by rw[if_neg (by decide)] at hB;exact hB);rw[if_neg (by decide)] at hc;clear hB HW;go_enter Tryz.func266,Tryz.ntmps266;go_wp2_with fail
   refine(HN.out _ (((Below.refl _ _).alloc (Qa _) _).alloc (by simp) _)).mono ?_;rintro q w1 ⟨rfl,hb1⟩;have hb2:Below w.heap.size w w1:=(((Below.refl _ _).alloc (Qa _) _).alloc (by simp) _).trans (hb1.mono (by simp;omega));clear hb1;go_wp2;go_ret;exact⟨by rw[HB2.out];rfl,hb2⟩
theorem Zcb(u:Value)(n:Nat):(madeCells #[u] n).toList=List.replicate n u:=by apply List.ext_getElem;simp[madeCells];intro i h1 h2;simp[madeCells,Nat.mod_one]
theorem Zcx(n:Nat)(hn:n<=1000000)(W:World):(Instr.makeSlice 25 (.int .i64 (n:Int)) (.int .i64 (n:Int))).run Tryz.prog W=.ok (.slice (some ⟨W.heap.size,0,none⟩) n n) (W.alloc (.cells (madeCells #[.int .i64 0] n) 3)):=by obtain⟨i0,hinf,hz0,hz1,hz2⟩:=info_parts ZkZ;have:=run_make (P:=Tryz.prog) W 25 3 i0 _ Tryz.underlying25 hinf hz0 .i64 .i64 (n:Int) (n:Int) (by omega) (by omega) (by rw[hz2];omega) (by omega);rw[hz1] at this;rw[this,Int.toNat_natCast,Nat.mul_one];rfl
theorem Zcw(n:Nat)(W:World)(base:Nat)(hn:n<=1000000)(hb:base<=W.heap.size):Ze (W.alloc (.cells (madeCells #[.int .i64 0] n) 3)) base (.slice (some ⟨W.heap.size,0,none⟩) n n) (List.replicate n 0):=by
 have:=World.ownsRow_lit (base:=base) (size:=1) (e:=3) W (madeCells #[.int .i64 0] n) n hb (by unfold maxLen;omega) (by simp[madeCells]);rw[Zcb] at this;unfold Ze
 simpa using this
theorem Ze.put{w:World}{base g cap n k:Nat}{zs:List Int}(h:Ze w base (.slice (some ⟨g,0,none⟩) n cap) zs)(hn:n=zs.length)(z:Int):Ze (w.setCell ⟨g,k,none⟩ (.int .i64 z)) base (.slice (some ⟨g,0,none⟩) n cap) (zs.set k z)/\w.grownBy (w.setCell ⟨g,k,none⟩ (.int .i64 z)) (some g):=by subst hn;obtain⟨h1,h2⟩:=World.ownsRow.stored h k (.int .i64 z);refine⟨?_,h2⟩;unfold Ze;rw[List.length_set,List.map_set];exact h1
theorem Ze.cellK{w:World}{base g cap n k:Nat}{zs:List Int}(h:Ze w base (.slice (some ⟨g,0,none⟩) n cap) zs)(hn:n=zs.length)(hk:k<n):w.cell? ⟨g,k,none⟩=some (.int .i64 (zs.getD k 0))/\w.frozen? ⟨g,k,none⟩=false:=by subst hn;refine⟨?_,World.ownsRow.frozenAt h k⟩;rw[World.ownsRow.cellAt h k (by omega)];simp[List.getD,hk]
def Qq(f:Nat->Int)(n k:Nat):List Int:=(List.range k).map f++List.replicate (n-k) 0
theorem ZdR(f:Nat->Int){n k:Nat}(h:k<=n):(Qq f n k).length=n:=by simp[Qq];omega
theorem Ze6(f:Nat->Int)(n:Nat):Qq f n 0=List.replicate n 0:=by simp[Qq]
theorem Ze5(f:Nat->Int)(n:Nat):Qq f n n=(List.range n).map f:=by simp[Qq]
theorem Zgw(f:Nat->Int){n k:Nat}(h:k<n):(Qq f n k).set k (f k)=Qq f n (k+1):=by unfold Qq;rw[show n-k=n-(k+1)+1 by omega,List.replicate_succ,List.set_append_right _ _ (by simp),List.length_map,List.length_range,Nat.sub_self,List.set_cons_zero,List.range_succ,List.map_append,List.append_assoc];rfl
theorem ZfF{α β:Type}(g:α->β)(d:α)(L:List α):(List.range L.length).map (fun i=>g (L.getD i d))=L.map g:=by apply List.ext_getElem;simp;intro i h1 h2;simp at h1;simp[List.getD,h1]
theorem Zh8(v0 v1 ve:Value)(base k3:Nat)(va:Option Addr)(n cap:Nat)(e:ES)(L:List VS)(w:World)(hE:ZcA w base ve e)(hk:ZcI e)(hv:Qr w 0 (.slice va n cap) L)(hL:L.length=n)(hn:n<=200)(hf0:∃f c,v0=.func f #[] c)(hf1:∃f c,v1=.func f #[] c)(hc:w.cell? ⟨k3,0,none⟩=some (.func (.func (if e.wd=true then 213 else 218)) #[] #[]))(hkl:k3<w.heap.size):Calls Tryz.prog 156 #[.agg #[v0,v1,.func (.func 266) #[] #[.pointer (some ⟨k3,0,none⟩)]],ve,.slice va n cap] w fun r w'=>∃v,r=.returned v/\Ze w' w.heap.size v (L.map (fun x=>((Yi e x:Nat):Int)))/\Below w.heap.size w w':=by
 obtain⟨ab,cb,aw,cw,hve,_,_⟩:=hE.form;have HBIN:Hid (∀(W:World) (s:VS),Below w.heap.size w W->Calls Tryz.prog 266 #[ve,.agg #[.bool s.miss,.int .i64 s.num,.string s.word],.pointer (some ⟨k3,0,none⟩)] W fun r w'=>r=.returned (.int .i64 (Yi e s:Nat))/\Below W.heap.size W w'):=fun W s hW=>ZnL ve _ base k3 e s W (hE.below hW) hk rfl ((hW.cell (p:=⟨k3,0,none⟩) hkl).trans hc) (Qh hkl hW.size);have HV:Hid (Qr w 0 (.slice va n cap) L):=hv;have HLL:Hid (L.length=n):=hL;have hmk:=Zcx n (by omega);obtain⟨f0,g0,rfl⟩:=hf0;obtain⟨f1,g1,rfl⟩:=hf1;have HFIN:Hid (L.map (fun x=>((Yi e x:Nat):Int))=Qq (fun i=>((Yi e (L.getD i ZF):Nat):Int)) n n):=by show _=_;rw[Ze5,<- hL,ZfF (fun x=>((Yi e x:Nat):Int)) ZF L]
 subst hve;clear hE hv hk hc hkl hL;generalize e.bs.length=nb at *;generalize e.ww.length=nw at *;generalize e.wd=ew at *;obtain⟨w2,hw2⟩:∃w2,w2=(w.alloc (.cells #[.func f0 #[] g0,.func f1 #[] g1,.func (.func 266) #[] #[.pointer (some ⟨k3,0,none⟩)]] 263)).alloc (.cells #[.bool ew,.slice ab nb cb,.slice aw nw cw] 170):=⟨_,rfl⟩;have HB2:Hid (Below w.heap.size w w2):=(by show Below _ _ _;rw[hw2];exact((Below.refl _ _).alloc (Qa _) _).alloc (by simp) _);have hs2:w2.heap.size=w.heap.size+1+1:=(by rw[hw2];simp);go_enter Tryz.func156,Tryz.ntmps156;go_wp2_with fail
 go_loopw [15] (fun ti wr=>∃k:Nat,ti=.int .i64 k/\k<=n/\Hid (Ze wr (w.heap.size+1+1) (.slice (some ⟨w.heap.size+1+1,0,none⟩) n n) (Qq (fun i=>((Yi e (L.getD i ZF):Nat):Int)) n k))/\Hid (Below (w.heap.size+1+1) w2 wr)) (fun ti _=>n-(intOf ti).toNat)
 case atStart=>
  refine⟨0,rfl,Qg _,?_,?_⟩;rw[Ze6];have:=Zcw n w2 (w.heap.size+1+1) (by omega) (by omega);rw[hs2,hw2] at this;exact this;show Below _ _ _;rw[hw2];exact(Below.refl _ _).alloc (by simp) _
 case round=>
  clear hmk;obtain⟨k,rfl,hk,HO,HBL⟩:=hrel;have hbel:=HBL.out;have hsz:=hbel.size;rw[hs2] at hsz;have d0:wr.cell? ⟨w.heap.size,2,none⟩=some (.func (.func 266) #[] #[.pointer (some ⟨k3,0,none⟩)]):=(hbel.cell (p:=⟨w.heap.size,2,none⟩) (by show w.heap.size<_;omega)).trans (by rw[hw2];simp[go_sem]);have d1:wr.cell? ⟨w.heap.size+1,0,none⟩=some (.bool ew):=(hbel.cell (p:=⟨w.heap.size+1,0,none⟩) (by show w.heap.size+1<_;omega)).trans (by rw[hw2];simp[go_sem]);have d2:wr.cell? ⟨w.heap.size+1,1,none⟩=some (.slice ab nb cb):=(hbel.cell (p:=⟨w.heap.size+1,1,none⟩) (by show w.heap.size+1<_;omega)).trans (by rw[hw2];simp[go_sem])
  have d3:wr.cell? ⟨w.heap.size+1,2,none⟩=some (.slice aw nw cw):=(hbel.cell (p:=⟨w.heap.size+1,2,none⟩) (by show w.heap.size+1<_;omega)).trans (by rw[hw2];simp[go_sem])
  by_cases hkn:k<n
  ·have hkL:k<L.length:=(by rw[HLL.out];exact hkn);obtain⟨q,rfl,hql,c0,c1,c2⟩:=HV.out.at hkL;have hbw:Below w.heap.size w wr:=HB2.out.trans (hbel.mono (by omega));have a0:=(hbw.cell (p:=⟨q,k*3,none⟩) hql).trans c0;have a1:=(hbw.cell (p:=⟨q,k*3+1,none⟩) hql).trans c1;have a2:=(hbw.cell (p:=⟨q,k*3+2,none⟩) hql).trans c2;have hfl:=ZdR (fun i=>((Yi e (L.getD i ZF):Nat):Int)) (show k<=n by omega);have hset:=Zgw (fun i=>((Yi e (L.getD i ZF):Nat):Int)) hkn;have HSET:Hid ((Qq (fun i=>((Yi e (L.getD i ZF):Nat):Int)) n k).set k ((Yi e (L.getD k ZF):Nat):Int)=Qq (fun i=>((Yi e (L.getD i ZF):Nat):Int)) n (k+1)):=hset;have HFL:Hid (n=(Qq (fun i=>((Yi e (L.getD i ZF):Nat):Int)) n k).length):=hfl.symm;clear c0 c1 c2 hset hfl
   generalize L.getD k ZF=x at *;obtain⟨xm,xn,xw⟩:=x;simp only at a0 a1 a2;have bk1:(0:Int)<=(k:Int):=(by omega);have bk2:(k:Int)<(n:Int):=(by omega);have HBW:Hid (Below w.heap.size w wr):=hbw;have HHB:Hid (Below (w.heap.size+1+1) w2 wr):=hbel;clear hbw hbel hw2 HBL;have hlt0:w.heap.size<wr.heap.size:=(by omega);have hlt1:w.heap.size+1<wr.heap.size:=(by omega);go_wp2_with fail
   refine(HBIN.out _ ⟨xm,xn,xw⟩ (HBW.out.alloc (by omega) _)).mono ?_;rintro r w3 ⟨rfl,hb3⟩;have hs3:=hb3.size;simp at hs3;have HO3:Hid (Ze w3 (w.heap.size+1+1) (.slice (some ⟨w.heap.size+1+1,0,none⟩) n n) (Qq (fun i=>((Yi e (L.getD i ZF):Nat):Int)) n k)):=(HO.out.alloc _).below hb3;have hcf:=HO3.out.cellK HFL.out hkn;obtain⟨cf1,cf2⟩:=hcf;have hbf:Below (w.heap.size+1+1) w2 w3:=HHB.out.trans ((((Below.refl _ _).alloc (by omega) _)).trans (hb3.mono (by simp;omega)));have HBF:Hid (Below (w.heap.size+1+1) w2 w3):=hbf;clear hb3 hbf HO HBIN HBW HHB;generalize (Qq (fun i=>((Yi e (L.getD i ZF):Nat):Int)) n k)=F at *;generalize Yi e ⟨xm,xn,xw⟩=r at *;generalize F.getD k 0=z0 at *;go_wp2;go_roundw
   case rel=>
    refine⟨k+1,by go_num,by omega,?_,?_⟩;rw[<- HSET.out];exact(HO3.out.put HFL.out _).1;exact HBF.out.setCell (Qa _) _
   case measure=>simp[intOf];omega
  have hnk:¬(k:Int)<(n:Int):=(by omega);have HF:Hid (Ze wr w.heap.size (.slice (some ⟨w.heap.size+1+1,0,none⟩) n n) (L.map (fun x=>((Yi e x:Nat):Int)))/\Below w.heap.size w wr):=(by rw[HFIN.out];have:k=n:=(by omega);subst this;exact⟨HO.out.mono (by omega),HB2.out.trans (hbel.mono (by omega))⟩);clear HO hw2 HBL hbel;go_wp2;go_ret;exact⟨_,rfl,HF.out.1,HF.out.2⟩
def ZP(B:List Nat):List Int:=B.map (fun n:Nat=>(n:Int))
theorem ZoY(x d:Nat):(((x:Int) !=(d:Int)))=decide (x≠d):=by
 by_cases h:x=d
 subst h;simp;have:(x:Int)≠(d:Int):=(by omega);rw[bne_iff_ne.2 this];simp[h]
theorem ZQ(B:List Nat):(ZP B).length=B.length:=by simp[ZP]
theorem YO(B:List Nat)(k:Nat):(ZP B).getD k 0=((B.getD k 0:Nat):Int):=by
 simp only[ZP,List.getD,List.getElem?_map]
 cases B[k]?<;>rfl
theorem Ze.atK{w:World}{base:Nat}{a:Option Addr}{n c:Nat}{zs:List Int}(h:Ze w base (.slice a n c) zs)(hn:zs.length=n){k:Nat}(hk:k<n):∃q,a=some ⟨q,0,none⟩/\q<w.heap.size/\base<=q/\w.cell? ⟨q,k,none⟩=some (.int .i64 (zs.getD k 0))/\w.frozen? ⟨q,k,none⟩=false:=by
 rcases h.2 with⟨e,h0⟩|⟨g,cap,cur,e,hb,hh,hnc,_⟩
 omega;injection e with e1 e2 e3;subst e1 e3 hn;have:=Ze.cellK h rfl hk;exact⟨g,rfl,(Qb hh).1,hb,this.1,this.2⟩
def Z7(w:World)(base:Nat)(v:Value)(bs:List Bool):Prop:=w.ownsRow base 4 1 v bs.length (bs.map Value.bool)
theorem Zox:(Tryz.prog.info? 4).map (fun i=>(i.zero,i.size,i.bytes))=some (some (.bool false),1,1):=by kernel_rfl
theorem Z7.below{w w':World}{base:Nat}{v:Value}{L:List Bool}(h:Z7 w base v L)(hb:Below w.heap.size w w'):Z7 w' base v L:=(Za.of_below (S:=fun _=>False) hb).row h (fun _ _=>id)
theorem Z7.alloc{w:World}{base:Nat}{v:Value}{zs:List Bool}(h:Z7 w base v zs)(o:Obj):Z7 (w.alloc o) base v zs:=World.ownsRow.alloc h o
theorem Z7.mono{w:World}{b b':Nat}{v:Value}{L:List Bool}(h:Z7 w b' v L)(hb:b<=b'):Z7 w b v L:=by
 refine⟨h.1,?_⟩
 rcases h.2 with hn|⟨g,cap,cur,e,hg,r⟩
 exact .inl hn;exact .inr ⟨g,cap,cur,e,Nat.le_trans hb hg,r⟩
theorem Z7.shape{w:World}{base:Nat}{v:Value}{L:List Bool}(h:Z7 w base v L):∃a c,v=.slice a L.length c:=by
 rcases h.2 with⟨rfl,h0⟩|⟨q,p,cur,rfl,_⟩
 exact⟨none,0,by rw[h0]⟩;exact⟨_,_,rfl⟩
theorem Z7.put{w:World}{base g cap n k:Nat}{zs:List Bool}(h:Z7 w base (.slice (some ⟨g,0,none⟩) n cap) zs)(hn:n=zs.length)(z:Bool):Z7 (w.setCell ⟨g,k,none⟩ (.bool z)) base (.slice (some ⟨g,0,none⟩) n cap) (zs.set k z)/\w.grownBy (w.setCell ⟨g,k,none⟩ (.bool z)) (some g):=by subst hn;obtain⟨h1,h2⟩:=World.ownsRow.stored h k (.bool z);refine⟨?_,h2⟩;unfold Z7;rw[List.length_set,List.map_set];exact h1
theorem Z7.atK{w:World}{base:Nat}{a:Option Addr}{n c:Nat}{zs:List Bool}(h:Z7 w base (.slice a n c) zs)(hn:zs.length=n){k:Nat}(hk:k<n):∃q,a=some ⟨q,0,none⟩/\q<w.heap.size/\base<=q/\w.cell? ⟨q,k,none⟩=some (.bool (zs.getD k false))/\w.frozen? ⟨q,k,none⟩=false:=by
 rcases h.2 with⟨e,h0⟩|⟨g,cap,cur,e,hb,hh,hnc,_⟩
 omega;injection e with e1 e2 e3;subst e1 e3 hn;refine⟨g,rfl,(Qb hh).1,hb,?_,World.ownsRow.frozenAt h k⟩;rw[World.ownsRow.cellAt h k (by omega)];simp[List.getD,hk]
theorem Zfs(n:Nat)(hn:n<=1000000)(W:World):(Instr.makeSlice 101 (.int .i64 (n:Int)) (.int .i64 (n:Int))).run Tryz.prog W=.ok (.slice (some ⟨W.heap.size,0,none⟩) n n) (W.alloc (.cells (madeCells #[.bool false] n) 4)):=by obtain⟨i0,hinf,hz0,hz1,hz2⟩:=info_parts Zox;have:=run_make (P:=Tryz.prog) W 101 4 i0 _ Tryz.underlying101 hinf hz0 .i64 .i64 (n:Int) (n:Int) (by omega) (by omega) (by rw[hz2];omega) (by omega);rw[hz1] at this;rw[this,Int.toNat_natCast,Nat.mul_one];rfl
theorem Zfq(n:Nat)(W:World)(base:Nat)(hn:n<=1000000)(hb:base<=W.heap.size):Z7 (W.alloc (.cells (madeCells #[.bool false] n) 4)) base (.slice (some ⟨W.heap.size,0,none⟩) n n) (List.replicate n false):=by
 have:=World.ownsRow_lit (base:=base) (size:=1) (e:=4) W (madeCells #[.bool false] n) n hb (by unfold maxLen;omega) (by simp[madeCells]);rw[Zcb] at this;unfold Z7
 simpa using this
def Zar(f:Nat->Bool)(n k:Nat):List Bool:=(List.range k).map f++List.replicate (n-k) false
theorem ZlF(f:Nat->Bool){n k:Nat}(h:k<=n):(Zar f n k).length=n:=by simp[Zar];omega
theorem ZjM(f:Nat->Bool)(n:Nat):Zar f n 0=List.replicate n false:=by simp[Zar]
theorem ZjL(f:Nat->Bool)(n:Nat):Zar f n n=(List.range n).map f:=by simp[Zar]
theorem ZlG(f:Nat->Bool){n k:Nat}(h:k<n):(Zar f n k).set k (f k)=Zar f n (k+1):=by unfold Zar;rw[show n-k=n-(k+1)+1 by omega,List.replicate_succ,List.set_append_right _ _ (by simp),List.length_map,List.length_range,Nat.sub_self,List.set_cons_zero,List.range_succ,List.map_append,List.append_assoc];rfl
def ZbF(B:List Nat)(d:Nat):List Bool:=B.map (fun b=>decide (b≠d))
theorem ZeB(va:Option Addr)(n c d:Nat)(B:List Nat)(w:World)(hv:Ze w 0 (.slice va n c) (ZP B))(hB:B.length=n)(hn:n<=200):Calls Tryz.prog 205 #[.slice va n c,.int .i64 d] w fun e w'=>∃v,e=.returned v/\Z7 w' w.heap.size v (ZbF B d)/\Below w.heap.size w w':=by
 have HV:Hid (Ze w 0 (.slice va n c) (ZP B)):=hv;have HB:Hid (B.length=n):=hB;have hmk:=Zfs n (by omega);have HFIN:Hid (ZbF B d=Zar (fun i=>decide (B.getD i 0≠d)) n n):=(by show _=_;rw[ZjL,<- hB,ZbF,ZfF (fun b=>decide (b≠d)) 0 B]);clear hv hB;go_enter Tryz.func205,Tryz.ntmps205;go_wp2_with fail
 go_loopw [13] (fun ti wr=>∃k:Nat,ti=.int .i64 k/\k<=n/\Hid (Z7 wr w.heap.size (.slice (some ⟨w.heap.size,0,none⟩) n n) (Zar (fun i=>decide (B.getD i 0≠d)) n k))/\Below w.heap.size w wr) (fun ti _=>n-(intOf ti).toNat)
 case atStart=>exact⟨0,rfl,Qg _,by rw[ZjM];exact Zfq n w w.heap.size (by omega) (Qa _),(Below.refl _ _).alloc (Qa _) _⟩
 case round=>
  clear hmk;obtain⟨k,rfl,hk,HO,hbel⟩:=hrel;have hsz:=hbel.size
  by_cases hkn:k<n
  ·obtain⟨q,rfl,hql,_,hc,_⟩:=HV.out.atK (by rw[ZQ];exact HB.out) hkn;have a0:=(hbel.cell (p:=⟨q,k,none⟩) hql).trans hc;rw[YO] at a0;have hfl:=ZlF (fun i=>decide (B.getD i 0≠d)) (show k<=n by omega);have HFL:Hid ((Zar (fun i=>decide (B.getD i 0≠d)) n k).length=n):=hfl;have HSET:Hid ((Zar (fun i=>decide (B.getD i 0≠d)) n k).set k (decide (B.getD k 0≠d))=Zar (fun i=>decide (B.getD i 0≠d)) n (k+1)):=ZlG (fun i=>decide (B.getD i 0≠d)) hkn;obtain⟨q2,hq2,hql2,_,hc2,hf2⟩:=HO.out.atK hfl hkn;injection hq2 with hq2;injection hq2 with hq2 _;subst hq2;have HOO:Hid (Z7 wr w.heap.size (.slice (some ⟨w.heap.size,0,none⟩) n n) (Zar (fun i=>decide (B.getD i 0≠d)) n k)):=HO;generalize Zar (fun i=>decide (B.getD i 0≠d)) n k=F at *;generalize F.getD k false=z0 at *
   generalize B.getD k 0=x at *;have bk1:(0:Int)<=(k:Int):=(by omega);have bk2:(k:Int)<(n:Int):=(by omega);clear hfl hc HO;go_wp2;go_roundw
   case rel=>
    refine⟨k+1,by go_num,by omega,?_,?_⟩;rw[<- HSET.out];rw[ZoY];exact(HOO.out.put (k:=k) HFL.out.symm (decide (x≠d))).1;exact hbel.setCell (Qa _) _
   case measure=>simp[intOf];omega
  have hnk:¬(k:Int)<(n:Int):=(by omega);have HF:Hid (Z7 wr w.heap.size (.slice (some ⟨w.heap.size,0,none⟩) n n) (ZbF B d)):=(by rw[HFIN.out];have:k=n:=(by omega);subst this;exact HO.out);clear HO;go_wp2;go_ret;exact⟨_,rfl,HF.out,hbel⟩
def ZS(B:List Nat)(h:Nat):List Int:=(List.range h).map (fun b=>((B.count b:Nat):Int))
theorem Yl(B:List Nat)(h:Nat):(ZS B h).length=h:=by simp[ZS]
theorem ZjB(h:Nat):ZS [] h=List.replicate h 0:=by apply List.ext_getElem;simp[ZS];intro i h1 h2;simp[ZS]
theorem Zij(B:List Nat){b h:Nat}(hb:b<h):(ZS B h).set b ((ZS B h).getD b 0+1)=ZS (B++[b]) h:=by
 apply List.ext_getElem;simp[ZS];intro i h1 h2;simp only[ZS,List.length_map,List.length_range] at h2;simp only[ZS,List.getElem_set,List.getElem_map,List.getElem_range,List.count_append,List.getD,List.getElem?_map,List.getElem?_range hb,Option.map_some,Option.getD_some]
 by_cases e:b=i
 subst e;simp;simp[e]
theorem Zlx(B:List Nat)(h b:Nat):0<=(ZS B h).getD b 0/\(ZS B h).getD b 0<=B.length:=by
 simp only[ZS,List.getD,List.getElem?_map]
 by_cases e:b<h
 rw[List.getElem?_range e];simp only[Option.map_some,Option.getD_some];have:=List.count_le_length (a:=b) (l:=B);omega;rw[List.getElem?_eq_none (by simpa using e)];simp
def Zfx(B:List Nat)(h:Nat):Int:=Lib.idxOf (ZS B h) (Lib.maxOf (ZS B h))
theorem ZdW(va:Option Addr)(n c h:Nat)(B:List Nat)(w:World)(hv:Ze w 0 (.slice va n c) (ZP B))(hB:B.length=n)(hn:n<=200)(hh:∀b∈B,b<h)(h0:0<h)(h1:h<=1000):Calls Tryz.prog 204 #[.slice va n c,.int .i64 h] w fun e w'=>e=.returned (.int .i64 (Zfx B h))/\Below w.heap.size w w':=by
 have HV:Hid (Ze w 0 (.slice va n c) (ZP B)):=hv;have HB:Hid (B.length=n):=hB;have HH:Hid (∀b∈B,b<h):=hh;have hmk:=Zcx h (by omega);clear hv hB hh;go_enter Tryz.func204,Tryz.ntmps204;go_wp2_with fail
 go_loopw [12] (fun ti wr=>∃k:Nat,ti=.int .i64 k/\k<=n/\Hid (Ze wr w.heap.size (.slice (some ⟨w.heap.size,0,none⟩) h h) (ZS (B.take k) h))/\Below w.heap.size w wr) (fun ti _=>n-(intOf ti).toNat)
 case atStart=>exact⟨0,rfl,Qg _,by rw[List.take_zero,ZjB];exact Zcw h w w.heap.size (by omega) (Qa _),(Below.refl _ _).alloc (Qa _) _⟩
 case round=>
  clear hmk;obtain⟨k,rfl,hk,HO,hbel⟩:=hrel;have hsz:=hbel.size
  by_cases hkn:k<n
  ·obtain⟨q,rfl,hql,_,hc,_⟩:=HV.out.atK (by rw[ZQ];exact HB.out) hkn;have a0:=(hbel.cell (p:=⟨q,k,none⟩) hql).trans hc;rw[YO] at a0;have hkB:k<B.length:=by rw[HB.out];exact hkn
   have hbh:B.getD k 0<h:=(by have:B.getD k 0=B[k]:=(by simp[List.getD,hkB]);rw[this];exact HH.out _ (Qf hkB));have htk:B.take (k+1)=B.take k++[B.getD k 0]:=(by rw[Qi hkB];simp[List.getD,hkB]);have HSET:Hid ((ZS (B.take k) h).set (B.getD k 0) ((ZS (B.take k) h).getD (B.getD k 0) 0+1)=ZS (B.take (k+1)) h):=by show _=_;rw[htk,Zij _ hbh]
   have hin:=Zlx (B.take k) h (B.getD k 0);have hle:((B.take k).length:Int)<=200:=(by simp;omega);obtain⟨q2,hq2,_,_,hc2,hf2⟩:=HO.out.atK (Yl _ _) hbh;injection hq2 with hq2;injection hq2 with hq2 _;subst hq2;obtain⟨i1,i2⟩:=hin;have HOO:Hid (Ze wr w.heap.size (.slice (some ⟨w.heap.size,0,none⟩) h h) (ZS (B.take k) h)):=HO;have HFL:Hid (h=(ZS (B.take k) h).length):=(Yl _ _).symm;generalize ZS (B.take k) h=F at *;generalize B.getD k 0=x at *;generalize F.getD x 0=z0 at *;have i3:z0<=200:=(by omega);have bk1:(0:Int)<=(k:Int):=(by omega);have bk2:(k:Int)<(n:Int):=(by omega);have bx1:(0:Int)<=(x:Int):=(by omega);have bx2:(x:Int)<(h:Int):=(by omega);clear hc HO htk i2 hle;go_wp2;go_roundw
   case rel=>
    refine⟨k+1,by go_num,by omega,?_,?_⟩;rw[<- HSET.out];exact(HOO.out.put (k:=x) HFL.out (z0+1)).1;exact hbel.setCell (Qa _) _
   case measure=>simp[intOf];omega
  have hnk:¬(k:Int)<(n:Int):=(by omega);have hO:Ze wr w.heap.size (.slice (some ⟨w.heap.size,0,none⟩) h h) (ZS B h):=by have:=HO.out;rw[List.take_of_length_le (by have:=HB.out;omega)] at this;exact this
  have HMAX:Hid (Calls Tryz.prog 253 #[.slice (some ⟨w.heap.size,0,none⟩) h h] wr fun e w'=>e=.returned (.int .i64 (Lib.maxOf (ZS B h)))/\w'=wr):=by have:=Tryz.slices_Max_int w.heap.size 0 h h (ZS B h) wr h0 (by rw[Yl];exact Qa _) (by omega) (fun j hj=>by rw[Nat.zero_add];exact(hO.cellK (Yl _ _).symm (by rw[Yl] at hj;exact hj)).1);rw[List.take_of_length_le (by rw[Yl];exact Qa _)] at this;exact this
  have HIDX:Hid (Calls Tryz.prog 252 #[.slice (some ⟨w.heap.size,0,none⟩) h h,.int .i64 (Lib.maxOf (ZS B h))] wr fun e w'=>e=.returned (.int .i64 (Zfx B h))/\w'=wr):=(by have:=Tryz.slices_Index_int w.heap.size 0 h h (ZS B h) (Lib.maxOf (ZS B h)) wr (by rw[Yl];exact Qa _) (by omega) (fun j hj=>by rw[Nat.zero_add];exact(hO.cellK (Yl _ _).symm (by rw[Yl] at hj;exact hj)).1);rw[List.take_of_length_le (by rw[Yl];exact Qa _)] at this;exact this);clear HO hO;generalize Lib.maxOf (ZS B h)=mx at *;go_wp2_with fail
  refine HMAX.out.mono ?_;rintro e w1 ⟨rfl,rfl⟩;go_wp2_with fail
  refine HIDX.out.mono ?_;rintro e w1 ⟨rfl,rfl⟩;go_wp2;go_ret;exact⟨rfl,hbel⟩
def Yb(L:List Bool):Nat:=L.count true
theorem ZdM(L:List Bool)(b:Bool):Yb (L++[b])=Yb L+(if b=true then 1 else 0):=by simp[Yb,List.count_append];cases b<;>simp
theorem Zc4(L:List Bool){r:Nat}(h:r<L.length):L.take (r+1)=L.take r++[L.getD r false]:=by rw[Qi h];simp[List.getD,h]
theorem ZkP(va:Option Addr)(n c:Nat)(L:List Bool)(w:World)(hv:Z7 w 0 (.slice va n c) L)(hL:L.length=n)(hn:n<=200):Calls Tryz.prog 296 #[.slice va n c] w fun e w'=>e=.returned (.int .i64 (Yb L:Nat))/\w'=w:=by
 have HV:Hid (Z7 w 0 (.slice va n c) L):=hv;have HL:Hid (L.length=n):=hL;clear hv hL;go_enter Tryz.func296,Tryz.ntmps296;go_wp2_with fail
 go_loop [8,3] (fun ti tn=>∃k:Nat,ti=.int .i64 k/\k<=n/\tn=.int .i64 (Yb (L.take k):Nat)/\Yb (L.take k)<=k) (fun ti _=>n-(intOf ti).toNat)
 case atStart=>exact⟨0,rfl,Qg _,rfl,Qa _⟩
 case round=>
  obtain⟨k,rfl,hk,rfl,hkc⟩:=hrel
  by_cases hkn:k<n
  ·obtain⟨q,rfl,hql,_,a0,_⟩:=HV.out.atK HL.out hkn;have hs:=ZdM (L.take k) (L.getD k false);rw[<- Zc4 L (by rw[HL.out];exact hkn)] at hs;have HS:Hid (Yb (L.take (k+1))=Yb (L.take k)+(if L.getD k false=true then 1 else 0)):=hs;clear hs;generalize Yb (L.take k)=t at *;generalize L.getD k false=b at *;have bk1:(0:Int)<=(k:Int):=(by omega);have bk2:(k:Int)<(n:Int):=by omega
   cases b with
   | true=>
    have HS2:Hid (Yb (L.take (k+1))=t+1):=(by have:=HS.out;rw[if_pos rfl] at this;exact this);clear HS;go_wp2;go_roundw;case rel=>exact⟨k+1,by go_num,by omega,by rw[HS2.out];go_num,by rw[HS2.out];omega⟩
    case measure=>simp[intOf];omega
   | false=>
    have HS2:Hid (Yb (L.take (k+1))=t):=(by have:=HS.out;rw[if_neg (by decide)] at this;exact this);clear HS;go_wp2;go_roundw;case rel=>exact⟨k+1,by go_num,by omega,by rw[HS2.out],by rw[HS2.out];omega⟩
    case measure=>simp[intOf];omega
  have hnk:¬(k:Int)<(n:Int):=(by omega);have HF:Hid (Yb (L.take k)=Yb L):=(by show _=_;rw[List.take_of_length_le (by have:=HL.out;omega)]);generalize Yb (L.take k)=t at *;go_wp2;go_ret;exact⟨by rw[HF.out];rfl,rfl⟩
structure GS where
 fs:List Nat
 out:List Bool
 conf:Nat
 bins:Nat
def Qy(a b:List Bool):List Bool:=List.zipWith (fun x y=>x&&y) a b
def Y4(a b:List Bool):Nat:=Yb (Qy a b)
theorem Zcn{a b:List Bool}(h:a.length=b.length):(Qy a b).length=b.length:=by simp[Qy,h]
theorem Zju{a b:List Bool}(h:a.length=b.length){k:Nat}(hk:k<b.length):(Qy a b).getD k false=(a.getD k false&&b.getD k false):=by have h1:k<a.length:=(by omega);simp[Qy,List.getD,List.getElem?_zipWith,h1,hk]
theorem ZeG(L:List Bool):Yb L<=L.length:=List.count_le_length
theorem ZaW(gb:Nat)(va oa:Option Addr)(n c oc:Nat)(L O:List Bool)(w:World)(hg:w.cell? ⟨gb,1,none⟩=some (.slice oa n oc))(ho:Z7 w 0 (.slice oa n oc) O)(hv:Z7 w 0 (.slice va n c) L)(hO:O.length=n)(hL:L.length=n)(hn:n<=200):Calls Tryz.prog 297 #[.pointer (some ⟨gb,0,none⟩),.slice va n c] w fun e w'=>e=.returned (.int .i64 (Y4 O L:Nat))/\w'=w:=by
 have HV:Hid (Z7 w 0 (.slice va n c) L):=hv;have HO:Hid (Z7 w 0 (.slice oa n oc) O):=ho;have HL:Hid (L.length=n/\O.length=n):=⟨hL,hO⟩;have hlen:=Zcn (a:=O) (b:=L) (by omega);have HZ:Hid ((Qy O L).length=n):=(by rw[hlen];exact hL);clear hv hL ho hO hlen;go_enter Tryz.func297,Tryz.ntmps297;go_wp2_with fail
 go_loop [10,5] (fun ti tn=>∃k:Nat,ti=.int .i64 k/\k<=n/\tn=.int .i64 (Yb ((Qy O L).take k):Nat)/\Yb ((Qy O L).take k)<=k) (fun ti _=>n-(intOf ti).toNat)
 case atStart=>exact⟨0,rfl,Qg _,rfl,Qa _⟩
 case round=>
  obtain⟨k,rfl,hk,rfl,hkc⟩:=hrel
  by_cases hkn:k<n
  ·obtain⟨q,rfl,hql,_,a0,_⟩:=HV.out.atK HL.out.1 hkn;obtain⟨q2,rfl,hql2,_,a1,_⟩:=HO.out.atK HL.out.2 hkn;have hs:=ZdM ((Qy O L).take k) ((Qy O L).getD k false);rw[<- Zc4 _ (by rw[HZ.out];exact hkn),Zju (by have:=HL.out;omega) (by have:=HL.out;omega)] at hs;have HS:Hid (Yb ((Qy O L).take (k+1))=Yb ((Qy O L).take k)+(if(O.getD k false&&L.getD k false)=true then 1 else 0)):=hs;clear hs;generalize Yb ((Qy O L).take k)=t at *;generalize L.getD k false=b at *;generalize O.getD k false=d at *;have bk1:(0:Int)<=(k:Int):=(by omega);have bk2:(k:Int)<(n:Int):=by omega
   cases b with
   | true=>
    cases d with
    | true=>
     have HS2:Hid (Yb ((Qy O L).take (k+1))=t+1):=(by have:=HS.out;rw[if_pos (by decide)] at this;exact this);clear HS;go_wp2;go_roundw;case rel=>exact⟨k+1,by go_num,by omega,by rw[HS2.out];go_num,by rw[HS2.out];omega⟩
     case measure=>simp[intOf];omega
    | false=>
     have HS2:Hid (Yb ((Qy O L).take (k+1))=t):=(by have:=HS.out;rw[if_neg (by decide)] at this;exact this);clear HS;go_wp2;go_roundw;case rel=>exact⟨k+1,by go_num,by omega,by rw[HS2.out],by rw[HS2.out];omega⟩
     case measure=>simp[intOf];omega
   | false=>
    have HS2:Hid (Yb ((Qy O L).take (k+1))=t):=(by have:=HS.out;rw[Bool.and_false,if_neg (by decide)] at this;exact this);clear HS;go_wp2;go_roundw;case rel=>exact⟨k+1,by go_num,by omega,by rw[HS2.out],by rw[HS2.out];omega⟩
    case measure=>simp[intOf];omega
  have hnk:¬(k:Int)<(n:Int):=(by omega);have HF:Hid (Yb ((Qy O L).take k)=Y4 O L):=(by show _=_;rw[List.take_of_length_le (by have:=HZ.out;omega)];rfl);generalize Yb ((Qy O L).take k)=t at *;go_wp2;go_ret;exact⟨by rw[HF.out];rfl,rfl⟩
structure Zh1(w:World)(K:Nat->Prop)(gb:Nat)(vf vo:Value)(G:GS):Prop where
 blk:w.heap[gb]? =some (.cells #[vf,vo,.int .i64 (G.conf:Nat),.int .i64 (G.bins:Nat)] 351 (0,0))
 fs:Ze w 0 vf (ZP G.fs)
 out:Z7 w 0 vo G.out
 kg:K gb
 kf:∀k,vf.ownBlock=some k->K k
 ko:∀k,vo.ownBlock=some k->K k
 kl:∀k,K k->k<w.heap.size
def ZeS(w:World)(K:Nat->Prop)(gb:Nat)(G:GS):Prop:=∃vf vo,Zh1 w K gb vf vo G
theorem Zh1.touch{S:Nat->Prop}{w w':World}{K:Nat->Prop}{gb:Nat}{vf vo:Value}{G:GS}(h:Zh1 w K gb vf vo G)(t:Za S w w')(hs:∀k,K k->¬S k):Zh1 w' K gb vf vo G:=
 ⟨t.at_ h.blk (hs _ h.kg),t.row h.fs (fun k hk=>hs k (h.kf k hk)),t.row h.out (fun k hk=>hs k (h.ko k hk)),h.kg,h.kf,h.ko,fun k hk=>Qh (h.kl k hk) t.size⟩
theorem ZeS.touch{S:Nat->Prop}{w w':World}{K:Nat->Prop}{gb:Nat}{G:GS}(h:ZeS w K gb G)(t:Za S w w')(hs:∀k,K k->¬S k):ZeS w' K gb G:=by obtain⟨vf,vo,h⟩:=h;exact⟨vf,vo,h.touch t hs⟩
def orL(a b:List Bool):List Bool:=List.zipWith (fun x y=>x||y) a b
def Zbt(G:GS)(f:Nat)(L:List Bool)(bins:Nat):GS:=⟨G.fs++[f],orL G.out L,G.conf+Y4 G.out L,G.bins+bins⟩
theorem ZiL(a b:List Nat):ZP (a++b)=ZP a++ZP b:=by simp[ZP]
def orK(a b:List Bool)(k:Nat):List Bool:=(orL a b).take k++a.drop k
theorem Za0{a b:List Bool}(h:a.length=b.length):(orL a b).length=a.length:=by simp[orL,h]
theorem Zk8{a b:List Bool}(h:a.length=b.length){k:Nat}(hk:k<=a.length):(orK a b k).length=a.length:=by have:=Za0 h;simp[orK];omega
theorem Zo1{a b:List Bool}(h:a.length=b.length){k:Nat}(hk:k<a.length):(orK a b k).getD k false=a.getD k false:=by have h1:=Za0 h;simp[orK,List.getD,List.getElem?_append_right,h1,Nat.min_eq_left (Nat.le_of_lt hk)]
theorem Zok{a b:List Bool}(h:a.length=b.length){k:Nat}(hk:k<a.length):(orK a b k).set k (a.getD k false||b.getD k false)=orK a b (k+1):=by have h1:=Za0 h;have hb:k<b.length:=(by omega);have h2:(orL a b)[k]'(by omega)=(a.getD k false||b.getD k false):=(by simp[orL,List.getD,hk,hb]);unfold orK;rw[Qi (by omega),h2,List.append_assoc,List.drop_eq_getElem_cons hk,List.set_append_right _ _ (by simp;omega)];have:k-(List.take k (orL a b)).length=0:=(by simp;omega);rw[this];rfl
theorem ZkH(K:Nat->Prop)(gb f bins:Nat)(vf vo:Value)(va:Option Addr)(n c:Nat)(L:List Bool)(G:GS)(w:World)(hG:Zh1 w K gb vf vo G)(hv:Z7 w 0 (.slice va n c) L)(hO:G.out.length=n)(hL:L.length=n)(hn:n<=200)(hc:G.conf<=1000)(hb:G.bins<=1000)(hb2:bins<=1000)(hf:G.fs.length<=1000)(hva:∀k,(Value.slice va n c).ownBlock=some k->¬K k):Calls Tryz.prog 256 #[.pointer (some ⟨gb,0,none⟩),.int .i64 f,.slice va n c,.int .i64 bins] w fun e w'=>e=.returned (.tuple #[])/\(∃K',ZeS w' K' gb (Zbt G f L bins)/\∀k,K' k->K k∨w.heap.size<=k)/\Za K w w':=by
 obtain⟨oa,oc,hvo⟩:=hG.out.shape;rw[hO] at hvo;subst hvo;obtain⟨fa,fc,hvf⟩:=hG.fs.shape;rw[ZQ] at hvf;subst hvf;have hc1:w.cell? ⟨gb,1,none⟩=some (.slice oa n oc):=cell_of_row _ _ 1 _ 351 (0,0) hG.blk;have hc2:w.drew.cell? ⟨gb,2,none⟩=some (.int .i64 (G.conf:Nat)):=cell_of_row _ _ 2 _ 351 (0,0) hG.blk;have hcn:=ZeG (Qy G.out L);rw[Zcn (by omega),hL] at hcn;have hcn2:Y4 G.out L<=200:=(by unfold Y4;omega);have HCW:Hid (Calls Tryz.prog 297 #[.pointer (some ⟨gb,0,none⟩),.slice va n c] w.drew fun e w'=>e=.returned (.int .i64 (Y4 G.out L:Nat))/\w'=w.drew):=ZaW gb va oa n c oc L G.out w.drew hc1 hG.out hv hO hL hn;have HG:Hid (Zh1 w K gb (.slice fa G.fs.length fc) (.slice oa n oc) G):=hG
 have HV:Hid (Z7 w 0 (.slice va n c) L/\L.length=n/\G.out.length=n/\∀k,(Value.slice va n c).ownBlock=some k->¬K k):=⟨hv,hL,hO,hva⟩;have hfr:∀o,w.frozen? ⟨gb,o,none⟩=false:=fun o=>frozen_of_row _ _ o _ 351 hG.blk;have hf2:w.drew.frozen? ⟨gb,2,none⟩=false:=hfr 2;clear hG hv hL hO hva hc1 hfr;go_enter Tryz.func256,Tryz.ntmps256;go_upto_region 0 with fail;refine ZJ (fun w'=>w'.cell? ⟨gb,2,none⟩=some (.int .i64 (G.conf:Nat))) 10 (by kernel_rfl) hc2 (fun hHeld=>?_);refine ZL 0 ?_;try simp only[Act.put,sA,sB,sC]
 refine ZL 1 ?_;try simp only[Act.put,sA,sB,sC]
 refine ZL 2 ?_;try simp only[Act.put,sA,sB,sC]
 refine ZL 3 ?_;try simp only[Act.put,sA,sB,sC]
 refine ZL 4 ?_;try simp only[Act.put,sA,sB,sC]
 refine ZL 5 ?_;try simp only[Act.put,sA,sB,sC]
 refine Zk (i:=6) (by kernel_rfl) rfl (fun KK hK=>?_);go_simp;refine(HCW.out).mono ?_;rintro e w' ⟨rfl,rfl⟩;go_simp;refine hK.out _ _ hc2 (fun hHeld=>?_);clear hK KK;try simp only[Act.put,sA,sB,sC]
 refine ZL 7 ?_;try simp only[Act.put,sA,sB,sC]
 refine ZL 8 ?_;try simp only[Act.put,sA,sB,sC]
 refine ZL 9 ?_;try simp only[Act.put,sA,sB,sC]
 refine Zx (i:=10) (by kernel_rfl) rfl (by kernel_rfl) (fun KK hK=>?_);go_simp;refine hK.out _ _ ?_;clear hK KK;try simp only[Act.put,sA,sB,sC]
 refine Zz (by kernel_rfl) ?_ _;rw[ZD (by omega) (by omega)];obtain⟨w1,hw1⟩:∃w1,w1=(w.setCell ⟨gb,2,none⟩ (.int .i64 ((G.conf:Int)+(Y4 G.out L:Int)))).drew:=⟨_,rfl⟩;rw[<- hw1];have t1:Za K w w1:=by rw[hw1];exact((Za.refl K w).setCell (p:=⟨gb,2,none⟩) (fun _=>HG.out.kg) _).drew
 have hG1:Zh1 w1 K gb (.slice fa G.fs.length fc) (.slice oa n oc) {G with conf:=G.conf+Y4 G.out L}:=by rw[hw1];refine⟨?_,?_,?_,HG.out.kg,HG.out.kf,HG.out.ko,fun k hk=>by simpa using HG.out.kl k hk⟩;exact heap_setCell_same w gb 2 _ 351 _ HG.out.blk;exact Zl HG.out.fs HG.out.blk (by decide);exact Zl HG.out.out HG.out.blk (by decide)
 have HG1:Hid (Zh1 w1 K gb (.slice fa G.fs.length fc) (.slice oa n oc) {G with conf:=G.conf+Y4 G.out L}):=hG1;have HT1:Hid (Za K w w1):=t1;have HKL:Hid (∀k,K k->k<w.heap.size):=HG.out.kl;have c0:w1.cell? ⟨gb,0,none⟩=some (.slice fa G.fs.length fc):=cell_of_row _ _ 0 _ 351 (0,0) hG1.blk;have hgl:gb<w1.heap.size:=hG1.kl gb hG1.kg;have hs1:=t1.size;clear hw1 t1 hG1 HG HCW hc2 hf2 hHeld;go_wp2_with (at_builtin;refine Z5 rfl (.tmp 24) (.tmp 26) rfl 0 _ (ZP G.fs) f rfl (HG1.out.fs.alloc _) w1.heap.size 1 rfl ?_ ?_ ?_ ?_)
 ·simp[go_sem]
 rw[ZQ];omega;simp;intro v3 w3 H3;obtain⟨q1,q2,q3⟩:=H3.out;have hb3:w3.heap[gb]? =some (.cells #[.slice fa G.fs.length fc,.slice oa n oc,.int .i64 ((G.conf+Y4 G.out L:Nat):Int),.int .i64 (G.bins:Nat)] 351 (0,0)):=(by rw[q2.block gb (by simp;omega) (fun e=>Zv HG1.out.fs e.symm HG1.out.blk (by decide) rfl)];exact(Below.heap_alloc w1 _ gb hgl).trans HG1.out.blk);have ho3:Z7 w3 0 (.slice oa n oc) G.out:=World.ownsRow.kept (HG1.out.out.alloc _) q2 (Za4 (HG1.out.fs.alloc (.cells #[.int .i64 f] 3)) (HG1.out.out.alloc (.cells #[.int .i64 f] 3)) (by decide));have t3:Za K w w3:=by have ta:Za K w1 (w1.alloc (.cells #[.int .i64 f] 3)):=(Za.refl K w1).alloc _;exact HT1.out.trans (ta.grown q2 (fun k hk _=>HG1.out.kf k hk))
 obtain⟨fa3,fc3,hv3⟩:=q1.shape;rw[Qe,ZQ] at hv3;simp only[List.length_cons,List.length_nil,Nat.zero_add] at hv3;subst hv3;have hg3:gb<w3.heap.size:=(Qb hb3).1;have HB3:Hid (w3.heap[gb]? =some (.cells #[.slice fa G.fs.length fc,.slice oa n oc,.int .i64 ((G.conf+Y4 G.out L:Nat):Int),.int .i64 (G.bins:Nat)] 351 (0,0))/\Z7 w3 0 (.slice oa n oc) G.out/\Za K w w3/\Ze w3 0 (.slice fa3 (G.fs.length+1) fc3) (ZP G.fs++[(f:Int)])):=⟨hb3,ho3,t3,q1⟩
 have HK3:Hid (∀k,(Value.slice fa3 (G.fs.length+1) fc3).ownBlock=some k->K k∨w.heap.size<=k):=fun k hk=>by
  rcases q3 with e|e
  exact .inl (HG1.out.kf k (e ▸ hk));rw[e.1] at hk;injection hk with hk;exact .inr (by rw[<- hk];omega)
 have HKG:Hid (K gb/\∀k,(Value.slice oa n oc).ownBlock=some k->K k):=⟨HG1.out.kg,HG1.out.ko⟩;have c30:w3.cell? ⟨gb,0,none⟩=some (.slice fa G.fs.length fc):=cell_of_row _ _ 0 _ 351 (0,0) hb3;have f30:w3.frozen? ⟨gb,0,none⟩=false:=frozen_of_row _ _ 0 _ 351 hb3;have c33:w3.cell? ⟨gb,3,none⟩=some (.int .i64 (G.bins:Nat)):=cell_of_row _ _ 3 _ 351 (0,0) hb3;have f33:w3.frozen? ⟨gb,3,none⟩=false:=frozen_of_row _ _ 3 _ 351 hb3;clear H3 q1 q2 q3 hb3 ho3 t3 HG1 HT1 c0;go_wp2_with fail
 go_loopw [40] (fun ti wr=>∃k:Nat,ti=.int .i64 k/\k<=n/\Hid (wr.heap[gb]? =some (.cells #[.slice fa3 (G.fs.length+1) fc3,.slice oa n oc,.int .i64 ((G.conf+Y4 G.out L:Nat):Int),.int .i64 ((G.bins:Int)+(bins:Int))] 351 (0,0))/\Z7 wr 0 (.slice oa n oc) (orK G.out L k)/\Za K w wr/\Ze wr 0 (.slice fa3 (G.fs.length+1) fc3) (ZP G.fs++[(f:Int)]))) (fun ti _=>n-(intOf ti).toNat)
 case atStart=>
  obtain⟨p1,p2,p3,p4⟩:=HB3.out;refine⟨0,rfl,Qg _,?_,?_,?_,?_⟩;exact heap_setCell_same _ gb 3 _ 351 _ (heap_setCell_same _ gb 0 _ 351 _ p1);have e:orK G.out L 0=G.out:=(by simp[orK]);rw[e];exact Zl (Zl p2 p1 (by decide)) (heap_setCell_same _ gb 0 _ 351 _ p1) (by decide);exact(p3.setCell (p:=⟨gb,0,none⟩) (fun _=>HKG.out.1) _).setCell (p:=⟨gb,3,none⟩) (fun _=>HKG.out.1) _;exact Zl (Zl p4 p1 (by decide)) (heap_setCell_same _ gb 0 _ 351 _ p1) (by decide)
 case round=>
  clear HB3 c30 f30 c33 f33;obtain⟨k,rfl,hk,HR⟩:=hrel
  by_cases hkn:k<n
  ·obtain⟨hblk,hout,ht,hfs⟩:=HR.out;have hlen:G.out.length=L.length:=(by have:=HV.out;omega);obtain⟨q,hoa,hql,_,d1,fq⟩:=hout.atK (k:=k) (by rw[Zk8 hlen (by have:=HV.out;omega)];exact HV.out.2.2.1) hkn;subst hoa;have hL2:Z7 wr 0 (.slice va n c) L:=ht.row HV.out.1 HV.out.2.2.2;obtain⟨q2,hva2,hql2,_,d2,_⟩:=hL2.atK HV.out.2.1 hkn;subst hva2;rw[Zo1 hlen (by have:=HV.out;omega)] at d1;have c1:wr.drew.cell? ⟨gb,1,none⟩=some (.slice (some ⟨q,0,none⟩) n oc):=cell_of_row _ _ 1 _ 351 (0,0) hblk;have HSET:Hid ((orK G.out L k).set k (G.out.getD k false||L.getD k false)=orK G.out L (k+1)):=Zok hlen (by have:=HV.out;omega);have HLN:Hid (n=(orK G.out L k).length):=by rw[Zk8 hlen (by have:=HV.out;omega)];exact HV.out.2.2.1.symm
   have hgq:gb≠q:=fun e=>by
    rcases hout.2 with⟨e2,_⟩|⟨g,cap,cur,e2,_,hh,_⟩
    ·cases e2
    injection e2 with e2;injection e2 with e2;injection e2 with e2;rw[e,e2,hh] at hblk;simp at hblk
   have HBF:Hid (wr.heap[gb]? =some (.cells #[.slice fa3 (G.fs.length+1) fc3,.slice (some ⟨q,0,none⟩) n oc,.int .i64 ((G.conf+Y4 G.out L:Nat):Int),.int .i64 ((G.bins:Int)+(bins:Int))] 351 (0,0))/\Z7 wr 0 (.slice (some ⟨q,0,none⟩) n oc) (orK G.out L k)/\Za K w wr/\Ze wr 0 (.slice fa3 (G.fs.length+1) fc3) (ZP G.fs++[(f:Int)])):=⟨hblk,hout,ht,hfs⟩;have d1':wr.drew.cell? ⟨q,k,none⟩=some (.bool (G.out.getD k false)):=d1;have fq':wr.drew.frozen? ⟨q,k,none⟩=false:=fq;have bk1:(0:Int)<=(k:Int):=(by omega);have bk2:(k:Int)<(n:Int):=by omega
   have HNXT:Hid (∀z,z=(G.out.getD k false||L.getD k false)->(wr.setCell ⟨q,k,none⟩ (.bool z)).drew.heap[gb]? =some (.cells #[.slice fa3 (G.fs.length+1) fc3,.slice (some ⟨q,0,none⟩) n oc,.int .i64 ((G.conf+Y4 G.out L:Nat):Int),.int .i64 ((G.bins:Int)+(bins:Int))] 351 (0,0))/\Z7 (wr.setCell ⟨q,k,none⟩ (.bool z)).drew 0 (.slice (some ⟨q,0,none⟩) n oc) (orK G.out L (k+1))/\Za K w (wr.setCell ⟨q,k,none⟩ (.bool z)).drew/\Ze (wr.setCell ⟨q,k,none⟩ (.bool z)).drew 0 (.slice fa3 (G.fs.length+1) fc3) (ZP G.fs++[(f:Int)])):=by
    rintro z rfl;obtain⟨p1,p2⟩:=hout.put (k:=k) HLN.out (G.out.getD k false||L.getD k false);rw[HSET.out] at p1;refine⟨?_,p1,(ht.setCell (p:=⟨q,k,none⟩) (fun _=>HKG.out.2 q rfl) _).drew,?_⟩;exact(p2.block gb (Qb hblk).1 (fun e=>hgq (by injection e))).trans hblk;exact World.ownsRow.drew (Ze.kept hfs p2 (Za4 hout hfs (by decide)))
   clear HR hblk hout ht hfs hL2 d1 fq HSET HLN HBF;generalize L.getD k false=b at *;generalize G.out.getD k false=d at *
   cases d with
   | true=>
    go_upto_region 6 with fail;refine ZJ (fun w'=>w'.cell? ⟨gb,1,none⟩=some (.slice (some ⟨q,0,none⟩) n oc)/\w'.cell? ⟨q,k,none⟩=some (.bool true)) 16 (by kernel_rfl) ⟨c1,d1'⟩ (fun hHeld=>?_);refine ZL 0 ?_;try simp only[Act.put,sA,sB,sC]
    refine ZL 1 ?_;try simp only[Act.put,sA,sB,sC]
    refine ZL 2 ?_;try simp only[Act.put,sA,sB,sC]
    refine tkM [15,16] 3 (v:=?_) ?_ ?_
    rotate_left
    ·intro w hSw;try obtain⟨_,_⟩:=hSw
     go_simp;try with_reducible rfl
    try simp only[Act.put,sA,sB,sC]
    refine ZL 4 ?_;try simp only[Act.put,sA,sB,sC]
    refine ZL 5 ?_;try simp only[Act.put,sA,sB,sC]
    refine ZL 6 ?_;try simp only[Act.put,sA,sB,sC]
    refine ZL 7 ?_;try simp only[Act.put,sA,sB,sC]
    refine tkM [10,11,12,13,14,15,16] 8 (v:=?_) ?_ ?_
    rotate_left
    ·intro w hSw;try obtain⟨_,_⟩:=hSw
     go_simp;try with_reducible rfl
    try simp only[Act.put,sA,sB,sC]
    refine ZL 9 ?_;try simp only[Act.put,sA,sB,sC]
    refine ZL 10 ?_;try simp only[Act.put,sA,sB,sC]
    refine tkM [12,13,14,15,16] 11 (v:=?_) ?_ ?_
    rotate_left
    ·intro w hSw;try obtain⟨_,_⟩:=hSw
     go_simp;try with_reducible rfl
    try simp only[Act.put,sA,sB,sC]
    refine ZL 12 ?_;try simp only[Act.put,sA,sB,sC]
    refine ZbK [14,15,16] (i:=13) (v:=undef) rfl (by kernel_rfl) (by kernel_rfl) (by kernel_rfl) (by kernel_rfl) (by kernel_rfl) (fun _ _ _ h=>h) (Or.inr ⟨by rfl,rfl⟩) (by assumption) ?_;try simp only[Act.put,sA,sB,sC]
    refine ZL 14 ?_;try simp only[Act.put,sA,sB,sC]
    refine ZL 15 ?_;try simp only[Act.put,sA,sB,sC]
    refine Zx (i:=16) (by kernel_rfl) rfl (by kernel_rfl) (fun KK hK=>?_);go_simp;refine hK.out _ _ ?_;clear hK KK;try simp only[Act.put,sA,sB,sC]
    refine Zz (by kernel_rfl) ?_ _;have HF:=HNXT.out true (by simp);have HFF:Hid _:=HF;clear HF HNXT hHeld c1 d1' fq';go_wp2;go_roundw;case rel=>exact⟨k+1,by go_num,by omega,HFF⟩
    case measure=>simp[intOf];omega
   | false=>
    go_upto_region 6 with fail;refine ZJ (fun w'=>w'.cell? ⟨gb,1,none⟩=some (.slice (some ⟨q,0,none⟩) n oc)/\w'.cell? ⟨q,k,none⟩=some (.bool false)) 16 (by kernel_rfl) ⟨c1,d1'⟩ (fun hHeld=>?_);refine ZL 0 ?_;try simp only[Act.put,sA,sB,sC]
    refine ZL 1 ?_;try simp only[Act.put,sA,sB,sC]
    refine ZL 2 ?_;try simp only[Act.put,sA,sB,sC]
    refine tkM [15,16] 3 (v:=?_) ?_ ?_
    rotate_left
    ·intro w hSw;try obtain⟨_,_⟩:=hSw
     go_simp;try with_reducible rfl
    try simp only[Act.put,sA,sB,sC]
    refine ZL 4 ?_;try simp only[Act.put,sA,sB,sC]
    refine ZL 5 ?_;try simp only[Act.put,sA,sB,sC]
    refine ZL 6 ?_;try simp only[Act.put,sA,sB,sC]
    refine ZL 7 ?_;try simp only[Act.put,sA,sB,sC]
    refine tkM [10,11,12,13,14,15,16] 8 (v:=?_) ?_ ?_
    rotate_left
    ·intro w hSw;try obtain⟨_,_⟩:=hSw
     go_simp;try with_reducible rfl
    try simp only[Act.put,sA,sB,sC]
    refine ZL 9 ?_;try simp only[Act.put,sA,sB,sC]
    refine ZL 10 ?_;try simp only[Act.put,sA,sB,sC]
    refine tkM [12,13,14,15,16] 11 (v:=?_) ?_ ?_
    rotate_left
    ·intro w hSw;try obtain⟨_,_⟩:=hSw
     go_simp;try with_reducible rfl
    try simp only[Act.put,sA,sB,sC]
    refine ZL 12 ?_;try simp only[Act.put,sA,sB,sC]
    refine ZL 13 ?_;try simp only[Act.put,sA,sB,sC]
    refine ZL 14 ?_;try simp only[Act.put,sA,sB,sC]
    refine ZL 15 ?_;try simp only[Act.put,sA,sB,sC]
    refine Zx (i:=16) (by kernel_rfl) rfl (by kernel_rfl) (fun KK hK=>?_);go_simp;refine hK.out _ _ ?_;clear hK KK;try simp only[Act.put,sA,sB,sC]
    refine Zz (by kernel_rfl) ?_ _;have HF:=HNXT.out b (by simp);have HFF:Hid _:=HF;clear HF HNXT hHeld c1 d1' fq';go_wp2;go_roundw;case rel=>exact⟨k+1,by go_num,by omega,HFF⟩
    case measure=>simp[intOf];omega
  have hnk:¬(k:Int)<(n:Int):=by omega
  have HF:Hid ((∃K',ZeS wr K' gb (Zbt G f L bins)/\∀k,K' k->K k∨w.heap.size<=k)/\Za K w wr):=by
   obtain⟨hblk,hout,ht,hfs⟩:=HR.out;have hlen:G.out.length=L.length:=by have:=HV.out;omega
   have e:orK G.out L k=orL G.out L:=(by have:=Za0 hlen;unfold orK;rw[List.take_of_length_le (by have:=HV.out;omega),List.drop_eq_nil_of_le (by have:=HV.out;omega),List.append_nil]);rw[e] at hout;refine⟨⟨fun k=>K k∨(Value.slice fa3 (G.fs.length+1) fc3).ownBlock=some k,⟨_,_,⟨hblk,?_,hout,.inl HKG.out.1,fun k hk=>.inr hk,fun k hk=>.inl (HKG.out.2 k hk),fun k hk=>?_⟩⟩,fun k hk=>?_⟩,ht⟩;show Ze wr 0 _ (ZP (G.fs++[f]));rw[ZiL];exact hfs
   ·rcases hk with hk|hk
    exact Qh (HKL.out k hk) ht.size;exact(World.ownsRow.lt hfs k hk).2
   rcases hk with hk|hk
   exact .inl hk;exact HK3.out k hk
  clear HR;go_wp2;go_end0;exact⟨rfl,HF.out.1,HF.out.2⟩
def g0S:GS:=⟨[],[],0,0⟩
def ZfD(b:Nat):Value:=.pointer (some ⟨b,0,none⟩)
structure ZcJ(w:World)(vG:Value)(gbs:List Nat)(Ks:Nat->Nat->Prop)(Gs:List GS):Prop where
 row:w.ownsRow 0 313 1 vG Gs.length (gbs.map ZfD)
 len:gbs.length=Gs.length
 each:∀i,i<Gs.length->ZeS w (Ks i) (gbs.getD i 0) (Gs.getD i g0S)
 apart:∀i j,i<Gs.length->j<Gs.length->i≠j->∀k,Ks i k->¬Ks j k
def YI(L:List Bool)(bins budget:Nat)(G:GS):Bool:=decide (G.conf+Y4 G.out L<=budget)&&decide (G.bins+bins<=40)
structure GOk(n:Nat)(G:GS):Prop where
 out:G.out.length=n
 conf:G.conf<=1000
 bins:G.bins<=1000
 fs:G.fs.length<=1000
theorem ZcJ.at{w:World}{vG:Value}{gbs:List Nat}{Ks:Nat->Nat->Prop}{Gs:List GS}(h:ZcJ w vG gbs Ks Gs){i:Nat}(hi:i<Gs.length):∃q c,vG=.slice (some ⟨q,0,none⟩) Gs.length c/\q<w.heap.size/\w.cell? ⟨q,i,none⟩=some (ZfD (gbs.getD i 0)):=by
 have hr:=h.row
 rcases h.row.2 with⟨_,h0⟩|⟨g,cap,cur,e,hb,hh,hnc,_⟩
 omega;subst e;refine⟨g,cap,rfl,(Qb hh).1,?_⟩;rw[World.ownsRow.cellAt hr i (by omega)];have:=h.len;simp[List.getD,show i<gbs.length by omega]
theorem ZcJ.form{w:World}{vG:Value}{gbs:List Nat}{Ks:Nat->Nat->Prop}{Gs:List GS}(h:ZcJ w vG gbs Ks Gs):∃a c,vG=.slice a Gs.length c:=by
 rcases h.row.2 with⟨rfl,h0⟩|⟨q,p,cur,rfl,_⟩
 exact⟨none,0,by rw[h0]⟩;exact⟨_,_,rfl⟩
def Zir(gbs:List Nat)(m:Nat)(i:Nat):Value:=if i<m then ZfD (gbs.getD i 0) else .pointer none
theorem Zdi(ga va:Option Addr)(gc n c bins budget:Nat)(gbs:List Nat)(Ks:Nat->Nat->Prop)(Gs:List GS)(L:List Bool)(w:World)(hG:ZcJ w (.slice ga Gs.length gc) gbs Ks Gs)(hok:∀G∈Gs,GOk n G)(hv:Z7 w 0 (.slice va n c) L)(hL:L.length=n)(hn:n<=200)(hb:bins<=1000)(hgl:Gs.length<=1000):Calls Tryz.prog 255 #[.slice ga Gs.length gc,.slice va n c,.int .i64 bins,.int .i64 budget] w fun e w'=>e=.returned (Zir gbs Gs.length (Gs.findIdx (YI L bins budget)))/\Below w.heap.size w w':=by
 have HG:Hid (ZcJ w (.slice ga Gs.length gc) gbs Ks Gs):=hG;have HOK:Hid (∀G∈Gs,GOk n G):=hok;have HV:Hid (Z7 w 0 (.slice va n c) L/\L.length=n):=⟨hv,hL⟩;obtain⟨m,hm⟩:∃m,m=Gs.length:=⟨_,rfl⟩;have HM:Hid (m=Gs.length):=hm;rw[<- hm] at hgl ⊢;clear hG hok hv hL hm;go_enter Tryz.func255,Tryz.ntmps255;go_wp2_with fail
 go_loopw [13] (fun ti wr=>∃k:Nat,ti=.int .i64 k/\k<=m/\Hid (∀j,j<k->YI L bins budget (Gs.getD j g0S)=false)/\∃d,wr=w.drewN d) (fun ti _=>m-(intOf ti).toNat)
 case atStart=>exact⟨0,rfl,Qg _,fun j hj=>by omega,0,rfl⟩
 case round=>
  obtain⟨k,rfl,hk,HN,d,rfl⟩:=hrel
  by_cases hkm:k<m
  ·have hkl:k<Gs.length:=(by rw[<- HM.out];exact hkm);obtain⟨q,gc',hga,hql,hcell⟩:=HG.out.at hkl;injection hga with hga _ hgc;subst hga hgc;obtain⟨vf,vo,hK⟩:=HG.out.each k hkl;have hGk:=HOK.out _ (show Gs.getD k g0S∈Gs by simp[List.getD,hkl]);have HDEF:Hid (YI L bins budget (Gs.getD k g0S)=(decide ((Gs.getD k g0S).conf+Y4 (Gs.getD k g0S).out L<=budget)&&decide ((Gs.getD k g0S).bins+bins<=40))):=rfl
   have HFI:Hid (YI L bins budget (Gs.getD k g0S)=true->Gs.findIdx (YI L bins budget)=k):=fun ht=>by
    have e:Gs.getD k g0S=Gs[k]:=(by simp[List.getD,hkl]);rw[e] at ht;rw[List.findIdx_eq hkl];refine⟨ht,fun j hj=>?_⟩;have:=HN.out j hj
    rwa [show Gs.getD j g0S=Gs[j]'(by omega) by simp[List.getD,show j<Gs.length by omega]] at this
   have HNX:Hid (YI L bins budget (Gs.getD k g0S)=false->∀j,j<k+1->YI L bins budget (Gs.getD j g0S)=false):=fun hf j hj=>by
    by_cases e:j=k
    rw[e];exact hf;exact HN.out j (by omega)
   generalize Gs.getD k g0S=G at *;obtain⟨gb,hgb⟩:∃gb,gb=gbs.getD k 0:=⟨_,rfl⟩;have HGB:Hid (ZfD gb=ZfD (gbs.getD k 0)):=(by show _=_;rw[hgb]);rw[<- hgb] at hK hcell;clear hgb;obtain⟨oa,oc,hvo⟩:=hK.out.shape;rw[hGk.out] at hvo;subst hvo;have c1:w.cell? ⟨gb,1,none⟩=some (.slice oa n oc):=cell_of_row _ _ 1 _ 351 (0,0) hK.blk;have c2:w.cell? ⟨gb,2,none⟩=some (.int .i64 (G.conf:Nat)):=cell_of_row _ _ 2 _ 351 (0,0) hK.blk;have c3:w.cell? ⟨gb,3,none⟩=some (.int .i64 (G.bins:Nat)):=cell_of_row _ _ 3 _ 351 (0,0) hK.blk;have hcn:=ZeG (Qy G.out L);rw[Zcn (by have:=HV.out.2;have:=hGk.out;omega),HV.out.2] at hcn;have hcn2:Y4 G.out L<=200:=(by unfold Y4;omega);have hq1:=hGk.conf;have hq2:=hGk.bins
   have HCW:Hid (∀e,Calls Tryz.prog 297 #[.pointer (some ⟨gb,0,none⟩),.slice va n c] (w.drewN e) fun e' w'=>e'=.returned (.int .i64 (Y4 G.out L:Nat))/\w'=w.drewN e):=fun e=>ZaW gb va oa n c oc L G.out (w.drewN e) c1 hK.out HV.out.1 hGk.out HV.out.2 hn;clear hK hGk hcn c1;generalize Y4 G.out L=cf at *;generalize G.conf=gcf at *;generalize G.bins=gbn at *;unfold ZfD at hcell;have bk1:(0:Int)<=(k:Int):=(by omega);have bk2:(k:Int)<(m:Int):=by omega
   by_cases h1:gcf+cf<=budget
   ·have g1:decide ((gcf:Int)+(cf:Int)<=(budget:Int))=true:=by simp;omega
    by_cases h2:gbn+bins<=40
    ·have g2:decide ((gbn:Int)+(bins:Int)<=40)=true:=(by simp;omega);have HR:Hid (Gs.findIdx (YI L bins budget)=k):=HFI.out (by rw[HDEF.out];simp[h1,h2]);clear HFI HDEF h1 h2;go_upto_region 4 with fail;go_quiet (first|(go_at_call 297;exact(HCW.out _).mono (fun _ _ h=>⟨h.1,_,h.2⟩)));go_wp2;go_ret;refine⟨?_,below_drewN (Below.refl _ _) _⟩;rw[HR.out];unfold Zir;rw[if_pos hkm,<- HGB.out];rfl
    have g2:decide ((gbn:Int)+(bins:Int)<=40)=false:=(by simp;omega);have HR:Hid (∀j,j<k+1->YI L bins budget (Gs.getD j g0S)=false):=HNX.out (by rw[HDEF.out];simp[h1,h2]);clear HFI HDEF h1 h2 HN HNX;go_upto_region 4 with fail;go_quiet (first|(go_at_call 297;exact(HCW.out _).mono (fun _ _ h=>⟨h.1,_,h.2⟩)));go_wp2;go_roundw;case rel=>exact⟨k+1,by go_num,by omega,HR,_,rfl⟩
    case measure=>simp[intOf];omega
   have g1:decide ((gcf:Int)+(cf:Int)<=(budget:Int))=false:=(by simp;omega);have HR:Hid (∀j,j<k+1->YI L bins budget (Gs.getD j g0S)=false):=HNX.out (by rw[HDEF.out];simp[h1]);clear HFI HDEF h1 HN HNX;go_upto_region 4 with fail;go_quiet (first|(go_at_call 297;exact(HCW.out _).mono (fun _ _ h=>⟨h.1,_,h.2⟩)));go_wp2;go_roundw;case rel=>exact⟨k+1,by go_num,by omega,HR,_,rfl⟩
   case measure=>simp[intOf];omega
  have hnk:¬(k:Int)<(m:Int):=by omega
  have HR:Hid (¬Gs.findIdx (YI L bins budget)<m):=fun h=>by
   rw[HM.out] at h;have h1:=List.findIdx_getElem (w:=h);have:=HN.out (Gs.findIdx (YI L bins budget)) (by have:=HM.out;omega);rw[show Gs.getD (Gs.findIdx (YI L bins budget)) g0S=Gs[Gs.findIdx (YI L bins budget)]'h by simp[List.getD,h]] at this;rw[h1] at this
   cases this
  clear HN;go_wp2;go_ret;refine⟨?_,below_drewN (Below.refl _ _) _⟩;unfold Zir;rw[if_neg HR.out];rfl
end Go.Proofs.YtfcgnpchbcmdeaaGreat
namespace Go.Proofs.YtfcgnpchbcmdeaaGreat
set_option linter.unusedSimpArgs false
set_option maxRecDepth 100000
set_option maxHeartbeats 4000000
open Go.RowKit Go.Lib Go.Sort
structure YV(w:World)(vO:Value)(vs:List Value)(Os:List (List Bool)):Prop where
 row:w.ownsRow 0 101 1 vO Os.length vs
 each:∀i,i<Os.length->Z7 w 0 (vs.getD i (.slice none 0 0)) (Os.getD i [])
theorem YV.below{w w':World}{vO:Value}{vs:List Value}{Os:List (List Bool)}(h:YV w vO vs Os)(hb:Below w.heap.size w w'):YV w' vO vs Os:=
 ⟨(Za.of_below (S:=fun _=>False) hb).row h.row (fun _ _=>id),fun i hi=>(h.each i hi).below hb⟩
theorem YV.at{w:World}{vO:Value}{vs:List Value}{Os:List (List Bool)}(h:YV w vO vs Os){i:Nat}(hi:i<Os.length):∃q c,vO=.slice (some ⟨q,0,none⟩) Os.length c/\q<w.heap.size/\w.cell? ⟨q,i,none⟩=some (vs.getD i (.slice none 0 0)):=by
 have hr:=h.row
 rcases h.row.2 with⟨_,h0⟩|⟨g,cap,cur,e,hb,hh,hnc,_⟩
 omega;subst e;refine⟨g,cap,rfl,(Qb hh).1,?_⟩;rw[World.ownsRow.cellAt hr i (by omega)];have:=hr.1;simp[List.getD,show i<vs.length by omega]
theorem Zlr(ob q qc n f g:Nat)(vs:List Value)(Os:List (List Bool))(w:World)(hO:YV w (.slice (some ⟨q,0,none⟩) Os.length qc) vs Os)(hl:∀O∈Os,O.length=n)(hn:n<=200)(hb:w.cell? ⟨ob,0,none⟩=some (.slice (some ⟨q,0,none⟩) Os.length qc))(hf:f<Os.length)(hg:g<Os.length):Calls Tryz.prog 295 #[.int .i64 f,.int .i64 g,.pointer (some ⟨ob,0,none⟩)] w fun e w'=>e=.returned (.int .i64 (Lib.compareInt (Yb (Os.getD g []):Nat) (Yb (Os.getD f []):Nat)))/\∃m,w'=w.drewN m:=by
 obtain⟨q1,c1,e1,_,d1⟩:=hO.at hf;injection e1 with e1 _ _;injection e1 with e1;injection e1 with e1 _;subst e1;obtain⟨q2,c2,e2,_,d2⟩:=hO.at hg;injection e2 with e2 _ _;injection e2 with e2;injection e2 with e2 _;subst e2;have o1:=hO.each f hf;have o2:=hO.each g hg;have l1:=hl _ (show Os.getD f []∈Os by simp[List.getD,hf]);have l2:=hl _ (show Os.getD g []∈Os by simp[List.getD,hg]);generalize Os.getD f []=F at *;generalize Os.getD g []=G at *;generalize vs.getD f (.slice none 0 0)=v1 at *;generalize vs.getD g (.slice none 0 0)=v2 at *;obtain⟨a1,b1,rfl⟩:=o1.shape;obtain⟨a2,b2,rfl⟩:=o2.shape;rw[l1] at o1 d1;rw[l2] at o2 d2;have H1:Hid (∀e,Calls Tryz.prog 296 #[.slice a1 n b1] (w.drewN e) fun e' w'=>e'=.returned (.int .i64 (Yb F:Nat))/\w'=w.drewN e):=fun e=>ZkP a1 n b1 F (w.drewN e) o1 l1 hn
 have H2:Hid (∀e,Calls Tryz.prog 296 #[.slice a2 n b2] (w.drewN e) fun e' w'=>e'=.returned (.int .i64 (Yb G:Nat))/\w'=w.drewN e):=fun e=>ZkP a2 n b2 G (w.drewN e) o2 l2 hn;have H3:Hid (∀e,Calls Tryz.prog 151 #[.int .i64 (Yb G:Nat),.int .i64 (Yb F:Nat)] (w.drewN e) fun e' w'=>e'=.returned (.int .i64 (Lib.compareInt (Yb G:Nat) (Yb F:Nat)))/\w'=w.drewN e):=fun e=>Tryz.cmp_Compare_int _ _ (w.drewN e);generalize Lib.compareInt (Yb G:Nat) (Yb F:Nat)=r at *;generalize Yb F=cF at *;generalize Yb G=cG at *;generalize Os.length=m at *;have b1':(0:Int)<=(f:Int):=(by omega);have b2':(f:Int)<(m:Int):=(by omega);have b3':(0:Int)<=(g:Int):=(by omega);have b4':(g:Int)<(m:Int):=(by omega);clear hO o1 o2 l1 l2 hl hf hg;go_enter Tryz.func295,Tryz.ntmps295;go_upto_region 1 with fail
 go_quiet (first|(go_at_call_of 296 (a2);exact(H2.out _).mono (fun _ _ h=>⟨h.1,_,h.2⟩))|(go_at_call_of 296 (a1);exact(H1.out _).mono (fun _ _ h=>⟨h.1,_,h.2⟩))|(go_at_call 151;exact(H3.out _).mono (fun _ _ h=>⟨h.1,_,h.2⟩)));go_wp2;go_ret;exact⟨rfl,_,rfl⟩
def ZcF{m:Nat}(x:Fin m):Value:=.int .i64 ((x.val:Nat):Int)
def ZcD{m:Nat}(Os:List (List Bool))(x y:Fin m):Int:=Lib.compareInt (Yb (Os.getD y.val []):Nat) (Yb (Os.getD x.val []):Nat)
theorem ZpL{m:Nat}:OneCell (ZcF (m:=m)):=fun _=>rfl
theorem Zkl(m blk cap ob:Nat)(d:Array (Fin (m+1)))(w:World)(hm:m+1<=4)(hd:d.size=m+1)(Os:List (List Bool))(hcmp:CmpReads (α:=Fin (m+1)) Tryz.prog 295 #[.pointer (some ⟨ob,0,none⟩)] ZcF (ZcD Os) blk 0 (m+1) w)(hH:Holds ZcF w blk 0 d):
  Calls Tryz.prog 294 #[.slice (some ⟨blk,0,none⟩) (m+1) cap,.func (.func 295) #[] #[.pointer (some ⟨ob,0,none⟩)]] w fun e w'=>e=.returned (.tuple #[])/\∃n,w'=(putRow ZcF w blk 0 (Sort.insertionSort (ltOf (ZcD Os)) d 0 (m+1))).drewN n:=by
 have HI:Hid (Calls Tryz.prog 346 #[.slice (some ⟨blk,0,none⟩) (m+1) cap,.int .i64 0,.int .i64 ((m+1:Nat):Int),.func (.func 295) #[] #[.pointer (some ⟨ob,0,none⟩)]] w fun e w'=>e=.returned (.tuple #[])/\∃n,w'=(putRow ZcF w blk 0 (Sort.insertionSort (ltOf (ZcD Os)) d 0 (m+1))).drewN n):=(by have:=Tryz.insertionSortCmpFunc_one ZcF ZpL (ZcD Os) 295 #[.pointer (some ⟨ob,0,none⟩)] blk 0 cap 0 (m+1) d w (enters_of Tryz.func295 (by kernel_rfl) rfl) (by rw[hd];exact hcmp) hH (Qg _) (by omega) (by omega);rw[hd] at this;exact this);generalize putRow ZcF w blk 0 (Sort.insertionSort (ltOf (ZcD Os)) d 0 (m+1))=w2 at *
 have HS:Hid (Calls Tryz.prog 329 #[.slice (some ⟨blk,0,none⟩) (m+1) cap,.int .i64 ((m+1:Nat):Int),.func (.func 295) #[] #[.pointer (some ⟨ob,0,none⟩)]] w fun e w'=>e=.returned (.tuple #[])/\∃n,w'=w2.drewN n):=by
  clear hcmp hH hd;have hb1:¬(20:Int)<=(m:Int)+1:=(by omega);have hb2:¬(20:Int)<(m:Int)+1:=(by omega);go_enter Tryz.func329,Tryz.ntmps329;go_wp2_with fail
  go_loopw [7,8] (fun ta tb wr=>ta=.int .i64 0/\tb=.int .i64 20/\wr=w) (fun _ _ _=>0)
  case atStart=>exact⟨rfl,rfl,rfl⟩
  case round=>
   obtain⟨rfl,rfl,rfl⟩:=hrel;go_wp2_with fail
   refine(HI.out).mono ?_;rintro e w3 ⟨rfl,n3,rfl⟩;go_wp2_with fail
   go_loopw [6] (fun tb wr=>tb=.int .i64 20/\wr=w2.drewN n3) (fun _ _=>0)
   case atStart=>exact⟨rfl,rfl⟩
   case round=>
    obtain⟨rfl,rfl⟩:=hrel;go_wp2;go_end0;exact⟨rfl,_,rfl⟩
 clear HI hcmp hH hd;go_enter Tryz.func294,Tryz.ntmps294;go_wp2_with fail
 refine(HS.out).mono ?_;rintro e w3 ⟨rfl,n3,rfl⟩;go_wp2;go_end0;exact⟨rfl,_,rfl⟩
theorem Zkt{α:Type}[Inhabited α](enc:α->Value)(w:World)(blk off m:Nat)(dk:Array α)(os:Array Obj):Za (fun k=>k=blk) w (sortWorld enc w blk off m dk os):=by refine⟨rfl,rfl,rfl,?_,fun k hk hne=>?_⟩;unfold sortWorld;simp;unfold sortWorld;rw[Go.Sort.heap_grow_old _ _ (by simpa using hk)];have:blk≠k:=fun e=>hne e.symm;simp[Go.Sort.putRow,Go.Sort.mapBlock,Go.Sort.ahead,Array.getElem?_modify,this]
theorem Zmn{α:Type}[Inhabited α](enc:α->Value)(w:World)(blk off:Nat)(dk:Array α):Za (fun k=>k=blk) w (putRow enc w blk off dk):=by refine⟨rfl,rfl,rfl,?_,fun k hk hne=>?_⟩;simp[Go.Sort.putRow,Go.Sort.mapBlock];have:blk≠k:=fun e=>hne e.symm;simp[Go.Sort.putRow,Go.Sort.mapBlock,Array.getElem?_modify,this]
theorem YV.touch{S:Nat->Prop}{w w':World}{vO:Value}{vs:List Value}{Os:List (List Bool)}(h:YV w vO vs Os)(t:Za S w w')(hs:∀k cur ty,w.heap[k]? =some (.cells cur ty (0,0))->ty=101∨ty=4->¬S k):YV w' vO vs Os:=
 ⟨t.row h.row (fun k hk=>by obtain⟨cur,hc⟩:=Zf h.row hk;exact hs k _ _ hc (.inl rfl)),fun i hi=>t.row (h.each i hi) (fun k hk=>by obtain⟨cur,hc⟩:=Zf (h.each i hi) hk;exact hs k _ _ hc (.inr rfl))⟩
theorem Zj9{w:World}{base g cap n m:Nat}{zs:List Int}{D:Array (Fin (m+1))}(h:Ze w base (.slice (some ⟨g,0,none⟩) n cap) zs)(hz:zs.length=n)(hD:D.size=n):Ze (putRow ZcF w g 0 D) base (.slice (some ⟨g,0,none⟩) n cap) (D.toList.map (fun x=>((x.val:Nat):Int))):=by
 rcases h.2 with⟨e,_⟩|⟨g',cap',cur,e,hb,hg,hnc,hcm,hcs,htake⟩
 simp at e;simp only[Value.slice.injEq,Option.some.injEq,Addr.mk.injEq,and_true] at e;obtain⟨rfl,_,rfl⟩:=e;have hh:(putRow ZcF w g 0 D).heap[g]? =some (.cells (Go.Sort.putCells ZcF 0 D cur) 3 (0,0)):=(by simp[Go.Sort.putRow,Go.Sort.mapBlock,Array.getElem?_modify,hg,Go.Sort.onCells]);have hl:(D.toList.map (fun x=>((x.val:Nat):Int))).length=n:=(by simp[hD]);refine⟨by rw[List.length_map];omega,.inr ⟨g,cap,_,by rw[hl],hb,hh,by rw[hl];omega,hcm,by simp[Go.Sort.putCells,hcs],?_⟩⟩;rw[hl,Nat.mul_one];apply List.ext_getElem?;intro j
 by_cases hj:j<n
 rw[List.getElem?_take_of_lt hj,Array.getElem?_toList];have h1:j<cur.size:=(by omega);have h2:j<D.size:=(by omega);simp[Go.Sort.putCells,h1,h2,ZcF];rw[List.getElem?_take_eq_none (by omega),List.getElem?_eq_none (by simp;omega)]
def Zbl(m:Nat):Array (Fin (m+1)):=Array.ofFn (fun i=>i)
def ZbE(m:Nat)(Os:List (List Bool)):List Nat:=(Sort.insertionSort (ltOf (ZcD (m:=m+1) Os)) (Zbl m) 0 (m+1)).toList.map (fun x=>x.val)
theorem ZmN(m blk ob q qc n:Nat)(vs:List Value)(Os:List (List Bool))(w:World)(hOl:Os.length=m+1)(hO:YV w (.slice (some ⟨q,0,none⟩) Os.length qc) vs Os)(hl:∀O∈Os,O.length=n)(hn:n<=200)(hb:w.heap[ob]? =some (.cells #[.slice (some ⟨q,0,none⟩) Os.length qc] 309 (0,0)))(hblk:∃cur,w.heap[blk]? =some (.cells cur 3 (0,0))):CmpReads (α:=Fin (m+1)) Tryz.prog 295 #[.pointer (some ⟨ob,0,none⟩)] ZcF (ZcD Os) blk 0 (m+1) w:=by
 intro mm os dk _ x y;have t:=Zkt (ZcF (m:=m+1)) w blk 0 mm dk os;obtain⟨cur,hcur⟩:=hblk;refine Zlr ob q qc n x.val y.val vs Os _ (hO.touch t ?_) hl hn ?_ (by have:=x.isLt;omega) (by have:=y.isLt;omega)
 ·rintro k c ty hk hty rfl;rw[hcur] at hk;simp at hk
  rcases hty with e|e<;>rw[e] at hk<;>simp at hk
 have:=t.at_ hb (fun e=>by rw[e,hcur] at hb;simp at hb);exact cell_of_row _ _ 0 _ 309 (0,0) this
theorem Zk2{α:Type}[Inhabited α](lt:α->α->Bool)(h:SWO lt)(d:Array α)(n:Nat)(hd:d.size=n):(Sort.insertionSort lt d 0 n).size=n:=by have:=(Sort.insertionSort_holds (lt:=lt) h d 0 n (Qg _) (by omega)).1;obtain⟨h1,_⟩:=this;omega
theorem ltF{m:Nat}(Os:List (List Bool))(x y:Fin m):ltOf (ZcD Os) x y=decide (Yb (Os.getD y.val [])<Yb (Os.getD x.val [])):=by
 unfold ltOf ZcD Lib.compareInt;generalize Yb (Os.getD y.val [])=a;generalize Yb (Os.getD x.val [])=b
 by_cases h1:a<b
 simp[h1]
 by_cases h3:b<a<;>simp[h1,h3]
theorem Zo4{m:Nat}(Os:List (List Bool)):SWO (ltOf (ZcD (m:=m) Os)) where
 irrefl x:=by rw[ltF];simp
 trans x y z h1 h2:=by rw[ltF] at *;simp at *;omega
 ntrans x y z h1 h2:=by rw[ltF] at *;simp at *;omega
theorem Zcs(m:Nat):(Zbl m).size=m+1:=by simp[Zbl]
theorem ZiU(m:Nat)(Os:List (List Bool)):(ZbE m Os).length=m+1:=by unfold ZbE;rw[List.length_map,Array.length_toList,Zk2 _ (Zo4 Os) _ _ (Zcs m)]
theorem Zk9(m:Nat)(Os:List (List Bool)):∀f∈ZbE m Os,f<m+1:=by intro f hf;unfold ZbE at hf;obtain⟨x,_,rfl⟩:=List.mem_map.1 hf;exact x.isLt
theorem Zdd(m q qc n:Nat)(vs:List Value)(Os:List (List Bool))(w:World)(hm:m+1<=4)(hOl:Os.length=m+1)(hO:YV w (.slice (some ⟨q,0,none⟩) (m+1) qc) vs Os)(hl:∀O∈Os,O.length=n)(hn:n<=200):Calls Tryz.prog 254 #[.slice (some ⟨q,0,none⟩) (m+1) qc] w fun e w'=>∃v,e=.returned v/\Ze w' w.heap.size v (ZP (ZbE m Os))/\Below w.heap.size w w':=by
 have HO:Hid (YV w (.slice (some ⟨q,0,none⟩) (m+1) qc) vs Os/\Os.length=m+1/\∀O∈Os,O.length=n):=⟨hO,hOl,hl⟩;have hmk:=Zcx (m+1) (by omega);have hmk2:∀W:World,(Instr.makeSlice 25 (.int .i64 ((m:Int)+1)) (.int .i64 ((m:Int)+1))).run Tryz.prog W=.ok (.slice (some ⟨W.heap.size,0,none⟩) (m+1) (m+1)) (W.alloc (.cells (madeCells #[.int .i64 0] (m+1)) 3)):=hmk;clear hO hOl hl hmk;go_enter Tryz.func254,Tryz.ntmps254;go_wp2_with fail
 go_loopw [10] (fun ti wr=>∃k:Nat,ti=.int .i64 k/\k<=m+1/\Hid (Ze wr (w.heap.size+1) (.slice (some ⟨w.heap.size+1,0,none⟩) (m+1) (m+1)) (Qq (fun i=>(i:Int)) (m+1) k))/\Hid (Below (w.heap.size+1) (w.alloc (.cells #[.slice (some ⟨q,0,none⟩) (m+1) qc] 309)) wr)) (fun ti _=>m+1-(intOf ti).toNat)
 case atStart=>
  refine⟨0,rfl,Qg _,?_,?_⟩
  ·rw[Ze6];have:=Zcw (m+1) (w.alloc (.cells #[.slice (some ⟨q,0,none⟩) (m+1) qc] 309)) (w.heap.size+1) (by omega) (by simp);show Ze _ _ _ _
   simpa using this
  exact(Below.refl _ _).alloc (by simp) _
 case round=>
  clear hmk2;obtain⟨k,rfl,hk,HI,HB⟩:=hrel;have hsz:=HB.out.size;simp at hsz
  by_cases hkm:k<m+1
  ·have hfl:=ZdR (fun i=>(i:Int)) (show k<=m+1 by omega);have HSET:Hid ((Qq (fun i=>(i:Int)) (m+1) k).set k (k:Int)=Qq (fun i=>(i:Int)) (m+1) (k+1)):=Zgw (fun i=>(i:Int)) hkm;have HFL:Hid (m+1=(Qq (fun i=>(i:Int)) (m+1) k).length):=hfl.symm;obtain⟨cf1,cf2⟩:=HI.out.cellK hfl.symm hkm;clear hfl;generalize Qq (fun i=>(i:Int)) (m+1) k=F at *;generalize F.getD k 0=z0 at *;have bk1:(0:Int)<=(k:Int):=(by omega);have bk2:(k:Int)<(m:Int)+1:=(by omega);go_wp2;go_roundw
   case rel=>
    refine⟨k+1,by go_num,by omega,?_,?_⟩;rw[<- HSET.out];exact(HI.out.put HFL.out _).1;exact HB.out.setCell (Qa _) _
   case measure=>simp[intOf];omega
  have hnk:¬(k:Int)<(m:Int)+1:=(by omega);have hbx:wr.heap[w.heap.size]? =some (.cells #[.slice (some ⟨q,0,none⟩) (m+1) qc] 309 (0,0)):=(HB.out.block w.heap.size (by omega)).trans (heap_alloc_new _ _);have hbw:Below w.heap.size w wr:=((Below.refl _ _).alloc (Qa _) _).trans (HB.out.mono (by omega));have hI:Ze wr (w.heap.size+1) (.slice (some ⟨w.heap.size+1,0,none⟩) (m+1) (m+1)) (Qq (fun i=>(i:Int)) (m+1) (m+1)):=(by have:k=m+1:=(by omega);subst this;exact HI.out);have hfl:=ZdR (fun i=>(i:Int)) (Qa (m+1));have hH:Holds ZcF wr (w.heap.size+1) 0 (Zbl m):=by intro j hj;rw[Zcs] at hj;rw[Nat.zero_add];obtain⟨p1,p2⟩:=hI.cellK hfl.symm hj;refine⟨?_,p2⟩;rw[p1,Ze5];have:(Zbl m)[j]! =⟨j,hj⟩:=(by simp[Zbl,hj]);rw[this];simp[ZcF,List.getD,hj]
  have hOw:YV wr (.slice (some ⟨q,0,none⟩) Os.length qc) vs Os:=by rw[HO.out.2.1];exact HO.out.1.below hbw
  have hcm:=ZmN m (w.heap.size+1) w.heap.size q qc n vs Os wr HO.out.2.1 hOw HO.out.2.2 hn (by rw[HO.out.2.1];exact hbx) (by
   obtain⟨cur,hc⟩:=Zf hI (k:=w.heap.size+1) rfl
   exact⟨cur,hc⟩)
  have HST:Hid (Calls Tryz.prog 294 #[.slice (some ⟨w.heap.size+1,0,none⟩) (m+1) (m+1),.func (.func 295) #[] #[.pointer (some ⟨w.heap.size,0,none⟩)]] wr fun e w'=>e=.returned (.tuple #[])/\Ze w' w.heap.size (.slice (some ⟨w.heap.size+1,0,none⟩) (m+1) (m+1)) (ZP (ZbE m Os))/\Below w.heap.size w w'):=by
   refine(Zkl m (w.heap.size+1) (m+1) w.heap.size (Zbl m) wr hm (Zcs m) Os hcm hH).mono ?_;rintro e w' ⟨rfl,d,rfl⟩;have hp:=Zj9 (D:=Sort.insertionSort (ltOf (ZcD (m:=m+1) Os)) (Zbl m) 0 (m+1)) hI hfl (Zk2 _ (Zo4 Os) _ _ (Zcs m));have ht:=Zmn (ZcF (m:=m+1)) wr (w.heap.size+1) 0 (Sort.insertionSort (ltOf (ZcD (m:=m+1) Os)) (Zbl m) 0 (m+1));refine⟨rfl,?_,?_⟩;have e:ZP (ZbE m Os)=(Sort.insertionSort (ltOf (ZcD (m:=m+1) Os)) (Zbl m) 0 (m+1)).toList.map (fun x=>((x.val:Nat):Int)):=(by simp[ZP,ZbE]);rw[e];exact(Ze.below (Ze.mono hp (by omega)) (below_drewN (Below.refl _ _) d))
   refine below_drewN ?_ d;exact⟨ht.os.trans hbw.os,ht.tape.trans hbw.tape,ht.output.trans hbw.output,Nat.le_trans hbw.size ht.size,fun k hk=>(ht.block k (by omega) (by omega)).trans (hbw.block k hk)⟩
  clear hbx hbw hI hfl hH hOw hcm HI HB;go_wp2_with fail
  refine HST.out.mono ?_;rintro e w2 ⟨rfl,ho,hb⟩;have HF:Hid (Ze w2 w.heap.size (.slice (some ⟨w.heap.size+1,0,none⟩) (m+1) (m+1)) (ZP (ZbE m Os))/\Below w.heap.size w w2):=⟨ho,hb⟩;clear ho hb;go_wp2;go_ret;exact⟨_,rfl,HF.out.1,HF.out.2⟩
end Go.Proofs.YtfcgnpchbcmdeaaGreat
namespace Go.Proofs.YtfcgnpchbcmdeaaGreat
set_option linter.unusedSimpArgs false
set_option maxRecDepth 100000
set_option maxHeartbeats 4000000
open Go.RowKit
structure KS where
 e:ES
 d:Nat
def ZK:KS:=⟨⟨false,[],[]⟩,0⟩
def KS.many(k:KS):Nat:=k.e.cnt+2
def QS(k:KS)(v:Value×Value):List Value:=[.bool k.e.wd,v.1,v.2,.int .i64 (k.d:Nat)]
def Qu:List KS->List (Value×Value)->List Value
 |[],_=>[]
 |_::_,[]=>[]
 |k::Ks,v::vs=>QS k v++Qu Ks vs
def vv0:Value×Value:=(.slice none 0 0,.slice none 0 0)
theorem Zfb:∀(Ks:List KS) (vs:List (Value×Value)),vs.length=Ks.length->∀i,i<Ks.length->∀c,c<4->(Qu Ks vs)[i*4+c]? =(QS (Ks.getD i ZK) (vs.getD i vv0))[c]?
 |[],_,_,i,h=>by simp at h
 |k::Ks,[],h,_,_=>by simp at h
 |k::Ks,v::vs,_,0,_=>fun c hc=>by simp only[Qu];rw[show 0*4+c=c by omega,List.getElem?_append_left (by simpa [QS] using hc)];rfl
 |k::Ks,v::vs,h,i+1,hi=>fun c hc=>by simp only[Qu];rw[List.getElem?_append_right (by simp[QS];omega),show(i+1)*4+c-(QS k v).length=i*4+c by simp[QS];omega];exact Zfb Ks vs (by simpa using h) i (by simpa using hi) c hc
structure Zas(w:World)(vK:Value)(vs:List (Value×Value))(Ks:List KS):Prop where
 row:w.ownsRow 0 172 4 vK Ks.length (Qu Ks vs)
 len:vs.length=Ks.length
 each:∀i,i<Ks.length->Ze w 0 (vs.getD i vv0).1 (Ks.getD i ZK).e.bs/\ZR w 0 (vs.getD i vv0).2 (Ks.getD i ZK).e.ww
theorem Zas.touch{S:Nat->Prop}{w w':World}{vK:Value}{vs:List (Value×Value)}{Ks:List KS}(h:Zas w vK vs Ks)(t:Za S w w')(hs:∀k cur ty,w.heap[k]? =some (.cells cur ty (0,0))->ty=172∨ty=3∨ty=9->¬S k):Zas w' vK vs Ks:=
 ⟨t.row h.row (fun k hk=>by obtain⟨cur,hc⟩:=Zf h.row hk;exact hs k _ _ hc (.inl rfl)),h.len,fun i hi=>⟨t.row (h.each i hi).1 (fun k hk=>by obtain⟨cur,hc⟩:=Zf (h.each i hi).1 hk;exact hs k _ _ hc (.inr (.inl rfl))),t.row (h.each i hi).2 (fun k hk=>by obtain⟨cur,hc⟩:=Zf (h.each i hi).2 hk;exact hs k _ _ hc (.inr (.inr rfl)))⟩⟩
theorem Zas.below{w w':World}{vK:Value}{vs:List (Value×Value)}{Ks:List KS}(h:Zas w vK vs Ks)(hb:Below w.heap.size w w'):Zas w' vK vs Ks:=
 ⟨(Za.of_below (S:=fun _=>False) hb).row h.row (fun _ _=>id),h.len,fun i hi=>⟨(h.each i hi).1.below hb,(h.each i hi).2.below hb⟩⟩
theorem Zas.at{w:World}{vK:Value}{vs:List (Value×Value)}{Ks:List KS}(h:Zas w vK vs Ks){i:Nat}(hi:i<Ks.length):∃q c ab cb aw cw,vK=.slice (some ⟨q,0,none⟩) Ks.length c/\q<w.heap.size/\w.cell? ⟨q,i*4,none⟩=some (.bool (Ks.getD i ZK).e.wd)/\w.cell? ⟨q,i*4+1,none⟩=some (.slice ab (Ks.getD i ZK).e.bs.length cb)/\w.cell? ⟨q,i*4+2,none⟩=some (.slice aw (Ks.getD i ZK).e.ww.length cw)/\w.cell? ⟨q,i*4+3,none⟩=some (.int .i64 ((Ks.getD i ZK).d:Nat))/\Ze w 0 (.slice ab (Ks.getD i ZK).e.bs.length cb) (Ks.getD i ZK).e.bs/\ZR w 0 (.slice aw (Ks.getD i ZK).e.ww.length cw) (Ks.getD i ZK).e.ww:=by
 have hr:=h.row
 rcases h.row.2 with⟨_,h0⟩|⟨g,cap,cur,e,hb,hh,hnc,_⟩
 omega;subst e;obtain⟨e1,e2⟩:=h.each i hi;obtain⟨ab,cb,hab⟩:=e1.shape;obtain⟨aw,cw,haw⟩:=e2.form;rw[hab] at e1;rw[haw] at e2
 have key:∀c u,c<4->(QS (Ks.getD i ZK) (vs.getD i vv0))[c]? =some u->w.cell? ⟨g,i*4+c,none⟩=some u:=fun c u hc hu=>by rw[World.ownsRow.cellAt hr (i*4+c) (by omega)];exact(Zfb Ks vs h.len i hi c hc).trans hu
 refine⟨g,cap,ab,cb,aw,cw,rfl,(Qb hh).1,key 0 _ (by omega) rfl,?_,?_,key 3 _ (by omega) rfl,e1,e2⟩;rw[<- hab];exact key 1 _ (by omega) rfl;rw[<- haw];exact key 2 _ (by omega) rfl
structure QJ(w:World)(base:Nat)(vG:Value)(gbs:List Nat)(Ks:Nat->Nat->Prop)(Gs:List GS):Prop where
 x:ZcJ w vG gbs Ks Gs
 rk:∀i,i<Gs.length->∀k,vG.ownBlock=some k->¬Ks i k
 rb:∀k,vG.ownBlock=some k->base<=k
 kb:∀i,i<Gs.length->∀k,Ks i k->base<=k
theorem ZcJ.touch{S:Nat->Prop}{w w':World}{vG:Value}{gbs:List Nat}{Ks:Nat->Nat->Prop}{Gs:List GS}(h:ZcJ w vG gbs Ks Gs)(t:Za S w w')(hr:∀k,vG.ownBlock=some k->¬S k)(hs:∀i,i<Gs.length->∀k,Ks i k->¬S k):ZcJ w' vG gbs Ks Gs:=
 ⟨t.row h.row hr,h.len,fun i hi=>(h.each i hi).touch t (hs i hi),h.apart⟩
theorem QJ.touch{S:Nat->Prop}{w w':World}{base:Nat}{vG:Value}{gbs:List Nat}{Ks:Nat->Nat->Prop}{Gs:List GS}(h:QJ w base vG gbs Ks Gs)(t:Za S w w')(hs:∀k,base<=k->¬S k):QJ w' base vG gbs Ks Gs:=
 ⟨h.x.touch t (fun k hk=>hs k (h.rb k hk)) (fun i hi k hk=>hs k (h.kb i hi k hk)),h.rk,h.rb,h.kb⟩
theorem QJ.put{w w':World}{base i:Nat}{vG:Value}{gbs:List Nat}{Ks:Nat->Nat->Prop}{Gs:List GS}{K':Nat->Prop}{G':GS}(h:QJ w base vG gbs Ks Gs)(hi:i<Gs.length)(t:Za (Ks i) w w')(hg:ZeS w' K' (gbs.getD i 0) G')(hk:∀k,K' k->Ks i k∨w.heap.size<=k)(hbase:base<=w.heap.size):QJ w' base vG gbs (fun j=>if j=i then K' else Ks j) (Gs.set i G'):=by
 have hlt:∀j,j<Gs.length->∀k,Ks j k->k<w.heap.size:=fun j hj k hk=>by obtain⟨vf,vo,hG⟩:=h.x.each j hj;exact hG.kl k hk
 refine⟨⟨?_,?_,fun j hj=>?_,fun a b ha hb hab k=>?_⟩,fun j hj k hrk=>?_,h.rb,fun j hj k=>?_⟩;rw[List.length_set];exact t.row h.x.row (fun k hk=>h.rk i hi k hk);rw[List.length_set];exact h.x.len
 ·rw[List.length_set] at hj
  by_cases e:j=i
  subst e;simp only[if_true];have:(Gs.set j G').getD j g0S=G':=(by simp[List.getD,hj]);rw[this];exact hg;simp only[if_neg e];have:(Gs.set i G').getD j g0S=Gs.getD j g0S:=(by simp[List.getD,Ne.symm e]);rw[this];exact(h.x.each j hj).touch t (fun k hk=>h.x.apart j i hj hi e k hk)
 ·rw[List.length_set] at ha hb
  by_cases ea:a=i
  ·have eb:b≠i:=fun e=>hab (ea.trans e.symm);simp only[if_pos ea,if_neg eb];intro h1 h2
   rcases hk k h1 with h3|h3
   exact h.x.apart i b hi hb (fun e=>eb e.symm) k h3 h2;have:=hlt b hb k h2;omega
  by_cases eb:b=i
  ·simp only[if_neg ea,if_pos eb];intro h1 h2
   rcases hk k h2 with h3|h3
   exact h.x.apart a i ha hi ea k h1 h3;have:=hlt a ha k h1;omega
  simp only[if_neg ea,if_neg eb];exact h.x.apart a b ha hb hab k
 ·rw[List.length_set] at hj
  by_cases e:j=i
  ·simp only[if_pos e];intro h1
   rcases hk k h1 with h3|h3
   exact h.rk i hi k hrk h3;have:=(World.ownsRow.lt h.x.row k hrk).2;omega
  simp only[if_neg e];exact h.rk j hj k hrk
 rw[List.length_set] at hj
 by_cases e:j=i
 ·simp only[if_pos e];intro h1
  rcases hk k h1 with h3|h3
  exact h.kb i hi k h3;omega
 simp only[if_neg e];exact h.kb j hj k
theorem QJ.snoc{w w':World}{base gb:Nat}{vG vG':Value}{gbs:List Nat}{Ks:Nat->Nat->Prop}{Gs:List GS}{K':Nat->Prop}{G':GS}(h:QJ w base vG gbs Ks Gs)(hr:w'.ownsRow 0 313 1 vG' (Gs.length+1) (gbs.map ZfD++[ZfD gb]))(hg:w.grownBy w' vG.ownBlock)(hd:vG'.ownBlock=vG.ownBlock∨∃N,vG'.ownBlock=some N/\w.heap.size<=N)(hG:ZeS w K' gb G')(hk:∀i,i<Gs.length->∀k,Ks i k->¬K' k)(hkr:∀k,vG.ownBlock=some k->¬K' k)(hkb:∀k,K' k->base<=k)(hbase:base<=w.heap.size):QJ w' base vG' (gbs++[gb]) (fun j=>if j=Gs.length then K' else Ks j) (Gs++[G']):=by
 have hlt:∀j,j<Gs.length->∀k,Ks j k->k<w.heap.size:=fun j hj k hk=>by obtain⟨vf,vo,hG⟩:=h.x.each j hj;exact hG.kl k hk
 have hltK:∀k,K' k->k<w.heap.size:=fun k hk=>by obtain⟨vf,vo,hG⟩:=hG;exact hG.kl k hk
 have t:Za (fun k=>vG.ownBlock=some k) w w':=(Za.refl _ w).grown hg (fun k hk _=>hk);have hlen:=h.x.len;refine⟨⟨?_,?_,fun j hj=>?_,fun a b ha hb hab k=>?_⟩,fun j hj k hrk=>?_,fun k hrk=>?_,fun j hj k=>?_⟩;rw[Qe,List.map_append];exact hr;simp[hlen]
 ·rw[Qe] at hj;simp at hj
  by_cases e:j=Gs.length
  subst e;simp only[if_true];have e1:(Gs++[G']).getD Gs.length g0S=G':=(by simp[List.getD]);have e2:(gbs++[gb]).getD Gs.length 0=gb:=(by simp[List.getD,<- hlen]);rw[e1,e2];exact hG.touch t (fun k hk hr=>hkr k hr hk);have hj2:j<Gs.length:=(by omega);simp only[if_neg e];have e1:(Gs++[G']).getD j g0S=Gs.getD j g0S:=(by simp[List.getD,List.getElem?_append_left hj2]);have e2:(gbs++[gb]).getD j 0=gbs.getD j 0:=(by simp[List.getD,List.getElem?_append_left (show j<gbs.length by omega)]);rw[e1,e2];exact(h.x.each j hj2).touch t (fun k hk hr=>h.rk j hj2 k hr hk)
 ·rw[Qe] at ha hb;simp at ha hb
  by_cases ea:a=Gs.length
  have eb:b≠Gs.length:=fun e=>hab (ea.trans e.symm);simp only[if_pos ea,if_neg eb];intro h1 h2;exact hk b (by omega) k h2 h1
  by_cases eb:b=Gs.length
  simp only[if_neg ea,if_pos eb];intro h1 h2;exact hk a (by omega) k h1 h2;simp only[if_neg ea,if_neg eb];exact h.x.apart a b (by omega) (by omega) hab k
 ·rw[Qe] at hj;simp at hj
  rcases hd with e1|⟨N,e1,e2⟩
  ·rw[e1] at hrk
   by_cases e:j=Gs.length
   simp only[if_pos e];exact hkr k hrk;simp only[if_neg e];exact h.rk j (by omega) k hrk
  rw[e1] at hrk;injection hrk with hrk;subst hrk
  by_cases e:j=Gs.length
  simp only[if_pos e];intro h1;have:=hltK _ h1;omega;simp only[if_neg e];intro h1;have:=hlt j (by omega) _ h1;omega
 ·rcases hd with e1|⟨N,e1,e2⟩
  rw[e1] at hrk;exact h.rb k hrk;rw[e1] at hrk;injection hrk with hrk;omega
 rw[Qe] at hj;simp at hj
 by_cases e:j=Gs.length
 simp only[if_pos e];exact hkb k;simp only[if_neg e];exact h.kb j (by omega) k
end Go.Proofs.YtfcgnpchbcmdeaaGreat
