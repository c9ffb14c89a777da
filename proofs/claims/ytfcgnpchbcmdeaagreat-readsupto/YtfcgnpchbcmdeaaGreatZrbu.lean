import Derived.Test.YtfcgnpchbcmdeaaGreatZrau
import Derived.Test.YtfcgnpchbcmdeaaGreatZrbt
namespace Go.Proofs.YtfcgnpchbcmdeaaGreat
set_option linter.all false
open Go.ChangeShapes Go.WideShapes Go.ChangeAt Go.RowKit
open Go.Deep
section
variable {H:Type} {enc:TypeId×Value->H} {w:World} {held:Bool}
def Zla{n d x}(h:DataW.trod enc Tryz.prog w 0 (λ_=>true) held n 35 d=some x){a b c}(e:d=[.slice a b c]):b<=Rows.uptoBulk x.1:=by
 rcases open_slice Tryz.underlying35 h with⟨e2,_⟩|⟨a',len',cap',m,k,D,Pl,e2,_,hl,hm,hmm,hxx,hx⟩
 ·grind
 rw[e] at e2;simp at e2;obtain⟨_,rfl,_⟩:=e2;rw[hxx];simp only[Rows.uptoBulk];have:=fj ((List.range b).map D)
 grind
def Zkm{n cs x}(h:DataW.trod enc Tryz.prog w 0 (λ_=>true) held n 93 cs=some x):∃d:OpD,cs=[I_ d.kd,I_ d.pk,I_ d.bb,.slice d.fa d.fl d.fc,I_ d.bins,I_ d.size,I_ d.budget,.slice d.va d.vl d.vc,.slice d.wa d.wl d.wc,.string d.st,I_ d.x,I_ d.y]/\OpR w d/\d.fl<=Rows.uptoBulk x.1/\d.st.size<=Rows.uptoBulk x.1:=by
 obtain⟨d,hd,hr⟩:=Zlr h;refine⟨d,hd,hr,?_⟩;obtain⟨xs,m,_,hxx,hl,hlen,hf⟩:=DataW.trod_struct Tryz.underlying93 h;obtain⟨x0,x1,x2,x3,x4,x5,x6,x7,x8,rfl⟩:=ZkN hlen;have g3:=hf 3 ⟨ "C",37,3,false, "", "",24⟩ rfl;have g6:=hf 6 ⟨ "S",9,9,false, "", "",120⟩ rfl;rw[hd] at g3 g6;simp only[Zee,Zhe,List.drop_zero,List.drop_succ_cons,List.take_succ_cons,List.take_zero,List.getElem?_cons_zero,List.getElem?_cons_succ] at g3 g6;obtain⟨s,e1,e2,_⟩:=DataW.trod_string Tryz.underlying9 g6;obtain⟨ys,m',_,hyy,_,hlen',hf'⟩:=DataW.trod_struct Tryz.underlying37 g3;obtain⟨y0,y1,y2,y3,rfl⟩:=ZkM hlen';have k0:=hf' 0 ⟨ "Features",35,0,false, "", "",0⟩ rfl;simp only[Zed,List.drop_zero,List.take_succ_cons,List.take_zero,List.getElem?_cons_zero] at k0;have b0:=Zla k0 rfl;simp at e1;subst e1
 have b3:Rows.uptoBulk y0.1<=Rows.uptoBulk x3.1:=(by grind [Rows.uptoBulk,Rows.uptoBulkAll]);have b6:d.st.size<=Rows.uptoBulk x6.1:=(by rw[e2];simp only[Rows.uptoBulk];show d.st.data.size<=d.st.data.toList.length+1;grind);rw[hxx];simp only[Rows.uptoBulk,Rows.uptoBulkAll,List.map_cons,List.map_nil];omega
def Zbu{n z x}(h:DataW.trod enc Tryz.prog w 0 (λ_=>true) held n 22 z=some x)(B:Rows.uptoBulk x.1<=1048576):∃a len cap D,z=[.slice a len cap]/\az w a len D/\vq len D:=by
 have inh:Inhabited OpD:=⟨⟨0,0,0,none,0,0,0,0,0,none,0,0,none,0,0,⟨#[]⟩,0,0,λ_=>false,λ_=>0,λ_=>0,[],[]⟩⟩
 rcases open_slice Tryz.underlying22 h with⟨rfl,_⟩|⟨a,len,cap,m,k,D,Pl,rfl,_,hl,hm,hmm,hxx,hx⟩
 exact⟨none,0,0,λ_=>default,rfl,⟨o_,Or.inl rfl⟩,⟨o_,λi c=>o_,λi c=>o_⟩⟩;simp only[if_true] at hmm;subst hmm;rw[Zeg] at hx;have t:∀i,i<m->∃d:OpD,((∀j,j<12->w.cell? (a.add (i*12+j))=([I_ d.kd,I_ d.pk,I_ d.bb,.slice d.fa d.fl d.fc,I_ d.bins,I_ d.size,I_ d.budget,.slice d.va d.vl d.vc,.slice d.wa d.wl d.wc,.string d.st,I_ d.x,I_ d.y]:List Value)[j]?)/\OpR w d)/\d.fl<=Rows.uptoBulk (D i)/\d.st.size<=Rows.uptoBulk (D i):=(by intro i c;obtain⟨C,H,E⟩:=hx i c;obtain⟨d,rfl,F,v,r⟩:=Zkm E;obtain⟨_,_,G⟩:=World.cells?_some H;exact⟨d,⟨λj hj=>by have:=G j hj;rwa [add_add] at this,F⟩,v,r⟩);obtain⟨f,q⟩:=choose_lt t;have e:Rows.uptoBulkAll ((List.range len).map D)<=1048576:=by grind [Rows.uptoBulk]
 have o:=fj ((List.range len).map D);simp at o;have s:=λi c=>Nat.le_trans (Zaz _ _ (List.mem_map.2 ⟨i,by simpa using c,rfl⟩)) e;refine⟨some a,len,m,f,rfl,⟨o_,?_⟩,⟨o_,λi c=>?_,λi c=>?_⟩⟩
 ·by_cases h0:len=0
  exact Or.inl h0;right;obtain⟨b,u,p⟩:=a;have A:w.cell? _=some _:=(q 0 o_).1.1 0 o_
  have l:p=none:=by simpa [Addr.add] using World.cell?_spot A
  subst l;simp only[add_plain] at q;refine⟨b,u,rfl,xe A,λi c=>⟨?_,(q i o_).1.2⟩⟩;have g:=(q i o_).1.1;exact⟨g 0 o_,g 1 o_,g 2 o_,g 3 o_,g 4 o_,g 5 o_,g 6 o_,g 7 o_,g 8 o_,g 9 o_,g 10 o_,g 11 o_⟩
 ·grind
 grind
end
end Go.Proofs.YtfcgnpchbcmdeaaGreat
