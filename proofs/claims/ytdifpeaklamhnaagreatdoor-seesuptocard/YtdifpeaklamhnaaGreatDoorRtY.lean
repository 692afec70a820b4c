import Derived.Test.YtdifpeaklamhnaaGreatDoorRtWZ
set_option linter.unusedVariables false
set_option linter.unusedSimpArgs false
set_option maxRecDepth 100000
set_option maxHeartbeats 0
namespace Go.Proofs.YtdifpeaklamhnaaGreatDoor
open Go.Proofs.Tryz
open Go.RowKit
def jw:Bs:=[114,111,119]
def Ho(cs:List dL):List Value:=cs.map λc=>Value.string (aa (dO jw c).1)
def SB(cs:List dL):List Value:=cs.map λc=>Value.int .u8 (mO (fH c))
def NI(W4:World)(O:Nat)(cs:List dL)(fv:Value)(i:Nat)(wr:World):Prop:=∃(a1:Option Addr) (n1 c1:Nat) (a2:Option Addr) (n2 c2:Nat),wr.heap[O]? =some (.cells #[.slice a1 n1 c1,.slice a2 n2 c2,.string ⟨#[]⟩,fv] 214 (0,0))/\wr.ownsRow (O+1) 9 1 (.slice a1 n1 c1) i (Ho (cs.take i))/\wr.ownsRow (O+1) 5 1 (.slice a2 n2 c2) i (SB (cs.take i))/\Below O W4 wr
theorem KJ(l:Bs):ByteArray.mk #[114,111,119,46]++aa l=aa (jw++ [46]++l):=NJ [114,111,119,46] l
theorem rG{w:World}{b:Nat}{T:TypeId}{a:Option Addr}{n c len:Nat}{k:List Value}(own:w.ownsRow b T 1 (.slice a n c) len k):n=len/\len<=c/\(len=0\/∃g,a=some ⟨g,0,none⟩/\b<=g/\g<w.heap.size/\∀(i:Nat) (u:Value),k[i]? =some u->w.cell? ⟨g,i,none⟩=some u):=by
 have f:=own.1;rcases own.2 with⟨h,e⟩|⟨g,cap,l,h,hb,m,d,_⟩
 ·cases h;exact⟨e.symm,by omega,.inl e⟩
 ·cases h;refine⟨rfl,d,.inr ⟨g,rfl,hb,ai m,λi u j=> ?_⟩⟩;have o:=(List.getElem?_eq_some_iff.mp j).1;exact(own.cellAt i (by omega)).trans j
theorem Gm(w:World)(s:Option Addr)(a r:Nat)(b2:List RF)(hF:jk w (.slice s a r) b2)(t:aJ)(co:Option Addr)(cn cc:Nat)(ro:Option Addr)(rn rc:Nat)(uo:Option Addr)(un uc:Nat)(hC:dM w (.slice co cn cc) t.ax)(hT:bG t.ax=true):
  Calls prog 121 #[.agg #[.slice none 0 0,.slice none 0 0,.string ⟨#[]⟩,.slice s a r],.string ⟨#[114,111,119]⟩,.agg #[.string (aa t.name),.slice co cn cc,.slice ro rn rc,.int .i64 t.count,.string (aa t.aD),.slice uo un uc]] w λe w'=>∃b9 b8 F e3 e2 e1,e=.returned (.agg #[.slice b9 b8 F,.slice e3 e2 e1,.string ⟨#[]⟩,.slice s a r])/\nN w' b9 b8 F e3 e2 e1 (.slice s a r) (t.ax.map (dO jw)) b2/\Below w.heap.size w w':=by
 obtain⟨i1,h7,g1,g2,g3⟩:=info_parts ER;obtain⟨i2,h8,g4,g5,g6⟩:=info_parts TA;have O:=gZ t.ax [] (by unfold bG at hT;rw[Bool.and_eq_true]at hT;exact hT.2);have i3:=(sM hT).2;have j2:t.ax.length<=4:=by
  unfold bG at hT;rw[Bool.and_eq_true,Bool.not_eq_true',Bool.or_eq_false_iff,decide_eq_false_iff_not,decide_eq_false_iff_not]at hT;omega
 obtain⟨ao,cap,he,i9,i0,hz⟩:=hC
 cases he;obtain⟨W4,hW⟩:∃W,W=((((w.alloc (.cells #[.slice none 0 0,.slice none 0 0,.string ⟨#[]⟩,.slice s a r] 214)).alloc (.cells #[.string (aa t.name),.slice co t.ax.length cc,.slice ro rn rc,.int .i64 t.count,.string (aa t.aD),.slice uo un uc] 54)).alloc (.cells #[.slice none 0 0,.slice none 0 0,.string ⟨#[]⟩,.slice none 0 0] 214)).alloc (.cells #[.slice none 0 0,.slice none 0 0,.string ⟨#[]⟩,.slice s a r] 214)):=⟨_,rfl⟩;have V:Hid (((((w.alloc (.cells #[.slice none 0 0,.slice none 0 0,.string ⟨#[]⟩,.slice s a r] 214)).alloc (.cells #[.string (aa t.name),.slice co t.ax.length cc,.slice ro rn rc,.int .i64 t.count,.string (aa t.aD),.slice uo un uc] 54)).alloc (.cells #[.slice none 0 0,.slice none 0 0,.string ⟨#[]⟩,.slice none 0 0] 214)).alloc (.cells #[.slice none 0 0,.slice none 0 0,.string ⟨#[]⟩,.slice s a r] 214))=W4):=hW.symm;have h3:=fP (w:=w) (o:=(.cells #[.slice none 0 0,.slice none 0 0,.string ⟨#[]⟩,.slice s a r] 214)) (o':=(.cells #[.string (aa t.name),.slice co t.ax.length cc,.slice ro rn rc,.int .i64 t.count,.string (aa t.aD),.slice uo un uc] 54)) (o2:=(.cells #[.slice none 0 0,.slice none 0 0,.string ⟨#[]⟩,.slice none 0 0] 214)) (ae _ (.cells #[.slice none 0 0,.slice none 0 0,.string ⟨#[]⟩,.slice s a r] 214));rw[<-hW]at h3;have e8:W4.heap[w.heap.size+3]? =some (.cells #[.slice none 0 0,.slice none 0 0,.string ⟨#[]⟩,.slice s a r] 214 (0,0)):=by
  rw[hW];have:=heap_alloc_new (((w.alloc (.cells #[.slice none 0 0,.slice none 0 0,.string ⟨#[]⟩,.slice s a r] 214)).alloc (.cells #[.string (aa t.name),.slice co t.ax.length cc,.slice ro rn rc,.int .i64 t.count,.string (aa t.aD),.slice uo un uc] 54)).alloc (.cells #[.slice none 0 0,.slice none 0 0,.string ⟨#[]⟩,.slice none 0 0] 214)) (.cells #[.slice none 0 0,.slice none 0 0,.string ⟨#[]⟩,.slice s a r] 214);simp only[World.size_alloc]at this;exact this
 have I0:NI W4 (w.heap.size+3) t.ax (.slice s a r) 0 W4:=⟨none,0,0,none,0,0,e8,World.ownsRow_nil _ _ _ _,World.ownsRow_nil _ _ _ _,Below.refl _ _⟩;have HZ:Hid _:=hz;have e7:Hid _:=O;clear hW hz O i0 hT;go_enter Tryz.func121,Tryz.ntmps121
 go_wp2_with fail
 rw[V.out];clear V;go_loopg [8] t.ax.length (λgk iv wr=>∃i:Nat,gk=t.ax.length- i/\i<=t.ax.length/\iv=.int .i64 i/\NI W4 (w.heap.size+3) t.ax (.slice s a r) i wr)
 case atStart=>exact⟨0,rfl,Nat.zero_le _,rfl,I0⟩
 case round=>
  clear I0;obtain⟨i,h6,hi,rfl,a1,n1,Z,a2,n2,Q,hO,y,B,G⟩:=hrel;subst h6;generalize i5:wr=wo at*;clear i5;have j0:=ai hO;obtain⟨⟨o0,o1,o2,o3⟩,f0,f1,_,_⟩:=bE hO;have c0:=(G.block (w.heap.size+1) (by omega)).trans h3.2.1;have y1:wo.cell? ⟨w.heap.size+1,1,none⟩=some (.slice co t.ax.length cc):=(af c0).trans rfl;have a4:Below w.heap.size w wo:=h3.2.2.2.1.trans (G.mono (by omega));have g0:w.heap.size+1<wo.heap.size:=by omega
  by_cases C:i<t.ax.length
  ·obtain⟨b,A,rfl,hb,hc⟩:∃b A,co=some ⟨b,A,none⟩/\b<w.heap.size/\∀(i:Nat) (c:dL),t.ax[i]? =some c->(w.cell? ⟨b,A+i*3,none⟩=some (.string (aa c.1))/\w.cell? ⟨b,A+i*3+1,none⟩=some (.string (aa c.2.1))/\w.cell? ⟨b,A+i*3+2,none⟩=some (.int .i64 c.2.2))/\c.1.length<=maxLen/\c.2.1.length<=maxLen:=by
    rcases HZ.out with h|h
    ·rw[h]at C;simp at C
    ·exact h
   obtain⟨c,J⟩:∃c,c=t.ax[i]:=⟨_,rfl⟩;obtain⟨⟨p0,p1,_⟩,_⟩:=hc i c (by rw[J];exact List.getElem?_eq_getElem C);have q0:=(a4.cell (p:=⟨b,A+i*3,none⟩) hb).trans p0;have g9:b<wo.heap.size:=by omega
   have c4:c.1.length<=1000:=i3 c (by rw[J];exact List.getElem_mem C);have h2:(aa c.1).size<=1000:=by rw[aF];exact c4
   have a0:=KJ c.1;have b7:Hid (Ho (t.ax.take (i+1))=Ho (t.ax.take i)++ [.string (aa (jw++ [46]++c.1))]):=by
    rw[Hid,List.take_succ_eq_append_getElem C,<-J];simp[Ho,dO]
   have E:∀o:Obj,(wo.alloc o).drew.ownsRow (w.heap.size+3+1) 9 1 (.slice a1 n1 Z) i (Ho (t.ax.take i)):=λo=>World.ownsRow.drew (World.ownsRow.alloc y o);have b4:Hid _:=J;clear hc p0 J;obtain⟨nm,c6⟩:∃x,x=jw++ [46]++c.1:=⟨_,rfl⟩;rw[<-c6]at a0 b7;have b0:(ByteArray.mk #[114,111,119])++(ByteArray.mk #[46])=ByteArray.mk #[114,111,119,46]:=rfl;have h4:¬9223372036854775807<4+(aa c.1).size:=by omega
   have h5:¬9223372036854775807<(ByteArray.mk #[114,111,119,46]).size+(aa c.1).size:=by show¬9223372036854775807<4+(aa c.1).size;omega
   have a5:Hid _:=hO;have a6:Hid _:=y;have b6:Hid _:=B;clear c6 y B hO c4;go_upto_region 7 with fail
   go_cut [7] (λs7 wx=>s7=.pointer (some ⟨w.heap.size+3,0,none⟩)/\∃(a7:Option Addr) (b1 a8:Nat),wx.heap[w.heap.size+3]? =some (.cells #[.slice a7 b1 a8,.slice a2 n2 Q,.string ⟨#[]⟩,.slice s a r] 214 (0,0))/\wx.ownsRow (w.heap.size+3+1) 9 1 (.slice a7 b1 a8) (i+1) (Ho (t.ax.take (i+1)))/\wx.ownsRow (w.heap.size+3+1) 5 1 (.slice a2 n2 Q) i (SB (t.ax.take i))/\Below (w.heap.size+3) W4 wx)
   case first=>
    go_region_law (refine step_append_lies _ rfl (.tmp 34) (.tmp 44) 52 rfl (w.heap.size+3+1) 9 i1 _ 1 16 Tryz.underlying52 h7 g1 g2 g3 rfl (by decide) (.slice a1 n1 Z) i (Ho (t.ax.take i)) (by simp[Act.eval]) (E _) ⟨wo.heap.size,0,none⟩ 1 1 [.string (aa nm)] (by simp[Act.eval]) rfl (World.news_of_block (mh wo _)) (by intro u hu;simp at hu;subst hu;rfl) (by decide) (by unfold maxLen;omega) (by omega) (by simp;omega) (wo.heap.size+1) (by simp) ?_;intro g7 I w7 m f c3 c5;have kO:=(uX (k:=0) a5.out a6.out G f m (.slice none 0 0)).1;have g8:=ai kO;obtain⟨⟨r0,r1,r2,r3⟩,c9,e0,_,_⟩:=bE kO)
    all_goals(go_wp2_with fail;go_meet)
    all_goals
     obtain⟨_,A1,A2,A3,A4⟩:=uX (k:=0) a5.out a6.out G f m (.slice (some ⟨g7,0,none⟩) (i+1) I);exact⟨rfl,_,_,_,A1,by rw[b7.out];exact A2,A4 5 _ _ _ (by decide) b6.out,A3⟩
   case rest=>
    obtain⟨rfl,a7,b1,a8,S,P,D,R⟩:=hcut;clear o0 o1 o2 o3 f0 f1 y1 q0 E c0;generalize i4:wc=w8 at*;clear i4;have i6:=ai S;obtain⟨⟨o0,o1,o2,o3⟩,f0,f1,_,_⟩:=bE S;have b3:Below w.heap.size w w8:=h3.2.2.2.1.trans (R.mono (by omega));have y1:w8.cell? ⟨w.heap.size+1,1,none⟩=some (.slice (some ⟨b,A,none⟩) t.ax.length cc):=(af ((R.block (w.heap.size+1) (by omega)).trans h3.2.1)).trans rfl;have i7:w.heap.size+1<w8.heap.size:=by omega
    have i8:b<w8.heap.size:=by have:=b3.size;omega
    have K:=e7.out c (by rw[b4.out];exact List.getElem_mem C);rw[kY]at K;simp only[Bool.and_eq_true,decide_eq_true_eq]at K;obtain⟨H,T⟩:∃H,c.2.1= [H]:=by
     have:=K.1.1.2.2
     match c.2.1,this with
     | [H],_=>exact⟨H,rfl⟩
    have c7:dP H=true:=by have:=K.1.1.2.1;rw[T]at this;simpa using this
    have c8:mO (fH c)=(H.toNat:Int):=by
     have:fH c=iT H.toNat:=by obtain⟨n,l,d⟩:=c;have:l= [H]:=T;subst this;rfl
     rw[this];exact(kH c7).2
    have e6:Hid (SB (t.ax.take (i+1))=SB (t.ax.take i)++ [.int .u8 (H.toNat:Int)]):=by
     rw[Hid,List.take_succ_eq_append_getElem C,<-b4.out];simp[SB,c8]
    have u1:=(b3.cell (p:=⟨b,A+i*3+1,none⟩) hb).trans p1;rw[T,show aa [H]=⟨#[H]⟩from rfl]at u1;have E:∀o:Obj,(w8.alloc o).drew.ownsRow (w.heap.size+3+1) 5 1 (.slice a2 n2 Q) i (SB (t.ax.take i)):=λo=>World.ownsRow.drew (World.ownsRow.alloc D o);have X:Hid _:=S;have b5:Hid _:=P;have Y:Hid _:=D;clear S P D K c7 c8 T p1 G a5 a6 b6 a4 g0 g9 h2 a0 b0 h4 h5;go_upto_region 8 with fail
    go_region_law (refine step_append_lies _ rfl (.tmp 48) (.tmp 56) 174 rfl (w.heap.size+3+1) 5 i2 _ 1 1 Tryz.underlying174 h8 g4 g5 g6 rfl (by decide) (.slice a2 n2 Q) i (SB (t.ax.take i)) (by simp[Act.eval]) (E _) ⟨w8.heap.size,0,none⟩ 1 1 [.int .u8 (H.toNat:Int)] (by simp[Act.eval]) rfl (World.news_of_block (mh w8 _)) (by intro u hu;simp at hu;subst hu;rfl) (by decide) (by unfold maxLen;omega) (by omega) (by simp;omega) (w8.heap.size+1) (by simp) ?_;intro g7 I w7 m f c3 c5;have kO:=(uX (k:=1) X.out Y.out R f m (.slice none 0 0)).1;have g8:=ai kO;obtain⟨⟨r0,r1,r2,r3⟩,c9,e0,_,_⟩:=bE kO)
    all_goals(go_wp2_with fail)
    all_goals go_roundg (t.ax.length- (i+1))
    all_goals first
     |omega
     |(obtain⟨_,A1,A2,A3,A4⟩:=uX (k:=1) X.out Y.out R f m (.slice (some ⟨g7,0,none⟩) (i+1) I)
       exact⟨i+1,rfl,by omega,by go_num,_,_,_,_,_,_,A1,A4 9 _ _ _ (by decide) b5.out,by rw[e6.out];exact A2,A3⟩)
  ·have h9:i=t.ax.length:=by omega
   subst h9;rw[List.take_length]at y B;have e9:=(G.block (w.heap.size+2) (by omega)).trans h3.2.2.1;obtain⟨⟨r0,r1,r2,r3⟩,c9,e0,j3,j4⟩:=bE e9;have j1:w.heap.size+2<wo.heap.size:=by omega
   obtain⟨rfl,h0,M⟩:=rG y;obtain⟨rfl,h1,N⟩:=rG B;have a3:∀g,g≠w.heap.size+2->((((wo.setCell ⟨w.heap.size+2,0,none⟩ (.slice a1 t.ax.length Z)).setCell ⟨w.heap.size+2,1,none⟩ (.slice a2 t.ax.length Q)).setCell ⟨w.heap.size+2,2,none⟩ (.string ⟨#[]⟩)).setCell ⟨w.heap.size+2,3,none⟩ (.slice s a r)).heap[g]? =wo.heap[g]? :=λg U=>(Below.heap_setCell _ _ _ _ U).trans ((Below.heap_setCell _ _ _ _ U).trans ((Below.heap_setCell _ _ _ _ U).trans (Below.heap_setCell _ _ _ _ U)));have a9:Below w.heap.size w ((((wo.setCell ⟨w.heap.size+2,0,none⟩ (.slice a1 t.ax.length Z)).setCell ⟨w.heap.size+2,1,none⟩ (.slice a2 t.ax.length Q)).setCell ⟨w.heap.size+2,2,none⟩ (.string ⟨#[]⟩)).setCell ⟨w.heap.size+2,3,none⟩ (.slice s a r)):=(((a4.setCell (p:=⟨w.heap.size+2,0,none⟩) (by simp) _).setCell (p:=⟨w.heap.size+2,1,none⟩) (by simp) _).setCell (p:=⟨w.heap.size+2,2,none⟩) (by simp) _).setCell (p:=⟨w.heap.size+2,3,none⟩) (by simp) _;have z:∀(g j:Nat) (u:Value),w.heap.size+3+1<=g->wo.cell? ⟨g,j,none⟩=some u->((((wo.setCell ⟨w.heap.size+2,0,none⟩ (.slice a1 t.ax.length Z)).setCell ⟨w.heap.size+2,1,none⟩ (.slice a2 t.ax.length Q)).setCell ⟨w.heap.size+2,2,none⟩ (.string ⟨#[]⟩)).setCell ⟨w.heap.size+2,3,none⟩ (.slice s a r)).cell? ⟨g,j,none⟩=some u:=λg j u U hu=>(World.cell?_of_block (w:=wo) (a3 g (by omega))).trans hu;have e5:Hid (nN ((((wo.setCell ⟨w.heap.size+2,0,none⟩ (.slice a1 t.ax.length Z)).setCell ⟨w.heap.size+2,1,none⟩ (.slice a2 t.ax.length Q)).setCell ⟨w.heap.size+2,2,none⟩ (.string ⟨#[]⟩)).setCell ⟨w.heap.size+2,3,none⟩ (.slice s a r)) a1 t.ax.length Z a2 t.ax.length Q (.slice s a r) (t.ax.map (dO jw)) b2):=by
    refine⟨by simp,by simp,by simp;omega, ?_, ?_,by simpa using h0,by simpa using h1,hF.ag a9⟩
    ·rcases M with h|⟨g,rfl,U,hgl,hrc⟩
     ·exact .inl (by rw[List.length_eq_zero_iff.mp h];rfl)
     ·refine .inr ⟨g,rfl,by simp[World.setCell];omega,λj F L=>z g j _ U (hrc j _ ?_)⟩;rw[List.getElem?_map]at L;rw[Ho,List.getElem?_map]
      cases hq:t.ax[j]? with
      |none=>rw[hq]at L;cases L
      |some q=>rw[hq]at L;have:dO jw q=F:=Option.some.inj L;subst this;rfl
    ·rcases N with h|⟨g,rfl,U,hgl,hrc⟩
     ·exact .inl (by rw[List.length_eq_zero_iff.mp h];rfl)
     ·refine .inr ⟨g,rfl,by simp[World.setCell];omega,λj F L=>z g j _ U (hrc j _ ?_)⟩;rw[List.getElem?_map]at L;rw[SB,List.getElem?_map]
      cases hq:t.ax[j]? with
      |none=>rw[hq]at L;cases L
      |some q=>rw[hq]at L;have:dO jw q=F:=Option.some.inj L;subst this;rfl
   have e4:Hid _:=a9;clear y B a3 z M N a9
   go_wp2_with fail
   exact bodyPost_ret (v:=.agg #[.slice a1 t.ax.length Z,.slice a2 t.ax.length Q,.string ⟨#[]⟩,.slice s a r]) (by simp[results,Tryz.results121,go_sem,r0,r1,r2,r3]) rfl ⟨_,_,_,_,_,_,rfl,e5.out,e4.out⟩
end Go.Proofs.YtdifpeaklamhnaaGreatDoor
