import Derived.Test.YtdifpeaklamhnaaGreatDoorRtQZ
set_option linter.unusedVariables false
set_option linter.unusedSimpArgs false
set_option maxRecDepth 100000
set_option maxHeartbeats 0
namespace Go.Proofs.YtdifpeaklamhnaaGreatDoor
open Go.Proofs.Tryz
open Go.RowKit
open Below (refl heap_setCell)
open World (size_alloc size_drew setCell)
open List (getElem?_eq_getElem drop_eq_getElem_cons drop_of_length_le getElem_mem getElem?_map)
open Value (slice int)
theorem oJ{c:dV}{a r:List dV}(h:kH c=false):bS a (c::r)=false:=by rw[bS,h];rfl
theorem Ob{c:dV}{a r:List dV}(h:il c.1 a=true):bS a (c::r)=false:=by
 rw[bS,h];simp
theorem Oc{c:dV}{a r:List dV}(h:kH c=true)(b:il c.1 a=false):bS a (c::r)=bS (a++ [c]) r:=by
 rw[bS,h,b];simp
theorem xU(w:World)(t:aT)(co:Option Addr)(cc:Nat)(ro:Option Addr)(rc:Nat)(uo:Option Addr)(un uc:Nat)(hC:dX w (.slice co t.ay.length cc) t.ay)(hR:RowsIn w (.slice ro t.rows.length rc) t.rows)
  (h:1<=t.ay.length/\t.ay.length<=4/\0<=t.count/\t.count<=1000000/\t.rows.length<=10):
  Calls prog 120 #[.agg #[.string (aa t.name),.slice co t.ay.length cc,.slice ro t.rows.length rc,.int .i64 t.count,.string (aa t.aG),.slice uo un uc]] w λe w'=>e=.returned (.bool (cu t))/\Below w.heap.size w w':=by
 have HF:Hid (cu t=(bS [] t.ay&&t.rows.all λr=>gz r t.ay)):=EZ h;obtain⟨h1,h2,h3,h4,h5⟩:=h;have d1:decide ((t.ay.length:Int)<1)=false:=by simp;omega
 have d2:decide ((4:Int)<(t.ay.length:Int))=false:=by simp;omega
 have d3:decide (t.count<0)=false:=decide_eq_false (by omega);have d4:decide (1000000<t.count)=false:=decide_eq_false (by omega);have d5:decide ((10:Int)<(t.rows.length:Int))=false:=by simp;omega
 obtain⟨W,hW⟩:∃W,W=w.alloc (.cells #[.string (aa t.name),.slice co t.ay.length cc,.slice ro t.rows.length rc,.int .i64 t.count,.string (aa t.aG),.slice uo un uc] 54):=⟨_,rfl⟩;have H:Hid (w.alloc (.cells #[.string (aa t.name),.slice co t.ay.length cc,.slice ro t.rows.length rc,.int .i64 t.count,.string (aa t.aG),.slice uo un uc] 54)=W):=hW.symm;have a4:Below w.heap.size w W:=by rw[hW];exact ae w _
 have b8:W.heap[w.heap.size]? =some (.cells #[.string (aa t.name),.slice co t.ay.length cc,.slice ro t.rows.length rc,.int .i64 t.count,.string (aa t.aG),.slice uo un uc] 54 (0,0)):=by rw[hW];exact heap_alloc_new w _
 have m2:W.heap.size=w.heap.size+1:=by rw[hW];simp[size_alloc]
 have u:∀x:World,Below W.heap.size W x->x.cell? ⟨w.heap.size,1,none⟩=some (.slice co t.ay.length cc)/\x.cell? ⟨w.heap.size,2,none⟩=some (.slice ro t.rows.length rc)/\w.heap.size<x.heap.size:=by
  intro x O;have b0:=(O.block w.heap.size (by omega)).trans b8;have:=O.size;exact⟨(ag b0).trans rfl,(ag b0).trans rfl,by omega⟩
 obtain⟨ao,cap,he,c8,j3,hz⟩:=hC
 cases he;obtain⟨b,a,rfl,hb,hc⟩:∃b a,co=some ⟨b,a,none⟩/\b<w.heap.size/\∀(i:Nat) (c:dV),t.ay[i]? =some c->(w.cell? ⟨b,a+i*3,none⟩=some (.string (aa c.1))/\w.cell? ⟨b,a+i*3+1,none⟩=some (.string (aa c.2.1))/\w.cell? ⟨b,a+i*3+2,none⟩=some (.int .i64 c.2.2))/\c.1.length<=maxLen/\c.2.1.length<=maxLen:=by
  rcases hz with h|h
  ·rw[h]at h1;simp at h1
  ·exact h
 obtain⟨nc,a1⟩:∃n,n=t.ay.length:=⟨_,rfl⟩;obtain⟨nr,a9⟩:∃n,n=t.rows.length:=⟨_,rfl⟩;rw[<-a1]at h1 h2 d1 d2 b8 H ⊢;rw[<-a9]at h5 d5 b8 H ⊢;simp only[<-a1,<-a9]at u;rw[<-a1]at c8;have T:Hid _:=a1;have c6:Hid _:=a9;have HC:Hid _:=hc;have HR:Hid _:=hR;clear hW a1 a9 hz j3 hc hR;go_enter Tryz.func120,Tryz.ntmps120
 go_wp2_with fail
 rw[H.out];clear H;go_loopg [3] nc (λgk iv wr=>∃i:Nat,gk=nc- i/\i<=nc/\iv=.int .i64 i/\Below W.heap.size W wr/\Hid (bS [] t.ay=bS (t.ay.take i) (t.ay.drop i)))
 case atStart=>exact⟨0,rfl,Nat.zero_le _,rfl,refl _ _,rfl⟩
 case round=>
  obtain⟨i,X,hi,rfl,F,P⟩:=hrel;subst X;generalize k3:wr=wo at*;clear k3;obtain⟨y1,y2,M⟩:=u wo F;have k2:=F.size;have g:Below w.heap.size w wo:=a4.trans (F.mono a4.size);by_cases l9:i<nc
  ·have Z:i<t.ay.length:=by have:=T.out;omega
   obtain⟨c,y⟩:∃c,c=t.ay[i]:=⟨_,rfl⟩;obtain⟨⟨p0,p1,p2⟩,j4,j5⟩:=HC.out i c (by rw[y];exact getElem?_eq_getElem Z);have q0:=(g.cell (p:=⟨b,a+i*3,none⟩) hb).trans p0;have q1:=(g.cell (p:=⟨b,a+i*3+1,none⟩) hb).trans p1;have q2:=(g.cell (p:=⟨b,a+i*3+2,none⟩) hb).trans p2;have l5:b<wo.heap.size:=by have:=g.size;omega
   have hd:t.ay.drop i=c::t.ay.drop (i+1):=by rw[y];exact drop_eq_getElem_cons Z
   have h6:t.ay.take (i+1)=t.ay.take i++ [c]:=by rw[List.take_succ_eq_append_getElem Z,<-y]
   rw[hd]at P;have A:∀x:World,Calls prog 112 #[.string (aa c.1)] x λe w'=>e=.returned (.bool (aS c.1))/\w'=x:=by
    intro x;have:=gI (aa c.1) x (by rw[aF];exact j4);rw[aj]at this;exact this
   have z:∀x:World,Calls prog 116 #[.string (aa c.2.1)] x λe w'=>e=.returned (.bool (c.2.1.all dz))/\w'=x:=by
    intro x;have:=uL (aa c.2.1) x (by rw[aF];exact j5);rw[aj]at this;exact this
   have s:=lF c;have J:(aa c.2.1).size=c.2.1.length:=aF _;obtain⟨wd,h8⟩:∃b,b=aS c.1:=⟨_,rfl⟩;obtain⟨ty,a3⟩:∃b,b=c.2.1.all dz:=⟨_,rfl⟩;rw[<-h8]at A s;rw[<-a3]at z s;have L:Hid _:=s;have i7:Hid _:=h6;clear h8 a3 s y hd h6 p0 p1 p2
   cases wd with
   |false=>
    have k:Hid (cu t=false):=by rw[Hid,HF.out,P.out,oJ (by rw[L.out];rfl)];rfl
    go_wp2_with(first
     |(go_at_call 112;refine(A _).mono ?_;rintro e w5 ⟨rfl,rfl⟩)
     |(go_at_call 116;refine(z _).mono ?_;rintro e w5 ⟨rfl,rfl⟩))
    go_ret;exact⟨ax k.out.symm,g.alloc g.size _⟩
   |true=>
    cases ty with
    |false=>
     have k:Hid (cu t=false):=by rw[Hid,HF.out,P.out,oJ (by rw[L.out];rfl)];rfl
     go_wp2_with(first
      |(go_at_call 112;refine(A _).mono ?_;rintro e w5 ⟨rfl,rfl⟩)
      |(go_at_call 116;refine(z _).mono ?_;rintro e w5 ⟨rfl,rfl⟩))
     go_ret;exact⟨ax k.out.symm,g.alloc g.size _⟩
    |true=>
     by_cases a7:c.2.1.length=1
     ·have e1:(((aa c.2.1).size:Int) != 1)=false:=by rw[J,a7];rfl
      clear J;by_cases c0:c.2.2<1
      ·have e2:decide (c.2.2<1)=true:=decide_eq_true c0;have k:Hid (cu t=false):=by rw[Hid,HF.out,P.out,oJ (by rw[L.out];rw[decide_eq_false (show¬1<=c.2.2 by omega)];simp)];rfl
       go_wp2_with(first
        |(go_at_call 112;refine(A _).mono ?_;rintro e w5 ⟨rfl,rfl⟩)
        |(go_at_call 116;refine(z _).mono ?_;rintro e w5 ⟨rfl,rfl⟩))
       go_ret;exact⟨ax k.out.symm,g.alloc g.size _⟩
      ·have e2:decide (c.2.2<1)=false:=decide_eq_false c0;by_cases c1:1000000<c.2.2
       ·have e3:decide (1000000<c.2.2)=true:=decide_eq_true c1;have k:Hid (cu t=false):=by rw[Hid,HF.out,P.out,oJ (by rw[L.out];rw[decide_eq_false (show¬c.2.2<=1000000 by omega)];simp)];rfl
        go_wp2_with(first
         |(go_at_call 112;refine(A _).mono ?_;rintro e w5 ⟨rfl,rfl⟩)
         |(go_at_call 116;refine(z _).mono ?_;rintro e w5 ⟨rfl,rfl⟩))
        go_ret;exact⟨ax k.out.symm,g.alloc g.size _⟩
       ·have e3:decide (1000000<c.2.2)=false:=decide_eq_false c1;have i0:Hid (kH c=true):=by
         rw[Hid,L.out,decide_eq_true a7,decide_eq_true (show 1<=c.2.2 by omega),decide_eq_true (show c.2.2<=1000000 by omega)];rfl
        have U:=ae wo (.cells #[.string (aa c.1),.string (aa c.2.1),.int .i64 c.2.2] 50);have c9:=heap_alloc_new wo (.cells #[.string (aa c.1),.string (aa c.2.1),.int .i64 c.2.2] 50);have k0:(wo.alloc (.cells #[.string (aa c.1),.string (aa c.2.1),.int .i64 c.2.2] 50)).heap.size=wo.heap.size+1:=by simp[size_alloc]
        obtain⟨W2,b7⟩:∃W2,W2=wo.alloc (.cells #[.string (aa c.1),.string (aa c.2.1),.int .i64 c.2.2] 50):=⟨_,rfl⟩;have R:Hid (wo.alloc (.cells #[.string (aa c.1),.string (aa c.2.1),.int .i64 c.2.2] 50)=W2):=b7.symm;rw[<-b7]at U c9 k0;clear b7 a7 c0 c1
        go_wp2_with(first
         |(go_at_call 112;refine(A _).mono ?_;rintro e w5 ⟨rfl,rfl⟩)
         |(go_at_call 116;refine(z _).mono ?_;rintro e w5 ⟨rfl,rfl⟩))
        rw[R.out];clear R A z q0 q1 q2 y1 y2 e1 e2 e3;go_loopw [7] (λjv wx=>∃j:Nat,j<=i/\jv=.int .i64 j/\Below W2.heap.size W2 wx/\Hid (il c.1 (t.ay.take i)=il c.1 ((t.ay.take i).drop j))) (λjv _=>i- (intOf jv).toNat)
        case atStart=>exact⟨0,Nat.zero_le _,rfl,refl _ _,rfl⟩
        case round=>
         obtain⟨j,hj,rfl,v,K⟩:=hrel;generalize c4:wr=wj at*;clear c4;have b1:Below wo.heap.size wo wj:=U.trans (v.mono U.size);have Q:Below W.heap.size W wj:=F.trans (b1.mono F.size);have m:Below w.heap.size w wj:=g.trans (b1.mono g.size);obtain⟨y1,y2,l4⟩:=u wj Q;have l7:wj.cell? ⟨wo.heap.size,0,none⟩=some (.string (aa c.1)):=(ag ((v.block wo.heap.size (by omega)).trans c9)).trans rfl;have k8:wo.heap.size<wj.heap.size:=by have:=v.size;omega
         have k6:b<wj.heap.size:=by omega
         by_cases j1:j<i
         ·have e5:j<t.ay.length:=by omega
          obtain⟨⟨p0,_,_⟩,_⟩:=HC.out j t.ay[j] (getElem?_eq_getElem e5);have q0:=(m.cell (p:=⟨b,a+j*3,none⟩) hb).trans p0;have Y:j<nc:=by omega
          have m0:(aa t.ay[j].1).toList=t.ay[j].1:=aj _;have m1:(aa c.1).toList=c.1:=aj _;have HD:Hid (il c.1 ((t.ay.take i).drop j)=((t.ay[j].1==c.1)||il c.1 ((t.ay.take i).drop (j+1)))):=by
           have j0:j<(t.ay.take i).length:=by rw[List.length_take];omega
           rw[Hid,drop_eq_getElem_cons j0];simp[il,List.getElem_take]
          clear p0
          cases e4:(t.ay[j].1==c.1)with
          |true=>
           have k:Hid (cu t=false):=by rw[Hid,HF.out,P.out,Ob (by rw[K.out,HD.out,e4];rfl)];rfl
           clear HD K P
           go_wp2_with fail
           go_region;all_goals(try go_wp2_with fail)
           all_goals go_ret
           all_goals exact⟨ax k.out.symm,by first|exact m|exact m.drew⟩
          |false=>
           have b5:Hid (il c.1 (t.ay.take i)=il c.1 ((t.ay.take i).drop (j+1))):=by rw[Hid,K.out,HD.out,e4];rfl
           clear HD K
           go_wp2_with fail
           go_region;all_goals(try go_wp2_with fail)
           all_goals go_roundw
           case rel=>exact⟨j+1,by omega,by go_num,by first|exact v|exact v.drew,b5⟩
           case measure=>simp[intOf];omega
         ·have i2:Hid (bS [] t.ay=bS (t.ay.take (i+1)) (t.ay.drop (i+1))):=by
           have j2:il c.1 (t.ay.take i)=false:=by rw[K.out,drop_of_length_le (by rw[List.length_take];omega)];rfl
           rw[Hid,P.out,Oc i0.out j2,i7.out]
          clear K P
          go_wp2_with fail
          go_roundg (nc- (i+1))
          case measure=>omega
          case rel=>exact⟨i+1,rfl,by omega,by go_num,Q,i2⟩
     ·have e1:(((aa c.2.1).size:Int) != 1)=true:=by rw[J];simp;omega
      clear J;have k:Hid (cu t=false):=by rw[Hid,HF.out,P.out,oJ (by rw[L.out];rw[decide_eq_false a7];rfl)];rfl
      go_wp2_with(first
       |(go_at_call 112;refine(A _).mono ?_;rintro e w5 ⟨rfl,rfl⟩)
       |(go_at_call 116;refine(z _).mono ?_;rintro e w5 ⟨rfl,rfl⟩))
      go_ret;exact⟨ax k.out.symm,g.alloc g.size _⟩
  ·have i9:i=nc:=by omega
   subst i9;have b9:bS [] t.ay=true:=by rw[P.out,drop_of_length_le (by have:=T.out;omega)];rfl
   have b3:Hid (∀c∈t.ay,kH c=true):=jb t.ay [] b9;have b4:Hid (cu t=t.rows.all λr=>gz r t.ay):=by rw[Hid,HF.out,b9,Bool.true_and]
   obtain⟨m4,k9,j7,j8,g8⟩:=HR.out
   cases j7;have i5:Hid _:=g8;clear P HF HR b9 g8 j8
   go_wp2_with fail
   go_loopg [8] nr (λgk iv wx=>∃r:Nat,gk=nr- r/\r<=nr/\iv=.int .i64 r/\Below W.heap.size W wx/\Hid ((t.rows.all λr=>gz r t.ay)=(t.rows.drop r).all λr=>gz r t.ay))
   case atStart=>exact⟨0,rfl,Nat.zero_le _,rfl,F,rfl⟩
   case round=>
    clear F y1 y2 M k2 g;obtain⟨r,X,hr,rfl,a5,E⟩:=hrel;subst X;generalize k4:wr=wq at*;clear k4;obtain⟨y1,y2,M⟩:=u wq a5;have D:Below w.heap.size w wq:=a4.trans (a5.mono a4.size);by_cases l8:r<nr
    ·have I:r<t.rows.length:=by have:=c6.out;omega
     obtain⟨rb,o,rfl,e8,e9⟩:∃b a,ro=some ⟨b,a,none⟩/\b<w.heap.size/\∀(i:Nat) (r:List au),t.rows[i]? =some r->∃ro rn rc,w.cell? ⟨b,a+i,none⟩=some (.slice ro rn rc)/\aR w (.slice ro rn rc) r:=by
      rcases i5.out with h|h
      ·rw[h]at I;simp at I
      ·exact h
     obtain⟨row,a2⟩:∃row,row=t.rows[r]:=⟨_,rfl⟩;obtain⟨so,sn,sc,p0,i8⟩:=e9 r row (by rw[a2];exact getElem?_eq_getElem I);obtain⟨m8,l0,k1,m3,h0⟩:=i8
     cases k1;have q0:=(D.cell (p:=⟨rb,o+r,none⟩) e8).trans p0;have k7:rb<wq.heap.size:=by have:=D.size;omega
     have S:Hid (((t.rows.drop r).all λr=>gz r t.ay)=(gz row t.ay&&(t.rows.drop (r+1)).all λr=>gz r t.ay)):=by
      rw[Hid,drop_eq_getElem_cons I,List.all_cons,<-a2]
     have i6:Hid _:=h0;have i3:Hid _:=p0;clear e9 p0 a2 h0;by_cases a8:row.length=i
     ·have j6:((row.length:Int) != (i:Int))=false:=by rw[a8];simp
      have b6:Hid _:=a8;clear a8
      go_wp2_with fail
      go_region;all_goals(try go_wp2_with fail)
      go_loopg [9] i (λgk jv wx=>∃j:Nat,gk=i- j/\j<=i/\jv=.int .i64 j/\Below wq.heap.size wq wx/\Hid (gz row t.ay=gz (row.drop j) (t.ay.drop j)))
      case atStart=>exact⟨0,rfl,Nat.zero_le _,rfl,(refl _ wq).drew,rfl⟩
      case round=>
       clear y1 y2 M q0;obtain⟨j,X,hj,rfl,v,K⟩:=hrel;subst X;generalize c4:wr=wj at*;clear c4;have Q:Below W.heap.size W wj:=a5.trans (v.mono a5.size);have m:Below w.heap.size w wj:=D.trans (v.mono D.size);obtain⟨y1,y2,M⟩:=u wj Q;by_cases j1:j<i
       ·have Y:j<t.ay.length:=by have:=T.out;omega
        have N:j<row.length:=by have:=b6.out;omega
        obtain⟨c,y⟩:∃c,c=t.ay[j]:=⟨_,rfl⟩;obtain⟨⟨_,p1,_⟩,_⟩:=HC.out j c (by rw[y];exact getElem?_eq_getElem Y);have V:=b3.out c (by rw[y];exact getElem_mem Y);rw[lF]at V;simp only[Bool.and_eq_true,decide_eq_true_eq]at V;obtain⟨B,a6⟩:∃B,c.2.1= [B]:=by
         have:=V.1.1.2.2
         match c.2.1,this with
         | [B],_=>exact⟨B,rfl⟩
        have h7:dz B=true:=by have:=V.1.1.2.1;rw[a6]at this;simpa using this
        obtain⟨C,f,rfl,c3,g9⟩:∃b a,so=some ⟨b,a,none⟩/\b<w.heap.size/\∀(i:Nat) (c:au),row[i]? =some c->w.cell? ⟨b,a+i*3,none⟩=some (.int .i64 c.1)/\w.cell? ⟨b,a+i*3+1,none⟩=some (.int .i64 c.2.1)/\w.cell? ⟨b,a+i*3+2,none⟩=some (.string (aa c.2.2)):=by
         rcases i6.out with h|h
         ·rw[h]at N;simp at N
         ·exact h
        obtain⟨q,G⟩:∃q,q=row[j]:=⟨_,rfl⟩;obtain⟨s0,s1,s2⟩:=g9 j q (by rw[G];exact getElem?_eq_getElem N);have t0:=(m.cell (p:=⟨C,f+j*3,none⟩) c3).trans s0;have t1:=(m.cell (p:=⟨C,f+j*3+1,none⟩) c3).trans s1;have t2:=(m.cell (p:=⟨C,f+j*3+2,none⟩) c3).trans s2;have u1:=(m.cell (p:=⟨b,a+j*3+1,none⟩) hb).trans p1;rw[a6,show aa [B]=⟨#[B]⟩from rfl]at u1;obtain⟨m7,m6,m5,h9,e0⟩:∃ro rn rc,w.cell? ⟨rb,o+r,none⟩=some (.slice ro rn rc)/\(slice ro rn rc=.slice (some ⟨C,f,none⟩) row.length sc):=⟨_,_,_,i3.out,rfl⟩
        cases e0;have q0:=(m.cell (p:=⟨rb,o+r,none⟩) e8).trans h9;have a0:C<wj.heap.size:=by have:=m.size;omega
        have e6:b<wj.heap.size:=by have:=m.size;omega
        have e7:rb<wj.heap.size:=by have:=m.size;omega
        have a3:fF c=gL B.toNat:=by obtain⟨n,l,d⟩:=c;have:l= [B]:=a6;subst this;rfl
        have HD:Hid (gz (row.drop j) (t.ay.drop j)=(bH (q.1,q.2.1,q.2.2) (gL B.toNat)&&gz (row.drop (j+1)) (t.ay.drop (j+1)))):=by
         rw[Hid,drop_eq_getElem_cons N,drop_eq_getElem_cons Y,gz,<-G,<-y,a3]
        have c5:∀x:World,Below wj.heap.size wj x->Calls prog 74 #[.agg #[.int .i64 q.1,.int .i64 q.2.1,.string (aa q.2.2)],.int .u8 (B.toNat:Int)] x λe w'=>e=.returned (.bool (bH (q.1,q.2.1,q.2.2) (gL B.toNat)))/\Below wj.heap.size wj w':=by
         intro x O;have:=sD q.1 q.2.1 (aa q.2.2) B h7 x;rw[aj]at this;exact this.mono λe w' h=>⟨h.1,O.trans (h.2.mono O.size)⟩
        obtain⟨ok,c2⟩:∃b,b=bH (q.1,q.2.1,q.2.2) (gL B.toNat):=⟨_,rfl⟩;rw[<-c2]at HD;simp only[<-c2]at c5;have g0:j<row.length:=N;have b2:row.length=i:=b6.out;rw[b2]at q0;clear c2 a3 G y V p1 s0 s1 s2 h9 g9 h7 a6 g0 b2 N Y;go_upto_region 24 with fail
        go_cut [10] (λk5 wx=>k5=.bool ok/\Below wj.heap.size wj wx)
        case first=>
         have i1:∀x:World,Below wj.heap.size wj x->x.cell? ⟨w.heap.size,1,none⟩=some (.slice (some ⟨b,a,none⟩) i cc)/\x.cell? ⟨w.heap.size,2,none⟩=some (.slice (some ⟨rb,o,none⟩) nr rc)/\x.cell? ⟨rb,o+r,none⟩=some (.slice (some ⟨C,f,none⟩) i sc)/\x.cell? ⟨C,f+j*3,none⟩=some (.int .i64 q.1)/\x.cell? ⟨C,f+j*3+1,none⟩=some (.int .i64 q.2.1)/\x.cell? ⟨C,f+j*3+2,none⟩=some (.string (aa q.2.2))/\x.cell? ⟨b,a+j*3+1,none⟩=some (.string ⟨#[B]⟩):=λx O=>⟨(O.cell (p:=⟨w.heap.size,1,none⟩) M).trans y1,(O.cell (p:=⟨w.heap.size,2,none⟩) M).trans y2,(O.cell (p:=⟨rb,o+r,none⟩) e7).trans q0,(O.cell (p:=⟨C,f+j*3,none⟩) a0).trans t0,(O.cell (p:=⟨C,f+j*3+1,none⟩) a0).trans t1,(O.cell (p:=⟨C,f+j*3+2,none⟩) a0).trans t2,(O.cell (p:=⟨b,a+j*3+1,none⟩) e6).trans u1⟩
         go_region_held2 (λx=>x.cell? ⟨w.heap.size,1,none⟩=some (.slice (some ⟨b,a,none⟩) i cc)/\x.cell? ⟨w.heap.size,2,none⟩=some (.slice (some ⟨rb,o,none⟩) nr rc)/\x.cell? ⟨rb,o+r,none⟩=some (.slice (some ⟨C,f,none⟩) i sc)/\x.cell? ⟨C,f+j*3,none⟩=some (.int .i64 q.1)/\x.cell? ⟨C,f+j*3+1,none⟩=some (.int .i64 q.2.1)/\x.cell? ⟨C,f+j*3+2,none⟩=some (.string (aa q.2.2))/\x.cell? ⟨b,a+j*3+1,none⟩=some (.string ⟨#[B]⟩)) (go_keep) (first|(go_at_call 74;refine(c5 _ ?_).mono ?_;(first|exact refl _ wj|exact(refl _ wj).drew);rintro e w3 ⟨rfl,hb3⟩;obtain⟨g1,g2,g3,g4,g5,g6,g7⟩:=i1 w3 hb3))
         all_goals(go_wp2_with fail;go_meet)
         all_goals exact⟨rfl,by first|exact hb3|exact hb3.drew⟩
        case rest=>
         obtain⟨rfl,c7⟩:=hcut;have BF:Below w.heap.size w wc:=m.trans (c7.mono m.size);have BQ:Below wq.heap.size wq wc:=v.trans (c7.mono v.size)
         cases ok with
         |true=>
          have b5:Hid (gz row t.ay=gz (row.drop (j+1)) (t.ay.drop (j+1))):=by rw[Hid,K.out,HD.out];rfl
          clear HD K
          go_wp2_with fail
          go_roundg (i- (j+1))
          case measure=>omega
          case rel=>exact⟨j+1,rfl,by omega,by go_num,BQ,b5⟩
         |false=>
          have k:Hid (cu t=false):=by rw[Hid,b4.out,E.out,S.out,K.out,HD.out];rfl
          clear HD K
          go_wp2_with fail
          go_ret;exact⟨ax k.out.symm,BF⟩
       ·have i4:Hid (((t.rows.all λr=>gz r t.ay))=(t.rows.drop (r+1)).all λr=>gz r t.ay):=by
         have j9:gz row t.ay=true:=by
          rw[K.out,drop_of_length_le (by have:=b6.out;omega),drop_of_length_le (by have:=T.out;omega)];rfl
         rw[Hid,E.out,S.out,j9,Bool.true_and]
        clear K S E
        go_wp2_with fail
        go_roundg (nr- (r+1))
        case measure=>omega
        case rel=>exact⟨r+1,rfl,by omega,by go_num,Q,i4⟩
     ·have k:Hid (cu t=false):=by
       rw[Hid,b4.out,E.out,S.out,zL row t.ay (by rw[<-T.out];exact a8)];rfl
      have j6:((row.length:Int) != (i:Int))=true:=by simp;omega
      clear S E
      go_wp2_with fail
      go_region;all_goals(try go_wp2_with fail)
      all_goals go_ret
      all_goals exact⟨ax k.out.symm,by first|exact D|exact D.drew⟩
    ·have k:Hid (cu t=true):=by rw[Hid,b4.out,E.out,drop_of_length_le (by have:=c6.out;omega)];rfl
     clear E
     go_wp2_with fail
     go_ret;exact⟨ax k.out.symm,D⟩
theorem zG(w:World)(t:aT)(co:Option Addr)(cn cc:Nat)(ro:Option Addr)(rn rc:Nat)(uo:Option Addr)(un uc:Nat)(c:dX w (.slice co cn cc) t.ay)(d:RowsIn w (.slice ro rn rc) t.rows):
  Calls prog 120 #[.agg #[.string (aa t.name),.slice co cn cc,.slice ro rn rc,.int .i64 t.count,.string (aa t.aG),.slice uo un uc]] w λe w'=>e=.returned (.bool (cu t))/\Below w.heap.size w w':=by
 have a:cn=t.ay.length:=by obtain⟨_,_,e,_⟩:=c;cases e;rfl
 have b:rn=t.rows.length:=by obtain⟨_,_,e,_⟩:=d;cases e;rfl
 subst a b;by_cases h:1<=t.ay.length/\t.ay.length<=4/\0<=t.count/\t.count<=1000000/\t.rows.length<=10
 ·exact xU w t co cc ro rc uo un uc c d h
 ·exact zH w t co cc ro rc uo un uc h
theorem OC:(Tryz.prog.info? 9).map (λi=>(i.zero,i.size,i.bytes))=some (some (.string ⟨#[]⟩),1,16):=by kernel_rfl
theorem TZ:(Tryz.prog.info? 5).map (λi=>(i.zero,i.size,i.bytes))=some (some (.int .u8 0),1,1):=by kernel_rfl
theorem uR{x wo w7:World}{L:Obj}{O k H c n:Nat}{a:Option Addr}{w u:Nat}{T t:TypeId}{D d:List Value}{cs:Array Value}(I:wo.heap[O]? =some (.cells cs t (0,0)))(own:wo.ownsRow (O+1) T 1 (.slice a w u) n D)(j:Below O x wo)
  (b:(wo.alloc L).drew.grownBy w7 (slice a w u).ownBlock) (f:w7.ownsRow (O+1) T 1 (.slice (some ⟨H,0,none⟩) (n+1) c) (n+1) (D++d)) (v:Value):
  w7.heap[O]? =some (.cells cs t (0,0))/\(w7.setCell ⟨O,k,none⟩ v).heap[O]? =some (.cells (cs.setIfInBounds k v) t (0,0))/\
  (w7.setCell ⟨O,k,none⟩ v).ownsRow (O+1) T 1 (.slice (some ⟨H,0,none⟩) (n+1) c) (n+1) (D++d)/\Below O x (w7.setCell ⟨O,k,none⟩ v)/\
  ∀(s:TypeId) (v':Value) (m:Nat) (E:List Value),s≠T->wo.ownsRow (O+1) s 1 v' m E->(w7.setCell ⟨O,k,none⟩ v).ownsRow (O+1) s 1 v' m E:=by
 have z:=af I;have A:=b.size;simp only[size_drew,size_alloc]at A;have C:(slice a w u).ownBlock≠some O:=λe=>by have:=(own.lt _ e).1;omega
 have ah:∀g,g<wo.heap.size->(slice a w u).ownBlock≠some g->w7.heap[g]? =wo.heap[g]? :=λg J K=>
  (b.block g (by simp only[size_drew,size_alloc];omega) (λe=>K e.symm)).trans (Below.heap_alloc _ _ _ J)
 have l:w7.heap[O]? =some (.cells cs t (0,0)):=(ah O z C).trans I;refine⟨l,by simp[setCell,Array.getElem?_modify,l],ownsRow_setCell_below f (by show O<O+1;omega) _, ?_,λs v' m E M i=> ?_⟩
 ·suffices h:Below O x w7 from h.setCell (p:=⟨O,k,none⟩) (Nat.le_refl _) _
  refine⟨b.os.trans j.os,b.tape.trans j.tape,b.output.trans j.output,by have:=j.size;omega,λg N=> ?_⟩;exact(ah g (by omega) (λe=>by have:=(own.lt _ e).1;omega)).trans (j.block g N)
 ·refine ownsRow_setCell_below (aA i λq o=>ah q (i.lt q o).2 λe=> ?_) (by show O<O+1;omega) _;rcases own.2 with⟨h,_⟩|⟨g1,P,F,h,_,B,_⟩
  ·rw[h]at e;cases e
  ·rw[h]at e;cases e;rcases i.2 with⟨y,_⟩|⟨R,Q,G,y,_,r,_⟩
   ·rw[y]at o;cases o
   ·rw[y]at o;cases o;rw[B]at r;cases r;exact M rfl
def jX:Bs:=[114,111,119]
def SA(cs:List dV):List Value:=cs.map λc=>Value.string (aa (fD jX c).1)
def Sw(cs:List dV):List Value:=cs.map λc=>int .u8 (mZ (fF c))
def Nz(W4:World)(O:Nat)(cs:List dV)(fv:Value)(i:Nat)(wr:World):Prop:=∃(a1:Option Addr) (n1 c1:Nat) (a2:Option Addr) (n2 c2:Nat),wr.heap[O]? =some (.cells #[.slice a1 n1 c1,.slice a2 n2 c2,.string ⟨#[]⟩,fv] 214 (0,0))/\wr.ownsRow (O+1) 9 1 (.slice a1 n1 c1) i (SA (cs.take i))/\wr.ownsRow (O+1) 5 1 (.slice a2 n2 c2) i (Sw (cs.take i))/\Below O W4 wr
theorem RN(l:Bs):ByteArray.mk #[114,111,119,46]++aa l=aa (jX++ [46]++l):=NA [114,111,119,46] l
theorem BJ{w:World}{b:Nat}{T:TypeId}{a:Option Addr}{n c len:Nat}{k:List Value}(own:w.ownsRow b T 1 (.slice a n c) len k):n=len/\len<=c/\(len=0\/∃g,a=some ⟨g,0,none⟩/\b<=g/\g<w.heap.size/\∀(i:Nat) (u:Value),k[i]? =some u->w.cell? ⟨g,i,none⟩=some u):=by
 have f:=own.1;rcases own.2 with⟨h,e⟩|⟨g,cap,l,h,hb,m,d,_⟩
 ·cases h;exact⟨e.symm,by omega,.inl e⟩
 ·cases h;refine⟨rfl,d,.inr ⟨g,rfl,hb,af m,λi u j=> ?_⟩⟩;have o:=(List.getElem?_eq_some_iff.mp j).1;exact(own.cellAt i (by omega)).trans j
theorem Gp(w:World)(s:Option Addr)(a r:Nat)(b2:List RF)(hF:lN w (.slice s a r) b2)(t:aT)(co:Option Addr)(cn cc:Nat)(ro:Option Addr)(rn rc:Nat)(uo:Option Addr)(un uc:Nat)(hC:dX w (.slice co cn cc) t.ay)(hT:bL t.ay=true):
  Calls prog 121 #[.agg #[.slice none 0 0,.slice none 0 0,.string ⟨#[]⟩,.slice s a r],.string ⟨#[114,111,119]⟩,.agg #[.string (aa t.name),.slice co cn cc,.slice ro rn rc,.int .i64 t.count,.string (aa t.aG),.slice uo un uc]] w λe w'=>∃b9 b8 F e3 e2 e1,e=.returned (.agg #[.slice b9 b8 F,.slice e3 e2 e1,.string ⟨#[]⟩,.slice s a r])/\nR w' b9 b8 F e3 e2 e1 (.slice s a r) (t.ay.map (fD jX)) b2/\Below w.heap.size w w':=by
 obtain⟨i1,h7,g1,g2,g3⟩:=info_parts OC;obtain⟨i2,h8,g4,g5,g6⟩:=info_parts TZ;have O:=jb t.ay [] (by unfold bL at hT;rw[Bool.and_eq_true]at hT;exact hT.2);have i3:=(yJ hT).2;have j2:t.ay.length<=4:=by
  unfold bL at hT;rw[Bool.and_eq_true,Bool.not_eq_true',Bool.or_eq_false_iff,decide_eq_false_iff_not,decide_eq_false_iff_not]at hT;omega
 obtain⟨ao,cap,he,i9,i0,hz⟩:=hC
 cases he;obtain⟨W4,hW⟩:∃W,W=((((w.alloc (.cells #[.slice none 0 0,.slice none 0 0,.string ⟨#[]⟩,.slice s a r] 214)).alloc (.cells #[.string (aa t.name),.slice co t.ay.length cc,.slice ro rn rc,.int .i64 t.count,.string (aa t.aG),.slice uo un uc] 54)).alloc (.cells #[.slice none 0 0,.slice none 0 0,.string ⟨#[]⟩,.slice none 0 0] 214)).alloc (.cells #[.slice none 0 0,.slice none 0 0,.string ⟨#[]⟩,.slice s a r] 214)):=⟨_,rfl⟩;have V:Hid (((((w.alloc (.cells #[.slice none 0 0,.slice none 0 0,.string ⟨#[]⟩,.slice s a r] 214)).alloc (.cells #[.string (aa t.name),.slice co t.ay.length cc,.slice ro rn rc,.int .i64 t.count,.string (aa t.aG),.slice uo un uc] 54)).alloc (.cells #[.slice none 0 0,.slice none 0 0,.string ⟨#[]⟩,.slice none 0 0] 214)).alloc (.cells #[.slice none 0 0,.slice none 0 0,.string ⟨#[]⟩,.slice s a r] 214))=W4):=hW.symm;have h3:=fO (w:=w) (o:=(.cells #[.slice none 0 0,.slice none 0 0,.string ⟨#[]⟩,.slice s a r] 214)) (o':=(.cells #[.string (aa t.name),.slice co t.ay.length cc,.slice ro rn rc,.int .i64 t.count,.string (aa t.aG),.slice uo un uc] 54)) (o2:=(.cells #[.slice none 0 0,.slice none 0 0,.string ⟨#[]⟩,.slice none 0 0] 214)) (ae _ (.cells #[.slice none 0 0,.slice none 0 0,.string ⟨#[]⟩,.slice s a r] 214));rw[<-hW]at h3;have e8:W4.heap[w.heap.size+3]? =some (.cells #[.slice none 0 0,.slice none 0 0,.string ⟨#[]⟩,.slice s a r] 214 (0,0)):=by
  rw[hW];have:=heap_alloc_new (((w.alloc (.cells #[.slice none 0 0,.slice none 0 0,.string ⟨#[]⟩,.slice s a r] 214)).alloc (.cells #[.string (aa t.name),.slice co t.ay.length cc,.slice ro rn rc,.int .i64 t.count,.string (aa t.aG),.slice uo un uc] 54)).alloc (.cells #[.slice none 0 0,.slice none 0 0,.string ⟨#[]⟩,.slice none 0 0] 214)) (.cells #[.slice none 0 0,.slice none 0 0,.string ⟨#[]⟩,.slice s a r] 214);simp only[size_alloc]at this;exact this
 have I0:Nz W4 (w.heap.size+3) t.ay (.slice s a r) 0 W4:=⟨none,0,0,none,0,0,e8,World.ownsRow_nil _ _ _ _,World.ownsRow_nil _ _ _ _,refl _ _⟩;have HZ:Hid _:=hz;have e7:Hid _:=O;clear hW hz O i0 hT;go_enter Tryz.func121,Tryz.ntmps121
 go_wp2_with fail
 rw[V.out];clear V;go_loopg [8] t.ay.length (λgk iv wr=>∃i:Nat,gk=t.ay.length- i/\i<=t.ay.length/\iv=.int .i64 i/\Nz W4 (w.heap.size+3) t.ay (.slice s a r) i wr)
 case atStart=>exact⟨0,rfl,Nat.zero_le _,rfl,I0⟩
 case round=>
  clear I0;obtain⟨i,h6,hi,rfl,a1,n1,Z,a2,n2,Q,hO,y,B,G⟩:=hrel;subst h6;generalize i5:wr=wo at*;clear i5;have j0:=af hO;obtain⟨⟨o0,o1,o2,o3⟩,f0,f1,_,_⟩:=bB hO;have c0:=(G.block (w.heap.size+1) (by omega)).trans h3.2.1;have y1:wo.cell? ⟨w.heap.size+1,1,none⟩=some (.slice co t.ay.length cc):=(ag c0).trans rfl;have a4:Below w.heap.size w wo:=h3.2.2.2.1.trans (G.mono (by omega));have g0:w.heap.size+1<wo.heap.size:=by omega
  by_cases C:i<t.ay.length
  ·obtain⟨b,A,rfl,hb,hc⟩:∃b A,co=some ⟨b,A,none⟩/\b<w.heap.size/\∀(i:Nat) (c:dV),t.ay[i]? =some c->(w.cell? ⟨b,A+i*3,none⟩=some (.string (aa c.1))/\w.cell? ⟨b,A+i*3+1,none⟩=some (.string (aa c.2.1))/\w.cell? ⟨b,A+i*3+2,none⟩=some (.int .i64 c.2.2))/\c.1.length<=maxLen/\c.2.1.length<=maxLen:=by
    rcases HZ.out with h|h
    ·rw[h]at C;simp at C
    ·exact h
   obtain⟨c,J⟩:∃c,c=t.ay[i]:=⟨_,rfl⟩;obtain⟨⟨p0,p1,_⟩,_⟩:=hc i c (by rw[J];exact getElem?_eq_getElem C);have q0:=(a4.cell (p:=⟨b,A+i*3,none⟩) hb).trans p0;have g9:b<wo.heap.size:=by omega
   have c4:c.1.length<=1000:=i3 c (by rw[J];exact getElem_mem C);have h2:(aa c.1).size<=1000:=by rw[aF];exact c4
   have a0:=RN c.1;have b7:Hid (SA (t.ay.take (i+1))=SA (t.ay.take i)++ [.string (aa (jX++ [46]++c.1))]):=by
    rw[Hid,List.take_succ_eq_append_getElem C,<-J];simp[SA,fD]
   have E:∀o:Obj,(wo.alloc o).drew.ownsRow (w.heap.size+3+1) 9 1 (.slice a1 n1 Z) i (SA (t.ay.take i)):=λo=>World.ownsRow.drew (World.ownsRow.alloc y o);have b4:Hid _:=J;clear hc p0 J;obtain⟨nm,c6⟩:∃x,x=jX++ [46]++c.1:=⟨_,rfl⟩;rw[<-c6]at a0 b7;have b0:(ByteArray.mk #[114,111,119])++(ByteArray.mk #[46])=ByteArray.mk #[114,111,119,46]:=rfl;have h4:¬9223372036854775807<4+(aa c.1).size:=by omega
   have h5:¬9223372036854775807<(ByteArray.mk #[114,111,119,46]).size+(aa c.1).size:=by show¬9223372036854775807<4+(aa c.1).size;omega
   have a5:Hid _:=hO;have a6:Hid _:=y;have b6:Hid _:=B;clear c6 y B hO c4;go_upto_region 7 with fail
   go_cut [7] (λs7 wx=>s7=.pointer (some ⟨w.heap.size+3,0,none⟩)/\∃(a7:Option Addr) (b1 a8:Nat),wx.heap[w.heap.size+3]? =some (.cells #[.slice a7 b1 a8,.slice a2 n2 Q,.string ⟨#[]⟩,.slice s a r] 214 (0,0))/\wx.ownsRow (w.heap.size+3+1) 9 1 (.slice a7 b1 a8) (i+1) (SA (t.ay.take (i+1)))/\wx.ownsRow (w.heap.size+3+1) 5 1 (.slice a2 n2 Q) i (Sw (t.ay.take i))/\Below (w.heap.size+3) W4 wx)
   case first=>
    go_region_law (refine step_append_lies _ rfl (.tmp 34) (.tmp 44) 52 rfl (w.heap.size+3+1) 9 i1 _ 1 16 Tryz.underlying52 h7 g1 g2 g3 rfl (by decide) (.slice a1 n1 Z) i (SA (t.ay.take i)) (by simp[Act.eval]) (E _) ⟨wo.heap.size,0,none⟩ 1 1 [.string (aa nm)] (by simp[Act.eval]) rfl (World.news_of_block (sM wo _)) (by intro u hu;simp at hu;subst hu;rfl) (by decide) (by unfold maxLen;omega) (by omega) (by simp;omega) (wo.heap.size+1) (by simp) ?_;intro g7 I w7 m f c3 c5;have kO:=(uR (k:=0) a5.out a6.out G f m (.slice none 0 0)).1;have g8:=af kO;obtain⟨⟨r0,r1,r2,r3⟩,c9,e0,_,_⟩:=bB kO)
    all_goals(go_wp2_with fail;go_meet)
    all_goals
     obtain⟨_,A1,A2,A3,A4⟩:=uR (k:=0) a5.out a6.out G f m (.slice (some ⟨g7,0,none⟩) (i+1) I);exact⟨rfl,_,_,_,A1,by rw[b7.out];exact A2,A4 5 _ _ _ (by decide) b6.out,A3⟩
   case rest=>
    obtain⟨rfl,a7,b1,a8,S,P,D,R⟩:=hcut;clear o0 o1 o2 o3 f0 f1 y1 q0 E c0;generalize i4:wc=w8 at*;clear i4;have i6:=af S;obtain⟨⟨o0,o1,o2,o3⟩,f0,f1,_,_⟩:=bB S;have b3:Below w.heap.size w w8:=h3.2.2.2.1.trans (R.mono (by omega));have y1:w8.cell? ⟨w.heap.size+1,1,none⟩=some (.slice (some ⟨b,A,none⟩) t.ay.length cc):=(ag ((R.block (w.heap.size+1) (by omega)).trans h3.2.1)).trans rfl;have i7:w.heap.size+1<w8.heap.size:=by omega
    have i8:b<w8.heap.size:=by have:=b3.size;omega
    have K:=e7.out c (by rw[b4.out];exact getElem_mem C);rw[lF]at K;simp only[Bool.and_eq_true,decide_eq_true_eq]at K;obtain⟨H,T⟩:∃H,c.2.1= [H]:=by
     have:=K.1.1.2.2
     match c.2.1,this with
     | [H],_=>exact⟨H,rfl⟩
    have c7:dz H=true:=by have:=K.1.1.2.1;rw[T]at this;simpa using this
    have c8:mZ (fF c)=(H.toNat:Int):=by
     have:fF c=gL H.toNat:=by obtain⟨n,l,d⟩:=c;have:l= [H]:=T;subst this;rfl
     rw[this];exact(kV c7).2
    have e6:Hid (Sw (t.ay.take (i+1))=Sw (t.ay.take i)++ [.int .u8 (H.toNat:Int)]):=by
     rw[Hid,List.take_succ_eq_append_getElem C,<-b4.out];simp[Sw,c8]
    have u1:=(b3.cell (p:=⟨b,A+i*3+1,none⟩) hb).trans p1;rw[T,show aa [H]=⟨#[H]⟩from rfl]at u1;have E:∀o:Obj,(w8.alloc o).drew.ownsRow (w.heap.size+3+1) 5 1 (.slice a2 n2 Q) i (Sw (t.ay.take i)):=λo=>World.ownsRow.drew (World.ownsRow.alloc D o);have X:Hid _:=S;have b5:Hid _:=P;have Y:Hid _:=D;clear S P D K c7 c8 T p1 G a5 a6 b6 a4 g0 g9 h2 a0 b0 h4 h5;go_upto_region 8 with fail
    go_region_law (refine step_append_lies _ rfl (.tmp 48) (.tmp 56) 174 rfl (w.heap.size+3+1) 5 i2 _ 1 1 Tryz.underlying174 h8 g4 g5 g6 rfl (by decide) (.slice a2 n2 Q) i (Sw (t.ay.take i)) (by simp[Act.eval]) (E _) ⟨w8.heap.size,0,none⟩ 1 1 [.int .u8 (H.toNat:Int)] (by simp[Act.eval]) rfl (World.news_of_block (sM w8 _)) (by intro u hu;simp at hu;subst hu;rfl) (by decide) (by unfold maxLen;omega) (by omega) (by simp;omega) (w8.heap.size+1) (by simp) ?_;intro g7 I w7 m f c3 c5;have kO:=(uR (k:=1) X.out Y.out R f m (.slice none 0 0)).1;have g8:=af kO;obtain⟨⟨r0,r1,r2,r3⟩,c9,e0,_,_⟩:=bB kO)
    all_goals(go_wp2_with fail)
    all_goals go_roundg (t.ay.length- (i+1))
    all_goals first
     |omega
     |(obtain⟨_,A1,A2,A3,A4⟩:=uR (k:=1) X.out Y.out R f m (.slice (some ⟨g7,0,none⟩) (i+1) I)
       exact⟨i+1,rfl,by omega,by go_num,_,_,_,_,_,_,A1,A4 9 _ _ _ (by decide) b5.out,by rw[e6.out];exact A2,A3⟩)
  ·have h9:i=t.ay.length:=by omega
   subst h9;rw[List.take_length]at y B;have e9:=(G.block (w.heap.size+2) (by omega)).trans h3.2.2.1;obtain⟨⟨r0,r1,r2,r3⟩,c9,e0,j3,j4⟩:=bB e9;have j1:w.heap.size+2<wo.heap.size:=by omega
   obtain⟨rfl,h0,M⟩:=BJ y;obtain⟨rfl,h1,N⟩:=BJ B;have a3:∀g,g≠w.heap.size+2->((((wo.setCell ⟨w.heap.size+2,0,none⟩ (.slice a1 t.ay.length Z)).setCell ⟨w.heap.size+2,1,none⟩ (.slice a2 t.ay.length Q)).setCell ⟨w.heap.size+2,2,none⟩ (.string ⟨#[]⟩)).setCell ⟨w.heap.size+2,3,none⟩ (.slice s a r)).heap[g]? =wo.heap[g]? :=λg U=>(heap_setCell _ _ _ _ U).trans ((heap_setCell _ _ _ _ U).trans ((heap_setCell _ _ _ _ U).trans (heap_setCell _ _ _ _ U)));have a9:Below w.heap.size w ((((wo.setCell ⟨w.heap.size+2,0,none⟩ (.slice a1 t.ay.length Z)).setCell ⟨w.heap.size+2,1,none⟩ (.slice a2 t.ay.length Q)).setCell ⟨w.heap.size+2,2,none⟩ (.string ⟨#[]⟩)).setCell ⟨w.heap.size+2,3,none⟩ (.slice s a r)):=(((a4.setCell (p:=⟨w.heap.size+2,0,none⟩) (by simp) _).setCell (p:=⟨w.heap.size+2,1,none⟩) (by simp) _).setCell (p:=⟨w.heap.size+2,2,none⟩) (by simp) _).setCell (p:=⟨w.heap.size+2,3,none⟩) (by simp) _;have z:∀(g j:Nat) (u:Value),w.heap.size+3+1<=g->wo.cell? ⟨g,j,none⟩=some u->((((wo.setCell ⟨w.heap.size+2,0,none⟩ (.slice a1 t.ay.length Z)).setCell ⟨w.heap.size+2,1,none⟩ (.slice a2 t.ay.length Q)).setCell ⟨w.heap.size+2,2,none⟩ (.string ⟨#[]⟩)).setCell ⟨w.heap.size+2,3,none⟩ (.slice s a r)).cell? ⟨g,j,none⟩=some u:=λg j u U hu=>(World.cell?_of_block (w:=wo) (a3 g (by omega))).trans hu;have e5:Hid (nR ((((wo.setCell ⟨w.heap.size+2,0,none⟩ (.slice a1 t.ay.length Z)).setCell ⟨w.heap.size+2,1,none⟩ (.slice a2 t.ay.length Q)).setCell ⟨w.heap.size+2,2,none⟩ (.string ⟨#[]⟩)).setCell ⟨w.heap.size+2,3,none⟩ (.slice s a r)) a1 t.ay.length Z a2 t.ay.length Q (.slice s a r) (t.ay.map (fD jX)) b2):=by
    refine⟨by simp,by simp,by simp;omega, ?_, ?_,by simpa using h0,by simpa using h1,hF.ah a9⟩
    ·rcases M with h|⟨g,rfl,U,hgl,hrc⟩
     ·exact .inl (by rw[List.length_eq_zero_iff.mp h];rfl)
     ·refine .inr ⟨g,rfl,by simp[setCell];omega,λj F L=>z g j _ U (hrc j _ ?_)⟩;rw[getElem?_map]at L;rw[SA,getElem?_map]
      cases hq:t.ay[j]? with
      |none=>rw[hq]at L;cases L
      |some q=>rw[hq]at L;have:fD jX q=F:=Option.some.inj L;subst this;rfl
    ·rcases N with h|⟨g,rfl,U,hgl,hrc⟩
     ·exact .inl (by rw[List.length_eq_zero_iff.mp h];rfl)
     ·refine .inr ⟨g,rfl,by simp[setCell];omega,λj F L=>z g j _ U (hrc j _ ?_)⟩;rw[getElem?_map]at L;rw[Sw,getElem?_map]
      cases hq:t.ay[j]? with
      |none=>rw[hq]at L;cases L
      |some q=>rw[hq]at L;have:fD jX q=F:=Option.some.inj L;subst this;rfl
   have e4:Hid _:=a9;clear y B a3 z M N a9
   go_wp2_with fail
   exact bodyPost_ret (v:=.agg #[.slice a1 t.ay.length Z,.slice a2 t.ay.length Q,.string ⟨#[]⟩,.slice s a r]) (by simp[results,Tryz.results121,go_sem,r0,r1,r2,r3]) rfl ⟨_,_,_,_,_,_,rfl,e5.out,e4.out⟩
end Go.Proofs.YtdifpeaklamhnaaGreatDoor
