import Derived.Test.YthkeffolmbnkaaaGreatDoorWkFZ
import Derived.Deep.CutBlock
import Derived.Deep.AppendLies
set_option linter.unusedVariables false
set_option linter.unusedSimpArgs false
set_option maxRecDepth 100000
set_option maxHeartbeats 0
open Array renaming size->γ,getElem?_modify->B2
open Bool renaming false->I,true->A,false_ne_true->α,and_eq_true->η,eq_false_iff->ρ,not_eq_true->B1,or_eq_true->C2,eq_iff_iff->C3,false_eq_true->G0,false_or->H4,or_false->J4
open Go renaming Calls->Φ,maxLen->A3,World->A5,Value->C0,bodyPost_ret->G8,heap_alloc_new->I0,info_parts->J3,results->J5,step_append_lies->J8
open Go.Addr renaming mk->Q
open Go.Calls renaming quiet_of_same->A1
open Go.Ending renaming returned->Γ
open Go.IntKind renaming i64->Ω,u8->H0
open Go.Obj renaming cells->τ
open Go.Proofs.Tryz renaming prog->B3,ntmps182->E3,ntmps181->E4,ntmps179->E5,ntmps108->E6,ntmps57->E9,func182->F0,func181->F1,func179->F2,func108->F3,results21->F5,func57->F6,ntmps107->H2,ntmps106->H3,func107->H5,func106->H6,underlying100->I6,ntmps21->J6,func21->K0
open Go.Proofs.YthkeffolmbnkaaaGreatDoor renaming aa->M,drop_cons->D7
open Go.RowKit renaming Hid->U,intOf->C1,ownsRow_setCell_below->F8
open Go.RowKit.Below renaming heap_alloc->A9,refl->B7,heap_setCell->C9,drew->J9
open Go.Value renaming slice->H,int->Y,string->δ,bool->υ,pointer->B9,tuple->E8,agg->I9
open Go.World renaming heap->β,cell?->ψ,setCell->A4,size_alloc->B5,frozen?->E1,news_of_block->F7,ownsRow_nil->I5
open List renaming length->G,length_drop->ζ,getElem?_append_right->ι,headD_cons->ν,drop_of_length_le->ξ,getElem?_append_left->σ,drop_drop->ω,all_eq_true->Δ,all_cons->A0,take_succ_cons->A2,append_nil->A7,takeWhile_cons->A8,mem_append_left->C5,drop_zero->C6,head?_dropWhile_not->C7,getElem?_eq_getElem->C8,length_append->D0,mem_append_right->D1,drop_succ_cons->D6,drop_eq_getElem_cons->D9,append_assoc->E0,cons_append->E7,mem_of_getElem?->F4,all_takeWhile->F9,takeWhile_append_dropWhile->G3,length_take->G4,map_append->G6,take_left->G9,getElem?_eq_some_iff->H1,take_append_drop->H8,contains_iff_mem->H9,findIdx?_cons->I3,contains_cons->I4,getElem_mem->I8,nil_append->J0,mem_append->J1,drop_left->J2
open List.cons renaming injEq->E2
open Nat renaming le_refl->Θ,zero_le->B0,eq_zero_or_pos->D8,add_comm->G2,lt_or_ge->H7
open Option renaming some->E,none->D,map_eq_some_iff->Ψ,bind_some->I2,map_some->I7
open Option.some renaming inj->κ,injEq->B6
open Or renaming inl->C4,inr->D4
open Prod.mk renaming injEq->B8
open UInt8 renaming toNat_inj->A6,ofNat->D2
open _root_ renaming rfl->J,Int->V,Nat->Z,if_neg->ε,if_pos->θ,decide_eq_true->μ,decide_eq_false->ο,ByteArray->φ,beq_iff_eq->χ,List->Ξ,decide_eq_true_eq->B4,Option->D3,absurd->D5,beq_eq_false_iff_ne->G1,Bool->G5,UInt8->G7,decide_eq_false_iff_not->I1,decide_eq_decide->J7,if_false->K1,congrArg->K2
namespace Go.Proofs.YthkeffolmbnkaaaGreatDoor
open Go.Proofs.Tryz
open Go.RowKit
variable{R b0:Bool}{d T b1:Bs}{a:ByteArray}{N a2:Int}{P:List Nat}{x b2:List Tr}{q W a3:List Value}{e n l p y z a4 a6 b3 b4:Nat}{a5:Nat->Int}{X:Nat->Prop}{O a7:Obj}{L:Option (Tr×Bs)}{r:Option Addr}{a8 a9:Option Nat}{C:Tr}{F:UInt8}{m u B a0 b5:Value}{f s K a1:World}
theorem qd{c w}:
  Φ B3 176 #[Y H0 c] w (RE (υ (gF c)) w):=by
 go_enter func176,ntmps176
 go_wp2
 all_goals go_ret
 all_goals(refine⟨aG ?_,J⟩;simp[gF, *])
theorem gI{c w}:
  Φ B3 177 #[Y H0 c] w (RE (υ (bg c)) w):=by
 go_enter func177,ntmps177
 go_wp2
 all_goals go_ret
 all_goals(refine⟨aG ?_,J⟩;simp[bg, *])
theorem qg:
  Φ B3 190 #[Y H0 N] f (RE (υ (dD N)) f):=by
 go_enter func190,ntmps190
 go_wp2
 all_goals go_ret
 all_goals(refine⟨aG ?_,J⟩;simp[dD]<;>omega)
theorem oF:
  Φ B3 189 #[Y H0 N] f (RE (υ (fI N)) f):=by
 go_enter func189,ntmps189
 go_wp2
 all_goals go_ret
 all_goals(refine⟨aG ?_,J⟩;simp[fI]<;>omega)
theorem lF{s:φ}{w}(m:s.size<=A3):
  Φ B3 181 #[δ s] w (RE (υ (fJ s.toList)) w):=by
 unfold A3 at m;by_cases i:2<=s.size/\s.size<=32
 ·obtain⟨i,n⟩:=i;have b:=Iq i n;replace b:U _:=b;by_cases c:(s[0].toNat:V)=39/\(s[s.size-1].toNat:V)=39
  ·obtain⟨c,g⟩:=c;go_enter F1,E4;go_wp2_with fail;go_loop [3] (λd=>∃a:Z,1<=a/\a<=s.size-1/\d=Y Ω a/\U (((s.toList.take (s.size-1)).drop 1).all wD=((s.toList.take (s.size-1)).drop a).all wD)) (λd=>s.size-(C1 d).toNat)
   ·exact⟨1,M,M,J,J⟩
   obtain⟨a,_,_,rfl,f⟩:=hrel;by_cases o:a<s.size-1
   ·have:a<s.size:=by omega
    have d:=Oe o;replace d:U _:=d;have e:=Tu s[a];replace e:U _:=e;by_cases j:(s[a].toNat:V)<32
    ·go_wp2
     go_ret;exact⟨aG (by rw[b.out,f.out,d.out,e.out];simp[j]),J⟩
    by_cases k:(126:V)<s[a].toNat
    ·go_wp2
     go_ret;exact⟨aG (by rw[b.out,f.out,d.out,e.out];simp[k]),J⟩
    by_cases l:(s[a].toNat:V)=39
    ·go_wp2
     go_ret;exact⟨aG (by rw[b.out,f.out,d.out,e.out];simp[l]),J⟩
    have p:U (wD s[a]=A):=by rw[U,e.out];simp[j,k,l]
    go_wp2
    go_round
    ·exact⟨a+1,M,M,aP,by rw[U,f.out,d.out,p.out];rfl⟩
    simp[C1];omega
   have d:U (((s.toList.take (s.size-1)).drop a).all wD=A):=Tv s a M
   go_wp2
   go_ret;exact⟨aG (by rw[b.out,f.out,d.out,c,g];simp),J⟩
  by_cases g:(s[0].toNat:V)=39
  ·have a:U (¬(s[s.size-1].toNat:V)=39):=λd=>c ⟨g,d⟩;have e:((s[s.size-1].toNat:V) != 39)=A:=by rw[Jm,ο a.out];rfl
   clear c;go_enter F1,E4
   go_wp2
   go_ret;exact⟨aG (by rw[b.out,ο a.out];simp),J⟩
  clear c;go_enter F1,E4
  go_wp2
  go_ret;exact⟨aG (by rw[b.out];simp[g]),J⟩
 have b:U (fJ s.toList=I):=by
  simp only[U,fJ,aj];simp;omega
 by_cases e:s.size<2
 ·go_enter F1,E4
  go_wp2
  go_ret;exact⟨aG b.symm,J⟩
 have:32<s.size:=M;go_enter F1,E4
 go_wp2
 go_ret;exact⟨aG b.symm,J⟩
theorem eH{s:φ}{w}:
  Φ B3 112 #[δ s] w (RE (υ (nG s.toList)) w):=by
 go_enter func112,ntmps112
 go_wp2
 all_goals go_ret
 all_goals(refine⟨aG ?_,J⟩;simp_all[nG])
def vg(l:Bs):V:=if lN l then(l.getD 1 0).toNat-49 else-1
theorem iD{s:φ}{w}:
  Φ B3 182 #[δ s] w (RE (Y Ω (vg s.toList)) w):=by
 by_cases d:s.size=2
 ·have b:U (lN s.toList=(decide ((s[0].toNat:V)=36)&&dD s[1].toNat&& !decide ((s[1].toNat:V)=48))):=Tm d;have e:U (s.toList.getD 1 0=s[1]):=zt s 1 M;by_cases c:(s[0].toNat:V)=36
  ·by_cases f:(s[1].toNat:V)<49
   ·have a:U (vg s.toList= -1):=by
     rw[U,vg,ε];rw[b.out];unfold dD;simp;omega
    go_enter F0,E3
    go_wp2
    go_ret;exact⟨lG a.symm,J⟩
   by_cases g:(57:V)<s[1].toNat
   ·have a:U (vg s.toList= -1):=by
     rw[U,vg,ε];rw[b.out];unfold dD;simp;omega
    go_enter F0,E3
    go_wp2
    go_ret;exact⟨lG a.symm,J⟩
   have a:U (vg s.toList=(s[1].toNat:V)-49):=by
    rw[U,vg,θ,e.out];rw[b.out];unfold dD;simp;omega
   go_enter F0,E3
   go_wp2
   go_ret;exact⟨lG a.symm,J⟩
  have a:U (vg s.toList= -1):=by
   rw[U,vg,ε];rw[b.out];simp[c]
  have:((s[0].toNat:V) != 36)=A:=by simpa using c
  clear c;go_enter F0,E3
  go_wp2
  go_ret;exact⟨lG a.symm,J⟩
 have a:U (vg s.toList= -1):=by
  rw[U,vg,ε];unfold lN;rw[aj];simp[d]
 have:((s.size:V) != 2)=A:=aN;go_enter F0,E3
 go_wp2
 go_ret;exact⟨lG a.symm,J⟩
theorem iZ(a:φ)(o)(q:a.size<=A3):
  Φ B3 111 #[δ a] o (RE (υ (aW a.toList)) o):=by
 unfold A3 at q;go_enter func111,ntmps111;go_wp2_with fail;go_loop [3] (λc=>∃b:Z,b<=a.size/\c=Y Ω b/\(1<=b->fI (a.toList.headD 0).toNat=A)/\U (a.toList.all Em=(a.toList.drop b).all Em)) (λc=>a.size-(C1 c).toNat)
 ·exact⟨0,B0 _,J,λ_=>M,J⟩
 obtain⟨b,_,rfl,i,j⟩:=hrel;change U _ at i;by_cases r:b<a.size
 ·have k:U ((a.toList.drop b).all Em=(Em a[b]&&(a.toList.drop (b+1)).all Em)):=yS Em r;have l:U (Em a[b]=(fI a[b].toNat||dD a[b].toNat)):=J;have p:U (a.toList.headD 0=a[0]):=lV (s:=a) M;by_cases g:fI a[b].toNat=A
  ·have m:U (fI (a.toList.headD 0).toNat=A):=by
    rw[U];by_cases d:b=0
    ·rw[p.out];subst d;exact g
    exact i M
   go_wp2_with(first|(go_at_call 189;refine(oF).mono ?_;rintro c e ⟨rfl,rfl⟩)|(go_at_call 190;refine(qg).mono ?_;rintro c e ⟨rfl,rfl⟩))
   go_round
   ·exact⟨b+1,M,aP,λ_=>m.out,by rw[U,j.out,k.out,l.out,g];rfl⟩
   simp[C1];omega
  rw[B1]at g;by_cases d:b=0
  ·have f:U (aW a.toList=I):=by
    have c:fI (a.toList.headD 0).toNat=I:=by rw[p.out];subst d;exact g
    rw[U,aW,c];simp
   subst d;go_wp2_with(first|(go_at_call 189;refine(oF).mono ?_;rintro c e ⟨rfl,rfl⟩)|(go_at_call 190;refine(qg).mono ?_;rintro c e ⟨rfl,rfl⟩));go_ret;exact⟨aG f.symm,J⟩
  have:((b:V)==0)=I:=aN;by_cases n:dD a[b].toNat=A
  ·have m:U (fI (a.toList.headD 0).toNat=A):=i.out M;go_wp2_with(first|(go_at_call 189;refine(oF).mono ?_;rintro c e ⟨rfl,rfl⟩)|(go_at_call 190;refine(qg).mono ?_;rintro c e ⟨rfl,rfl⟩))
   go_round
   ·exact⟨b+1,M,aP,λ_=>m.out,by rw[U,j.out,k.out,l.out,g,n];rfl⟩
   simp[C1];omega
  rw[B1]at n;have f:U (aW a.toList=I):=by
   rw[U,aW,j.out,k.out,l.out,g,n];simp
  go_wp2_with(first|(go_at_call 189;refine(oF).mono ?_;rintro c e ⟨rfl,rfl⟩)|(go_at_call 190;refine(qg).mono ?_;rintro c e ⟨rfl,rfl⟩));go_ret;exact⟨aG f.symm,J⟩
 by_cases d:a.size=0
 ·have c:=wY d;have f:U (aW a.toList=I):=by rw[U,aW,aj];simp[d]
  go_wp2
  go_ret;exact⟨aG f.symm,J⟩
 have c:=sM a M;have f:U (aW a.toList=decide ((a.size:V)<=12)):=by
  rw[U,aW,i.out M,j.out,CX Em a b M,aj];rw[C3];simp;omega
 go_wp2
 go_ret;exact⟨aG f.symm,J⟩
def qH:Bs->V->V
 | [],n=>n
 |c::r,n=>qH r (n*10+(c.toNat-48))
def AZ(l:Bs):V:=if gH l then(if l.headD 0==45 then-(qH (l.drop 1) 0)else qH l 0)else 0
def ve:Bs->V->G5
 | [],_=>A
 |c::r,n=>(decide (49<=(c.toNat:V))&&decide ((c.toNat:V)<=57)||(decide ((c.toNat:V)=48)&&decide (0<n)))&&decide (n*10+(c.toNat-48)<=1000000000)&&ve r (n*10+(c.toNat-48))
theorem Yz:∀a:V,0<a->ve d a=dR d a:=by
 induction d with
 |nil=>intro a _;rfl
 |cons b f ih=>
  intro a _;rw[ve,dR];have e:(decide (49<=(b.toNat:V))&&decide ((b.toNat:V)<=57)||(decide ((b.toNat:V)=48)&&decide (0<a)))=dD b.toNat:=by
   unfold dD;rw[C3];simp;omega
  rw[e];by_cases c:dD b.toNat=A
  ·have:=qm c;rw[ih _ M]
  rw[B1]at c;rw[c];rfl
theorem Vh(b:Bs):ve b 0=(b.isEmpty||(!(b.headD 0==48)&&dR b 0)):=by
 cases b with
 |nil=>rfl
 |cons a g=>
  rw[ve,dR,ν];have e:(a==48)=decide ((a.toNat:V)=48):=wM (c:=a) 48 M;rw[e];by_cases d:(a.toNat:V)=48
  ·simp[d]
  have f:(decide (49<=(a.toNat:V))&&decide ((a.toNat:V)<=57)||(decide ((a.toNat:V)=48)&&decide ((0:V)<0)))=dD a.toNat:=by
   unfold dD;rw[C3];simp;omega
  rw[f];by_cases c:dD a.toNat=A
  ·have:=qm c;rw[Yz _ M];simp[d]
  rw[B1]at c;rw[c];simp
theorem AY(b)(c:e<a.size):ve (a.toList.drop e) b=
  ((decide (49<=(a[e].toNat:V))&&decide ((a[e].toNat:V)<=57)||(decide ((a[e].toNat:V)=48)&&decide (0<b)))&&decide (b*10+(a[e].toNat-48)<=1000000000)&&ve (a.toList.drop (e+1)) (b*10+(a[e].toNat-48))):=by
 rw[D7 c,ve]
theorem Av(b)(c:e<a.size):qH (a.toList.drop e) b=qH (a.toList.drop (e+1)) (b*10+(a[e].toNat-48)):=by
 rw[D7 c,qH]
theorem NF(c:φ)(a b)(d:c.size<=a):ve (c.toList.drop a) b=A/\qH (c.toList.drop a) b=b:=by
 rw[ξ (by rw[aj];exact d)];exact⟨J,J⟩
theorem dE(a:gH d=I):AZ d=0:=by rw[AZ,a];rfl
theorem jG(a:N=a2)(b:R=b0):Γ (E8 #[Y Ω N,υ R])=Γ (E8 #[Y Ω a2,υ b0]):=by rw[a,b]
theorem Ig(a:(d== [48])=I):gH d=(decide (0<G (bN d))&&ve (bN d) 0):=by
 rw[gH,a,H4,Vh]
 cases b:bN d with
 |nil=>rfl
 |cons c e=>simp
theorem jE{s:φ}{w}(a2:s.size<=A3):
  Φ B3 179 #[δ s] w (RE (E8 #[Y Ω (AZ s.toList),υ (gH s.toList)]) w):=by
 unfold A3 at a2;by_cases N:(s.toList== [48])=A
 ·have n:U (gH s.toList=A):=by rw[U,gH,N];rfl
  have v:U (AZ s.toList=0):=by
   have:s.toList= [48]:=by simpa using N
   rw[U,this];rfl
  go_enter F2,E5
  go_wp2
  go_ret2;exact⟨by rw[n.out,v.out];rfl,J⟩
 rw[B1]at N;have x:=Ig N;replace x:U _:=x;by_cases a3:s.size=0
 ·have X:=wY a3;have a:s.toList= []:=List.isEmpty_iff.mp X;have n:U (gH s.toList=I):=by rw[U,a];rfl
  have v:U (AZ s.toList=0):=by rw[U,a];rfl
  clear a;go_enter F2,E5;go_wp2_with fail;go_loop [4,5,6] (λb q y=>b=Y Ω 0/\q=Y Ω 1/\y=Y Ω 0) (λ_ _ _=>0)
  ·exact⟨J,J,J⟩
  obtain⟨rfl,rfl,rfl⟩:=hrel
  go_wp2
  go_ret2;exact⟨by rw[n.out,v.out];rfl,J⟩
 have P:0<s.size:=M;have X:=sM s P;have F:U ((s.toList.headD 0==45)=decide ((s[0].toNat:V)=45)):=by rw[U,lV P];exact wM 45 M
 by_cases r:(s[0].toNat:V)=45
 ·have p:U (bN s.toList=s.toList.drop 1):=by rw[U,bN,F.out,μ r];rfl
  by_cases a4:s.size=1
  ·have c:U (gH s.toList=I):=by
    rw[U,x.out,p.out,ζ,aj,a4];rfl
   go_enter F2,E5;go_wp2_with fail;go_loop [4,5,6] (λb q y=>b=Y Ω 0/\q=Y Ω 1/\y=Y Ω 0) (λ_ _ _=>0)
   ·exact⟨J,J,J⟩
   obtain⟨rfl,rfl,rfl⟩:=hrel
   go_wp2
   go_ret2;exact⟨jG (dE c).symm c.symm,J⟩
  have b0:1<s.size:=M;have K:U (gH s.toList=ve (s.toList.drop 1) 0):=by
   rw[U,x.out,p.out,ζ,aj,μ M];rfl
  have L:U (qH (bN s.toList) 0=qH (s.toList.drop 1) 0):=by rw[U,p.out]
  have v:U (gH s.toList=A->AZ s.toList= -(qH (bN s.toList) 0)):=by
   intro i;rw[AZ,i,θ J,F.out,μ r,θ J,p.out]
  clear p F x;go_enter F2,E5;go_wp2_with fail;go_loop [4,5,6] (λT R S=>∃(a:Z) (b q:V),a<=s.size/\T=Y Ω b/\R=Y Ω q/\S=Y Ω a/\0<=b/\b<=1000000000/\((a=0/\b=0/\q=1)\/(1<=a/\q= -1/\U (gH s.toList=ve (s.toList.drop a) b)/\U (qH (bN s.toList) 0=qH (s.toList.drop a) b)))) (λ_ _ y=>s.size-(C1 y).toNat)
  ·exact⟨0,0,1,B0 _,J,J,J,M,M,C4 ⟨J,J,J⟩⟩
  obtain⟨a,b,q,a5,rfl,rfl,rfl,a6,a7,a8⟩:=hrel;rcases a8 with⟨rfl,rfl,rfl⟩|⟨_,rfl,f,l⟩
  ·go_wp2
   go_round
   ·exact⟨1,0, -1,M,J,J,J,M,M,D4 ⟨M,J,K,L⟩⟩
   simp[C1];omega
  clear K L;have a9:((a:V)==0)=I:=aN;by_cases z:a<s.size
  ·clear r;have e:=AY b z;replace e:U _:=e;have j:=Av b z;replace j:U _:=j;by_cases O:(s[a].toNat:V)=45
   ·have c:U (gH s.toList=I):=by rw[U,f.out,e.out,O];simp
    go_wp2
    go_ret2;exact⟨jG (dE c).symm c.symm,J⟩
   by_cases d:(49<=(s[a].toNat:V)/\(s[a].toNat:V)<=57)\/((s[a].toNat:V)=48/\0<b)
   ·have k:U ((decide (49<=(s[a].toNat:V))&&decide ((s[a].toNat:V)<=57)||(decide ((s[a].toNat:V)=48)&&decide (0<b)))=A):=by rw[U];simpa using d
    have a0:48<=(s[a].toNat:V)/\(s[a].toNat:V)<=57:=M;by_cases t:10*b+(s[a].toNat-48)<=1000000000
    ·have n:U (gH s.toList=ve (s.toList.drop (a+1)) (10*b+(s[a].toNat-48))):=by
      rw[U,f.out,e.out,k.out,show b*10=10*b by omega,μ t];rfl
     have u:U (qH (bN s.toList) 0=qH (s.toList.drop (a+1)) (10*b+(s[a].toNat-48))):=by
      rw[U,l.out,j.out,show b*10=10*b by omega]
     clear k e j f l;rcases d with⟨g,m⟩|⟨g,m⟩
     ·go_wp2
      go_round
      ·exact⟨a+1,10*b+(s[a].toNat-48), -1,M,(by first|rfl|(rw[g];simp)),J,aP,M,M,D4 ⟨M,J,n,u⟩⟩
      simp[C1];omega
     have o:¬49<=(s[a].toNat:V):=M
     go_wp2
     go_round
     ·exact⟨a+1,10*b+(s[a].toNat-48), -1,M,(by first|rfl|(rw[g];simp)),J,aP,M,M,D4 ⟨M,J,n,u⟩⟩
     simp[C1];omega
    have c:U (gH s.toList=I):=by rw[U,f.out,e.out,show b*10=10*b by omega,ο t];simp
    clear k e j f l;rcases d with⟨g,m⟩|⟨g,m⟩
    ·go_wp2
     go_ret2;exact⟨jG (dE c).symm c.symm,J⟩
    have o:¬49<=(s[a].toNat:V):=M
    go_wp2
    go_ret2;exact⟨jG (dE c).symm c.symm,J⟩
   have c:U (gH s.toList=I):=by
    have B:(decide (49<=(s[a].toNat:V))&&decide ((s[a].toNat:V)<=57)||(decide ((s[a].toNat:V)=48)&&decide (0<b)))=I:=by
     rw[ρ];intro i;exact d (by simpa using i)
    rw[U,f.out,e.out,B];rfl
   clear e j f l;by_cases g:49<=(s[a].toNat:V)
   ·have m:¬(s[a].toNat:V)<=57:=λi=>d (C4 ⟨g,i⟩);clear d
    go_wp2
    go_ret2;exact⟨jG (dE c).symm c.symm,J⟩
   by_cases o:(s[a].toNat:V)=48
   ·have a1:¬0<b:=λi=>d (D4 ⟨o,i⟩);clear d
    go_wp2
    go_ret2;exact⟨jG (dE c).symm c.symm,J⟩
   clear d
   go_wp2
   go_ret2;exact⟨jG (dE c).symm c.symm,J⟩
  have C:=NF s a b M;have k:U (gH s.toList=A):=by rw[U,f.out,C.1]
  have W:U (AZ s.toList= -b):=by rw[U,v.out k.out,l.out,C.2]
  clear C
  go_wp2
  go_ret2;exact⟨jG (by rw[W.out]) k.symm,J⟩
 have p:U (bN s.toList=s.toList):=by rw[U,bN,F.out,ο r];rfl
 have K:U (gH s.toList=ve (s.toList.drop 0) 0):=by
  rw[U,x.out,p.out,aj,μ P];rfl
 have L:U (qH (bN s.toList) 0=qH (s.toList.drop 0) 0):=by rw[U,p.out];rfl
 have v:U (gH s.toList=A->AZ s.toList=qH (bN s.toList) 0):=by
  intro i;rw[AZ,i,θ J,F.out,ο r,ε α,p.out]
 clear p F x;go_enter F2,E5;go_wp2_with fail;go_loop [4,5,6] (λT R S=>∃(a:Z) (b:V),a<=s.size/\T=Y Ω b/\R=Y Ω 1/\S=Y Ω a/\0<=b/\b<=1000000000/\U (gH s.toList=ve (s.toList.drop a) b)/\U (qH (bN s.toList) 0=qH (s.toList.drop a) b)) (λ_ _ y=>s.size-(C1 y).toNat)
 ·exact⟨0,0,B0 _,J,J,J,M,M,K,L⟩
 obtain⟨a,b,a5,rfl,rfl,rfl,a6,a7,f,l⟩:=hrel;clear K L;by_cases z:a<s.size
 ·by_cases q:a=0
  ·have O:¬(s[a].toNat:V)=45:=by have B:=q;subst B;exact r
   clear r q;have e:=AY b z;replace e:U _:=e;have j:=Av b z;replace j:U _:=j;by_cases d:(49<=(s[a].toNat:V)/\(s[a].toNat:V)<=57)\/((s[a].toNat:V)=48/\0<b)
   ·have k:U ((decide (49<=(s[a].toNat:V))&&decide ((s[a].toNat:V)<=57)||(decide ((s[a].toNat:V)=48)&&decide (0<b)))=A):=by rw[U];simpa using d
    have a0:48<=(s[a].toNat:V)/\(s[a].toNat:V)<=57:=M;by_cases t:10*b+(s[a].toNat-48)<=1000000000
    ·have n:U (gH s.toList=ve (s.toList.drop (a+1)) (10*b+(s[a].toNat-48))):=by
      rw[U,f.out,e.out,k.out,show b*10=10*b by omega,μ t];rfl
     have u:U (qH (bN s.toList) 0=qH (s.toList.drop (a+1)) (10*b+(s[a].toNat-48))):=by
      rw[U,l.out,j.out,show b*10=10*b by omega]
     clear k e j f l;rcases d with⟨g,m⟩|⟨g,m⟩
     ·go_wp2
      go_round
      ·exact⟨a+1,10*b+(s[a].toNat-48),M,(by first|rfl|(rw[g];simp)),J,aP,M,M,n,u⟩
      simp[C1];omega
     have o:¬49<=(s[a].toNat:V):=M
     go_wp2
     go_round
     ·exact⟨a+1,10*b+(s[a].toNat-48),M,(by first|rfl|(rw[g];simp)),J,aP,M,M,n,u⟩
     simp[C1];omega
    have c:U (gH s.toList=I):=by rw[U,f.out,e.out,show b*10=10*b by omega,ο t];simp
    clear k e j f l;rcases d with⟨g,m⟩|⟨g,m⟩
    ·go_wp2
     go_ret2;exact⟨jG (dE c).symm c.symm,J⟩
    have o:¬49<=(s[a].toNat:V):=M
    go_wp2
    go_ret2;exact⟨jG (dE c).symm c.symm,J⟩
   have c:U (gH s.toList=I):=by
    have B:(decide (49<=(s[a].toNat:V))&&decide ((s[a].toNat:V)<=57)||(decide ((s[a].toNat:V)=48)&&decide (0<b)))=I:=by
     rw[ρ];intro i;exact d (by simpa using i)
    rw[U,f.out,e.out,B];rfl
   clear e j f l;by_cases g:49<=(s[a].toNat:V)
   ·have m:¬(s[a].toNat:V)<=57:=λi=>d (C4 ⟨g,i⟩);clear d
    go_wp2
    go_ret2;exact⟨jG (dE c).symm c.symm,J⟩
   by_cases o:(s[a].toNat:V)=48
   ·have a1:¬0<b:=λi=>d (D4 ⟨o,i⟩);clear d
    go_wp2
    go_ret2;exact⟨jG (dE c).symm c.symm,J⟩
   clear d
   go_wp2
   go_ret2;exact⟨jG (dE c).symm c.symm,J⟩
  have a9:((a:V)==0)=I:=aN;clear r;have e:=AY b z;replace e:U _:=e;have j:=Av b z;replace j:U _:=j;by_cases O:(s[a].toNat:V)=45
  ·have c:U (gH s.toList=I):=by rw[U,f.out,e.out,O];simp
   go_wp2
   go_ret2;exact⟨jG (dE c).symm c.symm,J⟩
  by_cases d:(49<=(s[a].toNat:V)/\(s[a].toNat:V)<=57)\/((s[a].toNat:V)=48/\0<b)
  ·have k:U ((decide (49<=(s[a].toNat:V))&&decide ((s[a].toNat:V)<=57)||(decide ((s[a].toNat:V)=48)&&decide (0<b)))=A):=by rw[U];simpa using d
   have a0:48<=(s[a].toNat:V)/\(s[a].toNat:V)<=57:=M;by_cases t:10*b+(s[a].toNat-48)<=1000000000
   ·have n:U (gH s.toList=ve (s.toList.drop (a+1)) (10*b+(s[a].toNat-48))):=by
     rw[U,f.out,e.out,k.out,show b*10=10*b by omega,μ t];rfl
    have u:U (qH (bN s.toList) 0=qH (s.toList.drop (a+1)) (10*b+(s[a].toNat-48))):=by
     rw[U,l.out,j.out,show b*10=10*b by omega]
    clear k e j f l;rcases d with⟨g,m⟩|⟨g,m⟩
    ·go_wp2
     go_round
     ·exact⟨a+1,10*b+(s[a].toNat-48),M,(by first|rfl|(rw[g];simp)),J,aP,M,M,n,u⟩
     simp[C1];omega
    have o:¬49<=(s[a].toNat:V):=M
    go_wp2
    go_round
    ·exact⟨a+1,10*b+(s[a].toNat-48),M,(by first|rfl|(rw[g];simp)),J,aP,M,M,n,u⟩
    simp[C1];omega
   have c:U (gH s.toList=I):=by rw[U,f.out,e.out,show b*10=10*b by omega,ο t];simp
   clear k e j f l;rcases d with⟨g,m⟩|⟨g,m⟩
   ·go_wp2
    go_ret2;exact⟨jG (dE c).symm c.symm,J⟩
   have o:¬49<=(s[a].toNat:V):=M
   go_wp2
   go_ret2;exact⟨jG (dE c).symm c.symm,J⟩
  have c:U (gH s.toList=I):=by
   have B:(decide (49<=(s[a].toNat:V))&&decide ((s[a].toNat:V)<=57)||(decide ((s[a].toNat:V)=48)&&decide (0<b)))=I:=by
    rw[ρ];intro i;exact d (by simpa using i)
   rw[U,f.out,e.out,B];rfl
  clear e j f l;by_cases g:49<=(s[a].toNat:V)
  ·have m:¬(s[a].toNat:V)<=57:=λi=>d (C4 ⟨g,i⟩);clear d
   go_wp2
   go_ret2;exact⟨jG (dE c).symm c.symm,J⟩
  by_cases o:(s[a].toNat:V)=48
  ·have a1:¬0<b:=λi=>d (D4 ⟨o,i⟩);clear d
   go_wp2
   go_ret2;exact⟨jG (dE c).symm c.symm,J⟩
  clear d
  go_wp2
  go_ret2;exact⟨jG (dE c).symm c.symm,J⟩
 have C:=NF s a b M;have k:U (gH s.toList=A):=by rw[U,f.out,C.1]
 have W:U (AZ s.toList=b):=by rw[U,v.out k.out,l.out,C.2]
 clear C
 go_wp2
 go_ret2;exact⟨jG (by rw[W.out]) k.symm,J⟩
theorem oG(a:G7)(b:Z)(c:b<256):((a.toNat:V)==(b:V))=(a==D2 b):=by
 rw[wM (c:=a) b c,C3];simp
theorem Xc(a:b1=d++T):b1[G d]? =T[0]? :=by
 subst a;rw[ι (Θ _)];simp
def BD(l:Bs):Z:=(l.takeWhile (· != 46)).length
theorem Fh(a:Bs):a=a.takeWhile (· != 46)++a.dropWhile (· != 46):=(G3).symm
theorem acV(b:e<BD a.toList)(c:e<a.size):((a[e].toNat:V)==46)=I:=by
 have g:a.toList[e]'(by rw[aj];exact c)=a[e]:=gp a e c;have i:=Fh a.toList;have d:a.toList[e]? =(a.toList.takeWhile (· != 46))[e]? :=by
  conv=>lhs;rw[i]
  rw[σ b]
 rw[C8 (by rw[aj];exact c),g,C8 b]at d;have j:=I8 b;have f:((a.toList.takeWhile (· != 46))[e] != 46)=A:=by
  have:=F9 (l:=a.toList) (p:=(· != 46));rw[Δ]at this;exact this _ j
 rw[<-κ d]at f;have k:(a[e]==46)=I:=by simpa using f
 rw[<-k];exact oG a[e] 46 M
theorem Xr(e:BD a.toList<a.size):((a[BD a.toList].toNat:V)==46)=A:=by
 have f:=Fh a.toList;have b:G a.toList=BD a.toList+(a.toList.dropWhile (· != 46)).length:=by
  have:=K2 G f;rwa[D0]at this
 rw[aj]at b
 cases c:a.toList.dropWhile (· != 46)with
 |nil=>rw[c]at b;simp at b;omega
 |cons d k=>
  have i:(d != 46)=I:=by
   have:=C7 (p:=(· != 46)) a.toList;rw[c]at this;simpa using this
  have g:a.toList[BD a.toList]? =E d:=by
   have:=Xc f;rw[c]at this;exact this
  rw[C8 (by rw[aj];exact e),gp a _ e]at g;have j:=κ g;rw[j];have:d=46:=by simpa using i
  rw[this];rfl
theorem Jz(a:φ):a.toList.contains 46=decide (BD a.toList<a.size):=by
 cases b:a.toList.contains 46 with
 |true=>have:=(ui b).2.1;rw[aj]at this;symm;exact μ this
 |false=>
  symm;rw[I1];intro c;have:=Xr c;have d:a.toList.contains 46=A:=by
   rw[H9];have f:=gp a _ c;have g:a[BD a.toList]=46:=by
    have e:=this;rw[show((46:V))=((46:Z):V)from J]at e;apply A6.mp;simp at e ⊢;omega
   rw[<-g,<-f];exact I8 _
  rw[b]at d;cases d
theorem ma(q:a.size<=A3):
  Φ B3 180 #[δ a] f λw x=>Bl f x/\∃r s:φ,w=Γ (E8 #[δ r,δ s,υ (jq a.toList)])/\
   (jq a.toList=A->r.toList=a.toList.takeWhile (· != 46)/\s.toList=(a.toList.dropWhile (· != 46)).drop 1):=by
 have:=q;unfold A3 at q;obtain⟨b,e⟩:=au (BD a.toList);have l:∀c,c<b->∀g:c<a.size,((a[c].toNat:V)==46)=I:=λc d g=>acV M g;have m:∀g:b<a.size,((a[b].toNat:V)==46)=A:=by subst e;exact λg=>Xr g
 have i:a.toList.contains 46=decide (b<a.size):=by rw[e];exact Jz a
 have n:b<a.size->jq a.toList=(aW (a.toList.take b)&&aW (a.toList.drop (b+1))):=by
  intro d;have j:=ui (l:=a.toList) (c:=46) (by rw[i];simpa using d);have o:a.toList.take b=a.toList.takeWhile (· != 46):=by rw[e];exact j.2.2.1
  have t:a.toList.drop (b+1)=(a.toList.dropWhile (· != 46)).drop 1:=by rw[<-j.2.2.2,ω];congr 1;rw[e];rfl
  rw[jq,i,μ d,o,t];rfl
 have o:b<a.size->a.toList.take b=a.toList.takeWhile (· != 46)/\a.toList.drop (b+1)=(a.toList.dropWhile (· != 46)).drop 1:=by
  intro d;have j:=ui (l:=a.toList) (c:=46) (by rw[i];simpa using d);exact⟨by rw[e];exact j.2.2.1,by rw[<-j.2.2.2,ω];congr 1;rw[e];rfl⟩
 change U _ at l;change U _ at m;change U _ at i;change U _ at n;change U _ at o;clear e;go_enter func180,ntmps180;go_wp2_with fail;go_loop [5,6] (λe j=>∃(c:Z) (k:V),c<=a.size/\j=Y Ω c/\e=Y Ω k/\((k= -1/\c<=b)\/(k=b/\b<c))) (λ_ e=>a.size-(C1 e).toNat)
 ·exact⟨0, -1,B0 _,J,J,C4 ⟨J,B0 _⟩⟩
 obtain⟨c,k,g,rfl,rfl,t⟩:=hrel;by_cases u:c<a.size
 ·rcases t with⟨rfl,p⟩|⟨rfl,p⟩
  ·by_cases y:c<b
   ·have j:=l.out c y u
    go_wp2
    go_round
    ·exact⟨c+1, -1,M,aP,J,C4 ⟨J,M⟩⟩
    simp[C1];omega
   have e:c=b:=M;have j:((a[c].toNat:V)==46)=A:=by subst e;exact m u
   have v:U (c=b):=e;clear e
   go_wp2
   go_round
   ·exact⟨c+1,c,M,aP,J,D4 ⟨by rw[v.out],by rw[v.out];omega⟩⟩
   simp[C1];omega
  cases j:((a[c].toNat:V)==46)with
  |true=>
   go_wp2
   go_round
   ·exact⟨c+1,b,M,aP,J,D4 ⟨J,M⟩⟩
   simp[C1];omega
  |false=>
   go_wp2
   go_round
   ·exact⟨c+1,b,M,aP,J,D4 ⟨J,M⟩⟩
   simp[C1];omega
 rcases t with⟨rfl,p⟩|⟨rfl,p⟩
 ·have e:U (jq a.toList=I):=by
   rw[U,jq,i.out,ο M];rfl
  go_wp2
  go_ret3
  exact⟨B7 _ _,⟨#[]⟩,⟨#[]⟩,by rw[e.out];rfl,λd=>by rw[e.out]at d;cases d⟩
 have v:b<a.size:=M;have e:=n.out v;replace e:U _:=e;have j:=o.out v;replace j:U _:=j;have:(a.extract 0 b).size<=A3:=by unfold A3;simp;omega
 have:(a.extract (b+1) a.size).size<=A3:=by unfold A3;simp;omega
 rw[<-zh,<-vN]at e j;clear l m i n o
 cases i:aW (a.extract 0 b).toList with
 |true=>
  go_wp2_with(go_at_call 111;refine bP (iZ _ _ (by assumption)) ?_);go_region;all_goals(try go_wp2)
  all_goals go_ret3
  exact⟨J9 (B7 _ _),_,_,by rw[e.out,i];rfl,λ_=>j.out⟩
 |false=>
  go_wp2_with(go_at_call 111;refine bP (iZ _ _ (by assumption)) ?_);go_region;all_goals(try go_wp2)
  all_goals go_ret3
  exact⟨J9 (B7 _ _),_,_,by rw[e.out,i];rfl,λ_=>j.out⟩
def kJ(l:Bs):G5:=gH l||jq l||fJ l||nG l||lN l
theorem NQ(a):decide (0<=vg a)=lN a:=by
 unfold vg
 cases b:lN a with
 |false=>rfl
 |true=>
  unfold lN at b;simp only[η]at b;have d:=qm b.1.2;have e:¬(a.getD 1 0).toNat=48:=by
   intro c;have:a.getD 1 0=48:=A6.mp c;rw[this]at b;simp at b
  rw[θ J];exact μ M
theorem Cf(b:φ)(m)(a:b.size<=A3):
  Φ B3 108 #[δ b] m (RB (υ (kJ b.toList)) m):=by
 have o:U _:=NQ b.toList;have d:U (kJ b.toList=(gH b.toList||jq b.toList||fJ b.toList||nG b.toList||lN b.toList)):=J
 cases e:gH b.toList with
 |true=>
  go_enter F3,E6;go_wp2_with(go_at_call 179;refine bP (jE a) ?_);refine(ma a).mono ?_;rintro f i ⟨c,j,k,rfl,_⟩;go_wp2_with(first|(go_at_call 181;refine bP (lF a) ?_)|(go_at_call 112;refine bP eH ?_)|(go_at_call 182;refine bP iD ?_));go_ret;exact⟨aG (by rw[d.out,e];rfl),c⟩
 |false=>
  cases g:jq b.toList with
  |true=>
   go_enter F3,E6;go_wp2_with(go_at_call 179;refine bP (jE a) ?_);refine(ma a).mono ?_;rintro f i ⟨c,j,k,rfl,_⟩;go_wp2_with(first|(go_at_call 181;refine bP (lF a) ?_)|(go_at_call 112;refine bP eH ?_)|(go_at_call 182;refine bP iD ?_));go_ret;exact⟨aG (by rw[d.out,e,g];rfl),c⟩
  |false=>
   cases l:fJ b.toList with
   |true=>
    go_enter F3,E6;go_wp2_with(go_at_call 179;refine bP (jE a) ?_);refine(ma a).mono ?_;rintro f i ⟨c,j,k,rfl,_⟩;go_wp2_with(first|(go_at_call 181;refine bP (lF a) ?_)|(go_at_call 112;refine bP eH ?_)|(go_at_call 182;refine bP iD ?_));go_ret;exact⟨aG (by rw[d.out,e,g,l];rfl),c⟩
   |false=>
    cases n:nG b.toList with
    |true=>
     go_enter F3,E6;go_wp2_with(go_at_call 179;refine bP (jE a) ?_);refine(ma a).mono ?_;rintro f i ⟨c,j,k,rfl,_⟩;go_wp2_with(first|(go_at_call 181;refine bP (lF a) ?_)|(go_at_call 112;refine bP eH ?_)|(go_at_call 182;refine bP iD ?_));go_ret;exact⟨aG (by rw[d.out,e,g,l,n];rfl),c⟩
    |false=>
     go_enter F3,E6;go_wp2_with(go_at_call 179;refine bP (jE a) ?_);refine(ma a).mono ?_;rintro f i ⟨c,j,k,rfl,_⟩;go_wp2_with(first|(go_at_call 181;refine bP (lF a) ?_)|(go_at_call 112;refine bP eH ?_)|(go_at_call 182;refine bP iD ?_));go_ret;exact⟨aG (by rw[d.out,e,g,l,n,<-o.out];rfl),c⟩
def bC(l:Ξ Bs)(x:Bs):G5:=l.contains x
theorem Gy(a)(c:φ)(e g j){cap}(p:G a<=cap)(o:cap<=100000)(i:∀d (n:d<G a),ψ e ⟨g,j+d,D⟩=E (δ (ae a[d]))):
  Φ B3 113 #[H (E (Q g j D)) (G a) cap,δ c] e (RE (υ (bC a c.toList)) e):=by
 change U _ at i;go_enter func113,ntmps113;go_wp2_with fail;go_loop [5] (λf=>∃b:Z,b<=G a/\f=Y Ω b/\U (bC a c.toList=bC (a.drop b) c.toList)) (λd=>G a-(C1 d).toNat)
 ·exact⟨0,B0 _,J,J⟩
 obtain⟨b,_,rfl,f⟩:=hrel;by_cases k:b<G a
 ·have:=i.out b k;have l:U (bC (a.drop b) c.toList=(a[b]==c.toList||bC (a.drop (b+1)) c.toList)):=by
   unfold bC;rw[U,D9 k,I4];congr 1;rw[C3];simp;exact eq_comm
  have:(ae a[b]).toList=a[b]:=ay
  cases m:(a[b]==c.toList)with
  |true=>
   go_wp2
   go_ret;exact⟨aG (by rw[f.out,l.out,m];rfl),J⟩
  |false=>
   go_wp2
   go_round
   ·exact⟨b+1,M,aP,by rw[U,f.out,l.out,m];rfl⟩
   simp[C1];omega
 have l:U (bC (a.drop b) c.toList=I):=by
  rw[U,ξ M];rfl
 go_wp2
 go_ret;exact⟨aG (by rw[f.out,l.out]),J⟩
def jX:Ξ Bs:=[[43],[45],[42],[47],[61],[60],[60,61]]
theorem rQ(a):bC jX a=lZ a:=by
 unfold bC jX lZ;simp only[I4,List.contains_nil,J4];simp only[Bool.or_assoc]
def sK(l:Bs):G5:=lZ l||(aW l&& !nG l)
theorem Cg(a:φ)(c)(i:a.size<=A3):
  Φ B3 107 #[δ a] c (RB (υ (sK a.toList)) c):=by
 have f:∀b:A5,Φ B3 178 #[] b λl m=>l=Γ (H (E (Q (γ (β b)) 0 D)) 7 7)/\m=b.alloc (τ (jX.map λe=>δ (ae e)).toArray 9):=by
  intro b;go_enter func178,ntmps178
  go_wp2
  go_ret;exact⟨J,J⟩
 have g:∀b:A5,b.heap[γ (β c)]? =E (τ (jX.map λe=>δ (ae e)).toArray 9 (0,0))->Φ B3 113 #[H (E (Q (γ (β c)) 0 D)) 7 7,δ a] b (RE (υ (lZ a.toList)) b):=by
  intro b d;rw[<-rQ];refine Gy jX a b (γ (β c)) 0 (cap:=7) ag M (λk j=>?_);have n:k<G jX:=j;simp[ψ,d,n]
 have d:U (sK a.toList=(lZ a.toList||(aW a.toList&& !nG a.toList))):=J;obtain⟨o,j⟩:=au (τ (jX.map λe=>δ (ae e)).toArray 9);rw[<-j]at g;simp only[<-j]at f;clear j
 cases j:lZ a.toList with
 |true=>
  rw[j]at d;go_enter H5,H2;go_wp2_with(first|(go_at_call 178;refine bP (f _) ?_)|(go_at_call 113;refine bP (g _ (bS c (o:=o))) ?_)|(go_at_call 111;refine bP (iZ _ _ i) ?_)|(go_at_call 112;refine bP eH ?_));go_ret;exact⟨aG (by rw[d.out];rfl),(B7 _ _).alloc (Θ _) _⟩
 |false=>
  rw[j]at d
  cases k:aW a.toList with
  |true=>
   rw[k]at d;go_enter H5,H2;go_wp2_with(first|(go_at_call 178;refine bP (f _) ?_)|(go_at_call 113;refine bP (g _ (bS c (o:=o))) ?_)|(go_at_call 111;refine bP (iZ _ _ i) ?_)|(go_at_call 112;refine bP eH ?_));go_ret;exact⟨aG (by rw[d.out];rfl),(B7 _ _).alloc (Θ _) _⟩
  |false=>
   rw[k]at d;go_enter H5,H2;go_wp2_with(first|(go_at_call 178;refine bP (f _) ?_)|(go_at_call 113;refine bP (g _ (bS c (o:=o))) ?_)|(go_at_call 111;refine bP (iZ _ _ i) ?_)|(go_at_call 112;refine bP eH ?_));go_ret;exact⟨aG (by rw[d.out];rfl),(B7 _ _).alloc (Θ _) _⟩
theorem oC(e:aW d=A):lZ d=I/\gH d=I/\fJ d=I/\lN d=I/\jq d=I/\(d== [40])=I/\(d== [41])=I:=by
 unfold aW at e;simp only[η,B4]at e;obtain⟨⟨⟨o,_⟩,i⟩,p⟩:=e
 cases d with
 |nil=>simp at o
 |cons a f=>
  rw[ν]at i;have B:97<=(a.toNat:V)/\(a.toNat:V)<=122:=by unfold fI at i;simpa using i
  have b:∀g:Z,g<97->(a==D2 g)=I:=by
   intro g _;rw[wM (c:=a) g M];simp;omega
  have q:=b 43 M;have k:=b 45 M;have r:=b 42 M;have s:=b 47 M;have t:=b 61 M;have l:=b 60 M;have u:=b 48 M;have v:=b 39 M;have w:=b 36 M;have x:=b 40 M;have y:=b 41 M;have c:∀(j:G7) (m:Bs),(a==j)=I->((a::f)==(j::m))=I:=by
   intro j m n;rw[List.cons_beq_cons,n];rfl
  have z:(a::f).contains 46=I:=by
   rw[ρ];intro n;rw[H9]at n;have:=Δ.mp p 46 n;simp[Em,fI,dD]at this
  refine⟨?_, ?_, ?_, ?_, ?_,c 40 [] x,c 41 [] y⟩
  ·unfold lZ;rw[c 43 [] q,c 45 [] k,c 42 [] r,c 47 [] s,c 61 [] t,c 60 [] l,c 60 [61] l];rfl
  ·rw[Ig (c 48 [] u)];have n:bN (a::f)=a::f:=by unfold bN;rw[ε];rw[ν];intro e;rw[show(45:G7)=D2 45 from J,k]at e;cases e
   rw[n,ve];have:(decide (49<=(a.toNat:V))&&decide ((a.toNat:V)<=57)||(decide ((a.toNat:V)=48)&&decide ((0:V)<0)))=I:=aN;rw[this];simp
  ·unfold fJ;have:((a::f).getD 0 0==39)=I:=v;rw[this];simp
  ·unfold lN;have:((a::f).headD 0==36)=I:=w;rw[this];simp
  unfold jq;rw[z];rfl
theorem Hl(c:bg (d.headD 0).toNat=I):nL (bF d) d=sK d:=by
 have b:(d== [40])=I/\(d== [41])=I:=by
  constructor
  iterate 2
   ·rw[ρ];intro a;rw[χ]at a;subst a;cases c
 unfold bF sK;rw[b.1,b.2,ε α,ε α]
 cases i:lZ d with
 |true=>rw[θ J];rfl
 |false=>
  rw[ε α,H4]
  cases e:aW d with
  |true=>
   have a:=oC e;rw[a.2.1,a.2.2.1,a.2.2.2.1,ε α,ε α,ε α,θ J];rfl
  |false=>
   have:∀a:V,a≠8->a≠5->nL a d=I:=by intro a f g;simp[nL,f,g]
   rw[Bool.false_and];split
   ·exact this 3 ag ag
   split
   ·exact this 4 ag ag
   split
   ·exact this 7 ag ag
   rw[ε α];split
   ·exact this 6 ag ag
   exact this 0 ag ag
theorem Fq(a:nG d=A):aW d=A:=by
 unfold nG at a;simp only[C2,χ]at a;rcases a with(a|a)|a<;>(subst a;decide)
theorem Ii(a:lZ d=A):kJ d=I/\nG d=I:=by
 unfold lZ at a;simp only[C2,χ]at a;rcases a with(((((a|a)|a)|a)|a)|a)|a<;>(subst a;decide)
theorem GG(j:bg (d.headD 0).toNat=I):jB (bF d) d=kJ d:=by
 have g:(d== [40])=I/\(d== [41])=I:=by
  constructor
  iterate 2
   ·rw[ρ];intro a;rw[χ]at a;subst a;cases j
 unfold bF;rw[g.1,g.2,ε α,ε α]
 cases k:lZ d with
 |true=>
  have:=Ii k;rw[θ J,this.1];unfold jB;rw[this.2];rfl
 |false=>
  rw[ε α]
  cases b:gH d with
  |true=>rw[θ J];unfold kJ;rw[b];rfl
  |false=>
   rw[ε α]
   cases c:fJ d with
   |true=>rw[θ J];unfold kJ;rw[c];simp[jB]
   |false=>
    rw[ε α]
    cases e:lN d with
    |true=>rw[θ J];unfold kJ;rw[e];simp[jB]
    |false=>
     rw[ε α]
     cases f:aW d with
     |true=>
      have a:=oC f;rw[θ J];unfold kJ;rw[b,c,e,a.2.2.2.2.1];simp[jB]
     |false=>
      have a:nG d=I:=by
       cases a:nG d with
       |false=>rfl
       |true=>rw[Fq a]at f;cases f
      rw[ε α]
      cases i:jq d with
      |true=>rw[θ J];unfold kJ;rw[i];simp[jB]
      |false=>rw[ε α];unfold kJ;rw[b,c,e,i,a];simp[jB,a]
def vR(c:G7):G5:=gF c.toNat
def om(l:Bs):Z:=G (l.takeWhile vR)
def fF(w:A5)(rb:Z)(s:φ)(k:Z)(v:C0):Prop:=w.heap[rb]? =E (τ #[δ s,Y Ω k,v] 180 (0,0))
theorem gU{a}(b:f.heap[e]? =E (τ #[m,u,B] a (0,0))):
  (ψ f (Q e 0 D)=E m/\ψ f (Q e 1 D)=E u/\ψ f (Q e 2 D)=E B)/\(E1 f (Q e 1 D)=I/\E1 f (Q e 2 D)=I):=by
 simp[ψ,E1,b]
theorem fF.set(c:fF f e a n m)(b:Z):fF (f.setCell (Q e 1 D) (Y Ω b)) e a b m:=by
 unfold fF at*;simp[A4,B2,c]
theorem fF.inc(b:fF f n a e m):fF (f.setCell (Q n 1 D) (Y Ω ((e:V)+1))) n a (e+1) m:=b.set (e+1)
theorem fF.lt{w k}(b:fF w e a k m):e<γ (β w):=af b
theorem jL{row}(a:f.grownBy s row):f.grownBy (s.drewN e) row:=⟨a.os,a.tape,a.output,a.size,a.block⟩
theorem fF.drewN(b:fF f n a e m)(c):fF (f.drewN c) n a e m:=b
theorem abR(b:e<a.size):om (a.toList.drop e)=if vR a[e]then om (a.toList.drop (e+1))+1 else 0:=by
 unfold om;rw[D7 b,A8];split<;>simp
theorem adW(b:φ)(a)(c:b.size<=a):om (b.toList.drop a)=0:=by
 unfold om;rw[ξ (by rw[aj];exact c)];rfl
theorem nD(z:a.size<=400){rb k0}(n:fF f rb a k0 m)(w:k0<=a.size):
  Φ B3 105 #[B9 (E (Q rb 0 D))] f λv o=>v=Γ (υ (decide (0<om (a.toList.drop k0))))/\k0+om (a.toList.drop k0)<=a.size/\f.grownBy o (E rb)/\fF o rb a (k0+om (a.toList.drop k0)) m:=by
 obtain⟨⟨p,q,r⟩,s,t⟩:=gU n;go_enter func105,ntmps105;go_wp2_with fail;go_loopg [8] (a.size-k0) (λgk _ wr=>∃b:Z,gk=a.size-b/\b<=a.size/\k0<=b/\U (k0+om (a.toList.drop k0)=b+om (a.toList.drop b))/\f.grownBy wr (E rb)/\fF wr rb a b m)
 ·exact⟨k0,J,w,Θ _,J,iG _,n⟩
 clear p q r s t;obtain⟨b,x,u,_,e,j,i⟩:=hrel;subst x;obtain⟨⟨p,q,r⟩,s,t⟩:=gU i;by_cases y:b<a.size
 ·have g:=abR y;replace g:U _:=g;by_cases k:gF a[b].toNat=A
  ·have c:U (k0+om (a.toList.drop k0)=(b+1)+om (a.toList.drop (b+1))):=by
    rw[U,e.out,g.out,vR,k];simp;omega
   go_wp2_with fail
   go_quiet ((go_at_call 176;exact A1 qd))
   go_wp2
   go_roundg (a.size-(b+1))
   case measure=>omega
   exact⟨b+1,J,M,M,c,jL (aO j gz),(i.inc).drewN _⟩
  rw[B1]at k;have c:U (om (a.toList.drop b)=0):=by rw[U,g.out,vR,k];rfl
  have d:U (k0+om (a.toList.drop k0)=b):=by rw[U,e.out,c.out];rfl
  have l:U (decide (0<om (a.toList.drop k0))=decide (k0<b)):=by rw[U,J7];have:=d.out;omega
  clear e g c;go_wp2_with fail
  go_quiet ((go_at_call 176;exact A1 qd))
  go_wp2
  go_ret;exact⟨aG l.symm,by rw[d.out];exact u,jL j,by rw[d.out];exact i⟩
 have c:U (om (a.toList.drop b)=0):=adW a b M;have d:U (k0+om (a.toList.drop k0)=b):=by rw[U,e.out,c.out];rfl
 have l:U (decide (0<om (a.toList.drop k0))=decide (k0<b)):=by rw[U,J7];have:=d.out;omega
 have:decide ((b:V)<(a.size:V))=I:=aN;clear e c;go_wp2_with fail
 go_quiet ((go_at_call 176;exact A1 qd))
 go_wp2
 go_ret;exact⟨aG l.symm,by rw[d.out];exact u,jL j,by rw[d.out];exact i⟩
def nz(c:G7):G5:= !gF c.toNat&& !bg c.toNat&& !(c==39)
def sV:Bs->Z
 | []=>0
 |c::r=>if c==39 then 1 else sV r+1
def vw:Bs->Z
 | []=>0
 |c::r=>if nz c then vw r+1 else 0
def dM(l:Bs):Z:=1+(if l.headD 0==39 then sV (l.drop 1)else vw (l.drop 1))
theorem abL(a):sV a<=G a:=by
 induction a with
 |nil=>simp[sV]
 |cons b c ih=>rw[sV];split<;>simp;omega
theorem abK(a):vw a<=G a:=by
 induction a with
 |nil=>simp[vw]
 |cons b c ih=>rw[vw];split<;>simp;omega
theorem Pe(a:Bs)(d:0<G a):dM a<=G a:=by
 unfold dM;have b:=abL (a.drop 1);have c:=abK (a.drop 1);rw[ζ]at b c;split<;>omega
theorem VJ(b:e<a.size):sV (a.toList.drop e)=if a[e]==39 then 1 else sV (a.toList.drop (e+1))+1:=by rw[D7 b,sV]
theorem VI(b:e<a.size):vw (a.toList.drop e)=if nz a[e]then vw (a.toList.drop (e+1))+1 else 0:=by rw[D7 b,vw]
theorem abM(b:φ)(a)(c:b.size<=a):sV (b.toList.drop a)=0/\vw (b.toList.drop a)=0:=by
 rw[ξ (by rw[aj];exact c)];exact⟨J,J⟩
theorem eP{row}(a:f.grownBy s row):f.grownBy s.drew row:=⟨a.os,a.tape,a.output,a.size,a.block⟩
theorem fF.drew(b:fF f n a e m):fF f.drew n a e m:=b
theorem Ot(b:e<a.size):(a.toList.drop e).isEmpty=I/\(a.toList.drop e).headD 0=a[e]:=by
 rw[D7 b];exact⟨J,J⟩
theorem aaV(c:φ)(a b):(c.extract a (a+b)).toList=(c.toList.drop a).take b:=by
 rw[ByteArray.toList_eq,ByteArray.data_extract,Array.toList_extract,<-ByteArray.toList_eq,List.extract_eq_take_drop,Nat.add_sub_cancel_left]
def qI(l:Bs)(n:Z):G5:=decide (0<om (l.drop n))||(l.drop n).isEmpty||bg ((l.drop n).headD 0).toNat
def dV(l:Bs):Bs:=if qI l (dM l)then l.take (dM l)else []
theorem Fg(b:fF f n a e m)(g:e<=a.size)(c:e=a.size\/∃d:e<a.size,bg a[e].toNat=A):
  Φ B3 106 #[B9 (E (Q n 0 D))] f (RE (δ ⟨#[]⟩) f):=by
 obtain⟨⟨_,_,_⟩,_,_⟩:=gU b;by_cases d:e<a.size
 ·have:bg a[e].toNat=A:=by rcases c with b|⟨_,b⟩;omega;exact b
  clear c;go_enter H6,H3;go_wp2_with(go_at_call 177;refine bP gI ?_);go_ret;exact⟨J,J⟩
 clear c;go_enter H6,H3;go_wp2_with(go_at_call 177;refine bP gI ?_);go_ret;exact⟨J,J⟩
theorem yJ{a:φ}(c7:a.size<=400){y:A5}(t){b a7}(p:fF y t a b a7)(c6:b<a.size)(c9:bg a[b].toNat=I):
  Φ B3 106 #[B9 (E (Q t 0 D))] y λd z=>d=Γ (δ (ae (dV (a.toList.drop b))))/\
   (∃b3,b3=b+dM (a.toList.drop b)+om (a.toList.drop (b+dM (a.toList.drop b)))/\b3<=a.size/\y.grownBy z (E t)/\fF z t a b3 a7):=by
 obtain⟨⟨O,v,P⟩,L,N⟩:=gU p;obtain⟨a6,b2⟩:=au (a[b]==39);have a8:U (b+dM (a.toList.drop b)=(b+1)+(if a6 then sV (a.toList.drop (b+1))else vw (a.toList.drop (b+1)))):=by
  rw[U,b2,dM,D7 c6];simp only[ν,D6,C6];omega
 have e5:((a[b].toNat:V)==39)=a6:=by rw[b2];exact oG a[b] 39 M
 have b1:=Pe (a.toList.drop b) (by rw[ζ,aj];omega);rw[ζ,aj]at b1;clear b2;have e0:decide (a.size<=b)=I:=aN;have e1:decide ((a.size:V)<=(b:V))=I:=aN;have B:∀(l:V) (u:A5),Φ B3 177 #[Y H0 l] u λd z=>d=Γ (υ (bg l))/\u=z:=λl u=>(gI (c:=l) (w:=u)).mono λd z p=>⟨p.1,p.2.symm⟩;have K:∀(l:V) (u:A5),Φ B3 176 #[Y H0 l] u λd z=>d=Γ (υ (gF l))/\u=z:=λl u=>(qd (c:=l) (w:=u)).mono λd z p=>⟨p.1,p.2.symm⟩;go_enter H6,H3;go_upto_block 0 with(go_at_call 177;refine(B _ _).mono ?_;rintro d k ⟨rfl,rfl⟩)
 go_cut [] (λc2=>y.grownBy c2 (E t)/\fF c2 t a (b+dM (a.toList.drop b)) a7)
 ·go_wp2_with fail;go_loopg [5] (a.size-(b+1)) (λgk _ wr=>∃c:Z,gk=a.size-c/\c<=a.size/\b<c/\U (b+dM (a.toList.drop b)=c+(if a6 then sV (a.toList.drop c)else vw (a.toList.drop c)))/\y.grownBy wr (E t)/\fF wr t a c a7)
  ·exact⟨b+1,J,M,M,a8,gz,p.inc⟩
  clear O v P L N a8 p;obtain⟨c,c4,e2,e4,g,q,i⟩:=hrel;subst c4;obtain⟨⟨O,v,P⟩,L,N⟩:=gU i;by_cases b8:c<a.size
  ·have a3:((a[c].toNat:V)==39)=(a[c]==39):=oG a[c] 39 M;have o:=VJ b8;have n:=VI b8
   cases a6 with
   |true=>
    cases m:(a[c]==39)with
    |true=>
     rw[m]at a3 o;have j:U (b+dM (a.toList.drop b)=c+1):=by rw[U,g.out,θ J,o];rfl
     clear g o n m;go_wp2_with fail;go_region;all_goals(try go_wp2_with fail)
     go_region;all_goals(try go_wp2_with(first|(go_at_call 177;refine(B _ _).mono ?_;rintro d k ⟨rfl,rfl⟩)|(go_at_call 176;refine(K _ _).mono ?_;rintro d k ⟨rfl,rfl⟩)))
     go_meet;rw[j.out];constructor
     ·exact eP (eP (aO q gz))
     exact i.inc
    |false=>
     rw[m]at a3 o;have j:U (b+dM (a.toList.drop b)=(c+1)+(if A then sV (a.toList.drop (c+1))else vw (a.toList.drop (c+1)))):=by
      rw[U,g.out,θ J,θ J,o,ε α];omega
     clear g o n m;go_wp2_with fail;go_region;all_goals(try go_wp2_with fail)
     go_region;all_goals(try go_wp2_with(first|(go_at_call 177;refine(B _ _).mono ?_;rintro d k ⟨rfl,rfl⟩)|(go_at_call 176;refine(K _ _).mono ?_;rintro d k ⟨rfl,rfl⟩)))
     go_roundg (a.size-(c+1))
     case measure=>omega
     refine⟨c+1,J,M,M,j, ?_, ?_⟩
     ·exact eP (eP (aO q gz))
     exact i.inc
   |false=>
    by_cases W:gF a[c].toNat=A
    ·have j:U (b+dM (a.toList.drop b)=c):=by rw[U,g.out,ε α,n,nz,W];rfl
     clear g o n;go_wp2_with fail;go_region;all_goals(try go_wp2_with fail)
     go_region;all_goals(try go_wp2_with(first|(go_at_call 177;refine(B _ _).mono ?_;rintro d k ⟨rfl,rfl⟩)|(go_at_call 176;refine(K _ _).mono ?_;rintro d k ⟨rfl,rfl⟩)))
     go_meet;rw[j.out];constructor
     ·exact eP (eP q)
     exact i
    rw[B1]at W;by_cases C:bg a[c].toNat=A
    ·have j:U (b+dM (a.toList.drop b)=c):=by rw[U,g.out,ε α,n,nz,W,C];rfl
     clear g o n;go_wp2_with fail;go_region;all_goals(try go_wp2_with fail)
     go_region;all_goals(try go_wp2_with(first|(go_at_call 177;refine(B _ _).mono ?_;rintro d k ⟨rfl,rfl⟩)|(go_at_call 176;refine(K _ _).mono ?_;rintro d k ⟨rfl,rfl⟩)))
     go_meet;rw[j.out];constructor
     ·exact eP (eP q)
     exact i
    rw[B1]at C
    cases m:(a[c]==39)with
    |true=>
     have j:U (b+dM (a.toList.drop b)=c):=by rw[U,g.out,ε α,n,nz,W,C,m];rfl
     rw[m]at a3;clear g o n m;go_wp2_with fail;go_region;all_goals(try go_wp2_with fail)
     go_region;all_goals(try go_wp2_with(first|(go_at_call 177;refine(B _ _).mono ?_;rintro d k ⟨rfl,rfl⟩)|(go_at_call 176;refine(K _ _).mono ?_;rintro d k ⟨rfl,rfl⟩)))
     go_meet;rw[j.out];constructor
     ·exact eP (eP q)
     exact i
    |false=>
     have j:U (b+dM (a.toList.drop b)=(c+1)+(if I then sV (a.toList.drop (c+1))else vw (a.toList.drop (c+1)))):=by
      rw[U,g.out,ε α,ε α,n,nz,W,C,m];simp;omega
     rw[m]at a3;clear g o n m;go_wp2_with fail;go_region;all_goals(try go_wp2_with fail)
     go_region;all_goals(try go_wp2_with(first|(go_at_call 177;refine(B _ _).mono ?_;rintro d k ⟨rfl,rfl⟩)|(go_at_call 176;refine(K _ _).mono ?_;rintro d k ⟨rfl,rfl⟩)))
     go_roundg (a.size-(c+1))
     case measure=>omega
     refine⟨c+1,J,M,M,j, ?_, ?_⟩
     ·exact eP (eP (aO q gz))
     exact i.inc
  have j:U (b+dM (a.toList.drop b)=c):=by
   have:=abM a c M;rw[U,g.out,this.1,this.2];split<;>rfl
  clear g;go_wp2_with fail;go_region;all_goals(try go_wp2_with fail)
  go_meet;rw[j.out];constructor
  ·exact eP q
  exact i
 obtain⟨q,i⟩:=hcut;clear a8 O v P L N p;obtain⟨f,a4⟩:=au (dM (a.toList.drop b));rw[<-a4]at i b1;have S:U _:=a4;have b6:(a.toList.drop b).drop f=a.toList.drop (b+f):=by rw[ω]
 have T:U (a.extract b (b+f)=ae ((a.toList.drop b).take f)):=by
  rw[U,oN (a.extract b (b+f)),aaV]
 have a2:U (dV (a.toList.drop b)=if qI (a.toList.drop b) f then(a.toList.drop b).take f else []):=by rw[U,dV,<-a4]
 have a1:U (qI (a.toList.drop b) f=(decide (0<om (a.toList.drop (b+f)))||(a.toList.drop (b+f)).isEmpty||bg ((a.toList.drop (b+f)).headD 0).toNat)):=by rw[U,qI,b6]
 obtain⟨e,F⟩:=au (b+f);have e3:b<=e:=M;have c5:e<=a.size:=M;rw[<-F]at i T a1;change U _ at F;clear b6 a4 b1;obtain⟨⟨O,v,P⟩,L,N⟩:=gU i;go_wp2_with fail;go_region;go_wp2_with(go_at_call 105;refine(nD c7 i.drew c5).mono ?_);rintro d c8 ⟨rfl,x,b7,r⟩;have R:y.grownBy c8 (E t):=aO (eP q) b7;clear O v P L N q b7 i;obtain⟨⟨O,v,P⟩,L,N⟩:=gU r;by_cases X:0<om (a.toList.drop e)
 ·have w:U (dV (a.toList.drop b)=(a.toList.drop b).take f):=by
   rw[U,a2.out,a1.out,μ X];rfl
  obtain⟨a5,b0⟩:=au (e+om (a.toList.drop e));have b4:U _:=b0;rw[<-b0]at v x r;have b5:decide (0<om (a.toList.drop e))=A:=μ X;clear b0 X;by_cases b9:a5<a.size
  ·go_wp2_with fail
   go_quiet ((go_at_call 177;exact A1 gI))
   go_wp2
   go_ret;exact⟨by rw[w.out,<-T.out];rfl,a5,(by rw[b4.out,F.out,S.out]),x,jL R,r⟩
  have c3:decide ((a5:V)<(a.size:V))=I:=aN;go_wp2_with fail
  go_quiet ((go_at_call 177;exact A1 gI))
  go_wp2
  go_ret;exact⟨by rw[w.out,<-T.out];rfl,a5,(by rw[b4.out,F.out,S.out]),x,jL R,r⟩
 have s:om (a.toList.drop e)=0:=M;have b5:decide (0<om (a.toList.drop e))=I:=ο X;have a0:U (qI (a.toList.drop b) f=((a.toList.drop e).isEmpty||bg ((a.toList.drop e).headD 0).toNat)):=by rw[U,a1.out,b5];rfl
 have a9:U _:=s;rw[s]at v x r;simp only[Nat.add_zero]at v x r;clear s X a1;by_cases b9:e<a.size
 ·obtain⟨c0,c1⟩:=Ot b9;rw[c0,c1,H4]at a0;clear c0 c1
  cases C:bg a[e].toNat with
  |true=>
   have w:U (dV (a.toList.drop b)=(a.toList.drop b).take f):=by rw[U,a2.out,a0.out,C];rfl
   go_wp2_with fail
   go_quiet ((go_at_call 177;exact A1 gI))
   go_wp2
   go_ret;exact⟨by rw[w.out,<-T.out];rfl,e,(by have s:=a9.out;rw[F.out,S.out]at s ⊢;omega),x,jL R,r⟩
  |false=>
   have w:U (dV (a.toList.drop b)= []):=by rw[U,a2.out,a0.out,C];rfl
   go_wp2_with fail
   go_quiet ((go_at_call 177;exact A1 gI))
   go_wp2
   go_ret;exact⟨by rw[w.out];rfl,e,(by have s:=a9.out;rw[F.out,S.out]at s ⊢;omega),x,jL R,r⟩
 have w:U (dV (a.toList.drop b)=(a.toList.drop b).take f):=by
  have d:(a.toList.drop e).isEmpty=A:=by rw[ξ (by rw[aj];omega)];rfl
  rw[U,a2.out,a0.out,d];rfl
 have c3:decide ((e:V)<(a.size:V))=I:=aN;go_wp2_with fail
 go_quiet ((go_at_call 177;exact A1 gI))
 go_wp2
 go_ret;exact⟨by rw[w.out,<-T.out];rfl,e,(by have s:=a9.out;rw[F.out,S.out]at s ⊢;omega),x,jL R,r⟩
def uZ(l:Bs):G5:=l.all λc=> !(c==39)
theorem AR(a:aW d=A):uZ d=A:=by
 unfold aW at a;simp only[η]at a;unfold uZ;rw[Δ];intro b e;have:=Δ.mp a.2 b e
 cases c:(b==39)with
 |false=>rfl
 |true=>rw[χ]at c;subst c;simp[Em,fI,dD]at this
theorem Vd:∀a:V,dR d a=A->uZ d=A:=by
 induction d with
 |nil=>intro a _;rfl
 |cons e g ih=>
  intro a b;rw[dR,η,η]at b;have f:=qm b.1.1;unfold uZ;rw[A0,η];refine⟨?_,ih _ b.2⟩
  cases c:(e==39)with
  |false=>rfl
  |true=>rw[χ]at c;subst c;simp at f
theorem Yt(a:gH d=A):uZ d=A:=by
 unfold gH at a;rw[C2]at a;rcases a with a|a
 ·rw[χ]at a;subst a;decide
 simp only[η]at a;have b:=Vd _ a.2;unfold bN at b
 cases d with
 |nil=>rfl
 |cons e f=>
  rw[ν]at b
  cases c:(e==45)with
  |true=>
   rw[c,θ J]at b;rw[χ]at c;subst c;unfold uZ at b ⊢;rw[A0];simpa using b
  |false=>rw[c,ε α]at b;exact b
theorem Yu(c:lN d=A):uZ d=A:=by
 unfold lN at c;simp only[η,B4]at c;obtain⟨⟨⟨f,g⟩,i⟩,_⟩:=c
 match d,f with
 | [a,b],_=>
  have j:a=36:=by simpa using g
  have k:=qm i;subst j;unfold uZ;have:(b==39)=I:=by
   cases e:(b==39)with
   |false=>rfl
   |true=>rw[χ]at e;subst e;simp at k
  simp[this]
theorem Yr(a:jq d=A):uZ d=A:=by
 unfold jq at a;simp only[η]at a;obtain⟨⟨f,g⟩,i⟩:=a;have j:=AR g;have b:=AR i;have k:=Fh d;have m:=(ui f);unfold uZ at*;rw[k,List.all_append,j,Bool.true_and]
 cases c:d.dropWhile (· != 46)with
 |nil=>rfl
 |cons e n=>
  rw[c]at b;have l:(e != 46)=I:=by
   have:=C7 (p:=(· != 46)) d;rw[c]at this;simpa using this
  have:e=46:=by simpa using l
  subst this;rw[A0];simpa using b
theorem Ve(a:lZ d=A):uZ d=A:=by
 unfold lZ at a;simp only[C2,χ]at a;rcases a with(((((a|a)|a)|a)|a)|a)|a<;>(subst a;decide)
theorem vX(b:bF d≠0):fJ d=A\/uZ d=A:=by
 unfold bF at b;split at b
 ·next a=>right;rw[χ]at a;subst a;decide
 split at b
 ·next a=>right;rw[χ]at a;subst a;decide
 split at b
 ·next a=>right;exact Ve a
 split at b
 ·next a=>right;exact Yt a
 split at b
 ·next a=>left;exact a
 split at b
 ·next a=>right;exact Yu a
 split at b
 ·next a=>right;exact AR a
 split at b
 ·next a=>right;exact Yr a
 exact D5 J b
theorem yE(e:fJ d=A):∃i:Bs,d=39::(i++ [39])/\i.all (λc=>c != 39)=A:=by
 unfold fJ at e;simp only[η,B4]at e;obtain⟨⟨⟨⟨j,_⟩,m⟩,k⟩,f⟩:=e
 cases d with
 |nil=>simp at j
 |cons c l=>
  have n:c=39:=by simpa using m
  subst n
  cases g:l.reverse with
  |nil=>rw[List.reverse_eq_nil_iff]at g;subst g;simp at j
  |cons b a=>
   have o:l=a.reverse++ [b]:=by have:=K2 List.reverse g;simpa using this
   subst o;have p:b=39:=by
    have q:(39::(a.reverse++ [b])).getD (G (39::(a.reverse++ [b]))-1) 0=b:=by
     rw[List.getD_eq_getElem?_getD];simp
    rw[q]at k;simpa using k
   subst p;refine⟨a.reverse,J, ?_⟩;have q:((39::(a.reverse++ [39])).take (G (39::(a.reverse++ [39]))-1)).drop 1=a.reverse:=ak;rw[q]at f;rw[Δ]at f ⊢;intro r s;have:=f r s;unfold wD at this;simp only[η]at this;simpa using this.2
theorem Ou(c:Bs)(b:d.all (λa=>a != 39)=A):sV (d++39::c)=G d+1:=by
 induction d with
 |nil=>rfl
 |cons a e ih=>
  rw[A0,η]at b;have:(a==39)=I:=by simpa using b.1
  rw[E7,sV,this,ε α,ih b.2];simp
theorem Zk(b:T.all nz=A)(a:d= []\/nz (d.headD 0)=I):vw (T++d)=G T:=by
 induction T with
 |nil=>
  rcases a with rfl|a
  ·rfl
  cases d with
  |nil=>rfl
  |cons c d=>simp only[ν]at a;rw[J0,vw,a];rfl
 |cons c T ih=>
  rw[A0,η]at b;rw[E7,vw,b.1,θ J,ih b.2];simp
theorem Bb(a:G7):nz a=(!tq a&& !(a==39)):=by unfold nz tq;cases gF a.toNat<;>cases bg a.toNat<;>rfl
theorem Zp(a:xK (d.drop e)):qI d e=A:=by
 unfold qI;rcases a with a|a
 ·rw[a];rfl
 cases b:d.drop e with
 |nil=>rfl
 |cons c f=>
  rw[b]at a;simp only[ν]at a ⊢;unfold tq at a;rw[C2]at a;rcases a with a|a
  ·have:0<om (c::f):=by unfold om;rw[A8,vR,a];simp
   rw[μ this];rfl
  rw[a];simp
theorem Xu(a:qI d e=A):xK (d.drop e):=by
 unfold qI at a
 cases c:d.drop e with
 |nil=>exact C4 J
 |cons f g=>
  rw[c]at a;right;simp only[ν,C2,B4]at a ⊢;rcases a with(a|a)|a
  ·unfold om at a;rw[A8]at a
   cases b:vR f with
   |true=>unfold vR at b;unfold tq;rw[b];rfl
   |false=>rw[b]at a;simp at a
  ·cases a
  unfold tq;rw[a];simp
theorem RS{r}(e:Good d)(c:xK r):dM (d++r)=G d/\dV (d++r)=d:=by
 have f:dM (d++r)=G d:=by
  have o:=AB e;rcases e with⟨i,a⟩|⟨g,rfl,a⟩
  ·cases d with
   |nil=>exact D5 J i
   |cons j k=>
    rw[A0,η]at a;have l:(j==39)=I:=by have:=a.1;simp at this;simpa using this.2
    have m:k.all nz=A:=by
     rw[Δ];intro b n;have:=Δ.mp a.2 b n;rw[Bb];simpa[bne]using this
    have n:r= []\/nz (r.headD 0)=I:=by
     rcases c with b|b
     ·exact C4 b
     right;rw[Bb,b];rfl
    unfold dM;simp only[E7,ν,D6,C6,l,G0,K1];rw[Zk m n];simp;omega
  unfold dM;have b:((39::(g++ [39]))++r).drop 1=g++39::r:=ak;rw[b,Ou r a];simp;omega
 refine⟨f, ?_⟩;unfold dV;rw[f,G9,Zp (by rw[J2];exact c)];rfl
theorem Je(a:Bs):(a.take (vw a)).all nz=A:=by
 induction a with
 |nil=>rfl
 |cons b d ih=>
  rw[vw]
  cases c:nz b with
  |true=>rw[θ J,A2,A0,c,ih];rfl
  |false=>rfl
theorem VK(b:Bs):(∃c e,b=c++39::e/\c.all (λd=>d != 39)=A/\sV b=G c+1)\/(uZ b=A/\sV b=G b):=by
 induction b with
 |nil=>right;exact⟨J,J⟩
 |cons d e ih=>
  cases a:(d==39)with
  |true=>
   left;refine⟨[],e, ?_,J, ?_⟩
   ·rw[χ]at a;rw[a];rfl
   rw[sV,a];rfl
  |false=>
   rcases ih with⟨c,g,rfl,i,f⟩|⟨j,f⟩
   ·left;refine⟨d::c,g,J, ?_, ?_⟩
    ·rw[A0,i];simpa using a
    rw[sV,a,ε α,f];simp
   right;refine⟨?_, ?_⟩
   ·unfold uZ at*;rw[A0,j,a];rfl
   rw[sV,a,ε α,f];simp
theorem Qn(p:0<G d)(m:tq (d.headD 0)=I)(f:dV d≠ [])(a:bF (dV d)≠0):∃c,d=dV d++c/\Good (dV d)/\xK c/\c=d.drop (dM d):=by
 unfold dV at f a ⊢
 cases g:qI d (dM d)with
 |false=>rw[g]at f;exact D5 J f
 |true=>
  rw[g,θ J]at a;rw[θ J];refine⟨d.drop (dM d),(H8 _ _).symm, ?_,Xu g,J⟩
  cases d with
  |nil=>simp at p
  |cons n c=>
   rw[ν]at m;unfold dM at a ⊢;simp only[ν,D6,C6]at a ⊢
   cases e:(n==39)with
   |false=>
    rw[e,ε α,G2,A2]at a;rw[ε α,G2,A2];refine C4 ⟨ak, ?_⟩;rw[A0,m,η];refine⟨by simpa using e, ?_⟩;have:=Je c;rw[Δ]at this ⊢;intro i j;have b:=this i j;rw[Bb]at b;simpa[bne]using b
   |true=>
    rw[e,θ J,G2,A2]at a;rw[θ J,G2,A2];have q:n=39:=by simpa using e
    subst q;rcases VK c with⟨b,i,rfl,r,j⟩|⟨o,j⟩
    ·rw[j];have k:(b++39::i).take (G b+1)=b++ [39]:=by
      rw[show b++39::i=(b++ [39])++i by simp];have:G (b++ [39])=G b+1:=ak;rw[<-this,G9]
     rw[k];exact D4 ⟨b,J,r⟩
    exfalso;rw[j,List.take_length]at a;rcases vX a with s|l
    ·obtain⟨t,k,_⟩:=yE s;have u:c=t++ [39]:=by simpa using k
     subst u;unfold uZ at o;simp at o
    unfold uZ at l;rw[A0]at l;cases l
theorem IM(a:Bs)(b:G7->G5):a=a.takeWhile b++a.dropWhile b:=(G3).symm
theorem rD(a:Bs)(b:G7->G5):a.take (G (a.takeWhile b))=a.takeWhile b/\a.drop (G (a.takeWhile b))=a.dropWhile b:=by
 have c:=IM a b;constructor
 ·have:(a.takeWhile b++a.dropWhile b).take (G (a.takeWhile b))=a.takeWhile b:=G9;rw[<-c]at this;exact this
 have:(a.takeWhile b++a.dropWhile b).drop (G (a.takeWhile b))=a.dropWhile b:=J2;rw[<-c]at this;exact this
theorem acW:xK (d.dropWhile eQ):=by
 cases a:d.dropWhile eQ with
 |nil=>exact C4 J
 |cons b c=>
  right;have:eQ b=I:=by
   have:=C7 (p:=eQ) d;rw[a]at this;simpa using this
  rw[oh]at this;simpa using this
theorem FO(o:0<G d)(e:tq (d.headD 0)=I)(i:bF (d.take (gM d))≠0):Good (d.take (gM d))/\xK (d.drop (gM d)):=by
 have j:gM d=pY d+G ((d.drop (pY d)).takeWhile eQ):=by
  unfold gM;rw[(xw e).2,ε α]
 have p:xK (d.drop (gM d)):=by
  rw[j,<-ω,(rD _ _).2];exact acW
 refine⟨?_,p⟩
 cases d with
 |nil=>simp at o
 |cons c a=>
  rw[ν]at e
  cases g:(c==39)with
  |false=>
   have q:pY (c::a)=0:=by unfold pY;rw[ν,g];rfl
   rw[q,C6,Nat.zero_add]at j;have r:(c::a).take (gM (c::a))=(c::a).takeWhile eQ:=by rw[j];exact(rD _ _).1
   rw[r]at i ⊢;have s:(c::a).takeWhile eQ≠ []:=by rw[A8,oh,e];simp
   have t:uZ ((c::a).takeWhile eQ)=A:=by
    rcases vX i with b|b
    ·obtain⟨l,f,_⟩:=yE b;rw[A8,oh,e]at f;simp only[Bool.not_false,if_true,E2]at f;rw[f.1]at g;cases g
    exact b
   refine C4 ⟨s, ?_⟩;rw[Δ];intro k m;have n:eQ k=A:=by
    have:=F9 (l:=c::a) (p:=eQ);rw[Δ]at this;exact this k m
   have u:=Δ.mp t k m;rw[oh]at n;rw[n];simpa[bne]using u
  |true=>
   have k:c=39:=by simpa using g
   subst k;rcases vX i with b|b
   ·obtain⟨l,f,m⟩:=yE b;rw[f];exact D4 ⟨l,J,m⟩
   exfalso;have m:0<gM (39::a):=sS ak (xw e).1;obtain⟨f,l⟩:∃f,gM (39::a)=f+1:=⟨gM (39::a)-1,M⟩;rw[l,A2]at b;unfold uZ at b;rw[A0]at b;cases b
theorem ZQ(a:0<G d)(c:tq (d.headD 0)=I)(b:bF (d.take (gM d))≠0):dV d=d.take (gM d)/\dM d=gM d:=by
 obtain⟨e,f⟩:=FO a c b;have g:G (d.take (gM d))=gM d:=by rw[G4];have:=Kj d a;omega
 have:=RS (r:=d.drop (gM d)) e f;rw[H8]at this;exact⟨this.2,by rw[this.1,g]⟩
def fM(c:G7):G5:=c==110||c==116||c==98
theorem zS(a:φ)(j)(k:a.size<=A3):
  Φ B3 115 #[δ a] j (RE (υ (a.toList.all fM)) j):=by
 unfold A3 at k;go_enter func115,ntmps115;go_wp2_with fail;go_loop [3] (λc=>∃b:Z,b<=a.size/\c=Y Ω b/\U (a.toList.all fM=(a.toList.drop b).all fM)) (λc=>a.size-(C1 c).toNat)
 ·exact⟨0,B0 _,J,J⟩
 obtain⟨b,_,rfl,d⟩:=hrel;by_cases l:b<a.size
 ·have f:U ((a.toList.drop b).all fM=(fM a[b]&&(a.toList.drop (b+1)).all fM)):=yS fM l;have g:U (fM a[b]=(decide ((a[b].toNat:V)=110)||decide ((a[b].toNat:V)=116)||decide ((a[b].toNat:V)=98))):=by
   unfold fM;have e:∀c:Z,c<256->(a[b]==D2 c)=decide ((a[b].toNat:V)=c):=by
    intro c _;rw[C3];simp only[χ,B4];constructor
    ·intro i;rw[i];simp;omega
    intro i;apply A6.mp;simp;omega
   have i:=e 110 M;have m:=e 116 M;have n:=e 98 M;rw[U];show(a[b]==D2 110||a[b]==D2 116||a[b]==D2 98)=_;rw[i,m,n];rfl
  by_cases c:(a[b].toNat:V)=110
  ·go_wp2
   go_round
   ·exact⟨b+1,M,aP,by rw[U,d.out,f.out,g.out,μ c];rfl⟩
   simp[C1];omega
  by_cases e:(a[b].toNat:V)=116
  ·go_wp2
   go_round
   ·exact⟨b+1,M,aP,by rw[U,d.out,f.out,g.out,ο c,μ e];rfl⟩
   simp[C1];omega
  by_cases i:(a[b].toNat:V)=98
  ·go_wp2
   go_round
   ·exact⟨b+1,M,aP,by rw[U,d.out,f.out,g.out,ο c,ο e,μ i];rfl⟩
   simp[C1];omega
  have m:U (fM a[b]=I):=by rw[U,g.out,ο c,ο e,ο i];rfl
  have:((a[b].toNat:V) != 110)=A:=by simpa using c
  have:((a[b].toNat:V) != 116)=A:=by simpa using e
  have:((a[b].toNat:V) != 98)=A:=by simpa using i
  clear c e i
  go_wp2
  go_ret;exact⟨aG (by rw[d.out,f.out,m.out];rfl),J⟩
 have c:U ((a.toList.drop b).all fM=A):=CX fM a b M
 go_wp2
 go_ret;exact⟨aG (by rw[d.out,c.out]),J⟩
def mF(l:Bs)(c:G7):G5:=l.all (· ==c)&& !l.isEmpty
theorem zO(b:G7)(g)(k:a.size<=A3):
  Φ B3 295 #[δ a,Y H0 b.toNat] g (RE (υ (mF a.toList b)) g):=by
 unfold A3 at k;have i:U (mF a.toList b=(a.toList.all (· ==b)&& !a.toList.isEmpty)):=J;go_enter func295,ntmps295;go_wp2_with fail;go_loop [5] (λd=>∃c:Z,c<=a.size/\d=Y Ω c/\U (a.toList.all (· ==b)=(a.toList.drop c).all (· ==b))) (λd=>a.size-(C1 d).toNat)
 ·exact⟨0,B0 _,J,J⟩
 obtain⟨c,_,rfl,e⟩:=hrel;by_cases l:c<a.size
 ·have j:U ((a.toList.drop c).all (· ==b)=((a[c]==b)&&(a.toList.drop (c+1)).all (· ==b))):=yS (· ==b) l;have:U (a.toList.isEmpty=I):=sM a M;by_cases d:(a[c].toNat:V)=b.toNat
  ·have f:U ((a[c]==b)=A):=by rw[U,χ];apply A6.mp;omega
   go_wp2
   go_round
   ·exact⟨c+1,M,aP,by rw[U,e.out,j.out,f.out];rfl⟩
   simp[C1];omega
  have f:U ((a[c]==b)=I):=by
   rw[U,G1];intro m;rw[m]at d;exact d J
  have:((a[c].toNat:V) != (b.toNat:V))=A:=by simpa using d
  clear d
  go_wp2
  go_ret;exact⟨aG (by rw[i.out,e.out,j.out,f.out];rfl),J⟩
 have d:U ((a.toList.drop c).all (· ==b)=A):=CX (· ==b) a c M
 go_wp2
 go_ret;exact⟨aG (by rw[i.out,e.out,d.out];rfl),J⟩
def Ap(l:Bs):G5:=match l with| [a,b]=>a==b|_=>I
def ifL(l:Bs):V:=match l with| [c,a,b]=>if c=98/\a=b then(a.toNat:V)else 0|_=>0
def acw(l:Bs):V:=match l with| [a]=>(a.toNat:V)|_=>0
def pO(b:G5)(n:V):V:=if b then n else 0
def evN(l:Bs)(n:V):G5:=if n=98 then mF l 98 else mF l 116
def ML(h l:Bs):V:=
 if h= [43]\/h= [45]\/h= [42]\/h= [47]then pO (l== [110,110]) 110
 else if h= [61]\/h= [60]\/h= [60,61]then pO (Ap l) 98
 else if h= [97,110,100]\/h= [111,114]then pO (mF l 98) 98
 else if h= [110,111,116]then pO (l== [98]) 98
 else if h= [105,115,110,117,108,108]then pO ((G l:V)==1) 98
 else if h= [105,102]then ifL l
 else if h= [108,101,110]then pO (l== [116]) 110
 else if h= [99,97,116]then pO (mF l 116) 116
 else if h= [110,111,116,101]then acw l else 0
theorem fH{w:A5}{n}:Bl w (w.drewN n):=⟨J,J,J,Θ _,λ_ _=>rfl⟩
theorem lq(a:N=a2):Γ (Y H0 N)=Γ (Y H0 a2):=by rw[a]
theorem afp(d:a.size=2):∃b c,a.toList= [b,c]:=by
 have e:G a.toList=2:=by rw[aj];exact d
 match a.toList,e with
 | [b,c],_=>exact⟨b,c,J⟩
theorem afq(e:a.size=3):∃b c d,a.toList= [b,c,d]:=by
 have f:G a.toList=3:=by rw[aj];exact e
 match a.toList,f with
 | [b,c,d],_=>exact⟨b,c,d,J⟩
theorem CR(y:dU d=A)(a:φ)(t)(s:a.size<=A3):
  Φ B3 246 #[δ ⟨d.toArray⟩,δ a] t (RB (Y H0 (ML d a.toList)) t):=by
 have g:∀(n:V) (o:A5),(n=98\/n=116)->Φ B3 295 #[δ a,Y H0 n] o (RE (υ (evN a.toList n)) o):=by
  rintro n o (rfl|rfl)
  ·exact zO 98 o s
  exact zO 116 o s
 have L:evN a.toList 98=mF a.toList 98:=J;have N:evN a.toList 116=mF a.toList 116:=J;obtain⟨O,b⟩:=au (mF a.toList 98);obtain⟨P,c⟩:=au (mF a.toList 116);rw[<-b]at L;rw[<-c]at N;have u:U (O=mF a.toList 98):=b;have v:U (P=mF a.toList 116):=c;clear b c;unfold A3 at s;go_enter func246,ntmps246;go_upto_region 1 with fail
 go_cut [5] (λb c=>∃w:G5,b=υ w/\U (w=Ap a.toList)/\Bl t c)
 ·by_cases f:a.size=2
  ·have b:U (((a[0].toNat:V)==(a[1].toNat:V))=Ap a.toList):=by
    obtain⟨j,i,c⟩:=afp f;have z:a[0]=j:=by have:=gp a 0 M;simp only[c]at this;exact this.symm
    have B:a[1]=i:=by have:=gp a 1 M;simp only[c]at this;exact this.symm
    rw[U,c,z,B,Ap,C3];simp only[χ];exact⟨λp=>A6.mp M,λp=>by rw[p]⟩
   go_region;all_goals(go_wp2;go_meet)
   all_goals exact⟨_,J,b,by first|exact fH|exact B7 _ _|exact(B7 _ _).drew⟩
  have b:U (I=Ap a.toList):=by
   have e:G a.toList≠2:=by rw[aj];exact f
   rw[U]
   match a.toList,e with
   | [],_=>rfl
   | [_],_=>rfl
   | [_,_],e=>exact D5 J e
   |_::_::_::_,_=>rfl
  have r:((a.size:V)==2)=I:=aN;go_region;all_goals(go_wp2;go_meet)
  all_goals exact⟨_,J,b,by first|exact fH|exact B7 _ _|exact(B7 _ _).drew⟩
 obtain⟨w,rfl,x,b⟩:=hcut;simp only[dU,rZ,List.any_cons,List.any_nil,C2,χ,J4]at y;rcases y with rfl|rfl|rfl|rfl|rfl|rfl|rfl|rfl|rfl|rfl|rfl|rfl|rfl|rfl|rfl
 iterate 10
  ·go_wp2_with(go_at_call 295;refine bP (g _ _ ag) ?_);all_goals(try(go_region;all_goals(try go_wp2_with fail)))
   all_goals go_ret
   all_goals(refine⟨lq ?_,by first|exact b|exact b.drew|exact b.trans fH⟩;have C:=u.out;have F:=v.out;have K:=x.out;simp_all[ML,pO])
 ·have f:G a.toList=a.size:=aj a;go_wp2_with(go_at_call 295;refine bP (g _ _ ag) ?_);all_goals(try(go_region;all_goals(try go_wp2_with fail)))
  all_goals go_ret
  all_goals(refine⟨lq ?_,by first|exact b|exact b.drew|exact b.trans fH⟩;have C:=u.out;have F:=v.out;have K:=x.out;simp_all[ML,pO])
 ·by_cases r:a.size=3
  ·obtain⟨j,i,q,c⟩:=afq r;have z:a[0]=j:=by have:=gp a 0 M;simp only[c]at this;exact this.symm
   have B:a[1]=i:=by have:=gp a 1 M;simp only[c]at this;exact this.symm
   have T:a[2]=q:=by have:=gp a 2 M;simp only[c]at this;exact this.symm
   have l:U (ML [105,102] a.toList=if j=98/\i=q then(i.toNat:V)else 0):=by rw[U,c];rfl
   clear c;by_cases k:j=98
   ·have R:((j.toNat:V)==98)=A:=by rw[k];rfl
    by_cases m:i=q
    ·have S:((i.toNat:V)==(q.toNat:V))=A:=by rw[m];simp
     have f:U (ML [105,102] a.toList=(i.toNat:V)):=by rw[U,l.out,θ ⟨k,m⟩]
     clear l k m;go_wp2_with(go_at_call 295;refine bP (g _ _ ag) ?_);all_goals(try(go_region;all_goals(try go_wp2_with fail)))
     all_goals go_ret
     all_goals exact⟨lq f.symm,by first|exact b|exact b.drew|exact b.trans fH⟩
    have S:((i.toNat:V)==(q.toNat:V))=I:=by
     rw[G1];intro p;exact m (A6.mp M)
    have f:U (ML [105,102] a.toList=0):=by rw[U,l.out,ε (λd=>m d.2)]
    clear l k m;go_wp2_with(go_at_call 295;refine bP (g _ _ ag) ?_);all_goals(try(go_region;all_goals(try go_wp2_with fail)))
    all_goals go_ret
    all_goals exact⟨lq f.symm,by first|exact b|exact b.drew|exact b.trans fH⟩
   have R:((j.toNat:V)==98)=I:=by
    rw[G1];intro p;exact k (A6.mp (by simpa using Int.ofNat.inj p))
   have f:U (ML [105,102] a.toList=0):=by rw[U,l.out,ε (λd=>k d.1)]
   clear l k;go_wp2_with(go_at_call 295;refine bP (g _ _ ag) ?_);all_goals(try(go_region;all_goals(try go_wp2_with fail)))
   all_goals go_ret
   all_goals exact⟨lq f.symm,by first|exact b|exact b.drew|exact b.trans fH⟩
  have i:((a.size:V)==3)=I:=aN;have f:U (ML [105,102] a.toList=0):=by
   rw[U];show ifL a.toList=0;have e:G a.toList≠3:=by rw[aj];exact r
   match a.toList,e with
   | [],_=>rfl
   | [_],_=>rfl
   | [_,_],_=>rfl
   | [_,_,_],e=>exact D5 J e
   |_::_::_::_::_,_=>rfl
  clear r;go_wp2_with(go_at_call 295;refine bP (g _ _ ag) ?_);all_goals(try(go_region;all_goals(try go_wp2_with fail)))
  all_goals go_ret
  all_goals exact⟨lq f.symm,by first|exact b|exact b.drew|exact b.trans fH⟩
 iterate 2
  ·go_wp2_with(go_at_call 295;refine bP (g _ _ ag) ?_);all_goals(try(go_region;all_goals(try go_wp2_with fail)))
   all_goals go_ret
   all_goals(refine⟨lq ?_,by first|exact b|exact b.drew|exact b.trans fH⟩;have C:=u.out;have F:=v.out;have K:=x.out;simp_all[ML,pO])
 by_cases i:a.size=1
 ·have f:U (ML [110,111,116,101] a.toList=(a[0].toNat:V)):=by
   have c:a.toList= [a[0]]:=by
    have:=D7 (s:=a) (k:=0) M;rw[C6]at this;rw[this,ξ (by rw[aj];omega)]
   rw[U,c];rfl
  go_wp2_with(go_at_call 295;refine bP (g _ _ ag) ?_);all_goals(try(go_region;all_goals(try go_wp2_with fail)))
  all_goals go_ret
  all_goals exact⟨lq f.symm,by first|exact b|exact b.drew|exact b.trans fH⟩
 have c:((a.size:V)==1)=I:=aN;have f:U (ML [110,111,116,101] a.toList=0):=by
  rw[U];show acw a.toList=0;have e:G a.toList≠1:=by rw[aj];exact i
  match a.toList,e with
  | [],_=>rfl
  | [_],e=>exact D5 J e
  |_::_::_,_=>rfl
 clear i;go_wp2_with(go_at_call 295;refine bP (g _ _ ag) ?_);all_goals(try(go_region;all_goals(try go_wp2_with fail)))
 all_goals go_ret
 all_goals exact⟨lq f.symm,by first|exact b|exact b.drew|exact b.trans fH⟩
def pG(l:Bs):Bs:=l.drop (om l)
def nE(l:Bs):Bs×Bs:=if G l=0\/bg (l.headD 0).toNat=A then([],l)else(dV l,pG (l.drop (dM l)))
mutual
def zH:Z->Z->Bs->D3 (Tr×Bs)
 |0,_,_=>D
 |f+1,deep,l=>
  if(pG l).headD 0==40 then
   (if sK (nE (pG ((pG l).drop 1))).1&&decide (deep<20)then
    (rR f (deep+1) (nE (pG ((pG l).drop 1))).2).map (λp=>(Tr.mk (bF (nE (pG ((pG l).drop 1))).1) (nE (pG ((pG l).drop 1))).1 A p.1,pG (p.2.drop 1)))
   else D)
  else if kJ (nE (pG l)).1 then E (Tr.mk (bF (nE (pG l)).1) (nE (pG l)).1 I [],(nE (pG l)).2)else D
def rR:Z->Z->Bs->D3 (Ξ Tr×Bs)
 |0,_,_=>D
 |f+1,deep,l=>
  if G l=0 then D else if l.headD 0==41 then E ([],l)else
   match zH f deep l with
   |none=>D
   |some (x,r)=>(rR f deep r).map (λp=>(x::p.1,p.2))
end
theorem rA(a):om (pG a)=0:=by
 unfold pG om;rw[(rD a vR).2]
 cases b:a.dropWhile vR with
 |nil=>rfl
 |cons c d=>
  have:vR c=I:=by
   have:=C7 (p:=vR) a;rw[b]at this;simpa using this
  rw[A8,this];rfl
theorem KC(a:om d=0)(c:0<G d):gF (d.headD 0).toNat=I:=by
 cases d with
 |nil=>simp at c
 |cons e f=>
  unfold om at a;rw[A8]at a
  cases b:vR e with
  |true=>rw[b]at a;simp at a
  |false=>exact b
theorem qj(a):dw (pG a)=dw a:=by
 have b:a=a.takeWhile vR++pG a:=by unfold pG om;rw[(rD a vR).2];exact IM a vR
 have c:CZ (a.takeWhile vR)=A:=F9;have:=OA (pG a) c;rw[<-b]at this;exact this.symm
theorem KD(a):G (pG a)<=G a:=by unfold pG;simp
theorem head_cons(b:F≠0)(a:d.headD 0=F):d=F::d.drop 1:=by
 cases d with
 |nil=>simp at a;exact D5 a.symm b
 |cons c e=>simp at a;subst a;rfl
theorem Ky(a:F=40\/F=41)(b:Bs):dw (F::b)=(dw b).map ((bF [F],[F]):: ·):=by
 have c:gM ([F]++b)=G ([F]:Bs):=by
  unfold gM;rw[θ];rfl;rcases a with rfl|rfl<;>rfl
 have:=OB ak (by rcases a with rfl|rfl<;>rfl) c;rw[ε (by rcases a with rfl|rfl<;>decide)]at this;exact this
theorem Tz(e:0<G d)(f:tq (d.headD 0)=I)(g:dV d≠ [])(b:bF (dV d)≠0):
  dw d=(dw (pG (d.drop (dM d)))).map ((bF (dV d),dV d):: ·)/\Good (dV d):=by
 obtain⟨_,i,a,j,k⟩:=Qn e f g b;have c:=OB (MK a) (xw (AB a)).1 (Uw a j);rw[<-i,ε b]at c;rw[c,qj,<-k];exact⟨J,a⟩
theorem NC(a:D3 (Ξ Tk))(b c):(a.map (c++ ·)).map (b++ ·)=a.map ((b++c)++ ·):=by cases a<;>simp
theorem UA(e:bg (d.headD 0).toNat=I)(c:sK d=A):bF d≠0/\d≠ []/\nL (bF d) d=A:=by
 have a:=Hl e;rw[c]at a;refine⟨?_, ?_,a⟩
 ·intro b;rw[b]at a;simp[nL]at a
 intro b;subst b;cases c
theorem TY(g:bg (d.headD 0).toNat=I)(c:kJ d=A):bF d≠0/\d≠ []/\jB (bF d) d=A/\¬bF d=1/\¬bF d=2:=by
 have b:=GG g;rw[c]at b;have i:(d== [40])=I/\(d== [41])=I:=by
  constructor
  iterate 2
   ·rw[ρ];intro c;rw[χ]at c;subst c;cases g
 have f:bF d≠1/\bF d≠2/\(bF d=0->nG d=I):=by
  unfold bF;rw[i.1,i.2,ε α,ε α];refine⟨?_, ?_, ?_⟩
  iterate 2
   ·repeat(first|(split;decide)|decide)
    all_goals(repeat split)<;>decide
  intro a
  cases k:nG d with
  |false=>rfl
  |true=>
   have j:=Fq k;have e:=oC j;rw[e.1,e.2.1,e.2.2.1,e.2.2.2.1,j]at a;simp at a
 refine⟨?_, ?_,b,f.1,f.2.1⟩
 ·intro a;rw[a]at b;unfold jB at b;rw[f.2.2 a]at b;simp at b
 intro a;subst a;cases c
theorem ZR(g:om d=0)(c:(nE d).1≠ []):0<G d/\bg (d.headD 0).toNat=I/\tq (d.headD 0)=I/\nE d=(dV d,pG (d.drop (dM d))):=by
 by_cases b:G d=0\/bg (d.headD 0).toNat=A
 ·unfold nE at c;rw[θ b]at c;exact D5 J c
 have e:0<G d:=by
  rcases D8 (G d)with a|a
  ·exact D5 (C4 a) b
  exact a
 have f:bg (d.headD 0).toNat=I:=by
  rw[ρ];exact λa=>b (D4 a)
 refine⟨e,f, ?_, ?_⟩
 ·unfold tq;rw[KC g e,f];rfl
 unfold nE;rw[ε b]
theorem TA(e:0<G d)(a:dV d≠ []):(dV d).headD 0=d.headD 0:=by
 unfold dV at a ⊢
 cases f:qI d (dM d)with
 |false=>rw[f]at a;exact D5 J a
 |true=>
  rw[θ J]
  cases d with
  |nil=>simp at e
  |cons b c=>
   have:dM (b::c)=dM (b::c)-1+1:=by unfold dM;omega
   rw[this,A2];rfl
mutual
theorem Ih:∀(f deep:Z) (b:Bs) (g:Tr) (r:Bs),zH f deep b=E (g,r)->dw b=(dw r).map (Bi g++ ·)/\Wf g/\deep+dep g<=20+(if deep<=20 then 0 else deep-20)/\om r=0:=by
 intro f
 match f with
 |0=>intro deep b g r c;simp[zH]at c
 |f+1=>
  intro deep b g r c;rw[zH]at c
  cases k:((pG b).headD 0==40)with
  |true=>
   rw[k,θ J]at c;have w:pG b=40::(pG b).drop 1:=head_cons ag (by simpa using k);obtain⟨l2,l⟩:=au (pG ((pG b).drop 1));rw[<-l]at c;have x:om l2=0:=by rw[l];exact rA _
   cases a:(sK (nE l2).1&&decide (deep<20))with
   |false=>rw[a]at c;simp at c
   |true=>
    rw[a,θ J]at c;rw[η,B4]at a;obtain⟨⟨y,u⟩,m,v⟩:=Ψ.mp c;simp only[B8]at v;obtain⟨rfl,rfl⟩:=v;have e:(nE l2).1≠ []:=by intro n;rw[n]at a;have:=a.1;cases this
    obtain⟨i,o,p,q⟩:=ZR x e;rw[q]at m a e ⊢;simp only at m a e ⊢;have d:=UA (by rw[TA i e];exact o) a.1;obtain⟨s,t⟩:=Tz i p d.2.1 d.1;obtain⟨z,B,C,F⟩:=Ij f (deep+1) _ y u m;obtain⟨j,rfl⟩:∃j,u=41::j:=⟨_,head_cons ag F⟩;refine⟨?_,.node J d.1 t d.2.2 B, ?_,rA _⟩
    ·rw[<-qj b,w,Ky (C4 J),<-qj ((pG b).drop 1),<-l,s,z];rw[qj,Ky (D4 J)];rw[Bi,θ J];have K:bF [40]=1:=ag;have L:bF [41]=2:=ag;rw[K,L];show _=(dw j).map _
     cases dw j<;>simp
    rw[dep,θ J];have N:deep<20:=a.2;rw[θ M]at C ⊢;omega
  |false=>
   rw[k,ε α]at c
   cases a:kJ (nE (pG b)).1 with
   |false=>rw[a]at c;simp at c
   |true=>
    rw[a,θ J]at c;simp only[B6,B8]at c;obtain⟨rfl,rfl⟩:=c;have e:(nE (pG b)).1≠ []:=by intro n;rw[n]at a;cases a
    obtain⟨i,o,p,q⟩:=ZR (rA b) e;rw[q]at a e ⊢;simp only at a e ⊢;have d:=TY (by rw[TA i e];exact o) a;obtain⟨s,t⟩:=Tz i p d.2.1 d.1;refine⟨?_,.leaf J d.1 d.2.2.2.1 d.2.2.2.2 t d.2.2.1, ?_,rA _⟩
    ·rw[<-qj b,s,Bi]
     cases dw (pG ((pG b).drop (dM (pG b))))<;>simp
    rw[dep];simp only[G0,K1];split<;>omega
theorem Ij:∀(d b:Z) (c:Bs) (e:Ξ Tr) (f:Bs),rR d b c=E (e,f)->dw c=(dw f).map (wK e++ ·)/\WfL e/\b+Qe e<=20+(if b<=20 then 0 else b-20)/\f.headD 0=41:=by
 intro d
 match d with
 |0=>intro b c e f a;simp[rR]at a
 |d+1=>
  intro b c e f a;rw[rR]at a;by_cases j:G c=0
  ·rw[θ j]at a;simp at a
  rw[ε j]at a
  cases g:(c.headD 0==41)with
  |true=>
   rw[g,θ J]at a;simp only[B6,B8]at a;obtain⟨rfl,rfl⟩:=a;refine⟨?_,.nil, ?_,by simpa using g⟩
   ·rw[wK];cases dw c<;>simp
   rw[Qe];split<;>omega
  |false=>
   rw[g,ε α]at a
   cases i:zH d b c with
   |none=>rw[i]at a;simp at a
   |some m=>
    obtain⟨n,k⟩:=m;rw[i]at a;simp only at a;obtain⟨⟨o,p⟩,q,l⟩:=Ψ.mp a;simp only[B8]at l;obtain⟨rfl,rfl⟩:=l;obtain⟨r,s,_,_⟩:=Ih d b c n k i;obtain⟨t,u,_,v⟩:=Ij d b k o p q;refine⟨?_,.cons s u, ?_,v⟩
    ·rw[r,t,wK,NC]
    rw[Qe];omega
end
theorem SV(c:bg (d.headD 0).toNat=I):¬bF d=1/\¬bF d=2:=by
 have a:(d== [40])=I/\(d== [41])=I:=by
  constructor
  iterate 2
   ·rw[ρ];intro b;rw[χ]at b;subst b;cases c
 unfold bF;rw[a.1,a.2,ε α,ε α];constructor
 iterate 2
  ·repeat(first|(split;decide)|decide)
   all_goals(repeat split)<;>decide
theorem acM(a:bg F.toNat=A):F=40\/F=41:=by
 unfold bg at a;simp at a;rcases a with a|a
 ·exact C4 (A6.mp aN)
 exact D4 (A6.mp aN)
theorem uD{c j}(p:om d=0)(a:dw d=E (c::j)):
  (∃b,d=40::b/\c=(1,[40])/\dw b=E j)\/(∃b,d=41::b/\c=(2,[41])/\dw b=E j)\/
  (0<G d/\bg (d.headD 0).toNat=I/\bg (c.2.headD 0).toNat=I/\c.1=bF c.2/\(nE d).1=c.2/\dw (nE d).2=E j/\om (nE d).2=0/\(nE d).2.length<G d):=by
 have e:0<G d:=by
  rcases D8 (G d)with f|f
  ·rw[nZ d f]at a;cases a
  exact f
 have m:=KC p e
 cases g:bg (d.headD 0).toNat with
 |true=>
  cases d with
  |nil=>simp at e
  |cons q b=>
   simp only[ν]at g;have l:=acM g;rw[Ky l]at a;obtain⟨r,k,i⟩:=Ψ.mp a;simp only[E2]at i;obtain⟨rfl,rfl⟩:=i;rcases l with rfl|rfl
   ·exact C4 ⟨b,J,J,k⟩
   exact D4 (C4 ⟨b,J,J,k⟩)
 |false=>
  right;right;have s:tq (d.headD 0)=I:=by unfold tq;rw[m,g];rfl
  rw[sZ d e,m,ε α]at a;by_cases n:bF (d.take (gM d))=0
  ·rw[θ n]at a;cases a
  rw[ε n]at a;obtain⟨r,k,i⟩:=Ψ.mp a;simp only[E2]at i;obtain⟨rfl,rfl⟩:=i;have o:=ZQ e s n;have u:=sS e m;have l:nE d=(dV d,pG (d.drop (dM d))):=by
   unfold nE;rw[ε];rintro(f|f)
   ·omega
   rw[g]at f;cases f
  refine⟨e,J, ?_,J, ?_, ?_, ?_, ?_⟩
  ·show bg ((d.take (gM d)).headD 0).toNat=I;obtain⟨f,t⟩:∃f,gM d=f+1:=⟨gM d-1,M⟩
   cases d with
   |nil=>simp at e
   |cons q b=>rw[t,A2];exact g
  ·rw[l];exact o.1
  ·rw[l,qj,o.2];exact k
  ·rw[l];exact rA _
  rw[l];have:=KD (d.drop (dM d));have f:=o.2;rw[ζ]at this;show G (pG (d.drop (dM d)))<G d;omega
theorem comp:∀t:Z,
  (∀(c f:Z) (b:Bs) (e:Ξ Tk) (u:Tr) (k:Ξ Tk) (i:Z),c<=t->dw b=E e->jY c f e=E (u,k)->2*G b<=i->
   ∃d,zH i f b=E (u,d)/\dw d=E k/\om d=0/\G d<G b)/\
  (∀(c f:Z) (b:Bs) (e:Ξ Tk) (v:Ξ Tr) (k:Ξ Tk) (i:Z),c<=t->om b=0->dw b=E e->oW c f e=E (v,k)->2*G b+1<=i->
   ∃d,rR i f b=E (v,41::d)/\dw d=E k/\G d<G b):=by
 intro t
 induction t with
 |zero=>
  refine⟨?_, ?_⟩
  ·intro c f b e u k i B _ a;obtain rfl:c=0:=by omega
   simp[jY]at a
  intro c f b e u k i B _ _ a;obtain rfl:c=0:=aa;simp[oW]at a
 |succ t ih=>
  obtain⟨S,N⟩:=ih;refine⟨?_, ?_⟩
  ·intro c f b e u k i B j a hF
   cases c with
   |zero=>simp[jY]at a
   |succ c=>
   cases e with
   |nil=>simp[jY]at a
   |cons s e=>
    rw[<-qj]at j;have O:=KD b;have T:0<G b:=by
     rcases D8 (G (pG b))with g|g
     ·rw[nZ _ g]at j;cases j
     omega
    obtain⟨n,rfl⟩:∃n,i=n+1:=⟨i-1,aa⟩;rw[zH];rw[jY]at a;rcases uD (rA b) j with⟨d,g,rfl,o⟩|⟨d,g,rfl,o⟩|⟨C,q,r,l,w,x,p,F⟩
    ·rw[θ J]at a;rw[g]at O ⊢;simp only[List.length_cons]at O;simp only[ν,beq_self_eq_true,if_true,D6,C6]
     cases c with
     |zero=>simp[KY]at a
     |succ c=>
     cases e with
     |nil=>simp[KY]at a
     |cons K e=>
      rw[KY]at a;by_cases P:20<f+1
      ·rw[θ P]at a;cases a
      rw[ε P]at a
      cases m:nL K.1 K.2 with
      |false=>rw[m]at a;simp at a
      |true=>
       rw[m,θ J]at a;obtain⟨⟨v,z⟩,L,y⟩:=Ψ.mp a;simp only[B8]at y;obtain⟨rfl,rfl⟩:=y;have a1:=KD d;rw[<-qj]at o;rcases uD (rA d) o with⟨_,_,rfl,_⟩|⟨_,_,rfl,_⟩|⟨C,q,r,l,w,x,p,F⟩
       ·cases m
       ·cases m
       obtain⟨R,W,X,_⟩:=N c (f+1) _ e v z n aa p x L aa;have a0:sK K.2=A:=by rw[<-Hl r,<-l];exact m
       refine⟨pG R, ?_,by rw[qj];exact X,rA _, ?_⟩
       ·rw[w,a0,μ (aa:f<20),W];simp[l]
       have:=KD R;omega
    ·rw[ε ag]at a;have:jB 2 [41]=I:=ag;simp only[this]at a;simp at a
    have K:=SV r;rw[<-l]at K;rw[ε K.1]at a
    cases m:jB s.1 s.2 with
    |false=>rw[m]at a;simp at a
    |true=>
     rw[m,θ J]at a;simp only[B6,B8]at a;obtain⟨rfl,rfl⟩:=a;have P:((pG b).headD 0==40)=I:=by
      rw[ρ];intro g;rw[χ]at g;rw[g]at q;cases q
     have R:kJ s.2=A:=by rw[<-GG r,<-l];exact m
     rw[P,ε α,w,R,θ J];refine⟨_,by rw[l],x,p,aa⟩
  intro c f b e v k i B p j a hF
  cases c with
  |zero=>simp[oW]at a
  |succ c=>
  cases e with
  |nil=>simp[oW]at a
  |cons s e=>
   obtain⟨n,rfl⟩:∃n,i=n+1:=⟨i-1,aa⟩;have T:0<G b:=by
    rcases D8 (G b)with g|g
    ·rw[nZ _ g]at j;cases j
    omega
   rw[oW]at a;rw[rR,ε aa];by_cases m:s.1=2
   ·rw[θ m]at a;simp only[B6,B8]at a;obtain⟨rfl,rfl⟩:=a;rcases uD p j with⟨d,rfl,rfl,o⟩|⟨d,rfl,rfl,o⟩|⟨C,q,r,l,w,x,p,F⟩
    ·cases m
    ·exact⟨d,J,o,ak⟩
    exact D5 (l▸m) (SV r).2
   rw[ε m]at a;have K:(b.headD 0==41)=I:=by
    rcases uD p j with⟨d,rfl,rfl,o⟩|⟨d,rfl,rfl,o⟩|⟨C,q,r,l,w,x,p,F⟩
    ·rfl
    ·exact D5 J m
    rw[ρ];intro g;rw[χ]at g;rw[g]at q;cases q
   rw[K,ε α]
   cases g:jY c f (s::e)with
   |none=>rw[g]at a;simp at a
   |some l=>
    obtain⟨o,z⟩:=l;rw[g]at a;simp only at a;obtain⟨⟨q,r⟩,L,y⟩:=Ψ.mp a;simp only[B8]at y;obtain⟨rfl,rfl⟩:=y;obtain⟨w,x,C,F,_⟩:=S c f b _ o z n aa j g aa;obtain⟨O,P,R,l2⟩:=N c f w z q r n aa F C L aa;rw[x];exact⟨O,by simp[P],R,aa⟩
def Ri(l:Bs):D3 Tr:=match zH (2*G l+1) 0 l with|some (t,[])=>E t|_=>D
theorem Zj(B:G d<=400):Ri d=lQ d:=by
 have p:lQ d=(dw d).bind ky:=by unfold lQ;rw[ε M]
 rw[p];have q:∀b,Ri d=E b->(dw d).bind ky=E b:=by
  intro b a;unfold Ri at a;split at a
  ·next k e=>
   simp only[B6]at a;subst a;obtain⟨c,w,n,_⟩:=Ih _ _ _ _ _ e;rw[nZ [] J]at c;simp only[I7,A7]at c;rw[c,I2];have:=EB (f:=2*G (Bi k)) (deep:=0) (r:=[]) w (by simpa using n) (Θ _);rw[A7]at this;unfold ky;rw[this]
  cases a
 have l:∀b,(dw d).bind ky=E b->Ri d=E b:=by
  intro b a
  cases g:dw d with
  |none=>rw[g]at a;cases a
  |some C=>
   rw[g,I2]at a;unfold ky at a;split at a
   ·next k e=>
    simp only[B6]at a;subst a;obtain⟨i,o,c,x,_⟩:=(comp _).1 _ _ d _ _ _ (2*G d+1) (Θ _) g e M;have u:i= []:=by
     cases i with
     |nil=>rfl
     |cons m v=>
      have j:0<G (m::v):=ak;have s:=KC x j;rw[sZ _ j,s,ε α]at c;split at c
      ·cases c
      obtain⟨_,_,t⟩:=Ψ.mp c
      cases t
    subst u;unfold Ri;rw[o]
   cases a
 cases f:Ri d with
 |some b=>exact(q b f).symm
 |none=>
  cases r:(dw d).bind ky with
  |none=>rfl
  |some b=>rw[l b r]at f;cases f
theorem MR:(B3.info? 183).map (λa=>(a.zero,a.size,a.bytes))=E (E (I9 #[δ ⟨#[]⟩,υ I,H D 0 0,Y H0 0]),4,56):=aF
structure Fu(w w':World)(rb:Nat)(o:Option Nat):Prop where
 os:w'.os=w.os
 tape:w'.tape=w.tape
 output:w'.output=w.output
 size:Array.size (World.heap w)<=Array.size (World.heap w')
 block:∀g,g<Array.size (World.heap w)->g≠rb->o≠some g->w'.heap[g]? =w.heap[g]?
mutual
inductive Fz(w:World)(S:Nat->Prop)(cs:List Value):Nat->Nat->Tr->Prop
 |mk {lo i:Nat} {k:Int} {tx:Bs} {br:Bool} {ops:List Tr} {v:Value} {is:List Nat} :cs[4*i]? =some (.string (ae tx))->cs[4*i+1]? =some (.bool br)->cs[4*i+2]? =some v->cs[4*i+3]? =some (.int .u8 0)->
   w.ownsRow 0 3 1 v (List.length ops) (is.map λj:Nat=>Value.int .i64 (j:Int))->(∀g,v.ownBlock=some g->S g)->mD w S cs lo i is ops->(br=false->ops= []/\kJ tx=true/\k=bF tx)->List.length tx<=maxLen->Fz w S cs lo i (.mk k tx br ops)
inductive mD(w:World)(S:Nat->Prop)(cs:List Value):Nat->Nat->List Nat->List Tr->Prop
 |nil {lo:Nat} :mD w S cs lo lo [] []
 |cons {lo i hi:Nat} {is:List Nat} {t:Tr} {ts:List Tr} :Fz w S cs lo i t->mD w S cs (i+1) hi is ts->mD w S cs lo hi (i::is) (t::ts)
end
theorem Df(a:q[e]? =E m):(q++W)[e]? =E m:=by
 rw[σ (H1.mp a).1];exact a
mutual
theorem Fz.move{s x:A5}{i S':Z->Prop}{k:Ξ C0}(m:Ξ C0)(n:∀g,i g->x.heap[g]? =s.heap[g]?)(o:∀g,i g->S' g):∀ {q p:Z} {r:Tr},Fz s i k q p r->Fz x S' (k++m) q p r
 |_,_,_,.mk a b c c3 d e f l z=>.mk (Df a) (Df b) (Df c) (Df c3) (aD d λg j=>n g (e g j)) (λg j=>o g (e g j)) (mD.move m n o f) l z
theorem mD.move{n x:A5}{d S':Z->Prop}{f:Ξ C0}(e:Ξ C0)(i:∀c,d c->x.heap[c]? =n.heap[c]?)(j:∀c,d c->S' c):∀ {l g:Z} {k:Ξ Z} {m:Ξ Tr},mD n d f l g k m->mD x S' (f++e) l g k m
 |_,_,_,_,.nil=>.nil
 |_,_,_,_,.cons a b=>.cons (Fz.move e i j a) (mD.move e i j b)
end
mutual
theorem Fz.bounded{i:A5}{j:Z->Prop}{k:Ξ C0} :∀ {o n:Z} {p:Tr},Fz i j k o n p->Fz i (λg=>j g/\g<γ (β i)) k o n p
 |_,_,_,.mk a b c c3 d e f l z=>.mk a b c c3 d (λg m=>⟨e g m,(d.lt g m).2⟩) (mD.bounded f) l z
theorem mD.bounded{c:A5}{d:Z->Prop}{e:Ξ C0} :∀ {j g:Z} {i:Ξ Z} {k:Ξ Tr},mD c d e j g i k->mD c (λf=>d f/\f<γ (β c)) e j g i k
 |_,_,_,_,.nil=>.nil
 |_,_,_,_,.cons a b=>.cons (Fz.bounded a) (mD.bounded b)
end
def Lg(w:A5)(rb:Z)(s:φ)(k:Z)(v:C0)(n:Z)(cs:Ξ C0)(o:D3 (Tr×Bs))(e:Ending)(w':A5):Prop:=
 Fu w w' rb v.ownBlock/\((o=D/\e=Γ (Y Ω (-1))/\∃k' ao m cap,fF w' rb s k' (H ao m cap))\/
  (∃t k' g cap n' ds,o=E (t,s.toList.drop k')/\k<k'/\k'<=s.size/\n<=n'/\n'+1+k<=n+k'/\e=Γ (Y Ω (n':V))/\
   fF w' rb s k' (H (E ⟨g,0,D⟩) (n'+1) cap)/\w'.ownsRow (rb+1) 183 4 (H (E ⟨g,0,D⟩) (n'+1) cap) (n'+1) (cs++ds)/\
   (v.ownBlock=E g\/γ (β w)<=g)/\Fz w' (λq=>γ (β w)<=q/\q≠g) (cs++ds) n n' t))
theorem NJ{v:C0}{ds}(N){ops}{is:Ξ Z}(a9:n<γ (β s))(k:Fu s f n v.ownBlock)(L:m.ownBlock=v.ownBlock\/∃b,m.ownBlock=E b/\γ (β s)<=b)(P:a1.os=f.os/\a1.tape=f.tape/\a1.output=f.output/\γ (β f)<=γ (β a1)/\∀b,b<γ (β f)->a1.heap[b]? =f.heap[b]?)(a3:f.ownsRow (n+1) 183 4 m e (q++ds))(o:a1.grownBy K m.ownBlock)(T:K.ownsRow (n+1) 183 4 (H (E (Q l 0 D)) (e+1) p) (e+1) (q++ds++ [δ (ae d),υ R,u,Y H0 0]))(C:m.ownBlock=E l\/l=γ (β f)+1)(a2:K.heap[n]? =E (τ #[δ a,Y Ω (y:V),B] 180 (0,0)))(x:f.ownsRow 0 3 1 u (G ops) (is.map λa0:Nat=>Y Ω (a0:V)))(F:∀b,u.ownBlock=E b->γ (β s)<=b/\m.ownBlock≠E b)(W:mD f (λi=>γ (β s)<=i/\m.ownBlock≠E i) (q++ds) z e is ops)(S:R=I->ops= []/\kJ d=A/\N=bF d)(X:G d<=A3):
  Fu s (K.setCell (Q n 2 D) (H (E (Q l 0 D)) (e+1) p)) n v.ownBlock/\
  fF (K.setCell (Q n 2 D) (H (E (Q l 0 D)) (e+1) p)) n a y (H (E (Q l 0 D)) (e+1) p)/\
  (K.setCell (Q n 2 D) (H (E (Q l 0 D)) (e+1) p)).ownsRow (n+1) 183 4 (H (E (Q l 0 D)) (e+1) p) (e+1) (q++(ds++ [δ (ae d),υ R,u,Y H0 0]))/\
  (v.ownBlock=E l\/γ (β s)<=l)/\
  Fz (K.setCell (Q n 2 D) (H (E (Q l 0 D)) (e+1) p)) (λi=>γ (β s)<=i/\i≠l) (q++(ds++ [δ (ae d),υ R,u,Y H0 0])) z e (.mk N d R ops):=by
 obtain⟨a4,a5,a6,_,a7⟩:=P;have t:G (q++ds)=4*e:=cz a3.1;have ah:∀b,b<γ (β f)->b≠n->m.ownBlock≠E b->(K.setCell (Q n 2 D) (H (E (Q l 0 D)) (e+1) p)).heap[b]? =f.heap[b]? :=by
  intro b g j w;rw[C9 _ _ _ _ j,o.block b M (λc=>w c.symm),a7 b g]
 have O:∀b,b<γ (β f)->m.ownBlock≠E b->b≠l:=by
  intro b g j c;subst c;rcases C with c|c
  ·exact j c
  omega
 have hF:=k.size;refine⟨⟨o.os.trans (a4.trans k.os),o.tape.trans (a5.trans k.tape),o.output.trans (a6.trans k.output), ?_, ?_⟩, ?_, ?_, ?_, ?_⟩
 ·have:=o.size;simp[A4];omega
 ·intro b g j w;rw[ah b M j ?_,k.block b g j w];rcases L with c|⟨i,c,a8⟩
  ·rw[c];exact w
  rw[c];intro r;have:=κ r;omega
 ·unfold fF;simp[A4,B2,a2]
 ·rw[<-E0];exact F8 T (by show n<n+1;omega) _
 ·rcases C with c|c
  ·rcases L with r|⟨i,r,a8⟩
   ·exact C4 (by rw[<-r];exact c)
   rw[r]at c;have:=κ c;exact D4 M
  exact D4 M
 rw[<-E0];refine .mk (v:=u) (is:=is) ?_ ?_ ?_ ?_ (aD x λb c=>?_) (λb c=>?_) (W.bounded.move _ (λb c=>?_) (λb c=>⟨c.1.1,O b c.2 c.1.2⟩)) S X
 ·rw[ι M,t];simp
 ·rw[ι M,t,show 4*e+1-4*e=1 by omega];rfl
 ·rw[ι M,t,show 4*e+2-4*e=2 by omega];rfl
 ·rw[ι M,t,show 4*e+3-4*e=3 by omega];rfl
 ·have g:=F b c;exact ah b (x.lt b c).2 M g.2
 ·have g:=F b c;exact⟨g.1,O b (x.lt b c).2 g.2⟩
 have g:=c.1.1;exact ah b c.2 M c.1.2
theorem wN{row}(a:f.drew.grownBy s row):f.grownBy s row:=⟨a.os,a.tape,a.output,a.size,a.block⟩
theorem Es(b:e<a.size):(a.toList.drop e).headD 0=a[e]:=(Ot b).2
theorem Au{a}(c:f.heap[e]? =E (τ #[a0,m,u,B] a (0,0)))(b):(f.setCell (Q e 0 D) b).heap[e]? =E (τ #[b,m,u,B] a (0,0)):=by
 simp[A4,B2,c]
theorem jQ(a:f.heap[e]? =E O)(b:e≠n)(c):(f.setCell (Q n c D) m).heap[e]? =E O:=by
 rw[C9 _ _ _ _ b];exact a
theorem YF(N:a.size<=400)(a1:Z){cap:Z}(F:fF f n a p (H r e cap))(a4:p<=a.size)(s:f.ownsRow (n+1) 183 4 (H r e cap) e q)(e7:e<=1000)(a5:p+om (a.toList.drop p)=l)(a6:l<a.size)(a2:(a[l]==40)=I)(a3:bg a[l].toNat=I)(a7:d≠ [])(a8:dV (a.toList.drop l)=d)(b:kJ d=A)(O:G d<=A3)(K:L=E (Tr.mk (bF d) d I [],pG ((a.toList.drop l).drop (dM (a.toList.drop l))))):
  Φ B3 57 #[B9 (E (Q n 0 D)),Y Ω a1] f λk a9=>Lg f n a p (H r e cap) e q L k a9:=by
 obtain⟨b0,b1,b2,b3,b4⟩:=J3 MR;have b5:∀t:A5,Φ B3 108 #[δ (ae d)] t (RB (υ A) t):=by
  intro t;have:=Cf (ae d) t (by rw[aX];exact O);rw[ay,b]at this;exact this
 have b6:U (kJ d=A):=b;clear b;go_enter F6,E9;go_wp2_with(go_at_call 105;refine(nD N F a4).mono ?_;rintro k o ⟨rfl,_,m,u⟩);rw[a5]at u;have e8:=u.lt;have P:γ (β o)≠n:=M;obtain⟨⟨_,_,_⟩,_,_⟩:=gU u;have e9:((a[l].toNat:V)==40)=I:=by rw[<-a2];exact oG a[l] 40 M
 go_region;have b7:∀L:Obj,fF (o.alloc L).drew n a l (H r e cap):=λL=>by unfold fF;exact eT u
 all_goals(try go_wp2_with(go_at_call 106;refine(yJ N n (b7 _) a6 a3).mono ?_))
 rintro k a0 ⟨rfl,B,x,c9,g,T⟩;have c8:p<B:=by
  rw[x];have:0<dM (a.toList.drop l):=by unfold dM;omega
  omega
 have e1:L=E (Tr.mk (bF d) d I [],a.toList.drop B):=by rw[K,x,pG,<-ω,<-ω]
 clear K x;rw[a8];replace g:=wN g;have g2:=T.lt;have y:a0.heap[γ (β o)]? =E (τ #[δ ⟨#[]⟩,υ I,H D 0 0,Y H0 0] 183 (0,0)):=dQ (bS o) g P;have g7:=af y;obtain⟨⟨_,_,_,_⟩,_,_,_,_⟩:=bM y;have g1:(ae d).toList.isEmpty=I:=by rw[ay];cases d with|nil=>exact D5 J a7|cons=>rfl
 go_wp2_with(go_at_call 108;refine cB (b5 _) ?_;rintro c i;have e0:=dP (Au y _) i;obtain⟨⟨_,_,_,_⟩,_,_,_,_⟩:=bM e0;have z:=dP (jQ T P.symm 0) i);have g5:=m.size;have e3:=g.size;rw[B5]at e3;have e4:=i.size;have g6:γ (β a0)<=γ (β c):=by simpa[A4]using e4
 have R:∀b,b<γ (β f)->b≠n->c.heap[b]? =f.heap[b]? :=by
  intro b w v;rw[i.block b Jq,C9 _ _ _ _ (by show b≠γ (β o);omega),g.block b aN (by simpa using v),A9 _ _ _ M,m.block b w (by simpa using v)]
 have X:c.ownsRow (n+1) 183 4 (H r e cap) e q:=aD s λb j=>R b (s.lt b j).2 (by have:=(s.lt b j).1;omega);have c4:∀L:Obj,(c.drew.alloc L).ownsRow (n+1) 183 4 (H r e cap) e q:=λL=>World.ownsRow.alloc (show c.drew.ownsRow _ _ _ _ _ _ from X) L;have g3:=af z;have e5:(H r e cap).ownBlock≠E n:=λk=>cz ((s.lt _ k).1);obtain⟨⟨_,_,_⟩,_,_⟩:=gU z
 go_region_law (refine J8 _ J (.tmp 127) (.tmp 129) 100 J (n+1) 183 b0 _ 4 56 I6 b1 b2 b3 b4 J ag (H r e cap) e q jl (c4 _) (Q (γ (β c)) 0 D) 1 1 [δ (ae d),υ I,H D 0 0,Y H0 0] jl J (F7 (bS c.drew)) (by intro _ W;simp at W;rcases W with rfl|rfl|rfl|rfl<;>rfl) ag fD M aN (γ (β c)+1) ak ?_;intro c6 c5 e6 e2 S c7 _;have C:e6.heap[n]? =_:=(S.block n aN e5.symm).trans (eT z);have g4:=af C;obtain⟨⟨_,_,_⟩,_,_⟩:=gU C)
 all_goals(go_wp2;go_ret)
 all_goals
  have c3:Fu f c n (H r e cap).ownBlock:=⟨i.os.trans (g.os.trans m.os),i.tape.trans (g.tape.trans m.tape),i.output.trans (g.output.trans m.output),M,λb w v _=>R b w v⟩;obtain⟨b8,b9,c0,c1,c2⟩:=NJ (bF d) (ds:=[]) (v:=H r e cap) (is:=[]) (ops:=[]) F.lt c3 (C4 J) (by exact⟨J,J,J,ak,λb j=>A9 _ _ _ j⟩) (by rw[A7];exact X) S (by rw[A7];exact e2) c7 C (I5 _ _ _ _) (λb j=>by cases j) .nil (λ_=>⟨J,b6,J⟩) O;exact⟨b8,D4 ⟨_,B,c6,c5,e,_,e1,c8,c9,Θ _,M,J,b9,c0,c1,c2⟩⟩
theorem abv(w:a.size<=400)(R:Z){cap:Z}(P:Ξ C0)(S:fF f n a p (H r l cap))(X:p<=a.size)(a0:p+om (a.toList.drop p)=e)(a1:e<a.size)(T:(a[e]==40)=I)(W:bg a[e].toNat=I)(a3:dV (a.toList.drop e)=d)(b:kJ d=I)(a2:G d<=A3):
  Φ B3 57 #[B9 (E (Q n 0 D)),Y Ω R] f λk a4=>Lg f n a p (H r l cap) l P D k a4:=by
 have x:∀c:A5,Φ B3 108 #[δ (ae d)] c (RB (υ I) c):=by
  intro c;have:=Cf (ae d) c (by rw[aX];exact a2);rw[ay,b]at this;exact this
 clear b;go_enter F6,E9;go_wp2_with(go_at_call 105;refine(nD w S X).mono ?_;rintro k i ⟨rfl,_,y,g⟩);rw[a0]at g;have a9:=g.lt;have m:γ (β i)≠n:=M;obtain⟨⟨_,_,_⟩,_,_⟩:=gU g;have b0:((a[e].toNat:V)==40)=I:=by rw[<-T];exact oG a[e] 40 M
 have a5:∀z:Obj,fF (i.alloc z).drew n a e (H r l cap):=λz=>by unfold fF;exact eT g
 go_region;all_goals(try go_wp2_with(go_at_call 106;refine(yJ w n (a5 _) a1 W).mono ?_))
 rintro k O ⟨rfl,L,_,_,j,v⟩;rw[a3];replace j:=wN j;have b1:=v.lt;have u:O.heap[γ (β i)]? =E (τ #[δ ⟨#[]⟩,υ I,H D 0 0,Y H0 0] 183 (0,0)):=dQ (bS i) j m;have b2:=af u;obtain⟨⟨_,_,_,_⟩,_,_,_,_⟩:=bM u;have B:f.grownBy O (E n):=aO (bA y) j;have F:=y.size
 cases K:d with
 |nil=>
  subst K;have a6:(ae ([]:Bs)).toList.isEmpty=A:=by rw[ay];rfl
  go_wp2
  go_ret;have b:=eu B F 0 (δ (ae []));exact⟨⟨b.os,b.tape,b.output,b.size,λo q s _=>b.block o q (by simpa using s)⟩,C4 ⟨J,J,L,r,l,cap,jQ v m.symm 0⟩⟩
 |cons C N=>
  have a6:(ae (C::N)).toList.isEmpty=I:=by rw[ay];rfl
  rw[K]at x;go_wp2_with(go_at_call 108;refine cB (x _) ?_;rintro _ t;have a7:=dP (Au u _) t;obtain⟨⟨_,_,_,_⟩,_,_,_,_⟩:=bM a7;have a8:=dP (jQ v m.symm 0) t);go_ret;have b:=aO (eu B F 0 (δ (ae (C::N)))) (bU t);exact⟨⟨b.os,b.tape,b.output,b.size,λo q s _=>b.block o q (by simpa using s)⟩,C4 ⟨J,J,L,r,l,cap,a8⟩⟩
theorem Et{a:φ}(L:a.size<=400){p:A5}{e k:Z}(z:Z){g:Z}{i:D3 Addr}{cap:Z}(y:Ξ C0)(d:fF p e a k (H i g cap))(C:k<=a.size)
  {b:Z} (F:k+om (a.toList.drop k)=b) (m:b=a.size\/∃K:b<a.size,bg a[b].toNat=A/\(a[b]==40)=I):
  Φ B3 57 #[B9 (E ⟨e,0,D⟩),Y Ω z] p λf q=>Lg p e a k (H i g cap) g y D f q:=by
 have w:∀r:A5,fF r e a b (H i g cap)->Φ B3 106 #[B9 (E ⟨e,0,D⟩)] r λf q=>f=Γ (δ ⟨#[]⟩)/\r=q:=by
  intro r N;refine(Fg N ?_ ?_).mono λf q d=>⟨d.1,d.2.symm⟩
  ·rcases m with d|⟨d,_⟩<;>omega
  rcases m with d|⟨d,j,_⟩
  ·exact C4 d
  exact D4 ⟨d,j⟩
 go_enter F6,E9;go_wp2_with(go_at_call 105;refine(nD L d C).mono ?_;rintro f u ⟨rfl,a0,x,n⟩);rw[F]at n;have a2:=n.lt;have a1:γ (β u)≠e:=M;obtain⟨⟨a4,a5,a6⟩,P,R⟩:=gU n;have a3:=x.size;have o:∀l:Obj,fF (u.alloc l).drew e a b (H i g cap):=λl=>by unfold fF;exact eT n
 have v:∀l:Obj,p.grownBy (u.alloc l).drew (E e):=λl=>eP (bA x);rcases m with m|⟨K,S,B⟩
 ·have T:decide ((b:V)<(a.size:V))=I:=by simp;omega
  have W:decide (b<a.size)=I:=aN;go_region;all_goals(try go_wp2_with(go_at_call 106;refine(w _ (o _)).mono ?_;rintro f O ⟨rfl,rfl⟩))
  go_ret;have c:=v (τ #[δ ⟨#[]⟩,υ I,H D 0 0,Y H0 0] 183);exact⟨⟨c.os,c.tape,c.output,c.size,λs t j _=>c.block s t (by simpa using j)⟩,C4 ⟨J,J,b,i,g,cap,o _⟩⟩
 have X:((a[b].toNat:V)==40)=I:=by rw[<-B];exact oG a[b] 40 M
 go_region;all_goals(try go_wp2_with(go_at_call 106;refine(w _ (o _)).mono ?_;rintro f O ⟨rfl,rfl⟩))
 go_ret;have c:=v (τ #[δ ⟨#[]⟩,υ I,H D 0 0,Y H0 0] 183);exact⟨⟨c.os,c.tape,c.output,c.size,λs t j _=>c.block s t (by simpa using j)⟩,C4 ⟨J,J,b,i,g,cap,o _⟩⟩
theorem GK{a}(b:f.heap[e]? =E (τ #[m,b5,u,B] a (0,0))):(f.setCell (Q e 1 D) a0).heap[e]? =E (τ #[m,a0,u,B] a (0,0)):=by
 simp[A4,B2,b]
theorem Rx(a):om a<=G a:=by unfold om;exact ZZ a vR
theorem RU(p:a.size<=400)(o:e<=a.size):∃i f,nE (a.toList.drop e)=(i,a.toList.drop f)/\e<=f/\f<=a.size/\(i≠ []->e<f)/\G i<=A3/\
  ∀(g:A5) (c:Z) (j:C0),fF g c a e j->Φ B3 106 #[B9 (E (Q c 0 D))] g λd k=>d=Γ (δ (ae i))/\g.grownBy k (E c)/\fF k c a f j:=by
 by_cases l:e=a.size\/∃m:e<a.size,bg a[e].toNat=A
 ·refine⟨[],e, ?_,Θ _,o,λb=>absurd J b,ak,λg c j b=>(Fg b o l).mono ?_⟩
  ·unfold nE;rw[θ];rcases l with b|⟨b,n⟩
   ·left;rw[ζ,aj];omega
   right;rw[Es b];exact n
  rintro d k ⟨rfl,rfl⟩;exact⟨J,iG _,b⟩
 have m:e<a.size:=by
  rcases H7 e a.size with b|b
  ·exact b
  exact D5 (C4 M) l
 have n:bg a[e].toNat=I:=by
  rw[ρ];exact λd=>l (D4 ⟨m,d⟩)
 have q:=Pe (a.toList.drop e) (by rw[ζ,aj];omega);have:0<dM (a.toList.drop e):=by unfold dM;omega
 rw[ζ,aj]at q;have r:=Rx (a.toList.drop (e+dM (a.toList.drop e)));rw[ζ,aj]at r;refine⟨dV (a.toList.drop e),e+dM (a.toList.drop e)+om (a.toList.drop (e+dM (a.toList.drop e))), ?_,M,M,λ_=>M, ?_,λg c j b=>(yJ p c b m n).mono ?_⟩
 ·unfold nE;rw[ε,pG,<-ω,<-ω];rintro(b|b)
  ·rw[ζ,aj]at b;omega
  rw[Es m,n]at b;cases b
 ·unfold dV;split
  ·rw[G4,ζ,aj];unfold A3;omega
  simp
 rintro d k ⟨rfl,_,rfl,_,s,t⟩;exact⟨J,s,t⟩
theorem NI(t:a.size<=400){rb:Z}(q:Z){cap:Z}(O:Ξ C0)(P:fF f rb a n (H r l cap))(S:n<=a.size)(T:n+om (a.toList.drop n)=e)(a9:e<a.size)(R:(a[e]==40)=A)(W:e+1+om (a.toList.drop (e+1))=p)(N:∀(f:A5) (rb:Z) (u:C0),fF f rb a p u->Φ B3 106 #[B9 (E (Q rb 0 D))] f λb g=>b=Γ (δ (ae d))/\f.grownBy g (E rb)/\fF g rb a y u)(X:G d<=A3)(j:sK d=I\/20<=q):
  Φ B3 57 #[B9 (E (Q rb 0 D)),Y Ω q] f λb g=>Lg f rb a n (H r l cap) l O D b g:=by
 have v:∀i:A5,Φ B3 107 #[δ (ae d)] i (RB (υ (sK d)) i):=by
  intro i;have:=Cg (ae d) i (by rw[aX];exact X);rw[ay]at this;exact this
 obtain⟨w,c⟩:=au (sK d);have a0:w=I\/20<=q:=by rw[c];exact j
 rw[<-c]at v;clear j c;go_enter F6,E9;go_wp2_with(go_at_call 105;refine(nD t P S).mono ?_;rintro b k ⟨rfl,_,x,j⟩);rw[T]at j;have b0:=j.lt;have m:γ (β k)≠rb:=M;obtain⟨⟨_,_,_⟩,_,_⟩:=gU j;have b1:((a[e].toNat:V)==40)=A:=by rw[<-R];exact oG a[e] 40 M
 have z:=x.size;have a1:∀s:Obj,fF ((k.setCell (Q rb 1 D) (Y Ω ((e:V)+1))).alloc s).drew rb a (e+1) (H r l cap):=λs=>by unfold fF;exact eT j.inc
 go_region;go_wp2_with(first
  |(go_at_call 105;refine(nD t (rb:=rb) (k0:=(e+1)) (a1 _) M).mono ?_;rintro b L ⟨rfl,_,o,K⟩;replace o:=wN o;rw[W]at K;have F:L.heap[γ (β k)]? =E (τ #[δ ⟨#[]⟩,υ I,H D 0 0,Y H0 0] 183 (0,0)):=dQ (by simpa[A4]using bS (k.setCell (Q rb 1 D) (Y Ω ((e:V)+1))) (o:=(τ #[δ ⟨#[]⟩,υ I,H D 0 0,Y H0 0] 183))) o m;obtain⟨⟨_,_,_,_⟩,_,_,_,_⟩:=bM F)
  |(go_at_call 106;refine(N _ rb _ (jQ K m.symm 1)).mono ?_;rintro b _ ⟨rfl,C,a8⟩;have a7:=dQ (GK F) C m;obtain⟨⟨_,_,_,_⟩,_,_,_,_⟩:=bM a7)
  |(go_at_call 107;refine cB (v _) ?_;rintro _ B))
 all_goals first
  |(exfalso;rcases a0 with b|b;exact D5 ‹w=A› (by rw[b];decide);omega)
  |(go_ret
    have a2:f.grownBy L (E rb):=aO (bA (aO x gz)) o;have a3:=aO (eu a2 z 1 (υ A)) C;have c:=aO (eu a3 z 0 (δ (ae d))) (bU B);exact⟨⟨c.os,c.tape,c.output,c.size,λa4 a5 a6 _=>c.block a4 a5 (by simpa using a6)⟩,C4 ⟨J,J,y,r,l,cap,dP (jQ a8 m.symm 0) B⟩⟩)
theorem Fu.trans{w wr}(a:Fu w wr e a8)(b:Fu wr f e a9)(k:a9=a8\/∃g,a9=E g/\γ (β w)<=g):Fu w f e a8:=by
 refine⟨b.os.trans a.os,b.tape.trans a.tape,b.output.trans a.output,Nat.le_trans a.size b.size,λg d i j=>?_⟩;rw[b.block g (Nat.lt_of_lt_of_le d a.size) i ?_,a.block g d i j];rcases k with c|⟨_,c,_⟩
 ·rw[c];exact j
 rw[c];intro l;have:=κ l;omega
theorem Fu.wN{o}(a:Fu f.drew s e o):Fu f s e o:=⟨a.os,a.tape,a.output,a.size,a.block⟩
theorem Fu.abt(a:f.grownBy s (E e))(b):Fu f s e b:=⟨a.os,a.tape,a.output,a.size,λc d g _=>a.block c d (by simpa using g)⟩
theorem Ub{a2 a}(b:f.heap[e]? =E (τ #[m,u,a2,B] a (0,0))):(f.setCell (Q e 2 D) a0).heap[e]? =E (τ #[m,u,a0,B] a (0,0)):=by
 simp[A4,B2,b]
theorem mD.snoc{m}(a:mD f X q n m P x)(b:Fz f X q m e C):mD f X q n (e+1) (P++ [e]) (x++ [C]):=by
 induction x generalizing P n with
 |nil=>cases a;exact .cons b .nil
 |cons g i ih=>cases a with|cons c d=>exact .cons c (ih d)
theorem YH{wr:A5}(b8:p<γ (β K))(b7:γ (β K)<=e)(b1:e<γ (β wr))(hF:Fu K wr p B.ownBlock)(T:u.ownBlock=B.ownBlock\/∃b,u.ownBlock=E b/\γ (β K)<=b)(X:u.ownBlock≠E e)(a5:wr.ownsRow (e+1) 3 1 m (G x) (P.map λv:Nat=>Y Ω (v:V)))(b2:∀b,m.ownBlock=E b->u.ownBlock≠E b)(a7:wr.ownsRow (p+1) 183 4 u a4 (q++W))(a9:mD wr (λi=>e<i/\u.ownBlock≠E i/\m.ownBlock≠E i) (q++W) b4 a4 P x)(a2:wr.heap[e]? =E (τ #[δ (ae d),υ A,m,Y H0 0] 183 (0,0)))(k:Fu wr s p u.ownBlock)(R:fF s p a b3 (H (E (Q n 0 D)) (z+1) a6))(S:s.ownsRow (p+1) 183 4 (H (E (Q n 0 D)) (z+1) a6) (z+1) (q++W++a3))(F:u.ownBlock=E n\/γ (β wr)<=n)(b0:Fz s (λi=>γ (β wr)<=i/\i≠n) (q++W++a3) a4 z C)(o:(s.alloc O).grownBy f m.ownBlock)(a8:f.ownsRow (e+1) 3 1 (H (E (Q l 0 D)) (G x+1) y) (G x+1) ((P.map λv:Nat=>Y Ω (v:V))++ [Y Ω (z:V)]))(N:m.ownBlock=E l\/l=γ (β s)+1):
  fF (f.setCell (Q e 2 D) (H (E (Q l 0 D)) (G x+1) y)) p a b3 (H (E (Q n 0 D)) (z+1) a6)/\
  Fu K (f.setCell (Q e 2 D) (H (E (Q l 0 D)) (G x+1) y)) p B.ownBlock/\
  (f.setCell (Q e 2 D) (H (E (Q l 0 D)) (G x+1) y)).ownsRow (p+1) 183 4 (H (E (Q n 0 D)) (z+1) a6) (z+1) (q++(W++a3))/\
  (E n=B.ownBlock\/∃b,E n=E b/\γ (β K)<=b)/\E n≠E e/\
  (f.setCell (Q e 2 D) (H (E (Q l 0 D)) (G x+1) y)).heap[e]? =E (τ #[δ (ae d),υ A,H (E (Q l 0 D)) (G x+1) y,Y H0 0] 183 (0,0))/\
  (f.setCell (Q e 2 D) (H (E (Q l 0 D)) (G x+1) y)).ownsRow (e+1) 3 1 (H (E (Q l 0 D)) (G x+1) y) (G (x++ [C])) ((P++ [z]).map λv:Nat=>Y Ω (v:V))/\
  (∀b,E l=E b->E n≠E b)/\
  mD (f.setCell (Q e 2 D) (H (E (Q l 0 D)) (G x+1) y)) (λi=>e<i/\E n≠E i/\E l≠E i) (q++(W++a3)) b4 (z+1) (P++ [z]) (x++ [C]):=by
 have b9:=k.size;have c0:=hF.size;have r:∀b,m.ownBlock=E b->e<b/\b<γ (β wr):=λb w=>cz (a5.lt b w);have c1:∀b,u.ownBlock=E b->p<b/\b<γ (β wr):=λb w=>cz (a7.lt b w);have b5:n<γ (β s):=(S.lt n J).2;have ah:∀b,b<γ (β s)->b≠e->m.ownBlock≠E b->(f.setCell (Q e 2 D) (H (E (Q l 0 D)) (G x+1) y)).heap[b]? =s.heap[b]? :=by
  intro b t L j;rw[C9 _ _ _ _ L,o.block b aN (λc=>j c.symm),A9 _ _ _ t]
 have a0:m.ownBlock≠E n:=by
  intro c;rcases F with g|g
  ·exact b2 n c g
  have:=r n c;omega
 have a1:n≠e:=by
  intro c;rcases F with g|g
  ·exact X (by rw[g,c])
  omega
 have b6:n≠l:=by
  intro c;rcases N with g|g
  ·exact a0 (by rw[g,c])
  omega
 refine⟨?_, ?_, ?_, ?_,(λc=>a1 (κ c)), ?_, ?_,(λb c g=>b6 (by rw[κ c,κ g])), ?_⟩
 ·unfold fF;rw[ah p (af R) M (λc=>cz (r p c))];exact R
 ·refine⟨o.os.trans (k.os.trans hF.os),o.tape.trans (k.tape.trans hF.tape),o.output.trans (k.output.trans hF.output), ?_,λb t L j=>?_⟩
  ·have:=o.size;simp[A4]at this ⊢;omega
  rw[ah b M M (λc=>cz (r b c)),(hF.trans k T).block b t L j]
 ·rw[<-E0];exact aD S λb w=>by
   have:n=b:=κ w;subst this;exact ah n b5 a1 a0
 ·rcases F with c|c
  ·rcases T with g|⟨i,g,j⟩
   ·exact C4 (by rw[<-g,c])
   exact D4 ⟨n,J,by rw[c]at g;have:=κ g;omega⟩
  exact D4 ⟨n,J,M⟩
 ·refine Ub (a2:=m) ?_;rw[o.block e aN (λc=>cz (r e c.symm)),A9 _ _ _ M,k.block e b1 M X];exact a2
 ·rw[G6,D0];exact F8 a8 (by show e<e+1;omega) _
 rw[<-E0];refine mD.snoc (m:=a4) ?_ ?_
 ·refine a9.bounded.move a3 (λi j=>?_) (λi j=>⟨j.1.1, ?_, ?_⟩)
  ·have t:=j.1.1;rw[ah i (by have:=j.2;omega) M j.1.2.2,k.block i j.2 M j.1.2.1]
  ·intro c;have c:=κ c;subst c;rcases F with g|g
   ·exact j.1.2.1 g
   have:=j.2;omega
  intro c;have c:=κ c;subst c;rcases N with g|g
  ·exact j.1.2.2 g
  have:=j.2;omega
 have:=b0.bounded.move (x:=f.setCell (Q e 2 D) (H (E (Q l 0 D)) (G x+1) y)) (S':=λi=>e<i/\E n≠E i/\E l≠E i) [] (λi j=>?_) (λi j=>⟨by have:=j.1.1;omega,λc=>j.1.2 (κ c).symm,λc=>?_⟩)
 ·rwa[A7]at this
 ·have t:=j.1.1;exact ah i j.2 M (λc=>cz (r i c))
 have c:=κ c;subst c;have t:=j.1.1;have L:=j.2;rcases N with g|g
 ·have:=r l g;omega
 omega
def NK(g d:Z)(o:D3 (Tr×Bs)):D3 (Ξ Tr×Bs):=
 match o with
 |none=>D
 |some (x,r)=>(rR g d r).map (λp=>(x::p.1,p.2))
theorem aaZ:(B3.info? 3).map (λa=>(a.zero,a.size,a.bytes))=E (E (Y Ω 0),1,8):=aF
def Sl(s:φ)(f:Z):Prop:=∀(w:A5) (rb k deep n:Z) (ao:D3 Addr) (cap:Z) (cs:Ξ C0),fF w rb s k (H ao n cap)->k<=s.size->2*(s.size-k)<=f->deep<=20->
 w.ownsRow (rb+1) 183 4 (H ao n cap) n cs->n<=k->
  Φ B3 57 #[B9 (E ⟨rb,0,D⟩),Y Ω deep] w λe w'=>Lg w rb s k (H ao n cap) n cs (zH f deep (s.toList.drop k)) e w'
def WI(w:A5)(rb Nb:Z)(s:φ)(k n k3 f d:Z)(v:C0)(cs:Ξ C0)(tx:Bs)(gk:Z)(wr:A5):Prop:=
 ∃(f' kk m:Z) (xs:Ξ Tr) (is:Ξ Z) (aoL:D3 Addr) (capL:Z) (ds:Ξ C0) (aoA:D3 Addr) (nA capA:Z),
  gk=s.size-kk/\f'<=f/\kk<=s.size/\2*(s.size-kk)+1<=f'/\k+1<=kk/\n<=m/\m+k+1<=n+kk/\G xs<=kk/\
  U (rR f d (s.toList.drop k3)=(rR f' d (s.toList.drop kk)).map (λp=>(xs++p.1,p.2)))/\
  fF wr rb s kk (H aoL m capL)/\Fu w wr rb v.ownBlock/\wr.ownsRow (rb+1) 183 4 (H aoL m capL) m (cs++ds)/\
  ((H aoL m capL).ownBlock=v.ownBlock\/∃g,(H aoL m capL).ownBlock=E g/\γ (β w)<=g)/\(H aoL m capL).ownBlock≠E Nb/\
  wr.heap[Nb]? =E (τ #[δ (ae tx),υ A,H aoA nA capA,Y H0 0] 183 (0,0))/\
  wr.ownsRow (Nb+1) 3 1 (H aoA nA capA) (G xs) (is.map λj:Nat=>Y Ω (j:V))/\(∀g,(H aoA nA capA).ownBlock=E g->(H aoL m capL).ownBlock≠E g)/\
  mD wr (λq=>Nb<q/\(H aoL m capL).ownBlock≠E q/\(H aoA nA capA).ownBlock≠E q) (cs++ds) n m is xs
theorem YG(c2:a.size<=400)(o)(i1:∀X,X<o->Sl a X){rb cap}(a6:fF f rb a y (H r n cap))(i4:y<=a.size)(a7:f.ownsRow (rb+1) 183 4 (H r n cap) n q)(o5:n<=y)(i5:y+om (a.toList.drop y)=p)(o4:p<a.size)(i2:(a[p]==40)=A)(i6:p+1+om (a.toList.drop (p+1))=z)(o3:z<l)(i7:l<=a.size)(i:∀(f:A5) (rb:Z) (a8:C0),fF f rb a z a8->Φ B3 106 #[B9 (E (Q rb 0 D))] f λg P=>g=Γ (δ (ae d))/\f.grownBy P (E rb)/\fF P rb a l a8)(h0:G d<=A3)(b:sK d=A)(o2:e<20)(i3:2*(a.size-l)+1<=o):
  Φ B3 57 #[B9 (E (Q rb 0 D)),Y Ω e] f λg P=>Lg f rb a y (H r n cap) n q ((rR o (e+1) (a.toList.drop l)).map (λx=>(Tr.mk (bF d) d A x.1,pG (x.2.drop 1)))) g P:=by
 have j:∀B:A5,Φ B3 107 #[δ (ae d)] B (RB (υ A) B):=by
  intro B;have:=Cg (ae d) B (by rw[aX];exact h0);rw[ay,b]at this;exact this
 clear b;go_enter F6,E9;go_wp2_with(go_at_call 105;refine(nD c2 a6 i4).mono ?_;rintro g a0 ⟨rfl,_,h1,a9⟩);rw[i5]at a9;have o6:=a9.lt;have F:γ (β a0)≠rb:=M;obtain⟨⟨c3,c4,c5⟩,c6,c7⟩:=gU a9;have o7:((a[p].toNat:V)==40)=A:=by rw[<-i2];exact oG a[p] 40 M
 have h2:=h1.size;have k:∀K:Obj,fF ((a0.setCell (Q rb 1 D) (Y Ω ((p:V)+1))).alloc K).drew rb a (p+1) (H r n cap):=λK=>by unfold fF;exact eT a9.inc
 have o8:decide ((20:V)<=(e:V))=I:=aN;go_region;go_wp2_with(first
  |(go_at_call 105;refine(nD c2 (rb:=rb) (k0:=(p+1)) (k _) M).mono ?_;rintro g h4 ⟨rfl,_,a1,e5⟩;replace a1:=wN a1;rw[i6]at e5;have e3:h4.heap[γ (β a0)]? =E (τ #[δ ⟨#[]⟩,υ I,H D 0 0,Y H0 0] 183 (0,0)):=dQ (by simpa[A4]using bS (a0.setCell (Q rb 1 D) (Y Ω ((p:V)+1))) (o:=(τ #[δ ⟨#[]⟩,υ I,H D 0 0,Y H0 0] 183))) a1 F;obtain⟨⟨e6,e7,e8,e9⟩,c8,c9,e0,e1⟩:=bM e3)
  |(go_at_call 106;refine(i _ rb _ (jQ e5 F.symm 1)).mono ?_;rintro g _ ⟨rfl,e2,h3⟩;have e4:=dQ (GK e3) e2 F;obtain⟨⟨i8,i9,j0,j1⟩,j2,j3,j4,j5⟩:=bM e4)
  |(go_at_call 107;refine cB (j _) ?_;rintro b1 b0))
 have m:f.grownBy h4 (E rb):=aO (bA (aO h1 gz)) a1;have s:=aO (eu m h2 1 (υ A)) e2;have b:f.grownBy b1 (E rb):=aO (eu s h2 0 (δ (ae d))) (bU b0);have t:fF b1 rb a l (H r n cap):=dP (jQ h3 F.symm 0) b0;have c:=dP (Au e4 (δ (ae d))) b0;clear a1 e5 e3 e6 e7 e8 e9 c8 c9 e0 e1 e2 h3 e4 i8 i9 j0 j1 j2 j3 j4 j5 b0 m s c3 c4 c5 c6 c7 j i k;obtain⟨s,i⟩:=au (γ (β a0));rw[<-i]at c F ⊢;have k:b1.ownsRow (rb+1) 183 4 (H r n cap) n (q++ []):=by
  rw[A7];exact aD a7 λj O=>b.block j (a7.lt j O).2 (by have:=(a7.lt j O).1;simp;omega)
 have m:WI f rb s a y n l o (e+1) (H r n cap) q d (a.size-l) b1:=
  ⟨o,l,n,[],[],r,cap,[],D,0,0,J,Θ _,i7,i3,M,Θ _,M,B0 _,by rw[U];simp,t,⟨b.os,b.tape,b.output,b.size,λj u v _=>b.block j u (by simpa using v)⟩,k,C4 J,(λg=>cz ((a7.lt _ g).2)),c,I5 _ _ _ _,(λj O=>by cases O),.nil⟩
 have j6:γ (β f)<=s:=M;have h5:=a6.lt;clear k c t b i;go_loopg [7] (a.size-l) (λgk _ wr=>WI f rb s a y n l o (e+1) (H r n cap) q d gk wr)
 ·exact m
 clear m;obtain⟨X,c,m,C,b2,t,u,L,g0,g1,g2,j7,_,j8,_,_,j9,_,_,R,a2,hF,S,b3,h6,a3,v,b4,b5⟩:=hrel;subst j7;obtain⟨j,rfl⟩:∃j,X=j+1:=⟨X-1,M⟩;have o9:=hF.size;have h7:=af a3;have p0:=a2.lt;obtain⟨⟨c3,c4,c5⟩,c6,c7⟩:=gU a2;obtain⟨⟨e6,e7,e8,e9⟩,c8,c9,e0,e1⟩:=bM a3;by_cases h8:c<a.size
 ·cases b6:(a[c]==41)with
  |true=>
   have k1:((a[c].toNat:V)==41)=A:=by rw[<-b6];exact oG a[c] 41 M
   have k2:decide ((a.size:V)<=(c:V))=I:=aN;obtain⟨b7,c1⟩:∃b7,c+1+om (a.toList.drop (c+1))=b7:=⟨_,J⟩;have N:U (rR o (e+1) (a.toList.drop l)=E (C,a.toList.drop c)):=by
    rw[U,R.out,rR,ε (by rw[ζ,aj];omega),Es h8,b6,θ J];simp
   have k3:U (pG ((a.toList.drop c).drop 1)=a.toList.drop b7):=by
    have g:(a.toList.drop c).drop 1=a.toList.drop (c+1):=by rw[ω]
    rw[U,g,pG,ω,c1]
   clear R;have b8:fF (wr.setCell (Q rb 1 D) (Y Ω ((c:V)+1))).drew.drew rb a (c+1) (H t m u):=a2.inc;obtain⟨m3,l1,m0,m1,m2⟩:=J3 MR;go_wp2_with fail;go_region;all_goals(try go_wp2_with fail)
   go_region;all_goals(try go_wp2_with(go_at_call 105;refine(nD c2 b8 M).mono ?_;rintro g k ⟨rfl,g9,w,W⟩))
   rw[c1]at W g9;replace w:wr.grownBy k (E rb):=aO (gz (w:=wr) (rb:=rb) (off:=1) (v:=(Y Ω ((c:V)+1)))) (wN (wN w));have l7:=w.size;have T:=dQ a3 w F;have n3:=W.lt;have l8:=af T;have i0:k.ownsRow (rb+1) 183 4 (H t m u) m (q++L):=aD S λb i=>w.block b (S.lt b i).2 (by have:=(S.lt b i).1;simp;omega);have l0:∀K:Obj,(k.drew.alloc K).ownsRow (rb+1) 183 4 (H t m u) m (q++L):=λK=>World.ownsRow.alloc (show k.drew.ownsRow _ _ _ _ _ _ from i0) K;have l9:(H t m u).ownBlock≠E rb:=λg=>cz ((S.lt _ g).1);clear c3 c4 c5 c6 c7 e6 e7 e8 e9 c8 c9 e0 e1 b8;obtain⟨⟨_,_,_⟩,_,_⟩:=gU W;obtain⟨⟨m7,m8,m9,n0⟩,_,_,_,_⟩:=bM T
   go_region_law (refine J8 _ J (.tmp 127) (.tmp 129) 100 J (rb+1) 183 m3 _ 4 56 I6 l1 m0 m1 m2 J ag (H t m u) m (q++L) jl (l0 _) (Q (γ (β k)) 0 D) 1 1 [δ (ae d),υ A,H g0 g1 g2,Y H0 0] jl J (F7 (bS k.drew)) (by intro m6 a5;simp at a5;rcases a5 with rfl|rfl|rfl|rfl<;>rfl) ag fD M aN (γ (β k)+1) ak ?_;intro h9 g3 g8 g6 a4 g4 l4;have c0:g8.heap[rb]? =_:=(a4.block rb aN l9.symm).trans (eT W);have n4:=af c0;obtain⟨⟨_,_,_⟩,m4,m5⟩:=gU c0)
   all_goals(go_wp2;go_ret)
   all_goals
    have k9:Fu f k rb (H r n cap).ownBlock:=hF.trans (Fu.abt w _) b3;have g5:k.ownsRow 0 3 1 (H g0 g1 g2) (G C) (b2.map λg7:Nat=>Y Ω (g7:V)):=bY (b:=s+1) (aD v λb i=>w.block b (v.lt b i).2 (by have:=(v.lt b i).1;simp;omega)) (λ_ _=>B0 _);have b9:mD k (λb=>γ (β f)<=b/\(H t m u).ownBlock≠E b) (q++L) n m b2 C:=by
     have:=b5.bounded.move (x:=k) (S':=λb=>γ (β f)<=b/\(H t m u).ownBlock≠E b) [] (λb i=>w.block b i.2 (by have:=i.1.1;simp;omega)) (λb i=>⟨by have:=i.1.1;omega,i.1.2.1⟩)
     rwa[A7]at this
    obtain⟨k4,k5,k6,k7,k8⟩:=NJ (bF d) (v:=H r n cap) h5 k9 b3 (by exact⟨J,J,J,ak,λj O=>A9 _ _ _ O⟩) i0 a4 g6 g4 c0 g5 (λb i=>⟨by have:=(v.lt b i).1;omega,b4 b i⟩) b9 (λa6=>by cases a6) h0;exact⟨k4,D4 ⟨_,b7,h9,g3,m,_,by rw[N.out,I7,k3.out],M,g9,j9,M,J,k5,k6,k7,k8⟩⟩
  |false=>
   have k1:((a[c].toNat:V)==41)=I:=by rw[<-b6];exact oG a[c] 41 M
   have b7:U (rR o (e+1) (a.toList.drop l)=(NK j (e+1) (zH j (e+1) (a.toList.drop c))).map (λx=>(C++x.1,x.2))):=by
    rw[U,R.out,rR,ε (by rw[ζ,aj];omega),Es h8,b6,ε α];rfl
   clear R;have i0:Φ B3 57 #[B9 (E (Q rb 0 D)),Y Ω ((e:V)+1)] wr.drew λg P=>Lg wr.drew rb a c (H t m u) m (q++L) (zH j (e+1) (a.toList.drop c)) g P:=
    i1 j M wr.drew rb c (e+1) m t u (q++L) a2 j8 M M S M
   obtain⟨k3,k4,k5,k6,k7⟩:=J3 aaZ;go_wp2_with fail;go_region;go_wp2_with(go_at_call 57;refine i0.mono ?_);rintro g k ⟨O,k8⟩;replace O:=O.wN;have l7:=O.size;have T:k.heap[s]? =_:=(O.block s h7 F h6).trans a3;have l8:=af T;obtain⟨⟨m7,m8,m9,n0⟩,_,m4,m5,_⟩:=bM T;rcases k8 with⟨g9,rfl,k9,l0,l1,l9,b8⟩|⟨B,c0,_,m0,c1,m1,g9,_,m2,_,_,rfl,W,m3,w,b9⟩
   ·have N:U (rR o (e+1) (a.toList.drop l)=D):=by rw[U,b7.out,g9];rfl
    clear b7
    go_wp2
    go_ret;exact⟨hF.trans O b3,C4 ⟨by rw[N.out];rfl,J,k9,l0,l1,l9,b8⟩⟩
   have N:U (rR o (e+1) (a.toList.drop l)=(rR j (e+1) (a.toList.drop c0)).map (λx=>((C++ [B])++x.1,x.2))):=by rw[U,b7.out,g9,NK];cases rR j (e+1) (a.toList.drop c0)<;>simp
   clear b7;have p1:decide ((c1:V)<0)=I:=ak;have g5:k.ownsRow (s+1) 3 1 (H g0 g1 g2) (G C) (b2.map λg7:Nat=>Y Ω (g7:V)):=aD v λb i=>O.block b (v.lt b i).2 (by have:=(v.lt b i).1;omega) (b4 b i);have p2:G C<=400:=M;have o0:U _:=b5;change U _ at b9;clear b5;go_wp2_with(at_builtin;refine wpList_append_lies _ J (.tmp 85) (.tmp 87) 42 J (s+1) 3 k3 (Y Ω 0) 1 8 underlying42 k4 k5 k6 k7 J ag _ _ _ J (g5.alloc _) (Q (γ (β k)) 0 D) 1 1 [Y Ω (c1:V)] J J (F7 (bS k)) ?d2 ?d3 ?d4 ?d5 ?d6 (γ (β k)+1) ?d7 ?_)
   case d2=>intro m6 a5;simp at a5;subst a5;rfl
   case d3=>decide
   case d4=>unfold A3;omega
   case d5=>omega
   case d6=>simp;omega
   case d7=>simp
   intro h9 g3 g8 g6 a4 g4 l4;obtain⟨n1,n2,n3,n4,n5,n6,n7,n8,n9⟩:=YH h5 j6 h7 hF b3 h6 v b4 S o0 a3 O W m3 w b9 a4 g6 g4;have o1:g8.heap[s]? =_:=(a4.block s aN (λg=>cz ((v.lt s g.symm).1))).trans (eT T);obtain⟨⟨_,_,l2,l3⟩,_,_,_,_⟩:=bM o1
   go_wp2
   go_roundg (a.size-c0)
   case measure=>omega
   exact⟨j,c0,c1+1,C++ [B],b2++ [c1],_,m0,L++m1,_,_,g3,J,M,m2,M,M,M,M,aN,N,n1,n2,n3,n4,n5,n6,n7,n8,n9⟩
 have b:decide ((c:V)<(a.size:V))=I:=aN;have k2:decide ((a.size:V)<=(c:V))=A:=aN;have N:U (rR o (e+1) (a.toList.drop l)=D):=by
  rw[U,R.out,ξ (by rw[aj];omega),rR];rfl
 clear R b5 v b4;go_wp2_with fail;go_region;all_goals(try go_wp2_with fail)
 go_region;all_goals(try go_wp2_with fail)
 go_ret;exact⟨⟨hF.os,hF.tape,hF.output,hF.size,hF.block⟩,C4 ⟨by rw[N.out];rfl,J,c,t,m,u,a2⟩⟩
theorem abu(d:a.size<=400)(l):Sl a l:=by
 induction l using Nat.strongRecOn with
 |ind l ih=>
  intro _ _ s i _ _ cap n c j _ _ w y;obtain⟨b,e⟩:∃b,s+om (a.toList.drop s)=b:=⟨_,J⟩;have N:b<=a.size:=by have:=Rx (a.toList.drop s);rw[ζ,aj]at this;omega
  have z:pG (a.toList.drop s)=a.toList.drop b:=by rw[pG,ω,e]
  cases l with
  |zero=>
   rw[zH];exact Et d i n c j e (C4 M)
  |succ l=>
   rw[zH,z];by_cases f:b<a.size
   ·rw[Es f]
    cases o:(a[b]==40)with
    |true=>
     rw[θ J];obtain⟨t,u⟩:∃t,b+1+om (a.toList.drop (b+1))=t:=⟨_,J⟩;have B:t<=a.size:=by have:=Rx (a.toList.drop (b+1));rw[ζ,aj]at this;omega
     have C:pG ((a.toList.drop b).drop 1)=a.toList.drop t:=by
      have p:(a.toList.drop b).drop 1=a.toList.drop (b+1):=by rw[ω]
      rw[p,pG,ω,u]
     rw[C];obtain⟨g,_,q,_,k,F,r,x⟩:=RU d B;rw[q];simp only
     cases m:(sK g&&decide (i<20))with
     |true=>
      rw[θ J];rw[η,B4]at m;have v:g≠ []:=by intro p;subst p;have:=m.1;cases this
      have K:=F v;exact YG d l (λL c=>ih L M) c j w y e f o u K k x r m.1 m.2 M
     |false=>
      rw[ε α];refine NI d i n c j e f o u x r ?_;rw[Bool.and_eq_false_iff,I1]at m;rcases m with c|c
      ·exact C4 c
      exact D4 M
    |false=>
     rw[ε α]
     cases k:bg a[b].toNat with
     |true=>
      have q:nE (a.toList.drop b)=([],a.toList.drop b):=by unfold nE;rw[θ];right;rw[Es f];exact k
      rw[q];exact Et d i n c j e (D4 ⟨f,k,o⟩)
     |false=>
      have q:nE (a.toList.drop b)=(dV (a.toList.drop b),pG ((a.toList.drop b).drop (dM (a.toList.drop b)))):=by
       unfold nE;rw[ε];rintro(c|c)
       ·rw[ζ,aj]at c;omega
       rw[Es f,k]at c;cases c
      rw[q];simp only;obtain⟨g,m⟩:∃g,dV (a.toList.drop b)=g:=⟨_,J⟩;have r:G g<=A3:=by
       rw[<-m];unfold dV;split
       ·rw[G4,ζ,aj];unfold A3;omega
       simp
      rw[m]
      cases t:kJ g with
      |true=>
       have v:g≠ []:=by intro p;subst p;cases t
       rw[θ J];exact YF d i c j w M e f o k v m t r J
      |false=>
       rw[ε α];exact abv d i n c j e f o k m t r
   have g:a.toList.drop b= []:=ξ (by rw[aj];omega);rw[g];exact Et d i n c j e (C4 M)
def TP(w:A5)(o:D3 Tr)(e:Ending)(w':A5):Prop:=Below (γ (β w)) w w'/\
 ((o=D/\∃ao m cap,e=Γ (E8 #[I9 #[H ao m cap],υ I]))\/
  (∃g cap n cs t,o=E t/\n<=400/\e=Γ (E8 #[I9 #[H (E ⟨g,0,D⟩) (n+1) cap],υ A])/\
   w'.ownsRow (γ (β w)) 183 4 (H (E ⟨g,0,D⟩) (n+1) cap) (n+1) cs/\Fz w' (λ_=>True) cs 0 n t))
def Bp(o:D3 (Tr×Bs)):D3 Tr:=match o with|some (t,[])=>E t|_=>D
theorem Rj(a):Ri a=Bp (zH (2*G a+1) 0 a):=J
theorem GJ(a:Fu ((f.alloc O).alloc a7) s (γ (β f)+1) D){v}:Bl f (s.setCell (Q (γ (β f)) 0 D) v):=by
 have b:=a.size;simp only[B5]at b
 suffices hB:Bl f s from hB.setCell (Θ _) _
 refine⟨a.os,a.tape,a.output,M,λc d=>?_⟩;rw[a.block c gL M (by intro b;cases b),A9 _ _ _ gL,A9 _ _ _ d]
theorem zW(a:Fu ((f.alloc O).alloc a7) s (γ (β f)+1) D):s.heap[γ (β f)]? =E O:=by
 rw[a.block _ gL M (by intro b;cases b),A9 _ _ _ gL];exact I0 f O
theorem rM{a}(b:f.heap[e]? =E (τ #[m] a (0,0))):ψ f (Q e 0 D)=E m/\E1 f (Q e 0 D)=I:=by
 simp[ψ,E1,b]
theorem xg{v a}(b:f.heap[e]? =E (τ #[m] a (0,0))):ψ (f.setCell (Q e 0 D) v) (Q e 0 D)=E v:=by
 simp[ψ,A4,B2,b]
theorem Pq(c:e=a.size):Bp (E (C,a.toList.drop e))=E C:=by
 have b:a.toList.drop e= []:=ξ (by rw[aj];omega);rw[b];rfl
theorem Pp(b:e<a.size):Bp (E (C,a.toList.drop e))=D:=by
 rw[D7 b];rfl
theorem EK(b)(T:a.size<=400)(c:∀(b:A5) (o:Z),fF b o a 0 (H D 0 0)->Φ B3 57 #[B9 (E (Q o 0 D)),Y Ω 0] b λj p=>Lg b o a 0 (H D 0 0) 0 [] L j p):
  Φ B3 21 #[δ a] b λj p=>TP b (Bp L) j p:=by
 have W:decide ((a.size:V)<=400)=A:=aN;have k:fF ((b.alloc (τ #[H D 0 0] 102)).alloc (τ #[δ a,Y Ω 0,H D 0 0] 180)) (γ (β b)+1) a 0 (H D 0 0):=by
  have:=bS (b.alloc (τ #[H D 0 0] 102)) (o:=(τ #[δ a,Y Ω 0,H D 0 0] 180));rw[B5]at this;exact this
 go_enter K0,J6;go_wp2_with(go_at_call 57;refine(c _ _ k).mono ?_);clear c;rintro j i ⟨e,⟨rfl,rfl,f,q,r,cap,s⟩|⟨t,f,c,cap,d,B,rfl,_,_,_,_,rfl,s,u,v,w⟩⟩
 ·obtain⟨⟨C,F,K⟩,N,O⟩:=gU s;obtain⟨P,R⟩:=rM (zW e);have g:U (Bl b (i.setCell (Q (γ (β b)) 0 D) (H q r cap))):=GJ e;have l:=xg (zW e) (v:=H q r cap);clear k e;go_wp2_with fail;go_region;go_wp2_with fail;exact G8 (v:=E8 #[I9 #[H q r cap],υ I]) (by simp[J5,F5,go_sem,l]) J ⟨g.drew,C4 ⟨J,_,_,_,J⟩⟩
 obtain⟨⟨C,F,K⟩,N,O⟩:=gU s;obtain⟨P,R⟩:=rM (zW e);have g:U (Bl b (i.setCell (Q (γ (β b)) 0 D) (H (E (Q c 0 D)) (d+1) cap))):=GJ e;have l:=xg (zW e) (v:=H (E (Q c 0 D)) (d+1) cap);have X:decide ((0:V)<=(d:V))=A:=ak;by_cases n:f=a.size
 ·have x:U (TP b (Bp (E (t,a.toList.drop f))) (Γ (E8 #[I9 #[H (E (Q c 0 D)) (d+1) cap],υ A])) (i.setCell (Q (γ (β b)) 0 D) (H (E (Q c 0 D)) (d+1) cap)).drew):=by
   rw[U,Pq n];have S:=e.size;simp only[B5]at S;have a0:γ (β b)+2<=c:=by
    rcases v with y|y
    ·cases y
    simpa only[B5]using y
   refine⟨g.drew,D4 ⟨c,cap,d,[]++B,t,J,M,J, ?_, ?_⟩⟩
   ·exact bY (F8 u (by show γ (β b)<γ (β b)+1+1;omega) _) λz y=>by have:c=z:=κ y;omega
   have:=w.move (x:=(i.setCell (Q (γ (β b)) 0 D) (H (E (Q c 0 D)) (d+1) cap)).drew) (S':=λ_=>True) [] (λz y=>C9 _ _ _ _ (by have:=y.1;simp only[B5]at this;show z≠γ (β b);omega)) (λ_ _=>trivial)
   rwa[A7]at this
  have y:((f:V)==(a.size:V))=A:=by rw[n];simp
  clear k e u w g v n;go_wp2_with fail;go_region;all_goals(try go_wp2_with fail)
  all_goals exact G8 (v:=E8 #[I9 #[H (E (Q c 0 D)) (d+1) cap],υ A]) (by simp[J5,F5,go_sem,l]) J x
 have x:U (TP b (Bp (E (t,a.toList.drop f))) (Γ (E8 #[I9 #[H (E (Q c 0 D)) (d+1) cap],υ I])) (i.setCell (Q (γ (β b)) 0 D) (H (E (Q c 0 D)) (d+1) cap)).drew):=by
  rw[U,Pp M];exact⟨g.drew,C4 ⟨J,_,_,_,J⟩⟩
 have y:((f:V)==(a.size:V))=I:=aN;clear k e u w g v n;go_wp2_with fail;go_region;all_goals(try go_wp2_with fail)
 all_goals exact G8 (v:=E8 #[I9 #[H (E (Q c 0 D)) (d+1) cap],υ I]) (by simp[J5,F5,go_sem,l]) J x
theorem Yl(a:A5)(b c):Fu ((a.alloc b).alloc c) ((a.alloc b).alloc c) (γ (β a)+1) D:=⟨J,J,J,Θ _,λ_ _ _ _=>rfl⟩
theorem Gj(a:φ)(b)(g:400<a.size):
  Φ B3 21 #[δ a] b λe f=>TP b D e f:=by
 have i:decide ((a.size:V)<=400)=I:=aN;obtain⟨_,_⟩:=au ((b.alloc (τ #[H D 0 0] 102)).alloc (τ #[δ a,Y Ω 0,H D 0 0] 180));have c:=Yl b (τ #[H D 0 0] 102) (τ #[δ a,Y Ω 0,H D 0 0] 180);have d:fF ((b.alloc (τ #[H D 0 0] 102)).alloc (τ #[δ a,Y Ω 0,H D 0 0] 180)) (γ (β b)+1) a 0 (H D 0 0):=by
  have:=bS (b.alloc (τ #[H D 0 0] 102)) (o:=(τ #[δ a,Y Ω 0,H D 0 0] 180));rw[B5]at this;exact this
 obtain⟨⟨_,_,_⟩,_,_⟩:=gU d;obtain⟨_,_⟩:=rM (zW c);clear d c;go_enter K0,J6;go_wp2_with fail;go_region;all_goals(try go_wp2_with fail)
 all_goals exact G8 (v:=E8 #[I9 #[H D 0 0],υ I]) (by simp[J5,F5,go_sem]) J ⟨(((B7 _ b).alloc (Θ _) _).alloc ek _).drew,C4 ⟨J,_,_,_,J⟩⟩
theorem Kt(a:φ)(b):Φ B3 21 #[δ a] b λc e=>TP b (lQ a.toList) c e:=by
 by_cases d:a.size<=400
 ·rw[<-Zj (by rw[aj];exact d),Rj];refine EK b d λb g f=>?_;have:=abu d (2*G a.toList+1) b g 0 0 0 D 0 [] f (B0 _) (by rw[aj];omega) M ⟨J,C4 ⟨J,J⟩⟩ (Θ _);exact this
 have c:lQ a.toList=D:=by unfold lQ;rw[θ (by rw[aj];omega)]
 rw[c];exact Gj a b M
def Tr.kd:Tr->V
 | .mk k _ _ _=>k
def Tr.tx:Tr->Bs
 | .mk _ t _ _=>t
def Tr.br:Tr->G5
 | .mk _ _ b _=>b
def Tr.ops:Tr->Ξ Tr
 | .mk _ _ _ o=>o
mutual
def post:Tr->Ξ Tr
 | .mk k tx br ops=>dm ops++ [.mk k tx br ops]
def dm:Ξ Tr->Ξ Tr
 | []=>[]
 |t::ts=>post t++dm ts
end
def kg(t:Tr):Prop:=t.br=I->t.ops= []/\kJ t.tx=A/\t.kd=bF t.tx
theorem fQ:∀a:Tr,(post a)[G (post a)-1]? =E a
 | .mk c e b d=>by rw[post];simp
def IX(w:A5)(S:Z->Prop)(cs:Ξ C0)(lo:Z)(l:Ξ Tr)(ty:Z->V)(j:Z)(t:Tr):Prop:=∃(v:C0) (is:Ξ Z),
 cs[4*(lo+j)]? =E (δ (ae t.tx))/\cs[4*(lo+j)+1]? =E (υ t.br)/\cs[4*(lo+j)+2]? =E v/\cs[4*(lo+j)+3]? =E (Y H0 (ty j))/\
 w.ownsRow 0 3 1 v (G t.ops) (is.map λj:Nat=>Y Ω (j:V))/\(∀g,v.ownBlock=E g->S g)/\G is=G t.ops/\kg t/\
 ∀(m q:Z),is[m]? =E q->∃q',q=lo+q'/\q'<j/\l[q']? =t.ops[m]?
def lI(w:A5)(S:Z->Prop)(cs:Ξ C0)(lo:Z)(l:Ξ Tr)(ty:Z->V):Prop:=∀(j:Z) (t:Tr),l[j]? =E t->IX w S cs lo l ty j t
theorem Vg(C:lI f X q e x (λ_=>0))(F:lI f X q (e+G x) b2 (λ_=>0)):lI f X q e (x++b2) (λ_=>0):=by
 intro b z c;rcases H7 b (G x)with l|l
 ·rw[σ l]at c;obtain⟨m,n,d,g,i,j,o,p,r,s,t⟩:=C b z c;refine⟨m,n,d,g,i,j,o,p,r,s,λv w u=>?_⟩;obtain⟨a,k,B,y⟩:=t v w u;exact⟨a,k,B,by rw[σ M];exact y⟩
 rw[ι l]at c;obtain⟨m,n,d,g,i,j,o,p,r,s,t⟩:=F _ z c;have k:e+G x+(b-G x)=e+b:=M;rw[k]at d g i j;refine⟨m,n,d,g,i,j,o,p,r,s,λv w u=>?_⟩;obtain⟨a,k,B,y⟩:=t v w u;exact⟨G x+a,M,M,by rw[ι M,show G x+a-G x=a by omega];exact y⟩
mutual
theorem Fz.nodes{B:A5}{y:Z->Prop}{z:Ξ C0} :∀ {g j:Z} {i:Tr},Fz B y z g j i->lI B y z g (post i) (λ_=>0)/\g+G (post i)=j+1
 |g,j,.mk k tx br ops,.mk (v:=n) (is:=m) a b c c3 d q f l _=>by
  obtain⟨C,_,F,K⟩:=mD.nodes f;rw[post];refine⟨λo i e=>?_,by rw[D0,List.length_singleton];omega⟩;rcases H7 o (G (dm ops))with r|r
  ·rw[σ r]at e;obtain⟨n,m,p,L,N,O,P,R,S,T,W⟩:=C o i e;refine⟨n,m,p,L,N,O,P,R,S,T,λt u s=>?_⟩;obtain⟨v,q,w,x⟩:=W t u s;exact⟨v,q,w,by rw[σ M];exact x⟩
  rw[ι r]at e;have L:o-G (dm ops)=0:=by have:=(H1.mp e).1;simp at this;omega
  rw[L]at e;simp at e;subst e;have p:4*(g+o)=4*j:=M;refine⟨n,m,by rw[p];exact a,by rw[p];exact b,by rw[p];exact c,by rw[p];exact c3,d,q,F,l,λt u s=>?_⟩;obtain⟨v,N,w,x⟩:=K t u s;exact⟨v,N,M,by rw[σ w];exact x⟩
theorem mD.nodes{q:A5}{n:Z->Prop}{o:Ξ C0} :∀ {e j:Z} {k:Ξ Z} {d:Ξ Tr},mD q n o e j k d->lI q n o e (dm d) (λ_=>0)/\e+G (dm d)=j/\G k=G d/\∀(m g:Z),k[m]? =E g->∃f,g=e+f/\f<G (dm d)/\(dm d)[f]? =d[m]?
 |e,_,_,_,.nil=>⟨λy c i=>by simp[dm]at i,by simp[dm],J,λm g i=>by simp at i⟩
 |e,j,_,_,.cons (i:=p) (t:=c) (ts:=d) a b=>by
  obtain⟨s,t⟩:=Fz.nodes a;obtain⟨u,_,v,w⟩:=mD.nodes b;rw[dm];have x:e+G (post c)=p+1:=t;refine⟨Vg s (by rw[x];exact u),Jr,by simp[v],λm g l=>?_⟩
  cases m with
  |zero=>
   simp at l;subst l;have r:=fQ c;have:0<G (post c):=List.length_pos_of_mem (F4 r);exact⟨G (post c)-1,M,Jr,by rw[σ M,r];rfl⟩
  |succ m=>
   obtain⟨f,_,_,r⟩:=w m g (by simpa using l);refine⟨G (post c)+f,M,Jr, ?_⟩;rw[ι M,show G (post c)+f-G (post c)=f by omega,r];simp
end
mutual
theorem Fz.texts{q:A5}{o:Z->Prop}{p:Ξ C0} :∀ {m j:Z} {n:Tr},Fz q o p m j n->∀i∈post n,G i.tx<=A3
 |m,j,.mk k tx br ops,.mk a b c c3 d e f l z,i,hy=>by
  rw[post]at hy;rcases J1.mp hy with g|g
  ·exact mD.texts f i g
  rw[List.mem_singleton.mp g];exact z
theorem mD.texts{l:A5}{f:Z->Prop}{g:Ξ C0} :∀ {k i:Z} {j:Ξ Z} {e:Ξ Tr},mD l f g k i j e->∀c∈dm e,G c.tx<=A3
 |_,_,_,_,.nil,c,hy=>by simp[dm]at hy
 |_,_,_,_,.cons a b,c,hy=>by
  rw[dm]at hy;rcases J1.mp hy with d|d
  ·exact Fz.texts a c d
  exact mD.texts b c d
end
mutual
theorem NY{f:Bs->V}{g:Sc}{fns:Ξ Fn} :∀(i:Tr) (a:Ξ Tr) (b:Tr) (e:Ξ Tr) (d:V),(∀c∈post i,kg c)->post i=a++b::e->(∀p∈a,∃c,bO f g fns p=.ok c)->bO f g fns b=.error d->bO f g fns i=.error d
 | .mk k tx o ops,a,b,e,d,hL,he,hp,hs=>by
  rw[post]at he;by_cases l:e= []
  ·subst l;have:=(List.append_inj' he J).2;simp at this;rw[this];exact hs
  obtain⟨j,m⟩:∃j,dm ops=a++b::j:=by
   refine⟨e.dropLast, ?_⟩;have n:=K2 List.dropLast he;rw[List.dropLast_concat,List.dropLast_append_of_ne_nil ak,List.dropLast_cons_of_ne_nil l]at n;exact n
  have n:=Bd ops a b j d (λc q=>hL c (by rw[post];exact C5 _ q)) m hp hs
  cases o with
  |false=>
   have:=(hL (.mk k tx I ops) (by rw[post];simp) J).1;rw[show(Tr.mk k tx I ops).ops=ops from J]at this;subst this;simp[dm]at m
  |true=>rw[bO,θ J,n];rfl
theorem Bd{j:Bs->V}{l:Sc}{fns:Ξ Fn} :∀(g:Ξ Tr) (k:Ξ Tr) (d:Tr) (m:Ξ Tr) (c:V),(∀a∈dm g,kg a)->dm g=k++d::m->(∀n∈k,∃a,bO j l fns n=.ok a)->bO j l fns d=.error c->dN j l fns g=.error c
 | [],k,d,m,c,hL,he,hp,hs=>by simp[dm]at he
 |t::g,k,d,m,c,hL,he,hp,hs=>by
  rw[dm]at he hL;rcases List.append_eq_append_iff.mp he with⟨i,e,f⟩|⟨i,e,f⟩
  ·have o:∃a,bO j l fns t=.ok a:=hp t (by rw[e];exact C5 _ (F4 (fQ t)));obtain⟨a,b⟩:=o;have:=Bd g i d m c (λa b=>hL a (D1 _ b)) f (λn p=>hp n (by rw[e];exact D1 _ p)) hs;rw[dN,b,this]
  cases i with
  |nil=>
   rw[A7]at e;rw[J0]at f;have o:∃a,bO j l fns t=.ok a:=hp t (by rw[<-e];exact F4 (fQ t));obtain⟨a,b⟩:=o;have:=Bd g [] d m c (λa b=>hL a (D1 _ b)) f.symm (λn p=>by simp at p) hs;rw[dN,b,this]
  |cons p i=>
   rw[E7,E2]at f;have:=NY t k d i c (λa b=>hL a (C5 _ b)) (by rw[e,f.1]) hp hs;rw[dN,this]
end
def Qm(fns:Ξ Fn)(t:Tr):V:=if t.br&& !dU t.tx then(match dG fns t.tx with|none=>0|some i=>match fns[i]? with|none=>0|some f=>f.body.size)else 0
def pU:Ξ V->V
 | []=>0
 |x::xs=>x+pU xs
theorem Fb(a b):pU (a++b)=pU a+pU b:=by
 induction a with
 |nil=>simp[pU]
 |cons c d ih=>simp[pU,ih];omega
theorem OI{a:Bs->V}:(fe a N d).size=1:=by
 unfold fe;repeat' split
 all_goals rfl
mutual
theorem Bc{i:Bs->V}{m:Sc}{fns:Ξ Fn} :∀(e:Tr) (c:Ex),(∀g∈post e,kg g)->bO i m fns e=.ok c->c.size=G (post e)+pU ((post e).map (Qm fns))
 | .mk k tx n ops,c,hL,a=>by
  rw[post]at hL ⊢;rw[G6,Fb,D0]
  cases n with
  |false=>
   have l:=(hL (.mk k tx I ops) ak J).1;rw[show(Tr.mk k tx I ops).ops=ops from J]at l;subst l;rw[bO,ε α]at a;have q:c.size=1:=by
    split at a
    ·unfold zb at a;split at a
     ·cases a
     split at a
     ·cases a
     cases a;rfl
    split at a
    ·unfold EA at a;split at a
     ·cases a
     cases a;rfl
    cases a;exact OI
   rw[q];simp[dm,pU,Qm,Tr.br]
  |true=>
   rw[bO,θ J]at a
   cases f:dN i m fns ops with
   |error v=>rw[f]at a;cases a
   |ok j=>
    rw[f]at a;have t:=EC ops j (λg r=>hL g (C5 _ r)) f;have b:uh fns tx j=.ok c:=a;unfold uh at b
    cases d:dU tx with
    |true=>
     rw[d,θ J]at b;split at b
     ·cases b
     cases b;simp[Ex.size,pU,Qm,Tr.br,Tr.tx,d];omega
    |false=>
     rw[d,ε α]at b;unfold uI at b;split at b
     ·cases b
     next u p=>
     split at b
     ·cases b
     next s o=>
     split at b
     ·cases b;simp[Ex.size,pU,Qm,Tr.br,Tr.tx,d,p,o];omega
     cases b
theorem EC{f:Bs->V}{j:Sc}{fns:Ξ Fn} :∀(b:Ξ Tr) (d:Ξ Ex),(∀c∈dm b,kg c)->dN f j fns b=.ok d->bQ d=G (dm b)+pU ((dm b).map (Qm fns))
 | [],d,hL,a=>by
  rw[dN]at a;cases a;simp[dm,bQ,pU]
 |t::b,d,hL,a=>by
  rw[dm]at hL ⊢;rw[dN]at a;split at a
  ·cases a
  next k g=>
  split at a
  ·cases a
  next l i=>
  cases a;have m:=Bc t k (λc e=>hL c (C5 _ e)) g;have n:=EC b l (λc e=>hL c (D1 _ e)) i;rw[G6,Fb,D0,bQ];omega
end
def pQ(t:V):V:=if t=1 then 110 else if t=2 then 116 else if t=3 then 98 else 0
structure RF where
 fn:Fn
 args:Bs
 t:Tr
def Dr(w:A5)(b i:Z)(rf:RF):Prop:=∃(g cap:Z) (cs:Ξ C0) (Bo:Z->V),
 ψ w ⟨b,i*5,D⟩=E (δ (ae rf.fn.name))/\ψ w ⟨b,i*5+1,D⟩=E (δ (ae rf.args))/\ψ w ⟨b,i*5+2,D⟩=E (H (E ⟨g,0,D⟩) (G (post rf.t)) cap)/\
 ψ w ⟨b,i*5+3,D⟩=E (Y Ω rf.fn.body.size)/\ψ w ⟨b,i*5+4,D⟩=E (υ rf.fn.body.quiet)/\G (post rf.t)<=1000/\
 w.ownsRow 0 183 4 (H (E ⟨g,0,D⟩) (G (post rf.t)) cap) (G (post rf.t)) cs/\lI w (λ_=>True) cs 0 (post rf.t) Bo/\Bo (G (post rf.t)-1)=pQ rf.fn.body.ty
def pJ(w:A5)(v:C0)(rfs:Ξ RF):Prop:=∃ao cap,v=H ao (G rfs) cap/\G rfs<=8/\(rfs= []\/∃b,ao=E ⟨b,0,D⟩/\b<γ (β w)/\∀(i:Z) (rf:RF),rfs[i]? =E rf->Dr w b i rf)
theorem IX.ah{w x}{S:Z->Prop}{l}(c:IX w S q n l a5 e C)(d:Bl w x):IX x S q n l a5 e C:=by
 obtain⟨v,f,g,i,j,k,a,m⟩:=c;exact⟨v,f,g,i,j,k,aD a λb o=>d.block b (a.lt b o).2,m⟩
theorem lI.ah{w x}{S:Z->Prop}{l}(a:lI w S q e l a5)(b:Bl w x):lI x S q e l a5:=λd f c=>(a d f c).ah b
theorem Dr.ah{w x i d}(g:Dr w e i d)(b:e<γ (β w))(a:Bl w x):Dr x e i d:=by
 obtain⟨c,cap,j,Bo,k,l,m,n,o,p,f,q,r⟩:=g;exact⟨c,cap,j,Bo,cK a b k,cK a b l,cK a b m,cK a b n,cK a b o,p,aD f λc s=>a.block c (f.lt c s).2,q.ah a,r⟩
theorem pJ.ah{w x v c}(a:pJ w v c)(b:Bl w x):pJ x v c:=by
 obtain⟨d,cap,e,f,g⟩:=a;refine⟨d,cap,e,f, ?_⟩;rcases g with a|⟨j,k,l,m⟩
 ·exact C4 a
 exact D4 ⟨j,k,cz b.size,λi o n=>(m i o n).ah l b⟩
structure qP(w:World)(co:Option Addr)(cn:Nat)(cc:Nat)(aS:Option Addr)(tn:Nat)(tc:Nat)(fv:Value)(aB:List (Bs×Int))(rfs:List RF):Prop where
 aeM:cn=List.length aB
 afu:tn=List.length aB
 small:List.length aB<=1000
 zu:aB= []\/∃b,co=some ⟨b,0,none⟩/\b<Array.size (World.heap w)/\∀(i:Nat) (c:Bs×Int),aB[i]? =some c->World.cell? w ⟨b,i,none⟩=some (.string (ae c.1))
 Qp:aB= []\/∃b,aS=some ⟨b,0,none⟩/\b<Array.size (World.heap w)/\∀(i:Nat) (c:Bs×Int),aB[i]? =some c->World.cell? w ⟨b,i,none⟩=some (.int .u8 (pQ c.2))
 acR:List.length aB<=cc
 KP:List.length aB<=tc
 fns:pJ w fv rfs
theorem qP.ah{w x aS aB o}(a:qP w r n e aS p l m aB o)(b:Bl w x):qP x r n e aS p l m aB o:=by
 refine⟨a.aeM,a.afu,a.small, ?_, ?_,a.acR,a.KP,a.fns.ah b⟩
 ·rcases a.zu with a|⟨c,d,f,g⟩
  ·exact C4 a
  exact D4 ⟨c,d,cz b.size,λi j k=>cK b f (g i j k)⟩
 rcases a.Qp with a|⟨c,d,f,g⟩
 ·exact C4 a
 exact D4 ⟨c,d,cz b.size,λi j k=>cK b f (g i j k)⟩
def RF.list(rfs:Ξ RF):Ξ Fn:=rfs.map RF.fn
def Hw(o:D3 Z):V:=match o with|none=> -1|some i=>(i:V)
def nU(rfs:Ξ RF)(l:Bs)(i:Z):D3 Z:=((rfs.drop i).findIdx? (λr=>r.fn.name==l)).map (· +i)
theorem Nj(b a):nU b a 0=dG (RF.list b) a:=by
 unfold nU dG RF.list;rw[C6,List.findIdx?_map];simp[Function.comp_def]
theorem Qy{a}(c:e<G a)(b:(a[e].fn.name==d)=A):nU a d e=E e:=by
 unfold nU;rw[D9 c,I3,b];simp
theorem Ni{a}(c:e<G a)(b:(a[e].fn.name==d)=I):nU a d e=nU a d (e+1):=by
 unfold nU;rw[D9 c,I3,b];simp only[G0,K1,Option.map_map];congr 1;funext x;simp;omega
theorem Qx{a}(b:G a<=e):nU a d e=D:=by
 unfold nU;rw[ξ b];rfl
theorem mi{b}(p:pJ f (H r n e) b)(d):
  Φ B3 66 #[I9 #[m,u,δ a,H r n e],δ (ae d)] f (RB (Y Ω (Hw (dG (RF.list b) d))) f):=by
 obtain⟨_,cap,l,_,q⟩:=p
 cases l;have i:=Nj b d;have j:=ai f (τ #[m,u,δ a,H r (G b) e] 214);have t:ψ (f.alloc (τ #[m,u,δ a,H r (G b) e] 214)) (Q (γ (β f)) 3 D)=E (H r (G b) e):=aC (I0 f _);clear t;obtain⟨s,c⟩:=au (f.alloc (τ #[m,u,δ a,H r (G b) e] 214));have g:f.alloc (τ #[m,u,δ a,H r (G b) e] 214)=s:=c.symm;rw[g]at j;have t:ψ s (Q (γ (β f)) 3 D)=E (H r (G b) e):=by rw[c];exact aC (I0 f _)
 clear c;go_enter func66,ntmps66;go_wp2_with fail
 try rw[g]
 clear g;go_loop [5] (λg=>∃c:Z,c<=G b/\g=Y Ω c/\U (nU b d 0=nU b d c)) (λc=>G b-(C1 c).toNat)
 ·exact⟨0,B0 _,J,J⟩
 obtain⟨c,_,rfl,g⟩:=hrel;by_cases o:c<G b
 ·rcases(id q)with p|⟨w,rfl,x,k⟩
  ·subst p;simp at o
  obtain⟨_,_,_,Bo,v,_⟩:=k c b[c] (C8 o);have:=cK j x v;have:w<γ (β s):=cz j.size;have:(ae b[c].fn.name).toList=b[c].fn.name:=ay;have:(ae d).toList=d:=ay;clear k q v
  cases l:(b[c].fn.name==d)with
  |true=>
   have k:U (dG (RF.list b) d=E c):=by rw[U,<-i,g.out,Qy o l]
   clear i g
   go_wp2
   go_ret;exact⟨by rw[k.out];rfl,j⟩
  |false=>
   have k:U (nU b d 0=nU b d (c+1)):=by rw[U,g.out,Ni o l]
   clear i g
   go_wp2
   go_round
   ·exact⟨c+1,M,aP,k⟩
   simp[C1];omega
 have k:U (dG (RF.list b) d=D):=by rw[U,<-i,g.out,Qx M]
 clear i g q
 go_wp2
 go_ret;exact⟨by rw[k.out];rfl,j⟩
end Go.Proofs.YthkeffolmbnkaaaGreatDoor
