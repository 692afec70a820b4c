import Derived.WalkSpells
import Derived.WalkLawsBesides
import Derived.Test.YthkeffolmbnkaaaGreatDoorShelfNZ
import Derived.BigQuiet
import Derived.Deep.DeepCutAuto
set_option linter.unusedVariables false
set_option linter.unusedSimpArgs false
set_option maxRecDepth 100000
set_option maxHeartbeats 0
open Array renaming size->H,getElem?_modify->B4,getElem?_eq_none->I2
open Bool renaming false->Z,not_eq_true->ω,true->Ψ,false_ne_true->A6,and_eq_true->C6,eq_iff_iff->H3,false_eq_true->J1,or_eq_true->J6,true_and->K6
open ByteArray renaming mk->F2,data_extract->H4,data_append->M3
open Go renaming bodyPost_ret->ζ,Calls->θ,World->ξ,results->Δ,maxLen->A2,heap_alloc_new->A3,Value->B2,Ending->H7,info_parts->J8,wpList_append_own->K7,Addr->M1
open Go.Addr renaming mk->γ,add->E9,add_lit->I6
open Go.ByteArray renaming toList_eq->A5,toList_mk->M2
open Go.Calls renaming quiet_of_same->A7
open Go.Ending renaming returned->μ
open Go.IntKind renaming i64->U
open Go.Lib renaming indexByte->D9,trimPrefix->F0
open Go.Obj renaming cells->A0
open Go.Proofs.Tryz renaming ntmps350->ν,prog->ο,func350->υ,results101->B8,results54->D0,results19->D1,ntmps194->D5,ntmps168->D6,ntmps101->D7,func194->E0,func168->E1,func101->E2,results327->E4,results290->E5,ntmps290->F4,ntmps170->F5,ntmps169->F6,ntmps167->F7,ntmps54->G1,func290->G2,func170->G3,func169->G4,func167->G5,func54->G8,results326->H1,results100->H2,ntmps173->H9,ntmps172->I0,ntmps165->I1,func173->I3,func172->I4,func165->I5,results136->J5,ntmps362->J9,ntmps353->K0,ntmps286->K1,ntmps247->K2,ntmps136->K3,ntmps124->K4,ntmps100->K5,ntmps98->K8,ntmps19->K9,func362->L0,func353->L1,func286->L2,func247->L3,func136->L4,func124->L5,func100->L6,func98->L8,func19->L9
open Go.RowKit renaming Hid->D,intOf->C1,Below->C5
open Go.RowKit.Below renaming refl->ι,heap_setCell->σ,heap_alloc->Φ,setCell->A4,alloc->I8
open Go.Value renaming int->J,string->I,bool->Q,slice->δ,pointer->η,tuple->Θ,agg->Ω
open Go.World renaming heap->A,cell?->β,frozen?->κ,setCell->B3,cell?_setCell_other->B6,ownsRow_nil->C0,size_alloc->D8,cell?_of_block->E7
open List renaming length->G,getElem?_eq_getElem->τ,drop_of_length_le->χ,drop_eq_getElem_cons->ψ,takeWhile_cons->A1,cons_append->A9,length_cons->B5,length_eq_zero_iff->B9,all_cons->C7,append_assoc->D4,headD_cons->E3,drop_zero->E8,dropWhile_cons->F3,length_append->F8,take_succ_eq_append_getElem->G0,isEmpty_iff_length_eq_zero->G6,length_drop->G7,nil_append->G9,length_nil->H0,getElem?_append_right->H5,getElem?_append_left->H6,any_cons->H8,mem_of_getElem?->I9,contains_cons->J0,length_take->J3,map_append->J4,drop_left->J7
open Nat renaming le_refl->ε,zero_le->B0,le_trans->C3,add_zero->C9,zero_add->I7,lt_of_lt_of_le->J2,lt_or_ge->L7
open Option renaming none->M,some->E
open Option.some renaming inj->D3
open Or renaming inl->B7,inr->C4
open UInt8 renaming ofNat->E6
open _root_ renaming rfl->V,Int->Y,List->ρ,ByteArray->φ,if_neg->Γ,if_pos->Ξ,Nat->A8,Option->B1,Bool->C2,UInt8->C8,decide_eq_false->D2,Except->F1,decide_eq_true->F9,absurd->M0,Array->M4,beq_iff_eq->M5
namespace Go.Proofs.YthkeffolmbnkaaaGreatDoor
open Go.Proofs.Tryz
open Go.RowKit
variable{O:Array Value}{z a4:Bool}{b:ByteArray}{R:Ending}{T:Ending->World->Prop}{W:FuncId}{i K:Int}{d r:List Int}{m:List Nat}{l C:List Value}{a n y:Nat}{a1:Nat×Nat}{p:Nat->Prop}{s F:Obj}{u a2:Option Addr}{X:Program}{o:Prop}{N:UInt8}{f q B L a0 a5 a6 a7 a8 a9 b0:Value}{e j x a3:World}
theorem cz{p q:Prop}(a:q)(b:q->p:=by intro _;omega):p:=b a
theorem aa{p:Prop}(a:p:=by omega):p:=a
theorem aF(a:o:=by kernel_rfl):o:=a
theorem ag{p:Prop}(a:p:=by decide):p:=a
theorem aN{p:Prop}(a:p:=by simp;omega):p:=a
theorem ak{p:Prop}(a:p:=by simp):p:=a
theorem gL(a:o:=by simp only[Go.World.size_alloc];omega):o:=a
theorem ek(a:o:=by simp[Go.World.size_alloc]):o:=a
theorem aP{p:Prop}(a:p:=by go_num):p:=a
theorem dJ(a:o:=by dsimp only;omega):o:=a
theorem fD{p:Prop}(a:p:=by unfold Go.maxLen;omega):p:=a
theorem jl(a:o:=by simp[Go.Act.eval]):o:=a
theorem vK(a:o:=by simp[Go.World.size_alloc];omega):o:=a
theorem CE(a:o:=by simp<;>omega):o:=a
theorem uU(a:o:=by first|exact Go.RowKit.Below.refl _ _|exact(Go.RowKit.Below.refl _ _).drew):o:=a
theorem LZ(a:o:=by simp only[Go.World.size_drew,Go.World.size_alloc];omega):o:=a
theorem Jq{p:Prop}(a:p:=by simp[Go.World.setCell];omega):p:=a
theorem xW(a:o:=by rw[beq_eq_false_iff_ne];omega):o:=a
theorem FK(a:o:=by rw[Go.World.size_alloc];omega):o:=a
theorem Jr(a:o:=by rw[List.length_append];omega):o:=a
theorem PS(a:o:=by rw[List.length_take];omega):o:=a
theorem afB(a:o:=by rfl):o:=a
theorem bP(b:θ X W O j λa x=>a=R/\x=e)(c:T R e):θ X W O j T:=b.mono (by rintro a x ⟨rfl,rfl⟩;exact c)
theorem cB{a:ξ->Prop}(c:θ X W O e λb x=>b=R/\a x)(d:∀x,a x->T R x):θ X W O e T:=c.mono (by rintro b x ⟨rfl,f⟩;exact d x f)
abbrev Bl(w x:ξ):Prop:=C5 (H (A w)) w x
abbrev RB(v:B2)(w:ξ)(e:H7)(x:ξ):Prop:=e=μ v/\Bl w x
abbrev RE(v:B2)(w:ξ)(e:H7)(x:ξ):Prop:=e=μ v/\x=w
theorem bT(a:Bl e j)(b:Bl j x):Bl e x:=a.trans (b.mono a.size)
theorem cK{v}(c:C5 y e j)(d:a<y)(b:β e ⟨a,n,M⟩=v):β j ⟨a,n,M⟩=v:=(c.cell (p:=⟨a,n,M⟩) d).trans b
theorem au{α:Sort _}(a:α):∃b,b=a:=⟨_,V⟩
def gF(c:Y):C2:=c==32||c==9||c==10
def bg(c:Y):C2:=c==40||c==41
def dD(c:Y):C2:=decide (48<=c)&&decide (c<=57)
def fI(c:Y):C2:=decide (97<=c)&&decide (c<=122)
abbrev Bs:=ρ C8
def lZ(l:Bs):C2:=l== [43]||l== [45]||l== [42]||l== [47]||l== [61]||l== [60]||l== [60,61]
def nG(l:Bs):C2:=l== [116,114,117,101]||l== [102,97,108,115,101]||l== [117,115,101,114]
def Em(c:C8):C2:=fI c.toNat||dD c.toNat
def aW(l:Bs):C2:=decide (0<G l)&&decide (G l<=12)&&fI (l.headD 0).toNat&&l.all Em
def lN(l:Bs):C2:=decide (G l=2)&&(l.headD 0==36)&&dD (l.getD 1 0).toNat&& !(l.getD 1 0==48)
def dR:Bs->Y->C2
 | [],_=>Ψ
 |c::r,n=>dD c.toNat&&decide (n*10+(c.toNat-48)<=1000000000)&&dR r (n*10+(c.toNat-48))
def bN(l:Bs):Bs:=if l.headD 0==45 then l.drop 1 else l
def gH(l:Bs):C2:=l== [48]||(decide (0<G (bN l))&& !((bN l).headD 0==48)&&dR (bN l) 0)
def wD(c:C8):C2:=decide (32<=c.toNat)&&decide (c.toNat<=126)&& !(c==39)
def fJ(l:Bs):C2:=decide (2<=G l)&&decide (G l<=32)&&(l.getD 0 0==39)&&(l.getD (G l-1) 0==39)&&((l.take (G l-1)).drop 1).all wD
def jq(l:Bs):C2:=l.contains 46&&aW (l.takeWhile (· != 46))&&aW ((l.dropWhile (· != 46)).drop 1)
def bF(l:Bs):Y:=
 if l== [40]then 1 else if l== [41]then 2 else if lZ l then 8 else if gH l then 3 else if fJ l then 4
 else if lN l then 7 else if aW l then 5 else if jq l then 6 else 0
theorem aj(s:φ):G s.toList=s.size:=by rw[A5];simp
theorem gp(b:φ)(a)(c:a<b.size):b.toList[a]'(by rw[aj];exact c)=b[a]:=by
 simp only[A5];rfl
theorem drop_cons{s:φ}{k}(a:k<s.size):s.toList.drop k=s[k]::s.toList.drop (k+1):=by
 rw[ψ (by rw[aj];exact a),gp s k a]
theorem wY(a:b.size=0):b.toList.isEmpty=Ψ:=by
 rw[G6,aj,a]
theorem sM(a:φ)(c:0<a.size):a.toList.isEmpty=Z:=by
 rw[Bool.eq_false_iff];intro b;rw[G6,aj]at b;omega
theorem lV{s:φ}(a:0<s.size):s.toList.headD 0=s[0]:=by
 have:=drop_cons a;rw[E8]at this;rw[this];rfl
theorem zt(b:φ)(a)(c:a<b.size):b.toList.getD a 0=b[a]:=by
 rw[List.getD_eq_getElem?_getD,τ (by rw[aj];exact c),gp b a c];rfl
theorem yS(b:C8->C2){s:φ}(c:a<s.size):(s.toList.drop a).all b=(b s[a]&&(s.toList.drop (a+1)).all b):=by
 rw[drop_cons c];rfl
theorem CX(c:C8->C2)(b:φ)(a)(d:b.size<=a):(b.toList.drop a).all c=Ψ:=by
 rw[χ (by rw[aj];exact d)];rfl
theorem aaf(a:0<b.size)(c:b.size<=12):aW b.toList=(fI b[0].toNat&&b.toList.all Em):=by
 unfold aW;rw[aj,lV a];simp[a,c]
theorem aG(a:z=a4):μ (Q z)=μ (Q a4):=by rw[a]
theorem lG{a:IntKind}(b:i=K):μ (J a i)=μ (J a K):=by rw[b]
theorem mM:
  θ ο 97 #[J .u8 i] e (RE (Q (gF i)) e):=by
 go_enter func97,ntmps97
 go_wp2
 all_goals go_ret
 all_goals(refine⟨aG ?_,V⟩;simp[gF, *])
theorem lY:
  θ ο 164 #[J .u8 i] e (RE (Q (bg i)) e):=by
 go_enter func164,ntmps164
 go_wp2
 all_goals go_ret
 all_goals(refine⟨aG ?_,V⟩;simp[bg, *])
theorem iV:
  θ ο 235 #[J .u8 i] e (RE (Q (dD i)) e):=by
 go_enter func235,ntmps235
 go_wp2
 all_goals go_ret
 all_goals(refine⟨aG ?_,V⟩;simp[dD]<;>omega)
theorem nk:
  θ ο 236 #[J .u8 i] e (RE (Q (fI i)) e):=by
 go_enter func236,ntmps236
 go_wp2
 all_goals go_ret
 all_goals(refine⟨aG ?_,V⟩;simp[fI]<;>omega)
theorem Ef:
  θ ο 166 #[I b] e (RE (Q (lZ b.toList)) e):=by
 go_enter func166,ntmps166
 go_wp2
 all_goals go_ret
 all_goals(refine⟨aG ?_,V⟩;simp_all[lZ])
theorem mH(a:φ)(o)(s:a.size<=A2):
  θ ο 170 #[I a] o (RE (Q (aW a.toList)) o):=by
 unfold A2 at s;by_cases p:a.size=0
 ·have t:=wY p;have g:D (aW a.toList=Z):=by simp[D,aW,aj,p]
  go_enter G3,F5
  go_wp2
  go_ret;exact⟨aG g.symm,V⟩
 have q:0<a.size:=aa;have t:=sM a q;by_cases r:a.size<=12
 ·have i:D (aW a.toList=(fI a[0].toNat&&a.toList.all Em)):=aaf q r;by_cases j:fI a[0].toNat=Ψ
  ·go_enter G3,F5;go_wp2_with(first|(go_at_call 236;refine(nk).mono ?_;rintro c d ⟨rfl,rfl⟩));go_loop [19] (λn=>∃b:A8,b<=a.size/\n=J U b/\D (a.toList.all Em=(a.toList.drop b).all Em)) (λn=>a.size-(C1 n).toNat)
   ·exact⟨0,B0 _,V,V⟩
   obtain⟨b,_,rfl,e⟩:=hrel;by_cases v:b<a.size
   ·have l:D ((a.toList.drop b).all Em=(Em a[b]&&(a.toList.drop (b+1)).all Em)):=yS Em v;have k:D (Em a[b]=(fI a[b].toNat||dD a[b].toNat)):=V;by_cases f:fI a[b].toNat=Ψ
    ·go_wp2_with(first|(go_at_call 236;refine(nk).mono ?_;rintro c d ⟨rfl,rfl⟩)|(go_at_call 235;refine(iV).mono ?_;rintro c d ⟨rfl,rfl⟩))
     go_round
     ·exact⟨b+1,aa,aP,by rw[D,e.out,l.out,k.out,f];rfl⟩
     simp[C1];omega
    rw[ω]at f;by_cases m:dD a[b].toNat=Ψ
    ·go_wp2_with(first|(go_at_call 236;refine(nk).mono ?_;rintro c d ⟨rfl,rfl⟩)|(go_at_call 235;refine(iV).mono ?_;rintro c d ⟨rfl,rfl⟩))
     go_round
     ·exact⟨b+1,aa,aP,by rw[D,e.out,l.out,k.out,f,m];rfl⟩
     simp[C1];omega
    rw[ω]at m;go_wp2_with(first|(go_at_call 236;refine(nk).mono ?_;rintro c d ⟨rfl,rfl⟩)|(go_at_call 235;refine(iV).mono ?_;rintro c d ⟨rfl,rfl⟩));go_ret;exact⟨aG (by rw[i.out,e.out,l.out,k.out,f,m];simp),V⟩
   have u:D ((a.toList.drop b).all Em=Ψ):=CX Em a b aa
   go_wp2
   go_ret;exact⟨aG (by rw[i.out,e.out,u.out,j];rfl),V⟩
  rw[ω]at j;go_enter G3,F5;go_wp2_with(first|(go_at_call 236;refine(nk).mono ?_;rintro c d ⟨rfl,rfl⟩));go_ret;exact⟨aG (by rw[i.out,j];rfl),V⟩
 have g:D (aW a.toList=Z):=by simp[D,aW,aj,r]
 go_enter G3,F5
 go_wp2
 go_ret;exact⟨aG g.symm,V⟩
theorem wM{c:C8}(a:A8)(b:a<256):(c==E6 a)=decide ((c.toNat:Y)=a):=by
 rw[H3];simp only[M5,decide_eq_true_eq];constructor
 ·rintro rfl;simp;omega
 intro _;apply UInt8.toNat_inj.mp;simp;omega
theorem Jm(a b:Y):(a != b)= !decide (a=b):=by
 rw[H3];simp
theorem Tm(a:b.size=2):lN b.toList=(decide ((b[0].toNat:Y)=36)&&dD b[1].toNat&& !decide ((b[1].toNat:Y)=48)):=by
 unfold lN;rw[aj,lV (s:=b) aa,zt b 1 aa];rw[show(36:C8)=E6 36 from V,show(48:C8)=E6 48 from V,wM 36 aa,wM 48 aa];simp[a]
theorem CG:
  θ ο 169 #[I b] e (RE (Q (lN b.toList)) e):=by
 by_cases d:b.size=2
 ·have a:D (lN b.toList=(decide ((b[0].toNat:Y)=36)&&dD b[1].toNat&& !decide ((b[1].toNat:Y)=48))):=Tm d;by_cases f:(b[0].toNat:Y)=36
  ·by_cases c:dD b[1].toNat=Ψ
   ·go_enter G4,F6;go_wp2_with(first|(go_at_call 235;refine(iV).mono ?_;rintro g i ⟨rfl,rfl⟩));go_ret;exact⟨aG (by rw[a.out,f,c];simp[Jm]),V⟩
   rw[ω]at c;go_enter G4,F6;go_wp2_with(first|(go_at_call 235;refine(iV).mono ?_;rintro g i ⟨rfl,rfl⟩));go_ret;exact⟨aG (by rw[a.out,c];simp),V⟩
  go_enter G4,F6;go_wp2_with(first|(go_at_call 235;refine(iV).mono ?_;rintro g i ⟨rfl,rfl⟩));go_ret;exact⟨aG (by rw[a.out];simp[f]),V⟩
 have a:D (lN b.toList=Z):=by simp[D,lN,aj,d]
 go_enter G4,F6
 go_wp2
 go_ret;exact⟨aG a.symm,V⟩
theorem Oe(c:a<b.size-1):
  ((b.toList.take (b.size-1)).drop a).all wD=(wD (b[a]' aa)&&((b.toList.take (b.size-1)).drop (a+1)).all wD):=by
 have:G (b.toList.take (b.size-1))=b.size-1:=by rw[J3,aj];omega
 rw[ψ aa];simp only[C7,List.getElem_take,gp b a aa]
theorem Tv(a:φ)(b)(c:a.size-1<=b):((a.toList.take (a.size-1)).drop b).all wD=Ψ:=by
 rw[χ (by rw[J3,aj];omega)];rfl
theorem Iq(a:2<=b.size)(c:b.size<=32):fJ b.toList=
  (decide ((b[0].toNat:Y)=39)&&decide ((b[b.size-1].toNat:Y)=39)&&((b.toList.take (b.size-1)).drop 1).all wD):=by
 unfold fJ;rw[aj,zt b 0 aa,zt b (b.size-1) aa];rw[show(39:C8)=E6 39 from V,wM 39 aa,wM 39 aa];simp[a,c]
theorem Tu(a:C8):wD a=(!decide ((a.toNat:Y)<32)&& !decide ((126:Y)<a.toNat)&& !decide ((a.toNat:Y)=39)):=by
 unfold wD;rw[show(39:C8)=E6 39 from V,wM 39 aa];rw[H3];simp;omega
theorem MX(o:b.size<=A2):
  θ ο 168 #[I b] e (RE (Q (fJ b.toList)) e):=by
 unfold A2 at o;by_cases k:2<=b.size/\b.size<=32
 ·obtain⟨k,p⟩:=k;have c:=Iq k p;replace c:D _:=c;by_cases d:(b[0].toNat:Y)=39/\(b[b.size-1].toNat:Y)=39
  ·obtain⟨d,j⟩:=d;go_enter E1,D6;go_wp2_with fail;go_loop [3] (λf=>∃a:A8,1<=a/\a<=b.size-1/\f=J U a/\D (((b.toList.take (b.size-1)).drop 1).all wD=((b.toList.take (b.size-1)).drop a).all wD)) (λf=>b.size-(C1 f).toNat)
   ·exact⟨1,aa,aa,V,V⟩
   obtain⟨a,_,_,rfl,i⟩:=hrel;by_cases q:a<b.size-1
   ·have:a<b.size:=by omega
    have f:=Oe q;replace f:D _:=f;have g:=Tu b[a];replace g:D _:=g;by_cases l:(b[a].toNat:Y)<32
    ·go_wp2
     go_ret;exact⟨aG (by rw[c.out,i.out,f.out,g.out];simp[l]),V⟩
    by_cases m:(126:Y)<b[a].toNat
    ·go_wp2
     go_ret;exact⟨aG (by rw[c.out,i.out,f.out,g.out];simp[m]),V⟩
    by_cases n:(b[a].toNat:Y)=39
    ·go_wp2
     go_ret;exact⟨aG (by rw[c.out,i.out,f.out,g.out];simp[n]),V⟩
    have r:D (wD b[a]=Ψ):=by rw[D,g.out];simp[l,m,n]
    go_wp2
    go_round
    ·exact⟨a+1,aa,aa,aP,by rw[D,i.out,f.out,r.out];rfl⟩
    simp[C1];omega
   have f:D (((b.toList.take (b.size-1)).drop a).all wD=Ψ):=Tv b a aa
   go_wp2
   go_ret;exact⟨aG (by rw[c.out,i.out,f.out,d,j];simp),V⟩
  by_cases j:(b[0].toNat:Y)=39
  ·have a:D (¬(b[b.size-1].toNat:Y)=39):=λf=>d ⟨j,f⟩;have g:((b[b.size-1].toNat:Y) != 39)=Ψ:=by rw[Jm,D2 a.out];rfl
   clear d;go_enter E1,D6
   go_wp2
   go_ret;exact⟨aG (by rw[c.out,D2 a.out];simp),V⟩
  clear d;go_enter E1,D6
  go_wp2
  go_ret;exact⟨aG (by rw[c.out];simp[j]),V⟩
 have c:D (fJ b.toList=Z):=by
  simp only[D,fJ,aj];simp;omega
 by_cases g:b.size<2
 ·go_enter E1,D6
  go_wp2
  go_ret;exact⟨aG c.symm,V⟩
 have:32<b.size:=aa;go_enter E1,D6
 go_wp2
 go_ret;exact⟨aG c.symm,V⟩
theorem jU{s:φ}{w}:
  θ ο 174 #[I s] w (RB (Q (nG s.toList)) w):=by
 go_enter func174,ntmps174
 go_wp2
 all_goals go_ret
 all_goals(refine⟨aG ?_,ι _ _⟩;simp_all[nG])
def jB(k:Y)(l:Bs):C2:=k==3||k==4||k==6||k==7||nG l
def nL(k:Y)(l:Bs):C2:=k==8||(k==5&& !nG l)
theorem pR(a)(b:φ)(c):
  θ ο 102 #[Ω #[J U a,I b]] c (RB (Q (jB a b.toList)) c):=by
 go_enter func102,ntmps102;go_wp2_with(first|(go_at_call 174;refine cB jU ?_;rintro _ d));all_goals go_ret
 all_goals first
  |(refine⟨aG ?_,(ι _ _).alloc (ε _) _⟩;simp_all[jB];done)
  |(refine⟨aG ?_,((ι _ _).alloc (ε _) _).trans (d.mono ak)⟩;simp_all[jB])
theorem yj(a)(c:φ)(d):
  θ ο 172 #[Ω #[J U a,I c]] d (RB (Q (nL a c.toList)) d):=by
 by_cases e:a=8
 ·subst e;go_enter I4,I0;go_wp2_with(first|(go_at_call 174;refine cB jU ?_;rintro g b));go_ret;exact⟨aG (by simp[nL]),(ι _ _).alloc (ε _) _⟩
 by_cases f:a=5
 ·subst f;go_enter I4,I0;go_wp2_with(first|(go_at_call 174;refine cB jU ?_;rintro g b));go_ret;exact⟨aG (by simp[nL]),((ι _ _).alloc (ε _) _).trans (b.mono ak)⟩
 go_enter I4,I0;go_wp2_with(first|(go_at_call 174;refine cB jU ?_;rintro g b));go_ret;exact⟨aG (by simp[nL,e,f]),(ι _ _).alloc (ε _) _⟩
theorem aI{x:ξ}{j cs b}(c:x.heap[a]? =E (A0 cs b a1)):β x ⟨a,j,M⟩=cs[j]? :=by simp[β,c]
theorem aC{j cs b v}(d:e.heap[a]? =E (A0 cs b a1))(c:cs[j]? =E v:=by rfl):β e ⟨a,j,M⟩=E v:=(aI d).trans c
def fT(b:C2)(n:Y):Y:=if b then n else 0
def ZX(b:C2):Y:=if b then 1 else 0
def aT:ρ Y->Y
 | []=>0
 |e::es=>if e=0 then aT es else e
theorem eX:θ ο 122 #[Q z,J U i] e (RE (J U (fT z i)) e):=by
 cases z<;>
 ·go_enter func122,ntmps122
  go_wp2
  go_ret;exact⟨V,V⟩
theorem sI(k cap a)(q:G a<=100)(g:∀l j,a[l]? =E j->β e (γ k l M)=E (J U j)):
  θ ο 65 #[δ (E (γ k 0 M)) (G a) cap] e (RE (J U (aT a)) e):=by
 go_enter func65,ntmps65;go_wp2_with fail;go_loopw [7] (λc d=>∃b:A8,b<=G a/\c=J U b/\d=e/\D (aT a=aT (a.drop b))) (λc _=>G a-(C1 c).toNat)
 ·exact⟨0,B0 _,V,V,V⟩
 obtain⟨b,_,rfl,rfl,c⟩:=hrel;by_cases m:b<G a
 ·have n:=g b a[b] (τ m);have i:a.drop b=a[b]::a.drop (b+1):=ψ m;by_cases f:a[b]=0
  ·have d:D (aT a=aT (a.drop (b+1))):=by rw[D,c.out,i,aT,Ξ f]
   rw[f]at n;clear c g i
   go_wp2
   go_roundw
   ·exact⟨b+1,aa,aP,by trivial,d⟩
   simp[C1];omega
  have d:D (aT a=a[b]):=by rw[D,c.out,i,aT,Γ f]
  have p:(a[b]==0)=Z:=by simpa using f
  obtain⟨j,o⟩:=au (a[b]);rw[<-o]at n d p f;clear c g i o
  go_wp2
  go_ret;exact⟨by rw[d.out];rfl,V⟩
 have d:D (aT a=0):=by rw[D,c.out,χ aa];rfl
 clear c g
 go_wp2
 go_ret;exact⟨by rw[d.out];rfl,V⟩
def lK(c:Y):Y:=if c=110 then 1 else if c=116 then 2 else if c=98 then 3 else 0
theorem Cv(a b):θ ο 240 #[J .u8 a] b (RE (J U (lK a)) b):=by
 go_enter func240,ntmps240
 go_wp2
 all_goals go_ret
 all_goals(refine⟨?_,V⟩;simp_all[lK])
theorem DT:θ ο 301 #[J U i] e (RB (Ω #[J U 1,J U i,I ⟨#[]⟩]) e):=by
 go_enter func301,ntmps301;go_wp2_with fail;exact ζ (v:=Ω #[J U 1,J U i,I ⟨#[]⟩]) (by simp[Δ,results301,go_sem]) V ⟨V,(ι _ _).alloc (ε _) _⟩
theorem Js:θ ο 196 #[I b] e (RB (Ω #[J U 2,J U 0,I b]) e):=by
 go_enter func196,ntmps196;go_wp2_with fail;exact ζ (v:=Ω #[J U 2,J U 0,I b]) (by simp[Δ,results196,go_sem]) V ⟨V,(ι _ _).alloc (ε _) _⟩
theorem FL:θ ο 136 #[Q z] e (RB (Ω #[J U 3,J U (ZX z),I ⟨#[]⟩]) e):=by
 cases z
 ·go_enter L4,K3;go_wp2_with fail;exact ζ (v:=Ω #[J U 3,J U 0,I ⟨#[]⟩]) (by simp[Δ,J5,go_sem]) V ⟨V,(ι _ _).alloc (ε _) _⟩
 go_enter L4,K3;go_wp2_with fail;exact ζ (v:=Ω #[J U 3,J U 1,I ⟨#[]⟩]) (by simp[Δ,J5,go_sem]) V ⟨V,(ι _ _).alloc (ε _) _⟩
theorem FQ:θ ο 195 #[Ω #[J U i,J U K,I b]] e (RB (Q (i==0)) e):=by
 go_enter func195,ntmps195
 go_wp2
 go_ret;exact⟨V,(ι _ _).alloc (ε _) _⟩
theorem fP:θ ο 361 #[Q z,J U i] e (RE (J U (fT z i)) e):=by
 cases z<;>
 ·go_enter func361,ntmps361
  go_wp2
  go_ret;exact⟨V,V⟩
theorem ug:θ ο 331 #[Ω #[J U i,J U K,I b]] e λa c=>
  a=μ (Ω #[J U 0,J U i,J U 1,Q Ψ,J U i,J U K,I b,J U 0,I ⟨#[]⟩,η M,δ M 0 0])/\Bl e c:=by
 go_enter func331,ntmps331;go_wp2_with fail;exact ζ (v:=Ω #[J U 0,J U i,J U 1,Q Ψ,J U i,J U K,I b,J U 0,I ⟨#[]⟩,η M,δ M 0 0]) (by simp[Δ,results331,go_sem]) V ⟨V,((ι _ e).alloc (ε _) _).alloc ek _⟩
def rZ:ρ Bs:=[[43],[45],[42],[47],[61],[60],[60,61],[97,110,100],[111,114],[110,111,116],[105,115,110,117,108,108],[105,102],[108,101,110],[99,97,116],[110,111,116,101]]
def dU(l:Bs):C2:=rZ.any (l== ·)
def mO(l:Bs):C2:=[[43],[45],[42],[47],[99,97,116],[110,111,116,101]].any (l== ·)
theorem xL(a:φ)(b):θ ο 239 #[I a] b (RE (Q (dU a.toList)) b):=by
 go_enter func239,ntmps239
 go_wp2
 all_goals go_ret
 all_goals(refine⟨aG ?_,V⟩;simp_all[dU,rZ])
theorem MW(a:φ)(b):θ ο 352 #[I a] b (RE (Q (!mO a.toList)) b):=by
 go_enter func352,ntmps352
 go_wp2
 all_goals go_ret
 all_goals(refine⟨aG ?_,V⟩;simp_all[mO])
theorem mK(a:φ):a.data.toList=a.toList:=(A5 a).symm
theorem RV(c:φ):F0 c.data.toList [45]=bN c.toList:=by
 rw[mK];generalize c.toList=e
 cases e with
 |nil=>rfl
 |cons a b=>
  by_cases d:a=45
  ·subst d;rfl
  have f:bN (a::b)=a::b:=by unfold bN;rw[Γ];simpa using d
  have g:F0 (a::b) [45]=a::b:=by
   unfold F0 Lib.hasPrefix;rw[Γ];simpa[List.isPrefixOf]using(λi=>d (Eq.symm i))
  rw[f,g]
theorem Pn{a}:G (bN a)<=G a:=by unfold bN;split<;>simp
theorem AQ(a:Bs):(F2 a.toArray).toList=a:=M2 a
theorem abp(a:Bs):(F2 a.toArray).size=G a:=by rw[<-aj,AQ]
theorem Ka(c)(d:a<b.size):dR (b.toList.drop a) c=
  (dD b[a].toNat&&decide (c*10+(b[a].toNat-48)<=1000000000)&&dR (b.toList.drop (a+1)) (c*10+(b[a].toNat-48))):=by
 rw[drop_cons d,dR]
theorem NE(b:φ)(a d)(c:b.size<=a):dR (b.toList.drop a) d=Ψ:=by
 rw[χ (by rw[aj];exact c),dR]
theorem qm(a:dD i=Ψ):48<=i/\i<=57:=by
 unfold dD at a;simpa using a
theorem FT(t:b.size<=A2):
  θ ο 167 #[I b] e (RE (Q (gH b.toList)) e):=by
 unfold A2 at t;by_cases m:(b.toList== [48])=Ψ
 ·have f:D (gH b.toList=Ψ):=by rw[D,gH,m];rfl
  go_enter G5,F7
  go_wp2
  go_ret;exact⟨aG f.symm,V⟩
 rw[ω]at m;obtain⟨a,c⟩:=au (⟨(F0 b.data.toList [45]).toArray⟩:φ);have q:D (bN b.toList=a.toList):=by rw[D,c,RV];exact(AQ _).symm
 have:a.size<=b.size:=by rw[<-aj,<-q.out,<-aj b];exact Pn
 have n:∀e:ξ,θ ο 234 #[I b,I ⟨#[45]⟩] e (RE (I a) e):=by
  intro e;rw[c];exact Tryz.strings_TrimPrefix b ⟨#[45]⟩ e
 clear c;have f:D (gH b.toList=(decide (0<G a.toList)&& !(a.toList.headD 0==48)&&dR a.toList 0)):=by
  rw[D,gH,m,q.out];rfl
 by_cases r:a.size=0
 ·have u:=wY r;go_enter G5,F7;go_wp2_with(go_at_call 234;refine(n _).mono ?_;rintro g i ⟨rfl,rfl⟩);go_ret;exact⟨aG (by rw[f.out,aj];simp[r]),V⟩
 have o:0<a.size:=aa;have u:=sM a o;have d:D ((a.toList.headD 0==48)=decide ((a[0].toNat:Y)=48)):=by
  rw[D,lV o];exact wM 48 aa
 by_cases c:(a[0].toNat:Y)=48
 ·go_enter G5,F7;go_wp2_with(go_at_call 234;refine(n _).mono ?_;rintro g i ⟨rfl,rfl⟩);go_ret;exact⟨aG (by rw[f.out,d.out];simp[c]),V⟩
 have p:D (gH b.toList=dR a.toList 0):=by
  rw[D,f.out,d.out,aj];simp[c,o]
 clear f d;have:((a[0].toNat:Y)==48)=Z:=by simpa using c
 clear c;go_enter G5,F7;go_wp2_with(go_at_call 234;refine(n _).mono ?_;rintro g i ⟨rfl,rfl⟩);go_loop [4,19] (λk j=>∃(c:A8) (d:Y),c<=a.size/\j=J U c/\k=J U d/\0<=d/\d<=1000000000/\D (dR a.toList 0=dR (a.toList.drop c) d)) (λ_ j=>a.size-(C1 j).toNat)
 ·exact⟨0,0,B0 _,V,V,aa,aa,V⟩
 obtain⟨c,d,_,rfl,rfl,_,_,k⟩:=hrel;by_cases v:c<a.size
 ·have j:=Ka d v;replace j:D _:=j;by_cases l:dD a[c].toNat=Ψ
  ·have:=qm l;by_cases s:d*10+(a[c].toNat-48)<=1000000000
   ·go_wp2_with(first|(go_at_call 235;refine(iV).mono ?_;rintro g i ⟨rfl,rfl⟩))
    go_round
    ·exact⟨c+1,d*10+(a[c].toNat-48),aa,aP,aP,aa,aa,by rw[D,k.out,j.out,l,F9 s];rfl⟩
    simp[C1];omega
   have w:D (decide (d*10+(a[c].toNat-48)<=1000000000)=Z):=D2 s;go_wp2_with(first|(go_at_call 235;refine(iV).mono ?_;rintro g i ⟨rfl,rfl⟩));go_ret;exact⟨aG (by rw[p.out,k.out,j.out,w.out];simp),V⟩
  rw[ω]at l;go_wp2_with(first|(go_at_call 235;refine(iV).mono ?_;rintro g i ⟨rfl,rfl⟩));go_ret;exact⟨aG (by rw[p.out,k.out,j.out,l];rfl),V⟩
 have j:D (dR (a.toList.drop c) d=Ψ):=NE a c d aa
 go_wp2
 go_ret;exact⟨aG (by rw[p.out,k.out,j.out]),V⟩
def aY(w:ξ)(v:B2)(zs:ρ Y):Prop:=∃ao cap,v=δ ao (G zs) cap/\G zs<=1048576/\(zs= []\/∃b off,ao=E ⟨b,off,M⟩/\b<H (A w)/\∀j u,zs[j]? =E u->β w ⟨b,off+j,M⟩=E (J U u))
theorem aY.ah{w x v zs}(a:aY w v zs)(c:Bl w x):aY x v zs:=by
 obtain⟨d,cap,e,f,g⟩:=a;refine⟨d,cap,e,f, ?_⟩;rcases g with a|⟨b,i,j,k,l⟩
 ·exact B7 a
 exact C4 ⟨b,i,j,cz c.size,λn o m=>cK c k (l n o m)⟩
theorem Mr{l2}:decide (i::d=i::l2)=decide (d=l2):=ak
theorem Ms(a:i≠K){l2}:decide (i::d=K::l2)=Z:=by simp[a]
theorem KE{zs:ρ Y}(b)(l:aY e f zs):
  θ ο 209 #[f,J U b] e λk r=>(∃o:Y,k=μ (J U o)/\(decide (0<=o)=zs.any (· ==b)))/\r=e:=by
 obtain⟨_,cap,rfl,_,i⟩:=l;go_enter func209,ntmps209;go_wp2_with fail;go_loopw [8] (λc d=>∃a:A8,a<=G zs/\c=J U a/\d=e/\D (zs.any (· ==b)=(zs.drop a).any (· ==b))) (λc _=>G zs-(C1 c).toNat)
 ·exact⟨0,B0 _,V,V,V⟩
 obtain⟨a,_,rfl,rfl,c⟩:=hrel;by_cases m:a<G zs
 ·rcases(id i)with l|⟨_,_,rfl,_,n⟩
  ·subst l;simp at m
  have p:=n a zs[a] (τ m);have j:zs.drop a=zs[a]::zs.drop (a+1):=ψ m;by_cases d:zs[a]=b
  ·have g:D (zs.any (· ==b)=Ψ):=by rw[D,c.out,j,H8,d];simp
   rw[d]at p;clear c n j i d
   go_wp2
   go_ret;exact⟨⟨_,V,by rw[g.out];simp⟩,V⟩
  have g:D (zs.any (· ==b)=(zs.drop (a+1)).any (· ==b)):=by rw[D,c.out,j,H8];simp[d]
  have s:(b==zs[a])=Z:=by simp;exact λk=>d k.symm
  obtain⟨_,q⟩:=au (zs[a]);rw[<-q]at p s;clear c n j q i d
  go_wp2
  go_roundw
  ·exact⟨a+1,aa,aP,by trivial,g⟩
  simp[C1];omega
 have g:D (zs.any (· ==b)=Z):=by rw[D,c.out,χ aa];rfl
 clear c i
 go_wp2
 go_ret;exact⟨⟨_,V,by rw[g.out];rfl⟩,V⟩
theorem uN{zs:ρ Y}(a)(b:aY e f zs):
  θ ο 148 #[f,J U a] e (RE (Q (zs.any (· ==a))) e):=by
 go_enter func148,ntmps148;go_wp2_with(go_at_call 209;refine(KE a b).mono ?_;rintro _ _ ⟨⟨_,rfl,_⟩,rfl⟩);go_ret;exact⟨V,V⟩
theorem jT(B:aY e f d)(C:aY e q r):
  θ ο 353 #[f,q] e (RB (Q (decide (d=r))) e):=by
 obtain⟨_,_,rfl,_,i⟩:=B;obtain⟨_,_,rfl,l2,j⟩:=C;by_cases o:G d=G r
 ·have F:((G d:Y)==(G r:Y))=Ψ:=by rw[o];simp
  go_enter L1,K0;go_wp2_with fail;go_loopw [13] (λb c=>∃a:A8,a<=G d/\b=J U a/\Bl e c/\D (decide (d=r)=decide (d.drop a=r.drop a))) (λb _=>G d-(C1 b).toNat)
  ·exact⟨0,B0 _,V,ι _ _,V⟩
  obtain⟨a,_,rfl,k,c⟩:=hrel;by_cases p:a<G d
  ·rcases(id i)with s|⟨_,_,rfl,K,t⟩
   ·subst s;simp at p
   rcases(id j)with s|⟨_,_,rfl,L,u⟩
   ·subst s;simp only[H0]at o;omega
   have w:a<G r:=aa;have v:=cK k K (t a d[a] (τ p));have x:=cK k L (u a r[a] (τ w));have m:d.drop a=d[a]::d.drop (a+1):=ψ p;have n:r.drop a=r[a]::r.drop (a+1):=ψ w;by_cases g:d[a]=r[a]
   ·have b:D (decide (d=r)=decide (d.drop (a+1)=r.drop (a+1))):=by rw[D,c.out,m,n,g];exact Mr
    rw[g]at v;obtain⟨N,l⟩:=au (r[a]);rw[<-l]at v x;clear c t u m n l i j g;go_wp2_with fail;go_region
    go_wp2
    go_roundw
    ·exact⟨a+1,aa,aP,k.drew,b⟩
    simp[C1];omega
   have b:D (decide (d=r)=Z):=by rw[D,c.out,m,n];exact Ms g
   have y:(d[a]==r[a])=Z:=by simpa using g
   obtain⟨N,l⟩:=au (d[a]);obtain⟨_,z⟩:=au (r[a]);rw[<-l]at v y;rw[<-z]at x y;clear c t u m n l z i j g;go_wp2_with fail;go_region
   go_wp2
   go_ret;exact⟨aG b.symm,k.drew⟩
  have b:D (decide (d=r)=Ψ):=by rw[D,c.out,χ aa,χ aa];rfl
  clear c i j
  go_wp2
  go_ret;exact⟨aG b.symm,k⟩
 have F:((G d:Y)==(G r:Y))=Z:=aN;have b:D (decide (d=r)=Z):=by rw[D,decide_eq_false_iff_not];intro a;exact o (by rw[a])
 clear i j;go_enter L1,K0
 go_wp2
 go_ret;exact⟨aG b.symm,ι _ _⟩
theorem Co(b)(c:β e (γ a 0 M)=E (J U i)):
  θ ο 369 #[J U b,η (E (γ a 0 M))] e (RE (Q (!(b==i))) e):=by
 go_enter func369,ntmps369
 go_wp2
 go_ret;exact⟨V,V⟩
theorem zy{zs:ρ Y}(j:aY e f zs)(n:β e (γ a 0 M)=E (J U i)):
  θ ο 377 #[f,.func (Fn.func 369) #[] #[η (E (γ a 0 M))]] e λq r=>(∃b:Y,q=μ (J U b)/\(decide (0<=b)= !zs.all (· ==i)))/\r=e:=by
 obtain⟨_,cap,rfl,_,k⟩:=j;go_enter func377,ntmps377;go_wp2_with fail;go_loopw [8] (λc d=>∃b:A8,b<=G zs/\c=J U b/\d=e/\D (zs.all (· ==i)=(zs.drop b).all (· ==i))) (λc _=>G zs-(C1 c).toNat)
 ·exact⟨0,B0 _,V,V,V⟩
 obtain⟨b,_,rfl,rfl,c⟩:=hrel;by_cases l:b<G zs
 ·rcases(id k)with j|⟨_,_,rfl,_,g⟩
  ·subst j;simp at l
  have s:=g b zs[b] (τ l);have o:zs.drop b=zs[b]::zs.drop (b+1):=ψ l;have d:D ((zs.drop b).all (· ==i)=((zs[b]==i)&&(zs.drop (b+1)).all (· ==i))):=by rw[D,o,C7]
  obtain⟨m,p⟩:=au (zs[b]);rw[<-p]at s d;clear g o p k
  cases o:(m==i)with
  |true=>
   have g:D (zs.all (· ==i)=(zs.drop (b+1)).all (· ==i)):=by rw[D,c.out,d.out,o];rfl
   clear c d;go_wp2_with(go_at_call 369;refine bP (Co m n) ?_);go_roundw
   ·exact⟨b+1,aa,aP,by trivial,g⟩
   simp[C1];omega
  |false=>
   have g:D (zs.all (· ==i)=Z):=by rw[D,c.out,d.out,o];rfl
   clear c d;go_wp2_with(go_at_call 369;refine bP (Co m n) ?_);go_ret;exact⟨⟨_,V,by rw[g.out];simp⟩,V⟩
 have g:D (zs.all (· ==i)=Ψ):=by rw[D,c.out,χ aa];rfl
 clear c k
 go_wp2
 go_ret;exact⟨⟨_,V,by rw[g.out];rfl⟩,V⟩
theorem vQ{zs:ρ Y}(b:aY e f zs)(c:β e (γ a 0 M)=E (J U i)):
  θ ο 370 #[f,.func (Fn.func 369) #[] #[η (E (γ a 0 M))]] e (RE (Q (!zs.all (· ==i))) e):=by
 go_enter func370,ntmps370;go_wp2_with(go_at_call 377;refine(zy b c).mono ?_;rintro _ _ ⟨⟨_,rfl,_⟩,rfl⟩);go_ret;exact⟨V,V⟩
theorem yH{zs:ρ Y}(a)(i:aY e f zs):
  θ ο 362 #[f,J U a] e (RB (Q (decide (0<G zs)&&zs.all (· ==a))) e):=by
 have b:Bl e (e.alloc (A0 #[J U a] 3)):=(ι _ _).alloc (ε _) _;have d:β (e.alloc (A0 #[J U a] 3)) (γ (H (A e)) 0 M)=E (J U a):=aC (A3 e _);have c:=vQ (i.ah b) d;obtain⟨_,cap,rfl,_,g⟩:=i;clear d g;by_cases j:0<G zs
 ·obtain⟨k,d⟩:=au (zs.all (· ==a));have g:D ((decide (0<G zs)&&zs.all (· ==a))=k):=by rw[D,F9 j,K6,d]
  rw[<-d]at c;clear d;go_enter L0,J9;go_wp2_with(go_at_call 370;refine bP c ?_);go_ret;exact⟨by rw[g.out];rfl,b⟩
 have g:D ((decide (0<G zs)&&zs.all (· ==a))=Z):=by rw[D,D2 j];rfl
 clear c;go_enter L0,J9
 go_wp2
 go_ret;exact⟨aG g.symm,b⟩
theorem SH{b:Bs}(a:b.contains N=Z):D9 b N= -1:=by
 induction b with
 |nil=>rfl
 |cons c f ih=>
  simp only[J0,Bool.or_eq_false_iff]at a;have d:(c==N)=Z:=by
   have:=a.1;rw[beq_eq_false_iff_ne]at this ⊢;exact λe=>this e.symm
  rw[D9,d,ih a.2];rfl
theorem ui{l:Bs}{c:C8}(b:l.contains c=Ψ):D9 l c=(l.takeWhile (· != c)).length/\
  (l.takeWhile (· != c)).length<G l/\l.take (l.takeWhile (· != c)).length=l.takeWhile (· != c)/\l.drop (l.takeWhile (· != c)).length=l.dropWhile (· != c):=by
 induction l with
 |nil=>simp at b
 |cons a d ih=>
  by_cases e:a=c
  ·subst e;have g:List.takeWhile (λf=>f != a) (a::d)= []:=by rw[A1];simp
   have i:List.dropWhile (λf=>f != a) (a::d)=a::d:=by rw[F3];simp
   rw[g,i,D9];simp
  have g:(a==c)=Z:=by simpa using e
  have f:(a != c)=Ψ:=by simpa using e
  have i:d.contains c=Ψ:=by
   simp only[J0,J6]at b;rcases b with b|b
   ·exact M0 (by simpa using b:c=a).symm e
   exact b
  obtain⟨j,_,k,m⟩:=ih i;rw[A1,F3,Ξ f,Ξ f,D9,g,j];refine⟨?_,aN,by simp[k],by simp[m]⟩;rw[Γ ak,Γ ak];simp
theorem zh(b:φ)(a):(b.extract 0 a).toList=b.toList.take a:=by
 rw[A5,A5,H4];simp
theorem vN(a:φ)(b):(a.extract b a.size).toList=a.toList.drop b:=by
 rw[<-mK,Lib.extract_to_end,mK]
theorem KG(p:b.size<=A2):
  θ ο 286 #[I b,I ⟨#[46]⟩] e λd f=>Bl e f/\
   ((b.toList.contains 46=Ψ/\∃m l:φ,d=μ (Θ #[I m,I l,Q Ψ])/\m.toList=b.toList.takeWhile (· != 46)/\l.toList=(b.toList.dropWhile (· != 46)).drop 1)\/
    (b.toList.contains 46=Z/\d=μ (Θ #[I b,I ⟨#[]⟩,Q Z]))):=by
 unfold A2 at p;by_cases a:b.toList.contains 46=Ψ
 ·obtain⟨g,n,i,j⟩:=ui a;obtain⟨c,o⟩:=au ((b.toList.takeWhile (· != 46)).length);rw[<-o]at g n i j;rw[aj]at n;have k:∀e:ξ,θ ο 325 #[I b,I ⟨#[46]⟩] e (RE (J U c) e):=by
   intro e;rw[<-g,<-mK];exact Tryz.stringslite_Index_one b 46 e
  have q:D (b.toList.take c=b.toList.takeWhile (· != 46)):=i;have r:D (b.toList.drop c=b.toList.dropWhile (· != 46)):=j;have s:D (b.toList.contains 46=Ψ):=a;clear g i j o a;go_enter L2,K1;go_wp2_with(go_at_call 325;refine(k _).mono ?_;rintro d f ⟨rfl,rfl⟩);go_region;all_goals(try go_wp2)
  all_goals go_ret3
  exact⟨Below.drew (ι _ _),B7 ⟨s,b.extract 0 c,b.extract (c+1) b.size,V,by rw[zh,q.out],by rw[vN,<-r.out,List.drop_drop]⟩⟩
 rw[ω]at a;have k:∀e:ξ,θ ο 325 #[I b,I ⟨#[46]⟩] e (RE (J U (-1)) e):=by
  intro e;rw[<-SH a,<-mK];exact Tryz.stringslite_Index_one b 46 e
 go_enter L2,K1;go_wp2_with(go_at_call 325;refine(k _).mono ?_;rintro d f ⟨rfl,rfl⟩)
 go_ret3
 exact⟨ι _ _,C4 ⟨a,V⟩⟩
theorem aaO(m:b.size<=A2):
  θ ο 237 #[I b,I ⟨#[46]⟩] e λf i=>Bl e i/\
   ((b.toList.contains 46=Ψ/\∃d c:φ,f=μ (Θ #[I d,I c,Q Ψ])/\d.toList=b.toList.takeWhile (· != 46)/\c.toList=(b.toList.dropWhile (· != 46)).drop 1)\/
    (b.toList.contains 46=Z/\f=μ (Θ #[I b,I ⟨#[]⟩,Q Z]))):=by
 go_enter func237,ntmps237;go_wp2_with(go_at_call 286;refine(KG m).mono ?_);rintro f i ⟨j,n⟩;rcases n with⟨a,d,c,rfl,k,l⟩|⟨a,rfl⟩
 ·have g:D (b.toList.contains 46=Ψ):=a;change D _ at k;change D _ at l;clear a
  go_wp2
  go_ret3
  exact⟨j,B7 ⟨g,d,c,V,k,l⟩⟩
 have g:D (b.toList.contains 46=Z):=a;clear a
 go_wp2
 go_ret3
 exact⟨j,C4 ⟨g,V⟩⟩
theorem ZZ(a:Bs)(b:C8->C2):G (a.takeWhile b)<=G a:=by
 induction a with
 |nil=>simp
 |cons c d ih=>rw[A1];split<;>simp;omega
theorem aeN(a:Bs)(b:C8->C2):G (a.dropWhile b)<=G a:=by
 induction a with
 |nil=>simp
 |cons c d ih=>rw[F3];split<;>simp;omega
theorem JL(k:b.size<=A2):
  θ ο 171 #[I b] e (RB (Q (jq b.toList)) e):=by
 go_enter func171,ntmps171;go_wp2_with(go_at_call 237;refine(aaO k).mono ?_);rintro _ _ ⟨d,m⟩;rcases m with⟨a,f,l,rfl,g,i⟩|⟨a,rfl⟩
 ·have n:f.size<=A2:=by
   rw[<-aj,g];exact C3 (ZZ _ _) (by rw[aj];exact k)
  have o:l.size<=A2:=by
   rw[<-aj,i,G7];have:=aeN b.toList (· != 46);rw[aj]at this;omega
  have c:D (jq b.toList=(aW f.toList&&aW l.toList)):=by
   rw[D,jq,a,g,i];rfl
  clear a g i;by_cases j:aW f.toList=Ψ
  ·go_wp2_with(go_at_call 170;refine bP (mH _ _ (by assumption)) ?_);go_ret;exact⟨aG (by rw[c.out,j];rfl),d⟩
  rw[ω]at j;go_wp2_with(go_at_call 170;refine bP (mH _ _ (by assumption)) ?_);go_ret;exact⟨aG (by rw[c.out,j];rfl),d⟩
 have c:D (jq b.toList=Z):=by rw[D,jq,a];rfl
 clear a
 go_wp2
 go_ret;exact⟨aG c.symm,d⟩
theorem Qz(c:b.size<=A2):
  θ ο 99 #[I b] e (RB (J U (bF b.toList)) e):=by
 go_enter func99,ntmps99;go_wp2_with(first
  |(go_at_call 166;refine(Ef).mono ?_;rintro d a ⟨rfl,rfl⟩)
  |(go_at_call 167;refine(FT c).mono ?_;rintro d a ⟨rfl,rfl⟩)
  |(go_at_call 168;refine(MX c).mono ?_;rintro d a ⟨rfl,rfl⟩)
  |(go_at_call 169;refine(CG).mono ?_;rintro d a ⟨rfl,rfl⟩)
  |(go_at_call 170;refine(mH _ _ c).mono ?_;rintro d a ⟨rfl,rfl⟩)
  |(go_at_call 171;refine cB (JL c) ?_;rintro a _))
 all_goals go_ret
 all_goals refine⟨lG ?_, ?_⟩
 all_goals first|exact ι _ _|assumption|(simp[bF, *];done)
def pY(l:Bs):A8:=if l.headD 0==39 then(if(l.drop 1).contains 39 then((l.drop 1).takeWhile (· != 39)).length+2 else 0)else 0
def eQ(c:C8):C2:= !gF c.toNat&& !bg c.toNat
def gM(l:Bs):A8:=if bg (l.headD 0).toNat then 1 else pY l+G ((l.drop (pY l)).takeWhile eQ)
theorem Tt(a):pY a<=G a:=by
 unfold pY;split
 ·split
  ·next b=>have:=(ui b).2.1;simp at this ⊢;omega
  omega
 omega
theorem CL(a)(o:b.size<=A2)(n:0<b.size):
  θ ο 165 #[I b] a (RE (J U (pY b.toList)) a):=by
 unfold A2 at o;have d:D ((b.toList.headD 0==39)=decide ((b[0].toNat:Y)=39)):=by
  rw[D,lV n];exact wM 39 aa
 by_cases g:(b[0].toNat:Y)=39
 ·have f:(b.extract 1 b.size).data.toList=b.toList.drop 1:=by rw[mK,vN]
  by_cases c:(b.toList.drop 1).contains 39=Ψ
  ·obtain⟨i,l,_,_⟩:=ui c;obtain⟨m,j⟩:=au (((b.toList.drop 1).takeWhile (· != 39)).length);rw[<-j]at i l;rw[G7,aj]at l;have e:D (pY b.toList=m+2):=by rw[D,pY,d.out,F9 g,Ξ V,Ξ c,j]
   have k:∀a:ξ,θ ο 233 #[I (b.extract 1 b.size),J .u8 39] a (RE (J U m) a):=by
    intro a;rw[<-i,<-f];exact Tryz.strings_IndexByte (b.extract 1 b.size) 39 a
   clear d c f i j;go_enter I5,I1;go_wp2_with(go_at_call 233;refine bP (k _) ?_);go_ret;exact⟨lG (by rw[e.out];go_num),V⟩
  rw[ω]at c;have e:D (pY b.toList=0):=by rw[D,pY,d.out,F9 g,Ξ V,Γ (by rw[c];simp)]
  have k:∀a:ξ,θ ο 233 #[I (b.extract 1 b.size),J .u8 39] a (RE (J U (-1)) a):=by
   intro a;rw[<-SH c,<-f];exact Tryz.strings_IndexByte (b.extract 1 b.size) 39 a
  clear d c f;go_enter I5,I1;go_wp2_with(go_at_call 233;refine bP (k _) ?_);go_ret;exact⟨lG (by rw[e.out];rfl),V⟩
 have e:D (pY b.toList=0):=by rw[D,pY,d.out,D2 g];rfl
 clear d;go_enter I5,I1
 go_wp2
 go_ret;exact⟨lG (by rw[e.out];rfl),V⟩
theorem acb(c:a<b.size):(b.toList.drop a).takeWhile eQ=if eQ b[a]then b[a]::(b.toList.drop (a+1)).takeWhile eQ else []:=by
 rw[drop_cons c,A1]
theorem aeg(b:φ)(a)(c:b.size<=a):(b.toList.drop a).takeWhile eQ= []:=by
 rw[χ (by rw[aj];exact c)];rfl
theorem CK(c)(l:b.size<=A2)(k:0<b.size):
  θ ο 98 #[I b] c (RE (J U (gM b.toList)) c):=by
 have m:=Tt b.toList;rw[aj]at m;obtain⟨g,d⟩:=au (pY b.toList);rw[<-d]at m;have s:∀c:ξ,θ ο 165 #[I b] c (RE (J U g) c):=by
  intro c;rw[d];exact CL c l k
 by_cases n:bg b[0].toNat=Ψ
 ·have o:D (gM b.toList=1):=by rw[D,gM,lV k,Ξ n]
  unfold A2 at l;clear d;go_enter L8,K8;go_wp2_with(go_at_call 164;refine bP lY ?_);go_ret;exact⟨lG (by rw[o.out];rfl),V⟩
 rw[ω]at n;have o:D (gM b.toList=g+G ((b.toList.drop g).takeWhile eQ)):=by
  rw[D,gM,lV k,Γ (by rw[n];simp),d]
 unfold A2 at l;clear d;go_enter L8,K8;go_wp2_with(first|(go_at_call 164;refine bP lY ?_)|(go_at_call 165;refine bP (s _) ?_));go_loop [3] (λr=>∃a:A8,a<=b.size/\r=J U a/\D (gM b.toList=a+G ((b.toList.drop a).takeWhile eQ))) (λr=>b.size-(C1 r).toNat)
 ·exact⟨g,m,V,o⟩
 obtain⟨a,_,rfl,i⟩:=hrel;by_cases u:a<b.size
 ·have f:=acb u;replace f:D _:=f;have p:D (eQ b[a]=(!gF b[a].toNat&& !bg b[a].toNat)):=V;by_cases j:gF b[a].toNat=Ψ
  ·have e:D (gM b.toList=a):=by rw[D,i.out,f.out,p.out,j];rfl
   go_wp2_with(first|(go_at_call 97;refine bP mM ?_)|(go_at_call 164;refine bP lY ?_));go_ret;exact⟨lG (by rw[e.out]),V⟩
  rw[ω]at j;by_cases q:bg b[a].toNat=Ψ
  ·have e:D (gM b.toList=a):=by rw[D,i.out,f.out,p.out,j,q];rfl
   go_wp2_with(first|(go_at_call 97;refine bP mM ?_)|(go_at_call 164;refine bP lY ?_));go_ret;exact⟨lG (by rw[e.out]),V⟩
  rw[ω]at q;have e:D (gM b.toList=(a+1)+G ((b.toList.drop (a+1)).takeWhile eQ)):=by
   rw[D,i.out,f.out,p.out,j,q];simp;omega
  go_wp2_with(first|(go_at_call 97;refine bP mM ?_)|(go_at_call 164;refine bP lY ?_))
  go_round
  ·exact⟨a+1,aa,aP,e⟩
  simp[C1];omega
 have t:D ((b.toList.drop a).takeWhile eQ= []):=aeg b a aa
 go_wp2
 go_ret;exact⟨lG (by rw[i.out,t.out];simp),V⟩
abbrev Tk:=Y×Bs
def ae(l:Bs):φ:=⟨l.toArray⟩
theorem ay{l}:(ae l).toList=l:=AQ l
theorem oN(a:φ):a=ae a.toList:=by
 unfold ae;rw[A5]
theorem aX(a):(ae a).size=G a:=abp a
def pE(t:Tk):ρ B2:=[J U t.1,I (ae t.2)]
def eB(ts:ρ Tk):ρ B2:=ts.flatMap pE
theorem Bj(a b):eB (a++b)=eB a++eB b:=by simp[eB]
theorem Gn(a):eB [a]=pE a:=by simp[eB]
def sW:A8->Bs->B1 (ρ Tk)
 |0,_=>E []
 |f+1,l=>if G l=0 then E []else if gF (l.headD 0).toNat then sW f (l.drop 1)else
   if bF (l.take (gM l))=0 then M else(sW f (l.drop (gM l))).map ((bF (l.take (gM l)),l.take (gM l)):: ·)
def dw(l:Bs):B1 (ρ Tk):=sW (G l) l
theorem Zd(a:Bs):gM a=1\/gM a=pY a+G ((a.drop (pY a)).takeWhile eQ):=by
 unfold gM;split
 ·exact B7 V
 exact C4 V
theorem sS{l:Bs}(d:0<G l)(b:gF (l.headD 0).toNat=Z):0<gM l:=by
 unfold gM;split
 ·omega
 next a=>
 rw[ω]at a;by_cases e:pY l=0
 ·rw[e]
  cases l with
  |nil=>simp at d
  |cons c f=>
   have:eQ c=Ψ:=by simp only[E3]at b a;simp[eQ,b,a]
   rw[E8,A1,this];simp
 omega
theorem Kj(a:Bs)(c:0<G a):gM a<=G a:=by
 rcases Zd a with b|b
 ·omega
 have:=ZZ (a.drop (pY a)) eQ;have d:=Tt a;rw[G7]at this;omega
theorem EO:∀(b:A8) (a:Bs),G a<=b->sW b a=dw a:=by
 have g:∀(e b c:A8) (a:Bs),G a<=e->G a<=b->G a<=c->sW b a=sW c a:=by
  intro e
  induction e with
  |zero=>
   intro b c a f _ _;have d:G a=0:=aa
   cases b<;>cases c<;>simp[sW,d]
  |succ e ih=>
   intro b c a f _ _
   cases b with
   |zero=>
    have d:G a=0:=aa
    cases c<;>simp[sW,d]
   |succ b=>
    cases c with
    |zero=>
     have d:G a=0:=aa;simp[sW,d]
    |succ c=>
     rw[sW,sW];by_cases d:G a=0
     ·rw[Ξ d,Ξ d]
     rw[Γ d,Γ d]
     cases i:gF (a.headD 0).toNat with
     |true=>rw[Ξ V,Ξ V];exact ih b c _ aN aN aN
     |false=>
      have:=sS aa i;rw[Γ A6,Γ A6,ih b c (a.drop (gM a)) aN aN aN]
 intro b a f;exact g (G a) b (G a) a (ε _) f (ε _)
theorem nZ(a:Bs)(b:G a=0):dw a=E []:=by rw[dw,b,sW]
theorem sZ(a:Bs)(e:0<G a):dw a=if gF (a.headD 0).toNat then dw (a.drop 1)else
   if bF (a.take (gM a))=0 then M else(dw (a.drop (gM a))).map ((bF (a.take (gM a)),a.take (gM a)):: ·):=by
 obtain⟨b,c⟩:∃b,G a=b+1:=⟨G a-1,aa⟩;rw[dw,c,sW,Γ aa]
 cases d:gF (a.headD 0).toNat with
 |true=>rw[Ξ V,Ξ V];exact EO _ _ aN
 |false=>
  have:=sS aa d;rw[Γ A6,Γ A6,EO b (a.drop (gM a)) aN]
theorem CJ(a:B1 (ρ Tk))(b c):(a.map (c:: ·)).map (b++ ·)=a.map ((b++ [c])++ ·):=by
 cases a<;>simp
theorem FZ{base c size}(g:e.ownsRow base c size f a l)(b:Bl e j):j.ownsRow base c size f a l:=
 g.kept (row:=M) ⟨b.os,b.tape,b.output,b.size,λd i _=>b.block d i⟩ (by
  cases k:f.ownBlock with
  |none=>exact B7 V
  |some d=>exact C4 ak)
theorem aba:(ο.info? 93).map (λa=>(a.zero,a.size,a.bytes))=E (E (Ω #[J U 0,I ⟨#[]⟩]),2,24):=aF
theorem Zo(L:b.size<=400):
  θ ο 53 #[I b] e λi w=>Bl e w/\
   ((dw b.toList=M/\i=μ (Θ #[δ M 0 0,Q Z]))\/
    (∃c v,dw b.toList=E c/\G c<=400/\i=μ (Θ #[v,Q Ψ])/\w.ownsRow (H (A e)) 93 2 v (G c) (eB c))):=by
 obtain⟨N,O,P,R,x⟩:=J8 aba;go_enter func53,ntmps53;go_wp2_with fail;go_loopw [0,4] (λd f wr=>∃(a:φ) (c:ρ Tk),d=I a/\a.size+G c<=400/\wr.ownsRow (H (A e)) 93 2 f (G c) (eB c)/\Bl e wr/\D (dw b.toList=(dw a.toList).map (c++ ·))) (λd _ _=>match d with| .string a=>a.size|_=>0)
 ·exact⟨b,[],V,by simpa using L,C0 _ _ _ _,ι _ _,by rw[D];simp⟩
 obtain⟨a,c,rfl,_,o,m,l⟩:=hrel;have:a.size<=400:=aa;have S:a.size<=A2:=fD;by_cases T:a.size=0
 ·have d:D (dw b.toList=E c):=by rw[D,l.out,nZ _ (by rw[aj,T])];simp
  go_wp2
  go_ret2;exact⟨m,C4 ⟨c,_,d,aa,V,o⟩⟩
 have n:0<a.size:=aa;have k:=sZ a.toList (by rw[aj];exact n);rw[lV n]at k;replace k:D _:=k;by_cases q:gF a[0].toNat=Ψ
 ·have d:D (dw b.toList=(dw (a.extract 1 a.size).toList).map (c++ ·)):=by
   rw[D,l.out,k.out,Ξ q,vN]
  go_wp2_with(go_at_call 97;refine(mM).mono ?_;rintro i j ⟨rfl,rfl⟩);go_roundw
  ·exact⟨a.extract 1 a.size,c,V,aN,o,m,d⟩
  simp;omega
 rw[ω]at q;have W:=sS (l:=a.toList) (by rw[aj];exact n) (by rw[lV n];exact q);have y:=Kj a.toList (by rw[aj];exact n);rw[aj]at y;obtain⟨d,r⟩:=au (gM a.toList);have s:∀e:ξ,θ ο 98 #[I a] e (RE (J U d) e):=by
  intro e;rw[r];exact CK e S n
 obtain⟨f,p⟩:=au (bF (a.toList.take d));have t:∀e:ξ,θ ο 99 #[I (a.extract 0 d)] e (RB (J U f) e):=by
  intro e;rw[p,<-zh];exact Qz (by simp;unfold A2;omega)
 have u:D (dw b.toList=if f=0 then M else(dw (a.extract d a.size).toList).map ((c++ [(f,a.toList.take d)])++ ·)):=by
  rw[D,l.out,k.out,Γ (by rw[q];simp),<-r,<-p,vN];by_cases g:f=0
  ·rw[Ξ g,Ξ g];rfl
  rw[Γ g,Γ g,CJ]
 rw[<-r]at W y;have z:D (I (a.extract 0 d)=I (ae (a.toList.take d))):=by
  rw[D];congr 1;rw[<-zh];exact oN _
 clear l k r p;by_cases g:f=0
 ·have r:D (dw b.toList=M):=by rw[D,u.out,Ξ g]
  subst g;go_wp2_with(first|(go_at_call 97;refine(mM).mono ?_;rintro i j ⟨rfl,rfl⟩)|(go_at_call 98;refine(s _).mono ?_;rintro i j ⟨rfl,rfl⟩)|(go_at_call 99;refine cB (t _) ?_;rintro j k));go_ret2;exact⟨bT m k,B7 ⟨r,V⟩⟩
 have r:D (dw b.toList=(dw (a.extract d a.size).toList).map ((c++ [(f,a.toList.take d)])++ ·)):=by rw[D,u.out,Γ g]
 clear u;have:(f==0)=Z:=by simpa using g
 clear g;go_wp2_with(first
  |(go_at_call 97;refine(mM).mono ?_;rintro i j ⟨rfl,rfl⟩)
  |(go_at_call 98;refine(s _).mono ?_;rintro i j ⟨rfl,rfl⟩)
  |(go_at_call 99;refine cB (t _) ?_;rintro j k)
  |(at_builtin;refine K7 _ V (.tmp 23) (.tmp 27) 166 V (H (A e)) 93 N (Ω #[J U 0,I ⟨#[]⟩]) 2 24 underlying166 O P R x V ag _ _ _ V ((FZ o k).alloc _) (γ (H (A j)) 0 M) 1 1 [J U f,I (a.extract 0 d)] V V ?c1 ?c2 ?c3 ?c4 ?c5 ?_))
 case c1=>
  intro a1 a2 l
  match a1,l with
  |0,l=>simp at l;subst l;simp[E9]
  |1,l=>simp at l;subst l;simp[E9]
 case c2=>intro a2 F;simp at F;rcases F with rfl|rfl<;>rfl
 case c3=>unfold A2;omega
 case c4=>omega
 case c5=>have:=m.size;have:=k.size;simp;omega
 intro a3 K C B _;have X:K.ownsRow (H (A e)) 93 2 a3 (G (c++ [(f,a.toList.take d)])) (eB (c++ [(f,a.toList.take d)])):=by
  rw[Bj,Gn,pE,<-z.out];simpa using C
 have a0:=m.size;have x:=k.size;have RB:Bl e K:=((m.trans (k.mono a0)).alloc aa _).grown B aN (λf p=>(o.lt f p).1);clear C B o k s t z
 go_wp2
 go_roundw
 ·exact⟨a.extract d a.size,_,V,aN,X,RB,r⟩
 simp;omega
theorem iG(a:ξ){row}:a.grownBy a row:=⟨V,V,V,ε _,λ_ _ _=>rfl⟩
theorem aO{row}(a:e.grownBy j row)(b:j.grownBy x row):e.grownBy x row:=
 ⟨b.os.trans a.os,b.tape.trans a.tape,b.output.trans a.output,C3 a.size b.size,λf c d=>(b.block f (J2 c a.size) d).trans (a.block f c d)⟩
theorem bU(a:Bl e j){row}:e.grownBy j row:=
 ⟨a.os,a.tape,a.output,a.size,λc b _=>a.block c b⟩
theorem bA{row}(a:e.grownBy j row){o}:e.grownBy (j.alloc o) row:=
 aO a (bU ((ι _ _).alloc (ε _) _))
def bK(w:ξ)(rb:A8)(ts:ρ Tk):Prop:=
 ∃v,w.heap[rb]? =E (A0 #[v] 170 (0,0))/\
  ((ts= []/\∃ao cap,v=δ ao 0 cap)\/
   (∃g off cap,v=δ (E ⟨g,off,M⟩) (G ts) cap/\g<rb/\G ts<=cap/\cap<=A2/\∀j u,(eB ts)[j]? =E u->β w ⟨g,off+j,M⟩=E u))
theorem Ep(b:bK e a []):
  θ ο 100 #[η (E (γ a 0 M))] e (RB (Ω #[J U 0,I ⟨#[]⟩]) e):=by
 obtain⟨c,cap,i⟩:∃c cap,β e (γ a 0 M)=E (δ c 0 cap):=by
  obtain⟨d,f,b⟩:=b;have i:β e (γ a 0 M)=E d:=by simp[β,f]
  rcases b with⟨_,c,cap,rfl⟩|⟨_,_,cap,rfl,_⟩
  iterate 2
   ·exact⟨_,_,i⟩
 have:a<H (A e):=by
  obtain⟨d,f,_⟩:=b;rcases L7 a (H (A e))with g|g
  ·exact g
  simp[I2 g]at f
 clear b;go_enter L6,K5
 go_wp2
 exact ζ (v:=Ω #[J U 0,I ⟨#[]⟩]) (by simp[Δ,H2,go_sem]) V ⟨V,(ι _ _).alloc (ε _) _⟩
theorem gz{w:ξ}{rb off v}:w.grownBy (w.setCell (γ rb off M) v) (E rb):=
 ⟨V,V,V,by simp[B3],λ_ _ a=>σ _ _ _ _ (λb=>a (by simp[b]))⟩
theorem FJ{b}(c:e.heap[a]? =E (A0 #[q] b (0,0))):(e.setCell (γ a 0 M) f).heap[a]? =E (A0 #[f] b (0,0)):=by
 simp[B3,B4,c]
theorem af{w:ξ}{o}(c:w.heap[a]? =E o):a<H (A w):=by
 rcases L7 a (H (A w))with b|b
 ·exact b
 simp[I2 b]at c
theorem Qo(b:e.grownBy j (E a)){p:M1}(c:p.block<H (A e))(d:p.block≠a):β j p=β e p:=
 E7 (b.block p.block c (by simpa using d))
theorem IA{off' cap cap' l b}(o1 o2){v}(f:e.heap[n]? =E (A0 #[v] 170 (0,0)))(k:a<n)(q:G b+1<=cap)(r:cap<=2^63-1)(j:∀c d,(eB (l::b))[c]? =E d->β e ⟨a,y+c,M⟩=E d)(i:(b= []/\cap'<=A2)\/(off'=y+2/\cap'=cap-1)):
  e.grownBy (((e.setCell (γ n 0 M) (δ (E (γ a off' M)) (G b) cap')).alloc o1).alloc o2) (E n)/\
   bK (((e.setCell (γ n 0 M) (δ (E (γ a off' M)) (G b) cap')).alloc o1).alloc o2) n b:=by
 have s:=af f;have g:=bA (bA (gz (w:=e) (rb:=n) (off:=0) (v:=(δ (E (γ a off' M)) (G b) cap'))) (o:=o1)) (o:=o2);refine⟨g,δ (E (γ a off' M)) (G b) cap', ?_, ?_⟩
 ·rw[Φ _ _ _ Jq,Φ _ _ _ Jq];exact FJ f
 rcases i with⟨rfl,_⟩|⟨rfl,rfl⟩
 ·exact B7 ⟨V,_,_,V⟩
 refine C4 ⟨a,y+2,cap-1,V,k,aa,fD,λc d o=>?_⟩;rw[Qo g (p:=⟨a,y+2+c,M⟩) (by show a<_;omega) (by show a≠_;omega)];have:=j (c+2) d (by rw[eB,List.flatMap_cons];simpa[pE,eB]using o);rw[<-this];congr 2;omega
theorem nX{b:ξ}{c a j}(e:bK b c (a::j)):
  θ ο 100 #[η (E ⟨c,0,M⟩)] b λu s=>u=μ (Ω #[J U a.1,I (ae a.2)])/\b.grownBy s (E c)/\bK s c j:=by
 obtain⟨r,f,e⟩:=e;rcases e with⟨e,_⟩|⟨d,g,cap,rfl,q,m,n,i⟩
 ·cases e
 have C:β b ⟨c,0,M⟩=E (δ (E ⟨d,g,M⟩) (G j+1) cap):=by simp[β,f]
 have F:κ b ⟨c,0,M⟩=Z:=by simp[κ,f]
 have N:c<H (A b):=af f;have L:d<H (A b):=aa;have K:d≠c:=aa;have z:β b ⟨d,g,M⟩=E (J U a.1):=i 0 _ (by simp[eB,pE]);have B:β b ⟨d,g+1,M⟩=E (I (ae a.2)):=i 1 _ (by simp[eB,pE]);simp only[B5]at m;unfold A2 at n;have p:D _:=i;have o:D _:=f;clear i f;go_enter L6,K5
 go_wp2
 ·have v:j= []:=B9.mp aa;obtain⟨k,l⟩:=IA (o1:=A0 #[J U a.1,I (ae a.2)] 93) (o2:=A0 #[J U a.1,I (ae a.2)] 93) (off':=g) (cap':=0) o.out q m n p.out (B7 ⟨v,fD⟩);exact ζ (v:=Ω #[J U a.1,I (ae a.2)]) (by simp[Δ,H2,go_sem]) V ⟨V,k,l⟩
 obtain⟨k,l⟩:=IA (o1:=A0 #[J U a.1,I (ae a.2)] 93) (o2:=A0 #[J U a.1,I (ae a.2)] 93) (off':=g+2) (cap':=cap-1) o.out q m n p.out (C4 ⟨V,V⟩);exact ζ (v:=Ω #[J U a.1,I (ae a.2)]) (by simp[Δ,H2,go_sem]) V ⟨V,k,l⟩
theorem PU(b:bK e a []):
  θ ο 173 #[η (E (γ a 0 M))] e (RE (Q Z) e):=by
 obtain⟨c,cap,d⟩:∃c cap,β e (γ a 0 M)=E (δ c 0 cap):=by
  obtain⟨f,g,b⟩:=b;have d:β e (γ a 0 M)=E f:=by simp[β,g]
  rcases b with⟨_,c,cap,rfl⟩|⟨_,_,cap,rfl,_⟩
  iterate 2
   ·exact⟨_,_,d⟩
 clear b;go_enter I3,H9
 go_wp2
 go_ret;exact⟨V,V⟩
theorem Uc{c f}(b:bK e a (c::f))(d:¬c.1=2):
  θ ο 173 #[η (E (γ a 0 M))] e (RE (Q Z) e):=by
 obtain⟨_,g,b⟩:=b;rcases b with⟨b,_⟩|⟨i,j,cap,rfl,_,l,m,k⟩
 ·cases b
 have:β e (γ a 0 M)=E (δ (E (γ i j M)) (G f+1) cap):=by simp[β,g]
 have:β e (γ i j M)=E (J U c.1):=k 0 _ (by simp[eB,pE]);have:(c.1 != 2)=Ψ:=by simpa using d
 simp only[B5]at l;unfold A2 at m;clear k g d;go_enter I3,H9
 go_wp2
 go_ret;exact⟨V,V⟩
theorem PV{c d}(b:bK e a (c::d))(g:c.1=2):
  θ ο 173 #[η (E (γ a 0 M))] e λf i=>f=μ (Q Ψ)/\e.grownBy i (E a)/\bK i a d:=by
 have n:=b;obtain⟨v,j,b⟩:=b;rcases b with⟨b,_⟩|⟨k,l,cap,rfl,_,o,p,m⟩
 ·cases b
 have:β e (γ a 0 M)=E (δ (E (γ k l M)) (G d+1) cap):=by simp[β,j]
 have:β e (γ k l M)=E (J U c.1):=m 0 _ (by simp[eB,pE]);have:(c.1 != 2)=Z:=by simpa using g
 simp only[B5]at o;unfold A2 at p;clear m j g;go_enter I3,H9;go_wp2_with(go_at_call 100;refine(nX n).mono ?_;rintro f _ ⟨rfl,g,j⟩);go_ret;exact⟨V,g,j⟩
theorem bK.lt{w c}(b:bK w a c):a<H (A w):=by
 obtain⟨v,d,_⟩:=b;exact af d
theorem bK.ah{w x:ξ}{d}(b:bK w a d)(c:∀k,k<=a->x.heap[k]? =w.heap[k]?):bK x a d:=by
 obtain⟨v,f,b⟩:=b;refine⟨v,by rw[c a (ε _)];exact f, ?_⟩;rcases b with b|⟨e,g,cap,i,j,l,m,n⟩
 ·exact B7 b
 refine C4 ⟨e,g,cap,i,j,l,m,λp q o=>?_⟩;rw[E7 (w:=w) (c e aa)];exact n p q o
theorem bK.setCell{c}(d:bK e a c){b}(g:a<b)(o v):bK (e.setCell (γ b o M) v) a c:=
 d.ah λ_ _=>σ _ _ _ _ (λf=>by simp at f;omega)
theorem bK.alloc{w:ξ}{c}(b:bK w a c)(o):bK (w.alloc o) a c:=
 b.ah λk _=>Φ _ _ _ (by have:=b.lt;omega)
theorem bK.below{c}(b:bK e a c)(d:Bl e j):bK j a c:=
 b.ah λf _=>d.block f (by have:=b.lt;omega)
theorem eu{row}(b:e.grownBy j row)(l:H (A e)<=a)(c d):e.grownBy (j.setCell (γ a c M) d) row:=
 ⟨b.os,b.tape,b.output,by simpa[B3]using b.size,λi f g=>(σ _ _ _ _ (λk=>by simp at k;omega)).trans (b.block i f g)⟩
inductive Tr where
 |mk (k:Int) (tx:Bs) (br:Bool) (ops:List Tr)
mutual
def jY:A8->A8->ρ Tk->B1 (Tr×ρ Tk)
 |0,_,_=>M
 |_+1,_,[]=>M
 |f+1,deep,t::r=>if t.1=1 then KY f (deep+1) r else if jB t.1 t.2 then E (.mk t.1 t.2 Z [],r)else M
def KY:A8->A8->ρ Tk->B1 (Tr×ρ Tk)
 |0,_,_=>M
 |_+1,_,[]=>M
 |f+1,deep,h::r=>if 20<deep then M else if nL h.1 h.2 then(oW f deep r).map (λp=>(.mk h.1 h.2 Ψ p.1,p.2))else M
def oW:A8->A8->ρ Tk->B1 (ρ Tr×ρ Tk)
 |0,_,_=>M
 |_+1,_,[]=>M
 |f+1,deep,t::r=>if t.1=2 then E ([],r)else
   match jY f deep (t::r)with
   |none=>M
   |some (x,r')=>(oW f deep r').map (λp=>(x::p.1,p.2))
end
mutual
inductive oI(w:World)(S:Nat->Prop):List Value->Tr->Prop
 |mk {k:Int} {tx:Bs} {br:Bool} {ops:List Tr} {v:Value} {cs:List Value} :jJ w S cs ops->w.ownsRow 0 96 4 v (List.length ops) cs->(∀g,v.ownBlock=some g->S g)->
   oI w S [.int .i64 k,.string (ae tx),.bool br,v] (.mk k tx br ops)
inductive jJ(w:World)(S:Nat->Prop):List Value->List Tr->Prop
 |nil:jJ w S [] []
 |cons {c cs:List Value} {t:Tr} {ts:List Tr} :oI w S c t->jJ w S cs ts->jJ w S (c++cs) (t::ts)
end
theorem bY{b size g}(c:e.ownsRow b g size f n l)(i:∀d,f.ownBlock=E d->a<=d):e.ownsRow a g size f n l:=by
 refine⟨c.1, ?_⟩;rcases c.2 with c|⟨d,cap,j,rfl,_,c⟩
 ·exact B7 c
 exact C4 ⟨d,cap,j,V,i d V,c⟩
theorem aD{x:ξ}{size d}(c:e.ownsRow a d size f n l)(g:∀b,f.ownBlock=E b->x.heap[b]? =e.heap[b]?):x.ownsRow a d size f n l:=by
 refine⟨c.1, ?_⟩;rcases c.2 with c|⟨b,cap,i,rfl,j,k,c⟩
 ·exact B7 c
 exact C4 ⟨b,cap,i,V,j,by rw[g b V];exact k,c⟩
mutual
theorem oI.move{l x:ξ}{e S':A8->Prop}(i:∀c,e c->x.heap[c]? =l.heap[c]?)(j:∀c,e c->S' c):∀ {g:ρ B2} {k:Tr},oI l e g k->oI x S' g k
 |_,_,.mk a b d=>.mk (jJ.move i j a) (aD b λc f=>i c (d c f)) λc f=>j c (d c f)
theorem jJ.move{j x:ξ}{d S':A8->Prop}(f:∀c,d c->x.heap[c]? =j.heap[c]?)(g:∀c,d c->S' c):∀ {e:ρ B2} {i:ρ Tr},jJ j d e i->jJ x S' e i
 |_,_,.nil=>.nil
 |_,_,.cons a b=>.cons (oI.move f g a) (jJ.move f g b)
end
theorem oI.four{b}(a:oI e p l b):G l=4:=by cases a;rfl
theorem jJ.snoc{a c}(b:jJ e p l a)(d:oI e p C c):jJ e p (l++C) (a++ [c]):=by
 induction a generalizing l with
 |nil=>cases b;have:=jJ.cons d jJ.nil;simpa using this
 |cons a i ih=>
  cases b with
  |cons f g=>rw[D4];exact .cons f (ih g)
theorem oI.leaf(e)(d:A8->Prop)(b c a):oI e d [J U b,I (ae c),Q a,δ M 0 0] (.mk b c a []):=
 .mk .nil (C0 _ _ _ _) (λ_ f=>by cases f)
theorem oI.bounded{b}:oI e p l b->oI e (λa=>p a/\a<H (A e)) l b:=by
 intro c;have g:(∀ {l:ρ B2} {b:Tr},oI e p l b->oI e (λa=>p a/\a<H (A e)) l b):=by
  intro l b c;refine oI.rec (motive_1:=λl b _=>oI e (λa=>p a/\a<H (A e)) l b) (motive_2:=λl b _=>jJ e (λa=>p a/\a<H (A e)) l b) ?_ ?_ ?_ c
  ·intro _ _ _ _ _ i _ d j ih;exact .mk ih d λa f=>⟨j a f,(d.lt a f).2⟩
  ·exact .nil
  intro l i b _ _ _ d f;exact .cons d f
 exact g c
theorem jJ.bounded{a}(d:jJ e p l a):jJ e (λc=>p c/\c<H (A e)) l a:=by
 induction a generalizing l with
 |nil=>cases d;exact .nil
 |cons a g ih=>
  cases d with
  |cons f b=>exact .cons f.bounded (ih b)
theorem YJ{wr:ξ}{g k}(K:n<a)(B:a<H (A wr))(v:wr.ownsRow (a+1) 96 4 f (G g) l)(y:jJ wr (λb=>a<b/\f.ownBlock≠E b) l g)(o:wr.grownBy e (E n))(x:oI e (λb=>H (A wr)<=b) C k)(w:j.ownsRow (a+1) 96 4 q (G g+1) (l++C))(u:((e.alloc s).alloc F).grownBy j f.ownBlock)(m:q.ownBlock=f.ownBlock\/q.ownBlock=E (H (A ((e.alloc s).alloc F)))):
  jJ (j.setCell (γ a 3 M) q) (λb=>a<b/\q.ownBlock≠E b) (l++C) (g++ [k])/\
  (j.setCell (γ a 3 M) q).ownsRow (a+1) 96 4 q (G (g++ [k])) (l++C)/\
  (∀b,b<H (A wr)->b≠n->f.ownBlock≠E b->j.heap[b]? =wr.heap[b]?)/\
  (∀b,b<H (A e)->f.ownBlock≠E b->j.heap[b]? =e.heap[b]?):=by
 have:=o.size;have p:H (A ((e.alloc s).alloc F))=H (A e)+2:=ak;have ah:∀b,b<H (A e)->f.ownBlock≠E b->j.heap[b]? =e.heap[b]? :=by
  intro b c i;rw[u.block b aa (λd=>i d.symm),Φ _ _ _ aN,Φ _ _ _ c]
 have r:∀b,b<H (A wr)->b≠n->f.ownBlock≠E b->j.heap[b]? =wr.heap[b]? :=by
  intro b c i t;rw[ah b aa t,o.block b c (by simpa using i)]
 have t:∀b,f.ownBlock=E b->b<H (A wr):=λb c=>(v.lt b c).2;refine⟨jJ.snoc ?_ ?_, ?_,r,ah⟩
 ·refine y.bounded.move (λb c=>?_) (λb c=>⟨c.1.1, ?_⟩)
  ·rw[σ _ _ _ _ (by show b≠a;have:=c.1.1;omega),r b c.2 (by have:=c.1.1;omega) c.1.2]
  rcases m with d|d
  ·rw[d];exact c.1.2
  rw[d,p];intro i;have z:=D3 i;have:=c.2;omega
 ·refine x.bounded.move (λb c=>?_) (λb c=>⟨by have:=c.1;omega, ?_⟩)
  ·rw[σ _ _ _ _ (by show b≠a;have:=c.1;omega),ah b c.2 (λd=>by have:=t b d;have:=c.1;omega)]
  rcases m with d|d
  ·rw[d];intro i;have:=t b i;have:=c.1;omega
  rw[d,p];intro i;have z:=D3 i;have:=c.2;omega
 rw[F8];exact ownsRow_setCell_below w (by show a<a+1;omega) _
theorem XK{wr:ξ}{row}(c:x.grownBy wr (E a))(d:wr.grownBy j (E a))(m:e.os=j.os/\e.tape=j.tape/\e.output=j.output/\H (A j)<=H (A e))(f:e.grownBy a3 row)(o:∀b,row=E b->H (A x)<=b)(n:∀b,b<H (A wr)->b≠a->row≠E b->a3.heap[b]? =wr.heap[b]?):x.grownBy a3 (E a):=by
 obtain⟨p,q,r,s⟩:=m;refine⟨f.os.trans (p.trans (d.os.trans c.os)),f.tape.trans (q.trans (d.tape.trans c.tape)),f.output.trans (r.trans (d.output.trans c.output)),C3 c.size (C3 d.size (C3 s f.size)),λg k l=>?_⟩;rw[n g (J2 k c.size) (λi=>l (by rw[i])) (λi=>cz (o g i))];exact c.block g k l
def Reads(w:ξ)(rb:A8)(ts:ρ Tk)(o:B1 (Tr×ρ Tk))(e:H7)(w':ξ):Prop:=
 w.grownBy w' (E rb)/\
  ((o=M/\e=μ (Θ #[Ω #[J U 0,I ⟨#[]⟩,Q Z,δ M 0 0],Q Z]))\/
   (∃k tx br ao n cap t r,o=E (t,r)/\G r<G ts/\e=μ (Θ #[Ω #[J U k,I (ae tx),Q br,δ ao n cap],Q Ψ])/\
    bK w' rb r/\oI w' (λg=>H (A w)<=g) [J U k,I (ae tx),Q br,δ ao n cap] t))
def Dz(f:A8):Prop:=∀(w:ξ) (rb deep:A8) (ts:ρ Tk),bK w rb ts->2*G ts<=f->G ts<=400->deep<=21->
 θ ο 54 #[η (E ⟨rb,0,M⟩),J U deep] w λe w'=>Reads w rb ts (jY f deep ts) e w'
def Wy(f:A8):Prop:=∀(w:ξ) (rb deep:A8) (ts:ρ Tk),bK w rb ts->2*G ts+1<=f->G ts<=400->deep<=22->
 θ ο 101 #[η (E ⟨rb,0,M⟩),J U deep] w λe w'=>Reads w rb ts (KY f deep ts) e w'
theorem bM{b}(c:e.heap[a]? =E (A0 #[f,q,B,L] b (0,0))):
  (β e (γ a 0 M)=E f/\β e (γ a 1 M)=E q/\β e (γ a 2 M)=E B/\β e (γ a 3 M)=E L)/\
  (κ e (γ a 0 M)=Z/\κ e (γ a 1 M)=Z/\κ e (γ a 2 M)=Z/\κ e (γ a 3 M)=Z):=by
 simp[β,κ,c]
theorem Xi{b}(c:e.heap[a]? =E (A0 #[f,q] b (0,0))):
  (β e (γ a 0 M)=E f/\β e (γ a 1 M)=E q)/\(κ e (γ a 0 M)=Z/\κ e (γ a 1 M)=Z):=by
 simp[β,κ,c]
theorem bS(a:ξ){o}:(a.alloc o).heap[H (A a)]? =E o:=A3 a o
theorem eT(b:e.heap[a]? =E s):(e.alloc F).heap[a]? =E s:=by
 rw[Φ _ _ _ (af b)];exact b
theorem dP(b:e.heap[a]? =E s)(c:Bl e j):j.heap[a]? =E s:=by
 rw[c.block _ (af b)];exact b
theorem dQ{o}(b:e.heap[a]? =E o)(c:e.grownBy j (E n))(d:a≠n):j.heap[a]? =E o:=by
 rw[c.block _ (af b) (by simpa using d)];exact b
theorem Pf(f:A8)(b:bK e a []):
  θ ο 54 #[η (E (γ a 0 M)),J U f] e λg i=>Reads e a [] M g i:=by
 have:=b.lt;have:H (A e)≠a:=aa;have:jB 0 (F2 #[]).toList=Z:=by rw[A5];rfl
 have l:=b;clear b;go_enter G8,G1;go_wp2_with(first
  |(go_at_call 100;refine cB (Ep (l.alloc _)) ?_;rintro _ c;have j:=dP (bS e) c)
  |(go_at_call 102;refine cB (pR _ _ _) ?_;rintro m d;have k:=dP (eT j) d;obtain⟨⟨n,o,p,q⟩,_,_,_,_⟩:=bM k))
 have j:e.grownBy m (E a):=aO (bA (aO (bA (iG e)) (bU c))) (bU d);refine ζ (v:=Θ #[Ω #[J U 0,I ⟨#[]⟩,Q Z,δ M 0 0],Q Z]) (by simp[Δ,D0,go_sem,n,o,p,q]) V ⟨?_,B7 ⟨V,V⟩⟩
 repeat(refine eu ?_ (ε _) _ _)
 exact j
theorem We{b:ξ}{e:A8}(B:A8){a:Tk}{g:ρ Tk}(n:bK b e (a::g))(u:¬a.1=1):
  θ ο 54 #[η (E (γ e 0 M)),J U B] b λm S=>Reads b e (a::g) (if jB a.1 a.2 then E (.mk a.1 a.2 Z [],g)else M) m S:=by
 have O:=n.lt;have v:H (A b)≠e:=aa;have T:(a.1==1)=Z:=by simpa using u
 have w:=n;clear n u
 cases i:jB a.1 a.2 with
 |false=>
  have l:∀c:ξ,θ ο 102 #[Ω #[J U a.1,I (ae a.2)]] c (RB (Q Z) c):=by
   intro c;rw[<-i,<-ay (l:=a.2)];simpa only[ay]using pR a.1 (ae a.2) c
  clear i;go_enter G8,G1;go_wp2_with(first
   |(go_at_call 100;refine(nX (w.alloc _)).mono ?_;rintro m y ⟨rfl,f,x⟩;have o:=dQ (bS b) f v)
   |(go_at_call 102;refine cB (l _) ?_;rintro j d;have p:=dP (eT o) d;obtain⟨⟨q,r,s,t⟩,C,F,K,L⟩:=bM p))
  have k:b.grownBy j (E e):=aO (bA (aO (bA (iG b)) f)) (bU d);refine ζ (v:=Θ #[Ω #[J U 0,I ⟨#[]⟩,Q Z,δ M 0 0],Q Z]) (by simp[Δ,D0,go_sem,q,r,s,t]) V ⟨?_,B7 ⟨V,V⟩⟩
  repeat(refine eu ?_ (ε _) _ _)
  exact k
 |true=>
  have l:∀c:ξ,θ ο 102 #[Ω #[J U a.1,I (ae a.2)]] c (RB (Q Ψ) c):=by
   intro c;rw[<-i,<-ay (l:=a.2)];simpa only[ay]using pR a.1 (ae a.2) c
  clear i;go_enter G8,G1;go_wp2_with(first
   |(go_at_call 100;refine(nX (w.alloc _)).mono ?_;rintro m y ⟨rfl,f,x⟩;have o:=dQ (bS b) f v)
   |(go_at_call 102;refine cB (l _) ?_;rintro j d;have p:=dP (eT o) d;have N:=dP (bS y) d;obtain⟨⟨q,r,s,t⟩,C,F,K,L⟩:=bM p;obtain⟨⟨W,X⟩,_,_⟩:=Xi N))
  have k:b.grownBy j (E e):=aO (bA (aO (bA (iG b)) f)) (bU d);have z:bK j e g:=(x.alloc _).below d;refine ζ (v:=Θ #[Ω #[J U a.1,I (ae a.2),Q Z,δ M 0 0],Q Ψ]) (by simp[Δ,D0,go_sem,q,r,s,t]) V ⟨?_,C4 ⟨_,_,_,_,_,_,_,g,V,ak,V, ?_,oI.leaf _ _ _ _ _⟩⟩
  ·repeat(refine eu ?_ (ε _) _ _)
   exact k
  repeat(refine bK.setCell ?_ O _ _)
  exact z
theorem Wh(d)(y:Wy d){i b}(c:bK e a (i::b))(z:2*G b+1<=d)(B:G b<=400)(a1:n<=21)(g:i.1=1):
  θ ο 54 #[η (E (γ a 0 M)),J U n] e λf k=>Reads e a (i::b) (KY d (n+1) b) f k:=by
 have C:=c.lt;have o:H (A e)≠a:=aa;have:(i.1==1)=Ψ:=by simpa using g
 have F:=c;clear c g;have K:∀c:ξ,bK c a b->θ ο 101 #[η (E (γ a 0 M)),J U (n+1)] c λf k=>Reads c a b (KY d (n+1) b) f k:=
  λc j=>y c a (n+1) b j z B aa
 go_enter G8,G1;go_wp2_with(first
  |(go_at_call 100;refine(nX (F.alloc _)).mono ?_;rintro f _ ⟨rfl,p,g⟩;have q:=dQ (bS e) p o)
  |(go_at_call 101;refine(K _ (g.alloc _)).mono ?_))
 rintro f L ⟨r,N⟩;have O:=dQ (eT q) r o;obtain⟨⟨s,t,u,v⟩,_,_,_,_⟩:=bM O;have:=af q;have w:e.grownBy L (E a):=aO (bA (aO (bA (iG e)) p)) r;rcases N with⟨g,rfl⟩|⟨P,R,S,T,W,cap,c,x,g,_,rfl,X,j⟩
 ·have l:D (KY d (n+1) b=M):=g;clear g
  go_wp2
  refine ζ (v:=Θ #[Ω #[J U 0,I ⟨#[]⟩,Q Z,δ M 0 0],Q Z]) (by simp[Δ,D0,go_sem,s,t,u,v]) V ⟨?_,B7 ⟨l,V⟩⟩
  repeat(refine eu ?_ (ε _) _ _)
  exact w
 have l:D (KY d (n+1) b=E (c,x)):=g;change D _ at j;clear g
 go_wp2
 refine ζ (v:=Θ #[Ω #[J U P,I (ae R),Q S,δ T W cap],Q Ψ]) (by simp[Δ,D0,go_sem,s,t,u,v]) V ⟨?_,C4 ⟨_,_,_,_,_,_,c,x,l,aN,V, ?_,j.move (λg m=>?_) (λg m=>?_)⟩⟩
 ·repeat(refine eu ?_ (ε _) _ _)
  exact w
 ·repeat(refine bK.setCell ?_ C _ _)
  exact X
 ·simp at m
  repeat rw[σ _ _ _ _ (by show g≠H (A e);omega)]
 simp at m;show H (A e)<=g;omega
theorem LW(k:A8)(b:bK e a []):
  θ ο 101 #[η (E (γ a 0 M)),J U k] e λo p=>Reads e a [] M o p:=by
 have:=b.lt;have:H (A e)≠a:=aa;have:nL 0 []=Z:=by rfl
 have l:=b;clear b;by_cases y:k<=20
 ·go_enter E2,D7;go_wp2_with(first
   |(go_at_call 100;refine cB (Ep (l.alloc _)) ?_;rintro n b;have c:=dP (bS e) b)
   |(go_at_call 172;refine cB (yj _ _ _) ?_;rintro x m;have u:=dP (eT c) m;obtain⟨⟨f,g,i,j⟩,q,r,s,t⟩:=bM u))
  have d:e.grownBy x (E a):=aO (bA (aO (bA (iG e)) (bU b))) (bU m);refine ζ (v:=Θ #[Ω #[J U 0,I ⟨#[]⟩,Q Z,δ M 0 0],Q Z]) (by simp[Δ,B8,go_sem,f,g,i,j]) V ⟨?_,B7 ⟨V,V⟩⟩
  repeat(refine eu ?_ (ε _) _ _)
  exact d
 go_enter E2,D7;go_wp2_with(first
  |(go_at_call 100;refine cB (Ep (l.alloc _)) ?_;rintro n b;have c:=dP (bS e) b;have v:=af c;obtain⟨⟨f,g,i,j⟩,q,r,s,t⟩:=bM c))
 have d:e.grownBy n (E a):=aO (bA (iG e)) (bU b);refine ζ (v:=Θ #[Ω #[J U 0,I ⟨#[]⟩,Q Z,δ M 0 0],Q Z]) (by simp[Δ,B8,go_sem,f,g,i,j,v]) V ⟨?_,B7 ⟨V,V⟩⟩;refine bA ?_
 repeat(refine eu ?_ (ε _) _ _)
 exact d
theorem Bz(i:A8){b:Tk}{q:ρ Tk}(c:bK e a (b::q))(k:20<i\/nL b.1 b.2=Z):
  θ ο 101 #[η (E (γ a 0 M)),J U i] e λj w=>Reads e a (b::q) M j w:=by
 have:=c.lt;have r:H (A e)≠a:=aa;have s:=c;clear c;by_cases O:i<=20
 ·have t:nL b.1 b.2=Z:=by rcases k with c|c;omega;exact c
  have x:∀f:ξ,θ ο 172 #[Ω #[J U b.1,I (ae b.2)]] f (RB (Q Z) f):=by
   intro f;rw[<-t,<-ay (l:=b.2)];simpa only[ay]using yj b.1 (ae b.2) f
  clear t k;go_enter E2,D7;go_wp2_with(first
   |(go_at_call 100;refine(nX (s.alloc _)).mono ?_;rintro j v ⟨rfl,d,F⟩;have g:=dQ (bS e) d r)
   |(go_at_call 172;refine cB (x _) ?_;rintro K u;have p:=dP (eT g) u;obtain⟨⟨l,m,n,o⟩,y,z,B,C⟩:=bM p))
  have p:e.grownBy K (E a):=aO (bA (aO (bA (iG e)) d)) (bU u);refine ζ (v:=Θ #[Ω #[J U 0,I ⟨#[]⟩,Q Z,δ M 0 0],Q Z]) (by simp[Δ,B8,go_sem,l,m,n,o]) V ⟨?_,B7 ⟨V,V⟩⟩
  repeat(refine eu ?_ (ε _) _ _)
  exact p
 clear k;go_enter E2,D7;go_wp2_with(first
  |(go_at_call 100;refine(nX (s.alloc _)).mono ?_;rintro j v ⟨rfl,d,F⟩;have g:=dQ (bS e) d r;have N:=af g;obtain⟨⟨l,m,n,o⟩,y,z,B,C⟩:=bM g))
 have p:e.grownBy v (E a):=aO (bA (iG e)) d;refine ζ (v:=Θ #[Ω #[J U 0,I ⟨#[]⟩,Q Z,δ M 0 0],Q Z]) (by simp[Δ,B8,go_sem,l,m,n,o,N]) V ⟨?_,B7 ⟨V,V⟩⟩;refine bA ?_
 repeat(refine eu ?_ (ε _) _ _)
 exact p
theorem XU:(ο.info? 96).map (λa=>(a.zero,a.size,a.bytes))=E (E (Ω #[J U 0,I ⟨#[]⟩,Q Z,δ M 0 0]),4,56):=aF
def qh(w:ξ)(rb:A8):A8:=match β w ⟨rb,0,M⟩with|some (.slice _ n _)=>n|_=>0
theorem bK.qh{c}(b:bK e a c):qh e a=G c:=by
 obtain⟨v,d,b⟩:=b;have f:β e (γ a 0 M)=E v:=by simp[β,d]
 rcases b with⟨rfl,_,cap,rfl⟩|⟨_,_,cap,rfl,_⟩<;>simp[YthkeffolmbnkaaaGreatDoor.qh,f]
theorem Yn(b:B1 (ρ Tr×ρ Tk))(d c):(b.map (λa=>(c::a.1,a.2))).map (λa=>(d++a.1,a.2))=b.map (λa=>((d++ [c])++a.1,a.2)):=by
 cases b<;>simp
theorem PR{b}(c:e.heap[a]? =E (A0 #[f,q,B,a0] b (0,0))):(e.setCell (γ a 3 M) L).heap[a]? =E (A0 #[f,q,B,L] b (0,0)):=by
 simp[B3,B4,c]
def Ti(g deep:A8)(o:B1 (Tr×ρ Tk)):B1 (ρ Tr×ρ Tk):=
 match o with
 |none=>M
 |some (x,r')=>(oW g deep r').map (λp=>(x::p.1,p.2))
theorem Jp(o:A8)(h8:∀q,q<o->Dz q){f}{c:A8}(e:A8){d i}(r:bK f c (d::i))(i1:2*G i+1<=o)(l7:G i<=400)(l0:e<=20)(e5:nL d.1 d.2=Ψ):
  θ ο 101 #[η (E (γ c 0 M)),J U e] f λa y=>Reads f c (d::i) ((oW o e i).map (λn=>(.mk d.1 d.2 Ψ n.1,n.2))) a y:=by
 obtain⟨j3,h9,j0,j1,j2⟩:=J8 XU;have i2:=r.lt;have b8:H (A f)≠c:=aa;have e9:=r;clear r;have c9:∀x:ξ,θ ο 172 #[Ω #[J U d.1,I (ae d.2)]] x (RB (Q Ψ) x):=by
  intro x;rw[<-e5,<-ay (l:=d.2)];simpa only[ay]using yj d.1 (ae d.2) x
 clear e5;go_enter E2,D7;go_wp2_with(first
  |(go_at_call 100;refine(nX (e9.alloc _)).mono ?_;rintro a k1 ⟨rfl,b4,g0⟩;have b6:=dQ (bS f) b4 b8)
  |(go_at_call 172;refine(c9 _).mono ?_;rintro a j ⟨rfl,K⟩;have i0:=dP (eT b6) K;have b7:=dP (bS k1) K;obtain⟨⟨a5,a6⟩,_,_⟩:=Xi b7))
 have l8:=af b6;have l9:=af b7;have g7:f.grownBy j (E c):=aO (bA (aO (bA (iG f)) b4)) (bU K);have h0:bK j c i:=(g0.alloc _).below K;clear b4 g0 K b6 b7 a5 a6 c9 e9;obtain⟨k6,k9⟩:=au (H (A j));go_loopw [22] (λ_ wr=>∃(q:A8) (p:ρ Tr) (rest:ρ Tk) (s:B1 M1) (v cap:A8) (F:ρ B2),q<=o/\2*G rest+1<=q/\G p+G rest<=G i/\
   D (oW o e i=(oW q e rest).map (λn=>(p++n.1,n.2)))/\bK wr c rest/\f.grownBy wr (E c)/\
   wr.heap[H (A f)]? =E (A0 #[J U 0,I ⟨#[]⟩,Q Z,δ M 0 0] 96 (0,0))/\
   wr.heap[H (A j)]? =E (A0 #[J U d.1,I (ae d.2),Q Ψ,δ s v cap] 96 (0,0))/\
   wr.ownsRow (H (A j)+1) 96 4 (δ s v cap) (G p) F/\jJ wr (λb=>H (A j)<b/\(δ s v cap).ownBlock≠E b) F p)
  (λ_ wr=>qh wr c)
 case atStart=>exact⟨o,[],i,M,0,0,[],ε _,i1,ak,by rw[D];simp,h0.alloc _,bA g7,eT i0,bS j,C0 _ _ _ _,.nil⟩
 obtain⟨q,p,rest,s,v,cap,F,l1,l4,i9,S,a1,a0,L,O,m,c7⟩:=hrel;obtain⟨b,rfl⟩:∃b,q=b+1:=⟨q-1,aa⟩;have g1:=af O;have i5:=af L;by_cases a2:∃w l,rest=w::l/\w.1=2
 ·obtain⟨w,l,rfl,e7⟩:=a2;have B:D (oW o e i=E (p,l)):=by rw[D,S.out,oW,Ξ e7];simp
  clear S;go_wp2_with(go_at_call 173;refine(PV a1 e7).mono ?_;rintro a c8 ⟨rfl,k,c6⟩;have N:=dQ L k b8;have P:=dQ O k aa;obtain⟨⟨a7,a8,a9,b0⟩,e1,e2,e3,e4⟩:=bM N;obtain⟨⟨a5,a6,g5,g6⟩,_⟩:=bM P);have k8:=a0.size;refine ζ (v:=Θ #[Ω #[J U d.1,I (ae d.2),Q Ψ,δ s v cap],Q Ψ]) (by simp[Δ,B8,go_sem,a7,a8,a9,b0]) V ⟨?_,C4 ⟨_,_,_,_,_,_,.mk d.1 d.2 Ψ p,l,by rw[B.out];rfl,by simp at i9 ⊢;omega,V, ?_, ?_⟩⟩
  ·repeat(refine eu ?_ (ε _) _ _)
   exact aO a0 k
  ·repeat(refine bK.setCell ?_ i2 _ _)
   exact c6
  refine .mk (cs:=F) (c7.bounded.move (λb t=>?_) (λb t=>cz t.1.1)) (bY (b:=H (A j)+1) (aD m λb t=>?_) (λ_ _=>B0 _)) (λb t=>cz ((m.lt b t).1))
  ·have X:=t.1.1
   repeat rw[σ _ _ _ _ (by show b≠H (A f);omega)]
   exact k.block b t.2 aN
  have X:=m.lt b t
  repeat rw[σ _ _ _ _ (by show b≠H (A f);omega)]
  exact k.block b X.2 aN
 have b1:∀x:ξ,bK x c rest->θ ο 173 #[η (E (γ c 0 M))] x λa y=>a=μ (Q Z)/\x=y:=by
  intro x u
  cases rest with
  |nil=>exact(PU u).mono λa y r=>⟨r.1,r.2.symm⟩
  |cons w l=>exact(Uc u (λa=>a2 ⟨w,l,V,a⟩)).mono λa y r=>⟨r.1,r.2.symm⟩
 have T:D (oW o e i=(Ti b e (jY b e rest)).map (λn=>(p++n.1,n.2))):=by
  rw[D,S.out]
  cases rest with
  |nil=>rw[oW];cases b<;>rfl
  |cons w l=>rw[oW,Γ (λa=>a2 ⟨w,l,V,a⟩)];rfl
 clear S a2;have b2:∀x:ξ,bK x c rest->θ ο 54 #[η (E (γ c 0 M)),J U e] x λa y=>Reads x c rest (jY b e rest) a y:=
  λx u=>h8 b aa x c e rest u aa aa aa
 go_wp2_with(first
  |(go_at_call 173;refine(b1 _ a1).mono ?_;rintro a n1 ⟨rfl,rfl⟩)
  |(go_at_call 54;refine(b2 _ a1).mono ?_))
 rintro a c8 ⟨k,i3⟩;have N:=dQ L k b8;have P:=dQ O k aa;have i6:=af N;have m0:=af P;obtain⟨⟨a7,a8,a9,b0⟩,e1,e2,e3,e4⟩:=bM N;obtain⟨⟨a5,a6,g5,g6⟩,k2,k3,k4,k5⟩:=bM P;rcases i3 with⟨R,rfl⟩|⟨j5,j7,h6,h4,j6,h7,x,l,R,i4,rfl,c6,u⟩
 ·have B:D (oW o e i=M):=by rw[D,T.out,R];rfl
  clear R T b1 b2
  go_wp2
  refine ζ (v:=Θ #[Ω #[J U 0,I ⟨#[]⟩,Q Z,δ M 0 0],Q Z]) (by simp[Δ,B8,go_sem,a7,a8,a9,b0,i6]) V ⟨?_,B7 ⟨by rw[B.out];rfl,V⟩⟩;refine bA ?_
  repeat(refine eu ?_ (ε _) _ _)
  exact aO a0 k
 have B:D (oW o e i=(oW b e l).map (λn=>((p++ [x])++n.1,n.2))):=by rw[D,T.out,R,Ti,Yn]
 clear R T b1 b2;change D _ at u;go_wp2_with(at_builtin;refine wpList_append_own_at _ V (.tmp 35) (.tmp 37) 94 V (H (A j)+1) 96 j3 (Ω #[J U 0,I ⟨#[]⟩,Q Z,δ M 0 0]) 4 56 underlying94 h9 j0 j1 j2 V ag _ _ _ V ((aD m (x:=c8) ?c0).alloc _ |>.alloc _) ⟨H (A c8)+1,0,M⟩ 1 1 [J U j5,I (ae j7),Q h6,δ h4 j6 h7] V V ?c1 ?c2 ?c3 ?c4 ?c5 ?_)
 case c0=>intro z e8;have X:=m.lt z e8;exact k.block z X.2 aN
 case c1=>
  intro j4 j8 g
  match j4,g with
  |0,g=>simp at g;subst g;simp[E9]
  |1,g=>simp at g;subst g;simp[E9]
  |2,g=>simp at g;subst g;simp[E9]
  |3,g=>simp at g;subst g;simp[E9]
 case c2=>intro j8 g2;simp at g2;rcases g2 with rfl|rfl|rfl|rfl<;>rfl
 case c3=>unfold A2;omega
 case c4=>omega
 case c5=>simp;omega
 intro k0 a4 b9 b5 _ e6;obtain⟨W,a3,C,rfl⟩:∃W a3 C,k0=δ W a3 C:=by
  rcases b9.2 with⟨a,_⟩|⟨z,C,k7,a,_⟩
  iterate 2
   ·exact⟨_,_,_,a⟩
 have i8:(δ s v cap).ownBlock≠E (H (A j)):=λa=>cz ((m.lt _ a).1);have i7:(δ s v cap).ownBlock≠E (H (A f)):=λa=>cz ((m.lt _ a).1);obtain⟨h1,h2,b3,h3⟩:=YJ aa g1 m c7 k u b9 b5 (by simpa using e6);have g4:a4.heap[H (A j)]? =_:=(b3 _ g1 aa i8).trans O;have g3:a4.heap[H (A f)]? =_:=(b3 _ i5 aa i7).trans L;have e0:bK a4 c l:=c6.ah λz e8=>h3 z aa (λa=>cz ((m.lt _ a).1));have g8:f.grownBy a4 (E c):=by
  refine XK a0 k (row:=(δ s v cap).ownBlock) ?_ b5 (λz a=>cz ((m.lt _ a).1)) b3;exact⟨V,V,V,aN⟩
 have g9:D (qh wr c=G rest):=a1.qh;have m1:=g3;obtain⟨⟨m3,m4,m5,m6⟩,m7,m8,m9,n0⟩:=bM g4;clear b9 b5 e6 m c7 u L O N P a7 a8 a9 b0 e1 e2 e3 e4 a5 a6 g5 g6 k2 k3 k4 k5
 go_wp2
 go_roundw
 ·exact⟨b,p++ [x],l,W,a3,C,_,aa,aa,aN,B,e0.setCell aa _ _,eu g8 aa _ _,(σ _ _ _ _ (by show H (A f)≠H (A j);omega)).trans g3,PR g4,h2,h1⟩
 show qh _ c<qh wr c;rw[g9.out,(e0.setCell (b:=H (A j)) aa 3 (δ W a3 C)).qh];exact i4
theorem LV(a)(j:∀d,d<a->Dz d):Wy a:=by
 intro _ _ b g c k l _
 cases a with
 |zero=>omega
 |succ a=>
  cases g with
  |nil=>rw[KY];exact LW b c
  |cons i g=>
   simp only[B5]at k l;by_cases e:20<b
   ·rw[KY,Ξ e];exact Bz b c (B7 e)
   cases f:nL i.1 i.2 with
   |false=>rw[KY,Γ e,f];exact Bz b c (C4 f)
   |true=>rw[KY,Γ e,f,Ξ V];exact Jp a (λd c=>j d aa) b c aa aa aa f
theorem ZV(a):Dz a:=by
 induction a using Nat.strongRecOn with
 |ind a ih=>
  intro _ _ d e b f g i
  cases a with
  |zero=>
   have:e= []:=B9.mp aa;subst this;rw[jY];exact Pf d b
  |succ a=>
   cases e with
   |nil=>rw[jY];exact Pf d b
   |cons j e=>
    simp only[B5]at f g;by_cases c:j.1=1
    ·rw[jY,Ξ c];exact Wh a (LV a λk b=>ih k aa) b aa aa i c
    rw[jY,Γ c];exact We d b c
def ky(ts:ρ Tk):B1 Tr:=match jY (2*G ts) 0 ts with|some (t,[])=>E t|_=>M
def lQ(l:Bs):B1 Tr:=if 400<G l then M else(dw l).bind ky
theorem Zm{b}(d:e.ownsRow a 93 2 f (G b) (eB b)):bK (e.alloc (A0 #[f] 170)) (H (A e)) b:=by
 refine⟨f,bS e, ?_⟩;rcases d.2 with⟨rfl,i⟩|⟨c,cap,_,rfl,_,j,k,l,_,_⟩
 ·exact B7 ⟨B9.mp i,_,_,V⟩
 have g:=af j;refine C4 ⟨c,0,cap,V,g,k,l,λn o m=>?_⟩;rw[E7 (w:=e) (Φ _ _ _ g)];have:=d.cells (g:=c) V n o m;rw[I6]at this;exact this
theorem LD(c:C5 a j e)(b:e.grownBy x (E n))(f:a<=n)(g:a<=H (A e)):C5 a j x:=
 c.trans ⟨b.os,b.tape,b.output,b.size,λd _=>b.block d aa aN⟩
theorem bK.cell{w d}(b:bK w a d):∃c cap,β w (γ a 0 M)=E (δ c (G d) cap):=by
 obtain⟨v,e,b⟩:=b;have f:β w (γ a 0 M)=E v:=by simp[β,e]
 rcases b with⟨rfl,c,cap,rfl⟩|⟨g,_,cap,rfl,_⟩
 iterate 2
  ·exact⟨_,_,f⟩
def Pz(w:ξ)(o:B1 Tr)(e:H7)(w':ξ):Prop:=
 C5 (H (A w)) w w'/\
  ((o=M/\e=μ (Θ #[Ω #[J U 0,I ⟨#[]⟩,Q Z,δ M 0 0],J U 1]))\/
   (∃k tx br ao n cap t,o=E t/\e=μ (Θ #[Ω #[J U k,I (ae tx),Q br,δ ao n cap],J U 0])/\
    oI w' (λg=>H (A w)<=g) [J U k,I (ae tx),Q br,δ ao n cap] t))
theorem wU(b:C5 a e j)(c:a<=n):C5 a e (j.setCell (γ n y M) f):=b.setCell (p:=(γ n y M)) c f
theorem QN(a)(d:b.size<=A2)(f:400<b.size):
  θ ο 19 #[I b] a λc e=>Pz a M c e:=by
 unfold A2 at d;go_enter L9,K9;go_wp2_with fail;exact ζ (v:=Θ #[Ω #[J U 0,I ⟨#[]⟩,Q Z,δ M 0 0],J U 1]) (by simp[Δ,D1,go_sem]) V ⟨(ι _ _).alloc (ε _) _,B7 ⟨V,V⟩⟩
theorem NR(g:φ)(f)(P:g.size<=400):
  θ ο 19 #[I g] f λc s=>Pz f ((dw g.toList).bind ky) c s:=by
 go_enter L9,K9;go_wp2_with(go_at_call 53;refine(Zo P).mono ?_);rintro c e ⟨K,t⟩;have u:=dP (bS f) K;have b0:=af u;have L:Bl f e:=((ι _ _).alloc (ε _) _).trans (K.mono ak);obtain⟨⟨i,j,k,l⟩,R,S,T,W⟩:=bM u;rcases t with⟨a,rfl⟩|⟨b,m,a,X,rfl,d⟩
 ·have n:D ((dw g.toList).bind ky=M):=by rw[D,a];rfl
  clear a;go_wp2_with fail;refine ζ (v:=Θ #[Ω #[J U 0,I ⟨#[]⟩,Q Z,δ M 0 0],J U 1]) (by simp[Δ,D1,go_sem,i,j,k,l]) V ⟨?_,B7 ⟨n,V⟩⟩
  repeat(refine wU ?_ (ε _))
  exact L
 have n:D ((dw g.toList).bind ky=ky b):=by rw[D,a];rfl
 clear a;obtain⟨_,_,_,rfl⟩:∃v w cap,m=δ v w cap:=by
  rcases d.2 with⟨c,_⟩|⟨_,cap,_,c,_⟩
  iterate 2
   ·exact⟨_,_,_,c⟩
 have a0:=Zm d;clear d;have q:∀d:ξ,bK d (H (A e)) b->θ ο 54 #[η (E (γ (H (A e)) 0 M)),J U 0] d λc s=>Reads d (H (A e)) b (jY (2*G b) 0 b) c s:=
  λd o=>ZV (2*G b) d (H (A e)) 0 b o aa X aa
 go_wp2_with(go_at_call 54;refine(q _ a0).mono ?_);rintro c x ⟨y,t⟩;have N:=dQ (eT u) y aa;have z:=af N;obtain⟨⟨i,j,k,l⟩,R,S,T,W⟩:=bM N;have B:Bl f x:=LD (L.alloc aa _) y aa aN;rcases t with⟨a,rfl⟩|⟨a1,a2,a3,v,w,cap,d,C,a,_,rfl,a4,o⟩
 ·have p:D (ky b=M):=by rw[D,ky,a]
  clear a q;go_wp2_with fail;refine ζ (v:=Θ #[Ω #[J U 0,I ⟨#[]⟩,Q Z,δ M 0 0],J U 1]) (by simp[Δ,D1,go_sem,i,j,k,l,z]) V ⟨?_,B7 ⟨by rw[n.out,p.out],V⟩⟩;refine I8 ?_ Jq _
  repeat(refine wU ?_ (ε _))
  exact B
 obtain⟨a5,a6,F⟩:=a4.cell;have a7:=y.size;simp only[D8]at a7;have b1:H (A e)<H (A x):=aa
 cases C with
 |nil=>
  have p:D (ky b=E d):=by rw[D,ky,a]
  have a8:D _:=o;clear a q o;simp only[H0]at F;go_wp2_with fail;refine ζ (v:=Θ #[Ω #[J U a1,I (ae a2),Q a3,δ v w cap],J U 0]) (by simp[Δ,D1,go_sem,i,j,k,l,z]) V ⟨?_,C4 ⟨_,_,_,_,_,_,d,by rw[n.out,p.out],V,a8.bounded.move (λO r=>?_) (λO r=>by have:=r.1;simp at this;omega)⟩⟩
  ·refine I8 ?_ Jq _
   repeat(refine wU ?_ (ε _))
   exact B
  have a9:=r.1;simp at a9;rw[Φ _ _ _ (by simp[B3];exact r.2)]
  repeat rw[σ _ _ _ _ (by show O≠H (A f);omega)]
 |cons b2 C=>
  have p:D (ky b=M):=by rw[D,ky,a]
  have b3:β x (γ (H (A e)) 0 M)=E (δ a5 (G C+1) a6):=F;clear a q o F;go_wp2_with fail;refine ζ (v:=Θ #[Ω #[J U 0,I ⟨#[]⟩,Q Z,δ M 0 0],J U 1]) (by simp[Δ,D1,go_sem,i,j,k,l,z]) V ⟨?_,B7 ⟨by rw[n.out,p.out],V⟩⟩;refine I8 ?_ Jq _
  repeat(refine wU ?_ (ε _))
  exact B
theorem Vo(d:b.size<=A2):
  θ ο 19 #[I b] e λc f=>Pz e (lQ b.toList) c f:=by
 unfold lQ;rw[aj];by_cases a:400<b.size
 ·rw[Ξ a];exact QN e d a
 rw[Γ a];exact NR b e aa
theorem jJ.get{f}(k:jJ e p l f)(c)(i:c<G f):∃g,oI e p g f[c]/\∀d,d<4->l[c*4+d]? =g[d]? :=by
 induction f generalizing l c with
 |nil=>simp at i
 |cons q f ih=>
  cases k with
  | @cons g l _ _ a b=>
   cases c with
   |zero=>exact⟨g,a,λd j=>by rw[H6 (by rw[a.four];omega)];simp⟩
   |succ c=>
    obtain⟨m,n,j⟩:=ih b c (by simpa using i);refine⟨m,n,λd o=>?_⟩;rw[<-j d o,H5 (by rw[a.four];omega),a.four];congr 1;omega
theorem oI.inv{o}(q:oI e p l o):∃i j f c m k cap g,o=.mk i j f c/\l= [J U i,I (ae j),Q f,δ m k cap]/\k=G c/\jJ e p g c/\
  e.ownsRow 0 96 4 (δ m k cap) (G c) g/\∀n,(δ m k cap).ownBlock=E n->p n:=by
 cases q with
 | @mk i j f c v g a b d=>
  rcases b.2 with⟨rfl,r⟩|⟨n,cap,_,rfl,_⟩
  ·exact⟨i,j,f,c,M,0,0,g,V,V,r.symm,a,b,d⟩
  exact⟨i,j,f,c,_,_,_,g,V,V,V,a,b,d⟩
def qF(ks:ρ Y):Y:=match ks with| [a,b]=>if a=b then 3 else 0|_=>0
def ifT(ks:ρ Y):Y:=match ks with| [c,a,b]=>if c=3/\a=b then a else 0|_=>0
def YE(ks:ρ Y):Y:=match ks with| [_]=>3|_=>0
def Yy(ks:ρ Y):Y:=match ks with| [a]=>a|_=>0
def mI(ls:ρ Y)(n:Y)(ks:ρ Y):Y:=if ks=ls then n else 0
def uS(n:Y)(ks:ρ Y):Y:=if 0<G ks/\ks.all (· ==n)=Ψ then n else 0
def iB(l:Bs)(ks:ρ Y):Y:=
 if l= [43]\/l= [45]\/l= [42]\/l= [47]then mI [1,1] 1 ks
 else if l= [61]\/l= [60]\/l= [60,61]then qF ks
 else if l= [97,110,100]\/l= [111,114]then uS 3 ks
 else if l= [110,111,116]then mI [3] 3 ks
 else if l= [105,115,110,117,108,108]then YE ks
 else if l= [105,102]then ifT ks
 else if l= [108,101,110]then mI [2] 1 ks
 else if l= [99,97,116]then uS 2 ks
 else if l= [110,111,116,101]then Yy ks else 0
theorem BJ(b:ξ)(c):aY (b.alloc (A0 #[J U c] 3)) (δ (E (γ (H (A b)) 0 M)) 1 1) [c]:=by
 refine⟨_,_,V,ak,C4 ⟨_,_,V,ek,λd _ a=>?_⟩⟩;rw[I7,aI (A3 b _)]
 match d,a with
 |0,a=>simp at a;subst a;rfl
theorem rq(b:ξ)(c d):aY (b.alloc (A0 #[J U c,J U d] 3)) (δ (E (γ (H (A b)) 0 M)) 2 2) [c,d]:=by
 refine⟨_,_,V,ak,C4 ⟨_,_,V,ek,λe _ a=>?_⟩⟩;rw[I7,aI (A3 b _)]
 match e,a with
 |0,a=>simp at a;subst a;rfl
 |1,a=>simp at a;subst a;rfl
theorem below_drewN:Bl e (e.drewN a):=⟨V,V,V,ε _,λ_ _=>rfl⟩
theorem ai(a:ξ)(b):Bl a (a.alloc b):=(ι _ _).alloc (ε _) _
theorem aY.form{zs}(b:aY e f zs):∃a cap,f=δ a (G zs) cap:=by obtain⟨a,cap,b,_⟩:=b;exact⟨a,cap,b⟩
theorem aY.at{w v zs}(a:aY w v zs)(d:zs≠ []):∃b off cap,v=δ (E (γ b off M)) (G zs) cap/\b<H (A w)/\∀j c,zs[j]? =E c->β w ⟨b,off+j,M⟩=E (J U c):=by
 obtain⟨_,cap,rfl,_,a|⟨b,off,rfl,e,f⟩⟩:=a
 ·exact M0 a d
 exact⟨b,off,cap,V,e,f⟩
theorem Pk(a:aY e f d):
  θ ο 350 #[I ⟨#[43]⟩,f] e (RB (J U (mI [1,1] 1 d)) e):=by
 have c:=jT (a.ah (ai e _)) (rq e 1 1);obtain⟨_,cap,rfl⟩:=a.form;obtain⟨g,b⟩:=au (decide (d= [1,1]));have i:D (mI [1,1] 1 d=fT g 1):=by rw[D,b,mI,fT];simp
 rw[<-b]at c;clear b a;go_enter υ,ν;go_wp2_with(first
  |(go_at_call 353;refine cB c ?_;rintro _ j)
  |(go_at_call 361;refine bP fP ?_))
 go_ret;exact⟨by rw[i.out];rfl,(ai e _).trans (j.mono ek)⟩
theorem KT(a:aY e f d):
  θ ο 350 #[I ⟨#[45]⟩,f] e (RB (J U (mI [1,1] 1 d)) e):=by
 have c:=jT (a.ah (ai e _)) (rq e 1 1);obtain⟨_,cap,rfl⟩:=a.form;obtain⟨g,b⟩:=au (decide (d= [1,1]));have i:D (mI [1,1] 1 d=fT g 1):=by rw[D,b,mI,fT];simp
 rw[<-b]at c;clear b a;go_enter υ,ν;go_wp2_with(first
  |(go_at_call 353;refine cB c ?_;rintro _ j)
  |(go_at_call 361;refine bP fP ?_))
 go_ret;exact⟨by rw[i.out];rfl,(ai e _).trans (j.mono ek)⟩
theorem KU(a:aY e f d):
  θ ο 350 #[I ⟨#[42]⟩,f] e (RB (J U (mI [1,1] 1 d)) e):=by
 have c:=jT (a.ah (ai e _)) (rq e 1 1);obtain⟨_,cap,rfl⟩:=a.form;obtain⟨g,b⟩:=au (decide (d= [1,1]));have i:D (mI [1,1] 1 d=fT g 1):=by rw[D,b,mI,fT];simp
 rw[<-b]at c;clear b a;go_enter υ,ν;go_wp2_with(first
  |(go_at_call 353;refine cB c ?_;rintro _ j)
  |(go_at_call 361;refine bP fP ?_))
 go_ret;exact⟨by rw[i.out];rfl,(ai e _).trans (j.mono ek)⟩
theorem Pj(a:aY e f d):
  θ ο 350 #[I ⟨#[47]⟩,f] e (RB (J U (mI [1,1] 1 d)) e):=by
 have c:=jT (a.ah (ai e _)) (rq e 1 1);obtain⟨_,cap,rfl⟩:=a.form;obtain⟨g,b⟩:=au (decide (d= [1,1]));have i:D (mI [1,1] 1 d=fT g 1):=by rw[D,b,mI,fT];simp
 rw[<-b]at c;clear b a;go_enter υ,ν;go_wp2_with(first
  |(go_at_call 353;refine cB c ?_;rintro _ j)
  |(go_at_call 361;refine bP fP ?_))
 go_ret;exact⟨by rw[i.out];rfl,(ai e _).trans (j.mono ek)⟩
theorem Wj(c:aY e f d):
  θ ο 350 #[I ⟨#[61]⟩,f] e (RB (J U (qF d)) e):=by
 by_cases g:G d=2
 ·obtain⟨a,b,rfl⟩:∃a b,d= [a,b]:=by
   match d,g with
   | [a,b],_=>exact⟨a,b,V⟩
  obtain⟨_,_,cap,rfl,_,i⟩:=c.at ak;have j:=i 0 a V;have:=i 1 b V;rw[C9]at j;clear c i g;have i:D (qF [a,b]=fT (a==b) 3):=by rw[D,fT];simp[qF]
  go_enter υ,ν;go_wp2_with fail
  go_quiet ((go_at_call 361;exact A7 fP))
  go_wp2
  go_ret;exact⟨by rw[i.out];rfl,below_drewN⟩
 have i:D (qF d=fT Z 3):=by
  rw[D]
  match d,g with
  | [],_=>rfl
  | [_],_=>rfl
  |_::_::_::_,_=>rfl
 have:((G d:Y)==2)=Z:=aN;obtain⟨_,cap,rfl⟩:=c.form;clear c g;go_enter υ,ν;go_wp2_with fail
 go_quiet ((go_at_call 361;exact A7 fP))
 go_wp2
 go_ret;exact⟨by rw[i.out];rfl,below_drewN⟩
theorem Wn(c:aY e f d):
  θ ο 350 #[I ⟨#[60]⟩,f] e (RB (J U (qF d)) e):=by
 by_cases g:G d=2
 ·obtain⟨a,b,rfl⟩:∃a b,d= [a,b]:=by
   match d,g with
   | [a,b],_=>exact⟨a,b,V⟩
  obtain⟨_,_,cap,rfl,_,i⟩:=c.at ak;have j:=i 0 a V;have:=i 1 b V;rw[C9]at j;clear c i g;have i:D (qF [a,b]=fT (a==b) 3):=by rw[D,fT];simp[qF]
  go_enter υ,ν;go_wp2_with fail
  go_quiet ((go_at_call 361;exact A7 fP))
  go_wp2
  go_ret;exact⟨by rw[i.out];rfl,below_drewN⟩
 have i:D (qF d=fT Z 3):=by
  rw[D]
  match d,g with
  | [],_=>rfl
  | [_],_=>rfl
  |_::_::_::_,_=>rfl
 have:((G d:Y)==2)=Z:=aN;obtain⟨_,cap,rfl⟩:=c.form;clear c g;go_enter υ,ν;go_wp2_with fail
 go_quiet ((go_at_call 361;exact A7 fP))
 go_wp2
 go_ret;exact⟨by rw[i.out];rfl,below_drewN⟩
theorem Wm(c:aY e f d):
  θ ο 350 #[I ⟨#[60,61]⟩,f] e (RB (J U (qF d)) e):=by
 by_cases g:G d=2
 ·obtain⟨a,b,rfl⟩:∃a b,d= [a,b]:=by
   match d,g with
   | [a,b],_=>exact⟨a,b,V⟩
  obtain⟨_,_,cap,rfl,_,i⟩:=c.at ak;have j:=i 0 a V;have:=i 1 b V;rw[C9]at j;clear c i g;have i:D (qF [a,b]=fT (a==b) 3):=by rw[D,fT];simp[qF]
  go_enter υ,ν;go_wp2_with fail
  go_quiet ((go_at_call 361;exact A7 fP))
  go_wp2
  go_ret;exact⟨by rw[i.out];rfl,below_drewN⟩
 have i:D (qF d=fT Z 3):=by
  rw[D]
  match d,g with
  | [],_=>rfl
  | [_],_=>rfl
  |_::_::_::_,_=>rfl
 have:((G d:Y)==2)=Z:=aN;obtain⟨_,cap,rfl⟩:=c.form;clear c g;go_enter υ,ν;go_wp2_with fail
 go_quiet ((go_at_call 361;exact A7 fP))
 go_wp2
 go_ret;exact⟨by rw[i.out];rfl,below_drewN⟩
theorem RX(a:aY e f d):
  θ ο 350 #[I ⟨#[97,110,100]⟩,f] e (RB (J U (uS 3 d)) e):=by
 have c:=yH 3 a;obtain⟨_,cap,rfl⟩:=a.form;obtain⟨g,b⟩:=au (decide (0<G d)&&d.all (· ==3));have i:D (uS 3 d=fT g 3):=by rw[D,b,uS,fT];simp
 rw[<-b]at c;clear b a;go_enter υ,ν;go_wp2_with(first
  |(go_at_call 362;refine cB c ?_;rintro _ j)
  |(go_at_call 361;refine bP fP ?_))
 go_ret;exact⟨by rw[i.out];rfl,j⟩
theorem Wo(a:aY e f d):
  θ ο 350 #[I ⟨#[111,114]⟩,f] e (RB (J U (uS 3 d)) e):=by
 have c:=yH 3 a;obtain⟨_,cap,rfl⟩:=a.form;obtain⟨g,b⟩:=au (decide (0<G d)&&d.all (· ==3));have i:D (uS 3 d=fT g 3):=by rw[D,b,uS,fT];simp
 rw[<-b]at c;clear b a;go_enter υ,ν;go_wp2_with(first
  |(go_at_call 362;refine cB c ?_;rintro _ j)
  |(go_at_call 361;refine bP fP ?_))
 go_ret;exact⟨by rw[i.out];rfl,j⟩
theorem Sb(a:aY e f d):
  θ ο 350 #[I ⟨#[110,111,116]⟩,f] e (RB (J U (mI [3] 3 d)) e):=by
 have c:=jT (a.ah (ai e _)) (BJ e 3);obtain⟨_,cap,rfl⟩:=a.form;obtain⟨g,b⟩:=au (decide (d= [3]));have i:D (mI [3] 3 d=fT g 3):=by rw[D,b,mI,fT];simp
 rw[<-b]at c;clear b a;go_enter υ,ν;go_wp2_with(first
  |(go_at_call 353;refine cB c ?_;rintro _ j)
  |(go_at_call 361;refine bP fP ?_))
 go_ret;exact⟨by rw[i.out];rfl,(ai e _).trans (j.mono ek)⟩
theorem Gp(a:aY e f d):
  θ ο 350 #[I ⟨#[105,115,110,117,108,108]⟩,f] e (RB (J U (YE d)) e):=by
 obtain⟨_,cap,rfl⟩:=a.form;obtain⟨c,b⟩:=au ((G d:Y)==1);have g:D (YE d=fT c 3):=by
  rw[D,b,fT]
  match d with
  | []=>rfl
  | [_]=>rfl
  |_::_::l=>simp[YE];omega
 clear a;go_enter υ,ν;go_wp2_with(go_at_call 361;refine bP fP ?_);go_ret;exact⟨by rw[g.out,b];rfl,ι _ _⟩
theorem Wl(i:aY e f d):
  θ ο 350 #[I ⟨#[105,102]⟩,f] e (RB (J U (ifT d)) e):=by
 by_cases j:G d=3
 ·obtain⟨c,a,b,rfl⟩:∃c a b,d= [c,a,b]:=by
   match d,j with
   | [c,a,b],_=>exact⟨c,a,b,V⟩
  obtain⟨_,_,cap,rfl,_,g⟩:=i.at ak;have n:=g 0 c V;have:=g 1 a V;have:=g 2 b V;rw[C9]at n;clear i g j;by_cases k:c=3
  ·subst k;by_cases l:a=b
   ·subst l;have g:D (ifT [3,a,a]=a):=by rw[D];simp[ifT]
    go_enter υ,ν;go_wp2_with fail;go_region;all_goals(try go_wp2_with fail)
    all_goals go_ret
    all_goals exact⟨by rw[g.out];rfl,(ι _ _).drew⟩
   have g:D (ifT [3,a,b]=0):=by rw[D];simp[ifT,l]
   have m:(a==b)=Z:=by simpa using l
   clear l;go_enter υ,ν;go_wp2_with fail;go_region;all_goals(try go_wp2_with fail)
   all_goals go_ret
   all_goals exact⟨by rw[g.out];rfl,(ι _ _).drew⟩
  have g:D (ifT [c,a,b]=0):=by rw[D];simp[ifT,k]
  have m:(c==3)=Z:=by simpa using k
  clear k;go_enter υ,ν;go_wp2_with fail;go_region;all_goals(try go_wp2_with fail)
  all_goals go_ret
  all_goals exact⟨by rw[g.out];rfl,(ι _ _).drew⟩
 have g:D (ifT d=0):=by
  rw[D]
  match d,j with
  | [],_=>rfl
  | [_],_=>rfl
  | [_,_],_=>rfl
  |_::_::_::_::_,_=>rfl
 have m:((G d:Y)==3)=Z:=aN;obtain⟨_,cap,rfl⟩:=i.form;clear i j;go_enter υ,ν;go_wp2_with fail;go_region;all_goals(try go_wp2_with fail)
 all_goals go_ret
 all_goals exact⟨by rw[g.out];rfl,(ι _ _).drew⟩
theorem Sa(a:aY e f d):
  θ ο 350 #[I ⟨#[108,101,110]⟩,f] e (RB (J U (mI [2] 1 d)) e):=by
 have c:=jT (a.ah (ai e _)) (BJ e 2);obtain⟨_,cap,rfl⟩:=a.form;obtain⟨g,b⟩:=au (decide (d= [2]));have i:D (mI [2] 1 d=fT g 1):=by rw[D,b,mI,fT];simp
 rw[<-b]at c;clear b a;go_enter υ,ν;go_wp2_with(first
  |(go_at_call 353;refine cB c ?_;rintro _ j)
  |(go_at_call 361;refine bP fP ?_))
 go_ret;exact⟨by rw[i.out];rfl,(ai e _).trans (j.mono ek)⟩
theorem RZ(a:aY e f d):
  θ ο 350 #[I ⟨#[99,97,116]⟩,f] e (RB (J U (uS 2 d)) e):=by
 have c:=yH 2 a;obtain⟨_,cap,rfl⟩:=a.form;obtain⟨g,b⟩:=au (decide (0<G d)&&d.all (· ==2));have i:D (uS 2 d=fT g 2):=by rw[D,b,uS,fT];simp
 rw[<-b]at c;clear b a;go_enter υ,ν;go_wp2_with(first
  |(go_at_call 362;refine cB c ?_;rintro _ j)
  |(go_at_call 361;refine bP fP ?_))
 go_ret;exact⟨by rw[i.out];rfl,j⟩
theorem Ph(a:aY e f d):
  θ ο 350 #[I ⟨#[110,111,116,101]⟩,f] e (RB (J U (Yy d)) e):=by
 match d,a with
 | [],a=>
  obtain⟨i,cap,rfl⟩:=a.form;clear a;go_enter υ,ν
  go_wp2
  go_ret;exact⟨V,ι _ _⟩
 | [b],a=>
  obtain⟨c,_,cap,rfl,_,g⟩:=a.at ak;have j:=g 0 b V;rw[C9]at j;clear a g;go_enter υ,ν
  go_wp2
  go_ret;exact⟨V,ι _ _⟩
 |b::c::l,a=>
  obtain⟨i,cap,rfl⟩:=a.form;have:=a.choose_spec.choose_spec.2.1;have g:((G (b::c::l):Y)==1)=Z:=aN;clear a;obtain⟨_,j⟩:=au (G (b::c::l));rw[<-j]at g ⊢;go_enter υ,ν
  go_wp2
  go_ret;exact⟨V,ι _ _⟩
theorem RY{b}(c:dU b=Ψ)(a:aY e f d):
  θ ο 350 #[I (ae b),f] e (RB (J U (iB b d)) e):=by
 simp only[dU,rZ,H8,List.any_nil,J6,M5,Bool.or_false]at c;rcases c with rfl|rfl|rfl|rfl|rfl|rfl|rfl|rfl|rfl|rfl|rfl|rfl|rfl|rfl|rfl
 ·rw[show iB [43] d=mI [1,1] 1 d from V,show ae [43]=⟨#[43]⟩from V];exact Pk a
 ·rw[show iB [45] d=mI [1,1] 1 d from V,show ae [45]=⟨#[45]⟩from V];exact KT a
 ·rw[show iB [42] d=mI [1,1] 1 d from V,show ae [42]=⟨#[42]⟩from V];exact KU a
 ·rw[show iB [47] d=mI [1,1] 1 d from V,show ae [47]=⟨#[47]⟩from V];exact Pj a
 ·rw[show iB [61] d=qF d from V,show ae [61]=⟨#[61]⟩from V];exact Wj a
 ·rw[show iB [60] d=qF d from V,show ae [60]=⟨#[60]⟩from V];exact Wn a
 ·rw[show iB [60,61] d=qF d from V,show ae [60,61]=⟨#[60,61]⟩from V];exact Wm a
 ·rw[show iB [97,110,100] d=uS 3 d from V,show ae [97,110,100]=⟨#[97,110,100]⟩from V];exact RX a
 ·rw[show iB [111,114] d=uS 3 d from V,show ae [111,114]=⟨#[111,114]⟩from V];exact Wo a
 ·rw[show iB [110,111,116] d=mI [3] 3 d from V,show ae [110,111,116]=⟨#[110,111,116]⟩from V];exact Sb a
 ·rw[show iB [105,115,110,117,108,108] d=YE d from V,show ae [105,115,110,117,108,108]=⟨#[105,115,110,117,108,108]⟩from V];exact Gp a
 ·rw[show iB [105,102] d=ifT d from V,show ae [105,102]=⟨#[105,102]⟩from V];exact Wl a
 ·rw[show iB [108,101,110] d=mI [2] 1 d from V,show ae [108,101,110]=⟨#[108,101,110]⟩from V];exact Sa a
 ·rw[show iB [99,97,116] d=uS 2 d from V,show ae [99,97,116]=⟨#[99,97,116]⟩from V];exact RZ a
 rw[show iB [110,111,116,101] d=Yy d from V,show ae [110,111,116,101]=⟨#[110,111,116,101]⟩from V];exact Ph a
inductive Ex where
 |mk (sort ty size:Int) (quiet:Bool) (vk vn:Int) (vs:Bs) (place:Int) (head:Bs) (fi:Option Nat) (ops:List Ex)
def Ex.ty:Ex->Y
 | .mk _ t _ _ _ _ _ _ _ _ _=>t
def Ex.size:Ex->Y
 | .mk _ _ s _ _ _ _ _ _ _ _=>s
def Ex.quiet:Ex->C2
 | .mk _ _ _ q _ _ _ _ _ _ _=>q
def IW(FB:ρ A8)(fi:B1 A8)(fp:B1 M1):Prop:=match fi with
 |none=>fp=M
 |some i=>∃b,FB[i]? =E b/\fp=E ⟨b,0,M⟩
mutual
inductive dF(w:World)(FB:List Nat)(S:Nat->Prop):List Value->Ex->Prop
 |mk {sort ty size:Int} {quiet:Bool} {vk vn:Int} {vs:Bs} {place:Int} {head:Bs} {fi:Option Nat} {ops:List Ex} {fp:Option Addr} {v:Value} {cs:List Value} :cO w FB S cs ops->w.ownsRow 0 210 11 v (List.length ops) cs->(∀g,v.ownBlock=some g->S g)->IW FB fi fp->
   dF w FB S [.int .i64 sort,.int .i64 ty,.int .i64 size,.bool quiet,.int .i64 vk,.int .i64 vn,.string (ae vs),.int .i64 place,.string (ae head),.pointer fp,v] (.mk sort ty size quiet vk vn vs place head fi ops)
inductive cO(w:World)(FB:List Nat)(S:Nat->Prop):List Value->List Ex->Prop
 |nil:cO w FB S [] []
 |cons {c cs:List Value} {t:Ex} {ts:List Ex} :dF w FB S c t->cO w FB S cs ts->cO w FB S (c++cs) (t::ts)
end
mutual
theorem dF.move{n x:ξ}{i:ρ A8}{e S':A8->Prop}(k:∀c,e c->x.heap[c]? =n.heap[c]?)(l:∀c,e c->S' c):∀ {j:ρ B2} {m:Ex},dF n i e j m->dF x i S' j m
 |_,_,.mk a b d f=>.mk (cO.move k l a) (aD b λc g=>k c (d c g)) (λc g=>l c (d c g)) f
theorem cO.move{k x:ξ}{e:ρ A8}{d S':A8->Prop}(g:∀c,d c->x.heap[c]? =k.heap[c]?)(i:∀c,d c->S' c):∀ {f:ρ B2} {j:ρ Ex},cO k e d f j->cO x e S' f j
 |_,_,.nil=>.nil
 |_,_,.cons a b=>.cons (dF.move g i a) (cO.move g i b)
end
mutual
theorem dF.bounded{e:ξ}{g:ρ A8}{i:A8->Prop} :∀ {j:ρ B2} {l:Ex},dF e g i j l->dF e g (λc=>i c/\c<H (A e)) j l
 |_,_,.mk a b d f=>.mk (cO.bounded a) b (λc k=>⟨d c k,(b.lt c k).2⟩) f
theorem cO.bounded{c:ξ}{d:ρ A8}{e:A8->Prop} :∀ {f:ρ B2} {i:ρ Ex},cO c d e f i->cO c d (λg=>e g/\g<H (A c)) f i
 |_,_,.nil=>.nil
 |_,_,.cons a b=>.cons (dF.bounded a) (cO.bounded b)
end
theorem dF.DZ{b}(a:dF e m p l b):G l=11:=by cases a;rfl
theorem cO.snoc{a c}(b:cO e m p l a)(d:dF e m p C c):cO e m p (l++C) (a++ [c]):=by
 induction a generalizing l with
 |nil=>cases b;have:=cO.cons d cO.nil;simpa using this
 |cons a i ih=>
  cases b with
  |cons f g=>rw[D4];exact .cons f (ih g)
theorem cO.get{f}(k:cO e m p l f)(c)(i:c<G f):∃g,dF e m p g f[c]/\∀d,d<11->l[c*11+d]? =g[d]? :=by
 induction f generalizing l c with
 |nil=>simp at i
 |cons r f ih=>
  cases k with
  | @cons g l _ _ a b=>
   cases c with
   |zero=>exact⟨g,a,λd j=>by rw[H6 (by rw[a.DZ];omega)];simp⟩
   |succ c=>
    obtain⟨n,o,j⟩:=ih b c (by simpa using i);refine⟨n,o,λd q=>?_⟩;rw[<-j d q,H5 (by rw[a.DZ];omega),a.DZ];congr 1;omega
theorem dF.inv{k}(v:dF e m p l k):∃sort n size quiet o q r place head i b j c a cap g,k=.mk sort n size quiet o q r place head i b/\
  l= [J U sort,J U n,J U size,Q quiet,J U o,J U q,I (ae r),J U place,I (ae head),η j,δ c a cap]/\a=G b/\cO e m p g b/\
  e.ownsRow 0 210 11 (δ c a cap) (G b) g/\(∀d,(δ c a cap).ownBlock=E d->p d)/\IW m i j:=by
 cases v with
 |mk s f t u=>
  rcases f.2 with⟨rfl,w⟩|⟨d,cap,_,rfl,_⟩
  ·exact⟨_,_,_,_,_,_,_,_,_,_,_,_,_,_,_,_,V,V,w.symm,s,f,t,u⟩
  exact⟨_,_,_,_,_,_,_,_,_,_,_,_,_,_,_,_,V,V,V,s,f,t,u⟩
theorem dF.ah{w x}{S:A8->Prop}{b}(c:dF w m S l b)(d:Bl w x):dF x m S l b:=
 c.bounded.move (λe a=>d.block e a.2) (λ_ a=>a.1)
theorem cO.ah{w x}{S:A8->Prop}{b}(c:cO w m S l b)(d:Bl w x):cO x m S l b:=
 c.bounded.move (λe a=>d.block e a.2) (λ_ a=>a.1)
def Dk(w:ξ)(FB:ρ A8)(v:B2)(es:ρ Ex):Prop:=∃cs ao cap,v=δ ao (G es) cap/\w.ownsRow 0 210 11 v (G es) cs/\cO w FB (λ_=>True) cs es
theorem Dk.ah{w x v b}(e:Dk w m v b)(c:Bl w x):Dk x m v b:=by
 obtain⟨f,g,cap,i,a,j⟩:=e;exact⟨f,g,cap,i,aD a λd k=>c.block d (a.lt d k).2,j.ah c⟩
def aA(zs:ρ Y):ρ B2:=zs.map λz=>J U z
theorem qJ{b zs}(c:e.ownsRow b 3 1 f (G zs) (aA zs))(d:G zs<=1000):aY e f zs:=by
 rcases c.2 with⟨rfl,g⟩|⟨a,cap,_,rfl,_⟩
 ·have:zs= []:=B9.mp g;subst this;exact⟨_,_,V,ak,B7 V⟩
 refine⟨_,_,V,C3 d ag,C4 ⟨a,0,V,(c.lt a V).2,λj k i=>?_⟩⟩;have:=c.cells (g:=a) V j (J U k) (by simp[aA,i]);rw[I6]at this;simpa using this
theorem lX:(ο.info? 3).map (λa=>(a.zero,a.size,a.bytes))=E (E (J U 0),1,8):=aF
theorem IP{b:ρ Ex}(o:Dk e m f b)(N:G b<=1000):
  θ ο 351 #[f] e λn x=>∃p,n=μ p/\aY x p (b.map Ex.ty)/\Bl e x:=by
 obtain⟨O,P,R,S,T⟩:=J8 lX;obtain⟨_,W,cap,rfl,v,X⟩:=o;go_enter func351,ntmps351;go_wp2_with fail;go_loopw [3,8] (λd c wr=>∃(a q r:A8) (s:B1 M1),a<=G b/\d=δ s q r/\c=J U a/\wr.ownsRow (H (A e)) 3 1 (δ s q r) a (aA ((b.take a).map Ex.ty))/\Bl e wr) (λ_ c _=>G b-(C1 c).toNat)
 ·exact⟨0,0,0,M,B0 _,V,V,C0 _ _ _ _,ι _ _⟩
 obtain⟨a,q,r,s,_,rfl,rfl,i,t⟩:=hrel;have a0:=t.size;by_cases y:a<G b
 ·obtain⟨d,rfl⟩:∃d,W=E (γ d 0 M):=by
   rcases v.2 with⟨o,_⟩|⟨d,l,a1,o,_⟩
   ·omega
   cases o;exact⟨d,V⟩
  have a2:d<H (A e):=(v.lt d V).2;have c6:d<H (A wr):=aa;obtain⟨_,z,B⟩:=X.get a y;have C:D (b.take (a+1)=b.take a++ [b[a]]):=G0 y;obtain⟨sort,w,size,quiet,a3,a4,a5,place,head,_,_,a6,a7,a8,a9,_,F,rfl,b0,_,_,_,_⟩:=z.inv;have K:D ((b.take (a+1)).map Ex.ty=(b.take a).map Ex.ty++ [w]):=by rw[D,C.out,J4,F];rfl
  have c:∀g j,g<11-> [J U sort,J U w,J U size,Q quiet,J U a3,J U a4,I (ae a5),J U place,I (ae head),η a6,δ a7 a8 a9][g]? =E j->β wr ⟨d,a*11+g,M⟩=E j:=by
   intro g j k u;have:=v.cells (g:=d) V (a*11+g) j (by rw[B g k];exact u);rw[I6]at this;exact cK t a2 (by simpa using this)
  have L:=c 0 _ aa V;have b1:=c 1 _ aa V;have b2:=c 2 _ aa V;have b3:=c 3 _ aa V;have b4:=c 4 _ aa V;have b5:=c 5 _ aa V;have b6:=c 6 _ aa V;have b7:=c 7 _ aa V;have b8:=c 8 _ aa V;have b9:=c 9 _ aa V;have c0:=c 10 _ aa V;rw[C9]at L;clear c z B C F b0;have c7:H (A wr)<=H (A wr):=ε _;go_wp2_with(at_builtin;refine K7 _ V (.tmp 12) (.tmp 15) 42 V (H (A e)) 3 O (J U 0) 1 8 underlying42 P R S T V ag _ _ _ V ((i.alloc _).alloc _) ⟨H (A wr)+1,0,M⟩ 1 1 [J U w] V V ?c1 ?c2 ?c3 ?c4 ?c5 ?_)
  case c1=>
   intro g j k
   match g,k with
   |0,k=>simp at k;subst k;simp[E9]
  case c2=>intro j u;simp at u;subst u;rfl
  case c3=>unfold A2;omega
  case c4=>omega
  case c5=>simp;omega
  intro p z c B _;obtain⟨k,u,l,rfl⟩:∃k u l,p=δ k u l:=by
   rcases c.2 with⟨n,_⟩|⟨_,l,a1,n,_⟩<;>exact⟨_,_,_,n⟩
  have C:z.ownsRow (H (A e)) 3 1 (δ k u l) (a+1) (aA ((b.take (a+1)).map Ex.ty)):=by
   rw[K.out];simp only[aA,J4,List.map_take,List.map_cons,List.map_nil]at c ⊢;exact c
  have RB:Bl e z:=((t.alloc a0 _).alloc aN _).grown B aN (λb0 F=>(i.lt b0 F).1);clear c B i K L b1 b2 b3 b4 b5 b6 b7 b8 b9 c0
  go_wp2
  go_roundw
  ·exact⟨a+1,_,_,_,aa,V,aP,C,RB⟩
  simp[C1];omega
 have c:b.take a=b:=List.take_of_length_le aa;have d:a=G b:=aa;have g:D (aY wr (δ s q r) (b.map Ex.ty)):=by
  rw[c]at i;refine qJ (b:=H (A e)) ?_ (by simpa using N);rw[List.length_map,<-d];exact i
 clear i c d
 go_wp2
 go_ret;exact⟨_,V,g,t⟩
def wV(k n:Y)(s:Bs):Ex:=.mk 0 k 1 Ψ k n s 0 [] M []
def aab:Ex:=.mk 1 2 1 Ψ 0 0 [] 0 [] M []
def YQ(t p:Y):Ex:=.mk 3 t 1 Ψ 0 0 [] p [] M []
def fe(atoi:Bs->Y)(k:Y)(l:Bs):Ex:=
 if k=3 then wV 1 (atoi l) []else if k=4 then wV 2 0 ((l.drop 1).take (G l-1-1))else if l= [117,115,101,114]then aab else wV 3 (ZX (l== [116,114,117,101])) []
theorem qw(sort a size quiet b c d place head):
  dF e m p [J U sort,J U a,J U size,Q quiet,J U b,J U c,I (ae d),J U place,I (ae head),η M,δ M 0 0] (.mk sort a size quiet b c d place head M []):=
 .mk .nil (C0 _ _ _ _) (λ_ f=>by cases f) V
theorem cZ{x:ξ}{b}(c:x.heap[a]? =E (A0 #[f,q,L,a0,a5,a6,a7,a8,a9,b0,B] b (0,0))):
  (β x (γ a 0 M)=E f/\β x (γ a 1 M)=E q/\β x (γ a 2 M)=E L/\β x (γ a 3 M)=E a0/\β x (γ a 4 M)=E a5/\β x (γ a 5 M)=E a6/\β x (γ a 6 M)=E a7/\β x (γ a 7 M)=E a8/\β x (γ a 8 M)=E a9/\β x (γ a 9 M)=E b0/\β x (γ a 10 M)=E B)/\
  (κ x (γ a 0 M)=Z/\κ x (γ a 1 M)=Z/\κ x (γ a 2 M)=Z/\κ x (γ a 3 M)=Z/\κ x (γ a 4 M)=Z/\κ x (γ a 5 M)=Z/\κ x (γ a 6 M)=Z/\κ x (γ a 7 M)=Z/\κ x (γ a 8 M)=Z/\κ x (γ a 9 M)=Z/\κ x (γ a 10 M)=Z):=by
 simp[β,κ,c]
abbrev Mw:Obj:=A0 #[J U 0,J U 0,J U 0,Q Z,J U 0,J U 0,I ⟨#[]⟩,J U 0,I ⟨#[]⟩,η M,δ M 0 0] 210
def xB(w:ξ)(FB:ρ A8)(o:F1 Y Ex)(e:H7)(w':ξ):Prop:=C5 (H (A w)) w w'/\
 ((∃n:Y,o=.error n/\n≠0/\e=μ (Θ #[Ω #[J U 0,J U 0,J U 0,Q Z,J U 0,J U 0,I ⟨#[]⟩,J U 0,I ⟨#[]⟩,η M,δ M 0 0],J U n]))\/
  (∃(x:Ex) (c:M4 B2),o=.ok x/\e=μ (Θ #[Ω c,J U 0])/\dF w' FB (λg=>H (A w)<=g) c.toList x))
theorem Kb(c:Bs)(a b):(ae c).extract a b=ae ((c.drop a).take (b-a)):=by
 apply φ.ext;simp[ae,H4]
theorem aV(a:ξ)(b c):Bl a ((a.alloc b).alloc c):=((ι _ a).alloc (ε _) _).alloc ek _
theorem qN(a:C5 (H (A ((e.alloc F).alloc s))) ((e.alloc F).alloc s) j):j.heap[H (A e)+1]? =E s/\Bl e j/\H (A e)+2<=H (A j):=by
 have b:=a.size;have:=A3 (e.alloc F) s;rw[D8]at this;refine⟨(a.block _ ek).trans this,(aV e F s).trans (a.mono gL), ?_⟩;simp only[D8]at b;omega
theorem Ru{d:Bs->Y}{a}(b a5)(z:i=3->∀K:ξ,θ ο 330 #[I (ae a)] K (RB (Θ #[J U (d a),.nilIface]) K))(x:i=4->2<=G a/\G a<=32):
  θ ο 290 #[Ω #[J U i,I (ae a)]] b λa6 F=>Bl b F/\∃C:M4 B2,a6=μ (Ω C)/\dF F a5 (λa7=>H (A b)<=a7) C.toList (fe d i a):=by
 by_cases y:i=3
 ·subst y;have e:D (fe d 3 a=wV 1 (d a) []):=by rw[D,fe,Ξ V]
  have a8:=z V;clear z x;go_enter G2,F4;go_wp2_with(first
   |(go_at_call 330;refine cB (a8 _) ?_;rintro _ B;obtain⟨k,g,a2⟩:=qN B)
   |(go_at_call 301;refine cB DT ?_;rintro a4 f)
   |(go_at_call 331;refine cB ug ?_;rintro l c;have:=f.size;have a3:=c.size;have j:Bl b l:=(bT g f).trans (c.mono aa);obtain⟨⟨m,n,p,q,r,s,t,u,v,w,o⟩,L,N,P,R,S,T,W,X,a0,a1,O⟩:=cZ ((c.block _ aa).trans ((f.block _ aa).trans k))))
  refine ζ (v:=Ω #[J U 0,J U 1,J U 1,Q Ψ,J U 1,J U (d a),I ⟨#[]⟩,J U 0,I ⟨#[]⟩,η M,δ M 0 0]) (by simp[Δ,E5,go_sem,m,n,p,q,r,s,t,u,v,w,o]) V ⟨?_,_,V, ?_⟩
  ·repeat(refine A4 ?_ (by show H (A b)<=H (A b)+1;omega) _)
   exact j
  rw[e.out];exact qw 0 1 1 Ψ 1 (d a) [] 0 []
 have:(i==3)=Z:=by simpa using y
 clear z;by_cases z:i=4
 ·subst z;have e:D (fe d 4 a=wV 2 0 ((a.drop 1).take (G a-1-1))):=by rw[D,fe,Γ aa,Ξ V]
  obtain⟨_,_⟩:=x V;have:(ae a).size=G a:=aX a;have:=Kb a 1 (G a-1);clear x;go_enter G2,F4;go_wp2_with(first
   |(go_at_call 196;refine cB Js ?_;rintro a4 f;obtain⟨k,g,a2⟩:=qN f)
   |(go_at_call 331;refine cB ug ?_;rintro l c;have a3:=c.size;have j:Bl b l:=bT g c;obtain⟨⟨m,n,p,q,r,s,t,u,v,w,o⟩,L,N,P,R,S,T,W,X,a0,a1,O⟩:=cZ ((c.block _ aa).trans k)))
  refine ζ (v:=Ω #[J U 0,J U 2,J U 1,Q Ψ,J U 2,J U 0,I (ae ((a.drop 1).take (G a-1-1))),J U 0,I ⟨#[]⟩,η M,δ M 0 0]) (by simp[Δ,E5,go_sem,m,n,p,q,r,s,t,u,v,w,o]) V ⟨?_,_,V, ?_⟩
  ·repeat(refine A4 ?_ (by show H (A b)<=H (A b)+1;omega) _)
   exact j
  rw[e.out];exact qw 0 2 1 Ψ 2 0 ((a.drop 1).take (G a-1-1)) 0 []
 have:(i==4)=Z:=by simpa using z
 clear x;by_cases x:a= [117,115,101,114]
 ·subst x;have e:D (fe d i [117,115,101,114]=aab):=by rw[D,fe,Γ y,Γ z,Ξ V]
  have a8:ae [117,115,101,114]=⟨#[117,115,101,114]⟩:=V;rw[a8];go_enter G2,F4;go_wp2_with fail;refine ζ (v:=Ω #[J U 1,J U 2,J U 1,Q Ψ,J U 0,J U 0,I ⟨#[]⟩,J U 0,I ⟨#[]⟩,η M,δ M 0 0]) (by simp[Δ,E5,go_sem]) V ⟨aV _ _ _,_,V, ?_⟩;rw[e.out];exact qw 1 2 1 Ψ 0 0 [] 0 []
 have:((ae a).toList== [117,115,101,114])=Z:=by rw[ay];simpa using x
 have e:D (fe d i a=wV 3 (ZX (a== [116,114,117,101])) []):=by rw[D,fe,Γ y,Γ z,Γ x]
 go_enter G2,F4;go_wp2_with(first
  |(go_at_call 136;refine cB FL ?_;rintro a4 f;obtain⟨k,g,a2⟩:=qN f)
  |(go_at_call 331;refine cB ug ?_;rintro l c;have a3:=c.size;have j:Bl b l:=bT g c;obtain⟨⟨m,n,p,q,r,s,t,u,v,w,o⟩,L,N,P,R,S,T,W,X,a0,a1,O⟩:=cZ ((c.block _ aa).trans k)))
 rw[ay]at*;refine ζ (v:=Ω #[J U 0,J U 3,J U 1,Q Ψ,J U 3,J U (ZX (a== [116,114,117,101])),I ⟨#[]⟩,J U 0,I ⟨#[]⟩,η M,δ M 0 0]) (by simp[Δ,E5,go_sem,m,n,p,q,r,s,t,u,v,w,o]) V ⟨?_,_,V, ?_⟩
 ·repeat(refine A4 ?_ (by show H (A b)<=H (A b)+1;omega) _)
  exact j
 rw[e.out];exact qw 0 3 1 Ψ 3 (ZX (a== [116,114,117,101])) [] 0 []
structure Fn where
 name:Bs
 args:List Int
 body:Ex
def uP(w:ξ)(FB:ρ A8)(b:A8)(fn:Fn):Prop:=∃(av:B2) (c:ρ B2),w.heap[b]? =E (A0 (I (ae fn.name)::av::c).toArray 212 (0,0))/\w.ownsRow 0 3 1 av (G fn.args) (aA fn.args)/\G fn.args<=1000/\dF w FB (λ_=>True) c fn.body
theorem uP.ah{w x c}(g:uP w m a c)(b:Bl w x):uP x m a c:=by
 obtain⟨i,j,d,e,k,l⟩:=g;exact⟨i,j,(b.block a (af d)).trans d,aD e λf n=>b.block f (e.lt f n).2,k,l.ah b⟩
mutual
theorem dF.typed{w:ξ}{i:ρ A8}{j:A8->Prop} :∀ {k:ρ B2} {l:Ex},dF w i j k l->dF w i (λc=>j c/\∃e m,w.heap[c]? =E (A0 e 210 m)) k l
 |_,_,.mk a b d f=>.mk (cO.typed a) b (λc g=>⟨d c g,by
   rcases b.2 with⟨rfl,_⟩|⟨o,cap,e,rfl,_,n,_⟩
   ·cases g
   cases g;exact⟨e,_,n⟩⟩) f
theorem cO.typed{w:ξ}{c:ρ A8}{d:A8->Prop} :∀ {e:ρ B2} {g:ρ Ex},cO w c d e g->cO w c (λf=>d f/\∃i j,w.heap[f]? =E (A0 i 210 j)) e g
 |_,_,.nil=>.nil
 |_,_,.cons a b=>.cons (dF.typed a) (cO.typed b)
end
theorem uP.grow{l}(i:uP e m a l)(k:∀(b:A8) (d:M4 B2) (c:TypeId) (g:A8×A8),e.heap[b]? =E (A0 d c g)->c=212\/c=3\/c=210->j.heap[b]? =e.heap[b]?):uP j m a l:=by
 obtain⟨p,q,n,o,r,s⟩:=i;refine⟨p,q,(k a _ _ _ n (B7 V)).trans n,aD o λb f=>?_,r,s.typed.move (λb f=>?_) (λ_ _=>trivial)⟩
 ·rcases o.2 with⟨rfl,_⟩|⟨_,cap,d,rfl,_,i,_⟩
  ·cases f
  cases f;exact k _ _ _ _ i (C4 (B7 V))
 obtain⟨_,d,g,t⟩:=f;exact k b d _ g t (C4 (C4 V))
def kF(w:ξ)(FB:ρ A8)(v:B2)(fns:ρ Fn):Prop:=∃ao cap,v=δ ao (G fns) cap/\G FB=G fns/\G fns<=100/\
 (fns= []\/∃b,ao=E ⟨b,0,M⟩/\b<H (A w)/\∀(i q:A8),FB[i]? =E q->β w ⟨b,i,M⟩=E (η (E ⟨q,0,M⟩)))/\∀(i q:A8) (fn:Fn),FB[i]? =E q->fns[i]? =E fn->uP w FB q fn
theorem kF.ah{w x v fns}(b:kF w m v fns)(c:Bl w x):kF x m v fns:=by
 obtain⟨f,cap,g,j,k,l,n⟩:=b;refine⟨f,cap,g,j,k, ?_,λi e o a d=>(n i e o a d).ah c⟩;rcases l with b|⟨d,p,q,r⟩
 ·exact B7 b
 exact C4 ⟨d,p,cz c.size,λi e s=>cK c q (r i e s)⟩
def dG(fns:ρ Fn)(l:Bs):B1 A8:=fns.findIdx? (λf=>f.name==l)
theorem Uo{b:Fn}{c}(f:uP e m a b)(i:β e (γ n 0 M)=E (I (ae c))):
  θ ο 193 #[η (E (γ a 0 M)),η (E (γ n 0 M))] e (RB (Q (b.name==c)) e):=by
 obtain⟨_,_,d,_,_,_⟩:=f;have:β e (γ a 0 M)=E (I (ae b.name)):=by simp[β,d]
 have g:D ((b.name==c)=((ae b.name).toList==(ae c).toList)):=by rw[D,ay,ay]
 clear d;go_enter func193,ntmps193;go_wp2_with fail;go_region
 go_wp2
 go_ret;exact⟨by rw[g.out];rfl,(ι _ _).drew⟩
theorem yg{fns c}(n:kF e m f fns)(z:a<H (A e))(y:β e (γ a 0 M)=E (I (ae c))):
  θ ο 192 #[f,.func (Fn.func 193) #[] #[η (E (γ a 0 M))]] e λw B=>(∃o:Y,w=μ (J U o)/\((dG fns c=M/\o= -1)\/∃b:A8,dG fns c=E b/\o=b/\b<G fns))/\Bl e B:=by
 obtain⟨_,cap,rfl,_,_,p,q⟩:=n;go_enter func192,ntmps192;go_wp2_with fail;go_loopw [8] (λd g=>∃b:A8,b<=G fns/\d=J U b/\Bl e g/\D (dG fns c=((fns.drop b).findIdx? (λi=>i.name==c)).map (· +b))) (λd _=>G fns-(C1 d).toNat)
 ·exact⟨0,B0 _,V,ι _ _,by rw[D];simp[dG]⟩
 obtain⟨b,_,rfl,d,k⟩:=hrel;by_cases l:b<G fns
 ·rcases(id p)with n|⟨_,rfl,C,s⟩
  ·subst n;simp at l
  have F:b<G m:=aa;have j:m[b]? =E m[b]:=τ F;have K:=cK d C (s b m[b] j);have hF:=(q b m[b] fns[b] j (τ l)).ah d;have L:=cK d z y;have t:fns.drop b=fns[b]::fns.drop (b+1):=ψ l;have g:D (dG fns c=if(fns[b].name==c)then E b else((fns.drop (b+1)).findIdx? (λi=>i.name==c)).map (· +(b+1))):=by
   rw[D,k.out,t,List.findIdx?_cons]
   cases(fns[b].name==c)
   ·simp only[J1,if_false,Option.map_map];congr 1;funext x;simp;omega
   simp
  obtain⟨_,u⟩:=au (m[b]);obtain⟨N,v⟩:=au (fns[b]);rw[<-u]at K hF;rw[<-v]at hF g;have r:=Uo hF L;clear s t p q k hF u v j;obtain⟨t,j⟩:=au (N.name==c);rw[<-j]at r g;clear j
  cases t with
  |true=>
   have j:D (dG fns c=E b):=by rw[D,g.out,Ξ V]
   clear g;go_wp2_with(go_at_call 193;refine cB r ?_;rintro u s);go_ret;exact⟨⟨_,V,C4 ⟨b,j,V,l⟩⟩,bT d s⟩
  |false=>
   have j:D (dG fns c=((fns.drop (b+1)).findIdx? (λi=>i.name==c)).map (· +(b+1))):=by rw[D,g.out,Γ A6]
   clear g;go_wp2_with(go_at_call 193;refine cB r ?_;rintro u s);go_roundw
   ·exact⟨b+1,aa,aP,bT d s,j⟩
   simp[C1];omega
 have j:D (dG fns c=M):=by rw[D,k.out,χ aa];rfl
 clear k p q
 go_wp2
 go_ret;exact⟨⟨_,V,B7 ⟨j,V⟩⟩,d⟩
theorem MC{fns}(a)(d:kF e m f fns):
  θ ο 121 #[f,I (ae a)] e λn t=>(∃o,n=μ (η o)/\IW m (dG fns a) o)/\Bl e t:=by
 have g:=ai e (A0 #[I (ae a)] 9);have i:=yg (d.ah g) ek ((aI (A3 e (A0 #[I (ae a)] 9))).trans V);obtain⟨_,cap,rfl,_,_,p,b⟩:=d;clear b;go_enter func121,ntmps121;go_wp2_with(go_at_call 192;refine i.mono ?_);rintro n _ ⟨⟨_,rfl,⟨b,rfl⟩|⟨c,b,rfl,u⟩⟩,j⟩
 ·have k:D (dG fns a=M):=b;clear b i
  go_wp2
  go_ret;exact⟨⟨_,V,by rw[k.out];rfl⟩,bT g j⟩
 have k:D (dG fns a=E c):=b;rcases(id p)with d|⟨_,rfl,v,q⟩
 ·subst d;simp at u
 have r:=bT g j;have l:m[c]? =E (m[c]' aa):=τ aa;have w:=cK r v (q c _ l);obtain⟨x,s⟩:=au (m[c]' aa);rw[<-s]at w l;clear b i q p s j g
 go_wp2
 go_ret;exact⟨⟨_,V,by rw[k.out];exact⟨x,l,V⟩⟩,r⟩
mutual
def dep:Tr->A8
 | .mk _ _ br ops=>if br then 1+Qe ops else 0
def Qe:ρ Tr->A8
 | []=>0
 |t::ts=>max (dep t) (Qe ts)
end
def CZ(l:Bs):C2:=l.all λc=>gF c.toNat
def tq(c:C8):C2:=gF c.toNat||bg c.toNat
def xK(r:Bs):Prop:=r= []\/tq (r.headD 0)=Ψ
def Good(tx:Bs):Prop:=(tx≠ []/\tx.all (λc=> !tq c&&c != 39)=Ψ)\/(∃inner:Bs,tx=39::(inner++ [39])/\inner.all (λc=>c != 39)=Ψ)
theorem Jl(a:C8)(b:Bs):CZ (a::b)=(gF a.toNat&&CZ b):=V
theorem OA{a}(c)(b:CZ a=Ψ):dw (a++c)=dw c:=by
 induction a with
 |nil=>rfl
 |cons d e ih=>
  rw[Jl,C6]at b;rw[sZ _ ak];simp only[A9,E3,b.1,if_true,List.drop_succ_cons,E8];exact ih b.2
theorem OB{a b:Bs}(c:0<G a)(d:gF (a.headD 0).toNat=Z)(e:gM (a++b)=G a):dw (a++b)=if bF a=0 then M else(dw b).map ((bF a,a):: ·):=by
 have f:(a++b).headD 0=a.headD 0:=by cases a with|nil=>simp at c|cons _ _=>rfl
 rw[sZ _ aN,f,d,Γ A6,e,List.take_left,J7]
theorem oh(a:C8):eQ a= !tq a:=by simp[eQ,tq]
theorem TD{b:Bs}(a:xK b):b.takeWhile eQ= []:=by
 rcases a with rfl|a
 ·rfl
 cases b with
 |nil=>rfl
 |cons c b=>
  have:eQ c=Z:=by rw[oh];simp only[E3]at a;rw[a];rfl
  rw[A1,this];rfl
theorem aef{a c:Bs}(b:a.all eQ=Ψ)(d:xK c):(a++c).takeWhile eQ=a:=by
 induction a with
 |nil=>exact TD d
 |cons e f ih=>
  rw[C7,C6]at b;rw[A9,A1,b.1,Ξ V,ih b.2]
theorem afP{a:Bs}(d:Bs)(b:a.all (λc=>c != 39)=Ψ):(a++39::d).takeWhile (· != 39)=a:=by
 induction a with
 |nil=>rfl
 |cons c e ih=>
  rw[C7,C6]at b;rw[A9,A1,b.1,Ξ V,ih b.2]
theorem MK{b}(a:Good b):0<G b:=by
 rcases a with⟨a,_⟩|⟨_,rfl,_⟩
 ·exact List.length_pos_iff.mpr a
 simp
theorem AB{b:Bs}(a:Good b):tq (b.headD 0)=Z:=by
 rcases a with⟨a,c⟩|⟨_,rfl,_⟩
 ·cases b with
  |nil=>exact M0 V a
  |cons d e=>rw[C7,C6]at c;have:=c.1;simp at this;simpa using this.1
 rfl
theorem xw(a:tq N=Z):gF N.toNat=Z/\bg N.toNat=Z:=by
 unfold tq at a;simpa using a
theorem Uw{b a}(e:Good b)(g:xK a):gM (b++a)=G b:=by
 have k:=AB e;have l:=MK e;have i:(b++a).headD 0=b.headD 0:=by cases b with|nil=>simp at l|cons _ _=>rfl
 unfold gM;rw[i,(xw k).2,Γ A6];rcases e with⟨e,d⟩|⟨c,rfl,d⟩
 ·have f:pY (b++a)=0:=by
   unfold pY;rw[i]
   cases b with
   |nil=>exact M0 V e
   |cons j m=>
    rw[C7,C6]at d;have:=d.1;simp at this;rw[E3,Γ];simpa using this.2
  have m:b.all eQ=Ψ:=by
   rw[List.all_eq_true]at d ⊢;intro j n;have:=d j n;simp at this;rw[oh,this.1];rfl
  rw[f,E8,aef m g,I7]
 have j:((39::(c++ [39]))++a).drop 1=c++39::a:=ak;have f:pY ((39::(c++ [39]))++a)=G c+2:=by
  unfold pY;rw[j,afP a d,Ξ afB,Ξ];rw[List.contains_iff_mem];simp
 rw[f];have m:((39::(c++ [39]))++a).drop (G c+2)=a:=by
  have:G (39::(c++ [39]))=G c+2:=ak;rw[<-this,J7]
 rw[m,TD g];simp
mutual
def Bi:Tr->ρ Tk
 | .mk k tx br ops=>if br then(1,[40])::(k,tx)::(wK ops++ [(2,[41])])else [(k,tx)]
def wK:ρ Tr->ρ Tk
 | []=>[]
 |t::ts=>Bi t++wK ts
end
mutual
inductive Wf:Tr->Prop
 |leaf {k:Int} {tx:Bs} :bF tx=k->k≠0->¬k=1->¬k=2->Good tx->jB k tx=true->Wf (.mk k tx false [])
 |node {k:Int} {tx:Bs} {ops:List Tr} :bF tx=k->k≠0->Good tx->nL k tx=true->WfL ops->Wf (.mk k tx true ops)
inductive WfL:List Tr->Prop
 |nil:WfL []
 |cons {t:Tr} {ts:List Tr} :Wf t->WfL ts->WfL (t::ts)
end
theorem Qh{b}(d:Wf b):∃a e,Bi b=a::e/\¬a.1=2:=by
 cases d with
 |leaf f g i c j k=>exact⟨_,[],by rw[Bi];rfl,c⟩
 |node f g i c j=>exact⟨(1,[40]),_,by rw[Bi];rfl,ag⟩
mutual
theorem EB:∀ {b:Tr} {f deep:A8} {r:ρ Tk},Wf b->deep+dep b<=20->2*G (Bi b)<=f->jY f deep (Bi b++r)=E (b,r)
 |_,f,deep,r,.leaf h1 h2 h3 h4 h5 h6,_,hf=>by
  rw[Bi]at hf ⊢;simp at hf;obtain⟨a,rfl⟩:∃a,f=a+1:=⟨f-1,aa⟩;simp only[J1,if_false,A9,G9];rw[jY,Γ h3,h6,Ξ V]
 |_,f,deep,r, @Wf.node k tx ops h1 h2 h3 h4 h5,hd,hf=>by
  rw[dep,Ξ V]at hd;rw[Bi,Ξ V]at hf ⊢;simp only[B5,F8,H0]at hf;obtain⟨a,rfl⟩:∃a,f=a+2:=⟨f-2,aa⟩;have:=Ca (r:=r) (f:=a) (deep:=deep+1) h5 aa aa;simp only[A9,D4,G9];rw[jY,Ξ V,KY,Γ aa,h4,Ξ V,this];rfl
theorem Ca:∀ {b:ρ Tr} {f deep:A8} {r:ρ Tk},WfL b->deep+Qe b<=20->2*G (wK b)+1<=f->oW f deep (wK b++(2,[41])::r)=E (b,r)
 |_,f,deep,r,.nil,_,hf=>by
  obtain⟨a,rfl⟩:∃a,f=a+1:=⟨f-1,aa⟩;rw[wK,G9,oW,Ξ V]
 |_,f,deep,r, @WfL.cons t ts h1 h2,hd,hf=>by
  rw[Qe]at hd;rw[wK,F8]at hf;obtain⟨_,_,c,e⟩:=Qh h1;obtain⟨a,rfl⟩:∃a,f=a+1:=⟨f-1,aa⟩;have:1<=G (Bi t):=by rw[c];simp
  have d:=EB (f:=a) (deep:=deep) (r:=wK ts++(2,[41])::r) h1 aa aa;have g:=Ca (f:=a) (deep:=deep) (r:=r) h2 aa aa;rw[wK,D4];rw[c,A9]at d;rw[c,A9,oW,Γ e,d];simp only;rw[g];rfl
end
def Wz(w:ξ)(l:Bs)(size:Y)(q:C2)(v:B2)(t:Y)(e:H7)(w':ξ):Prop:=C5 (H (A w)) w w'/\
 ((t=0/\e=μ (Θ #[Ω #[J U 0,J U 0,J U 0,Q Z,J U 0,J U 0,I ⟨#[]⟩,J U 0,I ⟨#[]⟩,η M,δ M 0 0],J U 3]))\/
  (t≠0/\e=μ (Θ #[Ω #[J U 4,J U t,J U size,Q (q&& !mO l),J U 0,J U 0,I ⟨#[]⟩,J U 0,I (ae l),η M,v],J U 0])))
theorem jy(a:C5 (H (A e.drew)) e.drew j):Bl e j:=⟨a.os,a.tape,a.output,a.size,a.block⟩
theorem Iz(a:C5 (H (A ((e.alloc s).alloc F))) ((e.alloc s).alloc F) j):j.heap[H (A e)]? =E s:=
 (a.block _ gL).trans ((Φ _ _ _ gL).trans (A3 e s))
theorem LX{b}(q:dU b=Ψ)(size g){cap}{d:ρ Ex}(p:Dk e m (δ u a cap) d)(S:G d<=1000):
  θ ο 326 #[Ω #[J U 0,J U 0,J U size,Q g,J U 0,J U 0,I ⟨#[]⟩,J U 0,I (ae b),η M,δ u a cap]] e λk l=>
   Wz e b size g (δ u a cap) (iB b (d.map Ex.ty)) k l:=by
 have F:∀c:ξ,Bl e c->θ ο 351 #[δ u a cap] c λk l=>∃f,k=μ f/\aY l f (d.map Ex.ty)/\Bl c l:=
  λc i=>IP (p.ah i) S
 have n:∀(c:ξ) (f:B2),aY c f (d.map Ex.ty)->θ ο 350 #[I (ae b),f] c (RB (J U (iB b (d.map Ex.ty))) c):=
  λc f i=>RY q i
 have o:∀c:ξ,θ ο 352 #[I (ae b)] c (RE (Q (!mO b)) c):=by
  intro c;have:=MW (ae b) c;rw[ay]at this;exact this
 obtain⟨i,r⟩:=au (iB b (d.map Ex.ty));obtain⟨_,s⟩:=au (d.map Ex.ty);rw[<-r]at n ⊢;rw[<-s]at F n;obtain⟨L,j⟩:=au (mO b);rw[<-j]at o;have N:D (mO b=L):=j.symm;clear r s j p q;go_enter func326,ntmps326;go_upto_region 2 with fail
 go_cut [] (λj=>Bl e j/\j.heap[H (A e)]? =E (A0 #[J U 4,J U i,J U size,Q g,J U 0,J U 0,I ⟨#[]⟩,J U 0,I (ae b),η M,δ u a cap] 210 (0,0))/\j.heap[H (A e)+1]? =E Mw)
 ·go_region_with(first
   |(go_at_call 351;refine(F _ ?_).mono ?_;exact(aV e _ _).drew;rintro k _ ⟨f,rfl,R,p⟩;replace p:=jy p;obtain⟨_,_,rfl⟩:=R.form;have O:=Iz p;obtain⟨b9,j,c0⟩:=qN p;obtain⟨⟨c1,c2,c4,c5,c6,c7,c8,c9,e0,e1,c3⟩,T,W,a0,a1,a2,a3,a4,a5,a6,a7,X⟩:=cZ O)
   |(go_at_call 350;refine cB (n _ _ R) ?_;rintro _ K;have P:=(K.block _ aa).trans O;obtain⟨⟨q,r,t,v,w,x,y,z,B,C,s⟩,a8,a9,b1,b2,b3,b4,b5,b6,b7,b8,b0⟩:=cZ P))
  all_goals(go_wp2;go_meet)
  all_goals exact⟨((bT j K).setCell (ε _) _),by simp[B3,B4,P],(σ _ _ _ _ ak).trans ((K.block _ aa).trans b9)⟩
 obtain⟨j,K,p⟩:=hcut;have c0:=af p;obtain⟨⟨c1,c2,c4,c5,c6,c7,c8,c9,e0,e1,c3⟩,T,W,a0,a1,a2,a3,a4,a5,a6,a7,X⟩:=cZ K;obtain⟨⟨q,r,t,v,w,x,y,z,B,C,s⟩,a8,a9,b1,b2,b3,b4,b5,b6,b7,b8,b0⟩:=cZ p;clear K p F n;by_cases n:i=0
 ·subst n
  cases g
  iterate 2
   ·go_wp2_with(go_at_call 352;refine bP (o _) ?_);refine ζ (v:=Θ #[Ω #[J U 0,J U 0,J U 0,Q Z,J U 0,J U 0,I ⟨#[]⟩,J U 0,I ⟨#[]⟩,η M,δ M 0 0],J U 3]) (by simp[Δ,H1,go_sem,q,r,t,v,w,x,y,z,B,C,s]) V ⟨?_,B7 ⟨V,V⟩⟩
    repeat(refine A4 ?_ ak _)
    exact j
 have F:(i==0)=Z:=by simpa using n
 cases g
 ·go_wp2_with(go_at_call 352;refine bP (o _) ?_);refine ζ (v:=Θ #[Ω #[J U 4,J U i,J U size,Q (Z),J U 0,J U 0,I ⟨#[]⟩,J U 0,I (ae b),η M,δ u a cap],J U 0]) (by simp[Δ,H1,go_sem,q,r,t,v,w,x,y,z,B,C,s]) V ⟨?_,C4 ⟨n,by rw[N.out];rfl⟩⟩
  repeat(refine A4 ?_ ak _)
  exact j
 go_wp2_with(go_at_call 352;refine bP (o _) ?_);refine ζ (v:=Θ #[Ω #[J U 4,J U i,J U size,Q (!L),J U 0,J U 0,I ⟨#[]⟩,J U 0,I (ae b),η M,δ u a cap],J U 0]) (by simp[Δ,H1,go_sem,q,r,t,v,w,x,y,z,B,C,s]) V ⟨?_,C4 ⟨n,by rw[N.out];rfl⟩⟩
 repeat(refine A4 ?_ ak _)
 exact j
def uI(fns:ρ Fn)(l:Bs)(size:Y)(q:C2)(es:ρ Ex):F1 Y Ex:=
 match dG fns l with
 |none=>.error 2
 |some i=>match fns[i]? with
  |none=>.error 2
  |some fn=>if es.map Ex.ty=fn.args then .ok (.mk 5 fn.body.ty (size+fn.body.size) (q&&fn.body.quiet) 0 0 [] 0 l (E i) es)else .error 3
def Sj(w:ξ)(FB:ρ A8)(fns:ρ Fn)(l:Bs)(size:Y)(q:C2)(v:B2)(ks:ρ Y)(e:H7)(w':ξ):Prop:=C5 (H (A w)) w w'/\
 ((dG fns l=M/\e=μ (Θ #[Ω #[J U 0,J U 0,J U 0,Q Z,J U 0,J U 0,I ⟨#[]⟩,J U 0,I ⟨#[]⟩,η M,δ M 0 0],J U 2]))\/
  (∃(i qb:A8) (fn:Fn),dG fns l=E i/\fns[i]? =E fn/\FB[i]? =E qb/\
   ((ks≠fn.args/\e=μ (Θ #[Ω #[J U 0,J U 0,J U 0,Q Z,J U 0,J U 0,I ⟨#[]⟩,J U 0,I ⟨#[]⟩,η M,δ M 0 0],J U 3]))\/
   (ks=fn.args/\e=μ (Θ #[Ω #[J U 5,J U fn.body.ty,J U (size+fn.body.size),Q (q&&fn.body.quiet),J U 0,J U 0,I ⟨#[]⟩,J U 0,I (ae l),η (E ⟨qb,0,M⟩),v],J U 0])))))
theorem XD{fns c}(b:dG fns c=E a):a<G fns:=by
 unfold dG at b;obtain⟨b,_⟩:=List.findIdx?_eq_some_iff_getElem.mp b;exact b
theorem uP.cells{w b}{a:Fn}(f:uP w m b a):∃c cap,aY w (δ c (G a.args) cap) a.args/\β w (γ b 1 M)=E (δ c (G a.args) cap)/\
  β w (γ b 3 M)=E (J U a.body.ty)/\β w (γ b 4 M)=E (J U a.body.size)/\β w (γ b 5 M)=E (Q a.body.quiet):=by
 obtain⟨_,_,d,g,i,j⟩:=f;have e:=qJ g i;obtain⟨c,cap,rfl⟩:=e.form;obtain⟨sort,_,size,quiet,_,_,_,place,head,_,_,_,_,_,_,_,k,rfl,_⟩:=j.inv;refine⟨c,cap,e,aC d, ?_, ?_, ?_⟩
 iterate 3
  ·rw[k];exact aC d
theorem jF{w w2:ξ}{o o' o2}(a:C5 (H (A (((w.alloc o).alloc o').alloc o2))) (((w.alloc o).alloc o').alloc o2) w2):
  w2.heap[H (A w)]? =E o/\w2.heap[H (A w)+1]? =E o'/\w2.heap[H (A w)+2]? =E o2/\Bl w w2/\H (A w)+3<=H (A w2):=by
 have d:=a.size;have b:=A3 (w.alloc o) o';have c:=A3 ((w.alloc o).alloc o') o2;simp only[D8]at b c d;refine⟨?_, ?_, ?_, ?_,aa⟩
 ·exact(a.block _ gL).trans ((Φ _ _ _ gL).trans ((Φ _ _ _ gL).trans (A3 w o)))
 ·exact(a.block _ gL).trans ((Φ _ _ _ gL).trans b)
 ·exact(a.block _ gL).trans c
 exact((aV w o o').alloc gL _).trans (a.mono gL)
theorem Xh(h9 h8 h7 h5 i4 i3 i2)(i1:h5=δ i4 i3 i2){fns}(hF:kF e m (δ a2 y n) fns)(h4:∀b∈fns,0<=b.body.size/\b.body.size<=300)(d){size}(j0:0<=size)(j1:size<=1000000)(q){cap}{b9:ρ Ex}(c6:Dk e m (δ u a cap) b9)(i0:G b9<=1000):
  θ ο 327 #[Ω #[δ h9 h8 h7,h5,δ a2 y n],Ω #[J U 0,J U 0,J U size,Q q,J U 0,J U 0,I ⟨#[]⟩,J U 0,I (ae d),η M,δ u a cap]] e λg i=>
   Sj e m fns d size q (δ u a cap) (b9.map Ex.ty) g i:=by
 subst i1;have c7:∀k:ξ,Bl e k->θ ο 351 #[δ u a cap] k λg i=>∃e5,g=μ e5/\aY i e5 (b9.map Ex.ty)/\Bl k i:=
  λk c=>IP (c6.ah c) i0
 have f:∀k:ξ,Bl e k->θ ο 121 #[δ a2 y n,I (ae d)] k λg i=>(∃c8,g=μ (η c8)/\IW m (dG fns d) c8)/\Bl k i:=
  λk c=>MC d (hF.ah c)
 obtain⟨r,c⟩:=au (b9.map Ex.ty);rw[<-c]at c7 ⊢;clear c c6;go_enter func327,ntmps327;go_wp2_with(go_at_call 121;refine(f _ ?c1).mono ?_)
 case c1=>exact(aV e _ _).alloc gL _
 rintro g c0 ⟨⟨c8,rfl,c2⟩,c⟩;obtain⟨h6,c9,e0,c3,_⟩:=jF c;clear c f
 cases s:dG fns d with
 |none=>
  rw[s]at c2;have c:c8=M:=c2;subst c;have f:D (dG fns d=M):=s;obtain⟨⟨t,v,w,x,z,B,C,F,K,L,N⟩,e6,e7,e8,e9,g0,g1,g2,g3,g4,g5,g6⟩:=cZ e0;clear s c2 h6 c9 e0 c7 hF;go_wp2_with fail;refine ζ (v:=Θ #[Ω #[J U 0,J U 0,J U 0,Q Z,J U 0,J U 0,I ⟨#[]⟩,J U 0,I ⟨#[]⟩,η M,δ M 0 0],J U 2]) (by simp[Δ,E4,go_sem,t,v,w,x,z,B,C,F,K,L,N]) V ⟨?_,B7 ⟨f,V⟩⟩
  repeat(refine A4 ?_ CE _)
  exact c3
 |some g8=>
  rw[s]at c2;obtain⟨c,j,i5⟩:=c2;subst i5;have o:=XD s;obtain⟨b,f⟩:∃b,fns[g8]? =E b:=⟨_,τ o⟩;have l:uP e m c b:=hF.choose_spec.choose_spec.2.2.2.2 g8 c b j f;have:c<H (A e):=by obtain⟨_,_,i6,_⟩:=l;exact af i6
  have p:=l.ah c3;obtain⟨_,_,c5,g9,h0,h1,h2⟩:=p.cells;obtain⟨i7,i8⟩:=h4 b (I9 f);have O:∀(g:H7) (i:ξ),Bl e i->((r≠b.args/\g=μ (Θ #[Ω #[J U 0,J U 0,J U 0,Q Z,J U 0,J U 0,I ⟨#[]⟩,J U 0,I ⟨#[]⟩,η M,δ M 0 0],J U 3]))\/
    (r=b.args/\g=μ (Θ #[Ω #[J U 5,J U b.body.ty,J U (size+b.body.size),Q (q&&b.body.quiet),J U 0,J U 0,I ⟨#[]⟩,J U 0,I (ae d),η (E (γ c 0 M)),δ u a cap],J U 0])))->D (Sj e m fns d size q (δ u a cap) r g i):=
   λg i P c6=>⟨P,C4 ⟨g8,c,b,s,f,j,c6⟩⟩
  obtain⟨e1,b7⟩:=au b.body.ty;obtain⟨c4,b8⟩:=au b.body.size;obtain⟨h3,e3⟩:=au b.body.quiet;obtain⟨e2,e4⟩:=au b.args;rw[<-b7]at h0 O;rw[<-b8]at h1 O i7 i8;rw[<-e3]at h2 O;rw[<-e4]at c5 g9 O;obtain⟨⟨P,R,S,T,W,X,a0,a1,a3,a4,a5⟩,a6,a7,a8,a9,b0,b1,b2,b3,b4,b5,b6⟩:=cZ c9;clear s p l hF h4 f j b7 b8 e3 e4 h6 o;go_upto_region 4 with fail
  go_cut [23] (λj f=>j=Q (!decide (r=e2))/\Bl c0 f)
  ·go_region_with(first
    |(go_at_call 351;refine(c7 _ ?_).mono ?_;exact c3.drew;rintro g _ ⟨e5,rfl,l,j⟩;replace j:=jy j;obtain⟨_,_,rfl⟩:=l.form;have:=cK j (by show c<H (A c0);omega) g9)
    |(go_at_call 353;refine cB (jT l (c5.ah j)) ?_;rintro _ o))
   all_goals(go_wp2;go_meet)
   all_goals exact⟨V,bT j o⟩
  obtain⟨rfl,p⟩:=hcut;have e3:=p.size;have l:Bl e wc:=bT c3 p;clear P R S T W X a0 a1 a3 a4 a5 a6 a7 a8 a9 b0 b1 b2 b3 b4 b5 b6;have o:=(p.block _ aa).trans c9;have j:=(p.block _ aa).trans e0;obtain⟨⟨P,R,S,T,W,X,a0,a1,a3,a4,a5⟩,a6,a7,a8,a9,b0,b1,b2,b3,b4,b5,b6⟩:=cZ o;obtain⟨⟨t,v,w,x,z,B,C,F,K,L,N⟩,e6,e7,e8,e9,g0,g1,g2,g3,g4,g5,g6⟩:=cZ j;have i9:=cK p (by show c<H (A c0);omega) h0;have b7:=cK p (by show c<H (A c0);omega) h1;have b8:=cK p (by show c<H (A c0);omega) h2;have e4:c≠H (A e)+1:=aa;clear g9 h0 h1 h2 c5 c9 e0 c7 p c3;by_cases p:r=e2
  ·have c5:decide (r=e2)=Ψ:=by simpa using p
   rw[c5];clear c5;go_upto_region 8 with fail
   go_cut [] (λf=>Bl e f/\f.heap[H (A e)+1]? =E (A0 #[J U 5,J U e1,J U size,Q q,J U 0,J U 0,I ⟨#[]⟩,J U 0,I (ae d),η (E (γ c 0 M)),δ u a cap] 210 (0,0))/\f.heap[H (A e)+2]? =E Mw/\β f (γ c 4 M)=E (J U c4)/\β f (γ c 5 M)=E (Q h3))
   ·go_wp2
    go_meet;refine⟨?_, ?_, ?_, ?_, ?_⟩
    ·iterate 3 (refine A4 ?_ ak _)
     exact l
    ·simp[B3,B4,o]
    ·rw[σ _ _ _ _ ak,σ _ _ _ _ ak,σ _ _ _ _ ak];exact j
    ·simpa[B6,e4]using b7
    simpa[B6,e4]using b8
   clear P R S T W X a0 a1 a3 a4 a5 a6 a7 a8 a9 b0 b1 b2 b3 b4 b5 b6 t v w x z B C F K L N e6 e7 e8 e9 g0 g1 g2 g3 g4 g5 g6 i9 b7 b8 l e3 o j;obtain⟨l,o,j,b7,b8⟩:=hcut;have e3:=af j;obtain⟨⟨P,R,S,T,W,X,a0,a1,a3,a4,a5⟩,a6,a7,a8,a9,b0,b1,b2,b3,b4,b5,b6⟩:=cZ o;go_upto_region 9 with fail
   go_cut [] (λf=>Bl e f/\f.heap[H (A e)+1]? =E (A0 #[J U 5,J U e1,J U (size+c4),Q q,J U 0,J U 0,I ⟨#[]⟩,J U 0,I (ae d),η (E (γ c 0 M)),δ u a cap] 210 (0,0))/\f.heap[H (A e)+2]? =E Mw/\β f (γ c 4 M)=E (J U c4)/\β f (γ c 5 M)=E (Q h3))
   ·go_region
    go_wp2
    go_meet;refine⟨(l.setCell ak _).drew, ?_,(σ _ _ _ _ ak).trans j, ?_, ?_⟩
    ·simp[B3,World.drew,B4,o]
    ·simpa[B6,e4]using b7
    simpa[B6,e4]using b8
   clear P R S T W X a0 a1 a3 a4 a5 a6 a7 a8 a9 b0 b1 b2 b3 b4 b5 b6 b7 b8 l e3 o j;obtain⟨l,o,j,b7,b8⟩:=hcut;have e3:=af j;obtain⟨⟨P,R,S,T,W,X,a0,a1,a3,a4,a5⟩,a6,a7,a8,a9,b0,b1,b2,b3,b4,b5,b6⟩:=cZ o;obtain⟨⟨t,v,w,x,z,B,C,F,K,L,N⟩,e6,e7,e8,e9,g0,g1,g2,g3,g4,g5,g6⟩:=cZ j
   cases q
   ·go_wp2_with fail;refine ζ (v:=Θ #[Ω #[J U 5,J U e1,J U (size+c4),Q Z,J U 0,J U 0,I ⟨#[]⟩,J U 0,I (ae d),η (E (γ c 0 M)),δ u a cap],J U 0]) (by simp[Δ,E4,go_sem,t,v,w,x,z,B,C,F,K,L,N]) V ((O _ _ ?_ (C4 ⟨p,ak⟩)).out)
    iterate 12 (refine A4 ?_ CE _)
    exact l
   go_wp2_with fail;refine ζ (v:=Θ #[Ω #[J U 5,J U e1,J U (size+c4),Q h3,J U 0,J U 0,I ⟨#[]⟩,J U 0,I (ae d),η (E (γ c 0 M)),δ u a cap],J U 0]) (by simp[Δ,E4,go_sem,t,v,w,x,z,B,C,F,K,L,N]) V ((O _ _ ?_ (C4 ⟨p,ak⟩)).out)
   iterate 12 (refine A4 ?_ CE _)
   exact l
  have c5:decide (r=e2)=Z:=by simpa using p
  rw[c5];clear c5;go_wp2_with fail;refine ζ (v:=Θ #[Ω #[J U 0,J U 0,J U 0,Q Z,J U 0,J U 0,I ⟨#[]⟩,J U 0,I ⟨#[]⟩,η M,δ M 0 0],J U 3]) (by simp[Δ,E4,go_sem,t,v,w,x,z,B,C,F,K,L,N]) V ((O _ _ ?_ (B7 ⟨p,V⟩)).out)
  repeat(refine A4 ?_ CE _)
  exact l
def bQ:ρ Ex->Y
 | []=>0
 |e::es=>e.size+bQ es
def uh(fns:ρ Fn)(l:Bs)(es:ρ Ex):F1 Y Ex:=
 if dU l then(if iB l (es.map Ex.ty)=0 then .error 3 else .ok (.mk 4 (iB l (es.map Ex.ty)) (1+bQ es) (es.all Ex.quiet&& !mO l) 0 0 [] 0 l M es))
 else uI fns l (1+bQ es) (es.all Ex.quiet) es
def EA(ps:ρ Y)(l:Bs):F1 Y Ex:=
 match ps[(l.getD 1 0).toNat-49]? with
 |none=>.error 2
 |some t=>.ok (YQ t ((l.getD 1 0).toNat-49:A8))
abbrev Sc:=ρ (Bs×Y)×ρ Y
def Mg(t:Y)(p:A8):Ex:=.mk 2 t 1 Ψ 0 0 [] p [] M []
def nK(aB:ρ (Bs×Y))(l:Bs):B1 A8:=aB.findIdx? (λc=>c.1==l)
def zb(aB:ρ (Bs×Y))(l:Bs):F1 Y Ex:=match nK aB l with
 |none=>.error 2
 |some i=>match aB[i]? with
  |none=>.error 2
  |some c=>.ok (Mg c.2 i)
def Jd(fns:ρ Fn)(l:Bs)(o:F1 Y (ρ Ex)):F1 Y Ex:=match o with
 | .error e=>.error e
 | .ok es=>uh fns l es
mutual
def bO(atoi:Bs->Y)(ps:Sc)(fns:ρ Fn):Tr->F1 Y Ex
 | .mk k tx br ops=>if br then Jd fns tx (dN atoi ps fns ops)else if k=6 then zb ps.1 tx else if k=7 then EA ps.2 tx else .ok (fe atoi k tx)
def dN(atoi:Bs->Y)(ps:Sc)(fns:ρ Fn):ρ Tr->F1 Y (ρ Ex)
 | []=>.ok []
 |t::ts=>match bO atoi ps fns t with
  | .error e=>.error e
  | .ok x=>match dN atoi ps fns ts with
   | .error e=>.error e
   | .ok xs=>.ok (x::xs)
end
def thenS(es:ρ Ex)(o:F1 Y (ρ Ex)):F1 Y (ρ Ex):=match o with
 | .error e=>.error e
 | .ok xs=>.ok (es++xs)
theorem ZP{a:Bs->Y}{b fns}(d){e c f}(g:bO a b fns e=.ok f):thenS d (dN a b fns (e::c))=thenS (d++ [f]) (dN a b fns c):=by
 rw[dN,g]
 cases dN a b fns c<;>simp[thenS]
theorem Wd{a:Bs->Y}{b fns}(d){c f}(e:bO a b fns c=.error i):thenS d (dN a b fns (c::f))=.error i:=by
 rw[dN,e];rfl
theorem Fe(a b):bQ (a++b)=bQ a+bQ b:=by
 induction a with
 |nil=>simp[bQ]
 |cons c d ih=>simp[bQ,ih];omega
theorem ada:(ο.info? 210).map (λa=>(a.zero,a.size,a.bytes))=E (E (Ω #[J U 0,J U 0,J U 0,Q Z,J U 0,J U 0,I ⟨#[]⟩,J U 0,I ⟨#[]⟩,η M,δ M 0 0]),11,120):=aF
theorem Xz{wr:ξ}{i p}(z:a<H (A wr))(u:wr.ownsRow (a+1) 210 11 f (G i) l)(w:cO wr m (λb=>a<b/\f.ownBlock≠E b) l i)(o:Bl wr e)(v:dF e m (λb=>H (A wr)<=b) C p)(k:H (A e)<=H (A x)/\∀b,b<H (A e)->x.heap[b]? =e.heap[b]?)(t:x.grownBy j f.ownBlock)(n:q.ownBlock=f.ownBlock\/q.ownBlock=E (H (A x))):
  cO j m (λb=>a<b/\q.ownBlock≠E b) (l++C) (i++ [p])/\(∀b,b<H (A wr)->f.ownBlock≠E b->j.heap[b]? =wr.heap[b]?):=by
 have:=o.size;have ah:∀b,b<H (A e)->f.ownBlock≠E b->j.heap[b]? =e.heap[b]? :=by
  intro b c g;rw[t.block b aa (λd=>g d.symm),k.2 b c]
 have r:∀b,b<H (A wr)->f.ownBlock≠E b->j.heap[b]? =wr.heap[b]? :=by
  intro b c g;rw[ah b aa g,o.block b c]
 have s:∀b,f.ownBlock=E b->b<H (A wr):=λb c=>(u.lt b c).2;have:=k.1;refine⟨cO.snoc ?_ ?_,r⟩
 ·refine w.bounded.move (λb c=>r b c.2 c.1.2) (λb c=>⟨c.1.1, ?_⟩);rcases n with d|d
  ·rw[d];exact c.1.2
  rw[d];intro g;have y:=D3 g;have:=c.2;omega
 refine v.bounded.move (λb c=>ah b c.2 (λd=>by have:=s b d;have:=c.1;omega)) (λb c=>⟨by have:=c.1;omega, ?_⟩);rcases n with d|d
 ·rw[d];intro g;have:=s b g;have:=c.1;omega
 rw[d];intro g;have y:=D3 g;have:=c.2;omega
mutual
inductive Fit(P:Int->Bs->Prop):Tr->Prop
 |mk {k:Int} {tx:Bs} {br:Bool} {ops:List Tr} :(br=false->P k tx)->Fits P ops->Fit P (.mk k tx br ops)
inductive Fits(P:Int->Bs->Prop):List Tr->Prop
 |nil:Fits P []
 |cons {t:Tr} {ts:List Tr} :Fit P t->Fits P ts->Fits P (t::ts)
end
theorem Fits.get{c:Y->Bs->Prop}{b}(e:Fits c b)(a)(d:a<G b):Fit c b[a]:=by
 induction b generalizing a with
 |nil=>simp at d
 |cons i b ih=>
  cases e with
  |cons f g=>
   cases a with
   |zero=>exact f
   |succ a=>simpa using ih g a (by simpa using d)
def gN(w:ξ)(v:B2)(ns:ρ (Bs×Y)):Prop:=∃ao cap,v=δ ao (G ns) cap/\G ns<=1000/\(ns= []\/∃b,ao=E ⟨b,0,M⟩/\b<H (A w)/\∀(i:A8) (n:Bs×Y),ns[i]? =E n->β w ⟨b,i*2,M⟩=E (I (ae n.1))/\β w ⟨b,i*2+1,M⟩=E (J U n.2))
theorem gN.ah{w x v d}(b:gN w v d)(c:Bl w x):gN x v d:=by
 obtain⟨f,cap,g,j,k⟩:=b;refine⟨f,cap,g,j, ?_⟩;rcases k with b|⟨l,m,e,n⟩
 ·exact B7 b
 refine C4 ⟨l,m,cz c.size,λi p o=>?_⟩;obtain⟨a,q⟩:=n i p o;exact⟨cK c e a,cK c e q⟩
theorem ND{cap}:gN e (δ M 0 cap) []:=⟨M,cap,V,ak,B7 V⟩
structure Du(w:World)(FB:List Nat)(nv pv fv:Value)(ps:Sc)(fns:List Fn):Prop where
 ns:gN w nv ps.1
 ps:aY w pv ps.2
 fns:kF w FB fv fns
theorem Du.ah{w x c fns}(a:Du w m q B f c fns)(b:Bl w x):Du x m q B f c fns:=⟨a.ns.ah b,a.ps.ah b,a.fns.ah b⟩
mutual
def zF:Tr->A8
 | .mk _ _ _ ops=>1+iY ops
def iY:ρ Tr->A8
 | []=>0
 |t::ts=>zF t+iY ts
end
theorem uq(a b):iY (a++b)=iY a+iY b:=by
 induction a with
 |nil=>simp[iY]
 |cons c d ih=>simp[iY,ih];omega
theorem QJ{b:ρ Tr}(c:a<G b):iY (b.take (a+1))=iY (b.take a)+zF b[a]/\iY (b.take (a+1))<=iY b:=by
 have d:b.take (a+1)=b.take a++ [b[a]]:=G0 c;have e:=congrArg iY (List.take_append_drop (a+1) b);rw[uq]at e;refine⟨by rw[d,uq];simp[iY],aa⟩
theorem Kz(a:Bs->Y)(b c):(fe a b c).size=1:=by
 unfold fe;split
 ·rfl
 split
 ·rfl
 split<;>rfl
theorem Un{fns}(e:∀c∈fns,0<=c.body.size/\c.body.size<=300){g b}{d:Ex}(a:uh fns g b=.ok d)(i:0<=bQ b):0<=d.size/\d.size<=301+bQ b:=by
 unfold uh at a;split at a
 ·split at a
  ·cases a
  cases a;simp only[Ex.size];omega
 unfold uI at a;split at a
 ·cases a
 split at a
 ·cases a
 next c f=>
 split at a
 ·cases a;have:=e c (I9 f);show 0<=1+bQ b+c.body.size/\1+bQ b+c.body.size<=301+bQ b;omega
 cases a
theorem Bn{j:Bs->Y}{o fns}(r:∀k∈fns,0<=k.body.size/\k.body.size<=300)(i):∀(b:Tr),SizeOf.sizeOf b<=i->∀f,bO j o fns b=.ok f->0<=f.size/\f.size<=301*zF b:=by
 induction i with
 |zero=>intro b g;obtain⟨w,x,p,n⟩:=b;simp at g
 |succ i ih=>
  have u:∀(e:ρ Tr),(∀b∈e,SizeOf.sizeOf b<=i)->∀d,dN j o fns e=.ok d->0<=bQ d/\bQ d<=301*iY e:=by
   intro e
   induction e with
   |nil=>intro _ d c;rw[dN]at c;cases c;simp[bQ,iY]
   |cons b e v=>
    intro m d c;rw[dN]at c;split at c
    ·cases c
    next f a=>
    split at c
    ·cases c
    next y t=>
    cases c;have l:=ih b (m b ak) f a;have z:=v (λb g=>m b (by simp[g])) y t;simp only[bQ,iY];omega
  intro b g f a;obtain⟨w,x,p,n⟩:=b;simp only[Tr.mk.sizeOf_spec]at g;rw[bO]at a;simp only[zF];split at a
  ·unfold Jd at a;split at a
   ·cases a
   next d q=>
   have l:=u n (λb s=>cz (List.sizeOf_lt_of_mem s)) d q;have:=Un r a l.1;omega
  split at a
  ·unfold zb at a;split at a
   ·cases a
   split at a
   ·cases a
   cases a;simp only[Mg,Ex.size];omega
  split at a
  ·unfold EA at a;split at a
   ·cases a
   cases a;simp only[YQ,Ex.size];omega
  cases a;rw[Kz];omega
def Ld(atoi:Bs->Y)(P:Y->Bs->Prop)(N:A8):Prop:=∀(t:Tr) (w:ξ) (FB:ρ A8) (ps:Sc) (fns:ρ Fn) (qo:B1 M1) (qn qc:A8) (po:B1 M1) (pn pc:A8) (fo:B1 M1) (fnn fc:A8) (c:M4 B2),SizeOf.sizeOf t<=N->zF t<=1000->Fit P t->oI w (λ_=>True) c.toList t->
 Du w FB (δ qo qn qc) (δ po pn pc) (δ fo fnn fc) ps fns->(∀fn∈fns,0<=fn.body.size/\fn.body.size<=300)->
 θ ο 241 #[Ω #[δ qo qn qc,δ po pn pc,δ fo fnn fc],Ω c] w λe w'=>xB w FB (bO atoi ps fns t) e w'
theorem rX(a b):ae a++ae b=ae (a++b):=by
 apply φ.ext;rw[M3];simp[ae]
theorem WV(b:ρ C8)(a):(F2 b.toArray)++ae a=ae (b++a):=rX b a
def lW(n:Y):C2:=decide (-1000000000<=n)&&decide (n<=1000000000)
theorem MM(a d):θ ο 247 #[J U a] d (RE (Q (lW a)) d):=by
 by_cases e: -1000000000<=a
 ·have b:decide (-1000000000<=a)=Ψ:=by simpa using e
  have c:D (lW a=decide (a<=1000000000)):=by rw[D,lW,b,K6]
  go_enter L3,K2
  go_wp2
  go_ret;exact⟨by rw[c.out];rfl,V⟩
 have b:decide (-1000000000<=a)=Z:=by simpa using e
 have c:D (lW a=Z):=by rw[D,lW,b,Bool.false_and]
 go_enter L3,K2
 go_wp2
 go_ret;exact⟨by rw[c.out];rfl,V⟩
def eZ(k n:Y)(l:Bs):C2:=
 if k=0 then(n==0)&&l.isEmpty else if k=1 then lW n&&l.isEmpty else if k=2 then(n==0)&&decide (G l<=30)else if k=3 then((n==0)||(n==1))&&l.isEmpty else Z
theorem Qt(c a)(d:φ)(i):θ ο 194 #[Ω #[J U c,J U a,I d]] i (RB (Q (eZ c a d.toList)) i):=by
 have e:=ai i (A0 #[J U c,J U a,I d] 56);by_cases j:c=0
 ·subst j;have b:D (eZ 0 a d.toList=((a==0)&&d.toList.isEmpty)):=by rw[D,eZ,Ξ V]
  cases f:(a==0)<;>rw[f]at b<;>
  ·go_enter E0,D5
   go_wp2
   go_ret;exact⟨by rw[b.out];rfl,e⟩
 by_cases k:c=1
 ·subst k;have b:D (eZ 1 a d.toList=(lW a&&d.toList.isEmpty)):=by rw[D,eZ,Γ aa,Ξ V]
  have l:∀g:ξ,θ ο 247 #[J U a] g (RE (Q (lW a)) g):=λg=>MM a g;obtain⟨n,m⟩:=au (lW a);rw[<-m]at b l;clear m
  cases n<;>
  ·go_enter E0,D5;go_wp2_with(go_at_call 247;refine bP (l _) ?_);go_ret;exact⟨by rw[b.out];rfl,e⟩
 by_cases g:c=2
 ·subst g;have b:D (eZ 2 a d.toList=((a==0)&&decide ((d.size:Y)<=30))):=by
   rw[D,eZ,Γ aa,Γ aa,Ξ V,aj];congr 1;simp;omega
  cases f:(a==0)<;>rw[f]at b<;>
  ·go_enter E0,D5
   go_wp2
   go_ret;exact⟨by rw[b.out];rfl,e⟩
 by_cases l:c=3
 ·subst l;have b:D (eZ 3 a d.toList=(((a==0)||(a==1))&&d.toList.isEmpty)):=by rw[D,eZ,Γ aa,Γ aa,Γ aa,Ξ V]
  cases f:(a==0)<;>cases m:(a==1)<;>rw[f,m]at b<;>
  ·go_enter E0,D5
   go_wp2
   go_ret;exact⟨by rw[b.out];rfl,e⟩
 have b:D (eZ c a d.toList=Z):=by rw[D,eZ,Γ j,Γ k,Γ g,Γ l]
 have:(c==0)=Z:=by simpa using j
 have:(c==1)=Z:=by simpa using k
 have:(c==2)=Z:=by simpa using g
 have:(c==3)=Z:=by simpa using l
 go_enter E0,D5
 go_wp2
 go_ret;exact⟨by rw[b.out];rfl,e⟩
abbrev gq:=Y×Y×Bs
def dZ(c:gq)(t:Y):C2:=eZ c.1 c.2.1 c.2.2&&((c.1==0)||(c.1==t))
theorem XF(a c b g d):θ ο 124 #[Ω #[J U a,J U c,I (ae b)],J U g] d (RB (Q (dZ (a,c,b) g)) d):=by
 have k:=ai d (A0 #[J U a,J U c,I (ae b)] 56);have l:∀i:ξ,θ ο 194 #[Ω #[J U a,J U c,I (ae b)]] i (RB (Q (eZ a c b)) i):=by
  intro i;have:=Qt a c (ae b) i;rw[ay]at this;exact this
 have j:D (dZ (a,c,b) g=(eZ a c b&&((a==0)||(a==g)))):=V;obtain⟨p,e⟩:=au (eZ a c b);rw[<-e]at l j;clear e;have m:∀e:ξ,C5 (H (A (d.alloc (A0 #[J U a,J U c,I (ae b)] 56)))) (d.alloc (A0 #[J U a,J U c,I (ae b)] 56)) e->β e (γ (H (A d)) 0 M)=E (J U a)/\β e (γ (H (A d)) 1 M)=E (J U c)/\β e (γ (H (A d)) 2 M)=E (I (ae b)):=by
  intro e n;have f:=(n.block (H (A d)) ek).trans (A3 d _);exact⟨aC f,aC f,aC f⟩
 cases p
 ·go_enter L5,K4;go_wp2_with(go_at_call 194;refine cB (l _) ?_;rintro e f);go_ret;exact⟨by rw[j.out];rfl,bT k f⟩
 cases n:(a==0)
 iterate 2
  ·rw[n]at j;go_enter L5,K4;go_wp2_with(first
    |(go_at_call 194;refine cB (l _) ?_;rintro e f;obtain⟨_,_,_⟩:=m e f)
    |(go_at_call 195;refine(FQ).mono ?_;rw[n];rintro _ q ⟨rfl,o⟩;obtain⟨_,_,_⟩:=m q (bT f o)))
   go_ret;exact⟨by rw[j.out];rfl,(bT k f).trans (o.mono (C3 k.size f.size))⟩
def oD(w:ξ)(v:B2)(cs:ρ gq):Prop:=∃ao cap,v=δ ao (G cs) cap/\G cs<=A2/\(cs= []\/∃b off,ao=E ⟨b,off,M⟩/\b<H (A w)/\∀(i:A8) (c:gq),cs[i]? =E c->
 β w ⟨b,off+i*3,M⟩=E (J U c.1)/\β w ⟨b,off+i*3+1,M⟩=E (J U c.2.1)/\β w ⟨b,off+i*3+2,M⟩=E (I (ae c.2.2)))
theorem oD.ah{w x v e}(c:oD w v e)(b:Bl w x):oD x v e:=by
 obtain⟨f,cap,g,j,k⟩:=c;refine⟨f,cap,g,j, ?_⟩;rcases k with c|⟨l,m,n,d,o⟩
 ·exact B7 c
 refine C4 ⟨l,m,n,cz b.size,λi p q=>?_⟩;obtain⟨a,r,s⟩:=o i p q;exact⟨cK b d a,cK b d r,cK b d s⟩
theorem Ud(k cap a)(q:G a<=100)(g:∀l j,a[l]? =E j->β e (γ k l M)=E (J U j)):
  θ ο 229 #[δ (E (γ k 0 M)) (G a) cap] e (RE (J U (aT a)) e):=by
 go_enter func229,ntmps229;go_wp2_with fail;go_loopw [8] (λc d=>∃b:A8,b<=G a/\c=J U b/\d=e/\D (aT a=aT (a.drop b))) (λc _=>G a-(C1 c).toNat)
 ·exact⟨0,B0 _,V,V,V⟩
 obtain⟨b,_,rfl,rfl,c⟩:=hrel;by_cases m:b<G a
 ·have n:=g b a[b] (τ m);have i:a.drop b=a[b]::a.drop (b+1):=ψ m;by_cases f:a[b]=0
  ·have d:D (aT a=aT (a.drop (b+1))):=by rw[D,c.out,i,aT,Ξ f]
   rw[f]at n;clear c g i
   go_wp2
   go_roundw
   ·exact⟨b+1,aa,aP,by trivial,d⟩
   simp[C1];omega
  have d:D (aT a=a[b]):=by rw[D,c.out,i,aT,Γ f]
  have p:(a[b]==0)=Z:=by simpa using f
  obtain⟨j,o⟩:=au (a[b]);rw[<-o]at n d p f;clear c g i o
  go_wp2
  go_ret;exact⟨by rw[d.out];rfl,V⟩
 have d:D (aT a=0):=by rw[D,c.out,χ aa];rfl
 clear c g
 go_wp2
 go_ret;exact⟨by rw[d.out];rfl,V⟩
theorem tX{b}(c:e.heap[a]? =E (A0 #[f,q,B] b (0,0))):
  (β e (γ a 0 M)=E f/\β e (γ a 1 M)=E q/\β e (γ a 2 M)=E B)/\(κ e (γ a 0 M)=Z/\κ e (γ a 1 M)=Z/\κ e (γ a 2 M)=Z):=by
 simp[β,κ,c]
end Go.Proofs.YthkeffolmbnkaaaGreatDoor
