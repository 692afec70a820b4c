import Derived.Test.YthkeffolmbnkaaaGreatDoorQrFZ
import Derived.Test.YthkeffolmbnkaaaGreatDoorLqKZ
import Derived.Test.YthkeffolmbnkaaaGreatDoorRows
import Derived.Deep.Slices
import Derived.ProofKit
import Derived.OpenShut
import Derived.ShutString
set_option linter.unusedVariables false
set_option linter.unusedSimpArgs false
set_option maxRecDepth 100000
set_option maxHeartbeats 0
open Array renaming size->γ
open Go renaming maxLen->σ,Value->Δ,World->A0,DataW->B3,Addr->B4,MemPlace->C0,Calls->C1
open Go.Addr renaming mk->φ,add_lit->A3
open Go.DataW renaming trod->κ,trod_string->ξ,trod_struct->χ,trod_int->A1
open Go.IntKind renaming i64->G
open Go.Obj renaming cells->τ
open Go.Proofs.Tryz renaming prog->Q,underlying9->ρ,underlying3->Ψ,ntmps23->B6,func23->B7
open Go.Proofs.YthkeffolmbnkaaaGreatDoor renaming aa->A
open Go.Proofs.YthkeffolmbnkaaaGreatDoor.Rows renaming uptoBulk->δ,uptoBulkAll->ω
open Go.Value renaming string->M,slice->D,int->I
open Go.World renaming heap->β,cell?->θ
open Int renaming emod_nonneg->A7,toNat_of_nonneg->B1
open List renaming length->V,mem_of_getElem?->ε,getElem?_eq_getElem->ζ,getElem?_eq_some_iff->η,length_map->ι,eq_nil_of_length_eq_zero->μ,getElem?_map->ο,getElem?_cons_succ->υ,mem_cons->Γ,mem_map->Θ,not_mem_nil->Φ,mem_flatMap->A4,length_cons->A5,range->B9
open List.cons renaming injEq->ψ
open Nat renaming zero_add->Ω,le_refl->B0,add_assoc->B5,zero_le->B8
open Option renaming some->U,none->E,map_eq_some_iff->ν
open Or renaming inr->Ξ,inl->A2
open _root_ renaming rfl->J,List->Z,Nat->Y,Option->A6,Int->A8,and_true->A9,or_false->B2
namespace Go.Proofs.YthkeffolmbnkaaaGreatDoor
open Go.Proofs.Tryz
open Go.RowKit
open Go.ChangeShapes Go.WideShapes Go.ChangeAt Go.RowKit
variable{b:Int}{f:List (Int×List Int)}{c:List gB}{e:List gq}{a j:List iP}{g:List qB}{d:Option Addr}{i:PQ}
def rH(w:A0)(v:Δ)(ss:Z (A8×Z A8)):Prop:=∃ao cap,v=D ao (V ss) cap/\V ss<=1000/\(ss= []\/∃b,ao=U ⟨b,0,E⟩/\b<γ (β w)/\∀(i:Y) (s:A8×Z A8),ss[i]? =U s->∃po pn pc,θ w ⟨b,i*2,E⟩=U (I G s.1)/\θ w ⟨b,i*2+1,E⟩=U (D po pn pc)/\aY w (D po pn pc) s.2)
theorem rH.ah{w x v}(c:rH w v f)(a:Bl w x):rH x v f:=by
 obtain⟨d,cap,e,g,j⟩:=c;refine⟨d,cap,e,g,j.imp id ?_⟩;rintro⟨k,l,b,m⟩;refine⟨k,l,Nat.lt_of_lt_of_le b a.size,λi o n=>?_⟩;obtain⟨p,q,r,s,t,u⟩:=m i o n;exact⟨p,q,r,cK a b s,cK a b t,u.ah a⟩
theorem zZ{w n o}(L:rH w n f)(N:rH w o f):C1 Q 45 #[n,o] w (RB (.bool true) w):=by
 obtain⟨_,cap,rfl,O,g⟩:=L;obtain⟨_,_,rfl,_,i⟩:=N;obtain⟨c,d⟩:=au (V f);rw[<-d];rw[<-d]at O;change Hid _ at d;go_enter func45,ntmps45;go_wp2_with fail;go_loopg [5] c (λgk b wr=>∃a:Y,gk=c-a/\a<=c/\b=I G a/\Bl w wr)
 ·exact⟨0,J,B8 _,J,Below.refl _ _⟩
 obtain⟨a,P,_,rfl,b⟩:=hrel;subst P;have R:=b.size;by_cases a8:a<c
 ·have j:f≠ []:=by intro p;have:=d.out;rw[p]at this;simp at this;omega
  obtain⟨S,rfl,q,r⟩:=g.resolve_left j;obtain⟨T,rfl,s,t⟩:=i.resolve_left j;have k:a<V f:=cz d.out;obtain⟨W,X,a0,u,v,x⟩:=r a _ (ζ k);obtain⟨a1,a2,a3,y,z,B⟩:=t a _ (ζ k);have l:=cK b q u;have a4:=cK b q v;have m:=cK b s y;have a5:=cK b s z;have a6:S<γ (β wr):=A;have a7:T<γ (β wr):=A;obtain⟨_,C⟩:=au (f[a].1);rw[<-C]at l m;have F:Hid (∀e:A0,Bl w e->C1 Q 36 #[D W X a0,D a1 a2 a3] e (RB (.bool true) e)):=λe K=>Oz (x.ah K) (B.ah K);clear r t g i C k j u v x y z B;generalize j:wr=wo at*;clear j;go_upto_region 6 with fail
  go_cut [6] (λk r=>k=.bool true/\Bl wo r)
  ·go_region_with(go_at_call 36;refine(F _ ?_).mono ?_;(first|exact b|exact b.drew);rintro p u ⟨rfl,k⟩;have t:Bl wo u:=(by first|exact k|exact jy k));all_goals(go_wp2;go_meet)
   all_goals exact⟨J,t⟩
  obtain⟨rfl,k⟩:=hcut;have u:=cK k a6 l;have v:=cK k a7 m;have t:=b.trans (k.mono R);clear l a4 m a5 F;generalize j:wc=r at*;clear j;go_upto_region 7 with fail
  go_region;all_goals go_wp2_with fail
  all_goals
   go_roundg (c-(a+1))
   case measure=>omega
   exact⟨a+1,J,A,aP,by first|exact t|exact t.drew⟩
 clear g i
 go_wp2
 go_ret;exact⟨J,b⟩
theorem Bh:∀(b:Z iP) (a:Y) (c:iP),b[a]? =U c->(ji b)[a*2]? =U (I G (c.1:A8))/\(ji b)[a*2+1]? =U c.2.1/\a*2+1<V (ji b)
 | [],a,c,h=>by simp at h
 |d::b,0,c,h=>by
  simp only[List.getElem?_cons_zero,Option.some.injEq]at h;subst h;exact⟨J,J,by simp[ji,ZF]⟩
 |d::b,a+1,c,h=>by
  rw[υ]at h;obtain⟨e,f,j⟩:=Bh b a c h;have g:ji (d::b)=I G (d.1:A8)::d.2.1::ji b:=by simp[ji,ZF]
  rw[g];have i:(a+1)*2=a*2+1+1:=A;have:(a+1)*2+1=a*2+1+1+1:=A;rw[i];refine⟨?_, ?_, ?_⟩
  ·rw[υ,υ];exact e
  ·rw[υ,υ];exact f
  simp only[A5];omega
def KM(l:Z (Y×Z Y)):Z (A8×Z A8):=l.map λp=>((p.1:A8),zs p.2)
theorem OQ{w:A0}{base k}(g:w.ownsRow base 165 2 k (V a) (ji a))(p:∀b∈a,∃f,mV w f b.2.1 b.2.2)(o:V a<=1000)(q:∀b∈a,V b.2.2<=1000):rH w k (KM (iL a)):=by
 have l:V (KM (iL a))=V a:=by simp[KM,iL]
 rcases g.2 with⟨j,r⟩|⟨c,cap,_,j,_⟩
 ·have:a= []:=List.length_eq_zero_iff.mp r;subst this;exact⟨E,0,j,by simp[KM,iL],A2 J⟩
 subst j;refine⟨_,cap,by rw[l],by rw[l];exact o,Ξ ⟨c,J,(g.lt c J).2,λi _ d=>?_⟩⟩;simp only[KM,iL,List.map_map,ο]at d
 cases e:a[i]? with
 |none=>rw[e]at d;cases d
 |some b=>
  rw[e]at d
  cases d;obtain⟨s,t,_⟩:=Bh a i b e;obtain⟨f,u,v,x,y,m⟩:=p b (ε e);refine⟨v,x,y, ?_, ?_, ?_⟩
  ·have:=g.cells (g:=c) J (i*2) _ s;rw[A3]at this;simpa using this
  ·have:=g.cells (g:=c) J (i*2+1) _ t;rw[A3]at this;rw[<-m];simpa using this
  rw[<-m];have n:V (zs b.2.2)=V b.2.2:=by simp[zs]
  have z:aY w b.2.1 (zs b.2.2):=qJ (b:=f) (by rw[n];exact u) (by rw[n];exact q b (ε e));exact z
theorem nN.ZG{w base d}(c:nN w base d a)(e:V a<=1000)(f:∀b∈a,V b.2.2<=1000):rH w d (KM (iL a)):=OQ c.row (λb g=>⟨_,c.parts b g⟩) e f
theorem xz.ZG{w base d}(c:xz w base d a)(e:V a<=1000)(f:∀b∈a,V b.2.2<=1000):rH w d (KM (iL a)):=OQ c.row (λb g=>⟨_,c.parts b g⟩) e f
theorem xV(c:Y×A8×Bool->Bool):∀(b:Y) (a:Z (Y×A8×Bool)),V (jC c b a)<=V a
 |_,[]=>by simp[jC]
 |b,p::a=>by
  have:=xV c (b+1) a;rw[jC];split<;>simp only[A5]<;>omega
theorem EY(b):∀(a:Y) (c:Z Y),V (iA b a c)=V c/\∀e∈iA b a c,V e.2<=2*V b
 |_,[]=>by simp[iA]
 |a,i::c=>by
  obtain⟨g,j⟩:=EY b (bu a i) c;rw[iA];refine⟨by simp[g],λe f=>?_⟩;rcases Γ.mp f with rfl|f
  ·have:=xV (λd=>jW a i d&&d.2.2) 0 b;have:=xV (λd=>jW a i d&& !d.2.2) 0 b;simp only[uT,List.length_append];omega
  exact j e f
theorem RJ{e b c d}(f:iL a=iA e 0 c)(g:iL j=iA e 0 d)(k:tL i b c)(l:tL i b d):iL a=iL j:=by
 rw[f,g,k.afQ l]
theorem OU{d f c}(e:iL a=iA d 0 c)(g:tL i f c)(n:f<=4)(o:V d<=300):V a<=4/\∀b∈a,V b.2.2<=600:=by
 obtain⟨j,k⟩:=EY d 0 c;have l:V (iL a)=V a:=by simp[iL]
 have p:=g.1.2;refine⟨by rw[<-l,e,j];omega,λb m=>?_⟩;have:=k (b.1,b.2.2) (by rw[<-e];exact Θ.mpr ⟨b,m,J⟩);simp only at this;omega
theorem iK.ah{b w x d c}(a:iK b w d c)(e:Bl w x):iK b x d c:=⟨a.small,a.nil,a.want.ah e,a.one,a.ty⟩
theorem pW.ah{w x c rows}(a:pW w d c rows)(b:Bl w x):pW x d c rows:=by
 refine⟨a.1, ?_⟩;rcases a.2 with a|⟨e,f,g,j,k⟩
 ·exact A2 a
 exact Ξ ⟨e,f,g,cz b.size,λi m l=>cK b j (k i m l)⟩
theorem Dw.ah{w x c}(a:Dw w c)(b:Bl w x):Dw x c:=⟨a.k.ah b,a.u.ah b,a.small,a.nil,a.rows.ah b,λe d=>(a.each e d).ah b⟩
theorem tQ.ah{w x g bI}(b:tQ w d g bI)(f:Bl w x):tQ x d g bI:=by
 refine⟨b.1, ?_⟩;rcases b.2 with b|⟨c,j,k,l,m⟩
 ·exact A2 b
 refine Ξ ⟨c,j,k,cz f.size,λi o n=>?_⟩;obtain⟨q,r,s,t,u,v⟩:=m i o n;have a:∀e,θ x (φ c e E)=θ w (φ c e E):=λe=>f.cell (p:=(φ c e E)) l;exact⟨(a _).trans q,(a _).trans r,(a _).trans s,(a _).trans t,(a _).trans u,(a _).trans v⟩
theorem Lc.ah{w x e c aS i f j}(a:Lc w d e c aS i f g j)(b:Bl w x):Lc x d e c aS i f g j:=by
 obtain⟨bI,k,l,m,n⟩:=a.bI;exact⟨a.texts.ah b,a.args,a.aec.ah b,a.XI.ah b,a.tsm,a.afv,bI,k.ah b,λp o=>(l p o).ah b,m,n⟩
def mf(w:A0)(b off n:Y):Prop:=∀i,i<n->∃(fo:A6 B4) (fl fc:Y) (aS:A6 B4) (tl tc:Y) (fs:Z qB) (ts:Z aJ),θ w ⟨b,off+i*2,E⟩=U (D fo fl fc)/\θ w ⟨b,off+i*2+1,E⟩=U (D aS tl tc)/\Lc w fo fl fc aS tl tc fs ts
theorem mf.ah{w x a e d}(f:mf w a e d)(b:Bl w x)(c:a<γ (β w)):mf x a e d:=by
 intro i g;obtain⟨j,k,l,aS,m,n,o,p,q,r,s⟩:=f i g;exact⟨j,k,l,aS,m,n,o,p,cK b c q,cK b c r,s.ah b⟩
def zK(a:A8)(n:Y):Y:=((if a<0 then-(a+1)else a) % (n:A8)).toNat
theorem NS(a){b}(c:0<b):zK a b<b:=by
 unfold zK;have:=Int.emod_lt_of_pos (if a<0 then-(a+1)else a) (show(0:A8)<(b:A8)by omega);have:=A7 (if a<0 then-(a+1)else a) (show(b:A8)≠0 by omega);omega
theorem NT{a:Y}(w)(f: -9223372036854775808<=b)(g:b<=9223372036854775807)(i:0<a)(j:a<=1048576):C1 Q 23 #[I G b,I G (a:A8)] w (RE (I G (zK b a:A8)) w):=by
 have c:¬((a:A8)=0):=A;have:((a:A8)==0)=false:=by simpa using c
 by_cases e:b<0
 ·have d:Hid ((zK b a:A8)=(-(b+1)) % (a:A8)):=by
   rw[Hid,zK,if_pos e,B1 (A7 _ c)]
  go_enter B7,B6
  go_wp2
  go_ret;exact⟨by show Ending.returned (I G (-((b+1).tmod (a:A8))))=_;rw[d.out,<-Int.tmod_eq_emod_of_nonneg A,Int.neg_tmod],J⟩
 have d:Hid ((zK b a:A8)=b % (a:A8)):=by
  rw[Hid,zK,if_neg e,B1 (A7 _ c)]
 go_enter B7,B6
 go_wp2
 go_ret;exact⟨by show Ending.returned (I G (b % (a:A8)))=_;rw[d.out],J⟩
theorem yZ{d:A0}{a c b e f}(g:d.heap[a]? =U (τ b e f)):θ d (φ a c E)=b[c]? :=by simp[θ,g]
theorem Tg{w}:C1 Q 11 #[I G b] w (RE (I G b) w):=by
 go_enter func11,ntmps11
 go_wp2
 go_ret;exact⟨J,J⟩
def pK(w:A0):Z Obj->A0
 | []=>w
 |o::os=>pK (w.alloc o) os
theorem tT:∀(a:Z Obj) (w:A0),Bl w (pK w a)
 | [],w=>Below.refl _ _
 |o::a,w=>((Below.refl _ w).alloc (B0 _) o).trans ((tT a (w.alloc o)).mono ek)
theorem Aq:∀(d:Z Obj) (w:A0) (b:Y) (c:Obj),d[b]? =U c->(pK w d).heap[γ (β w)+b]? =U c
 | [],w,b,c,h=>by simp at h
 |a::d,w,0,c,h=>by
  simp at h;subst h;exact((tT d (w.alloc a)).block (γ (β w)) ek).trans (heap_alloc_new w a)
 |a::d,w,b+1,c,h=>by
  have:=Aq d (w.alloc a) b c (by simpa using h);rw[World.size_alloc]at this;rw[show γ (β w)+(b+1)=γ (β w)+1+b by omega];exact this
def jD(N:Y):Z Obj:=[
 τ #[D (U ⟨N+16,0,E⟩) 2 2,D (U ⟨N+17,0,E⟩) 1 1,D (U ⟨N+19,0,E⟩) 1 1] 26,
 τ #[M ⟨#[104,97,108,102]⟩,M ⟨#[110]⟩,M ⟨#[40,105,102,32,40,61,32,36,49,32,48,41,32,40,110,111,116,101,32,48,41,32,40,47,32,49,48,48,32,36,49,41,41]⟩] 48,
 τ #[M ⟨#[107]⟩,M ⟨#[110]⟩,I G 5,M ⟨#[104]⟩,M ⟨#[98]⟩,I G 2] 50,
 τ #[M ⟨#[109,101]⟩] 9,
 τ #[M ⟨#[116]⟩,D (U ⟨N+2,0,E⟩) 2 2,D (U ⟨N+9,0,E⟩) 4 4,I G 100,M ⟨#[114,111,119,46,104]⟩,D (U ⟨N+3,0,E⟩) 1 1] 54,
 τ #[I G 1,I G 1,M ⟨#[]⟩,I G 3,I G 1,M ⟨#[]⟩] 56,
 τ #[I G 1,I G 2,M ⟨#[]⟩,I G 3,I G 0,M ⟨#[]⟩] 56,
 τ #[I G 1,I G 3,M ⟨#[]⟩,I G 0,I G 0,M ⟨#[]⟩] 56,
 τ #[I G 1,I G 0,M ⟨#[]⟩,I G 3,I G 1,M ⟨#[]⟩] 56,
 τ #[D (U ⟨N+5,0,E⟩) 2 2,D (U ⟨N+6,0,E⟩) 2 2,D (U ⟨N+7,0,E⟩) 2 2,D (U ⟨N+8,0,E⟩) 2 2] 57,
 τ #[M ⟨#[116]⟩,M ⟨#[97]⟩] 59,
 τ #[M ⟨#[40,110,111,116,101,32,97,46,107,41]⟩] 9,
 τ #[D (U ⟨N+10,0,E⟩) 1 1,M ⟨#[40,60,32,48,32,97,46,107,41]⟩,D (U ⟨N+11,0,E⟩) 1 1,D E 0 0,I G (-1)] 63,
 τ #[M ⟨#[104,97,108,102]⟩,M ⟨#[110]⟩,M ⟨#[40,105,102,32,40,61,32,36,49,32,48,41,32,40,110,111,116,101,32,48,41,32,40,47,32,49,48,48,32,36,49,41,41]⟩] 48,
 τ #[M ⟨#[116]⟩,D (U ⟨N+2,0,E⟩) 2 2,D (U ⟨N+9,0,E⟩) 4 4,I G 100,M ⟨#[114,111,119,46,104]⟩,D (U ⟨N+3,0,E⟩) 1 1] 54,
 τ #[M ⟨#[105,102]⟩,M ⟨#[]⟩,M ⟨#[]⟩] 48,
 τ #[D (U ⟨N+13,0,E⟩) 1 1,D (U ⟨N+14,0,E⟩) 1 1,D (U ⟨N+15,0,E⟩) 1 1,D E 0 0] 67,
 τ #[D (U ⟨N+10,0,E⟩) 1 1,M ⟨#[40,60,32,48,32,97,46,107,41]⟩,D (U ⟨N+11,0,E⟩) 1 1,D E 0 0,I G (-1)] 63,
 τ #[I G 1,I G 8,M ⟨#[]⟩] 56,
 τ #[D (U ⟨N+18,0,E⟩) 1 1] 57]
theorem UN(w):C1 Q 5 #[] w λa b=>a=.returned (.agg #[D (U ⟨γ (β w)+16,0,E⟩) 2 2,D (U ⟨γ (β w)+17,0,E⟩) 1 1,D (U ⟨γ (β w)+19,0,E⟩) 1 1])/\b=pK w (jD (γ (β w))):=by
 go_enter func5,ntmps5;go_wp2_with fail;exact bodyPost_ret (v:=.agg #[D (U ⟨γ (β w)+16,0,E⟩) 2 2,D (U ⟨γ (β w)+17,0,E⟩) 1 1,D (U ⟨γ (β w)+19,0,E⟩) 1 1]) (by simp[results,results5,go_sem]) J ⟨J,J⟩
theorem Sg{w:A0}{b e d f}{a:Z Δ}(c:w.heap[b]? =U (τ a.toArray f (0,0)))(g:V a=d*e):ku w e (U (φ b 0 E)) d a:=
 ⟨g,Ξ ⟨b,0,J,aH c,λ_ _ i=>by rw[Ω,aI c];simpa using i⟩⟩
theorem mP{b}{w:A0}{c d a e}{cs:Z Δ}(f:w.heap[c]? =U (τ cs.toArray e (0,0)))(i:V cs=a*d)(j:a<=1048576)(g:∀l∈cs,l.oneCell'=true)(k:b cs a):iK b w d ⟨U (φ c 0 E),a,a,cs⟩:=
 ⟨j,(λm=>by cases m),Sg f i,g,k⟩
def Nk:Z qB:=[([104,97,108,102],[110],[40,105,102,32,40,61,32,36,49,32,48,41,32,40,110,111,116,101,32,48,41,32,40,47,32,49,48,48,32,36,49,41,41])]
def Nl:Z qB:=[([105,102],[],[])]
def abb:Z aJ:=[⟨[116],[([107],[110],5),([104],[98],2)],[[(1,1,[]),(3,1,[])],[(1,2,[]),(3,0,[])],[(1,3,[]),(0,0,[])],[(1,0,[]),(3,1,[])]],100,[114,111,119,46,104],[[109,101]]⟩]
def Np(N k:Y)(cs:Z gq):iC:=⟨U ⟨N+k,0,E⟩,2,2,gQ cs⟩
def SX(N:Y):oL:=⟨⟨#[116]⟩,⟨U ⟨N+2,0,E⟩,2,2,ng [([107],[110],5),([104],[98],2)]⟩,U ⟨N+9,0,E⟩,4,4,[Np N 5 [(1,1,[]),(3,1,[])],Np N 6 [(1,2,[]),(3,0,[])],Np N 7 [(1,3,[]),(0,0,[])],Np N 8 [(1,0,[]),(3,1,[])]],100,⟨#[114,111,119,46,104]⟩,⟨U ⟨N+3,0,E⟩,1,1,gY [[109,101]]⟩⟩
theorem Md{d}(f:d=V e):Lr (gQ e) d:=by
 subst f;intro b g;have c:=ζ g;exact⟨_,_,_,oU (λa:gq=>[I G a.1,I G a.2.1,M (ae a.2.2)]) (λ_=>rfl) e b 0 _ c A,oU (λa:gq=>[I G a.1,I G a.2.1,M (ae a.2.2)]) (λ_=>rfl) e b 1 _ c A,oU (λa:gq=>[I G a.1,I G a.2.1,M (ae a.2.2)]) (λ_=>rfl) e b 2 _ c A⟩
theorem Sz{e}(f:e=V c):PG (ng c) e:=by
 subst f;intro b g;have d:=ζ g;exact⟨_,_,_,oU (λa:gB=>[M (ae a.1),M (ae a.2.1),I G a.2.2]) (λ_=>rfl) c b 0 _ d A,oU (λa:gB=>[M (ae a.1),M (ae a.2.1),I G a.2.2]) (λ_=>rfl) c b 1 _ d A,oU (λa:gB=>[M (ae a.1),M (ae a.2.1),I G a.2.2]) (λ_=>rfl) c b 2 _ d A⟩
theorem Qj{d}(e:d=V g):Ws (pX g) d:=by
 subst e;intro b f;have c:=ζ f;exact⟨_,_,_,oU (λa:qB=>[M (ae a.1),M (ae a.2.1),M (ae a.2.2)]) (λ_=>rfl) g b 0 _ c A,oU (λa:qB=>[M (ae a.1),M (ae a.2.1),M (ae a.2.2)]) (λ_=>rfl) g b 1 _ c A,oU (λa:qB=>[M (ae a.1),M (ae a.2.1),M (ae a.2.2)]) (λ_=>rfl) g b 2 _ c A⟩
theorem Dj{ls a}(b:a=V ls):KX (gY ls) a:=by
 subst b;intro _ c;exact⟨_,by rw[gY,ο,ζ c];rfl⟩
theorem GN(c):∀a∈gQ c,a.oneCell'=true:=by
 intro a d;obtain⟨_,_,b⟩:=A4.mp d;simp only[Γ,Φ,B2]at b;rcases b with rfl|rfl|rfl<;>rfl
theorem Mk(c):∀a∈ng c,a.oneCell'=true:=by
 intro a d;obtain⟨_,_,b⟩:=A4.mp d;simp only[Γ,Φ,B2]at b;rcases b with rfl|rfl|rfl<;>rfl
theorem JB(c):∀a∈pX c,a.oneCell'=true:=by
 intro a d;obtain⟨_,_,b⟩:=A4.mp d;simp only[Γ,Φ,B2]at b;rcases b with rfl|rfl|rfl<;>rfl
theorem Fj(b):∀a∈gY b,a.oneCell'=true:=by
 intro a c;obtain⟨_,_,rfl⟩:=Θ.mp c;rfl
theorem aeS{w a d e}(c:θ w (φ a d E)=U e):a<γ (β w):=by
 rcases Nat.lt_or_ge a (γ (β w))with b|b
 ·exact b
 simp[θ,Array.getElem?_eq_none b]at c
theorem abo{α:Type}{c}{p:Y->α->Prop}(f:∀a,a<c->∃b,p a b):∃g:Z α,V g=c/\∀(a:Y) (b:α),g[a]? =U b->p a b:=by
 refine⟨List.ofFn λa:Fin c=>Classical.choose (f a.1 a.2),ak,λa b d=>?_⟩;have e:=(η.mp d).1;rw[List.length_ofFn]at e;rw[List.getElem?_ofFn,dif_pos e]at d
 cases d;exact Classical.choose_spec (f a e)
section
variable {H : Type}
theorem Xg(a:B3 H):1<=δ a:=by
 cases a with
 |lit b=>cases b<;>simp[δ]
 |_=>simp[δ]
theorem DN:∀(d:Z (B3 H)) (b:B3 H),b∈d->δ b<=ω d
 | [],b,c=>by simp at c
 |a::r,b,c=>by
  rw[ω];rcases Γ.mp c with rfl|c
  ·omega
  have:=DN r b c;omega
theorem LY:∀b:Z (B3 H),V b<=ω b
 | []=>by simp
 |a::r=>by rw[ω,A5];have:=LY r;have:=Xg a;omega
end
section
variable {H : Type} {enc : TypeId × Value -> H} {w : World} {base : Nat} {sp : Nat -> Bool} {hd : Bool}
theorem xu{y g F j i x z}(N:Q.underlying y=U (.slice g))(O:Q.cellsOf g=i)(b2:0<i)(K:κ enc Q w base sp hd F y x=U z)(L:δ z.1<=j):
  ∃(q:A6 B4) (e l:Y),x= [D q e l]/\e<=j/\e<=l/\(q=E->e=0/\l=0)/\(e=0\/∃k m,q=U (φ k m E)/\k<γ (β w)/\∀a,a<e->∃(b:Z Δ) (B:B3 H×Z C0) (P:Y),V b=i/\(∀(d:Y) (c:Δ),b[d]? =U c->θ w ⟨k,m+a*i+d,E⟩=U c)/\κ enc Q w base sp hd P g b=U B/\δ B.1<=j):=by
 rcases Go.Deep.open_slice N K with⟨r,_⟩|⟨s,f,l,R,e,n,C,S,_,T,_,W,X,a0⟩
 ·subst r;exact⟨E,0,0,J,B8 _,B0 _,λ_=>⟨J,J⟩,A2 J⟩
 subst S X;have a1:ω ((B9 f).map n)<=j:=by
  rw[δ]at L;omega
 have a2:f<=j:=by have:=LY ((B9 f).map n);rw[ι,List.length_range]at this;omega
 refine⟨U s,f,l,J,a2,T,(λg=>by cases g), ?_⟩;by_cases r:f=0
 ·exact A2 r
 right;have b4:f<=R:=by rw[W];split<;>omega
 have each:∀a,a<f->∃(b:Z Δ),V b=i/\(∀(d:Y) (c:Δ),b[d]? =U c->θ w (s.add (a*i+d))=U c)/\κ enc Q w base sp hd e g b=U (n a,C a):=by
  intro a u;obtain⟨b,o,t⟩:=a0 a A;rw[O]at o;obtain⟨_,a7,a6⟩:=World.cells?_some o;refine⟨b,a7,λd c p=>?_,t⟩;have b3:=(η.mp p).1;have:=a6 d A;rw[Go.Deep.add_add]at this;rw[this];exact p
 obtain⟨k,m,b0⟩:=s;obtain⟨a3,_,a5,_⟩:=each 0 A;obtain⟨b1,a9⟩:∃c,a3[0]? =U c:=⟨_,ζ A⟩;have v:=a5 0 b1 a9;have a8:b0=E:=by simpa[Addr.add]using World.cell?_spot v
 subst a8;rw[A3]at v;refine⟨k,m,J,aeS v,λa u=>?_⟩;obtain⟨b,o,t,a4⟩:=each a u;refine⟨b,(n a,C a),e,o,λd c p=>?_,a4, ?_⟩
 ·have:=t d c p
  rwa[A3,<-B5]at this
 exact Nat.le_trans (DN _ _ (Θ.mpr ⟨a,List.mem_range.mpr u,J⟩)) a1
theorem jS{α:Type}(s:α->Z Δ)(u:α->Prop){y r L q m x z}(R:Q.underlying y=U (.slice r))(S:Q.cellsOf r=m)(T:0<m)(N:κ enc Q w base sp hd L y x=U z)(O:δ z.1<=q)(P:∀(g:Z Δ) (p:B3 H×Z C0) (t:Y),V g=m->κ enc Q w base sp hd t r g=U p->δ p.1<=q->∃a,g=s a/\u a):
  ∃(f:A6 B4) (c e:Y) (j:Z α),x= [D f c e]/\c<=q/\c<=e/\(f=E->c=0/\e=0)/\V j=c/\(∀a∈j,u a)/\(c=0\/∃d k,f=U (φ d k E)/\d<γ (β w)/\∀(b:Y) (a:α),j[b]? =U a->∀(i:Y) (l:Δ),(s a)[i]? =U l->θ w ⟨d,k+b*m+i,E⟩=U l):=by
 obtain⟨f,c,e,rfl,B,C,F,W⟩:=xu R S T N O;by_cases v:c=0
 ·exact⟨f,c,e,[],J,B,C,F,by simp[v],λa n=>by simp at n,A2 v⟩
 obtain⟨d,k,X,a0,a1⟩:=W.resolve_left v;obtain⟨j,a2,K⟩:=abo (p:=λb a=>u a/\∀(i:Y) (l:Δ),(s a)[i]? =U l->θ w ⟨d,k+b*m+i,E⟩=U l) (λb o=>by
  obtain⟨g,p,t,a3,a4,a5,a6⟩:=a1 b o;obtain⟨a,rfl,n⟩:=P g p t a3 a5 a6;exact⟨a,n,a4⟩)
 refine⟨f,c,e,j,J,B,C,F,a2,λa n=>?_,Ξ ⟨d,k,X,a0,λb a o=>(K b a o).2⟩⟩;obtain⟨b,o,rfl⟩:=List.getElem_of_mem n;exact(K b _ (ζ o)).1
theorem DR:Q.cellsOf 3=1:=aF
theorem yV:Q.cellsOf 9=1:=aF
theorem acP:Q.cellsOf 56=3:=aF
theorem aez:Q.cellsOf 50=3:=aF
theorem afC:Q.cellsOf 48=3:=aF
theorem aeL:Q.cellsOf 54=6:=aF
theorem acN:Q.cellsOf 67=2:=aF
theorem aeC:Q.cellsOf 57=1:=aF
theorem acr:Q.cellsOf 24=1:=aF
theorem aeD:Q.cellsOf 51=1:=aF
theorem acs:Q.cellsOf 52=1:=aF
theorem aeE:Q.cellsOf 64=1:=aF
theorem aeF:Q.cellsOf 65=1:=aF
theorem l2{α:Type}{c:Z α}(d:V c=2):∃a b,c= [a,b]:=by
 match c,d with
 | [a,b],_=>exact⟨a,b,J⟩
theorem l3{α:Type}{d:Z α}(e:V d=3):∃a b c,d= [a,b,c]:=by
 match d,e with
 | [a,b,c],_=>exact⟨a,b,c,J⟩
theorem l6{α:Type}{g:Z α}(i:V g=6):∃a b c d e f,g= [a,b,c,d,e,f]:=by
 match g,i with
 | [a,b,c,d,e,f],_=>exact⟨a,b,c,d,e,f,J⟩
theorem VB{n b o}(m:V b=3)(l:κ enc Q w base sp hd n 56 b=U o):∃a:gq,b= [I G a.1,I G a.2.1,M (ae a.2.2)]:=by
 obtain⟨p,_,_,_,_,q,c⟩:=χ underlying56 l;obtain⟨_,_,_,rfl⟩:=l3 (show V p=3 from q);obtain⟨_,_,_,rfl⟩:=l3 m;have d:=c 0 _ J;have e:=c 1 _ J;have f:=c 2 _ J;simp[DR,yV]at d e f;obtain⟨r,g,_⟩:=A1 Ψ d;obtain⟨s,i,_⟩:=A1 Ψ e;obtain⟨j,k,_⟩:=ξ ρ f;simp only[ψ,A9]at g i k;subst g i k;exact⟨(r,s,j.toList),by rw[<-oN j]⟩
theorem Zf{o b p}(n:V b=3)(m:κ enc Q w base sp hd o 50 b=U p):∃a:gB,b= [M (ae a.1),M (ae a.2.1),I G a.2.2]/\V a.1<=σ/\V a.2.1<=σ:=by
 obtain⟨q,_,_,_,_,r,c⟩:=χ underlying50 m;obtain⟨_,_,_,rfl⟩:=l3 (show V q=3 from r);obtain⟨_,_,_,rfl⟩:=l3 n;have d:=c 0 _ J;have e:=c 1 _ J;have f:=c 2 _ J;simp[DR,yV]at d e f;obtain⟨g,i,_,s⟩:=ξ ρ d;obtain⟨j,k,_,t⟩:=ξ ρ e;obtain⟨u,l,_⟩:=A1 Ψ f;simp only[ψ,A9]at i k l;subst i k l;exact⟨(g.toList,j.toList,u),by rw[<-oN g,<-oN j],by rw[aj];exact s,by rw[aj];exact t⟩
theorem abJ{p b q}(o:V b=3)(n:κ enc Q w base sp hd p 48 b=U q):∃a:qB,b= [M (ae a.1),M (ae a.2.1),M (ae a.2.2)]/\V a.1<=σ/\V a.2.1<=σ/\V a.2.2<=σ:=by
 obtain⟨r,_,_,_,_,s,c⟩:=χ underlying48 n;obtain⟨_,_,_,rfl⟩:=l3 (show V r=3 from s);obtain⟨_,_,_,rfl⟩:=l3 o;have d:=c 0 _ J;have e:=c 1 _ J;have f:=c 2 _ J;simp[yV]at d e f;obtain⟨g,i,_,t⟩:=ξ ρ d;obtain⟨j,k,_,u⟩:=ξ ρ e;obtain⟨l,m,_,v⟩:=ξ ρ f;simp only[ψ,A9]at i k m;subst i k m;exact⟨(g.toList,j.toList,l.toList),by rw[<-oN g,<-oN j,<-oN l],by rw[aj];exact t,by rw[aj];exact u,by rw[aj];exact v⟩
theorem Zh{d a f}(_:V a=1)(c:κ enc Q w base sp hd d 9 a=U f):∃e:Bs,a= [M (ae e)]:=by
 obtain⟨b,g,_,_⟩:=ξ ρ c;exact⟨b.toList,by rw[g,<-oN b]⟩
end
theorem Cu{w:A0}{c k fs d}(g:w.heap[c]? =U (τ (pX fs).toArray k (0,0)))(n:d=V fs)(l:∀a∈fs,V a.1<=σ/\V a.2.2<=σ)(m:d<=σ):ik w (D (U (φ c 0 E)) d d) fs:=by
 subst n;refine⟨_,_,J,m,Ξ ⟨c,0,J,aH g,λj a i=>?_⟩⟩;have e:∀(b:Y) (f:Δ),b<3->([M (ae a.1),M (ae a.2.1),M (ae a.2.2)]:Z Δ)[b]? =U f->θ w ⟨c,0+j*3+b,E⟩=U f:=λb f o p=>by
  rw[Ω,aI g];have q:=oU (λa:qB=>[M (ae a.1),M (ae a.2.1),M (ae a.2.2)]) (λ_=>rfl) fs j b a i o;simpa[pX]using q.trans p
 exact⟨⟨e 0 _ A J,e 1 _ A J,e 2 _ A J⟩,l a (ε i)⟩
theorem Qa{w:A0}{d m e}(j:w.heap[d]? =U (τ (ng c).toArray m (0,0)))(p:e=V c)(n:∀i∈c,V i.1<=σ/\V i.2.1<=σ)(o:e<=σ):dC w (D (U (φ d 0 E)) e e) c:=by
 subst p;refine⟨_,_,J,B0 _,o,Ξ ⟨d,0,J,aH j,λl a k=>?_⟩⟩;have f:∀(b:Y) (g:Δ),b<3->([M (ae a.1),M (ae a.2.1),I G a.2.2]:Z Δ)[b]? =U g->θ w ⟨d,0+l*3+b,E⟩=U g:=λb g q r=>by
  rw[Ω,aI j];have s:=oU (λa:gB=>[M (ae a.1),M (ae a.2.1),I G a.2.2]) (λ_=>rfl) c l b a k q;simpa[ng]using s.trans r
 exact⟨⟨f 0 _ A J,f 1 _ A J,f 2 _ A J⟩,n a (ε k)⟩
theorem qW{w:A0}{c k d}(i:w.heap[c]? =U (τ (gQ e).toArray k (0,0)))(m:d=V e)(l:d<=σ):oD w (D (U (φ c 0 E)) d d) e:=by
 subst m;refine⟨_,_,J,l,Ξ ⟨c,0,J,aH i,λj a n=>?_⟩⟩;have f:∀(b:Y) (g:Δ),b<3->([I G a.1,I G a.2.1,M (ae a.2.2)]:Z Δ)[b]? =U g->θ w ⟨c,0+j*3+b,E⟩=U g:=λb g o p=>by
  rw[Ω,aI i];have q:=oU (λa:gq=>[I G a.1,I G a.2.1,M (ae a.2.2)]) (λ_=>rfl) e j b a n o;simpa[gQ]using q.trans p
 exact⟨f 0 _ A J,f 1 _ A J,f 2 _ A J⟩
theorem Fa{w:A0}{b e c a}(d:w.heap[b]? =U (τ (gY c).toArray e (0,0)))(g:a=V c)(f:a<=σ):gD w (D (U (φ b 0 E)) a a) c:=by
 subst g;refine⟨_,_,J,f,Ξ ⟨b,0,J,aH d,λ_ _ i=>?_⟩⟩;rw[Ω,aI d];simp[gY,i]
theorem BM(w):mf (pK w (jD (γ (β w)))) (γ (β w)+16) 0 2/\γ (β w)+16<γ (β (pK w (jD (γ (β w))))):=by
 have e:∀(g:Y) (t:Obj),(jD (γ (β w)))[g]? =U t->(pK w (jD (γ (β w)))).heap[γ (β w)+g]? =U t:=λg t x=>Aq _ w g t x;obtain⟨j,T⟩:=au (γ (β w));rw[<-T]at e ⊢;generalize a0:pK w (jD j)=W at e ⊢;have m:=e 2 _ J;have K:=e 3 _ J;have L:=e 5 _ J;have N:=e 6 _ J;have O:=e 7 _ J;have P:=e 8 _ J;have k:=e 9 _ J;have C:=e 13 _ J;have d:=e 14 _ J;have F:=e 15 _ J;have r:=e 16 _ J;clear e;have a:∀g:Y,g<=100->g<=σ:=λg a1=>fD;have s:∀(g:Y) (l:Z gq),W.heap[j+g]? =U (τ (gQ l).toArray 56 (0,0))->V l=2->Br W (Np j g l):=λg l x f=>
  mP x (by rw[gQ,AA (λ_=>rfl),f]) A (GN l) (Md f.symm)
 refine⟨λc b=>?_,aH r⟩
 match c,b with
 |0,_=>
  refine⟨_,_,_,_,_,_,Nk,abb,(aI r).trans J,(aI r).trans J, ?_⟩;refine⟨Cu (fs:=Nk) C J ?_ (a _ A), ?_,⟨_,_,J,a _ ag,Ξ ⟨j+14,0,J,aH d, ?_⟩⟩,mP (cs:=pX Nk) C J A (JB _) (Qj J),A,(λu=>by cases u),[SX j],⟨J,Ξ ⟨j+14,0,J,aH d, ?_⟩⟩, ?_,J, ?_⟩
  ·intro v i;simp[Nk]at i;subst i;exact⟨a _ ag,a _ ag⟩
  ·intro v i;simp[Nk]at i;subst i;exact a _ ag
  ·intro c B b;obtain⟨rfl,rfl⟩:c=0/\B=abb[0]:=by
    have o:=(η.mp b);obtain⟨q,m⟩:=o;have:c=0:=by simp[abb]at q;omega
    subst this;exact⟨J,m.symm⟩
   refine⟨_,_,_,_,_,_,_,_,_,⟨(aI d).trans J,(aI d).trans J,(aI d).trans J,(aI d).trans J,(aI d).trans J,(aI d).trans J⟩,Qa m J ?_ (a _ A),⟨_,_,J,a _ ag,Ξ ⟨j+9,0,J,aH k, ?_⟩⟩,Fa K J (a _ A),a _ ag,a _ ag⟩
   ·intro l f;simp[abb]at f;rcases f with rfl|rfl<;>exact⟨a _ ag,a _ ag⟩
   intro c z b;have o:c<4:=(η.mp b).1
   match c,o with
   |0,_=>cases b;exact⟨_,_,_,(aI k).trans J,qW L J (a _ A)⟩
   |1,_=>cases b;exact⟨_,_,_,(aI k).trans J,qW N J (a _ A)⟩
   |2,_=>cases b;exact⟨_,_,_,(aI k).trans J,qW O J (a _ A)⟩
   |3,_=>cases b;exact⟨_,_,_,(aI k).trans J,qW P J (a _ A)⟩
  ·intro c p b;obtain⟨rfl,rfl⟩:c=0/\p=SX j:=by
    obtain⟨q,m⟩:=η.mp b;have:c=0:=by simp at q;omega
    subst this;exact⟨J,m.symm⟩
   exact⟨(aI d).trans J,(aI d).trans J,(aI d).trans J,(aI d).trans J,(aI d).trans J,(aI d).trans J⟩
  ·intro p y;obtain rfl:=List.mem_singleton.mp y;refine⟨mP m J A (Mk _) (Sz J),mP K J A (Fj _) (Dj J),by show 4<=1048576;omega,(λu=>by cases u),⟨J,Ξ ⟨j+9,0,J,aH k, ?_⟩⟩, ?_⟩
   ·intro c z b;have o:c<4:=(η.mp b).1
    match c,o with
    |0,_=>cases b;exact(aI k).trans J
    |1,_=>cases b;exact(aI k).trans J
    |2,_=>cases b;exact(aI k).trans J
    |3,_=>cases b;exact(aI k).trans J
   intro z n;simp only[SX,Γ,Φ,B2]at n;rcases n with rfl|rfl|rfl|rfl
   ·exact s 5 _ L J
   ·exact s 6 _ N J
   ·exact s 7 _ O J
   exact s 8 _ P J
  intro c p B b X;obtain⟨rfl,rfl⟩:c=0/\p=SX j:=by
   obtain⟨q,m⟩:=η.mp b;have:c=0:=by simp at q;omega
   subst this;exact⟨J,m.symm⟩
  cases X;refine⟨J,J,J,J,J,J,J,J,J, ?_,a _ ag,a _ ag, ?_⟩
  ·intro c z l n f;have o:c<4:=(η.mp n).1
   match c,o with
   |0,_=>cases n;cases f;exact⟨J,J⟩
   |1,_=>cases n;cases f;exact⟨J,J⟩
   |2,_=>cases n;cases f;exact⟨J,J⟩
   |3,_=>cases n;cases f;exact⟨J,J⟩
  intro l f;simp at f;rcases f with rfl|rfl<;>exact⟨a _ ag,a _ ag⟩
 |1,_=>
  refine⟨_,_,_,_,_,_,Nl,[],(aI r).trans J,(aI r).trans J, ?_⟩;refine⟨Cu (fs:=Nl) F J ?_ (a _ A), ?_,⟨_,_,J,a _ ag,A2 J⟩,mP (cs:=pX Nl) F J A (JB _) (Qj J),A,(λ_=>⟨J,J⟩),[],⟨J,A2 J⟩,(λp y=>by simp at y),J,λc p B b=>by simp at b⟩
  ·intro v i;simp[Nl]at i;subst i;exact⟨a _ ag,a _ ag⟩
  intro v i;simp[Nl]at i;subst i;exact a _ ag
theorem Ur{α:Type}{c:α->Z Δ}(f:∀b,V (c b)=3){d:Z α}{a g}(e:(d.flatMap c)[a]? =U g):∃b,d[a / 3]? =U b/\(c b)[a % 3]? =U g:=by
 have j:=(η.mp e).1;rw[AA f]at j;have i:a / 3<V d:=A;refine⟨_,ζ i, ?_⟩;have:=oU c f d (a / 3) (a % 3) _ (ζ i) A;rw[show a / 3*3+a % 3=a by omega]at this;rw[<-this];exact e
theorem aac{α:Type}{g:α->Z Δ}(l:∀a,V (g a)=3){w k}{j:Z α}(n:V j=k)(i:k=0\/∃c e,d=U (φ c e E)/\c<γ (β w)/\∀(m:Y) (a:α),j[m]? =U a->∀(b:Y) (f:Δ),(g a)[b]? =U f->θ w ⟨c,e+m*3+b,E⟩=U f):ku w 3 d k (j.flatMap g):=by
 refine⟨by rw[AA l,n], ?_⟩;rcases i with i|⟨c,e,o,p,q⟩
 ·exact A2 i
 refine Ξ ⟨c,e,o,p,λb f r=>?_⟩;obtain⟨a,s,t⟩:=Ur l r;have:=q _ a s _ f t
 rwa[B5,show b / 3*3+b % 3=b by omega]at this
section
variable {H : Type} {enc : TypeId × Value -> H} {w : World} {base : Nat} {sp : Nat -> Bool} {hd : Bool}
theorem QY{n l f}(m:κ enc Q w base sp hd n 57 l=U f)(q:δ f.1<=1048576):
  ∃(a:iC) (c:Z gq),l= [D a.ro a.rn a.rc]/\Br w a/\a.cs=gQ c/\a.rn=V c/\oD w (D a.ro a.rn a.rc) c:=by
 obtain⟨o,r,b,c,rfl,s,_,t,d,_,p⟩:=jS (λb:gq=>[I G b.1,I G b.2.1,M (ae b.2.2)]) (λ_=>True) underlying57 acP A m q (λ_ f n g i _=>by obtain⟨b,e⟩:=VB g i;exact⟨b,e,trivial⟩);refine⟨⟨o,r,b,gQ c⟩,c,J,⟨s,t,aac (λ_=>rfl) d p,GN c,Md d.symm⟩,J,d.symm, ?_⟩;refine⟨o,b,by rw[d],by rw[d];unfold σ;omega, ?_⟩;rcases p with m|⟨u,v,x,g,e⟩
 ·exact A2 (μ A)
 exact Ξ ⟨u,v,x,g,λk i j=>⟨e k i j 0 _ J,e k i j 1 _ J,e k i j 2 _ J⟩⟩
theorem VF{y x q}(l:κ enc Q w base sp hd y 24 x=U q)(B:δ q.1<=1048576):
  ∃(g:A6 B4) (d j:Y) (rows:Z iC) (m:Z (Z gq)),x= [D g d j]/\d<=1048576/\(g=E->d=0/\j=0)/\pW w g d rows/\(∀b∈rows,Br w b)/\d=V m/\V rows=V m/\(∀(e:Y) (b:iC) (f:Z gq),rows[e]? =U b->m[e]? =U f->b.cs=gQ f/\b.rn=V f)/\RowsIn w (D g d j) m:=by
 obtain⟨g,d,j,r,rfl,C,_,F,n,o,z⟩:=jS (λa:iC×List gq=>[D a.1.ro a.1.rn a.1.rc]) (λa=>Br w a.1/\a.1.cs=gQ a.2/\a.1.rn=V a.2/\oD w (D a.1.ro a.1.rn a.1.rc) a.2) underlying24 aeC A l B (λ_ q y _ c i=>by obtain⟨b,f,k,p,s,t,u⟩:=QY c i;exact⟨(b,f),k,p,s,t,u⟩);refine⟨g,d,j,r.map (·.1),r.map (·.2),J,C,F,⟨by rw[ι,n], ?_⟩, ?_,by rw[ι,n],by rw[ι,ι], ?_,⟨g,j,by rw[ι,n],by rw[ι,n];unfold σ;omega, ?_⟩⟩
 ·rcases z with l|⟨s,t,u,i,v⟩
  ·exact A2 l
  refine Ξ ⟨s,t,u,i,λe b k=>?_⟩;rw[ο]at k;obtain⟨a,c,rfl⟩:=ν.mp k;have:=v e a c 0 _ J;simpa using this
 ·intro b p;obtain⟨a,c,rfl⟩:=Θ.mp p;exact(o a c).1
 ·intro e b f p i;rw[ο]at p i;obtain⟨a,c,rfl⟩:=ν.mp p;rw[c]at i
  cases i;exact⟨(o a (ε c)).2.1,(o a (ε c)).2.2.1⟩
 rcases z with l|⟨s,t,u,i,v⟩
 ·exact A2 (by rw[μ (show V r=0 by omega)];rfl)
 refine Ξ ⟨s,t,u,i,λe f k=>?_⟩;rw[ο]at k;obtain⟨a,c,rfl⟩:=ν.mp k;exact⟨_,_,_,by have:=v e a c 0 _ J;simpa using this,(o a (ε c)).2.2.2⟩
theorem VC{n l i}(m:κ enc Q w base sp hd n 51 l=U i)(r:δ i.1<=1048576):
  ∃(b:iC) (c:Z gB),l= [D b.ro b.rn b.rc]/\iK PG w 3 b/\b.cs=ng c/\b.rn=V c/\(∀a∈c,V a.1<=σ/\V a.2.1<=σ)/\dC w (D b.ro b.rn b.rc) c:=by
 obtain⟨o,s,a,c,rfl,t,u,v,d,p,q⟩:=jS (λa:gB=>[M (ae a.1),M (ae a.2.1),I G a.2.2]) (λa=>V a.1<=σ/\V a.2.1<=σ) underlying51 aez A m r (λ_ i n j f _=>by obtain⟨a,e,g⟩:=Zf j f;exact⟨a,e,g⟩);refine⟨⟨o,s,a,ng c⟩,c,J,⟨t,v,aac (λ_=>rfl) d q,Mk c,Sz d.symm⟩,J,d.symm,p, ?_⟩;refine⟨o,a,by rw[d],by rw[d];exact u,by rw[d];unfold σ;omega, ?_⟩;rcases q with m|⟨x,y,z,j,e⟩
 ·exact A2 (μ A)
 exact Ξ ⟨x,y,z,j,λk f g=>⟨⟨e k f g 0 _ J,e k f g 1 _ J,e k f g 2 _ J⟩,p f (ε g)⟩⟩
theorem Zg{q o k}(p:κ enc Q w base sp hd q 64 o=U k)(s:δ k.1<=1048576):
  ∃(d:A6 B4) (e b:Y) (c:Z qB),o= [D d e b]/\iK Ws w 3 ⟨d,e,b,pX c⟩/\(∀a∈c,V a.2.1<=σ)/\ik w (D d e b) c:=by
 obtain⟨d,e,b,c,rfl,t,_,u,j,l,r⟩:=jS (λa:qB=>[M (ae a.1),M (ae a.2.1),M (ae a.2.2)]) (λa=>V a.1<=σ/\V a.2.1<=σ/\V a.2.2<=σ) underlying64 afC A p s (λ_ k q m g _=>by obtain⟨b,f,i⟩:=abJ m g;exact⟨b,f,i⟩);refine⟨d,e,b,c,J,⟨t,u,aac (λ_=>rfl) j r,JB c,Qj j.symm⟩,λa v=>(l a v).2.1, ?_⟩;refine⟨d,b,by rw[j],by rw[j];unfold σ;omega, ?_⟩;rcases r with p|⟨x,y,z,m,f⟩
 ·exact A2 (μ A)
 exact Ξ ⟨x,y,z,m,λn g i=>⟨⟨f n g i 0 _ J,f n g i 1 _ J,f n g i 2 _ J⟩,(l g (ε i)).1,(l g (ε i)).2.2⟩⟩
theorem VG{q p m}(c:κ enc Q w base sp hd q 52 p=U m)(u:δ m.1<=1048576):
  ∃(b:iC) (a:Z Bs),p= [D b.ro b.rn b.rc]/\iK KX w 1 b/\b.cs=gY a/\b.rn=V a/\gD w (D b.ro b.rn b.rc) a:=by
 obtain⟨n,r,k,a,rfl,v,_,x,g,_,y⟩:=jS (λa:Bs=>[M (ae a)]) (λ_=>True) underlying52 yV A c u (λ_ m q i d _=>by obtain⟨k,j⟩:=Zh i d;exact⟨k,j,trivial⟩);have s:r=0\/∃d e,n=U (φ d e E)/\d<γ (β w)/\∀(l:Y) (f:Bs),a[l]? =U f->θ w ⟨d,e+l,E⟩=U (M (ae f)):=by
  rcases y with c|⟨d,e,o,i,j⟩
  ·exact A2 c
  exact Ξ ⟨d,e,o,i,λl f t=>by have:=j l f t 0 _ J;simpa using this⟩
 refine⟨⟨n,r,k,gY a⟩,a,J,⟨v,x,⟨by rw[gY,ι,g,Nat.mul_one], ?_⟩,Fj a,Dj g.symm⟩,J,g.symm,n,k,by rw[g],by rw[g];unfold σ;omega, ?_⟩
 ·rcases s with c|⟨d,e,o,i,j⟩
  ·exact A2 c
  refine Ξ ⟨d,e,o,i,λz _ t=>?_⟩;rw[gY,ο]at t;obtain⟨f,B,rfl⟩:=ν.mp t;exact j z f B
 rcases s with c|c
 ·exact A2 (μ A)
 exact Ξ c
end
theorem kX{H:Type}{b:Z (B3 H×Z C0)}{a c}(d:δ (DataW.agg (b.map (·.1)))<=c)(e:a∈b):δ a.1<=c:=by
 rw[δ]at d;have:=DN (b.map (·.1)) a.1 (Θ.mpr ⟨a,e,J⟩);omega
section
variable {H : Type} {enc : TypeId × Value -> H} {w : World} {base : Nat} {sp : Nat -> Bool} {hd : Bool}
def IK(s:oL):Z Δ:=[M s.name,D s.k.ro s.k.rn s.k.rc,D s.ro s.rn s.rc,I G s.count,M s.aR,D s.u.ro s.u.rn s.u.rc]
structure acm(w:World)(s:oL)(t:aJ):Prop where
 ok:Dw w s
 ty:WQ s t
 aB:dC w (.slice s.k.ro s.k.rn s.k.rc) t.aB
 rows:RowsIn w (.slice s.ro s.rn s.rc) t.rows
 gZ:gD w (.slice s.u.ro s.u.rn s.u.rc) t.gZ
theorem Zi{y e g}(x:V e=6)(v:κ enc Q w base sp hd y 54 e=U g)(f:δ g.1<=1048576):∃d:oL×aJ,e=IK d.1/\acm w d.1 d.2:=by
 obtain⟨z,_,_,B,_,C,a⟩:=χ underlying54 v;subst B;obtain⟨_,_,_,_,_,_,rfl⟩:=l6 (show V z=6 from C);obtain⟨_,_,_,_,_,_,rfl⟩:=l6 x;have i:=a 0 _ J;have j:=a 1 _ J;have k:=a 2 _ J;have l:=a 3 _ J;have m:=a 4 _ J;have n:=a 5 _ J;simp[DR,yV,acr,aeD,acs]at i j k l m n;obtain⟨b,o,_,F⟩:=ξ ρ i;obtain⟨K,L,p,N,O,P,R,S⟩:=VC j (kX f ak);obtain⟨T,W,X,rows,a0,q,a1,a2,a3,a4,a5,a6,a7,a8⟩:=VF k (kX f ak);obtain⟨r,s,_⟩:=A1 Ψ l;obtain⟨c,t,_,a9⟩:=ξ ρ m;obtain⟨b0,b1,u,b2,b3,b4,b5⟩:=VG n (kX f ak);simp only[ψ,A9]at o p q s t u;subst o p q s t u;refine⟨(⟨b,K,T,W,X,rows,r,c,b0⟩,⟨b.toList,L,a0,r,c.toList,b1⟩),J,⟨N,b2,a1,a2,a3,a4⟩,⟨oN b,J,oN c,O,P,b3,b4,a5,a6,a7,by show V b.toList<=σ;rw[aj];exact F,by show V c.toList<=σ;rw[aj];exact a9,R⟩,S,a8,b5⟩
theorem VA{C p r}(f:V p=2)(n:κ enc Q w base sp hd C 67 p=U r)(B:δ r.1<=1048576):∃(m:A6 B4) (l k:Y) (aS:A6 B4) (o g:Y) (q:Z qB) (R:Z aJ),p= [D m l k,D aS o g]/\Lc w m l k aS o g q R:=by
 obtain⟨S,_,_,s,_,T,F⟩:=χ underlying67 n;subst s;obtain⟨_,_,rfl⟩:=l2 (show V S=2 from T);obtain⟨_,_,rfl⟩:=l2 f;have K:=F 0 _ J;have L:=F 1 _ J;simp[aeE,aeF]at K L;obtain⟨m,l,k,q,N,W,X,a0⟩:=Zg K (kX B ak);obtain⟨aS,o,g,t,O,a1,_,a2,u,v,P⟩:=jS (λa:oL×aJ=>IK a.1) (λa=>acm w a.1 a.2) underlying65 aeL A L (kX B ak) (λ_ r C f i s=>Zi f i s);simp only[ψ,A9]at N O;subst N O;refine⟨m,l,k,aS,o,g,q,t.map (·.2),J,a0,X,⟨aS,g,by rw[ι,u],by rw[ι,u];unfold σ;omega, ?_⟩,W,a1,a2,t.map (·.1),⟨by rw[ι,u], ?_⟩, ?_,by rw[ι,ι], ?_⟩
 ·rcases P with n|⟨x,y,z,f,d⟩
  ·exact A2 (by rw[μ (show V t=0 by omega)];rfl)
  refine Ξ ⟨x,y,z,f,λc a3 j=>?_⟩;rw[ο]at j;obtain⟨a,b,rfl⟩:=ν.mp j;have e:=v a (ε b);refine⟨_,_,_,_,_,_,_,_,_,⟨?_,d c a b 1 _ J,d c a b 2 _ J, ?_, ?_,d c a b 5 _ J⟩,e.aB,e.rows,e.gZ,e.ty.acv,e.ty.Tn⟩
  ·rw[<-e.ty.name];exact d c a b 0 _ J
  ·rw[<-e.ty.count];exact d c a b 3 _ J
  rw[<-e.ty.aR];exact d c a b 4 _ J
 ·rcases P with n|⟨x,y,z,f,d⟩
  ·exact A2 n
  refine Ξ ⟨x,y,z,f,λc e j=>?_⟩;rw[ο]at j;obtain⟨a,b,rfl⟩:=ν.mp j;exact⟨d c a b 0 _ J,d c a b 1 _ J,d c a b 2 _ J,d c a b 3 _ J,d c a b 4 _ J,d c a b 5 _ J⟩
 ·intro e d;obtain⟨a,b,rfl⟩:=Θ.mp d;exact(v a b).ok
 intro c e a3 d i;rw[ο]at d i;obtain⟨a,b,rfl⟩:=ν.mp d;rw[b]at i
 cases i;exact(v a (ε b)).ty
theorem QX{i g e}(d:κ enc Q w base sp hd i 22 g=U e)(l:δ e.1<=1048576):
  ∃(f:A6 B4) (b k:Y),g= [D f b k]/\b<=1048576/\(b=0\/∃a c,f=U (φ a c E)/\a<γ (β w)/\mf w a c b):=by
 obtain⟨m,n,o,rfl,p,_,_,q⟩:=xu underlying22 acN A d l;refine⟨m,n,o,J,p, ?_⟩;rcases q with d|⟨a,c,r,s,t⟩
 ·exact A2 d
 refine Ξ ⟨a,c,r,s,λv u=>?_⟩;obtain⟨_,e,i,x,j,y,z⟩:=t v u;obtain⟨B,C,F,aS,K,L,N,O,rfl,P⟩:=VA x y z;exact⟨B,C,F,aS,K,L,N,O,j 0 _ J,j 1 _ J,P⟩
theorem afD:Q.cellsOf 44=6:=aF
theorem aeH:Q.cellsOf 42=1:=aF
theorem aeG:Q.cellsOf 22=1:=aF
theorem aeJ:Q.cellsOf 23=1:=aF
theorem Rc{i c e b k}(g:Q.underlying c=U (.slice e))(f:κ enc Q w base sp hd i c b=U k):∃a j d,b= [D a j d]:=by
 rcases DataW.trod_slice g f with⟨rfl,_⟩|⟨a,len,cap,_,_,_,_,rfl,_⟩<;>exact⟨_,_,_,J⟩
end
end Go.Proofs.YthkeffolmbnkaaaGreatDoor
