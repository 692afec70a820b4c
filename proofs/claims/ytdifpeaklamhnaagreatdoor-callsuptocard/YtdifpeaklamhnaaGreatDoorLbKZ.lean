import Derived.Test.YtdifpeaklamhnaaGreatDoorLawPZ
import Derived.Test.YtdifpeaklamhnaaGreatDoorLoWZ
import Derived.Test.YtdifpeaklamhnaaGreatDoorRsFZ
import Derived.Test.YtdifpeaklamhnaaGreatDoorRows
import Derived.Deep.Slices
import Derived.ProofKit
import Derived.OpenShut
import Derived.ShutString
set_option linter.unusedVariables false
set_option linter.unusedSimpArgs false
set_option maxRecDepth 100000
set_option maxHeartbeats 0
namespace Go.Proofs.YtdifpeaklamhnaaGreatDoor
open Go.Proofs.Tryz
open Go.RowKit
open Go.ChangeShapes Go.WideShapes Go.ChangeAt Go.RowKit
open List (getElem?_eq_getElem getElem?_map mem_cons not_mem_nil mem_of_getElem? range length_map eq_nil_of_length_eq_zero)
open Value (int string)
open Nat (le_refl zero_add)
theorem nC.ah{Ty:List Value->Nat->Prop}{w x:World}{z:Nat}{r:eX}(h:nC Ty w z r)(hb:Below w.heap.size w x):nC Ty x z r:=⟨h.small,h.nil,h.want.ah hb,h.one,h.ty⟩
theorem lY.ah{w x:World}{wo:Option Addr}{n:Nat}{rows:List eX}(h:lY w wo n rows)(hb:Below w.heap.size w x):lY x wo n rows:=by
 refine⟨h.1, ?_⟩;rcases h.2 with h|⟨b,off,e,hl,hc⟩
 ·exact .inl h
 ·exact .inr ⟨b,off,e,by have:=hb.size;omega,λi r a=>(hb.cell (p:=⟨b,off+i,none⟩) hl).trans (hc i r a)⟩
theorem yt.ah{w x:World}{s:lm}(h:yt w s)(hb:Below w.heap.size w x):yt x s:=⟨h.k.ah hb,h.u.ah hb,h.small,h.nil,h.rows.ah hb,λr a=>(h.each r a).ah hb⟩
theorem pI.ah{w x:World}{wo:Option Addr}{n:Nat}{dL:List lm}(h:pI w wo n dL)(hb:Below w.heap.size w x):pI x wo n dL:=by
 refine⟨h.1, ?_⟩;rcases h.2 with h|⟨b,off,e,hl,hc⟩
 ·exact .inl h
 ·refine .inr ⟨b,off,e,by have:=hb.size;omega,λi s c=> ?_⟩;obtain⟨d,f,g,j,k,l⟩:=hc i s c;have a:∀o,x.cell? ⟨b,o,none⟩=w.cell? ⟨b,o,none⟩:=λo=>hb.cell (p:=⟨b,o,none⟩) hl;exact⟨(a _).trans d,(a _).trans f,(a _).trans g,(a _).trans j,(a _).trans k,(a _).trans l⟩
theorem DR.ah{w x:World}{d:Option Addr}{c b:Nat}{a:Option Addr}{g f:Nat}{e:List nk}{i:List aT}(h:DR w d c b a g f e i)(hb:Below w.heap.size w x):DR x d c b a g f e i:=by
 obtain⟨dL,j,k,l,m⟩:=h.dL;exact⟨h.texts.ah hb,h.args,h.RY.ah hb,h.TQ.ah hb,h.VL,h.Uo,dL,j.ah hb,λs n=>(k s n).ah hb,l,m⟩
def iJ(w:World)(b off n:Nat):Prop:=∀i,i<n->∃(fo:Option Addr) (fl fc:Nat) (to':Option Addr) (tl tc:Nat) (fs:List nk) (ts:List aT),w.cell? ⟨b,off+i*2,none⟩=some (.slice fo fl fc)/\w.cell? ⟨b,off+i*2+1,none⟩=some (.slice to' tl tc)/\DR w fo fl fc to' tl tc fs ts
theorem iJ.ah{w x:World}{b a n:Nat}(h:iJ w b a n)(hb:Below w.heap.size w x)(d:b<w.heap.size):iJ x b a n:=by
 intro i o;obtain⟨g,f,e,c,r,q,j,s,k,l,m⟩:=h i o;exact⟨g,f,e,c,r,q,j,s,(hb.cell (p:=⟨b,_,none⟩) d).trans k,(hb.cell (p:=⟨b,_,none⟩) d).trans l,m.ah hb⟩
def sw(a:Int)(n:Nat):Nat:=((if a<0 then-(a+1)else a) % (n:Int)).toNat
theorem zt(a:Int)(n:Nat)(d:0<n):sw a n<n:=by
 unfold sw;have b:=Int.emod_lt_of_pos (if a<0 then-(a+1)else a) (show(0:Int)<(n:Int)by omega);have c:=Int.emod_nonneg (if a<0 then-(a+1)else a) (show(n:Int)≠0 by omega);omega
theorem zu(a:Int)(n:Nat)(w:World)(h: -9223372036854775808<=a)(i:a<=9223372036854775807)(j:0<n)(f:n<=1048576):Calls prog 24 #[.int .i64 a,.int .i64 (n:Int)] w λe w'=>e=.returned (.int .i64 (sw a n:Int))/\w'=w:=by
 have c:¬((n:Int)=0):=by omega
 have g:((n:Int)==0)=false:=by simpa using c
 by_cases d:a<0
 ·have b:Hid ((sw a n:Int)=(-(a+1)) % (n:Int)):=by
   rw[Hid,sw,if_pos d,Int.toNat_of_nonneg (Int.emod_nonneg _ c)]
  go_enter Tryz.func24,Tryz.ntmps24
  go_wp2_with fail
  go_ret;exact⟨by show Ending.returned (.int .i64 (-((a+1).tmod (n:Int))))=_;rw[b.out,<-Int.tmod_eq_emod_of_nonneg (by omega),Int.neg_tmod],rfl⟩
 ·have b:Hid ((sw a n:Int)=a % (n:Int)):=by
   rw[Hid,sw,if_neg d,Int.toNat_of_nonneg (Int.emod_nonneg _ c)]
  go_enter Tryz.func24,Tryz.ntmps24
  go_wp2_with fail
  go_ret;exact⟨by show Ending.returned (.int .i64 (a % (n:Int)))=_;rw[b.out],rfl⟩
theorem Ic(w:World)(f:Nat)(c:Value)(d:Nat)(b:c=.slice none 0 d\/∃a,c=.slice a 0 d)(l:w.cell? ⟨f,0,none⟩=some c)(g:f<w.heap.size)(i x y:Int)(s t:ByteArray)(lo:Option Addr)(k j:Nat):
  Calls prog 13 #[.pointer (some ⟨f,0,none⟩),.agg #[.int .i64 i,.int .i64 x,.int .i64 y,.string s,.string t,.slice lo k j]] w λe w'=>e=.returned (.bool true)/\Below w.heap.size w w':=by
 obtain⟨a,rfl⟩:∃a,c=.slice a 0 d:=by
  rcases b with h|h
  ·exact⟨none,h⟩
  ·exact h
 clear b;go_enter Tryz.func13,Tryz.ntmps13
 go_wp2_with fail
 go_ret;exact⟨rfl,(Below.refl _ w).alloc (le_refl _) _⟩
def nS(w:World):List Obj->World
 | []=>w
 |o::os=>nS (w.alloc o) os
theorem pJ:∀(os:List Obj) (w:World),Below w.heap.size w (nS w os)
 | [],w=>Below.refl _ _
 |o::os,w=>((Below.refl _ w).alloc (le_refl _) o).trans ((pJ os (w.alloc o)).mono (by simp[World.size_alloc]))
theorem ru:∀(os:List Obj) (w:World) (k:Nat) (o:Obj),os[k]? =some o->(nS w os).heap[w.heap.size+k]? =some o
 | [],w,k,o,h=>by simp at h
 |a::os,w,0,o,h=>by
  simp at h;subst h;exact((pJ os (w.alloc a)).block w.heap.size (by simp[World.size_alloc])).trans (heap_alloc_new w a)
 |a::os,w,k+1,o,h=>by
  have:=ru os (w.alloc a) k o (by simpa using h);rw[World.size_alloc]at this;rw[show w.heap.size+(k+1)=w.heap.size+1+k by omega];exact this
def gY(N:Nat):List Obj:=[
 .cells #[.slice (some ⟨N+16,0,none⟩) 2 2,.slice (some ⟨N+17,0,none⟩) 1 1,.slice (some ⟨N+19,0,none⟩) 1 1] 26,
 .cells #[.string ⟨#[104,97,108,102]⟩,.string ⟨#[110]⟩,.string ⟨#[40,105,102,32,40,61,32,36,49,32,48,41,32,40,110,111,116,101,32,48,41,32,40,47,32,49,48,48,32,36,49,41,41]⟩] 48,
 .cells #[.string ⟨#[107]⟩,.string ⟨#[110]⟩,.int .i64 5,.string ⟨#[104]⟩,.string ⟨#[98]⟩,.int .i64 2] 50,
 .cells #[.string ⟨#[109,101]⟩] 9,
 .cells #[.string ⟨#[116]⟩,.slice (some ⟨N+2,0,none⟩) 2 2,.slice (some ⟨N+9,0,none⟩) 4 4,.int .i64 100,.string ⟨#[114,111,119,46,104]⟩,.slice (some ⟨N+3,0,none⟩) 1 1] 54,
 .cells #[.int .i64 1,.int .i64 1,.string ⟨#[]⟩,.int .i64 3,.int .i64 1,.string ⟨#[]⟩] 56,
 .cells #[.int .i64 1,.int .i64 2,.string ⟨#[]⟩,.int .i64 3,.int .i64 0,.string ⟨#[]⟩] 56,
 .cells #[.int .i64 1,.int .i64 3,.string ⟨#[]⟩,.int .i64 0,.int .i64 0,.string ⟨#[]⟩] 56,
 .cells #[.int .i64 1,.int .i64 0,.string ⟨#[]⟩,.int .i64 3,.int .i64 1,.string ⟨#[]⟩] 56,
 .cells #[.slice (some ⟨N+5,0,none⟩) 2 2,.slice (some ⟨N+6,0,none⟩) 2 2,.slice (some ⟨N+7,0,none⟩) 2 2,.slice (some ⟨N+8,0,none⟩) 2 2] 57,
 .cells #[.string ⟨#[116]⟩,.string ⟨#[97]⟩] 59,
 .cells #[.string ⟨#[40,110,111,116,101,32,97,46,107,41]⟩] 9,
 .cells #[.slice (some ⟨N+10,0,none⟩) 1 1,.string ⟨#[40,60,32,48,32,97,46,107,41]⟩,.slice (some ⟨N+11,0,none⟩) 1 1,.slice none 0 0,.int .i64 (-1)] 63,
 .cells #[.string ⟨#[104,97,108,102]⟩,.string ⟨#[110]⟩,.string ⟨#[40,105,102,32,40,61,32,36,49,32,48,41,32,40,110,111,116,101,32,48,41,32,40,47,32,49,48,48,32,36,49,41,41]⟩] 48,
 .cells #[.string ⟨#[116]⟩,.slice (some ⟨N+2,0,none⟩) 2 2,.slice (some ⟨N+9,0,none⟩) 4 4,.int .i64 100,.string ⟨#[114,111,119,46,104]⟩,.slice (some ⟨N+3,0,none⟩) 1 1] 54,
 .cells #[.string ⟨#[105,102]⟩,.string ⟨#[]⟩,.string ⟨#[]⟩] 48,
 .cells #[.slice (some ⟨N+13,0,none⟩) 1 1,.slice (some ⟨N+14,0,none⟩) 1 1,.slice (some ⟨N+15,0,none⟩) 1 1,.slice none 0 0] 67,
 .cells #[.slice (some ⟨N+10,0,none⟩) 1 1,.string ⟨#[40,60,32,48,32,97,46,107,41]⟩,.slice (some ⟨N+11,0,none⟩) 1 1,.slice none 0 0,.int .i64 (-1)] 63,
 .cells #[.int .i64 1,.int .i64 8,.string ⟨#[]⟩] 56,
 .cells #[.slice (some ⟨N+18,0,none⟩) 1 1] 57]
theorem LU(w:World):Calls prog 6 #[] w λe w'=>e=.returned (.agg #[.slice (some ⟨w.heap.size+16,0,none⟩) 2 2,.slice (some ⟨w.heap.size+17,0,none⟩) 1 1,.slice (some ⟨w.heap.size+19,0,none⟩) 1 1])/\w'=nS w (gY w.heap.size):=by
 go_enter Tryz.func6,Tryz.ntmps6
 go_wp2_with fail
 exact bodyPost_ret (v:=.agg #[.slice (some ⟨w.heap.size+16,0,none⟩) 2 2,.slice (some ⟨w.heap.size+17,0,none⟩) 1 1,.slice (some ⟨w.heap.size+19,0,none⟩) 1 1]) (by simp[results,Tryz.results6,go_sem]) rfl ⟨rfl,rfl⟩
theorem JA{w:World}{g z n:Nat}{T:TypeId}{cs:List Value}(h:w.heap[g]? =some (.cells cs.toArray T (0,0)))(a:cs.length=n*z):iY w z (some ⟨g,0,none⟩) n cs:=
 ⟨a,.inr ⟨g,0,rfl,aB h,λj v b=>by rw[zero_add,ag h];simpa using b⟩⟩
theorem mF{Ty:List Value->Nat->Prop}{w:World}{g z n:Nat}{T:TypeId}{cs:List Value}(h:w.heap[g]? =some (.cells cs.toArray T (0,0)))(c:cs.length=n*z)(d:n<=1048576)(b:∀v∈cs,v.oneCell'=true)(a:Ty cs n):nC Ty w z ⟨some ⟨g,0,none⟩,n,n,cs⟩:=
 ⟨d,(λe=>by cases e),JA h c,b,a⟩
def Fg:List nk:=[([104,97,108,102],[110],[40,105,102,32,40,61,32,36,49,32,48,41,32,40,110,111,116,101,32,48,41,32,40,47,32,49,48,48,32,36,49,41,41])]
def Fh:List nk:=[([105,102],[],[])]
def QX:List aT:=[⟨[116],[([107],[110],5),([104],[98],2)],[[(1,1,[]),(3,1,[])],[(1,2,[]),(3,0,[])],[(1,3,[]),(0,0,[])],[(1,0,[]),(3,1,[])]],100,[114,111,119,46,104],[[109,101]]⟩]
def Fj(N k:Nat)(cs:List au):eX:=⟨some ⟨N+k,0,none⟩,2,2,bZ cs⟩
def JX(N:Nat):lm:=⟨⟨#[116]⟩,⟨some ⟨N+2,0,none⟩,2,2,jN [([107],[110],5),([104],[98],2)]⟩,some ⟨N+9,0,none⟩,4,4,[Fj N 5 [(1,1,[]),(3,1,[])],Fj N 6 [(1,2,[]),(3,0,[])],Fj N 7 [(1,3,[]),(0,0,[])],Fj N 8 [(1,0,[]),(3,1,[])]],100,⟨#[114,111,119,46,104]⟩,⟨some ⟨N+3,0,none⟩,1,1,gq [[109,101]]⟩⟩
theorem yI(cs:List au)(n:Nat)(h:n=cs.length):Hq (bZ cs) n:=by
 subst h;intro i b;have a:=getElem?_eq_getElem b;exact⟨_,_,_,jZ (λc:au=>[int .i64 c.1,.int .i64 c.2.1,.string (aa c.2.2)]) (λ_=>rfl) cs i 0 _ a (by omega),jZ (λc:au=>[int .i64 c.1,.int .i64 c.2.1,.string (aa c.2.2)]) (λ_=>rfl) cs i 1 _ a (by omega),jZ (λc:au=>[int .i64 c.1,.int .i64 c.2.1,.string (aa c.2.2)]) (λ_=>rfl) cs i 2 _ a (by omega)⟩
theorem JP(cs:List dV)(n:Nat)(h:n=cs.length):KJ (jN cs) n:=by
 subst h;intro i b;have a:=getElem?_eq_getElem b;exact⟨_,_,_,jZ (λc:dV=>[string (aa c.1),.string (aa c.2.1),.int .i64 c.2.2]) (λ_=>rfl) cs i 0 _ a (by omega),jZ (λc:dV=>[string (aa c.1),.string (aa c.2.1),.int .i64 c.2.2]) (λ_=>rfl) cs i 1 _ a (by omega),jZ (λc:dV=>[string (aa c.1),.string (aa c.2.1),.int .i64 c.2.2]) (λ_=>rfl) cs i 2 _ a (by omega)⟩
theorem IB(a:List nk)(n:Nat)(h:n=a.length):Sl (jQ a) n:=by
 subst h;intro i c;have b:=getElem?_eq_getElem c;exact⟨_,_,_,jZ (λf:nk=>[string (aa f.1),.string (aa f.2.1),.string (aa f.2.2)]) (λ_=>rfl) a i 0 _ b (by omega),jZ (λf:nk=>[string (aa f.1),.string (aa f.2.1),.string (aa f.2.2)]) (λ_=>rfl) a i 1 _ b (by omega),jZ (λf:nk=>[string (aa f.1),.string (aa f.2.1),.string (aa f.2.2)]) (λ_=>rfl) a i 2 _ b (by omega)⟩
theorem Ky(a:List Bs)(n:Nat)(h:n=a.length):KL (gq a) n:=by
 subst h;intro i b;exact⟨_,by rw[gq,getElem?_map,getElem?_eq_getElem b];rfl⟩
theorem vw(cs:List au):∀v∈bZ cs,v.oneCell'=true:=by
 intro v a;obtain⟨c,_,h⟩:=List.mem_flatMap.mp a;simp only[mem_cons,not_mem_nil,or_false]at h;rcases h with rfl|rfl|rfl<;>rfl
theorem EB(cs:List dV):∀v∈jN cs,v.oneCell'=true:=by
 intro v a;obtain⟨c,_,h⟩:=List.mem_flatMap.mp a;simp only[mem_cons,not_mem_nil,or_false]at h;rcases h with rfl|rfl|rfl<;>rfl
theorem CB(a:List nk):∀v∈jQ a,v.oneCell'=true:=by
 intro v b;obtain⟨c,_,h⟩:=List.mem_flatMap.mp b;simp only[mem_cons,not_mem_nil,or_false]at h;rcases h with rfl|rfl|rfl<;>rfl
theorem GV(b:List Bs):∀v∈gq b,v.oneCell'=true:=by
 intro v a;obtain⟨c,_,rfl⟩:=List.mem_map.mp a;rfl
theorem xz{w:World}{g:Nat}{T:TypeId}{fs:List nk}{n:Nat}(h:w.heap[g]? =some (.cells (jQ fs).toArray T (0,0)))(k:n=fs.length)(d:∀f∈fs,f.1.length<=maxLen/\f.2.2.length<=maxLen)(e:n<=maxLen):fH w (.slice (some ⟨g,0,none⟩) n n) fs:=by
 subst k;refine⟨_,_,rfl,e,.inr ⟨g,0,rfl,aB h,λi f b=> ?_⟩⟩;have a:∀(j:Nat) (u:Value),j<3->([string (aa f.1),.string (aa f.2.1),.string (aa f.2.2)]:List Value)[j]? =some u->w.cell? ⟨g,0+i*3+j,none⟩=some u:=λj u c l=>by
  rw[zero_add,ag h];have m:=jZ (λf:nk=>[string (aa f.1),.string (aa f.2.1),.string (aa f.2.2)]) (λ_=>rfl) fs i j f b c;simpa[jQ]using m.trans l
 exact⟨⟨a 0 _ (by omega) rfl,a 1 _ (by omega) rfl,a 2 _ (by omega) rfl⟩,d f (mem_of_getElem? b)⟩
theorem Ip{w:World}{g:Nat}{T:TypeId}{cs:List dV}{n:Nat}(h:w.heap[g]? =some (.cells (jN cs).toArray T (0,0)))(l:n=cs.length)(e:∀c∈cs,c.1.length<=maxLen/\c.2.1.length<=maxLen)(k:n<=maxLen):dX w (.slice (some ⟨g,0,none⟩) n n) cs:=by
 subst l;refine⟨_,_,rfl,le_refl _,k,.inr ⟨g,0,rfl,aB h,λi f b=> ?_⟩⟩;have a:∀(j:Nat) (u:Value),j<3->([string (aa f.1),.string (aa f.2.1),.int .i64 f.2.2]:List Value)[j]? =some u->w.cell? ⟨g,0+i*3+j,none⟩=some u:=λj u d m=>by
  rw[zero_add,ag h];have o:=jZ (λf:dV=>[string (aa f.1),.string (aa f.2.1),.int .i64 f.2.2]) (λ_=>rfl) cs i j f b d;simpa[jN]using o.trans m
 exact⟨⟨a 0 _ (by omega) rfl,a 1 _ (by omega) rfl,a 2 _ (by omega) rfl⟩,e f (mem_of_getElem? b)⟩
theorem lC{w:World}{g:Nat}{T:TypeId}{cs:List au}{n:Nat}(h:w.heap[g]? =some (.cells (bZ cs).toArray T (0,0)))(e:n=cs.length)(d:n<=maxLen):aR w (.slice (some ⟨g,0,none⟩) n n) cs:=by
 subst e;refine⟨_,_,rfl,d,.inr ⟨g,0,rfl,aB h,λi f b=> ?_⟩⟩;have a:∀(j:Nat) (u:Value),j<3->([int .i64 f.1,.int .i64 f.2.1,.string (aa f.2.2)]:List Value)[j]? =some u->w.cell? ⟨g,0+i*3+j,none⟩=some u:=λj u c k=>by
  rw[zero_add,ag h];have l:=jZ (λf:au=>[int .i64 f.1,.int .i64 f.2.1,.string (aa f.2.2)]) (λ_=>rfl) cs i j f b c;simpa[bZ]using l.trans k
 exact⟨a 0 _ (by omega) rfl,a 1 _ (by omega) rfl,a 2 _ (by omega) rfl⟩
theorem Jm{w:World}{g:Nat}{T:TypeId}{a:List Bs}{n:Nat}(h:w.heap[g]? =some (.cells (gq a).toArray T (0,0)))(d:n=a.length)(c:n<=maxLen):iX w (.slice (some ⟨g,0,none⟩) n n) a:=by
 subst d;refine⟨_,_,rfl,c,.inr ⟨g,0,rfl,aB h,λi l b=> ?_⟩⟩;rw[zero_add,ag h];simp[gq,b]
theorem wP(w:World):iJ (nS w (gY w.heap.size)) (w.heap.size+16) 0 2/\w.heap.size+16<(nS w (gY w.heap.size)).heap.size:=by
 have d:∀(k:Nat) (o:Obj),(gY w.heap.size)[k]? =some o->(nS w (gY w.heap.size)).heap[w.heap.size+k]? =some o:=λk o h=>ru _ w k o h;obtain⟨N,H⟩:∃N,N=w.heap.size:=⟨_,rfl⟩;rw[<-H]at d ⊢;generalize J:nS w (gY N)=W at d ⊢;have u:=d 2 _ rfl;have B:=d 3 _ rfl;have C:=d 5 _ rfl;have D:=d 6 _ rfl;have E:=d 7 _ rfl;have F:=d 8 _ rfl;have q:=d 9 _ rfl;have y:=d 13 _ rfl;have b:=d 14 _ rfl;have z:=d 15 _ rfl;have n:=d 16 _ rfl;clear d;have a:∀k:Nat,k<=100->k<=maxLen:=λk K=>by unfold maxLen;omega
 have l:∀(k:Nat) (c:List au),W.heap[N+k]? =some (.cells (bZ c).toArray 56 (0,0))->c.length=2->qC W (Fj N k c):=λk c h m=>
  mF h (by rw[bZ,vE _ (λ_=>rfl),m]) (by omega) (vw c) (yI c 2 m.symm)
 refine⟨λi g=> ?_,aB n⟩
 match i,g with
 |0,_=>
  refine⟨_,_,_,_,_,_,Fg,QX,(ag n).trans rfl,(ag n).trans rfl, ?_⟩;refine⟨xz (fs:=Fg) y rfl ?_ (a _ (by omega)), ?_,⟨_,_,rfl,a _ (by decide),.inr ⟨N+14,0,rfl,aB b, ?_⟩⟩,mF (cs:=jQ Fg) y rfl (by omega) (CB _) (IB _ _ rfl),by omega,(λe=>by cases e),[JX N],⟨rfl,.inr ⟨N+14,0,rfl,aB b, ?_⟩⟩, ?_,rfl, ?_⟩
  ·intro f p;simp[Fg]at p;subst p;exact⟨a _ (by decide),a _ (by decide)⟩
  ·intro f p;simp[Fg]at p;subst p;exact a _ (by decide)
  ·intro i t g;obtain⟨rfl,rfl⟩:i=0/\t=QX[0]:=by
    have j:=(List.getElem?_eq_some_iff.mp g);obtain⟨x,u⟩:=j;have:i=0:=by simp[QX]at x;omega
    subst this;exact⟨rfl,u.symm⟩
   refine⟨_,_,_,_,_,_,_,_,_,⟨(ag b).trans rfl,(ag b).trans rfl,(ag b).trans rfl,(ag b).trans rfl,(ag b).trans rfl,(ag b).trans rfl⟩,Ip u rfl ?_ (a _ (by omega)),⟨_,_,rfl,a _ (by decide),.inr ⟨N+9,0,rfl,aB q, ?_⟩⟩,Jm B rfl (a _ (by omega)),a _ (by decide),a _ (by decide)⟩
   ·intro c m;simp[QX]at m;rcases m with rfl|rfl<;>exact⟨a _ (by decide),a _ (by decide)⟩
   ·intro i r g;have j:i<4:=(List.getElem?_eq_some_iff.mp g).1
    match i,j with
    |0,_=>cases g;exact⟨_,_,_,(ag q).trans rfl,lC C rfl (a _ (by omega))⟩
    |1,_=>cases g;exact⟨_,_,_,(ag q).trans rfl,lC D rfl (a _ (by omega))⟩
    |2,_=>cases g;exact⟨_,_,_,(ag q).trans rfl,lC E rfl (a _ (by omega))⟩
    |3,_=>cases g;exact⟨_,_,_,(ag q).trans rfl,lC F rfl (a _ (by omega))⟩
  ·intro i s g;obtain⟨rfl,rfl⟩:i=0/\s=JX N:=by
    obtain⟨x,u⟩:=List.getElem?_eq_some_iff.mp g;have:i=0:=by simp at x;omega
    subst this;exact⟨rfl,u.symm⟩
   exact⟨(ag b).trans rfl,(ag b).trans rfl,(ag b).trans rfl,(ag b).trans rfl,(ag b).trans rfl,(ag b).trans rfl⟩
  ·intro s A;obtain rfl:=List.mem_singleton.mp A;refine⟨mF u rfl (by omega) (EB _) (JP _ _ rfl),mF B rfl (by omega) (GV _) (Ky _ _ rfl),by show 4<=1048576;omega,(λe=>by cases e),⟨rfl,.inr ⟨N+9,0,rfl,aB q, ?_⟩⟩, ?_⟩
   ·intro i r g;have j:i<4:=(List.getElem?_eq_some_iff.mp g).1
    match i,j with
    |0,_=>cases g;exact(ag q).trans rfl
    |1,_=>cases g;exact(ag q).trans rfl
    |2,_=>cases g;exact(ag q).trans rfl
    |3,_=>cases g;exact(ag q).trans rfl
   ·intro r v;simp only[JX,mem_cons,not_mem_nil,or_false]at v;rcases v with rfl|rfl|rfl|rfl
    ·exact l 5 _ C rfl
    ·exact l 6 _ D rfl
    ·exact l 7 _ E rfl
    ·exact l 8 _ F rfl
  ·intro i s t g I;obtain⟨rfl,rfl⟩:i=0/\s=JX N:=by
    obtain⟨x,u⟩:=List.getElem?_eq_some_iff.mp g;have:i=0:=by simp at x;omega
    subst this;exact⟨rfl,u.symm⟩
   cases I;refine⟨rfl,rfl,rfl,rfl,rfl,rfl,rfl,rfl,rfl, ?_,a _ (by decide),a _ (by decide), ?_⟩
   ·intro i r c v m;have j:i<4:=(List.getElem?_eq_some_iff.mp v).1
    match i,j with
    |0,_=>cases v;cases m;exact⟨rfl,rfl⟩
    |1,_=>cases v;cases m;exact⟨rfl,rfl⟩
    |2,_=>cases v;cases m;exact⟨rfl,rfl⟩
    |3,_=>cases v;cases m;exact⟨rfl,rfl⟩
   ·intro c m;simp at m;rcases m with rfl|rfl<;>exact⟨a _ (by decide),a _ (by decide)⟩
 |1,_=>
  refine⟨_,_,_,_,_,_,Fh,[],(ag n).trans rfl,(ag n).trans rfl, ?_⟩;refine⟨xz (fs:=Fh) z rfl ?_ (a _ (by omega)), ?_,⟨_,_,rfl,a _ (by decide),.inl rfl⟩,mF (cs:=jQ Fh) z rfl (by omega) (CB _) (IB _ _ rfl),by omega,(λ_=>⟨rfl,rfl⟩),[],⟨rfl,.inl rfl⟩,(λs A=>by simp at A),rfl,λi s t g=>by simp at g⟩
  ·intro f p;simp[Fh]at p;subst p;exact⟨a _ (by decide),a _ (by decide)⟩
  ·intro f p;simp[Fh]at p;subst p;exact a _ (by decide)
theorem Vr{w:World}{b a:Nat}{v:Value}(h:w.cell? ⟨b,a,none⟩=some v):b<w.heap.size:=by
 rcases Nat.lt_or_ge b w.heap.size with h'|h'
 ·exact h'
 ·simp[World.cell?,Array.getElem?_eq_none h']at h
theorem Rl{α:Type}{n:Nat}{p:Nat->α->Prop}(h:∀i,i<n->∃a,p i a):∃l:List α,l.length=n/\∀(i:Nat) (a:α),l[i]? =some a->p i a:=by
 refine⟨List.ofFn λi:Fin n=>Classical.choose (h i.1 i.2),by simp,λi a c=> ?_⟩;have b:=(List.getElem?_eq_some_iff.mp c).1;rw[List.length_ofFn]at b;rw[List.getElem?_ofFn,dif_pos b]at c
 cases c;exact Classical.choose_spec (h i b)
section
variable {H : Type}
theorem NM(d:DataW H):1<=Rows.uptoBulk d:=by
 cases d with
 |lit l=>cases l<;>simp[Rows.uptoBulk]
 |_=>simp[Rows.uptoBulk]
theorem yE:∀(l:List (DataW H)) (d:DataW H),d∈l->Rows.uptoBulk d<=Rows.uptoBulkAll l
 | [],d,h=>by simp at h
 |a::r,d,h=>by
  rw[Rows.uptoBulkAll];rcases List.mem_cons.mp h with rfl|h
  ·omega
  ·have:=yE r d h;omega
theorem Es:∀l:List (DataW H),l.length<=Rows.uptoBulkAll l
 | []=>by simp
 |a::r=>by rw[Rows.uptoBulkAll,List.length_cons];have:=Es r;have:=NM a;omega
end
section
variable {H : Type} {enc : TypeId × Value -> H} {w : World} {base : Nat} {sp : Nat -> Bool} {hd : Bool}
theorem rG{t e:TypeId}{p M z:Nat}{cs:List Value}{x:DataW H × List MemPlace}(V:Tryz.prog.underlying t=some (.slice e))(X:Tryz.prog.cellsOf e=z)(Y:0<z)(h:DataW.trod enc prog w base sp hd p t cs=some x)(hb:Rows.uptoBulk x.1<=M):
  ∃(P:Option Addr) (n c:Nat),cs= [.slice P n c]/\n<=M/\n<=c/\(P=none->n=0/\c=0)/\(n=0\/∃b f,P=some ⟨b,f,none⟩/\b<w.heap.size/\∀i,i<n->∃(d:List Value) (y:DataW H × List MemPlace) (k:Nat),d.length=z/\(∀(j:Nat) (v:Value),d[j]? =some v->w.cell? ⟨b,f+i*z+j,none⟩=some v)/\DataW.trod enc prog w base sp hd k e d=some y/\Rows.uptoBulk y.1<=M):=by
 rcases Go.Deep.open_slice V h with⟨B,_⟩|⟨a,l,c,m,n,D,Q,G,_,S,hm,L,W,I⟩
 ·subst B;exact⟨none,0,0,rfl,Nat.zero_le _,le_refl _,λ_=>⟨rfl,rfl⟩,.inl rfl⟩
 ·subst G W;have E:Rows.uptoBulkAll ((range l).map D)<=M:=by
   rw[Rows.uptoBulk]at hb;omega
  have K:l<=M:=by have:=Es ((range l).map D);rw[length_map,List.length_range]at this;omega
  refine⟨some a,l,c,rfl,K,S,(λe=>by cases e), ?_⟩;by_cases B:l=0
  ·exact .inl B
  right;have U:l<=m:=by rw[L];split<;>omega
  have each:∀i,i<l->∃(d:List Value),d.length=z/\(∀(j:Nat) (v:Value),d[j]? =some v->w.cell? (a.add (i*z+j))=some v)/\DataW.trod enc prog w base sp hd n e d=some (D i,Q i):=by
   intro i J;obtain⟨d,s,C⟩:=I i (by omega);rw[X]at s;obtain⟨_,q,g⟩:=World.cells?_some s;refine⟨d,q,λj v u=> ?_,C⟩;have Z:=(List.getElem?_eq_some_iff.mp u).1;have:=g j (by omega);rw[Go.Deep.add_add]at this;rw[this];exact u
  obtain⟨b,f,r⟩:=a;obtain⟨A,T,F,_⟩:=each 0 (by omega);obtain⟨v0,O⟩:∃v,A[0]? =some v:=⟨_,getElem?_eq_getElem (by omega)⟩;have N:=F 0 v0 O;have o:r=none:=by simpa[Addr.add]using World.cell?_spot N
  subst o;rw[Addr.add_lit]at N;refine⟨b,f,rfl,Vr N,λi J=> ?_⟩;obtain⟨d,s,C,R⟩:=each i J;refine⟨d,(D i,Q i),n,s,λj v u=> ?_,R, ?_⟩
  ·have:=C j v u
   rwa[Addr.add_lit,<-Nat.add_assoc]at this
  ·exact Nat.le_trans (yE _ _ (List.mem_map.mpr ⟨i,List.mem_range.mpr J,rfl⟩)) E
theorem kM{α:Type}(f:α->List Value)(q:α->Prop){t e:TypeId}{o M z:Nat}{cs:List Value}{x:DataW H × List MemPlace}(Q:Tryz.prog.underlying t=some (.slice e))(R:Tryz.prog.cellsOf e=z)(D:0<z)(h:DataW.trod enc prog w base sp hd o t cs=some x)(hb:Rows.uptoBulk x.1<=M)
  (P:∀(d:List Value) (y:DataW H × List MemPlace) (k:Nat),d.length=z->DataW.trod enc prog w base sp hd k e d=some y->Rows.uptoBulk y.1<=M->∃a,d=f a/\q a):
  ∃(m:Option Addr) (n c:Nat) (l:List α),cs= [.slice m n c]/\n<=M/\n<=c/\(m=none->n=0/\c=0)/\l.length=n/\(∀a∈l,q a)/\(n=0\/∃b g,m=some ⟨b,g,none⟩/\b<w.heap.size/\∀(i:Nat) (a:α),l[i]? =some a->∀(j:Nat) (v:Value),(f a)[j]? =some v->w.cell? ⟨b,g+i*z+j,none⟩=some v):=by
 obtain⟨m,n,c,rfl,E,F,G,N⟩:=rG Q R D h hb;by_cases A:n=0
 ·exact⟨m,n,c,[],rfl,E,F,G,by simp[A],λa r=>by simp at r,.inl A⟩
 ·obtain⟨b,g,I,O,B⟩:=N.resolve_left A;obtain⟨l,C,u⟩:=Rl (p:=λi a=>q a/\∀(j:Nat) (v:Value),(f a)[j]? =some v->w.cell? ⟨b,g+i*z+j,none⟩=some v) (λi s=>by
   obtain⟨d,y,k,g1,J,K,L⟩:=B i s;obtain⟨a,rfl,r⟩:=P d y k g1 K L;exact⟨a,r,J⟩)
  refine⟨m,n,c,l,rfl,E,F,G,C,λa r=> ?_,.inr ⟨b,g,I,O,λi a s=>(u i a s).2⟩⟩;obtain⟨i,s,rfl⟩:=List.getElem_of_mem r;exact(u i _ (getElem?_eq_getElem s)).1
theorem JK:Tryz.prog.cellsOf 3=1:=by kernel_rfl
theorem AZ:Tryz.prog.cellsOf 9=1:=by kernel_rfl
theorem SX:Tryz.prog.cellsOf 56=3:=by kernel_rfl
theorem UK:Tryz.prog.cellsOf 50=3:=by kernel_rfl
theorem VD:Tryz.prog.cellsOf 48=3:=by kernel_rfl
theorem UU:Tryz.prog.cellsOf 54=6:=by kernel_rfl
theorem SV:Tryz.prog.cellsOf 67=2:=by kernel_rfl
theorem Sq:Tryz.prog.cellsOf 57=1:=by kernel_rfl
theorem Sr:Tryz.prog.cellsOf 24=1:=by kernel_rfl
theorem UL:Tryz.prog.cellsOf 51=1:=by kernel_rfl
theorem UM:Tryz.prog.cellsOf 52=1:=by kernel_rfl
theorem UN:Tryz.prog.cellsOf 64=1:=by kernel_rfl
theorem UO:Tryz.prog.cellsOf 65=1:=by kernel_rfl
theorem l2{α:Type}{l:List α}(h:l.length=2):∃a b,l= [a,b]:=by
 match l,h with
 | [a,b],_=>exact⟨a,b,rfl⟩
theorem l3{α:Type}{l:List α}(h:l.length=3):∃a b c,l= [a,b,c]:=by
 match l,h with
 | [a,b,c],_=>exact⟨a,b,c,rfl⟩
theorem l6{α:Type}{l:List α}(h:l.length=6):∃a b c d e f,l= [a,b,c,d,e,f]:=by
 match l,h with
 | [a,b,c,d,e,f],_=>exact⟨a,b,c,d,e,f,rfl⟩
theorem Mv{k:Nat}{cs:List Value}{y:DataW H × List MemPlace}(j:cs.length=3)(h:DataW.trod enc prog w base sp hd k 56 cs=some y):∃c:au,cs= [.int .i64 c.1,.int .i64 c.2.1,.string (aa c.2.2)]:=by
 obtain⟨o,n,_,_,_,b,a⟩:=DataW.trod_struct Tryz.underlying56 h;obtain⟨q,r,t,rfl⟩:=l3 (show o.length=3 from b);obtain⟨v0,p,v2,rfl⟩:=l3 j;have d:=a 0 _ rfl;have g1:=a 1 _ rfl;have e:=a 2 _ rfl;simp[JK,AZ]at d g1 e;obtain⟨l,f,_⟩:=DataW.trod_int Tryz.underlying3 d;obtain⟨m,g,_⟩:=DataW.trod_int Tryz.underlying3 g1;obtain⟨s,i,_⟩:=DataW.trod_string Tryz.underlying9 e;simp only[List.cons.injEq,and_true]at f g i;subst f g i;exact⟨(l,m,s.toList),by rw[<-oD s]⟩
theorem Pv{k:Nat}{cs:List Value}{y:DataW H × List MemPlace}(j:cs.length=3)(h:DataW.trod enc prog w base sp hd k 50 cs=some y):∃c:dV,cs= [.string (aa c.1),.string (aa c.2.1),.int .i64 c.2.2]/\c.1.length<=maxLen/\c.2.1.length<=maxLen:=by
 obtain⟨p,n,_,_,_,b,a⟩:=DataW.trod_struct Tryz.underlying50 h;obtain⟨r,u,v,rfl⟩:=l3 (show p.length=3 from b);obtain⟨v0,q,v2,rfl⟩:=l3 j;have d:=a 0 _ rfl;have g1:=a 1 _ rfl;have e:=a 2 _ rfl;simp[JK,AZ]at d g1 e;obtain⟨s,f,_,l⟩:=DataW.trod_string Tryz.underlying9 d;obtain⟨t,g,_,m⟩:=DataW.trod_string Tryz.underlying9 g1;obtain⟨o,i,_⟩:=DataW.trod_int Tryz.underlying3 e;simp only[List.cons.injEq,and_true]at f g i;subst f g i;exact⟨(s.toList,t.toList,o),by rw[<-oD s,<-oD t],by rw[ai];exact l,by rw[ai];exact m⟩
theorem RD{k:Nat}{cs:List Value}{y:DataW H × List MemPlace}(j:cs.length=3)(h:DataW.trod enc prog w base sp hd k 48 cs=some y):∃f:nk,cs= [.string (aa f.1),.string (aa f.2.1),.string (aa f.2.2)]/\f.1.length<=maxLen/\f.2.1.length<=maxLen/\f.2.2.length<=maxLen:=by
 obtain⟨p,n,_,_,_,b,a⟩:=DataW.trod_struct Tryz.underlying48 h;obtain⟨r,v,x,rfl⟩:=l3 (show p.length=3 from b);obtain⟨v0,q,v2,rfl⟩:=l3 j;have c:=a 0 _ rfl;have g1:=a 1 _ rfl;have d:=a 2 _ rfl;simp[AZ]at c g1 d;obtain⟨s,e,_,l⟩:=DataW.trod_string Tryz.underlying9 c;obtain⟨t,g,_,m⟩:=DataW.trod_string Tryz.underlying9 g1;obtain⟨u,i,_,o⟩:=DataW.trod_string Tryz.underlying9 d;simp only[List.cons.injEq,and_true]at e g i;subst e g i;exact⟨(s.toList,t.toList,u.toList),by rw[<-oD s,<-oD t,<-oD u],by rw[ai];exact l,by rw[ai];exact m,by rw[ai];exact o⟩
theorem Px{k:Nat}{cs:List Value}{y:DataW H × List MemPlace}(_:cs.length=1)(h:DataW.trod enc prog w base sp hd k 9 cs=some y):∃l:Bs,cs= [.string (aa l)]:=by
 obtain⟨s,a,_,b⟩:=DataW.trod_string Tryz.underlying9 h;exact⟨s.toList,by rw[a,<-oD s]⟩
end
theorem Lt{α:Type}(f:α->List Value)(b:∀a,(f a).length=3){l:List α}{j:Nat}{v:Value}(h:(l.flatMap f)[j]? =some v):∃a,l[j / 3]? =some a/\(f a)[j % 3]? =some v:=by
 have d:=(List.getElem?_eq_some_iff.mp h).1;rw[vE f b]at d;have c:j / 3<l.length:=by omega
 refine⟨_,getElem?_eq_getElem c, ?_⟩;have:=jZ f b l (j / 3) (j % 3) _ (getElem?_eq_getElem c) (by omega);rw[show j / 3*3+j % 3=j by omega]at this;rw[<-this];exact h
theorem Qh{α:Type}(f:α->List Value)(g:∀a,(f a).length=3){w:World}{k:Option Addr}{n:Nat}{l:List α}(o:l.length=n)(h:n=0\/∃b c,k=some ⟨b,c,none⟩/\b<w.heap.size/\∀(i:Nat) (a:α),l[i]? =some a->∀(j:Nat) (v:Value),(f a)[j]? =some v->w.cell? ⟨b,c+i*3+j,none⟩=some v):iY w 3 k n (l.flatMap f):=by
 refine⟨by rw[vE f g,o], ?_⟩;rcases h with h|⟨b,c,e,hb,hc⟩
 ·exact .inl h
 ·refine .inr ⟨b,c,e,hb,λj v p=> ?_⟩;obtain⟨a,m,d⟩:=Lt f g p;have:=hc _ a m _ v d
  rwa[Nat.add_assoc,show j / 3*3+j % 3=j by omega]at this
section
variable {H : Type} {enc : TypeId × Value -> H} {w : World} {base : Nat} {sp : Nat -> Bool} {hd : Bool}
theorem zA{k:Nat}{cs:List Value}{y:DataW H × List MemPlace}(h:DataW.trod enc prog w base sp hd k 57 cs=some y)(hb:Rows.uptoBulk y.1<=1048576):
  ∃(r:eX) (l:List au),cs= [.slice r.ro r.rn r.rc]/\qC w r/\r.cs=bZ l/\r.rn=l.length/\aR w (.slice r.ro r.rn r.rc) l:=by
 obtain⟨o,n,c,l,rfl,q,_,s,d,_,m⟩:=kM (λc:au=>[int .i64 c.1,.int .i64 c.2.1,.string (aa c.2.2)]) (λ_=>True) Tryz.underlying57 SX (by omega) h hb (λp y k j t _=>by obtain⟨c,f⟩:=Mv j t;exact⟨c,f,trivial⟩);refine⟨⟨o,n,c,bZ l⟩,l,rfl,⟨q,s,Qh _ (λ_=>rfl) d m,vw l,yI l n d.symm⟩,rfl,d.symm, ?_⟩;refine⟨o,c,by rw[d],by rw[d];unfold maxLen;omega, ?_⟩;rcases m with h|⟨b,off,e,j,f⟩
 ·exact .inl (eq_nil_of_length_eq_zero (by omega))
 ·exact .inr ⟨b,off,e,j,λi a g=>⟨f i a g 0 _ rfl,f i a g 1 _ rfl,f i a g 2 _ rfl⟩⟩
theorem MB{k:Nat}{cs:List Value}{y:DataW H × List MemPlace}(h:DataW.trod enc prog w base sp hd k 24 cs=some y)(hb:Rows.uptoBulk y.1<=1048576):
  ∃(g:Option Addr) (n c:Nat) (rows:List eX) (q:List (List au)),cs= [.slice g n c]/\n<=1048576/\(g=none->n=0/\c=0)/\lY w g n rows/\(∀r∈rows,qC w r)/\n=q.length/\rows.length=q.length/\(∀(i:Nat) (r:eX) (l:List au),rows[i]? =some r->q[i]? =some l->r.cs=bZ l/\r.rn=l.length)/\RowsIn w (.slice g n c) q:=by
 obtain⟨g,n,c,L,rfl,A,_,B,m,o,s⟩:=kM (λa:eX × List au=>[Value.slice a.1.ro a.1.rn a.1.rc]) (λa=>qC w a.1/\a.1.cs=bZ a.2/\a.1.rn=a.2.length/\aR w (.slice a.1.ro a.1.rn a.1.rc) a.2) Tryz.underlying24 Sq (by omega) h hb (λt y k _ C D=>by obtain⟨r,l,g1,u,v,x,z⟩:=zA C D;exact⟨(r,l),g1,u,v,x,z⟩);refine⟨g,n,c,L.map (·.1),L.map (·.2),rfl,A,B,⟨by rw[length_map,m], ?_⟩, ?_,by rw[length_map,m],by rw[length_map,length_map], ?_,⟨g,c,by rw[length_map,m],by rw[length_map,m];unfold maxLen;omega, ?_⟩⟩
 ·rcases s with h|⟨b,off,e,f,hc⟩
  ·exact .inl h
  ·refine .inr ⟨b,off,e,f,λi r j=> ?_⟩;rw[getElem?_map]at j;obtain⟨a,d,rfl⟩:=Option.map_eq_some_iff.mp j;have:=hc i a d 0 _ rfl;simpa using this
 ·intro r p;obtain⟨a,d,rfl⟩:=List.mem_map.mp p;exact(o a d).1
 ·intro i r l p f;rw[getElem?_map]at p f;obtain⟨a,d,rfl⟩:=Option.map_eq_some_iff.mp p;rw[d]at f
  cases f;exact⟨(o a (mem_of_getElem? d)).2.1,(o a (mem_of_getElem? d)).2.2.1⟩
 ·rcases s with h|⟨b,off,e,f,hc⟩
  ·exact .inl (by rw[eq_nil_of_length_eq_zero (show L.length=0 by omega)];rfl)
  ·refine .inr ⟨b,off,e,f,λi l j=> ?_⟩;rw[getElem?_map]at j;obtain⟨a,d,rfl⟩:=Option.map_eq_some_iff.mp j;exact⟨_,_,_,by have:=hc i a d 0 _ rfl;simpa using this,(o a (mem_of_getElem? d)).2.2.2⟩
theorem Mw{k:Nat}{cs:List Value}{y:DataW H × List MemPlace}(h:DataW.trod enc prog w base sp hd k 51 cs=some y)(hb:Rows.uptoBulk y.1<=1048576):
  ∃(r:eX) (l:List dV),cs= [.slice r.ro r.rn r.rc]/\nC KJ w 3 r/\r.cs=jN l/\r.rn=l.length/\(∀c∈l,c.1.length<=maxLen/\c.2.1.length<=maxLen)/\dX w (.slice r.ro r.rn r.rc) l:=by
 obtain⟨p,n,c,l,rfl,s,t,u,d,m,o⟩:=kM (λc:dV=>[string (aa c.1),.string (aa c.2.1),.int .i64 c.2.2]) (λc=>c.1.length<=maxLen/\c.2.1.length<=maxLen) Tryz.underlying51 UK (by omega) h hb (λq y k j x _=>by obtain⟨c,f,v⟩:=Pv j x;exact⟨c,f,v⟩);refine⟨⟨p,n,c,jN l⟩,l,rfl,⟨s,u,Qh _ (λ_=>rfl) d o,EB l,JP l n d.symm⟩,rfl,d.symm,m, ?_⟩;refine⟨p,c,by rw[d],by rw[d];exact t,by rw[d];unfold maxLen;omega, ?_⟩;rcases o with h|⟨b,off,e,j,f⟩
 ·exact .inl (eq_nil_of_length_eq_zero (by omega))
 ·exact .inr ⟨b,off,e,j,λi a g=>⟨⟨f i a g 0 _ rfl,f i a g 1 _ rfl,f i a g 2 _ rfl⟩,m a (mem_of_getElem? g)⟩⟩
theorem Pw{k:Nat}{cs:List Value}{y:DataW H × List MemPlace}(h:DataW.trod enc prog w base sp hd k 64 cs=some y)(hb:Rows.uptoBulk y.1<=1048576):
  ∃(d:Option Addr) (n c:Nat) (l:List nk),cs= [.slice d n c]/\nC Sl w 3 ⟨d,n,c,jQ l⟩/\(∀f∈l,f.2.1.length<=maxLen)/\fH w (.slice d n c) l:=by
 obtain⟨d,n,c,l,rfl,s,z,t,m,o,q⟩:=kM (λf:nk=>[string (aa f.1),.string (aa f.2.1),.string (aa f.2.2)]) (λf=>f.1.length<=maxLen/\f.2.1.length<=maxLen/\f.2.2.length<=maxLen) Tryz.underlying64 VD (by omega) h hb (λr y k p x _=>by obtain⟨c,g,v⟩:=RD p x;exact⟨c,g,v⟩);refine⟨d,n,c,l,rfl,⟨s,t,Qh _ (λ_=>rfl) m q,CB l,IB l n m.symm⟩,λf u=>(o f u).2.1, ?_⟩;refine⟨d,c,by rw[m],by rw[m];unfold maxLen;omega, ?_⟩;rcases q with h|⟨b,off,e,p,g⟩
 ·exact .inl (eq_nil_of_length_eq_zero (by omega))
 ·exact .inr ⟨b,off,e,p,λi a j=>⟨⟨g i a j 0 _ rfl,g i a j 1 _ rfl,g i a j 2 _ rfl⟩,(o a (mem_of_getElem? j)).1,(o a (mem_of_getElem? j)).2.2⟩⟩
theorem MC{k:Nat}{cs:List Value}{y:DataW H × List MemPlace}(h:DataW.trod enc prog w base sp hd k 52 cs=some y)(hb:Rows.uptoBulk y.1<=1048576):
  ∃(r:eX) (l:List Bs),cs= [.slice r.ro r.rn r.rc]/\nC KL w 1 r/\r.cs=gq l/\r.rn=l.length/\iX w (.slice r.ro r.rn r.rc) l:=by
 obtain⟨p,n,c,l,rfl,t,_,u,g,_,x⟩:=kM (λl:Bs=>[string (aa l)]) (λ_=>True) Tryz.underlying52 AZ (by omega) h hb (λs y k o B _=>by obtain⟨c,m⟩:=Px o B;exact⟨c,m,trivial⟩);have f:n=0\/∃b d,p=some ⟨b,d,none⟩/\b<w.heap.size/\∀(i:Nat) (a:Bs),l[i]? =some a->w.cell? ⟨b,d+i,none⟩=some (.string (aa a)):=by
  rcases x with h|⟨b,d,e,o,m⟩
  ·exact .inl h
  ·exact .inr ⟨b,d,e,o,λi a A=>by have:=m i a A 0 _ rfl;simpa using this⟩
 refine⟨⟨p,n,c,gq l⟩,l,rfl,⟨t,u,⟨by rw[gq,length_map,g,Nat.mul_one], ?_⟩,GV l,Ky l n g.symm⟩,rfl,g.symm,p,c,by rw[g],by rw[g];unfold maxLen;omega, ?_⟩
 ·rcases f with h|⟨b,d,e,o,m⟩
  ·exact .inl h
  ·refine .inr ⟨b,d,e,o,λj v q=> ?_⟩;rw[gq,getElem?_map]at q;obtain⟨a,z,rfl⟩:=Option.map_eq_some_iff.mp q;exact m j a z
 ·rcases f with h|h
  ·exact .inl (eq_nil_of_length_eq_zero (by omega))
  ·exact .inr h
end
theorem mJ{H:Type}{a:List (DataW H × List MemPlace)}{x:DataW H × List MemPlace}{M:Nat}(h:Rows.uptoBulk (DataW.agg (a.map (·.1)))<=M)(b:x∈a):Rows.uptoBulk x.1<=M:=by
 rw[Rows.uptoBulk]at h;have:=yE (a.map (·.1)) x.1 (List.mem_map.mpr ⟨x,b,rfl⟩);omega
section
variable {H : Type} {enc : TypeId × Value -> H} {w : World} {base : Nat} {sp : Nat -> Bool} {hd : Bool}
def BL(s:lm):List Value:=[.string s.name,.slice s.k.ro s.k.rn s.k.rc,.slice s.ro s.rn s.rc,.int .i64 s.count,.string s.aG,.slice s.u.ro s.u.rn s.u.rc]
structure Sj(w:World)(s:lm)(t:aT):Prop where
 ok:yt w s
 ty:Nw s t
 ay:dX w (.slice s.k.ro s.k.rn s.k.rc) t.ay
 rows:RowsIn w (.slice s.ro s.rn s.rc) t.rows
 lX:iX w (.slice s.u.ro s.u.rn s.u.rc) t.lX
theorem Py{k:Nat}{cs:List Value}{y:DataW H × List MemPlace}(t:cs.length=6)(h:DataW.trod enc prog w base sp hd k 54 cs=some y)(hb:Rows.uptoBulk y.1<=1048576):∃a:lm × aT,cs=BL a.1/\Sj w a.1 a.2:=by
 obtain⟨T,n,_,x,_,c,b⟩:=DataW.trod_struct Tryz.underlying54 h;subst x;obtain⟨V,W,X,Y,Z,y5,rfl⟩:=l6 (show T.length=6 from c);obtain⟨v0,U,v2,v3,v4,v5,rfl⟩:=l6 t;have d:=b 0 _ rfl;have g1:=b 1 _ rfl;have e:=b 2 _ rfl;have f:=b 3 _ rfl;have g:=b 4 _ rfl;have i:=b 5 _ rfl;simp[JK,AZ,Sr,UL,UM]at d g1 e f g i;obtain⟨s,j,_,v⟩:=DataW.trod_string Tryz.underlying9 d;obtain⟨kr,E,l,z,A,B,C,D⟩:=Mw g1 (mJ hb (by simp));obtain⟨ro,rn,rc,rows,M,m,r1,r2,F,G,I,J,K,L⟩:=MB e (mJ hb (by simp));obtain⟨cn,o,_⟩:=DataW.trod_int Tryz.underlying3 f;obtain⟨p,q,_,u⟩:=DataW.trod_string Tryz.underlying9 g;obtain⟨O,N,r,P,Q,R,S⟩:=MC i (mJ hb (by simp));simp only[List.cons.injEq,and_true]at j l m o q r;subst j l m o q r;refine⟨(⟨s,kr,ro,rn,rc,rows,cn,p,O⟩,⟨s.toList,E,M,cn,p.toList,N⟩),rfl,⟨z,P,r1,r2,F,G⟩,⟨oD s,rfl,oD p,A,B,Q,R,I,J,K,by show s.toList.length<=maxLen;rw[ai];exact v,by show p.toList.length<=maxLen;rw[ai];exact u,C⟩,D,L,S⟩
theorem Mt{k:Nat}{cs:List Value}{y:DataW H × List MemPlace}(g:cs.length=2)(h:DataW.trod enc prog w base sp hd k 67 cs=some y)(hb:Rows.uptoBulk y.1<=1048576):∃(q:Option Addr) (p o:Nat) (d:Option Addr) (u m:Nat) (v:List nk) (F:List aT),cs= [.slice q p o,.slice d u m]/\DR w q p o d u m v F:=by
 obtain⟨G,n,_,z,_,x,B⟩:=DataW.trod_struct Tryz.underlying67 h;subst z;obtain⟨J,K,rfl⟩:=l2 (show G.length=2 from x);obtain⟨v0,I,rfl⟩:=l2 g;have A:=B 0 _ rfl;have g1:=B 1 _ rfl;simp[UN,UO]at A g1;obtain⟨q,p,o,v,C,f1,f2,f3⟩:=Pw A (mJ hb (by simp));obtain⟨d,u,m,L,D,t1,_,t3,t4,t5,t6⟩:=kM (λa:lm × aT=>BL a.1) (λa=>Sj w a.1 a.2) Tryz.underlying65 UU (by omega) g1 (mJ hb (by simp)) (λE y k g l z=>Py g l z);simp only[List.cons.injEq,and_true]at C D;subst C D;refine⟨q,p,o,d,u,m,v,L.map (·.2),rfl,f3,f2,⟨d,m,by rw[length_map,t4],by rw[length_map,t4];unfold maxLen;omega, ?_⟩,f1,t1,t3,L.map (·.1),⟨by rw[length_map,t4], ?_⟩, ?_,by rw[length_map,length_map], ?_⟩
 ·rcases t6 with h|⟨b,off,e,g,hc⟩
  ·exact .inl (by rw[eq_nil_of_length_eq_zero (show L.length=0 by omega)];rfl)
  ·refine .inr ⟨b,off,e,g,λi t j=> ?_⟩;rw[getElem?_map]at j;obtain⟨a,c,rfl⟩:=Option.map_eq_some_iff.mp j;have f:=t5 a (mem_of_getElem? c);refine⟨_,_,_,_,_,_,_,_,_,⟨?_,hc i a c 1 _ rfl,hc i a c 2 _ rfl, ?_, ?_,hc i a c 5 _ rfl⟩,f.ay,f.rows,f.lX,f.ty.Sz,f.ty.Kh⟩
   ·rw[<-f.ty.name];exact hc i a c 0 _ rfl
   ·rw[<-f.ty.count];exact hc i a c 3 _ rfl
   ·rw[<-f.ty.aG];exact hc i a c 4 _ rfl
 ·rcases t6 with h|⟨b,off,e,g,hc⟩
  ·exact .inl h
  ·refine .inr ⟨b,off,e,g,λi s j=> ?_⟩;rw[getElem?_map]at j;obtain⟨a,c,rfl⟩:=Option.map_eq_some_iff.mp j;exact⟨hc i a c 0 _ rfl,hc i a c 1 _ rfl,hc i a c 2 _ rfl,hc i a c 3 _ rfl,hc i a c 4 _ rfl,hc i a c 5 _ rfl⟩
 ·intro s r;obtain⟨a,c,rfl⟩:=List.mem_map.mp r;exact(t5 a c).ok
 ·intro i s t r l;rw[getElem?_map]at r l;obtain⟨a,c,rfl⟩:=Option.map_eq_some_iff.mp r;rw[c]at l
  cases l;exact(t5 a (mem_of_getElem? c)).ty
theorem IW{k:Nat}{cs:List Value}{y:DataW H × List MemPlace}(h:DataW.trod enc prog w base sp hd k 22 cs=some y)(hb:Rows.uptoBulk y.1<=1048576):
  ∃(a0:Option Addr) (d j:Nat),cs= [.slice a0 d j]/\d<=1048576/\(d=0\/∃b a,a0=some ⟨b,a,none⟩/\b<w.heap.size/\iJ w b a d):=by
 obtain⟨z,n,c,rfl,t,_,_,u⟩:=rG Tryz.underlying22 SV (by omega) h hb;refine⟨z,n,c,rfl,t, ?_⟩;rcases u with h|⟨b,a,e,hl,hel⟩
 ·exact .inl h
 ·refine .inr ⟨b,a,e,hl,λi x=> ?_⟩;obtain⟨l,y,k,g1,g,r,s⟩:=hel i x;obtain⟨p,o,m,f,B,A,q,C,rfl,v⟩:=Mt g1 r s;exact⟨p,o,m,f,B,A,q,C,g 0 _ rfl,g 1 _ rfl,v⟩
theorem VE:Tryz.prog.cellsOf 44=6:=by kernel_rfl
theorem UR:Tryz.prog.cellsOf 42=1:=by kernel_rfl
theorem UQ:Tryz.prog.cellsOf 22=1:=by kernel_rfl
theorem UT:Tryz.prog.cellsOf 23=1:=by kernel_rfl
theorem zB{k:Nat}{t e:TypeId}{cs:List Value}{y:DataW H × List MemPlace}(b:Tryz.prog.underlying t=some (.slice e))(h:DataW.trod enc prog w base sp hd k t cs=some y):∃a l c,cs= [.slice a l c]:=by
 rcases DataW.trod_slice b h with⟨rfl,_⟩|⟨a,len,cap,_,_,_,_,rfl,_⟩<;>exact⟨_,_,_,rfl⟩
end
end Go.Proofs.YtdifpeaklamhnaaGreatDoor
