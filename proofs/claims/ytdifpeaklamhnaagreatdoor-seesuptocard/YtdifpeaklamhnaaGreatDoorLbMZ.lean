import Derived.Test.YtdifpeaklamhnaaGreatDoorLoYZ
import Derived.Test.YtdifpeaklamhnaaGreatDoorLoWZ
import Derived.Test.YtdifpeaklamhnaaGreatDoorRsFZ
import Derived.Test.YtdifpeaklamhnaaGreatDoorLawPZ
import Derived.Test.YtdifpeaklamhnaaGreatDoorRows
import Derived.Deep.Slices
import Derived.ProofKit
import Derived.OpenShut
import Derived.ShutString
set_option linter.unusedVariables false
set_option linter.unusedSimpArgs false
set_option maxRecDepth 100000
set_option maxHeartbeats 0
namespace Go.Proofs.YtdifpeaklamhnaaGreatDoor
open Go.Proofs.Tryz
open Go.RowKit
open Go.ChangeShapes Go.WideShapes Go.ChangeAt Go.RowKit
open List (getElem?_eq_getElem getElem?_map mem_cons not_mem_nil mem_of_getElem? range length_map eq_nil_of_length_eq_zero)
open Value (int string)
open Nat (le_refl zero_add)
theorem mW.ag{Ty:List Value->Nat->Prop}{w x:World}{z:Nat}{r:fD}(h:mW Ty w z r)(hb:Below w.heap.size w x):mW Ty x z r:=⟨h.small,h.nil,h.want.ag hb,h.one,h.ty⟩
theorem lI.ag{w x:World}{wo:Option Addr}{n:Nat}{rows:List fD}(h:lI w wo n rows)(hb:Below w.heap.size w x):lI x wo n rows:=by
 refine⟨h.1, ?_⟩;rcases h.2 with h|⟨b,off,e,hl,hc⟩
 ·exact .inl h
 ·exact .inr ⟨b,off,e,by have:=hb.size;omega,λi r a=>(hb.cell (p:=⟨b,off+i,none⟩) hl).trans (hc i r a)⟩
theorem yl.ag{w x:World}{s:kU}(h:yl w s)(hb:Below w.heap.size w x):yl x s:=⟨h.k.ag hb,h.u.ag hb,h.small,h.nil,h.rows.ag hb,λr a=>(h.each r a).ag hb⟩
theorem pz.ag{w x:World}{wo:Option Addr}{n:Nat}{dS:List kU}(h:pz w wo n dS)(hb:Below w.heap.size w x):pz x wo n dS:=by
 refine⟨h.1, ?_⟩;rcases h.2 with h|⟨b,off,e,hl,hc⟩
 ·exact .inl h
 ·refine .inr ⟨b,off,e,by have:=hb.size;omega,λi s c=> ?_⟩;obtain⟨d,f,g,j,k,l⟩:=hc i s c;have a:∀o,x.cell? ⟨b,o,none⟩=w.cell? ⟨b,o,none⟩:=λo=>hb.cell (p:=⟨b,o,none⟩) hl;exact⟨(a _).trans d,(a _).trans f,(a _).trans g,(a _).trans j,(a _).trans k,(a _).trans l⟩
theorem DD.ag{w x:World}{d:Option Addr}{c b:Nat}{a:Option Addr}{g f:Nat}{e:List mM}{i:List aJ}(h:DD w d c b a g f e i)(hb:Below w.heap.size w x):DD x d c b a g f e i:=by
 obtain⟨dS,j,k,l,m⟩:=h.dS;exact⟨h.texts.ag hb,h.args,h.Uu.ag hb,h.Vl.ag hb,h.VY,h.VD,dS,j.ag hb,λs n=>(k s n).ag hb,l,m⟩
def jg(w:World)(b off n:Nat):Prop:=∀i,i<n->∃(fo:Option Addr) (fl fc:Nat) (to':Option Addr) (tl tc:Nat) (fs:List mM) (ts:List aJ),w.cell? ⟨b,off+i*2,none⟩=some (.slice fo fl fc)/\w.cell? ⟨b,off+i*2+1,none⟩=some (.slice to' tl tc)/\DD w fo fl fc to' tl tc fs ts
theorem jg.ag{w x:World}{b a n:Nat}(h:jg w b a n)(hb:Below w.heap.size w x)(d:b<w.heap.size):jg x b a n:=by
 intro i o;obtain⟨g,f,e,c,r,q,j,s,k,l,m⟩:=h i o;exact⟨g,f,e,c,r,q,j,s,(hb.cell (p:=⟨b,_,none⟩) d).trans k,(hb.cell (p:=⟨b,_,none⟩) d).trans l,m.ag hb⟩
def wW(a:Int)(n:Nat):Nat:=((if a<0 then-(a+1)else a) % (n:Int)).toNat
theorem Pp(a:Int)(n:Nat)(d:0<n):wW a n<n:=by
 unfold wW;have b:=Int.emod_lt_of_pos (if a<0 then-(a+1)else a) (show(0:Int)<(n:Int)by omega);have c:=Int.emod_nonneg (if a<0 then-(a+1)else a) (show(n:Int)≠0 by omega);omega
theorem Pq(a:Int)(n:Nat)(w:World)(h: -9223372036854775808<=a)(i:a<=9223372036854775807)(j:0<n)(f:n<=1048576):Calls prog 24 #[.int .i64 a,.int .i64 (n:Int)] w λe w'=>e=.returned (.int .i64 (wW a n:Int))/\w'=w:=by
 have c:¬((n:Int)=0):=by omega
 have g:((n:Int)==0)=false:=by simpa using c
 by_cases d:a<0
 ·have b:Hid ((wW a n:Int)=(-(a+1)) % (n:Int)):=by
   rw[Hid,wW,if_pos d,Int.toNat_of_nonneg (Int.emod_nonneg _ c)]
  go_enter Tryz.func24,Tryz.ntmps24
  go_wp2_with fail
  go_ret;exact⟨by show Ending.returned (.int .i64 (-((a+1).tmod (n:Int))))=_;rw[b.out,<-Int.tmod_eq_emod_of_nonneg (by omega),Int.neg_tmod],rfl⟩
 ·have b:Hid ((wW a n:Int)=a % (n:Int)):=by
   rw[Hid,wW,if_neg d,Int.toNat_of_nonneg (Int.emod_nonneg _ c)]
  go_enter Tryz.func24,Tryz.ntmps24
  go_wp2_with fail
  go_ret;exact⟨by show Ending.returned (.int .i64 (a % (n:Int)))=_;rw[b.out],rfl⟩
theorem Ig(w:World)(f:Nat)(c:Value)(d:Nat)(b:c=.slice none 0 d\/∃a,c=.slice a 0 d)(l:w.cell? ⟨f,0,none⟩=some c)(g:f<w.heap.size)(i x y:Int)(s t:ByteArray)(lo:Option Addr)(k j:Nat):
  Calls prog 13 #[.pointer (some ⟨f,0,none⟩),.agg #[.int .i64 i,.int .i64 x,.int .i64 y,.string s,.string t,.slice lo k j]] w λe w'=>e=.returned (.bool true)/\Below w.heap.size w w':=by
 obtain⟨a,rfl⟩:∃a,c=.slice a 0 d:=by
  rcases b with h|h
  ·exact⟨none,h⟩
  ·exact h
 clear b;go_enter Tryz.func13,Tryz.ntmps13
 go_wp2_with fail
 go_ret;exact⟨rfl,(Below.refl _ w).alloc (le_refl _) _⟩
def qA(w:World):List Obj->World
 | []=>w
 |o::os=>qA (w.alloc o) os
theorem pE:∀(os:List Obj) (w:World),Below w.heap.size w (qA w os)
 | [],w=>Below.refl _ _
 |o::os,w=>((Below.refl _ w).alloc (le_refl _) o).trans ((pE os (w.alloc o)).mono (by simp[World.size_alloc]))
theorem Ar:∀(os:List Obj) (w:World) (k:Nat) (o:Obj),os[k]? =some o->(qA w os).heap[w.heap.size+k]? =some o
 | [],w,k,o,h=>by simp at h
 |a::os,w,0,o,h=>by
  simp at h;subst h;exact((pE os (w.alloc a)).block w.heap.size (by simp[World.size_alloc])).trans (heap_alloc_new w a)
 |a::os,w,k+1,o,h=>by
  have:=Ar os (w.alloc a) k o (by simpa using h);rw[World.size_alloc]at this;rw[show w.heap.size+(k+1)=w.heap.size+1+k by omega];exact this
def lX(N:Nat):List Obj:=[
 .cells #[.slice (some ⟨N+16,0,none⟩) 2 2,.slice (some ⟨N+17,0,none⟩) 1 1,.slice (some ⟨N+19,0,none⟩) 1 1] 26,
 .cells #[.string ⟨#[104,97,108,102]⟩,.string ⟨#[110]⟩,.string ⟨#[40,105,102,32,40,61,32,36,49,32,48,41,32,40,110,111,116,101,32,48,41,32,40,47,32,49,48,48,32,36,49,41,41]⟩] 48,
 .cells #[.string ⟨#[107]⟩,.string ⟨#[110]⟩,.int .i64 5,.string ⟨#[104]⟩,.string ⟨#[98]⟩,.int .i64 2] 50,
 .cells #[.string ⟨#[109,101]⟩] 9,
 .cells #[.string ⟨#[116]⟩,.slice (some ⟨N+2,0,none⟩) 2 2,.slice (some ⟨N+9,0,none⟩) 4 4,.int .i64 100,.string ⟨#[114,111,119,46,104]⟩,.slice (some ⟨N+3,0,none⟩) 1 1] 54,
 .cells #[.int .i64 1,.int .i64 1,.string ⟨#[]⟩,.int .i64 3,.int .i64 1,.string ⟨#[]⟩] 56,
 .cells #[.int .i64 1,.int .i64 2,.string ⟨#[]⟩,.int .i64 3,.int .i64 0,.string ⟨#[]⟩] 56,
 .cells #[.int .i64 1,.int .i64 3,.string ⟨#[]⟩,.int .i64 0,.int .i64 0,.string ⟨#[]⟩] 56,
 .cells #[.int .i64 1,.int .i64 0,.string ⟨#[]⟩,.int .i64 3,.int .i64 1,.string ⟨#[]⟩] 56,
 .cells #[.slice (some ⟨N+5,0,none⟩) 2 2,.slice (some ⟨N+6,0,none⟩) 2 2,.slice (some ⟨N+7,0,none⟩) 2 2,.slice (some ⟨N+8,0,none⟩) 2 2] 57,
 .cells #[.string ⟨#[116]⟩,.string ⟨#[97]⟩] 59,
 .cells #[.string ⟨#[40,110,111,116,101,32,97,46,107,41]⟩] 9,
 .cells #[.slice (some ⟨N+10,0,none⟩) 1 1,.string ⟨#[40,60,32,48,32,97,46,107,41]⟩,.slice (some ⟨N+11,0,none⟩) 1 1,.slice none 0 0,.int .i64 (-1)] 63,
 .cells #[.string ⟨#[104,97,108,102]⟩,.string ⟨#[110]⟩,.string ⟨#[40,105,102,32,40,61,32,36,49,32,48,41,32,40,110,111,116,101,32,48,41,32,40,47,32,49,48,48,32,36,49,41,41]⟩] 48,
 .cells #[.string ⟨#[116]⟩,.slice (some ⟨N+2,0,none⟩) 2 2,.slice (some ⟨N+9,0,none⟩) 4 4,.int .i64 100,.string ⟨#[114,111,119,46,104]⟩,.slice (some ⟨N+3,0,none⟩) 1 1] 54,
 .cells #[.string ⟨#[105,102]⟩,.string ⟨#[]⟩,.string ⟨#[]⟩] 48,
 .cells #[.slice (some ⟨N+13,0,none⟩) 1 1,.slice (some ⟨N+14,0,none⟩) 1 1,.slice (some ⟨N+15,0,none⟩) 1 1,.slice none 0 0] 67,
 .cells #[.slice (some ⟨N+10,0,none⟩) 1 1,.string ⟨#[40,60,32,48,32,97,46,107,41]⟩,.slice (some ⟨N+11,0,none⟩) 1 1,.slice none 0 0,.int .i64 (-1)] 63,
 .cells #[.int .i64 1,.int .i64 8,.string ⟨#[]⟩] 56,
 .cells #[.slice (some ⟨N+18,0,none⟩) 1 1] 57]
theorem Me(w:World):Calls prog 6 #[] w λe w'=>e=.returned (.agg #[.slice (some ⟨w.heap.size+16,0,none⟩) 2 2,.slice (some ⟨w.heap.size+17,0,none⟩) 1 1,.slice (some ⟨w.heap.size+19,0,none⟩) 1 1])/\w'=qA w (lX w.heap.size):=by
 go_enter Tryz.func6,Tryz.ntmps6
 go_wp2_with fail
 exact bodyPost_ret (v:=.agg #[.slice (some ⟨w.heap.size+16,0,none⟩) 2 2,.slice (some ⟨w.heap.size+17,0,none⟩) 1 1,.slice (some ⟨w.heap.size+19,0,none⟩) 1 1]) (by simp[results,Tryz.results6,go_sem]) rfl ⟨rfl,rfl⟩
theorem JS{w:World}{g z n:Nat}{T:TypeId}{cs:List Value}(h:w.heap[g]? =some (.cells cs.toArray T (0,0)))(a:cs.length=n*z):iU w z (some ⟨g,0,none⟩) n cs:=
 ⟨a,.inr ⟨g,0,rfl,aC h,λj v b=>by rw[zero_add,af h];simpa using b⟩⟩
theorem oV{Ty:List Value->Nat->Prop}{w:World}{g z n:Nat}{T:TypeId}{cs:List Value}(h:w.heap[g]? =some (.cells cs.toArray T (0,0)))(c:cs.length=n*z)(d:n<=1048576)(b:∀v∈cs,v.oneCell'=true)(a:Ty cs n):mW Ty w z ⟨some ⟨g,0,none⟩,n,n,cs⟩:=
 ⟨d,(λe=>by cases e),JS h c,b,a⟩
def Fg:List mM:=[([104,97,108,102],[110],[40,105,102,32,40,61,32,36,49,32,48,41,32,40,110,111,116,101,32,48,41,32,40,47,32,49,48,48,32,36,49,41,41])]
def Fh:List mM:=[([105,102],[],[])]
def QZ:List aJ:=[⟨[116],[([107],[110],5),([104],[98],2)],[[(1,1,[]),(3,1,[])],[(1,2,[]),(3,0,[])],[(1,3,[]),(0,0,[])],[(1,0,[]),(3,1,[])]],100,[114,111,119,46,104],[[109,101]]⟩]
def Fj(N k:Nat)(cs:List aj):fD:=⟨some ⟨N+k,0,none⟩,2,2,eU cs⟩
def Kt(N:Nat):kU:=⟨⟨#[116]⟩,⟨some ⟨N+2,0,none⟩,2,2,jL [([107],[110],5),([104],[98],2)]⟩,some ⟨N+9,0,none⟩,4,4,[Fj N 5 [(1,1,[]),(3,1,[])],Fj N 6 [(1,2,[]),(3,0,[])],Fj N 7 [(1,3,[]),(0,0,[])],Fj N 8 [(1,0,[]),(3,1,[])]],100,⟨#[114,111,119,46,104]⟩,⟨some ⟨N+3,0,none⟩,1,1,gu [[109,101]]⟩⟩
theorem Ey(cs:List aj)(n:Nat)(h:n=cs.length):Hu (eU cs) n:=by
 subst h;intro i b;have a:=getElem?_eq_getElem b;exact⟨_,_,_,kX (λc:aj=>[int .i64 c.1,.int .i64 c.2.1,.string (aa c.2.2)]) (λ_=>rfl) cs i 0 _ a (by omega),kX (λc:aj=>[int .i64 c.1,.int .i64 c.2.1,.string (aa c.2.2)]) (λ_=>rfl) cs i 1 _ a (by omega),kX (λc:aj=>[int .i64 c.1,.int .i64 c.2.1,.string (aa c.2.2)]) (λ_=>rfl) cs i 2 _ a (by omega)⟩
theorem Ki(cs:List dL)(n:Nat)(h:n=cs.length):KZ (jL cs) n:=by
 subst h;intro i b;have a:=getElem?_eq_getElem b;exact⟨_,_,_,kX (λc:dL=>[string (aa c.1),.string (aa c.2.1),.int .i64 c.2.2]) (λ_=>rfl) cs i 0 _ a (by omega),kX (λc:dL=>[string (aa c.1),.string (aa c.2.1),.int .i64 c.2.2]) (λ_=>rfl) cs i 1 _ a (by omega),kX (λc:dL=>[string (aa c.1),.string (aa c.2.1),.int .i64 c.2.2]) (λ_=>rfl) cs i 2 _ a (by omega)⟩
theorem IG(a:List mM)(n:Nat)(h:n=a.length):Sw (kK a) n:=by
 subst h;intro i c;have b:=getElem?_eq_getElem c;exact⟨_,_,_,kX (λf:mM=>[string (aa f.1),.string (aa f.2.1),.string (aa f.2.2)]) (λ_=>rfl) a i 0 _ b (by omega),kX (λf:mM=>[string (aa f.1),.string (aa f.2.1),.string (aa f.2.2)]) (λ_=>rfl) a i 1 _ b (by omega),kX (λf:mM=>[string (aa f.1),.string (aa f.2.1),.string (aa f.2.2)]) (λ_=>rfl) a i 2 _ b (by omega)⟩
theorem KR(a:List Bs)(n:Nat)(h:n=a.length):La (gu a) n:=by
 subst h;intro i b;exact⟨_,by rw[gu,getElem?_map,getElem?_eq_getElem b];rfl⟩
theorem AL(cs:List aj):∀v∈eU cs,v.oneCell'=true:=by
 intro v a;obtain⟨c,_,h⟩:=List.mem_flatMap.mp a;simp only[mem_cons,not_mem_nil,or_false]at h;rcases h with rfl|rfl|rfl<;>rfl
theorem EC(cs:List dL):∀v∈jL cs,v.oneCell'=true:=by
 intro v a;obtain⟨c,_,h⟩:=List.mem_flatMap.mp a;simp only[mem_cons,not_mem_nil,or_false]at h;rcases h with rfl|rfl|rfl<;>rfl
theorem Ci(a:List mM):∀v∈kK a,v.oneCell'=true:=by
 intro v b;obtain⟨c,_,h⟩:=List.mem_flatMap.mp b;simp only[mem_cons,not_mem_nil,or_false]at h;rcases h with rfl|rfl|rfl<;>rfl
theorem GX(b:List Bs):∀v∈gu b,v.oneCell'=true:=by
 intro v a;obtain⟨c,_,rfl⟩:=List.mem_map.mp a;rfl
theorem xz{w:World}{g:Nat}{T:TypeId}{fs:List mM}{n:Nat}(h:w.heap[g]? =some (.cells (kK fs).toArray T (0,0)))(k:n=fs.length)(d:∀f∈fs,f.1.length<=maxLen/\f.2.2.length<=maxLen)(e:n<=maxLen):fT w (.slice (some ⟨g,0,none⟩) n n) fs:=by
 subst k;refine⟨_,_,rfl,e,.inr ⟨g,0,rfl,aC h,λi f b=> ?_⟩⟩;have a:∀(j:Nat) (u:Value),j<3->([string (aa f.1),.string (aa f.2.1),.string (aa f.2.2)]:List Value)[j]? =some u->w.cell? ⟨g,0+i*3+j,none⟩=some u:=λj u c l=>by
  rw[zero_add,af h];have m:=kX (λf:mM=>[string (aa f.1),.string (aa f.2.1),.string (aa f.2.2)]) (λ_=>rfl) fs i j f b c;simpa[kK]using m.trans l
 exact⟨⟨a 0 _ (by omega) rfl,a 1 _ (by omega) rfl,a 2 _ (by omega) rfl⟩,d f (mem_of_getElem? b)⟩
theorem Ir{w:World}{g:Nat}{T:TypeId}{cs:List dL}{n:Nat}(h:w.heap[g]? =some (.cells (jL cs).toArray T (0,0)))(l:n=cs.length)(e:∀c∈cs,c.1.length<=maxLen/\c.2.1.length<=maxLen)(k:n<=maxLen):dM w (.slice (some ⟨g,0,none⟩) n n) cs:=by
 subst l;refine⟨_,_,rfl,le_refl _,k,.inr ⟨g,0,rfl,aC h,λi f b=> ?_⟩⟩;have a:∀(j:Nat) (u:Value),j<3->([string (aa f.1),.string (aa f.2.1),.int .i64 f.2.2]:List Value)[j]? =some u->w.cell? ⟨g,0+i*3+j,none⟩=some u:=λj u d m=>by
  rw[zero_add,af h];have o:=kX (λf:dL=>[string (aa f.1),.string (aa f.2.1),.int .i64 f.2.2]) (λ_=>rfl) cs i j f b d;simpa[jL]using o.trans m
 exact⟨⟨a 0 _ (by omega) rfl,a 1 _ (by omega) rfl,a 2 _ (by omega) rfl⟩,e f (mem_of_getElem? b)⟩
theorem mZ{w:World}{g:Nat}{T:TypeId}{cs:List aj}{n:Nat}(h:w.heap[g]? =some (.cells (eU cs).toArray T (0,0)))(e:n=cs.length)(d:n<=maxLen):aO w (.slice (some ⟨g,0,none⟩) n n) cs:=by
 subst e;refine⟨_,_,rfl,d,.inr ⟨g,0,rfl,aC h,λi f b=> ?_⟩⟩;have a:∀(j:Nat) (u:Value),j<3->([int .i64 f.1,.int .i64 f.2.1,.string (aa f.2.2)]:List Value)[j]? =some u->w.cell? ⟨g,0+i*3+j,none⟩=some u:=λj u c k=>by
  rw[zero_add,af h];have l:=kX (λf:aj=>[int .i64 f.1,.int .i64 f.2.1,.string (aa f.2.2)]) (λ_=>rfl) cs i j f b c;simpa[eU]using l.trans k
 exact⟨a 0 _ (by omega) rfl,a 1 _ (by omega) rfl,a 2 _ (by omega) rfl⟩
theorem JB{w:World}{g:Nat}{T:TypeId}{a:List Bs}{n:Nat}(h:w.heap[g]? =some (.cells (gu a).toArray T (0,0)))(d:n=a.length)(c:n<=maxLen):eD w (.slice (some ⟨g,0,none⟩) n n) a:=by
 subst d;refine⟨_,_,rfl,c,.inr ⟨g,0,rfl,aC h,λi l b=> ?_⟩⟩;rw[zero_add,af h];simp[gu,b]
theorem wP(w:World):jg (qA w (lX w.heap.size)) (w.heap.size+16) 0 2/\w.heap.size+16<(qA w (lX w.heap.size)).heap.size:=by
 have d:∀(k:Nat) (o:Obj),(lX w.heap.size)[k]? =some o->(qA w (lX w.heap.size)).heap[w.heap.size+k]? =some o:=λk o h=>Ar _ w k o h;obtain⟨N,H⟩:∃N,N=w.heap.size:=⟨_,rfl⟩;rw[<-H]at d ⊢;generalize J:qA w (lX N)=W at d ⊢;have u:=d 2 _ rfl;have B:=d 3 _ rfl;have C:=d 5 _ rfl;have D:=d 6 _ rfl;have E:=d 7 _ rfl;have F:=d 8 _ rfl;have q:=d 9 _ rfl;have y:=d 13 _ rfl;have b:=d 14 _ rfl;have z:=d 15 _ rfl;have n:=d 16 _ rfl;clear d;have a:∀k:Nat,k<=100->k<=maxLen:=λk K=>by unfold maxLen;omega
 have l:∀(k:Nat) (c:List aj),W.heap[N+k]? =some (.cells (eU c).toArray 56 (0,0))->c.length=2->wE W (Fj N k c):=λk c h m=>
  oV h (by rw[eU,vC _ (λ_=>rfl),m]) (by omega) (AL c) (Ey c 2 m.symm)
 refine⟨λi g=> ?_,aC n⟩
 match i,g with
 |0,_=>
  refine⟨_,_,_,_,_,_,Fg,QZ,(af n).trans rfl,(af n).trans rfl, ?_⟩;refine⟨xz (fs:=Fg) y rfl ?_ (a _ (by omega)), ?_,⟨_,_,rfl,a _ (by decide),.inr ⟨N+14,0,rfl,aC b, ?_⟩⟩,oV (cs:=kK Fg) y rfl (by omega) (Ci _) (IG _ _ rfl),by omega,(λe=>by cases e),[Kt N],⟨rfl,.inr ⟨N+14,0,rfl,aC b, ?_⟩⟩, ?_,rfl, ?_⟩
  ·intro f p;simp[Fg]at p;subst p;exact⟨a _ (by decide),a _ (by decide)⟩
  ·intro f p;simp[Fg]at p;subst p;exact a _ (by decide)
  ·intro i t g;obtain⟨rfl,rfl⟩:i=0/\t=QZ[0]:=by
    have j:=(List.getElem?_eq_some_iff.mp g);obtain⟨x,u⟩:=j;have:i=0:=by simp[QZ]at x;omega
    subst this;exact⟨rfl,u.symm⟩
   refine⟨_,_,_,_,_,_,_,_,_,⟨(af b).trans rfl,(af b).trans rfl,(af b).trans rfl,(af b).trans rfl,(af b).trans rfl,(af b).trans rfl⟩,Ir u rfl ?_ (a _ (by omega)),⟨_,_,rfl,a _ (by decide),.inr ⟨N+9,0,rfl,aC q, ?_⟩⟩,JB B rfl (a _ (by omega)),a _ (by decide),a _ (by decide)⟩
   ·intro c m;simp[QZ]at m;rcases m with rfl|rfl<;>exact⟨a _ (by decide),a _ (by decide)⟩
   ·intro i r g;have j:i<4:=(List.getElem?_eq_some_iff.mp g).1
    match i,j with
    |0,_=>cases g;exact⟨_,_,_,(af q).trans rfl,mZ C rfl (a _ (by omega))⟩
    |1,_=>cases g;exact⟨_,_,_,(af q).trans rfl,mZ D rfl (a _ (by omega))⟩
    |2,_=>cases g;exact⟨_,_,_,(af q).trans rfl,mZ E rfl (a _ (by omega))⟩
    |3,_=>cases g;exact⟨_,_,_,(af q).trans rfl,mZ F rfl (a _ (by omega))⟩
  ·intro i s g;obtain⟨rfl,rfl⟩:i=0/\s=Kt N:=by
    obtain⟨x,u⟩:=List.getElem?_eq_some_iff.mp g;have:i=0:=by simp at x;omega
    subst this;exact⟨rfl,u.symm⟩
   exact⟨(af b).trans rfl,(af b).trans rfl,(af b).trans rfl,(af b).trans rfl,(af b).trans rfl,(af b).trans rfl⟩
  ·intro s A;obtain rfl:=List.mem_singleton.mp A;refine⟨oV u rfl (by omega) (EC _) (Ki _ _ rfl),oV B rfl (by omega) (GX _) (KR _ _ rfl),by show 4<=1048576;omega,(λe=>by cases e),⟨rfl,.inr ⟨N+9,0,rfl,aC q, ?_⟩⟩, ?_⟩
   ·intro i r g;have j:i<4:=(List.getElem?_eq_some_iff.mp g).1
    match i,j with
    |0,_=>cases g;exact(af q).trans rfl
    |1,_=>cases g;exact(af q).trans rfl
    |2,_=>cases g;exact(af q).trans rfl
    |3,_=>cases g;exact(af q).trans rfl
   ·intro r v;simp only[Kt,mem_cons,not_mem_nil,or_false]at v;rcases v with rfl|rfl|rfl|rfl
    ·exact l 5 _ C rfl
    ·exact l 6 _ D rfl
    ·exact l 7 _ E rfl
    ·exact l 8 _ F rfl
  ·intro i s t g I;obtain⟨rfl,rfl⟩:i=0/\s=Kt N:=by
    obtain⟨x,u⟩:=List.getElem?_eq_some_iff.mp g;have:i=0:=by simp at x;omega
    subst this;exact⟨rfl,u.symm⟩
   cases I;refine⟨rfl,rfl,rfl,rfl,rfl,rfl,rfl,rfl,rfl, ?_,a _ (by decide),a _ (by decide), ?_⟩
   ·intro i r c v m;have j:i<4:=(List.getElem?_eq_some_iff.mp v).1
    match i,j with
    |0,_=>cases v;cases m;exact⟨rfl,rfl⟩
    |1,_=>cases v;cases m;exact⟨rfl,rfl⟩
    |2,_=>cases v;cases m;exact⟨rfl,rfl⟩
    |3,_=>cases v;cases m;exact⟨rfl,rfl⟩
   ·intro c m;simp at m;rcases m with rfl|rfl<;>exact⟨a _ (by decide),a _ (by decide)⟩
 |1,_=>
  refine⟨_,_,_,_,_,_,Fh,[],(af n).trans rfl,(af n).trans rfl, ?_⟩;refine⟨xz (fs:=Fh) z rfl ?_ (a _ (by omega)), ?_,⟨_,_,rfl,a _ (by decide),.inl rfl⟩,oV (cs:=kK Fh) z rfl (by omega) (Ci _) (IG _ _ rfl),by omega,(λ_=>⟨rfl,rfl⟩),[],⟨rfl,.inl rfl⟩,(λs A=>by simp at A),rfl,λi s t g=>by simp at g⟩
  ·intro f p;simp[Fh]at p;subst p;exact⟨a _ (by decide),a _ (by decide)⟩
  ·intro f p;simp[Fh]at p;subst p;exact a _ (by decide)
def zM(w:World)(b off n:Nat):Prop:=∀i,i<n->∃(k x y:Int) (s t:ByteArray) (lo:Option Addr) (ln lc:Nat),
 w.cell? ⟨b,off+i*6,none⟩=some (.int .i64 k)/\w.cell? ⟨b,off+i*6+1,none⟩=some (.int .i64 x)/\w.cell? ⟨b,off+i*6+2,none⟩=some (.int .i64 y)/\
 w.cell? ⟨b,off+i*6+3,none⟩=some (.string s)/\w.cell? ⟨b,off+i*6+4,none⟩=some (.string t)/\w.cell? ⟨b,off+i*6+5,none⟩=some (.slice lo ln lc)/\ -9223372036854775808<=x/\x<=9223372036854775807
theorem Pj(x:World)(cs:Array Value)(T:TypeId){b n:Nat}(hb:b=x.heap.size)(h:∀i,i<n->∃(k x y:Int) (s t:ByteArray) (lo:Option Addr) (d c:Nat),cs[i*6]? =some (.int .i64 k)/\cs[i*6+1]? =some (.int .i64 x)/\cs[i*6+2]? =some (.int .i64 y)/\
  cs[i*6+3]? =some (.string s)/\cs[i*6+4]? =some (.string t)/\cs[i*6+5]? =some (.slice lo d c)/\ -9223372036854775808<=x/\x<=9223372036854775807):zM (x.alloc (.cells cs T)) b 0 n:=by
 subst hb;have a:∀j,(x.alloc (.cells cs T)).cell? ⟨x.heap.size,j,none⟩=cs[j]? :=λj=>uw (heap_alloc_new x _);intro i q;obtain⟨k,y,z,s,t,lo,d,c,e,f,g,l,m,o,p⟩:=h i q;simp only[zero_add];exact⟨k,y,z,s,t,lo,d,c,(a _).trans e,(a _).trans f,(a _).trans g,(a _).trans l,(a _).trans m,(a _).trans o,p⟩
theorem Ra(w:World):Calls prog 6 #[] w λe w'=>e=.returned (.agg #[.slice (some ⟨w.heap.size+16,0,none⟩) 2 2,.slice (some ⟨w.heap.size+17,0,none⟩) 1 1,.slice (some ⟨w.heap.size+19,0,none⟩) 1 1])/\Below w.heap.size w w'/\w.heap.size+16<w'.heap.size/\jg w' (w.heap.size+16) 0 2:=
 (Me w).mono λe w' ⟨a,h2⟩=>by
  subst h2;exact⟨a,pE _ w,(wP w).2,(wP w).1⟩
theorem Vm{w:World}{b a:Nat}{v:Value}(h:w.cell? ⟨b,a,none⟩=some v):b<w.heap.size:=by
 rcases Nat.lt_or_ge b w.heap.size with h'|h'
 ·exact h'
 ·simp[World.cell?,Array.getElem?_eq_none h']at h
theorem Rm{α:Type}{n:Nat}{p:Nat->α->Prop}(h:∀i,i<n->∃a,p i a):∃l:List α,l.length=n/\∀(i:Nat) (a:α),l[i]? =some a->p i a:=by
 refine⟨List.ofFn λi:Fin n=>Classical.choose (h i.1 i.2),by simp,λi a c=> ?_⟩;have b:=(List.getElem?_eq_some_iff.mp c).1;rw[List.length_ofFn]at b;rw[List.getElem?_ofFn,dif_pos b]at c
 cases c;exact Classical.choose_spec (h i b)
section
variable {H : Type}
theorem NT(d:DataW H):1<=Rows.uptoBulk d:=by
 cases d with
 |lit l=>cases l<;>simp[Rows.uptoBulk]
 |_=>simp[Rows.uptoBulk]
theorem yD:∀(l:List (DataW H)) (d:DataW H),d∈l->Rows.uptoBulk d<=Rows.uptoBulkAll l
 | [],d,h=>by simp at h
 |a::r,d,h=>by
  rw[Rows.uptoBulkAll];rcases List.mem_cons.mp h with rfl|h
  ·omega
  ·have:=yD r d h;omega
theorem Ep:∀l:List (DataW H),l.length<=Rows.uptoBulkAll l
 | []=>by simp
 |a::r=>by rw[Rows.uptoBulkAll,List.length_cons];have:=Ep r;have:=NT a;omega
end
section
variable {H : Type} {enc : TypeId × Value -> H} {w : World} {base : Nat} {sp : Nat -> Bool} {hd : Bool}
theorem vU{t e:TypeId}{p M z:Nat}{cs:List Value}{x:DataW H × List MemPlace}(V:Tryz.prog.underlying t=some (.slice e))(X:Tryz.prog.cellsOf e=z)(Y:0<z)(h:DataW.trod enc prog w base sp hd p t cs=some x)(hb:Rows.uptoBulk x.1<=M):
  ∃(P:Option Addr) (n c:Nat),cs= [.slice P n c]/\n<=M/\n<=c/\(P=none->n=0/\c=0)/\(n=0\/∃b f,P=some ⟨b,f,none⟩/\b<w.heap.size/\∀i,i<n->∃(d:List Value) (y:DataW H × List MemPlace) (k:Nat),d.length=z/\(∀(j:Nat) (v:Value),d[j]? =some v->w.cell? ⟨b,f+i*z+j,none⟩=some v)/\DataW.trod enc prog w base sp hd k e d=some y/\Rows.uptoBulk y.1<=M):=by
 rcases Go.Deep.open_slice V h with⟨B,_⟩|⟨a,l,c,m,n,D,Q,G,_,S,hm,L,W,I⟩
 ·subst B;exact⟨none,0,0,rfl,Nat.zero_le _,le_refl _,λ_=>⟨rfl,rfl⟩,.inl rfl⟩
 ·subst G W;have E:Rows.uptoBulkAll ((range l).map D)<=M:=by
   rw[Rows.uptoBulk]at hb;omega
  have K:l<=M:=by have:=Ep ((range l).map D);rw[length_map,List.length_range]at this;omega
  refine⟨some a,l,c,rfl,K,S,(λe=>by cases e), ?_⟩;by_cases B:l=0
  ·exact .inl B
  right;have U:l<=m:=by rw[L];split<;>omega
  have each:∀i,i<l->∃(d:List Value),d.length=z/\(∀(j:Nat) (v:Value),d[j]? =some v->w.cell? (a.add (i*z+j))=some v)/\DataW.trod enc prog w base sp hd n e d=some (D i,Q i):=by
   intro i J;obtain⟨d,s,C⟩:=I i (by omega);rw[X]at s;obtain⟨_,q,g⟩:=World.cells?_some s;refine⟨d,q,λj v u=> ?_,C⟩;have Z:=(List.getElem?_eq_some_iff.mp u).1;have:=g j (by omega);rw[Go.Deep.add_add]at this;rw[this];exact u
  obtain⟨b,f,r⟩:=a;obtain⟨A,T,F,_⟩:=each 0 (by omega);obtain⟨v0,O⟩:∃v,A[0]? =some v:=⟨_,getElem?_eq_getElem (by omega)⟩;have N:=F 0 v0 O;have o:r=none:=by simpa[Addr.add]using World.cell?_spot N
  subst o;rw[Addr.add_lit]at N;refine⟨b,f,rfl,Vm N,λi J=> ?_⟩;obtain⟨d,s,C,R⟩:=each i J;refine⟨d,(D i,Q i),n,s,λj v u=> ?_,R, ?_⟩
  ·have:=C j v u
   rwa[Addr.add_lit,<-Nat.add_assoc]at this
  ·exact Nat.le_trans (yD _ _ (List.mem_map.mpr ⟨i,List.mem_range.mpr J,rfl⟩)) E
theorem kz{α:Type}(f:α->List Value)(q:α->Prop){t e:TypeId}{o M z:Nat}{cs:List Value}{x:DataW H × List MemPlace}(Q:Tryz.prog.underlying t=some (.slice e))(R:Tryz.prog.cellsOf e=z)(D:0<z)(h:DataW.trod enc prog w base sp hd o t cs=some x)(hb:Rows.uptoBulk x.1<=M)
  (P:∀(d:List Value) (y:DataW H × List MemPlace) (k:Nat),d.length=z->DataW.trod enc prog w base sp hd k e d=some y->Rows.uptoBulk y.1<=M->∃a,d=f a/\q a):
  ∃(m:Option Addr) (n c:Nat) (l:List α),cs= [.slice m n c]/\n<=M/\n<=c/\(m=none->n=0/\c=0)/\l.length=n/\(∀a∈l,q a)/\(n=0\/∃b g,m=some ⟨b,g,none⟩/\b<w.heap.size/\∀(i:Nat) (a:α),l[i]? =some a->∀(j:Nat) (v:Value),(f a)[j]? =some v->w.cell? ⟨b,g+i*z+j,none⟩=some v):=by
 obtain⟨m,n,c,rfl,E,F,G,N⟩:=vU Q R D h hb;by_cases A:n=0
 ·exact⟨m,n,c,[],rfl,E,F,G,by simp[A],λa r=>by simp at r,.inl A⟩
 ·obtain⟨b,g,I,O,B⟩:=N.resolve_left A;obtain⟨l,C,u⟩:=Rm (p:=λi a=>q a/\∀(j:Nat) (v:Value),(f a)[j]? =some v->w.cell? ⟨b,g+i*z+j,none⟩=some v) (λi s=>by
   obtain⟨d,y,k,g1,J,K,L⟩:=B i s;obtain⟨a,rfl,r⟩:=P d y k g1 K L;exact⟨a,r,J⟩)
  refine⟨m,n,c,l,rfl,E,F,G,C,λa r=> ?_,.inr ⟨b,g,I,O,λi a s=>(u i a s).2⟩⟩;obtain⟨i,s,rfl⟩:=List.getElem_of_mem r;exact(u i _ (getElem?_eq_getElem s)).1
theorem Kb:Tryz.prog.cellsOf 3=1:=by kernel_rfl
theorem AB:Tryz.prog.cellsOf 9=1:=by kernel_rfl
theorem Tf:Tryz.prog.cellsOf 56=3:=by kernel_rfl
theorem UT:Tryz.prog.cellsOf 50=3:=by kernel_rfl
theorem VN:Tryz.prog.cellsOf 48=3:=by kernel_rfl
theorem Ve:Tryz.prog.cellsOf 54=6:=by kernel_rfl
theorem Te:Tryz.prog.cellsOf 67=2:=by kernel_rfl
theorem UU:Tryz.prog.cellsOf 57=1:=by kernel_rfl
theorem Sz:Tryz.prog.cellsOf 24=1:=by kernel_rfl
theorem UW:Tryz.prog.cellsOf 51=1:=by kernel_rfl
theorem UX:Tryz.prog.cellsOf 52=1:=by kernel_rfl
theorem UY:Tryz.prog.cellsOf 64=1:=by kernel_rfl
theorem UZ:Tryz.prog.cellsOf 65=1:=by kernel_rfl
theorem l2{α:Type}{l:List α}(h:l.length=2):∃a b,l= [a,b]:=by
 match l,h with
 | [a,b],_=>exact⟨a,b,rfl⟩
theorem l3{α:Type}{l:List α}(h:l.length=3):∃a b c,l= [a,b,c]:=by
 match l,h with
 | [a,b,c],_=>exact⟨a,b,c,rfl⟩
theorem l6{α:Type}{l:List α}(h:l.length=6):∃a b c d e f,l= [a,b,c,d,e,f]:=by
 match l,h with
 | [a,b,c,d,e,f],_=>exact⟨a,b,c,d,e,f,rfl⟩
theorem MG{k:Nat}{cs:List Value}{y:DataW H × List MemPlace}(j:cs.length=3)(h:DataW.trod enc prog w base sp hd k 56 cs=some y):∃c:aj,cs= [.int .i64 c.1,.int .i64 c.2.1,.string (aa c.2.2)]:=by
 obtain⟨o,n,_,_,_,b,a⟩:=DataW.trod_struct Tryz.underlying56 h;obtain⟨q,r,t,rfl⟩:=l3 (show o.length=3 from b);obtain⟨v0,p,v2,rfl⟩:=l3 j;have d:=a 0 _ rfl;have g1:=a 1 _ rfl;have e:=a 2 _ rfl;simp[Kb,AB]at d g1 e;obtain⟨l,f,_⟩:=DataW.trod_int Tryz.underlying3 d;obtain⟨m,g,_⟩:=DataW.trod_int Tryz.underlying3 g1;obtain⟨s,i,_⟩:=DataW.trod_string Tryz.underlying9 e;simp only[List.cons.injEq,and_true]at f g i;subst f g i;exact⟨(l,m,s.toList),by rw[<-oq s]⟩
theorem Px{k:Nat}{cs:List Value}{y:DataW H × List MemPlace}(j:cs.length=3)(h:DataW.trod enc prog w base sp hd k 50 cs=some y):∃c:dL,cs= [.string (aa c.1),.string (aa c.2.1),.int .i64 c.2.2]/\c.1.length<=maxLen/\c.2.1.length<=maxLen:=by
 obtain⟨p,n,_,_,_,b,a⟩:=DataW.trod_struct Tryz.underlying50 h;obtain⟨r,u,v,rfl⟩:=l3 (show p.length=3 from b);obtain⟨v0,q,v2,rfl⟩:=l3 j;have d:=a 0 _ rfl;have g1:=a 1 _ rfl;have e:=a 2 _ rfl;simp[Kb,AB]at d g1 e;obtain⟨s,f,_,l⟩:=DataW.trod_string Tryz.underlying9 d;obtain⟨t,g,_,m⟩:=DataW.trod_string Tryz.underlying9 g1;obtain⟨o,i,_⟩:=DataW.trod_int Tryz.underlying3 e;simp only[List.cons.injEq,and_true]at f g i;subst f g i;exact⟨(s.toList,t.toList,o),by rw[<-oq s,<-oq t],by rw[ah];exact l,by rw[ah];exact m⟩
theorem RD{k:Nat}{cs:List Value}{y:DataW H × List MemPlace}(j:cs.length=3)(h:DataW.trod enc prog w base sp hd k 48 cs=some y):∃f:mM,cs= [.string (aa f.1),.string (aa f.2.1),.string (aa f.2.2)]/\f.1.length<=maxLen/\f.2.1.length<=maxLen/\f.2.2.length<=maxLen:=by
 obtain⟨p,n,_,_,_,b,a⟩:=DataW.trod_struct Tryz.underlying48 h;obtain⟨r,v,x,rfl⟩:=l3 (show p.length=3 from b);obtain⟨v0,q,v2,rfl⟩:=l3 j;have c:=a 0 _ rfl;have g1:=a 1 _ rfl;have d:=a 2 _ rfl;simp[AB]at c g1 d;obtain⟨s,e,_,l⟩:=DataW.trod_string Tryz.underlying9 c;obtain⟨t,g,_,m⟩:=DataW.trod_string Tryz.underlying9 g1;obtain⟨u,i,_,o⟩:=DataW.trod_string Tryz.underlying9 d;simp only[List.cons.injEq,and_true]at e g i;subst e g i;exact⟨(s.toList,t.toList,u.toList),by rw[<-oq s,<-oq t,<-oq u],by rw[ah];exact l,by rw[ah];exact m,by rw[ah];exact o⟩
theorem PD{k:Nat}{cs:List Value}{y:DataW H × List MemPlace}(_:cs.length=1)(h:DataW.trod enc prog w base sp hd k 9 cs=some y):∃l:Bs,cs= [.string (aa l)]:=by
 obtain⟨s,a,_,b⟩:=DataW.trod_string Tryz.underlying9 h;exact⟨s.toList,by rw[a,<-oq s]⟩
end
theorem LG{α:Type}(f:α->List Value)(b:∀a,(f a).length=3){l:List α}{j:Nat}{v:Value}(h:(l.flatMap f)[j]? =some v):∃a,l[j / 3]? =some a/\(f a)[j % 3]? =some v:=by
 have d:=(List.getElem?_eq_some_iff.mp h).1;rw[vC f b]at d;have c:j / 3<l.length:=by omega
 refine⟨_,getElem?_eq_getElem c, ?_⟩;have:=kX f b l (j / 3) (j % 3) _ (getElem?_eq_getElem c) (by omega);rw[show j / 3*3+j % 3=j by omega]at this;rw[<-this];exact h
theorem Qo{α:Type}(f:α->List Value)(g:∀a,(f a).length=3){w:World}{k:Option Addr}{n:Nat}{l:List α}(o:l.length=n)(h:n=0\/∃b c,k=some ⟨b,c,none⟩/\b<w.heap.size/\∀(i:Nat) (a:α),l[i]? =some a->∀(j:Nat) (v:Value),(f a)[j]? =some v->w.cell? ⟨b,c+i*3+j,none⟩=some v):iU w 3 k n (l.flatMap f):=by
 refine⟨by rw[vC f g,o], ?_⟩;rcases h with h|⟨b,c,e,hb,hc⟩
 ·exact .inl h
 ·refine .inr ⟨b,c,e,hb,λj v p=> ?_⟩;obtain⟨a,m,d⟩:=LG f g p;have:=hc _ a m _ v d
  rwa[Nat.add_assoc,show j / 3*3+j % 3=j by omega]at this
section
variable {H : Type} {enc : TypeId × Value -> H} {w : World} {base : Nat} {sp : Nat -> Bool} {hd : Bool}
theorem Jg{k:Nat}{cs:List Value}{y:DataW H × List MemPlace}(h:DataW.trod enc prog w base sp hd k 57 cs=some y)(hb:Rows.uptoBulk y.1<=1048576):
  ∃(r:fD) (l:List aj),cs= [.slice r.ro r.rn r.rc]/\wE w r/\r.cs=eU l/\r.rn=l.length/\aO w (.slice r.ro r.rn r.rc) l:=by
 obtain⟨o,n,c,l,rfl,q,_,s,d,_,m⟩:=kz (λc:aj=>[int .i64 c.1,.int .i64 c.2.1,.string (aa c.2.2)]) (λ_=>True) Tryz.underlying57 Tf (by omega) h hb (λp y k j t _=>by obtain⟨c,f⟩:=MG j t;exact⟨c,f,trivial⟩);refine⟨⟨o,n,c,eU l⟩,l,rfl,⟨q,s,Qo _ (λ_=>rfl) d m,AL l,Ey l n d.symm⟩,rfl,d.symm, ?_⟩;refine⟨o,c,by rw[d],by rw[d];unfold maxLen;omega, ?_⟩;rcases m with h|⟨b,off,e,j,f⟩
 ·exact .inl (eq_nil_of_length_eq_zero (by omega))
 ·exact .inr ⟨b,off,e,j,λi a g=>⟨f i a g 0 _ rfl,f i a g 1 _ rfl,f i a g 2 _ rfl⟩⟩
theorem MI{k:Nat}{cs:List Value}{y:DataW H × List MemPlace}(h:DataW.trod enc prog w base sp hd k 24 cs=some y)(hb:Rows.uptoBulk y.1<=1048576):
  ∃(g:Option Addr) (n c:Nat) (rows:List fD) (q:List (List aj)),cs= [.slice g n c]/\n<=1048576/\(g=none->n=0/\c=0)/\lI w g n rows/\(∀r∈rows,wE w r)/\n=q.length/\rows.length=q.length/\(∀(i:Nat) (r:fD) (l:List aj),rows[i]? =some r->q[i]? =some l->r.cs=eU l/\r.rn=l.length)/\RowsIn w (.slice g n c) q:=by
 obtain⟨g,n,c,L,rfl,A,_,B,m,o,s⟩:=kz (λa:fD × List aj=>[Value.slice a.1.ro a.1.rn a.1.rc]) (λa=>wE w a.1/\a.1.cs=eU a.2/\a.1.rn=a.2.length/\aO w (.slice a.1.ro a.1.rn a.1.rc) a.2) Tryz.underlying24 UU (by omega) h hb (λt y k _ C D=>by obtain⟨r,l,g1,u,v,x,z⟩:=Jg C D;exact⟨(r,l),g1,u,v,x,z⟩);refine⟨g,n,c,L.map (·.1),L.map (·.2),rfl,A,B,⟨by rw[length_map,m], ?_⟩, ?_,by rw[length_map,m],by rw[length_map,length_map], ?_,⟨g,c,by rw[length_map,m],by rw[length_map,m];unfold maxLen;omega, ?_⟩⟩
 ·rcases s with h|⟨b,off,e,f,hc⟩
  ·exact .inl h
  ·refine .inr ⟨b,off,e,f,λi r j=> ?_⟩;rw[getElem?_map]at j;obtain⟨a,d,rfl⟩:=Option.map_eq_some_iff.mp j;have:=hc i a d 0 _ rfl;simpa using this
 ·intro r p;obtain⟨a,d,rfl⟩:=List.mem_map.mp p;exact(o a d).1
 ·intro i r l p f;rw[getElem?_map]at p f;obtain⟨a,d,rfl⟩:=Option.map_eq_some_iff.mp p;rw[d]at f
  cases f;exact⟨(o a (mem_of_getElem? d)).2.1,(o a (mem_of_getElem? d)).2.2.1⟩
 ·rcases s with h|⟨b,off,e,f,hc⟩
  ·exact .inl (by rw[eq_nil_of_length_eq_zero (show L.length=0 by omega)];rfl)
  ·refine .inr ⟨b,off,e,f,λi l j=> ?_⟩;rw[getElem?_map]at j;obtain⟨a,d,rfl⟩:=Option.map_eq_some_iff.mp j;exact⟨_,_,_,by have:=hc i a d 0 _ rfl;simpa using this,(o a (mem_of_getElem? d)).2.2.2⟩
theorem MH{k:Nat}{cs:List Value}{y:DataW H × List MemPlace}(h:DataW.trod enc prog w base sp hd k 51 cs=some y)(hb:Rows.uptoBulk y.1<=1048576):
  ∃(r:fD) (l:List dL),cs= [.slice r.ro r.rn r.rc]/\mW KZ w 3 r/\r.cs=jL l/\r.rn=l.length/\(∀c∈l,c.1.length<=maxLen/\c.2.1.length<=maxLen)/\dM w (.slice r.ro r.rn r.rc) l:=by
 obtain⟨p,n,c,l,rfl,s,t,u,d,m,o⟩:=kz (λc:dL=>[string (aa c.1),.string (aa c.2.1),.int .i64 c.2.2]) (λc=>c.1.length<=maxLen/\c.2.1.length<=maxLen) Tryz.underlying51 UT (by omega) h hb (λq y k j x _=>by obtain⟨c,f,v⟩:=Px j x;exact⟨c,f,v⟩);refine⟨⟨p,n,c,jL l⟩,l,rfl,⟨s,u,Qo _ (λ_=>rfl) d o,EC l,Ki l n d.symm⟩,rfl,d.symm,m, ?_⟩;refine⟨p,c,by rw[d],by rw[d];exact t,by rw[d];unfold maxLen;omega, ?_⟩;rcases o with h|⟨b,off,e,j,f⟩
 ·exact .inl (eq_nil_of_length_eq_zero (by omega))
 ·exact .inr ⟨b,off,e,j,λi a g=>⟨⟨f i a g 0 _ rfl,f i a g 1 _ rfl,f i a g 2 _ rfl⟩,m a (mem_of_getElem? g)⟩⟩
theorem Py{k:Nat}{cs:List Value}{y:DataW H × List MemPlace}(h:DataW.trod enc prog w base sp hd k 64 cs=some y)(hb:Rows.uptoBulk y.1<=1048576):
  ∃(d:Option Addr) (n c:Nat) (l:List mM),cs= [.slice d n c]/\mW Sw w 3 ⟨d,n,c,kK l⟩/\(∀f∈l,f.2.1.length<=maxLen)/\fT w (.slice d n c) l:=by
 obtain⟨d,n,c,l,rfl,s,z,t,m,o,q⟩:=kz (λf:mM=>[string (aa f.1),.string (aa f.2.1),.string (aa f.2.2)]) (λf=>f.1.length<=maxLen/\f.2.1.length<=maxLen/\f.2.2.length<=maxLen) Tryz.underlying64 VN (by omega) h hb (λr y k p x _=>by obtain⟨c,g,v⟩:=RD p x;exact⟨c,g,v⟩);refine⟨d,n,c,l,rfl,⟨s,t,Qo _ (λ_=>rfl) m q,Ci l,IG l n m.symm⟩,λf u=>(o f u).2.1, ?_⟩;refine⟨d,c,by rw[m],by rw[m];unfold maxLen;omega, ?_⟩;rcases q with h|⟨b,off,e,p,g⟩
 ·exact .inl (eq_nil_of_length_eq_zero (by omega))
 ·exact .inr ⟨b,off,e,p,λi a j=>⟨⟨g i a j 0 _ rfl,g i a j 1 _ rfl,g i a j 2 _ rfl⟩,(o a (mem_of_getElem? j)).1,(o a (mem_of_getElem? j)).2.2⟩⟩
theorem MJ{k:Nat}{cs:List Value}{y:DataW H × List MemPlace}(h:DataW.trod enc prog w base sp hd k 52 cs=some y)(hb:Rows.uptoBulk y.1<=1048576):
  ∃(r:fD) (l:List Bs),cs= [.slice r.ro r.rn r.rc]/\mW La w 1 r/\r.cs=gu l/\r.rn=l.length/\eD w (.slice r.ro r.rn r.rc) l:=by
 obtain⟨p,n,c,l,rfl,t,_,u,g,_,x⟩:=kz (λl:Bs=>[string (aa l)]) (λ_=>True) Tryz.underlying52 AB (by omega) h hb (λs y k o B _=>by obtain⟨c,m⟩:=PD o B;exact⟨c,m,trivial⟩);have f:n=0\/∃b d,p=some ⟨b,d,none⟩/\b<w.heap.size/\∀(i:Nat) (a:Bs),l[i]? =some a->w.cell? ⟨b,d+i,none⟩=some (.string (aa a)):=by
  rcases x with h|⟨b,d,e,o,m⟩
  ·exact .inl h
  ·exact .inr ⟨b,d,e,o,λi a A=>by have:=m i a A 0 _ rfl;simpa using this⟩
 refine⟨⟨p,n,c,gu l⟩,l,rfl,⟨t,u,⟨by rw[gu,length_map,g,Nat.mul_one], ?_⟩,GX l,KR l n g.symm⟩,rfl,g.symm,p,c,by rw[g],by rw[g];unfold maxLen;omega, ?_⟩
 ·rcases f with h|⟨b,d,e,o,m⟩
  ·exact .inl h
  ·refine .inr ⟨b,d,e,o,λj v q=> ?_⟩;rw[gu,getElem?_map]at q;obtain⟨a,z,rfl⟩:=Option.map_eq_some_iff.mp q;exact m j a z
 ·rcases f with h|h
  ·exact .inl (eq_nil_of_length_eq_zero (by omega))
  ·exact .inr h
end
theorem oh{H:Type}{a:List (DataW H × List MemPlace)}{x:DataW H × List MemPlace}{M:Nat}(h:Rows.uptoBulk (DataW.agg (a.map (·.1)))<=M)(b:x∈a):Rows.uptoBulk x.1<=M:=by
 rw[Rows.uptoBulk]at h;have:=yD (a.map (·.1)) x.1 (List.mem_map.mpr ⟨x,b,rfl⟩);omega
section
variable {H : Type} {enc : TypeId × Value -> H} {w : World} {base : Nat} {sp : Nat -> Bool} {hd : Bool}
def Bo(s:kU):List Value:=[.string s.name,.slice s.k.ro s.k.rn s.k.rc,.slice s.ro s.rn s.rc,.int .i64 s.count,.string s.aD,.slice s.u.ro s.u.rn s.u.rc]
structure Su(w:World)(s:kU)(t:aJ):Prop where
 ok:yl w s
 ty:NF s t
 ax:dM w (.slice s.k.ro s.k.rn s.k.rc) t.ax
 rows:RowsIn w (.slice s.ro s.rn s.rc) t.rows
 eZ:eD w (.slice s.u.ro s.u.rn s.u.rc) t.eZ
theorem PE{k:Nat}{cs:List Value}{y:DataW H × List MemPlace}(t:cs.length=6)(h:DataW.trod enc prog w base sp hd k 54 cs=some y)(hb:Rows.uptoBulk y.1<=1048576):∃a:kU × aJ,cs=Bo a.1/\Su w a.1 a.2:=by
 obtain⟨S,n,_,x,_,c,b⟩:=DataW.trod_struct Tryz.underlying54 h;subst x;obtain⟨U,V,W,X,Y,Z,rfl⟩:=l6 (show S.length=6 from c);obtain⟨v0,T,v2,v3,v4,v5,rfl⟩:=l6 t;have d:=b 0 _ rfl;have g1:=b 1 _ rfl;have e:=b 2 _ rfl;have f:=b 3 _ rfl;have g:=b 4 _ rfl;have i:=b 5 _ rfl;simp[Kb,AB,Sz,UW,UX]at d g1 e f g i;obtain⟨s,j,_,v⟩:=DataW.trod_string Tryz.underlying9 d;obtain⟨kr,D,l,z,A,B,k4,C⟩:=MH g1 (oh hb (by simp));obtain⟨ro,rn,rc,rows,L,m,r1,r2,E,F,G,I,J,K⟩:=MI e (oh hb (by simp));obtain⟨cn,o,_⟩:=DataW.trod_int Tryz.underlying3 f;obtain⟨p,q,_,u⟩:=DataW.trod_string Tryz.underlying9 g;obtain⟨N,M,r,O,P,Q,R⟩:=MJ i (oh hb (by simp));simp only[List.cons.injEq,and_true]at j l m o q r;subst j l m o q r;refine⟨(⟨s,kr,ro,rn,rc,rows,cn,p,N⟩,⟨s.toList,D,L,cn,p.toList,M⟩),rfl,⟨z,O,r1,r2,E,F⟩,⟨oq s,rfl,oq p,A,B,P,Q,G,I,J,by show s.toList.length<=maxLen;rw[ah];exact v,by show p.toList.length<=maxLen;rw[ah];exact u,k4⟩,C,K,R⟩
theorem MF{k:Nat}{cs:List Value}{y:DataW H × List MemPlace}(g:cs.length=2)(h:DataW.trod enc prog w base sp hd k 67 cs=some y)(hb:Rows.uptoBulk y.1<=1048576):∃(q:Option Addr) (p o:Nat) (d:Option Addr) (u m:Nat) (v:List mM) (F:List aJ),cs= [.slice q p o,.slice d u m]/\DD w q p o d u m v F:=by
 obtain⟨G,n,_,z,_,x,B⟩:=DataW.trod_struct Tryz.underlying67 h;subst z;obtain⟨J,K,rfl⟩:=l2 (show G.length=2 from x);obtain⟨v0,I,rfl⟩:=l2 g;have A:=B 0 _ rfl;have g1:=B 1 _ rfl;simp[UY,UZ]at A g1;obtain⟨q,p,o,v,C,f1,f2,f3⟩:=Py A (oh hb (by simp));obtain⟨d,u,m,L,D,t1,_,t3,t4,t5,t6⟩:=kz (λa:kU × aJ=>Bo a.1) (λa=>Su w a.1 a.2) Tryz.underlying65 Ve (by omega) g1 (oh hb (by simp)) (λE y k g l z=>PE g l z);simp only[List.cons.injEq,and_true]at C D;subst C D;refine⟨q,p,o,d,u,m,v,L.map (·.2),rfl,f3,f2,⟨d,m,by rw[length_map,t4],by rw[length_map,t4];unfold maxLen;omega, ?_⟩,f1,t1,t3,L.map (·.1),⟨by rw[length_map,t4], ?_⟩, ?_,by rw[length_map,length_map], ?_⟩
 ·rcases t6 with h|⟨b,off,e,g,hc⟩
  ·exact .inl (by rw[eq_nil_of_length_eq_zero (show L.length=0 by omega)];rfl)
  ·refine .inr ⟨b,off,e,g,λi t j=> ?_⟩;rw[getElem?_map]at j;obtain⟨a,c,rfl⟩:=Option.map_eq_some_iff.mp j;have f:=t5 a (mem_of_getElem? c);refine⟨_,_,_,_,_,_,_,_,_,⟨?_,hc i a c 1 _ rfl,hc i a c 2 _ rfl, ?_, ?_,hc i a c 5 _ rfl⟩,f.ax,f.rows,f.eZ,f.ty.SC,f.ty.KD⟩
   ·rw[<-f.ty.name];exact hc i a c 0 _ rfl
   ·rw[<-f.ty.count];exact hc i a c 3 _ rfl
   ·rw[<-f.ty.aD];exact hc i a c 4 _ rfl
 ·rcases t6 with h|⟨b,off,e,g,hc⟩
  ·exact .inl h
  ·refine .inr ⟨b,off,e,g,λi s j=> ?_⟩;rw[getElem?_map]at j;obtain⟨a,c,rfl⟩:=Option.map_eq_some_iff.mp j;exact⟨hc i a c 0 _ rfl,hc i a c 1 _ rfl,hc i a c 2 _ rfl,hc i a c 3 _ rfl,hc i a c 4 _ rfl,hc i a c 5 _ rfl⟩
 ·intro s r;obtain⟨a,c,rfl⟩:=List.mem_map.mp r;exact(t5 a c).ok
 ·intro i s t r l;rw[getElem?_map]at r l;obtain⟨a,c,rfl⟩:=Option.map_eq_some_iff.mp r;rw[c]at l
  cases l;exact(t5 a (mem_of_getElem? c)).ty
theorem Jf{k:Nat}{cs:List Value}{y:DataW H × List MemPlace}(h:DataW.trod enc prog w base sp hd k 22 cs=some y)(hb:Rows.uptoBulk y.1<=1048576):
  ∃(a0:Option Addr) (d j:Nat),cs= [.slice a0 d j]/\d<=1048576/\(d=0\/∃b a,a0=some ⟨b,a,none⟩/\b<w.heap.size/\jg w b a d):=by
 obtain⟨z,n,c,rfl,t,_,_,u⟩:=vU Tryz.underlying22 Te (by omega) h hb;refine⟨z,n,c,rfl,t, ?_⟩;rcases u with h|⟨b,a,e,hl,hel⟩
 ·exact .inl h
 ·refine .inr ⟨b,a,e,hl,λi x=> ?_⟩;obtain⟨l,y,k,g1,g,r,s⟩:=hel i x;obtain⟨p,o,m,f,B,A,q,C,rfl,v⟩:=MF g1 r s;exact⟨p,o,m,f,B,A,q,C,g 0 _ rfl,g 1 _ rfl,v⟩
theorem VO:Tryz.prog.cellsOf 44=6:=by kernel_rfl
theorem Vb:Tryz.prog.cellsOf 42=1:=by kernel_rfl
theorem Va:Tryz.prog.cellsOf 22=1:=by kernel_rfl
theorem Vd:Tryz.prog.cellsOf 23=1:=by kernel_rfl
theorem tF{k:Nat}{t e:TypeId}{cs:List Value}{y:DataW H × List MemPlace}(b:Tryz.prog.underlying t=some (.slice e))(h:DataW.trod enc prog w base sp hd k t cs=some y):∃a l c,cs= [.slice a l c]:=by
 rcases DataW.trod_slice b h with⟨rfl,_⟩|⟨a,len,cap,_,_,_,_,rfl,_⟩<;>exact⟨_,_,_,rfl⟩
end
section
variable {H : Type} {enc : TypeId × Value -> H} {w : World} {base : Nat} {sp : Nat -> Bool} {hd : Bool}
theorem Jh{k:Nat}{cs:List Value}{y:DataW H × List MemPlace}(q:cs.length=3)(h:DataW.trod enc prog w base sp hd k 26 cs=some y)(hb:Rows.uptoBulk y.1<=1048576):
  ∃a0 c f a1 s g a2 t i,cs= [.slice a0 c f,.slice a1 s g,.slice a2 t i]/\c<=1048576/\(c=0\/∃b a,a0=some ⟨b,a,none⟩/\b<w.heap.size/\jg w b a c):=by
 obtain⟨x,n,_,r,_,e,d⟩:=DataW.trod_struct Tryz.underlying26 h;subst r;obtain⟨A,B,C,rfl⟩:=l3 (show x.length=3 from e);obtain⟨v0,z,v2,rfl⟩:=l3 q;have o:=d 0 _ rfl;have g1:=d 1 _ rfl;have p:=d 2 _ rfl;simp[Va,Vd,Sz]at o g1 p;obtain⟨a0,m0,f,j,u,v⟩:=Jf o (oh hb (by simp));obtain⟨a1,m1,g,l⟩:=tF Tryz.underlying23 g1;obtain⟨a2,m2,i,m⟩:=tF Tryz.underlying24 p;simp only[List.cons.injEq,and_true]at j l m;subst j l m;exact⟨_,_,_,_,_,_,_,_,_,rfl,u,v⟩
theorem Pz{k:Nat}{cs:List Value}{y:DataW H × List MemPlace}(h:DataW.trod enc prog w base sp hd k 27 cs=some y)(hb:Rows.uptoBulk y.1<=1048576):
  ∃o n cap,cs= [.slice o n cap]/\n<=1048576/\(n=0\/∃b a,o=some ⟨b,a,none⟩/\b<w.heap.size/\zM w b a n):=by
 obtain⟨P,n,c,rfl,F,_,_,G⟩:=vU Tryz.underlying27 VO (by omega) h hb;refine⟨P,n,c,rfl,F, ?_⟩;rcases G with h|⟨b,a,e,hl,hel⟩
 ·exact .inl h
 ·refine .inr ⟨b,a,e,hl,λi I=> ?_⟩;obtain⟨D,y,k,g1,d,E,_⟩:=hel i I;obtain⟨Q,m,_,_,_,j,f⟩:=DataW.trod_struct Tryz.underlying44 E;obtain⟨S,T,U,V,W,X,rfl⟩:=l6 (show Q.length=6 from j);obtain⟨v0,R,v2,v3,v4,v5,rfl⟩:=l6 g1;have p:=f 0 _ rfl;have q:=f 1 _ rfl;have r:=f 2 _ rfl;have s:=f 3 _ rfl;have t:=f 4 _ rfl;have u:=f 5 _ rfl;simp[Kb,AB,Vb]at p q r s t u;obtain⟨K,v,_⟩:=DataW.trod_int Tryz.underlying3 p;obtain⟨l,x,_,g⟩:=DataW.trod_int Tryz.underlying3 q;obtain⟨L,z,_⟩:=DataW.trod_int Tryz.underlying3 r;obtain⟨s3,A,_⟩:=DataW.trod_string Tryz.underlying9 s;obtain⟨O,B,_⟩:=DataW.trod_string Tryz.underlying9 t;obtain⟨lo,N,M,C⟩:=tF Tryz.underlying42 u;simp only[List.cons.injEq,and_true]at v x z A B C;subst v x z A B C;have J: -9223372036854775808<=l/\l<=9223372036854775807:=by
   simp only[Lit.wf,Bool.and_eq_true,decide_eq_true_eq]at g;exact g
  exact⟨K,l,L,s3,O,lo,N,M,d 0 _ rfl,d 1 _ rfl,d 2 _ rfl,d 3 _ rfl,d 4 _ rfl,d 5 _ rfl,J⟩
end
end Go.Proofs.YtdifpeaklamhnaaGreatDoor
