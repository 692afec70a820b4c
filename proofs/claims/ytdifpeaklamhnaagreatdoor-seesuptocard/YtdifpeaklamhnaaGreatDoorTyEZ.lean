import Derived.BigQuiet
import Derived.Test.YtdifpeaklamhnaaGreatDoorDecoQZ
import Derived.Deep.DeepCutAuto
set_option linter.unusedVariables false
set_option linter.unusedSimpArgs false
set_option maxRecDepth 100000
set_option maxHeartbeats 0
namespace Go.Proofs.YtdifpeaklamhnaaGreatDoor
open Go.Proofs.Tryz
open Go.RowKit
open Below (refl setCell)
open World (cell? size_alloc)
open Nat (zero_le le_refl add_zero)
open List (getElem?_eq_getElem drop_eq_getElem_cons drop_of_length_le any_cons)
theorem af{x:World}{b j:Nat}{cs:Array Value}{T:TypeId}{a:Nat × Nat}(h:x.heap[b]? =some (.cells cs T a)):x.cell? ⟨b,j,none⟩=cs[j]? :=by simp[cell?,h]
def fU(b:Bool)(n:Int):Int:=if b then n else 0
def gz(b:Bool):Int:=if b then 1 else 0
def aK:List Int->Int
 | []=>0
 |e::es=>if e=0 then aK es else e
theorem jf(b:Bool)(n:Int)(w:World):Calls prog 123 #[.bool b,.int .i64 n] w λe w'=>e=.returned (.int .i64 (fU b n))/\w'=w:=by
 cases b<;>
 ·go_enter Tryz.func123,Tryz.ntmps123
  go_wp2_with fail
  go_ret;exact⟨rfl,rfl⟩
theorem vB(w:World)(b cap:Nat)(a:List Int)(r:a.length<=100)(h:∀j u,a[j]? =some u->w.cell? ⟨b,j,none⟩=some (.int .i64 u)):
  Calls prog 66 #[.slice (some ⟨b,0,none⟩) a.length cap] w λe w'=>e=.returned (.int .i64 (aK a))/\w'=w:=by
 go_enter Tryz.func66,Tryz.ntmps66
 go_wp2_with fail
 go_loopw [7] (λm o=>∃i:Nat,i<=a.length/\m=.int .i64 i/\o=w/\Hid (aK a=aK (a.drop i))) (λm _=>a.length- (intOf m).toNat)
 case atStart=>exact⟨0,zero_le _,rfl,rfl,rfl⟩
 case round=>
  obtain⟨i,p,rfl,rfl,c⟩:=hrel;by_cases g:i<a.length
  ·have q:=h i a[i] (getElem?_eq_getElem g);have k:a.drop i=a[i]::a.drop (i+1):=drop_eq_getElem_cons g;by_cases f:a[i]=0
   ·have d:Hid (aK a=aK (a.drop (i+1))):=by rw[Hid,c.out,k,aK,if_pos f]
    rw[f]at q;clear c h k
    go_wp2_with fail
    go_roundw
    case rel=>exact⟨i+1,by omega,by go_num,by trivial,d⟩
    case measure=>simp[intOf];omega
   ·have d:Hid (aK a=a[i]):=by rw[Hid,c.out,k,aK,if_neg f]
    have l:(a[i]==0)=false:=by simpa using f
    obtain⟨u,n⟩:∃u,u=a[i]:=⟨_,rfl⟩;rw[<-n]at q d l f;clear c h k n
    go_wp2_with fail
    go_ret;exact⟨by rw[d.out];rfl,rfl⟩
  ·have d:Hid (aK a=0):=by rw[Hid,c.out,drop_of_length_le (by omega)];rfl
   clear c h
   go_wp2_with fail
   go_ret;exact⟨by rw[d.out];rfl,rfl⟩
def iT(c:Int):Int:=if c=110 then 1 else if c=116 then 2 else if c=98 then 3 else 0
theorem xA(c:Int)(w:World):Calls prog 241 #[.int .u8 c] w λe w'=>e=.returned (.int .i64 (iT c))/\w'=w:=by
 go_enter Tryz.func241,Tryz.ntmps241
 go_wp2
 all_goals go_ret
 all_goals(refine⟨?_,rfl⟩;simp_all[iT])
theorem yF(n:Int)(w:World):Calls prog 302 #[.int .i64 n] w λe w'=>e=.returned (.agg #[.int .i64 1,.int .i64 n,.string ⟨#[]⟩])/\Below w.heap.size w w':=by
 go_enter Tryz.func302,Tryz.ntmps302
 go_wp2_with fail
 exact bodyPost_ret (v:=.agg #[.int .i64 1,.int .i64 n,.string ⟨#[]⟩]) (by simp[results,Tryz.results302,go_sem]) rfl ⟨rfl,(refl _ _).alloc (le_refl _) _⟩
theorem Cb(s:ByteArray)(w:World):Calls prog 197 #[.string s] w λe w'=>e=.returned (.agg #[.int .i64 2,.int .i64 0,.string s])/\Below w.heap.size w w':=by
 go_enter Tryz.func197,Tryz.ntmps197
 go_wp2_with fail
 exact bodyPost_ret (v:=.agg #[.int .i64 2,.int .i64 0,.string s]) (by simp[results,Tryz.results197,go_sem]) rfl ⟨rfl,(refl _ _).alloc (le_refl _) _⟩
theorem zQ(b:Bool)(w:World):Calls prog 137 #[.bool b] w λe w'=>e=.returned (.agg #[.int .i64 3,.int .i64 (gz b),.string ⟨#[]⟩])/\Below w.heap.size w w':=by
 cases b
 ·go_enter Tryz.func137,Tryz.ntmps137
  go_wp2_with fail
  exact bodyPost_ret (v:=.agg #[.int .i64 3,.int .i64 0,.string ⟨#[]⟩]) (by simp[results,Tryz.results137,go_sem]) rfl ⟨rfl,(refl _ _).alloc (le_refl _) _⟩
 ·go_enter Tryz.func137,Tryz.ntmps137
  go_wp2_with fail
  exact bodyPost_ret (v:=.agg #[.int .i64 3,.int .i64 1,.string ⟨#[]⟩]) (by simp[results,Tryz.results137,go_sem]) rfl ⟨rfl,(refl _ _).alloc (le_refl _) _⟩
theorem kL(k n:Int)(s:ByteArray)(w:World):Calls prog 196 #[.agg #[.int .i64 k,.int .i64 n,.string s]] w λe w'=>e=.returned (.bool (k==0))/\Below w.heap.size w w':=by
 go_enter Tryz.func196,Tryz.ntmps196
 go_wp2_with fail
 go_ret;exact⟨rfl,(refl _ _).alloc (le_refl _) _⟩
theorem dR(b:Bool)(n:Int)(w:World):Calls prog 362 #[.bool b,.int .i64 n] w λe w'=>e=.returned (.int .i64 (fU b n))/\w'=w:=by
 cases b<;>
 ·go_enter Tryz.func362,Tryz.ntmps362
  go_wp2_with fail
  go_ret;exact⟨rfl,rfl⟩
theorem pI(k n:Int)(s:ByteArray)(w:World):Calls prog 332 #[.agg #[.int .i64 k,.int .i64 n,.string s]] w λe w'=>
  e=.returned (.agg #[.int .i64 0,.int .i64 k,.int .i64 1,.bool true,.int .i64 k,.int .i64 n,.string s,.int .i64 0,.string ⟨#[]⟩,.pointer none,.slice none 0 0])/\Below w.heap.size w w':=by
 go_enter Tryz.func332,Tryz.ntmps332
 go_wp2_with fail
 exact bodyPost_ret (v:=.agg #[.int .i64 0,.int .i64 k,.int .i64 1,.bool true,.int .i64 k,.int .i64 n,.string s,.int .i64 0,.string ⟨#[]⟩,.pointer none,.slice none 0 0]) (by simp[results,Tryz.results332,go_sem]) rfl ⟨rfl,((refl _ w).alloc (le_refl _) _).alloc (by simp[size_alloc]) _⟩
def ou:List Bs:=[[43],[45],[42],[47],[61],[60],[60,61],[97,110,100],[111,114],[110,111,116],[105,115,110,117,108,108],[105,102],[108,101,110],[99,97,116],[110,111,116,101]]
def bM(l:Bs):Bool:=ou.any (l== ·)
def fK(l:Bs):Bool:=[[43],[45],[42],[47],[99,97,116],[110,111,116,101]].any (l== ·)
theorem sj(s:ByteArray)(w:World):Calls prog 240 #[.string s] w λe w'=>e=.returned (.bool (bM s.toList))/\w'=w:=by
 go_enter Tryz.func240,Tryz.ntmps240
 go_wp2
 all_goals go_ret
 all_goals(refine⟨ay ?_,rfl⟩;simp_all[bM,ou])
theorem ET(s:ByteArray)(w:World):Calls prog 353 #[.string s] w λe w'=>e=.returned (.bool (!fK s.toList))/\w'=w:=by
 go_enter Tryz.func353,Tryz.ntmps353
 go_wp2
 all_goals go_ret
 all_goals(refine⟨ay ?_,rfl⟩;simp_all[fK])
def bi(w:World)(v:Value)(zs:List Int):Prop:=∃ao cap,v=.slice ao zs.length cap/\zs.length<=1000/\(zs= []\/∃b off,ao=some ⟨b,off,none⟩/\b<w.heap.size/\∀j u,zs[j]? =some u->w.cell? ⟨b,off+j,none⟩=some (.int .i64 u))
theorem bi.ag{w x:World}{v:Value}{a:List Int}(h:bi w v a)(hb:Below w.heap.size w x):bi x v a:=by
 obtain⟨c,cap,d,f,g⟩:=h;refine⟨c,cap,d,f, ?_⟩;rcases g with h|⟨b,off,e,hl,hc⟩
 ·exact .inl h
 ·exact .inr ⟨b,off,e,by have:=hb.size;omega,λj u i=>(hb.cell (p:=⟨b,off+j,none⟩) hl).trans (hc j u i)⟩
theorem EF(a:Int)(l1 l2:List Int):decide (a::l1=a::l2)=decide (l1=l2):=by simp
theorem EG{a b:Int}(h:a≠b)(l1 l2:List Int):decide (a::l1=b::l2)=false:=by simp[h]
theorem Di(w:World)(v:Value)(a:List Int)(x:Int)(h:bi w v a):
  Calls prog 210 #[v,.int .i64 x] w λe w'=>(∃k:Int,e=.returned (.int .i64 k)/\(decide (0<=k)=a.any (· ==x)))/\w'=w:=by
 obtain⟨t,cap,rfl,A,n⟩:=h;go_enter Tryz.func210,Tryz.ntmps210
 go_wp2_with fail
 go_loopw [8] (λr y=>∃i:Nat,i<=a.length/\r=.int .i64 i/\y=w/\Hid (a.any (· ==x)=(a.drop i).any (· ==x))) (λr _=>a.length- (intOf r).toNat)
 case atStart=>exact⟨0,zero_le _,rfl,rfl,rfl⟩
 case round=>
  obtain⟨i,z,rfl,rfl,f⟩:=hrel;by_cases c:i<a.length
  ·obtain⟨b,d,rfl,hb,o⟩:∃b d,t=some ⟨b,d,none⟩/\b<wr.heap.size/\∀j u,a[j]? =some u->wr.cell? ⟨b,d+j,none⟩=some (.int .i64 u):=by
    rcases n with h|h
    ·subst h;simp at c
    ·exact h
   have q:=o i a[i] (getElem?_eq_getElem c);have m:a.drop i=a[i]::a.drop (i+1):=drop_eq_getElem_cons c;by_cases g:a[i]=x
   ·have l:Hid (a.any (· ==x)=true):=by rw[Hid,f.out,m,any_cons,g];simp
    rw[g]at q;clear f o m n g
    go_wp2_with fail
    go_ret;exact⟨⟨_,rfl,by rw[l.out];simp⟩,rfl⟩
   ·have l:Hid (a.any (· ==x)=(a.drop (i+1)).any (· ==x)):=by rw[Hid,f.out,m,any_cons];simp[g]
    have p:(x==a[i])=false:=by simp;exact λe=>g e.symm
    obtain⟨u,s⟩:∃u,u=a[i]:=⟨_,rfl⟩;rw[<-s]at q p;clear f o m s n g
    go_wp2_with fail
    go_roundw
    case rel=>exact⟨i+1,by omega,by go_num,by trivial,l⟩
    case measure=>simp[intOf];omega
  ·have l:Hid (a.any (· ==x)=false):=by rw[Hid,f.out,drop_of_length_le (by omega)];rfl
   clear f n
   go_wp2_with fail
   go_ret;exact⟨⟨_,rfl,by rw[l.out];rfl⟩,rfl⟩
theorem xR(w:World)(v:Value)(a:List Int)(x:Int)(h:bi w v a):
  Calls prog 149 #[v,.int .i64 x] w λe w'=>e=.returned (.bool (a.any (· ==x)))/\w'=w:=by
 go_enter Tryz.func149,Tryz.ntmps149
 go_wp2_with(go_at_call 210;refine(Di _ v a x h).mono ?_;rintro e w2 ⟨⟨k,rfl,hk⟩,rfl⟩)
 go_ret;exact⟨rfl,rfl⟩
theorem gQ(w:World)(C v2:Value)(a z2:List Int)(D:bi w C a)(E:bi w v2 z2):
  Calls prog 354 #[C,v2] w λe w'=>e=.returned (.bool (decide (a=z2)))/\Below w.heap.size w w':=by
 obtain⟨a1,I,rfl,l1,r1⟩:=D;obtain⟨a2,J,rfl,l2,r2⟩:=E;by_cases c:a.length=z2.length
 ·have y:((a.length:Int)==(z2.length:Int))=true:=by rw[c];simp
  go_enter Tryz.func354,Tryz.ntmps354
  go_wp2_with fail
  go_loopw [13] (λz H=>∃i:Nat,i<=a.length/\z=.int .i64 i/\Below w.heap.size w H/\Hid (decide (a=z2)=decide (a.drop i=z2.drop i))) (λz _=>a.length- (intOf z).toNat)
  case atStart=>exact⟨0,zero_le _,rfl,refl _ _,rfl⟩
  case round=>
   obtain⟨i,K,rfl,q,n⟩:=hrel;by_cases m:i<a.length
   ·obtain⟨b1,F,rfl,v,k⟩:∃b d,a1=some ⟨b,d,none⟩/\b<w.heap.size/\∀j u,a[j]? =some u->w.cell? ⟨b,d+j,none⟩=some (.int .i64 u):=by
     rcases r1 with h|h
     ·subst h;simp at m
     ·exact h
    obtain⟨b2,G,rfl,x,l⟩:∃b d,a2=some ⟨b,d,none⟩/\b<w.heap.size/\∀j u,z2[j]? =some u->w.cell? ⟨b,d+j,none⟩=some (.int .i64 u):=by
     rcases r2 with h|h
     ·subst h;simp only[List.length_nil]at c;omega
     ·exact h
    have f:i<z2.length:=by omega
    have A:=(q.cell (p:=⟨b1,F+i,none⟩) v).trans (k i a[i] (getElem?_eq_getElem m));have B:=(q.cell (p:=⟨b2,G+i,none⟩) x).trans (l i z2[i] (getElem?_eq_getElem f));have d1:a.drop i=a[i]::a.drop (i+1):=drop_eq_getElem_cons m;have d2:z2.drop i=z2[i]::z2.drop (i+1):=drop_eq_getElem_cons f;by_cases o:a[i]=z2[i]
    ·have g:Hid (decide (a=z2)=decide (a.drop (i+1)=z2.drop (i+1))):=by rw[Hid,n.out,d1,d2,o];exact EF _ _ _
     rw[o]at A;obtain⟨u,s⟩:∃u,u=z2[i]:=⟨_,rfl⟩;rw[<-s]at A B;clear n k l d1 d2 s r1 r2 o
     go_wp2_with fail
     go_region
     go_wp2_with fail
     go_roundw
     case rel=>exact⟨i+1,by omega,by go_num,q.drew,g⟩
     case measure=>simp[intOf];omega
    ·have g:Hid (decide (a=z2)=false):=by rw[Hid,n.out,d1,d2];exact EG o _ _
     have r:(a[i]==z2[i])=false:=by simpa using o
     obtain⟨u,s⟩:∃u,u=a[i]:=⟨_,rfl⟩;obtain⟨L,t⟩:∃u,u=z2[i]:=⟨_,rfl⟩;rw[<-s]at A r;rw[<-t]at B r;clear n k l d1 d2 s t r1 r2 o
     go_wp2_with fail
     go_region
     go_wp2_with fail
     go_ret;exact⟨ay g.out.symm,q.drew⟩
   ·have g:Hid (decide (a=z2)=true):=by rw[Hid,n.out,drop_of_length_le (by omega),drop_of_length_le (by omega)];rfl
    clear n r1 r2
    go_wp2_with fail
    go_ret;exact⟨ay g.out.symm,q⟩
 ·have y:((a.length:Int)==(z2.length:Int))=false:=by simp;omega
  have g:Hid (decide (a=z2)=false):=by rw[Hid,decide_eq_false_iff_not];intro e;exact c (by rw[e])
  clear r1 r2;go_enter Tryz.func354,Tryz.ntmps354
  go_wp2_with fail
  go_ret;exact⟨ay g.out.symm,refl _ _⟩
theorem xx(w:World)(a:Nat)(x k:Int)(b:w.cell? ⟨a,0,none⟩=some (.int .i64 k)):
  Calls prog 370 #[.int .i64 x,.pointer (some ⟨a,0,none⟩)] w λe w'=>e=.returned (.bool (!(x==k)))/\w'=w:=by
 go_enter Tryz.func370,Tryz.ntmps370
 go_wp2_with fail
 go_ret;exact⟨rfl,rfl⟩
theorem uE(w:World)(v:Value)(a:List Int)(m:Nat)(k:Int)(h:bi w v a)(t:w.cell? ⟨m,0,none⟩=some (.int .i64 k)):
  Calls prog 378 #[v,.func (Fn.func 370) #[] #[.pointer (some ⟨m,0,none⟩)]] w λe w'=>(∃i:Int,e=.returned (.int .i64 i)/\(decide (0<=i)= !a.all (· ==k)))/\w'=w:=by
 obtain⟨y,cap,rfl,B,n⟩:=h;go_enter Tryz.func378,Tryz.ntmps378
 go_wp2_with fail
 go_loopw [8] (λo z=>∃i:Nat,i<=a.length/\o=.int .i64 i/\z=w/\Hid (a.all (· ==k)=(a.drop i).all (· ==k))) (λo _=>a.length- (intOf o).toNat)
 case atStart=>exact⟨0,zero_le _,rfl,rfl,rfl⟩
 case round=>
  obtain⟨i,A,rfl,rfl,f⟩:=hrel;by_cases c:i<a.length
  ·obtain⟨b,d,rfl,hb,r⟩:∃b d,y=some ⟨b,d,none⟩/\b<wr.heap.size/\∀j u,a[j]? =some u->wr.cell? ⟨b,d+j,none⟩=some (.int .i64 u):=by
    rcases n with h|h
    ·subst h;simp at c
    ·exact h
   have q:=r i a[i] (getElem?_eq_getElem c);have s:a.drop i=a[i]::a.drop (i+1):=drop_eq_getElem_cons c;have g:Hid ((a.drop i).all (· ==k)=((a[i]==k)&&(a.drop (i+1)).all (· ==k))):=by rw[Hid,s,List.all_cons]
   obtain⟨u,x⟩:∃u,u=a[i]:=⟨_,rfl⟩;rw[<-x]at q g;clear r s x n
   cases p:(u==k)with
   |true=>
    have l:Hid (a.all (· ==k)=(a.drop (i+1)).all (· ==k)):=by rw[Hid,f.out,g.out,p];rfl
    clear f g
    go_wp2_with(go_at_call 370;refine(xx _ m u k t).mono ?_;rintro e w2 ⟨rfl,rfl⟩)
    go_roundw
    case rel=>exact⟨i+1,by omega,by go_num,by trivial,l⟩
    case measure=>simp[intOf];omega
   |false=>
    have l:Hid (a.all (· ==k)=false):=by rw[Hid,f.out,g.out,p];rfl
    clear f g
    go_wp2_with(go_at_call 370;refine(xx _ m u k t).mono ?_;rintro e w2 ⟨rfl,rfl⟩)
    go_ret;exact⟨⟨_,rfl,by rw[l.out];simp⟩,rfl⟩
  ·have l:Hid (a.all (· ==k)=true):=by rw[Hid,f.out,drop_of_length_le (by omega)];rfl
   clear f n
   go_wp2_with fail
   go_ret;exact⟨⟨_,rfl,by rw[l.out];rfl⟩,rfl⟩
theorem qL(w:World)(v:Value)(b:List Int)(a:Nat)(k:Int)(h:bi w v b)(c:w.cell? ⟨a,0,none⟩=some (.int .i64 k)):
  Calls prog 371 #[v,.func (Fn.func 370) #[] #[.pointer (some ⟨a,0,none⟩)]] w λe w'=>e=.returned (.bool (!b.all (· ==k)))/\w'=w:=by
 go_enter Tryz.func371,Tryz.ntmps371
 go_wp2_with(go_at_call 378;refine(uE _ v b a k h c).mono ?_;rintro e w2 ⟨⟨i,rfl,hi⟩,rfl⟩)
 go_ret;exact⟨rfl,rfl⟩
theorem tN(w:World)(v:Value)(b:List Int)(k:Int)(h:bi w v b):
  Calls prog 363 #[v,.int .i64 k] w λe w'=>e=.returned (.bool (decide (0<b.length)&&b.all (· ==k)))/\Below w.heap.size w w':=by
 have hb:Below w.heap.size w (w.alloc (.cells #[.int .i64 k] 3)):=(refl _ _).alloc (le_refl _) _;have i:(w.alloc (.cells #[.int .i64 k] 3)).cell? ⟨w.heap.size,0,none⟩=some (.int .i64 k):=(af (heap_alloc_new w _)).trans rfl;have c:=qL _ v b w.heap.size k (h.ag hb) i;obtain⟨l,cap,rfl,m,j⟩:=h;clear i j;by_cases g:0<b.length
 ·obtain⟨a,f⟩:∃a,a=b.all (· ==k):=⟨_,rfl⟩;have d:Hid ((decide (0<b.length)&&b.all (· ==k))=a):=by rw[Hid,decide_eq_true g,Bool.true_and,f]
  rw[<-f]at c;clear f;go_enter Tryz.func363,Tryz.ntmps363
  go_wp2_with(go_at_call 371;refine c.mono ?_;rintro e w2 ⟨rfl,rfl⟩)
  go_ret;exact⟨by rw[d.out];rfl,hb⟩
 ·have d:Hid ((decide (0<b.length)&&b.all (· ==k))=false):=by rw[Hid,decide_eq_false g];rfl
  clear c;go_enter Tryz.func363,Tryz.ntmps363
  go_wp2_with fail
  go_ret;exact⟨ay d.out.symm,hb⟩
def nQ(ks:List Int):Int:=match ks with| [a,b]=>if a=b then 3 else 0|_=>0
def Km(ks:List Int):Int:=match ks with| [c,a,b]=>if c=3/\a=b then a else 0|_=>0
def FL(ks:List Int):Int:=match ks with| [_]=>3|_=>0
def yV(ks:List Int):Int:=match ks with| [a]=>a|_=>0
def ik(ls:List Int)(n:Int)(ks:List Int):Int:=if ks=ls then n else 0
def jV(n:Int)(ks:List Int):Int:=if 0<ks.length/\ks.all (· ==n)=true then n else 0
def bL(l:Bs)(ks:List Int):Int:=
 if l= [43]\/l= [45]\/l= [42]\/l= [47]then ik [1,1] 1 ks
 else if l= [61]\/l= [60]\/l= [60,61]then nQ ks
 else if l= [97,110,100]\/l= [111,114]then jV 3 ks
 else if l= [110,111,116]then ik [3] 3 ks
 else if l= [105,115,110,117,108,108]then FL ks
 else if l= [105,102]then Km ks
 else if l= [108,101,110]then ik [2] 1 ks
 else if l= [99,97,116]then jV 2 ks
 else if l= [110,111,116,101]then yV ks else 0
theorem wO(w:World)(a:Int):bi (w.alloc (.cells #[.int .i64 a] 3)) (.slice (some ⟨w.heap.size,0,none⟩) 1 1) [a]:=by
 refine⟨_,_,rfl,by simp,.inr ⟨_,_,rfl,by simp[size_alloc],λj u b=> ?_⟩⟩;rw[Nat.zero_add,af (heap_alloc_new w _)]
 match j,b with
 |0,b=>simp at b;subst b;rfl
theorem nD(w:World)(a b:Int):bi (w.alloc (.cells #[.int .i64 a,.int .i64 b] 3)) (.slice (some ⟨w.heap.size,0,none⟩) 2 2) [a,b]:=by
 refine⟨_,_,rfl,by simp,.inr ⟨_,_,rfl,by simp[size_alloc],λj u c=> ?_⟩⟩;rw[Nat.zero_add,af (heap_alloc_new w _)]
 match j,c with
 |0,c=>simp at c;subst c;rfl
 |1,c=>simp at c;subst c;rfl
theorem below_drewN(w:World)(n:Nat):Below w.heap.size w (w.drewN n):=⟨rfl,rfl,rfl,le_refl _,λ_ _=>rfl⟩
theorem ae(w:World)(o:Obj):Below w.heap.size w (w.alloc o):=(refl _ _).alloc (le_refl _) _
theorem bi.form{w:World}{v:Value}{b:List Int}(h:bi w v b):∃a cap,v=.slice a b.length cap:=by obtain⟨a,cap,h,_⟩:=h;exact⟨a,cap,h⟩
theorem bi.at{w:World}{v:Value}{c:List Int}(h:bi w v c)(f:c≠ []):∃b a cap,v=.slice (some ⟨b,a,none⟩) c.length cap/\b<w.heap.size/\∀j u,c[j]? =some u->w.cell? ⟨b,a+j,none⟩=some (.int .i64 u):=by
 obtain⟨g,cap,rfl,_,h|⟨b,a,rfl,d,e⟩⟩:=h
 ·exact absurd h f
 ·exact⟨b,a,cap,rfl,d,e⟩
theorem Ha(w:World)(v:Value)(a:List Int)(h:bi w v a):
  Calls prog 351 #[.string ⟨#[43]⟩,v] w λe w'=>e=.returned (.int .i64 (ik [1,1] 1 a))/\Below w.heap.size w w':=by
 have c:=gQ _ v (.slice (some ⟨w.heap.size,0,none⟩) 2 2) a [1,1] (h.ag (ae w _)) (nD w 1 1);obtain⟨g,cap,rfl⟩:=h.form;obtain⟨d,b⟩:∃d,d=decide (a= [1,1]):=⟨_,rfl⟩;have f:Hid (ik [1,1] 1 a=fU d 1):=by rw[Hid,b,ik,fU];simp
 rw[<-b]at c;clear b h;go_enter Tryz.func351,Tryz.ntmps351
 go_wp2_with(first
  |(go_at_call 354;refine c.mono ?_;rintro e w2 ⟨rfl,hb2⟩)
  |(go_at_call 362;refine(dR _ _ _).mono ?_;rintro e i ⟨rfl,rfl⟩))
 go_ret;exact⟨by rw[f.out];rfl,(ae w _).trans (hb2.mono (by simp[size_alloc]))⟩
theorem Dp(w:World)(v:Value)(a:List Int)(h:bi w v a):
  Calls prog 351 #[.string ⟨#[45]⟩,v] w λe w'=>e=.returned (.int .i64 (ik [1,1] 1 a))/\Below w.heap.size w w':=by
 have c:=gQ _ v (.slice (some ⟨w.heap.size,0,none⟩) 2 2) a [1,1] (h.ag (ae w _)) (nD w 1 1);obtain⟨g,cap,rfl⟩:=h.form;obtain⟨d,b⟩:∃d,d=decide (a= [1,1]):=⟨_,rfl⟩;have f:Hid (ik [1,1] 1 a=fU d 1):=by rw[Hid,b,ik,fU];simp
 rw[<-b]at c;clear b h;go_enter Tryz.func351,Tryz.ntmps351
 go_wp2_with(first
  |(go_at_call 354;refine c.mono ?_;rintro e w2 ⟨rfl,hb2⟩)
  |(go_at_call 362;refine(dR _ _ _).mono ?_;rintro e i ⟨rfl,rfl⟩))
 go_ret;exact⟨by rw[f.out];rfl,(ae w _).trans (hb2.mono (by simp[size_alloc]))⟩
theorem Dq(w:World)(v:Value)(a:List Int)(h:bi w v a):
  Calls prog 351 #[.string ⟨#[42]⟩,v] w λe w'=>e=.returned (.int .i64 (ik [1,1] 1 a))/\Below w.heap.size w w':=by
 have c:=gQ _ v (.slice (some ⟨w.heap.size,0,none⟩) 2 2) a [1,1] (h.ag (ae w _)) (nD w 1 1);obtain⟨g,cap,rfl⟩:=h.form;obtain⟨d,b⟩:∃d,d=decide (a= [1,1]):=⟨_,rfl⟩;have f:Hid (ik [1,1] 1 a=fU d 1):=by rw[Hid,b,ik,fU];simp
 rw[<-b]at c;clear b h;go_enter Tryz.func351,Tryz.ntmps351
 go_wp2_with(first
  |(go_at_call 354;refine c.mono ?_;rintro e w2 ⟨rfl,hb2⟩)
  |(go_at_call 362;refine(dR _ _ _).mono ?_;rintro e i ⟨rfl,rfl⟩))
 go_ret;exact⟨by rw[f.out];rfl,(ae w _).trans (hb2.mono (by simp[size_alloc]))⟩
theorem GZ(w:World)(v:Value)(a:List Int)(h:bi w v a):
  Calls prog 351 #[.string ⟨#[47]⟩,v] w λe w'=>e=.returned (.int .i64 (ik [1,1] 1 a))/\Below w.heap.size w w':=by
 have c:=gQ _ v (.slice (some ⟨w.heap.size,0,none⟩) 2 2) a [1,1] (h.ag (ae w _)) (nD w 1 1);obtain⟨g,cap,rfl⟩:=h.form;obtain⟨d,b⟩:∃d,d=decide (a= [1,1]):=⟨_,rfl⟩;have f:Hid (ik [1,1] 1 a=fU d 1):=by rw[Hid,b,ik,fU];simp
 rw[<-b]at c;clear b h;go_enter Tryz.func351,Tryz.ntmps351
 go_wp2_with(first
  |(go_at_call 354;refine c.mono ?_;rintro e w2 ⟨rfl,hb2⟩)
  |(go_at_call 362;refine(dR _ _ _).mono ?_;rintro e i ⟨rfl,rfl⟩))
 go_ret;exact⟨by rw[f.out];rfl,(ae w _).trans (hb2.mono (by simp[size_alloc]))⟩
theorem Nj(w:World)(v:Value)(c:List Int)(h:bi w v c):
  Calls prog 351 #[.string ⟨#[61]⟩,v] w λe w'=>e=.returned (.int .i64 (nQ c))/\Below w.heap.size w w':=by
 by_cases d:c.length=2
 ·obtain⟨a,b,rfl⟩:∃a b,c= [a,b]:=by
   match c,d with
   | [a,b],_=>exact⟨a,b,rfl⟩
  obtain⟨p,j,cap,rfl,hb,g⟩:=h.at (by simp);have k:=g 0 a rfl;have m:=g 1 b rfl;rw[add_zero]at k;clear h g d;have f:Hid (nQ [a,b]=fU (a==b) 3):=by rw[Hid,fU];simp[nQ]
  go_enter Tryz.func351,Tryz.ntmps351
  go_wp2_with fail
  go_quiet ((go_at_call 362;exact Calls.quiet_of_same (dR _ _ _)))
  go_wp2_with fail
  go_ret;exact⟨by rw[f.out];rfl,below_drewN _ _⟩
 ·have f:Hid (nQ c=fU false 3):=by
   rw[Hid]
   match c,d with
   | [],_=>rfl
   | [_],_=>rfl
   |_::_::_::_,_=>rfl
  have i:((c.length:Int)==2)=false:=by simp;omega
  obtain⟨l,cap,rfl⟩:=h.form;clear h d;go_enter Tryz.func351,Tryz.ntmps351
  go_wp2_with fail
  go_quiet ((go_at_call 362;exact Calls.quiet_of_same (dR _ _ _)))
  go_wp2_with fail
  go_ret;exact⟨by rw[f.out];rfl,below_drewN _ _⟩
theorem Nn(w:World)(v:Value)(c:List Int)(h:bi w v c):
  Calls prog 351 #[.string ⟨#[60]⟩,v] w λe w'=>e=.returned (.int .i64 (nQ c))/\Below w.heap.size w w':=by
 by_cases d:c.length=2
 ·obtain⟨a,b,rfl⟩:∃a b,c= [a,b]:=by
   match c,d with
   | [a,b],_=>exact⟨a,b,rfl⟩
  obtain⟨p,j,cap,rfl,hb,g⟩:=h.at (by simp);have k:=g 0 a rfl;have m:=g 1 b rfl;rw[add_zero]at k;clear h g d;have f:Hid (nQ [a,b]=fU (a==b) 3):=by rw[Hid,fU];simp[nQ]
  go_enter Tryz.func351,Tryz.ntmps351
  go_wp2_with fail
  go_quiet ((go_at_call 362;exact Calls.quiet_of_same (dR _ _ _)))
  go_wp2_with fail
  go_ret;exact⟨by rw[f.out];rfl,below_drewN _ _⟩
 ·have f:Hid (nQ c=fU false 3):=by
   rw[Hid]
   match c,d with
   | [],_=>rfl
   | [_],_=>rfl
   |_::_::_::_,_=>rfl
  have i:((c.length:Int)==2)=false:=by simp;omega
  obtain⟨l,cap,rfl⟩:=h.form;clear h d;go_enter Tryz.func351,Tryz.ntmps351
  go_wp2_with fail
  go_quiet ((go_at_call 362;exact Calls.quiet_of_same (dR _ _ _)))
  go_wp2_with fail
  go_ret;exact⟨by rw[f.out];rfl,below_drewN _ _⟩
theorem Nl(w:World)(v:Value)(c:List Int)(h:bi w v c):
  Calls prog 351 #[.string ⟨#[60,61]⟩,v] w λe w'=>e=.returned (.int .i64 (nQ c))/\Below w.heap.size w w':=by
 by_cases d:c.length=2
 ·obtain⟨a,b,rfl⟩:∃a b,c= [a,b]:=by
   match c,d with
   | [a,b],_=>exact⟨a,b,rfl⟩
  obtain⟨p,j,cap,rfl,hb,g⟩:=h.at (by simp);have k:=g 0 a rfl;have m:=g 1 b rfl;rw[add_zero]at k;clear h g d;have f:Hid (nQ [a,b]=fU (a==b) 3):=by rw[Hid,fU];simp[nQ]
  go_enter Tryz.func351,Tryz.ntmps351
  go_wp2_with fail
  go_quiet ((go_at_call 362;exact Calls.quiet_of_same (dR _ _ _)))
  go_wp2_with fail
  go_ret;exact⟨by rw[f.out];rfl,below_drewN _ _⟩
 ·have f:Hid (nQ c=fU false 3):=by
   rw[Hid]
   match c,d with
   | [],_=>rfl
   | [_],_=>rfl
   |_::_::_::_,_=>rfl
  have i:((c.length:Int)==2)=false:=by simp;omega
  obtain⟨l,cap,rfl⟩:=h.form;clear h d;go_enter Tryz.func351,Tryz.ntmps351
  go_wp2_with fail
  go_quiet ((go_at_call 362;exact Calls.quiet_of_same (dR _ _ _)))
  go_wp2_with fail
  go_ret;exact⟨by rw[f.out];rfl,below_drewN _ _⟩
theorem JI(w:World)(v:Value)(a:List Int)(h:bi w v a):
  Calls prog 351 #[.string ⟨#[97,110,100]⟩,v] w λe w'=>e=.returned (.int .i64 (jV 3 a))/\Below w.heap.size w w':=by
 have c:=tN w v a 3 h;obtain⟨g,cap,rfl⟩:=h.form;obtain⟨d,b⟩:∃d,d=(decide (0<a.length)&&a.all (· ==3)):=⟨_,rfl⟩;have f:Hid (jV 3 a=fU d 3):=by rw[Hid,b,jV,fU];simp
 rw[<-b]at c;clear b h;go_enter Tryz.func351,Tryz.ntmps351
 go_wp2_with(first
  |(go_at_call 363;refine c.mono ?_;rintro e w2 ⟨rfl,hb2⟩)
  |(go_at_call 362;refine(dR _ _ _).mono ?_;rintro e i ⟨rfl,rfl⟩))
 go_ret;exact⟨by rw[f.out];rfl,hb2⟩
theorem Np(w:World)(v:Value)(a:List Int)(h:bi w v a):
  Calls prog 351 #[.string ⟨#[111,114]⟩,v] w λe w'=>e=.returned (.int .i64 (jV 3 a))/\Below w.heap.size w w':=by
 have c:=tN w v a 3 h;obtain⟨g,cap,rfl⟩:=h.form;obtain⟨d,b⟩:∃d,d=(decide (0<a.length)&&a.all (· ==3)):=⟨_,rfl⟩;have f:Hid (jV 3 a=fU d 3):=by rw[Hid,b,jV,fU];simp
 rw[<-b]at c;clear b h;go_enter Tryz.func351,Tryz.ntmps351
 go_wp2_with(first
  |(go_at_call 363;refine c.mono ?_;rintro e w2 ⟨rfl,hb2⟩)
  |(go_at_call 362;refine(dR _ _ _).mono ?_;rintro e i ⟨rfl,rfl⟩))
 go_ret;exact⟨by rw[f.out];rfl,hb2⟩
theorem JM(w:World)(v:Value)(a:List Int)(h:bi w v a):
  Calls prog 351 #[.string ⟨#[110,111,116]⟩,v] w λe w'=>e=.returned (.int .i64 (ik [3] 3 a))/\Below w.heap.size w w':=by
 have c:=gQ _ v (.slice (some ⟨w.heap.size,0,none⟩) 1 1) a [3] (h.ag (ae w _)) (wO w 3);obtain⟨g,cap,rfl⟩:=h.form;obtain⟨d,b⟩:∃d,d=decide (a= [3]):=⟨_,rfl⟩;have f:Hid (ik [3] 3 a=fU d 3):=by rw[Hid,b,ik,fU];simp
 rw[<-b]at c;clear b h;go_enter Tryz.func351,Tryz.ntmps351
 go_wp2_with(first
  |(go_at_call 354;refine c.mono ?_;rintro e w2 ⟨rfl,hb2⟩)
  |(go_at_call 362;refine(dR _ _ _).mono ?_;rintro e i ⟨rfl,rfl⟩))
 go_ret;exact⟨by rw[f.out];rfl,(ae w _).trans (hb2.mono (by simp[size_alloc]))⟩
theorem Ak(w:World)(v:Value)(a:List Int)(h:bi w v a):
  Calls prog 351 #[.string ⟨#[105,115,110,117,108,108]⟩,v] w λe w'=>e=.returned (.int .i64 (FL a))/\Below w.heap.size w w':=by
 obtain⟨f,cap,rfl⟩:=h.form;obtain⟨d,b⟩:∃d,d=((a.length:Int)==1):=⟨_,rfl⟩;have c:Hid (FL a=fU d 3):=by
  rw[Hid,b,fU]
  match a with
  | []=>rfl
  | [_]=>rfl
  |_::_::l=>simp[FL];omega
 clear h;go_enter Tryz.func351,Tryz.ntmps351
 go_wp2_with(go_at_call 362;refine(dR _ _ _).mono ?_;rintro e g ⟨rfl,rfl⟩)
 go_ret;exact⟨by rw[c.out,b];rfl,refl _ _⟩
theorem Nk(w:World)(v:Value)(f:List Int)(h:bi w v f):
  Calls prog 351 #[.string ⟨#[105,102]⟩,v] w λe w'=>e=.returned (.int .i64 (Km f))/\Below w.heap.size w w':=by
 by_cases l:f.length=3
 ·obtain⟨c,a,b,rfl⟩:∃c a b,f= [c,a,b]:=by
   match f,l with
   | [c,a,b],_=>exact⟨c,a,b,rfl⟩
  obtain⟨p,m,cap,rfl,hb,k⟩:=h.at (by simp);have n:=k 0 c rfl;have q:=k 1 a rfl;have r:=k 2 b rfl;rw[add_zero]at n;clear h k l;by_cases j:c=3
  ·subst j;by_cases d:a=b
   ·subst d;have g:Hid (Km [3,a,a]=a):=by rw[Hid];simp[Km]
    go_enter Tryz.func351,Tryz.ntmps351
    go_wp2_with fail
    go_region;all_goals(try go_wp2_with fail)
    all_goals go_ret
    all_goals exact⟨by rw[g.out];rfl,(refl _ _).drew⟩
   ·have g:Hid (Km [3,a,b]=0):=by rw[Hid];simp[Km,d]
    have i:(a==b)=false:=by simpa using d
    clear d;go_enter Tryz.func351,Tryz.ntmps351
    go_wp2_with fail
    go_region;all_goals(try go_wp2_with fail)
    all_goals go_ret
    all_goals exact⟨by rw[g.out];rfl,(refl _ _).drew⟩
  ·have g:Hid (Km [c,a,b]=0):=by rw[Hid];simp[Km,j]
   have i:(c==3)=false:=by simpa using j
   clear j;go_enter Tryz.func351,Tryz.ntmps351
   go_wp2_with fail
   go_region;all_goals(try go_wp2_with fail)
   all_goals go_ret
   all_goals exact⟨by rw[g.out];rfl,(refl _ _).drew⟩
 ·have g:Hid (Km f=0):=by
   rw[Hid]
   match f,l with
   | [],_=>rfl
   | [_],_=>rfl
   | [_,_],_=>rfl
   |_::_::_::_::_,_=>rfl
  have i:((f.length:Int)==3)=false:=by simp;omega
  obtain⟨o,cap,rfl⟩:=h.form;clear h l;go_enter Tryz.func351,Tryz.ntmps351
  go_wp2_with fail
  go_region;all_goals(try go_wp2_with fail)
  all_goals go_ret
  all_goals exact⟨by rw[g.out];rfl,(refl _ _).drew⟩
theorem JL(w:World)(v:Value)(a:List Int)(h:bi w v a):
  Calls prog 351 #[.string ⟨#[108,101,110]⟩,v] w λe w'=>e=.returned (.int .i64 (ik [2] 1 a))/\Below w.heap.size w w':=by
 have c:=gQ _ v (.slice (some ⟨w.heap.size,0,none⟩) 1 1) a [2] (h.ag (ae w _)) (wO w 2);obtain⟨g,cap,rfl⟩:=h.form;obtain⟨d,b⟩:∃d,d=decide (a= [2]):=⟨_,rfl⟩;have f:Hid (ik [2] 1 a=fU d 1):=by rw[Hid,b,ik,fU];simp
 rw[<-b]at c;clear b h;go_enter Tryz.func351,Tryz.ntmps351
 go_wp2_with(first
  |(go_at_call 354;refine c.mono ?_;rintro e w2 ⟨rfl,hb2⟩)
  |(go_at_call 362;refine(dR _ _ _).mono ?_;rintro e i ⟨rfl,rfl⟩))
 go_ret;exact⟨by rw[f.out];rfl,(ae w _).trans (hb2.mono (by simp[size_alloc]))⟩
theorem JK(w:World)(v:Value)(a:List Int)(h:bi w v a):
  Calls prog 351 #[.string ⟨#[99,97,116]⟩,v] w λe w'=>e=.returned (.int .i64 (jV 2 a))/\Below w.heap.size w w':=by
 have c:=tN w v a 2 h;obtain⟨g,cap,rfl⟩:=h.form;obtain⟨d,b⟩:∃d,d=(decide (0<a.length)&&a.all (· ==2)):=⟨_,rfl⟩;have f:Hid (jV 2 a=fU d 2):=by rw[Hid,b,jV,fU];simp
 rw[<-b]at c;clear b h;go_enter Tryz.func351,Tryz.ntmps351
 go_wp2_with(first
  |(go_at_call 363;refine c.mono ?_;rintro e w2 ⟨rfl,hb2⟩)
  |(go_at_call 362;refine(dR _ _ _).mono ?_;rintro e i ⟨rfl,rfl⟩))
 go_ret;exact⟨by rw[f.out];rfl,hb2⟩
theorem GY(w:World)(v:Value)(d:List Int)(h:bi w v d):
  Calls prog 351 #[.string ⟨#[110,111,116,101]⟩,v] w λe w'=>e=.returned (.int .i64 (yV d))/\Below w.heap.size w w':=by
 match d,h with
 | [],h=>
  obtain⟨g,cap,rfl⟩:=h.form;clear h;go_enter Tryz.func351,Tryz.ntmps351
  go_wp2_with fail
  go_ret;exact⟨rfl,refl _ _⟩
 | [a],h=>
  obtain⟨b,j,cap,rfl,hb,f⟩:=h.at (by simp);have q:=f 0 a rfl;rw[add_zero]at q;clear h f;go_enter Tryz.func351,Tryz.ntmps351
  go_wp2_with fail
  go_ret;exact⟨rfl,refl _ _⟩
 |a::b::l,h=>
  obtain⟨g,cap,rfl⟩:=h.form;have k:=h.choose_spec.choose_spec.2.1;have c:(((a::b::l).length:Int)==1)=false:=by simp;omega
  clear h;obtain⟨n,i⟩:∃n,n=(a::b::l).length:=⟨_,rfl⟩;rw[<-i]at c ⊢;go_enter Tryz.func351,Tryz.ntmps351
  go_wp2_with fail
  go_ret;exact⟨rfl,refl _ _⟩
theorem JJ(l:Bs)(b:bM l=true)(w:World)(v:Value)(a:List Int)(h:bi w v a):
  Calls prog 351 #[.string (aa l),v] w λe w'=>e=.returned (.int .i64 (bL l a))/\Below w.heap.size w w':=by
 simp only[bM,ou,any_cons,List.any_nil,Bool.or_eq_true,beq_iff_eq,Bool.or_false]at b;rcases b with rfl|rfl|rfl|rfl|rfl|rfl|rfl|rfl|rfl|rfl|rfl|rfl|rfl|rfl|rfl
 ·rw[show bL [43] a=ik [1,1] 1 a from rfl,show aa [43]=⟨#[43]⟩from rfl];exact Ha w v a h
 ·rw[show bL [45] a=ik [1,1] 1 a from rfl,show aa [45]=⟨#[45]⟩from rfl];exact Dp w v a h
 ·rw[show bL [42] a=ik [1,1] 1 a from rfl,show aa [42]=⟨#[42]⟩from rfl];exact Dq w v a h
 ·rw[show bL [47] a=ik [1,1] 1 a from rfl,show aa [47]=⟨#[47]⟩from rfl];exact GZ w v a h
 ·rw[show bL [61] a=nQ a from rfl,show aa [61]=⟨#[61]⟩from rfl];exact Nj w v a h
 ·rw[show bL [60] a=nQ a from rfl,show aa [60]=⟨#[60]⟩from rfl];exact Nn w v a h
 ·rw[show bL [60,61] a=nQ a from rfl,show aa [60,61]=⟨#[60,61]⟩from rfl];exact Nl w v a h
 ·rw[show bL [97,110,100] a=jV 3 a from rfl,show aa [97,110,100]=⟨#[97,110,100]⟩from rfl];exact JI w v a h
 ·rw[show bL [111,114] a=jV 3 a from rfl,show aa [111,114]=⟨#[111,114]⟩from rfl];exact Np w v a h
 ·rw[show bL [110,111,116] a=ik [3] 3 a from rfl,show aa [110,111,116]=⟨#[110,111,116]⟩from rfl];exact JM w v a h
 ·rw[show bL [105,115,110,117,108,108] a=FL a from rfl,show aa [105,115,110,117,108,108]=⟨#[105,115,110,117,108,108]⟩from rfl];exact Ak w v a h
 ·rw[show bL [105,102] a=Km a from rfl,show aa [105,102]=⟨#[105,102]⟩from rfl];exact Nk w v a h
 ·rw[show bL [108,101,110] a=ik [2] 1 a from rfl,show aa [108,101,110]=⟨#[108,101,110]⟩from rfl];exact JL w v a h
 ·rw[show bL [99,97,116] a=jV 2 a from rfl,show aa [99,97,116]=⟨#[99,97,116]⟩from rfl];exact JK w v a h
 ·rw[show bL [110,111,116,101] a=yV a from rfl,show aa [110,111,116,101]=⟨#[110,111,116,101]⟩from rfl];exact GY w v a h
inductive Ex where
 |mk (sort ty size:Int) (quiet:Bool) (vk vn:Int) (vs:Bs) (place:Int) (head:Bs) (fi:Option Nat) (ops:List Ex)
def Ex.ty:Ex->Int
 | .mk _ t _ _ _ _ _ _ _ _ _=>t
def Ex.size:Ex->Int
 | .mk _ _ s _ _ _ _ _ _ _ _=>s
def Ex.quiet:Ex->Bool
 | .mk _ _ _ q _ _ _ _ _ _ _=>q
def zL(FB:List Nat)(fi:Option Nat)(fp:Option Addr):Prop:=match fi with
 |none=>fp=none
 |some i=>∃b,FB[i]? =some b/\fp=some ⟨b,0,none⟩
mutual
inductive dJ(w:World)(FB:List Nat)(S:Nat->Prop):List Value->Ex->Prop
 |mk {sort ty size:Int} {quiet:Bool} {vk vn:Int} {vs:Bs} {place:Int} {head:Bs} {fi:Option Nat} {ops:List Ex} {fp:Option Addr} {v:Value} {cs:List Value} :dD w FB S cs ops->w.ownsRow 0 210 11 v ops.length cs->(∀g,v.ownBlock=some g->S g)->zL FB fi fp->
   dJ w FB S [.int .i64 sort,.int .i64 ty,.int .i64 size,.bool quiet,.int .i64 vk,.int .i64 vn,.string (aa vs),.int .i64 place,.string (aa head),.pointer fp,v] (.mk sort ty size quiet vk vn vs place head fi ops)
inductive dD(w:World)(FB:List Nat)(S:Nat->Prop):List Value->List Ex->Prop
 |nil:dD w FB S [] []
 |cons {c cs:List Value} {t:Ex} {ts:List Ex} :dJ w FB S c t->dD w FB S cs ts->dD w FB S (c++cs) (t::ts)
end
mutual
theorem dJ.move{w x:World}{h:List Nat}{S S':Nat->Prop}(i:∀g,S g->x.heap[g]? =w.heap[g]?)(j:∀g,S g->S' g):∀ {c:List Value} {t:Ex},dJ w h S c t->dJ x h S' c t
 |_,_,.mk a b d f=>.mk (dD.move i j a) (aA b λg e=>i g (d g e)) (λg e=>j g (d g e)) f
theorem dD.move{w x:World}{d:List Nat}{S S':Nat->Prop}(e:∀g,S g->x.heap[g]? =w.heap[g]?)(f:∀g,S g->S' g):∀ {c:List Value} {t:List Ex},dD w d S c t->dD x d S' c t
 |_,_,.nil=>.nil
 |_,_,.cons a b=>.cons (dJ.move e f a) (dD.move e f b)
end
mutual
theorem dJ.bounded{w:World}{e:List Nat}{S:Nat->Prop} :∀ {c:List Value} {t:Ex},dJ w e S c t->dJ w e (λg=>S g/\g<w.heap.size) c t
 |_,_,.mk a b d f=>.mk (dD.bounded a) b (λg h=>⟨d g h,(b.lt g h).2⟩) f
theorem dD.bounded{w:World}{d:List Nat}{S:Nat->Prop} :∀ {c:List Value} {t:List Ex},dD w d S c t->dD w d (λg=>S g/\g<w.heap.size) c t
 |_,_,.nil=>.nil
 |_,_,.cons a b=>.cons (dJ.bounded a) (dD.bounded b)
end
theorem dJ.Iy{w:World}{a:List Nat}{S:Nat->Prop}{c:List Value}{t:Ex}(h:dJ w a S c t):c.length=11:=by cases h;rfl
theorem dD.snoc{w:World}{e:List Nat}{S:Nat->Prop}{c d:List Value}{t:List Ex}{u:Ex}(h:dD w e S c t)(k:dJ w e S d u):dD w e S (c++d) (t++ [u]):=by
 induction t generalizing c with
 |nil=>cases h;have:=dD.cons k dD.nil;simpa using this
 |cons t f ih=>
  cases h with
  |cons a b=>rw[List.append_assoc];exact .cons a (ih b)
theorem dD.get{w:World}{g:List Nat}{S:Nat->Prop}{cs:List Value}{e:List Ex}(h:dD w g S cs e)(i:Nat)(k:i<e.length):∃c,dJ w g S c e[i]/\∀j,j<11->cs[i*11+j]? =c[j]? :=by
 induction e generalizing cs i with
 |nil=>simp at k
 |cons t e ih=>
  cases h with
  | @cons c cs _ _ a b=>
   cases i with
   |zero=>exact⟨c,a,λj l=>by rw[List.getElem?_append_left (by rw[a.Iy];omega)];simp⟩
   |succ i=>
    obtain⟨d,m,l⟩:=ih b i (by simpa using k);refine⟨d,m,λj f=> ?_⟩;rw[<-l j f,List.getElem?_append_right (by rw[a.Iy];omega),a.Iy];congr 1;omega
theorem dJ.inv{w:World}{i:List Nat}{S:Nat->Prop}{c:List Value}{t:Ex}(h:dJ w i S c t):∃sort ty size quiet vk vn vs place head k e fp j n cap cs,t=.mk sort ty size quiet vk vn vs place head k e/\
  c= [.int .i64 sort,.int .i64 ty,.int .i64 size,.bool quiet,.int .i64 vk,.int .i64 vn,.string (aa vs),.int .i64 place,.string (aa head),.pointer fp,.slice j n cap]/\n=e.length/\dD w i S cs e/\
  w.ownsRow 0 210 11 (.slice j n cap) e.length cs/\(∀g,(Value.slice j n cap).ownBlock=some g->S g)/\zL i k fp:=by
 cases h with
 |mk a b d f=>
  rcases b.2 with⟨rfl,m⟩|⟨g,cap,l,rfl,o⟩
  ·exact⟨_,_,_,_,_,_,_,_,_,_,_,_,_,_,_,_,rfl,rfl,m.symm,a,b,d,f⟩
  ·exact⟨_,_,_,_,_,_,_,_,_,_,_,_,_,_,_,_,rfl,rfl,rfl,a,b,d,f⟩
theorem dJ.ag{w x:World}{b:List Nat}{S:Nat->Prop}{c:List Value}{t:Ex}(h:dJ w b S c t)(hb:Below w.heap.size w x):dJ x b S c t:=
 h.bounded.move (λg a=>hb.block g a.2) (λ_ a=>a.1)
theorem dD.ag{w x:World}{b:List Nat}{S:Nat->Prop}{c:List Value}{t:List Ex}(h:dD w b S c t)(hb:Below w.heap.size w x):dD x b S c t:=
 h.bounded.move (λg a=>hb.block g a.2) (λ_ a=>a.1)
def lH(w:World)(FB:List Nat)(v:Value)(es:List Ex):Prop:=∃cs ao cap,v=.slice ao es.length cap/\w.ownsRow 0 210 11 v es.length cs/\dD w FB (λ_=>True) cs es
theorem lH.ag{w x:World}{c:List Nat}{v:Value}{d:List Ex}(h:lH w c v d)(hb:Below w.heap.size w x):lH x c v d:=by
 obtain⟨cs,f,cap,e,a,b⟩:=h;exact⟨cs,f,cap,e,aA a λg i=>hb.block g (a.lt g i).2,b.ag hb⟩
def aL(zs:List Int):List Value:=zs.map λz=>Value.int .i64 z
theorem jr{w:World}{b:Nat}{v:Value}{a:List Int}(h:w.ownsRow b 3 1 v a.length (aL a))(f:a.length<=1000):bi w v a:=by
 rcases h.2 with⟨rfl,d⟩|⟨g,cap,c,rfl,i⟩
 ·have:a= []:=List.length_eq_zero_iff.mp d;subst this;exact⟨_,_,rfl,by simp,.inl rfl⟩
 ·refine⟨_,_,rfl,f,.inr ⟨g,0,rfl,(h.lt g rfl).2,λj u e=> ?_⟩⟩;have:=h.cells (g:=g) rfl j (.int .i64 u) (by simp[aL,e]);rw[Addr.add_lit]at this;simpa using this
theorem qK:(Tryz.prog.info? 3).map (λi=>(i.zero,i.size,i.bytes))=some (some (.int .i64 0),1,8):=by kernel_rfl
theorem Bq(w:World)(X:List Nat)(v:Value)(l:List Ex)(h:lH w X v l)(hl:l.length<=1000):
  Calls prog 352 #[v] w λe w'=>∃v',e=.returned v'/\bi w' v' (l.map Ex.ty)/\Below w.heap.size w w':=by
 obtain⟨i0,hi,L,M,N⟩:=info_parts qK;obtain⟨cs,ao,cap,rfl,o,I⟩:=h;go_enter Tryz.func352,Tryz.ntmps352
 go_wp2_with fail
 go_loopw [3,8] (λkv O wr=>∃(i kn E:Nat) (F:Option Addr),i<=l.length/\kv=.slice F kn E/\O=.int .i64 i/\wr.ownsRow w.heap.size 3 1 (.slice F kn E) i (aL ((l.take i).map Ex.ty))/\Below w.heap.size w wr) (λ_ O _=>l.length- (intOf O).toNat)
 case atStart=>exact⟨0,0,0,none,zero_le _,rfl,rfl,World.ownsRow_nil _ _ _ _,refl _ _⟩
 case round=>
  obtain⟨i,kn,E,F,a2,rfl,rfl,m,C⟩:=hrel;have K:=C.size;by_cases B:i<l.length
  ·obtain⟨g,rfl⟩:∃g,ao=some ⟨g,0,none⟩:=by
    rcases o.2 with⟨h,h0⟩|⟨g,f,H,h,_⟩
    ·omega
    ·cases h;exact⟨g,rfl⟩
   have hg:g<w.heap.size:=(o.lt g rfl).2;have a1:g<wr.heap.size:=by omega
   obtain⟨c,T,y⟩:=I.get i B;have S:Hid (l.take (i+1)=l.take i++ [l[i]]):=List.take_succ_eq_append_getElem B;obtain⟨sort,ty,size,quiet,vk,vn,vs,place,head,fi,a3,fp,G,n1,x,a0,U,rfl,J,_,_,_,_⟩:=T.inv;have t:Hid ((l.take (i+1)).map Ex.ty=(l.take i).map Ex.ty++ [ty]):=by rw[Hid,S.out,List.map_append,U];rfl
   have a:∀j u,j<11-> [Value.int .i64 sort,.int .i64 ty,.int .i64 size,.bool quiet,.int .i64 vk,.int .i64 vn,.string (aa vs),.int .i64 place,.string (aa head),.pointer fp,.slice G n1 x][j]? =some u->wr.cell? ⟨g,i*11+j,none⟩=some u:=by
    intro j u s D;have:=o.cells (g:=g) rfl (i*11+j) u (by rw[y j s];exact D);rw[Addr.add_lit]at this;exact(C.cell (p:=⟨g,i*11+j,none⟩) hg).trans (by simpa using this)
   have V:=a 0 _ (by omega) rfl;have q1:=a 1 _ (by omega) rfl;have q2:=a 2 _ (by omega) rfl;have q3:=a 3 _ (by omega) rfl;have q4:=a 4 _ (by omega) rfl;have q5:=a 5 _ (by omega) rfl;have q6:=a 6 _ (by omega) rfl;have q7:=a 7 _ (by omega) rfl;have q8:=a 8 _ (by omega) rfl;have q9:=a 9 _ (by omega) rfl;have Q:=a 10 _ (by omega) rfl;rw[add_zero]at V;clear a T y S U J;have W1:wr.heap.size<=wr.heap.size:=le_refl _
   go_wp2_with(at_builtin;refine wpList_append_own _ rfl (.tmp 12) (.tmp 15) 42 rfl w.heap.size 3 i0 (.int .i64 0) 1 8 Tryz.underlying42 hi L M N rfl (by decide) _ _ _ rfl ((m.alloc _).alloc _) ⟨wr.heap.size+1,0,none⟩ 1 1 [.int .i64 ty] rfl rfl ?c1 ?c2 ?c3 ?c4 ?c5 ?_)
   case c1=>
    intro j u s
    match j,s with
    |0,s=>simp at s;subst s;simp[Addr.add]
   case c2=>intro u D;simp at D;subst D;rfl
   case c3=>unfold maxLen;omega
   case c4=>omega
   case c5=>simp;omega
   ·intro v' W d n _;obtain⟨r,P,f,rfl⟩:∃r P f,v'=.slice r P f:=by
     rcases d.2 with⟨e,_⟩|⟨q,f,H,e,_⟩<;>exact⟨_,_,_,e⟩
    have R:W.ownsRow w.heap.size 3 1 (.slice r P f) (i+1) (aL ((l.take (i+1)).map Ex.ty)):=by
     rw[t.out];simp only[aL,List.map_append,List.map_take,List.map_cons,List.map_nil]at d ⊢;exact d
    have Z:Below w.heap.size w W:=((C.alloc K _).alloc (by simp;omega) _).grown n (by simp;omega) (λk hk=>(m.lt k hk).1);clear d n m t V q1 q2 q3 q4 q5 q6 q7 q8 q9 Q
    go_wp2
    go_roundw
    case rel=>exact⟨i+1,_,_,_,by omega,rfl,by go_num,R,Z⟩
    case measure=>simp[intOf];omega
  ·have z:l.take i=l:=List.take_of_length_le (by omega);have A:i=l.length:=by omega
   have Y:Hid (bi wr (.slice F kn E) (l.map Ex.ty)):=by
    rw[z]at m;refine jr (b:=w.heap.size) ?_ (by simpa using hl);rw[List.length_map,<-A];exact m
   clear m z A
   go_wp2_with fail
   go_ret;exact⟨_,rfl,Y.out,C⟩
def dI(k n:Int)(s:Bs):Ex:=.mk 0 k 1 true k n s 0 [] none []
def mK:Ex:=.mk 1 2 1 true 0 0 [] 0 [] none []
def qd(t p:Int):Ex:=.mk 3 t 1 true 0 0 [] p [] none []
def cK(atoi:Bs->Int)(k:Int)(l:Bs):Ex:=
 if k=3 then dI 1 (atoi l) []else if k=4 then dI 2 0 ((l.drop 1).take (l.length- 1- 1))else if l= [117,115,101,114]then mK else dI 3 (gz (l== [116,114,117,101])) []
theorem lW(w:World)(a:List Nat)(S:Nat->Prop)(sort ty size:Int)(quiet:Bool)(vk vn:Int)(vs:Bs)(place:Int)(head:Bs):
  dJ w a S [.int .i64 sort,.int .i64 ty,.int .i64 size,.bool quiet,.int .i64 vk,.int .i64 vn,.string (aa vs),.int .i64 place,.string (aa head),.pointer none,.slice none 0 0] (.mk sort ty size quiet vk vn vs place head none []):=
 .mk .nil (World.ownsRow_nil _ _ _ _) (λg b=>by cases b) rfl
theorem bz{x:World}{b:Nat}{a0 a1 a2 a3 a4 a5 c d e a9 a:Value}{T:TypeId}(h:x.heap[b]? =some (.cells #[a0,a1,a2,a3,a4,a5,c,d,e,a9,a] T (0,0))):
  (x.cell? ⟨b,0,none⟩=some a0/\x.cell? ⟨b,1,none⟩=some a1/\x.cell? ⟨b,2,none⟩=some a2/\x.cell? ⟨b,3,none⟩=some a3/\x.cell? ⟨b,4,none⟩=some a4/\x.cell? ⟨b,5,none⟩=some a5/\x.cell? ⟨b,6,none⟩=some c/\x.cell? ⟨b,7,none⟩=some d/\x.cell? ⟨b,8,none⟩=some e/\x.cell? ⟨b,9,none⟩=some a9/\x.cell? ⟨b,10,none⟩=some a)/\
  (x.frozen? ⟨b,0,none⟩=false/\x.frozen? ⟨b,1,none⟩=false/\x.frozen? ⟨b,2,none⟩=false/\x.frozen? ⟨b,3,none⟩=false/\x.frozen? ⟨b,4,none⟩=false/\x.frozen? ⟨b,5,none⟩=false/\x.frozen? ⟨b,6,none⟩=false/\x.frozen? ⟨b,7,none⟩=false/\x.frozen? ⟨b,8,none⟩=false/\x.frozen? ⟨b,9,none⟩=false/\x.frozen? ⟨b,10,none⟩=false):=by
 simp[cell?,World.frozen?,h]
abbrev EJ:Obj:=.cells #[.int .i64 0,.int .i64 0,.int .i64 0,.bool false,.int .i64 0,.int .i64 0,.string ⟨#[]⟩,.int .i64 0,.string ⟨#[]⟩,.pointer none,.slice none 0 0] 210
def sJ(w:World)(FB:List Nat)(o:Except Int Ex)(e:Ending)(w':World):Prop:=Below w.heap.size w w'/\
 ((∃n:Int,o=.error n/\n≠0/\e=.returned (.tuple #[.agg #[.int .i64 0,.int .i64 0,.int .i64 0,.bool false,.int .i64 0,.int .i64 0,.string ⟨#[]⟩,.int .i64 0,.string ⟨#[]⟩,.pointer none,.slice none 0 0],.int .i64 n]))\/
  (∃(x:Ex) (c:Array Value),o=.ok x/\e=.returned (.tuple #[.agg c,.int .i64 0])/\dJ w' FB (λg=>w.heap.size<=g) c.toList x))
theorem CB(l:Bs)(a b:Nat):(aa l).extract a b=aa ((l.drop a).take (b- a)):=by
 apply ByteArray.ext;simp[aa,ByteArray.data_extract]
theorem az(w:World)(o a:Obj):Below w.heap.size w ((w.alloc o).alloc a):=((refl _ w).alloc (le_refl _) _).alloc (by simp[size_alloc]) _
theorem mG{w w2:World}{o a:Obj}(h:Below ((w.alloc o).alloc a).heap.size ((w.alloc o).alloc a) w2):w2.heap[w.heap.size+1]? =some a/\Below w.heap.size w w2/\w.heap.size+2<=w2.heap.size:=by
 have b:=h.size;have:=heap_alloc_new (w.alloc o) a;rw[size_alloc]at this;refine⟨(h.block _ (by simp[size_alloc])).trans this,(az w o a).trans (h.mono (by simp only[size_alloc];omega)), ?_⟩;simp only[size_alloc]at b;omega
theorem Jv(a:Bs->Int)(k:Int)(l:Bs)(w:World)(I:List Nat)
  (i:k=3->∀x:World,Calls prog 331 #[.string (aa l)] x λe w'=>e=.returned (.tuple #[.int .i64 (a l),.nilIface])/\Below x.heap.size x w') (F:k=4->2<=l.length/\l.length<=32):
  Calls prog 291 #[.agg #[.int .i64 k,.string (aa l)]] w λe w'=>Below w.heap.size w w'/\∃c:Array Value,e=.returned (.agg c)/\dJ w' I (λg=>w.heap.size<=g) c.toList (cK a k l):=by
 by_cases E:k=3
 ·subst E;have j:Hid (cK a 3 l=dI 1 (a l) []):=by rw[Hid,cK,if_pos rfl]
  have J:=i rfl;clear i F;go_enter Tryz.func291,Tryz.ntmps291
  go_wp2_with(first
   |(go_at_call 331;refine(J _).mono ?_;rintro e w2 ⟨rfl,hb2⟩;obtain⟨b,h,o⟩:=mG hb2)
   |(go_at_call 302;refine(yF _ _).mono ?_;rintro e H ⟨rfl,hb3⟩)
   |(go_at_call 332;refine(pI _ _ _ _).mono ?_;rintro e q ⟨rfl,hb4⟩;have O:=hb3.size;have p:=hb4.size;have m:Below w.heap.size w q:=(h.trans (hb3.mono h.size)).trans (hb4.mono (by omega));obtain⟨⟨r,s,t,u,y,z,A,B,C,D,d⟩,f0,f1,f2,f3,f4,f5,f6,f7,f8,f9,f10⟩:=bz ((hb4.block _ (by omega)).trans ((hb3.block _ (by omega)).trans b))))
  refine bodyPost_ret (v:=.agg #[.int .i64 0,.int .i64 1,.int .i64 1,.bool true,.int .i64 1,.int .i64 (a l),.string ⟨#[]⟩,.int .i64 0,.string ⟨#[]⟩,.pointer none,.slice none 0 0]) (by simp[results,Tryz.results291,go_sem,r,s,t,u,y,z,A,B,C,D,d]) rfl ⟨?_,_,rfl, ?_⟩
  ·repeat(refine setCell ?_ (by show w.heap.size<=w.heap.size+1;omega) _)
   exact m
  ·rw[j.out];exact lW _ _ _ 0 1 1 true 1 (a l) [] 0 []
 ·have K:(k==3)=false:=by simpa using E
  clear i;by_cases f:k=4
  ·subst f;have j:Hid (cK a 4 l=dI 2 0 ((l.drop 1).take (l.length- 1- 1))):=by rw[Hid,cK,if_neg (by omega),if_pos rfl]
   obtain⟨M,N⟩:=F rfl;have P:(aa l).size=l.length:=aF l;have R:=CB l 1 (l.length- 1);clear F;go_enter Tryz.func291,Tryz.ntmps291
   go_wp2_with(first
    |(go_at_call 197;refine(Cb _ _).mono ?_;rintro e H ⟨rfl,hb3⟩;obtain⟨b,h,o⟩:=mG hb3)
    |(go_at_call 332;refine(pI _ _ _ _).mono ?_;rintro e q ⟨rfl,hb4⟩;have p:=hb4.size;have m:Below w.heap.size w q:=h.trans (hb4.mono h.size);obtain⟨⟨r,s,t,u,y,z,A,B,C,D,d⟩,f0,f1,f2,f3,f4,f5,f6,f7,f8,f9,f10⟩:=bz ((hb4.block _ (by omega)).trans b)))
   refine bodyPost_ret (v:=.agg #[.int .i64 0,.int .i64 2,.int .i64 1,.bool true,.int .i64 2,.int .i64 0,.string (aa ((l.drop 1).take (l.length- 1- 1))),.int .i64 0,.string ⟨#[]⟩,.pointer none,.slice none 0 0]) (by simp[results,Tryz.results291,go_sem,r,s,t,u,y,z,A,B,C,D,d]) rfl ⟨?_,_,rfl, ?_⟩
   ·repeat(refine setCell ?_ (by show w.heap.size<=w.heap.size+1;omega) _)
    exact m
   ·rw[j.out];exact lW _ _ _ 0 2 1 true 2 0 ((l.drop 1).take (l.length- 1- 1)) 0 []
  ·have L:(k==4)=false:=by simpa using f
   clear F;by_cases G:l= [117,115,101,114]
   ·subst G;have j:Hid (cK a k [117,115,101,114]=mK):=by rw[Hid,cK,if_neg E,if_neg f,if_pos rfl]
    have n:aa [117,115,101,114]=⟨#[117,115,101,114]⟩:=rfl;rw[n];go_enter Tryz.func291,Tryz.ntmps291
    go_wp2_with fail
    refine bodyPost_ret (v:=.agg #[.int .i64 1,.int .i64 2,.int .i64 1,.bool true,.int .i64 0,.int .i64 0,.string ⟨#[]⟩,.int .i64 0,.string ⟨#[]⟩,.pointer none,.slice none 0 0]) (by simp[results,Tryz.results291,go_sem]) rfl ⟨az _ _ _,_,rfl, ?_⟩;rw[j.out];exact lW _ _ _ 1 2 1 true 0 0 [] 0 []
   ·have Q:((aa l).toList== [117,115,101,114])=false:=by rw[au];simpa using G
    have j:Hid (cK a k l=dI 3 (gz (l== [116,114,117,101])) []):=by rw[Hid,cK,if_neg E,if_neg f,if_neg G]
    go_enter Tryz.func291,Tryz.ntmps291
    go_wp2_with(first
     |(go_at_call 137;refine(zQ _ _).mono ?_;rintro e H ⟨rfl,hb3⟩;obtain⟨b,h,o⟩:=mG hb3)
     |(go_at_call 332;refine(pI _ _ _ _).mono ?_;rintro e q ⟨rfl,hb4⟩;have p:=hb4.size;have m:Below w.heap.size w q:=h.trans (hb4.mono h.size);obtain⟨⟨r,s,t,u,y,z,A,B,C,D,d⟩,f0,f1,f2,f3,f4,f5,f6,f7,f8,f9,f10⟩:=bz ((hb4.block _ (by omega)).trans b)))
    rw[au]at*;refine bodyPost_ret (v:=.agg #[.int .i64 0,.int .i64 3,.int .i64 1,.bool true,.int .i64 3,.int .i64 (gz (l== [116,114,117,101])),.string ⟨#[]⟩,.int .i64 0,.string ⟨#[]⟩,.pointer none,.slice none 0 0]) (by simp[results,Tryz.results291,go_sem,r,s,t,u,y,z,A,B,C,D,d]) rfl ⟨?_,_,rfl, ?_⟩
    ·repeat(refine setCell ?_ (by show w.heap.size<=w.heap.size+1;omega) _)
     exact m
    ·rw[j.out];exact lW _ _ _ 0 3 1 true 3 (gz (l== [116,114,117,101])) [] 0 []
structure Fn where
 name:Bs
 args:List Int
 body:Ex
def mP(w:World)(FB:List Nat)(b:Nat)(fn:Fn):Prop:=∃(av:Value) (c:List Value),w.heap[b]? =some (.cells (.string (aa fn.name)::av::c).toArray 212 (0,0))/\w.ownsRow 0 3 1 av fn.args.length (aL fn.args)/\fn.args.length<=1000/\dJ w FB (λ_=>True) c fn.body
theorem mP.ag{w x:World}{d:List Nat}{b:Nat}{fn:Fn}(h:mP w d b fn)(hb:Below w.heap.size w x):mP x d b fn:=by
 obtain⟨i,c,e,f,a,j⟩:=h;exact⟨i,c,(hb.block b (ai e)).trans e,aA f λg k=>hb.block g (f.lt g k).2,a,j.ag hb⟩
mutual
theorem dJ.typed{w:World}{j:List Nat}{S:Nat->Prop} :∀ {c:List Value} {t:Ex},dJ w j S c t->dJ w j (λg=>S g/\∃e k,w.heap[g]? =some (.cells e 210 k)) c t
 |_,_,.mk a b d f=>.mk (dD.typed a) b (λg i=>⟨d g i,by
   rcases b.2 with⟨rfl,_⟩|⟨l,cap,e,rfl,_,h,_⟩
   ·cases i
   ·cases i;exact⟨e,_,h⟩⟩) f
theorem dD.typed{w:World}{e:List Nat}{S:Nat->Prop} :∀ {c:List Value} {t:List Ex},dD w e S c t->dD w e (λg=>S g/\∃d f,w.heap[g]? =some (.cells d 210 f)) c t
 |_,_,.nil=>.nil
 |_,_,.cons a b=>.cons (dJ.typed a) (dD.typed b)
end
theorem mP.grow{w x:World}{j:List Nat}{b:Nat}{fn:Fn}(h:mP w j b fn)(i:∀(g:Nat) (a:Array Value) (T:TypeId) (e:Nat × Nat),w.heap[g]? =some (.cells a T e)->T=212\/T=3\/T=210->x.heap[g]? =w.heap[g]?):mP x j b fn:=by
 obtain⟨m,c,k,l,f,n⟩:=h;refine⟨m,c,(i b _ _ _ k (.inl rfl)).trans k,aA l λg d=> ?_,f,n.typed.move (λg d=> ?_) (λ_ _=>trivial)⟩
 ·rcases l.2 with⟨rfl,_⟩|⟨p,cap,a,rfl,_,h,_⟩
  ·cases d
  ·cases d;exact i _ _ _ _ h (.inr (.inl rfl))
 ·obtain⟨_,a,e,o⟩:=d;exact i g a _ e o (.inr (.inr rfl))
def iP(w:World)(FB:List Nat)(v:Value)(fns:List Fn):Prop:=∃ao cap,v=.slice ao fns.length cap/\FB.length=fns.length/\fns.length<=100/\
 (fns= []\/∃b,ao=some ⟨b,0,none⟩/\b<w.heap.size/\∀(i q:Nat),FB[i]? =some q->w.cell? ⟨b,i,none⟩=some (.pointer (some ⟨q,0,none⟩)))/\∀(i q:Nat) (fn:Fn),FB[i]? =some q->fns[i]? =some fn->mP w FB q fn
theorem iP.ag{w x:World}{c:List Nat}{v:Value}{fns:List Fn}(h:iP w c v fns)(hb:Below w.heap.size w x):iP x c v fns:=by
 obtain⟨d,cap,f,g,j,k,l⟩:=h;refine⟨d,cap,f,g,j, ?_,λi q fn a b=>(l i q fn a b).ag hb⟩;rcases k with h|⟨b,e,hl,hc⟩
 ·exact .inl h
 ·exact .inr ⟨b,e,by have:=hb.size;omega,λi q m=>(hb.cell (p:=⟨b,i,none⟩) hl).trans (hc i q m)⟩
def bB(fns:List Fn)(l:Bs):Option Nat:=fns.findIdx? (λf=>f.name==l)
theorem LA(w:World)(d:List Nat)(q b:Nat)(fn:Fn)(l:Bs)(h:mP w d q fn)(j:w.cell? ⟨b,0,none⟩=some (.string (aa l))):
  Calls prog 194 #[.pointer (some ⟨q,0,none⟩),.pointer (some ⟨b,0,none⟩)] w λe w'=>e=.returned (.bool (fn.name==l))/\Below w.heap.size w w':=by
 obtain⟨g,c,a,_,_,_⟩:=h;have i:w.cell? ⟨q,0,none⟩=some (.string (aa fn.name)):=by simp[cell?,a]
 have f:Hid ((fn.name==l)=((aa fn.name).toList==(aa l).toList)):=by rw[Hid,au,au]
 clear a;go_enter Tryz.func194,Tryz.ntmps194
 go_wp2_with fail
 go_region
 go_wp2_with fail
 go_ret;exact⟨by rw[f.out];rfl,(refl _ _).drew⟩
theorem sP(w:World)(a:List Nat)(v:Value)(fns:List Fn)(t:Nat)(l:Bs)(h:iP w a v fns)(B:t<w.heap.size)(K:w.cell? ⟨t,0,none⟩=some (.string (aa l))):
  Calls prog 193 #[v,.func (Fn.func 194) #[] #[.pointer (some ⟨t,0,none⟩)]] w λe w'=>(∃k:Int,e=.returned (.int .i64 k)/\((bB fns l=none/\k= -1)\/∃i:Nat,bB fns l=some i/\k=i/\i<fns.length))/\Below w.heap.size w w':=by
 obtain⟨I,cap,rfl,H,N,D,z⟩:=h;go_enter Tryz.func193,Tryz.ntmps193
 go_wp2_with fail
 go_loopw [8] (λE L=>∃i:Nat,i<=fns.length/\E=.int .i64 i/\Below w.heap.size w L/\Hid (bB fns l=((fns.drop i).findIdx? (λf=>f.name==l)).map (· +i))) (λE _=>fns.length- (intOf E).toNat)
 case atStart=>exact⟨0,zero_le _,rfl,refl _ _,by rw[Hid];simp[bB]⟩
 case round=>
  obtain⟨i,M,rfl,g,u⟩:=hrel;by_cases c:i<fns.length
  ·obtain⟨b,rfl,hb,F⟩:∃b,I=some ⟨b,0,none⟩/\b<w.heap.size/\∀(i q:Nat),a[i]? =some q->w.cell? ⟨b,i,none⟩=some (.pointer (some ⟨q,0,none⟩)):=by
    rcases D with h|h
    ·subst h;simp at c
    ·exact h
   have r:i<a.length:=by omega
   have C:a[i]? =some a[i]:=getElem?_eq_getElem r;have J:=(g.cell (p:=⟨b,i,none⟩) hb).trans (F i a[i] C);have hF:=(z i a[i] fns[i] C (getElem?_eq_getElem c)).ag g;have A:=(g.cell (p:=⟨t,0,none⟩) B).trans K;have G:fns.drop i=fns[i]::fns.drop (i+1):=drop_eq_getElem_cons c;have j:Hid (bB fns l=if(fns[i].name==l)then some i else((fns.drop (i+1)).findIdx? (λf=>f.name==l)).map (· +(i+1))):=by
    rw[Hid,u.out,G,List.findIdx?_cons]
    cases(fns[i].name==l)
    ·simp only[Bool.false_eq_true,if_false,Option.map_map];congr 1;funext x;simp;omega
    ·simp
   obtain⟨q,s⟩:∃q,q=a[i]:=⟨_,rfl⟩;obtain⟨fn,o⟩:∃fn,fn=fns[i]:=⟨_,rfl⟩;rw[<-s]at J hF;rw[<-o]at hF j;have y:=LA wr a q t fn l hF A;clear F G D z u hF s o C;obtain⟨d,n⟩:∃d,d=(fn.name==l):=⟨_,rfl⟩;rw[<-n]at y j;clear n
   cases d with
   |true=>
    have m:Hid (bB fns l=some i):=by rw[Hid,j.out,if_pos rfl]
    clear j
    go_wp2_with(go_at_call 194;refine y.mono ?_;rintro e w2 ⟨rfl,hb2⟩)
    go_ret;exact⟨⟨_,rfl,.inr ⟨i,m.out,rfl,c⟩⟩,g.trans (hb2.mono g.size)⟩
   |false=>
    have m:Hid (bB fns l=((fns.drop (i+1)).findIdx? (λf=>f.name==l)).map (· +(i+1))):=by rw[Hid,j.out,if_neg Bool.false_ne_true]
    clear j
    go_wp2_with(go_at_call 194;refine y.mono ?_;rintro e w2 ⟨rfl,hb2⟩)
    go_roundw
    case rel=>exact⟨i+1,by omega,by go_num,g.trans (hb2.mono g.size),m⟩
    case measure=>simp[intOf];omega
  ·have m:Hid (bB fns l=none):=by rw[Hid,u.out,drop_of_length_le (by omega)];rfl
   clear u D z
   go_wp2_with fail
   go_ret;exact⟨⟨_,rfl,.inl ⟨m.out,rfl⟩⟩,g⟩
theorem EL(w:World)(c:List Nat)(v:Value)(fns:List Fn)(l:Bs)(h:iP w c v fns):
  Calls prog 122 #[v,.string (aa l)] w λe w'=>(∃p,e=.returned (.pointer p)/\zL c (bB fns l) p)/\Below w.heap.size w w':=by
 have a:=ae w (.cells #[.string (aa l)] 9);have f:=sP _ c v fns w.heap.size l (h.ag a) (by simp[size_alloc]) ((af (heap_alloc_new w (.cells #[.string (aa l)] 9))).trans rfl);obtain⟨s,cap,rfl,o,x,r,u⟩:=h;clear u;go_enter Tryz.func122,Tryz.ntmps122
 go_wp2_with(go_at_call 193;refine f.mono ?_)
 rintro e w2 ⟨⟨k,rfl,⟨hN,rfl⟩|⟨i,hN,rfl,hlt⟩⟩,hb2⟩
 ·have g:Hid (bB fns l=none):=hN;clear hN f
  go_wp2_with fail
  go_ret;exact⟨⟨_,rfl,by rw[g.out];rfl⟩,a.trans (hb2.mono a.size)⟩
 ·have g:Hid (bB fns l=some i):=hN;obtain⟨b,rfl,hb,n⟩:∃b,s=some ⟨b,0,none⟩/\b<w.heap.size/\∀(i q:Nat),c[i]? =some q->w.cell? ⟨b,i,none⟩=some (.pointer (some ⟨q,0,none⟩)):=by
   rcases r with h|h
   ·subst h;simp at hlt
   ·exact h
  have m:=a.trans (hb2.mono a.size);have j:c[i]? =some (c[i]'(by omega)):=getElem?_eq_getElem (by omega);have t:=(m.cell (p:=⟨b,i,none⟩) hb).trans (n i _ j);obtain⟨q,d⟩:∃q,q=c[i]'(by omega):=⟨_,rfl⟩;rw[<-d]at t j;clear hN f n r d hb2 a
  go_wp2_with fail
  go_ret;exact⟨⟨_,rfl,by rw[g.out];exact⟨q,j,rfl⟩⟩,m⟩
def Nw(w:World)(l:Bs)(size:Int)(q:Bool)(v:Value)(t:Int)(e:Ending)(w':World):Prop:=Below w.heap.size w w'/\
 ((t=0/\e=.returned (.tuple #[.agg #[.int .i64 0,.int .i64 0,.int .i64 0,.bool false,.int .i64 0,.int .i64 0,.string ⟨#[]⟩,.int .i64 0,.string ⟨#[]⟩,.pointer none,.slice none 0 0],.int .i64 3]))\/
  (t≠0/\e=.returned (.tuple #[.agg #[.int .i64 4,.int .i64 t,.int .i64 size,.bool (q&& !fK l),.int .i64 0,.int .i64 0,.string ⟨#[]⟩,.int .i64 0,.string (aa l),.pointer none,v],.int .i64 0])))
theorem jT{w w2:World}(h:Below w.drew.heap.size w.drew w2):Below w.heap.size w w2:=⟨h.os,h.tape,h.output,h.size,h.block⟩
theorem Bi{w w2:World}{o a:Obj}(h:Below ((w.alloc o).alloc a).heap.size ((w.alloc o).alloc a) w2):w2.heap[w.heap.size]? =some o:=
 (h.block _ (by simp only[size_alloc];omega)).trans ((Below.heap_alloc _ _ _ (by simp only[size_alloc];omega)).trans (heap_alloc_new w o))
theorem Em(w:World)(J:List Nat)(l:Bs)(M:bM l=true)(size:Int)(q:Bool)(f:Option Addr)(n cap:Nat)(b:List Ex)(h:lH w J (.slice f n cap) b)(D:b.length<=1000):
  Calls prog 327 #[.agg #[.int .i64 0,.int .i64 0,.int .i64 size,.bool q,.int .i64 0,.int .i64 0,.string ⟨#[]⟩,.int .i64 0,.string (aa l),.pointer none,.slice f n cap]] w λe w'=>
   Nw w l size q (.slice f n cap) (bL l (b.map Ex.ty)) e w':=by
 have z:∀x:World,Below w.heap.size w x->Calls prog 352 #[.slice f n cap] x λe w'=>∃v',e=.returned v'/\bi w' v' (b.map Ex.ty)/\Below x.heap.size x w':=
  λx hx=>Bq x J _ b (h.ag hx) D
 have s:∀(x:World) (v':Value),bi x v' (b.map Ex.ty)->Calls prog 351 #[.string (aa l),v'] x λe w'=>e=.returned (.int .i64 (bL l (b.map Ex.ty)))/\Below x.heap.size x w':=
  λx v' Z=>JJ l M x v' _ Z
 have g:∀x:World,Calls prog 353 #[.string (aa l)] x λe w'=>e=.returned (.bool (!fK l))/\w'=x:=by
  intro x;have:=ET (aa l) x;rw[au]at this;exact this
 obtain⟨t,N⟩:∃t,t=bL l (b.map Ex.ty):=⟨_,rfl⟩;obtain⟨O,k⟩:∃O,O=b.map Ex.ty:=⟨_,rfl⟩;rw[<-N]at s ⊢;rw[<-k]at z s;obtain⟨u,F⟩:∃u,u=fK l:=⟨_,rfl⟩;rw[<-F]at g;have K:Hid (fK l=u):=F.symm;clear N k F h M;go_enter Tryz.func327,Tryz.ntmps327;go_upto_region 2 with fail
 go_cut [] (λH=>Below w.heap.size w H/\H.heap[w.heap.size]? =some (.cells #[.int .i64 4,.int .i64 t,.int .i64 size,.bool q,.int .i64 0,.int .i64 0,.string ⟨#[]⟩,.int .i64 0,.string (aa l),.pointer none,.slice f n cap] 210 (0,0))/\H.heap[w.heap.size+1]? =some EJ)
 case first=>
  go_region_with(first
   |(go_at_call 352;refine(z _ ?_).mono ?_;exact(az w _ _).drew;rintro e w2 ⟨v',rfl,hi2,c⟩;replace c:=jT c;obtain⟨ko,kc,rfl⟩:=hi2.form;have i:=Bi c;obtain⟨C,d,E⟩:=mG c;obtain⟨⟨y0,y1,y2,y3,y4,y5,y6,y7,y8,y9,I⟩,f0,f1,f2,f3,f4,f5,f6,f7,f8,f9,f10⟩:=bz i)
   |(go_at_call 351;refine(s _ _ hi2).mono ?_;rintro e w3 ⟨rfl,hb3⟩;have j:=(hb3.block _ (by omega)).trans i;obtain⟨⟨z0,m,z2,z3,z4,z5,o,p,r,z9,a⟩,P,g1,Q,R,S,T,U,V,W,X,A⟩:=bz j))
  all_goals(go_wp2_with fail;go_meet)
  all_goals exact⟨((d.trans (hb3.mono d.size)).setCell (le_refl _) _),by simp[World.setCell,Array.getElem?_modify,j],(Below.heap_setCell _ _ _ _ (by simp)).trans ((hb3.block _ (by omega)).trans C)⟩
 case rest=>
  obtain⟨d,L,B⟩:=hcut;have E:=ai B;obtain⟨⟨y0,y1,y2,y3,y4,y5,y6,y7,y8,y9,I⟩,f0,f1,f2,f3,f4,f5,f6,f7,f8,f9,f10⟩:=bz L;obtain⟨⟨z0,m,z2,z3,z4,z5,o,p,r,z9,a⟩,P,g1,Q,R,S,T,U,V,W,X,A⟩:=bz B;clear L B z s;by_cases y:t=0
  ·subst y
   cases q
   ·go_wp2_with(go_at_call 353;refine(g _).mono ?_;rintro e G ⟨rfl,rfl⟩)
    refine bodyPost_ret (v:=.tuple #[.agg #[.int .i64 0,.int .i64 0,.int .i64 0,.bool false,.int .i64 0,.int .i64 0,.string ⟨#[]⟩,.int .i64 0,.string ⟨#[]⟩,.pointer none,.slice none 0 0],.int .i64 3]) (by simp[results,Tryz.results327,go_sem,z0,m,z2,z3,z4,z5,o,p,r,z9,a]) rfl ⟨?_,.inl ⟨rfl,rfl⟩⟩
    repeat(refine setCell ?_ (by simp) _)
    exact d
   ·go_wp2_with(go_at_call 353;refine(g _).mono ?_;rintro e G ⟨rfl,rfl⟩)
    refine bodyPost_ret (v:=.tuple #[.agg #[.int .i64 0,.int .i64 0,.int .i64 0,.bool false,.int .i64 0,.int .i64 0,.string ⟨#[]⟩,.int .i64 0,.string ⟨#[]⟩,.pointer none,.slice none 0 0],.int .i64 3]) (by simp[results,Tryz.results327,go_sem,z0,m,z2,z3,z4,z5,o,p,r,z9,a]) rfl ⟨?_,.inl ⟨rfl,rfl⟩⟩
    repeat(refine setCell ?_ (by simp) _)
    exact d
  ·have Y:(t==0)=false:=by simpa using y
   cases q
   ·go_wp2_with(go_at_call 353;refine(g _).mono ?_;rintro e G ⟨rfl,rfl⟩)
    refine bodyPost_ret (v:=.tuple #[.agg #[.int .i64 4,.int .i64 t,.int .i64 size,.bool (false),.int .i64 0,.int .i64 0,.string ⟨#[]⟩,.int .i64 0,.string (aa l),.pointer none,.slice f n cap],.int .i64 0]) (by simp[results,Tryz.results327,go_sem,z0,m,z2,z3,z4,z5,o,p,r,z9,a]) rfl ⟨?_,.inr ⟨y,by rw[K.out];rfl⟩⟩
    repeat(refine setCell ?_ (by simp) _)
    exact d
   ·go_wp2_with(go_at_call 353;refine(g _).mono ?_;rintro e G ⟨rfl,rfl⟩)
    refine bodyPost_ret (v:=.tuple #[.agg #[.int .i64 4,.int .i64 t,.int .i64 size,.bool (!u),.int .i64 0,.int .i64 0,.string ⟨#[]⟩,.int .i64 0,.string (aa l),.pointer none,.slice f n cap],.int .i64 0]) (by simp[results,Tryz.results327,go_sem,z0,m,z2,z3,z4,z5,o,p,r,z9,a]) rfl ⟨?_,.inr ⟨y,by rw[K.out];rfl⟩⟩
    repeat(refine setCell ?_ (by simp) _)
    exact d
end Go.Proofs.YtdifpeaklamhnaaGreatDoor
