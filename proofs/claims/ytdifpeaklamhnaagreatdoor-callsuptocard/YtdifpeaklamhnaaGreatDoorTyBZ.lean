import Derived.BigQuiet
import Derived.Test.YtdifpeaklamhnaaGreatDoorDecoQZ
set_option linter.unusedVariables false
set_option linter.unusedSimpArgs false
set_option maxRecDepth 100000
set_option maxHeartbeats 0
namespace Go.Proofs.YtdifpeaklamhnaaGreatDoor
open Go.Proofs.Tryz
open Go.RowKit
open Below (refl)
open Nat (zero_le le_refl add_zero)
open World (size_alloc)
open List (getElem?_eq_getElem drop_eq_getElem_cons drop_of_length_le any_cons)
theorem ag{x:World}{b j:Nat}{cs:Array Value}{T:TypeId}{a:Nat × Nat}(h:x.heap[b]? =some (.cells cs T a)):x.cell? ⟨b,j,none⟩=cs[j]? :=by simp[World.cell?,h]
def gG(b:Bool)(n:Int):Int:=if b then n else 0
def gB(b:Bool):Int:=if b then 1 else 0
def aM:List Int->Int
 | []=>0
 |e::es=>if e=0 then aM es else e
theorem gu(b:Bool)(n:Int)(w:World):Calls prog 123 #[.bool b,.int .i64 n] w λe w'=>e=.returned (.int .i64 (gG b n))/\w'=w:=by
 cases b<;>
 ·go_enter Tryz.func123,Tryz.ntmps123
  go_wp2_with fail
  go_ret;exact⟨rfl,rfl⟩
theorem Bf(w:World)(b cap:Nat)(a:List Int)(r:a.length<=100)(h:∀j u,a[j]? =some u->w.cell? ⟨b,j,none⟩=some (.int .i64 u)):
  Calls prog 66 #[.slice (some ⟨b,0,none⟩) a.length cap] w λe w'=>e=.returned (.int .i64 (aM a))/\w'=w:=by
 go_enter Tryz.func66,Tryz.ntmps66
 go_wp2_with fail
 go_loopw [7] (λm o=>∃i:Nat,i<=a.length/\m=.int .i64 i/\o=w/\Hid (aM a=aM (a.drop i))) (λm _=>a.length- (intOf m).toNat)
 case atStart=>exact⟨0,zero_le _,rfl,rfl,rfl⟩
 case round=>
  obtain⟨i,p,rfl,rfl,c⟩:=hrel;by_cases g:i<a.length
  ·have q:=h i a[i] (getElem?_eq_getElem g);have k:a.drop i=a[i]::a.drop (i+1):=drop_eq_getElem_cons g;by_cases f:a[i]=0
   ·have d:Hid (aM a=aM (a.drop (i+1))):=by rw[Hid,c.out,k,aM,if_pos f]
    rw[f]at q;clear c h k
    go_wp2_with fail
    go_roundw
    case rel=>exact⟨i+1,by omega,by go_num,by trivial,d⟩
    case measure=>simp[intOf];omega
   ·have d:Hid (aM a=a[i]):=by rw[Hid,c.out,k,aM,if_neg f]
    have l:(a[i]==0)=false:=by simpa using f
    obtain⟨u,n⟩:∃u,u=a[i]:=⟨_,rfl⟩;rw[<-n]at q d l f;clear c h k n
    go_wp2_with fail
    go_ret;exact⟨by rw[d.out];rfl,rfl⟩
  ·have d:Hid (aM a=0):=by rw[Hid,c.out,drop_of_length_le (by omega)];rfl
   clear c h
   go_wp2_with fail
   go_ret;exact⟨by rw[d.out];rfl,rfl⟩
def gL(c:Int):Int:=if c=110 then 1 else if c=116 then 2 else if c=98 then 3 else 0
theorem xA(c:Int)(w:World):Calls prog 241 #[.int .u8 c] w λe w'=>e=.returned (.int .i64 (gL c))/\w'=w:=by
 go_enter Tryz.func241,Tryz.ntmps241
 go_wp2
 all_goals go_ret
 all_goals(refine⟨?_,rfl⟩;simp_all[gL])
theorem yG(n:Int)(w:World):Calls prog 302 #[.int .i64 n] w λe w'=>e=.returned (.agg #[.int .i64 1,.int .i64 n,.string ⟨#[]⟩])/\Below w.heap.size w w':=by
 go_enter Tryz.func302,Tryz.ntmps302
 go_wp2_with fail
 exact bodyPost_ret (v:=.agg #[.int .i64 1,.int .i64 n,.string ⟨#[]⟩]) (by simp[results,Tryz.results302,go_sem]) rfl ⟨rfl,(refl _ _).alloc (le_refl _) _⟩
theorem Cu(s:ByteArray)(w:World):Calls prog 197 #[.string s] w λe w'=>e=.returned (.agg #[.int .i64 2,.int .i64 0,.string s])/\Below w.heap.size w w':=by
 go_enter Tryz.func197,Tryz.ntmps197
 go_wp2_with fail
 exact bodyPost_ret (v:=.agg #[.int .i64 2,.int .i64 0,.string s]) (by simp[results,Tryz.results197,go_sem]) rfl ⟨rfl,(refl _ _).alloc (le_refl _) _⟩
theorem Ah(b:Bool)(w:World):Calls prog 137 #[.bool b] w λe w'=>e=.returned (.agg #[.int .i64 3,.int .i64 (gB b),.string ⟨#[]⟩])/\Below w.heap.size w w':=by
 cases b
 ·go_enter Tryz.func137,Tryz.ntmps137
  go_wp2_with fail
  exact bodyPost_ret (v:=.agg #[.int .i64 3,.int .i64 0,.string ⟨#[]⟩]) (by simp[results,Tryz.results137,go_sem]) rfl ⟨rfl,(refl _ _).alloc (le_refl _) _⟩
 ·go_enter Tryz.func137,Tryz.ntmps137
  go_wp2_with fail
  exact bodyPost_ret (v:=.agg #[.int .i64 3,.int .i64 1,.string ⟨#[]⟩]) (by simp[results,Tryz.results137,go_sem]) rfl ⟨rfl,(refl _ _).alloc (le_refl _) _⟩
theorem kX(k n:Int)(s:ByteArray)(w:World):Calls prog 196 #[.agg #[.int .i64 k,.int .i64 n,.string s]] w λe w'=>e=.returned (.bool (k==0))/\Below w.heap.size w w':=by
 go_enter Tryz.func196,Tryz.ntmps196
 go_wp2_with fail
 go_ret;exact⟨rfl,(refl _ _).alloc (le_refl _) _⟩
theorem dO(b:Bool)(n:Int)(w:World):Calls prog 362 #[.bool b,.int .i64 n] w λe w'=>e=.returned (.int .i64 (gG b n))/\w'=w:=by
 cases b<;>
 ·go_enter Tryz.func362,Tryz.ntmps362
  go_wp2_with fail
  go_ret;exact⟨rfl,rfl⟩
theorem pO(k n:Int)(s:ByteArray)(w:World):Calls prog 332 #[.agg #[.int .i64 k,.int .i64 n,.string s]] w λe w'=>
  e=.returned (.agg #[.int .i64 0,.int .i64 k,.int .i64 1,.bool true,.int .i64 k,.int .i64 n,.string s,.int .i64 0,.string ⟨#[]⟩,.pointer none,.slice none 0 0])/\Below w.heap.size w w':=by
 go_enter Tryz.func332,Tryz.ntmps332
 go_wp2_with fail
 exact bodyPost_ret (v:=.agg #[.int .i64 0,.int .i64 k,.int .i64 1,.bool true,.int .i64 k,.int .i64 n,.string s,.int .i64 0,.string ⟨#[]⟩,.pointer none,.slice none 0 0]) (by simp[results,Tryz.results332,go_sem]) rfl ⟨rfl,((refl _ w).alloc (le_refl _) _).alloc (by simp[size_alloc]) _⟩
def oG:List Bs:=[[43],[45],[42],[47],[61],[60],[60,61],[97,110,100],[111,114],[110,111,116],[105,115,110,117,108,108],[105,102],[108,101,110],[99,97,116],[110,111,116,101]]
def bM(l:Bs):Bool:=oG.any (l== ·)
def iW(l:Bs):Bool:=[[43],[45],[42],[47],[99,97,116],[110,111,116,101]].any (l== ·)
theorem rZ(s:ByteArray)(w:World):Calls prog 240 #[.string s] w λe w'=>e=.returned (.bool (bM s.toList))/\w'=w:=by
 go_enter Tryz.func240,Tryz.ntmps240
 go_wp2
 all_goals go_ret
 all_goals(refine⟨ax ?_,rfl⟩;simp_all[bM,oG])
theorem EW(s:ByteArray)(w:World):Calls prog 353 #[.string s] w λe w'=>e=.returned (.bool (!iW s.toList))/\w'=w:=by
 go_enter Tryz.func353,Tryz.ntmps353
 go_wp2
 all_goals go_ret
 all_goals(refine⟨ax ?_,rfl⟩;simp_all[iW])
def aZ(w:World)(v:Value)(zs:List Int):Prop:=∃ao cap,v=.slice ao zs.length cap/\zs.length<=1000/\(zs= []\/∃b off,ao=some ⟨b,off,none⟩/\b<w.heap.size/\∀j u,zs[j]? =some u->w.cell? ⟨b,off+j,none⟩=some (.int .i64 u))
theorem aZ.ah{w x:World}{v:Value}{a:List Int}(h:aZ w v a)(hb:Below w.heap.size w x):aZ x v a:=by
 obtain⟨c,cap,d,f,g⟩:=h;refine⟨c,cap,d,f, ?_⟩;rcases g with h|⟨b,off,e,hl,hc⟩
 ·exact .inl h
 ·exact .inr ⟨b,off,e,by have:=hb.size;omega,λj u i=>(hb.cell (p:=⟨b,off+j,none⟩) hl).trans (hc j u i)⟩
theorem EF(a:Int)(l1 l2:List Int):decide (a::l1=a::l2)=decide (l1=l2):=by simp
theorem EG{a b:Int}(h:a≠b)(l1 l2:List Int):decide (a::l1=b::l2)=false:=by simp[h]
theorem Dw(w:World)(v:Value)(a:List Int)(x:Int)(h:aZ w v a):
  Calls prog 210 #[v,.int .i64 x] w λe w'=>(∃k:Int,e=.returned (.int .i64 k)/\(decide (0<=k)=a.any (· ==x)))/\w'=w:=by
 obtain⟨t,cap,rfl,A,n⟩:=h;go_enter Tryz.func210,Tryz.ntmps210
 go_wp2_with fail
 go_loopw [8] (λr y=>∃i:Nat,i<=a.length/\r=.int .i64 i/\y=w/\Hid (a.any (· ==x)=(a.drop i).any (· ==x))) (λr _=>a.length- (intOf r).toNat)
 case atStart=>exact⟨0,zero_le _,rfl,rfl,rfl⟩
 case round=>
  obtain⟨i,z,rfl,rfl,f⟩:=hrel;by_cases c:i<a.length
  ·obtain⟨b,d,rfl,hb,o⟩:∃b d,t=some ⟨b,d,none⟩/\b<wr.heap.size/\∀j u,a[j]? =some u->wr.cell? ⟨b,d+j,none⟩=some (.int .i64 u):=by
    rcases n with h|h
    ·subst h;simp at c
    ·exact h
   have q:=o i a[i] (getElem?_eq_getElem c);have m:a.drop i=a[i]::a.drop (i+1):=drop_eq_getElem_cons c;by_cases g:a[i]=x
   ·have l:Hid (a.any (· ==x)=true):=by rw[Hid,f.out,m,any_cons,g];simp
    rw[g]at q;clear f o m n g
    go_wp2_with fail
    go_ret;exact⟨⟨_,rfl,by rw[l.out];simp⟩,rfl⟩
   ·have l:Hid (a.any (· ==x)=(a.drop (i+1)).any (· ==x)):=by rw[Hid,f.out,m,any_cons];simp[g]
    have p:(x==a[i])=false:=by simp;exact λe=>g e.symm
    obtain⟨u,s⟩:∃u,u=a[i]:=⟨_,rfl⟩;rw[<-s]at q p;clear f o m s n g
    go_wp2_with fail
    go_roundw
    case rel=>exact⟨i+1,by omega,by go_num,by trivial,l⟩
    case measure=>simp[intOf];omega
  ·have l:Hid (a.any (· ==x)=false):=by rw[Hid,f.out,drop_of_length_le (by omega)];rfl
   clear f n
   go_wp2_with fail
   go_ret;exact⟨⟨_,rfl,by rw[l.out];rfl⟩,rfl⟩
theorem xV(w:World)(v:Value)(a:List Int)(x:Int)(h:aZ w v a):
  Calls prog 149 #[v,.int .i64 x] w λe w'=>e=.returned (.bool (a.any (· ==x)))/\w'=w:=by
 go_enter Tryz.func149,Tryz.ntmps149
 go_wp2_with(go_at_call 210;refine(Dw _ v a x h).mono ?_;rintro e w2 ⟨⟨k,rfl,hk⟩,rfl⟩)
 go_ret;exact⟨rfl,rfl⟩
theorem gU(w:World)(C v2:Value)(a z2:List Int)(D:aZ w C a)(E:aZ w v2 z2):
  Calls prog 354 #[C,v2] w λe w'=>e=.returned (.bool (decide (a=z2)))/\Below w.heap.size w w':=by
 obtain⟨a1,I,rfl,l1,r1⟩:=D;obtain⟨a2,J,rfl,l2,r2⟩:=E;by_cases c:a.length=z2.length
 ·have y:((a.length:Int)==(z2.length:Int))=true:=by rw[c];simp
  go_enter Tryz.func354,Tryz.ntmps354
  go_wp2_with fail
  go_loopw [13] (λz H=>∃i:Nat,i<=a.length/\z=.int .i64 i/\Below w.heap.size w H/\Hid (decide (a=z2)=decide (a.drop i=z2.drop i))) (λz _=>a.length- (intOf z).toNat)
  case atStart=>exact⟨0,zero_le _,rfl,refl _ _,rfl⟩
  case round=>
   obtain⟨i,K,rfl,q,n⟩:=hrel;by_cases m:i<a.length
   ·obtain⟨b1,F,rfl,v,k⟩:∃b d,a1=some ⟨b,d,none⟩/\b<w.heap.size/\∀j u,a[j]? =some u->w.cell? ⟨b,d+j,none⟩=some (.int .i64 u):=by
     rcases r1 with h|h
     ·subst h;simp at m
     ·exact h
    obtain⟨b2,G,rfl,x,l⟩:∃b d,a2=some ⟨b,d,none⟩/\b<w.heap.size/\∀j u,z2[j]? =some u->w.cell? ⟨b,d+j,none⟩=some (.int .i64 u):=by
     rcases r2 with h|h
     ·subst h;simp only[List.length_nil]at c;omega
     ·exact h
    have f:i<z2.length:=by omega
    have A:=(q.cell (p:=⟨b1,F+i,none⟩) v).trans (k i a[i] (getElem?_eq_getElem m));have B:=(q.cell (p:=⟨b2,G+i,none⟩) x).trans (l i z2[i] (getElem?_eq_getElem f));have d1:a.drop i=a[i]::a.drop (i+1):=drop_eq_getElem_cons m;have d2:z2.drop i=z2[i]::z2.drop (i+1):=drop_eq_getElem_cons f;by_cases o:a[i]=z2[i]
    ·have g:Hid (decide (a=z2)=decide (a.drop (i+1)=z2.drop (i+1))):=by rw[Hid,n.out,d1,d2,o];exact EF _ _ _
     rw[o]at A;obtain⟨u,s⟩:∃u,u=z2[i]:=⟨_,rfl⟩;rw[<-s]at A B;clear n k l d1 d2 s r1 r2 o
     go_wp2_with fail
     go_region
     go_wp2_with fail
     go_roundw
     case rel=>exact⟨i+1,by omega,by go_num,q.drew,g⟩
     case measure=>simp[intOf];omega
    ·have g:Hid (decide (a=z2)=false):=by rw[Hid,n.out,d1,d2];exact EG o _ _
     have r:(a[i]==z2[i])=false:=by simpa using o
     obtain⟨u,s⟩:∃u,u=a[i]:=⟨_,rfl⟩;obtain⟨L,t⟩:∃u,u=z2[i]:=⟨_,rfl⟩;rw[<-s]at A r;rw[<-t]at B r;clear n k l d1 d2 s t r1 r2 o
     go_wp2_with fail
     go_region
     go_wp2_with fail
     go_ret;exact⟨ax g.out.symm,q.drew⟩
   ·have g:Hid (decide (a=z2)=true):=by rw[Hid,n.out,drop_of_length_le (by omega),drop_of_length_le (by omega)];rfl
    clear n r1 r2
    go_wp2_with fail
    go_ret;exact⟨ax g.out.symm,q⟩
 ·have y:((a.length:Int)==(z2.length:Int))=false:=by simp;omega
  have g:Hid (decide (a=z2)=false):=by rw[Hid,decide_eq_false_iff_not];intro e;exact c (by rw[e])
  clear r1 r2;go_enter Tryz.func354,Tryz.ntmps354
  go_wp2_with fail
  go_ret;exact⟨ax g.out.symm,refl _ _⟩
theorem xx(w:World)(a:Nat)(x k:Int)(b:w.cell? ⟨a,0,none⟩=some (.int .i64 k)):
  Calls prog 370 #[.int .i64 x,.pointer (some ⟨a,0,none⟩)] w λe w'=>e=.returned (.bool (!(x==k)))/\w'=w:=by
 go_enter Tryz.func370,Tryz.ntmps370
 go_wp2_with fail
 go_ret;exact⟨rfl,rfl⟩
theorem uz(w:World)(v:Value)(a:List Int)(m:Nat)(k:Int)(h:aZ w v a)(t:w.cell? ⟨m,0,none⟩=some (.int .i64 k)):
  Calls prog 378 #[v,.func (Fn.func 370) #[] #[.pointer (some ⟨m,0,none⟩)]] w λe w'=>(∃i:Int,e=.returned (.int .i64 i)/\(decide (0<=i)= !a.all (· ==k)))/\w'=w:=by
 obtain⟨y,cap,rfl,B,n⟩:=h;go_enter Tryz.func378,Tryz.ntmps378
 go_wp2_with fail
 go_loopw [8] (λo z=>∃i:Nat,i<=a.length/\o=.int .i64 i/\z=w/\Hid (a.all (· ==k)=(a.drop i).all (· ==k))) (λo _=>a.length- (intOf o).toNat)
 case atStart=>exact⟨0,zero_le _,rfl,rfl,rfl⟩
 case round=>
  obtain⟨i,A,rfl,rfl,f⟩:=hrel;by_cases c:i<a.length
  ·obtain⟨b,d,rfl,hb,r⟩:∃b d,y=some ⟨b,d,none⟩/\b<wr.heap.size/\∀j u,a[j]? =some u->wr.cell? ⟨b,d+j,none⟩=some (.int .i64 u):=by
    rcases n with h|h
    ·subst h;simp at c
    ·exact h
   have q:=r i a[i] (getElem?_eq_getElem c);have s:a.drop i=a[i]::a.drop (i+1):=drop_eq_getElem_cons c;have g:Hid ((a.drop i).all (· ==k)=((a[i]==k)&&(a.drop (i+1)).all (· ==k))):=by rw[Hid,s,List.all_cons]
   obtain⟨u,x⟩:∃u,u=a[i]:=⟨_,rfl⟩;rw[<-x]at q g;clear r s x n
   cases p:(u==k)with
   |true=>
    have l:Hid (a.all (· ==k)=(a.drop (i+1)).all (· ==k)):=by rw[Hid,f.out,g.out,p];rfl
    clear f g
    go_wp2_with(go_at_call 370;refine(xx _ m u k t).mono ?_;rintro e w2 ⟨rfl,rfl⟩)
    go_roundw
    case rel=>exact⟨i+1,by omega,by go_num,by trivial,l⟩
    case measure=>simp[intOf];omega
   |false=>
    have l:Hid (a.all (· ==k)=false):=by rw[Hid,f.out,g.out,p];rfl
    clear f g
    go_wp2_with(go_at_call 370;refine(xx _ m u k t).mono ?_;rintro e w2 ⟨rfl,rfl⟩)
    go_ret;exact⟨⟨_,rfl,by rw[l.out];simp⟩,rfl⟩
  ·have l:Hid (a.all (· ==k)=true):=by rw[Hid,f.out,drop_of_length_le (by omega)];rfl
   clear f n
   go_wp2_with fail
   go_ret;exact⟨⟨_,rfl,by rw[l.out];rfl⟩,rfl⟩
theorem qJ(w:World)(v:Value)(b:List Int)(a:Nat)(k:Int)(h:aZ w v b)(c:w.cell? ⟨a,0,none⟩=some (.int .i64 k)):
  Calls prog 371 #[v,.func (Fn.func 370) #[] #[.pointer (some ⟨a,0,none⟩)]] w λe w'=>e=.returned (.bool (!b.all (· ==k)))/\w'=w:=by
 go_enter Tryz.func371,Tryz.ntmps371
 go_wp2_with(go_at_call 378;refine(uz _ v b a k h c).mono ?_;rintro e w2 ⟨⟨i,rfl,hi⟩,rfl⟩)
 go_ret;exact⟨rfl,rfl⟩
theorem tN(w:World)(v:Value)(b:List Int)(k:Int)(h:aZ w v b):
  Calls prog 363 #[v,.int .i64 k] w λe w'=>e=.returned (.bool (decide (0<b.length)&&b.all (· ==k)))/\Below w.heap.size w w':=by
 have hb:Below w.heap.size w (w.alloc (.cells #[.int .i64 k] 3)):=(refl _ _).alloc (le_refl _) _;have i:(w.alloc (.cells #[.int .i64 k] 3)).cell? ⟨w.heap.size,0,none⟩=some (.int .i64 k):=(ag (heap_alloc_new w _)).trans rfl;have c:=qJ _ v b w.heap.size k (h.ah hb) i;obtain⟨l,cap,rfl,m,j⟩:=h;clear i j;by_cases g:0<b.length
 ·obtain⟨a,f⟩:∃a,a=b.all (· ==k):=⟨_,rfl⟩;have d:Hid ((decide (0<b.length)&&b.all (· ==k))=a):=by rw[Hid,decide_eq_true g,Bool.true_and,f]
  rw[<-f]at c;clear f;go_enter Tryz.func363,Tryz.ntmps363
  go_wp2_with(go_at_call 371;refine c.mono ?_;rintro e w2 ⟨rfl,rfl⟩)
  go_ret;exact⟨by rw[d.out];rfl,hb⟩
 ·have d:Hid ((decide (0<b.length)&&b.all (· ==k))=false):=by rw[Hid,decide_eq_false g];rfl
  clear c;go_enter Tryz.func363,Tryz.ntmps363
  go_wp2_with fail
  go_ret;exact⟨ax d.out.symm,hb⟩
def nU(ks:List Int):Int:=match ks with| [a,b]=>if a=b then 3 else 0|_=>0
def JS(ks:List Int):Int:=match ks with| [c,a,b]=>if c=3/\a=b then a else 0|_=>0
def FM(ks:List Int):Int:=match ks with| [_]=>3|_=>0
def zl(ks:List Int):Int:=match ks with| [a]=>a|_=>0
def ig(ls:List Int)(n:Int)(ks:List Int):Int:=if ks=ls then n else 0
def kF(n:Int)(ks:List Int):Int:=if 0<ks.length/\ks.all (· ==n)=true then n else 0
def bK(l:Bs)(ks:List Int):Int:=
 if l= [43]\/l= [45]\/l= [42]\/l= [47]then ig [1,1] 1 ks
 else if l= [61]\/l= [60]\/l= [60,61]then nU ks
 else if l= [97,110,100]\/l= [111,114]then kF 3 ks
 else if l= [110,111,116]then ig [3] 3 ks
 else if l= [105,115,110,117,108,108]then FM ks
 else if l= [105,102]then JS ks
 else if l= [108,101,110]then ig [2] 1 ks
 else if l= [99,97,116]then kF 2 ks
 else if l= [110,111,116,101]then zl ks else 0
theorem wO(w:World)(a:Int):aZ (w.alloc (.cells #[.int .i64 a] 3)) (.slice (some ⟨w.heap.size,0,none⟩) 1 1) [a]:=by
 refine⟨_,_,rfl,by simp,.inr ⟨_,_,rfl,by simp[size_alloc],λj u b=> ?_⟩⟩;rw[Nat.zero_add,ag (heap_alloc_new w _)]
 match j,b with
 |0,b=>simp at b;subst b;rfl
theorem nL(w:World)(a b:Int):aZ (w.alloc (.cells #[.int .i64 a,.int .i64 b] 3)) (.slice (some ⟨w.heap.size,0,none⟩) 2 2) [a,b]:=by
 refine⟨_,_,rfl,by simp,.inr ⟨_,_,rfl,by simp[size_alloc],λj u c=> ?_⟩⟩;rw[Nat.zero_add,ag (heap_alloc_new w _)]
 match j,c with
 |0,c=>simp at c;subst c;rfl
 |1,c=>simp at c;subst c;rfl
theorem below_drewN(w:World)(n:Nat):Below w.heap.size w (w.drewN n):=⟨rfl,rfl,rfl,le_refl _,λ_ _=>rfl⟩
theorem ae(w:World)(o:Obj):Below w.heap.size w (w.alloc o):=(refl _ _).alloc (le_refl _) _
theorem aZ.form{w:World}{v:Value}{b:List Int}(h:aZ w v b):∃a cap,v=.slice a b.length cap:=by obtain⟨a,cap,h,_⟩:=h;exact⟨a,cap,h⟩
theorem aZ.at{w:World}{v:Value}{c:List Int}(h:aZ w v c)(f:c≠ []):∃b a cap,v=.slice (some ⟨b,a,none⟩) c.length cap/\b<w.heap.size/\∀j u,c[j]? =some u->w.cell? ⟨b,a+j,none⟩=some (.int .i64 u):=by
 obtain⟨g,cap,rfl,_,h|⟨b,a,rfl,d,e⟩⟩:=h
 ·exact absurd h f
 ·exact⟨b,a,cap,rfl,d,e⟩
theorem GZ(w:World)(v:Value)(a:List Int)(h:aZ w v a):
  Calls prog 351 #[.string ⟨#[43]⟩,v] w λe w'=>e=.returned (.int .i64 (ig [1,1] 1 a))/\Below w.heap.size w w':=by
 have c:=gU _ v (.slice (some ⟨w.heap.size,0,none⟩) 2 2) a [1,1] (h.ah (ae w _)) (nL w 1 1);obtain⟨g,cap,rfl⟩:=h.form;obtain⟨d,b⟩:∃d,d=decide (a= [1,1]):=⟨_,rfl⟩;have f:Hid (ig [1,1] 1 a=gG d 1):=by rw[Hid,b,ig,gG];simp
 rw[<-b]at c;clear b h;go_enter Tryz.func351,Tryz.ntmps351
 go_wp2_with(first
  |(go_at_call 354;refine c.mono ?_;rintro e w2 ⟨rfl,hb2⟩)
  |(go_at_call 362;refine(dO _ _ _).mono ?_;rintro e i ⟨rfl,rfl⟩))
 go_ret;exact⟨by rw[f.out];rfl,(ae w _).trans (hb2.mono (by simp[size_alloc]))⟩
theorem DF(w:World)(v:Value)(a:List Int)(h:aZ w v a):
  Calls prog 351 #[.string ⟨#[45]⟩,v] w λe w'=>e=.returned (.int .i64 (ig [1,1] 1 a))/\Below w.heap.size w w':=by
 have c:=gU _ v (.slice (some ⟨w.heap.size,0,none⟩) 2 2) a [1,1] (h.ah (ae w _)) (nL w 1 1);obtain⟨g,cap,rfl⟩:=h.form;obtain⟨d,b⟩:∃d,d=decide (a= [1,1]):=⟨_,rfl⟩;have f:Hid (ig [1,1] 1 a=gG d 1):=by rw[Hid,b,ig,gG];simp
 rw[<-b]at c;clear b h;go_enter Tryz.func351,Tryz.ntmps351
 go_wp2_with(first
  |(go_at_call 354;refine c.mono ?_;rintro e w2 ⟨rfl,hb2⟩)
  |(go_at_call 362;refine(dO _ _ _).mono ?_;rintro e i ⟨rfl,rfl⟩))
 go_ret;exact⟨by rw[f.out];rfl,(ae w _).trans (hb2.mono (by simp[size_alloc]))⟩
theorem DI(w:World)(v:Value)(a:List Int)(h:aZ w v a):
  Calls prog 351 #[.string ⟨#[42]⟩,v] w λe w'=>e=.returned (.int .i64 (ig [1,1] 1 a))/\Below w.heap.size w w':=by
 have c:=gU _ v (.slice (some ⟨w.heap.size,0,none⟩) 2 2) a [1,1] (h.ah (ae w _)) (nL w 1 1);obtain⟨g,cap,rfl⟩:=h.form;obtain⟨d,b⟩:∃d,d=decide (a= [1,1]):=⟨_,rfl⟩;have f:Hid (ig [1,1] 1 a=gG d 1):=by rw[Hid,b,ig,gG];simp
 rw[<-b]at c;clear b h;go_enter Tryz.func351,Tryz.ntmps351
 go_wp2_with(first
  |(go_at_call 354;refine c.mono ?_;rintro e w2 ⟨rfl,hb2⟩)
  |(go_at_call 362;refine(dO _ _ _).mono ?_;rintro e i ⟨rfl,rfl⟩))
 go_ret;exact⟨by rw[f.out];rfl,(ae w _).trans (hb2.mono (by simp[size_alloc]))⟩
theorem GY(w:World)(v:Value)(a:List Int)(h:aZ w v a):
  Calls prog 351 #[.string ⟨#[47]⟩,v] w λe w'=>e=.returned (.int .i64 (ig [1,1] 1 a))/\Below w.heap.size w w':=by
 have c:=gU _ v (.slice (some ⟨w.heap.size,0,none⟩) 2 2) a [1,1] (h.ah (ae w _)) (nL w 1 1);obtain⟨g,cap,rfl⟩:=h.form;obtain⟨d,b⟩:∃d,d=decide (a= [1,1]):=⟨_,rfl⟩;have f:Hid (ig [1,1] 1 a=gG d 1):=by rw[Hid,b,ig,gG];simp
 rw[<-b]at c;clear b h;go_enter Tryz.func351,Tryz.ntmps351
 go_wp2_with(first
  |(go_at_call 354;refine c.mono ?_;rintro e w2 ⟨rfl,hb2⟩)
  |(go_at_call 362;refine(dO _ _ _).mono ?_;rintro e i ⟨rfl,rfl⟩))
 go_ret;exact⟨by rw[f.out];rfl,(ae w _).trans (hb2.mono (by simp[size_alloc]))⟩
theorem MV(w:World)(v:Value)(c:List Int)(h:aZ w v c):
  Calls prog 351 #[.string ⟨#[61]⟩,v] w λe w'=>e=.returned (.int .i64 (nU c))/\Below w.heap.size w w':=by
 by_cases d:c.length=2
 ·obtain⟨a,b,rfl⟩:∃a b,c= [a,b]:=by
   match c,d with
   | [a,b],_=>exact⟨a,b,rfl⟩
  obtain⟨p,j,cap,rfl,hb,g⟩:=h.at (by simp);have k:=g 0 a rfl;have m:=g 1 b rfl;rw[add_zero]at k;clear h g d;have f:Hid (nU [a,b]=gG (a==b) 3):=by rw[Hid,gG];simp[nU]
  go_enter Tryz.func351,Tryz.ntmps351
  go_wp2_with fail
  go_quiet ((go_at_call 362;exact Calls.quiet_of_same (dO _ _ _)))
  go_wp2_with fail
  go_ret;exact⟨by rw[f.out];rfl,below_drewN _ _⟩
 ·have f:Hid (nU c=gG false 3):=by
   rw[Hid]
   match c,d with
   | [],_=>rfl
   | [_],_=>rfl
   |_::_::_::_,_=>rfl
  have i:((c.length:Int)==2)=false:=by simp;omega
  obtain⟨l,cap,rfl⟩:=h.form;clear h d;go_enter Tryz.func351,Tryz.ntmps351
  go_wp2_with fail
  go_quiet ((go_at_call 362;exact Calls.quiet_of_same (dO _ _ _)))
  go_wp2_with fail
  go_ret;exact⟨by rw[f.out];rfl,below_drewN _ _⟩
theorem MZ(w:World)(v:Value)(c:List Int)(h:aZ w v c):
  Calls prog 351 #[.string ⟨#[60]⟩,v] w λe w'=>e=.returned (.int .i64 (nU c))/\Below w.heap.size w w':=by
 by_cases d:c.length=2
 ·obtain⟨a,b,rfl⟩:∃a b,c= [a,b]:=by
   match c,d with
   | [a,b],_=>exact⟨a,b,rfl⟩
  obtain⟨p,j,cap,rfl,hb,g⟩:=h.at (by simp);have k:=g 0 a rfl;have m:=g 1 b rfl;rw[add_zero]at k;clear h g d;have f:Hid (nU [a,b]=gG (a==b) 3):=by rw[Hid,gG];simp[nU]
  go_enter Tryz.func351,Tryz.ntmps351
  go_wp2_with fail
  go_quiet ((go_at_call 362;exact Calls.quiet_of_same (dO _ _ _)))
  go_wp2_with fail
  go_ret;exact⟨by rw[f.out];rfl,below_drewN _ _⟩
 ·have f:Hid (nU c=gG false 3):=by
   rw[Hid]
   match c,d with
   | [],_=>rfl
   | [_],_=>rfl
   |_::_::_::_,_=>rfl
  have i:((c.length:Int)==2)=false:=by simp;omega
  obtain⟨l,cap,rfl⟩:=h.form;clear h d;go_enter Tryz.func351,Tryz.ntmps351
  go_wp2_with fail
  go_quiet ((go_at_call 362;exact Calls.quiet_of_same (dO _ _ _)))
  go_wp2_with fail
  go_ret;exact⟨by rw[f.out];rfl,below_drewN _ _⟩
theorem MX(w:World)(v:Value)(c:List Int)(h:aZ w v c):
  Calls prog 351 #[.string ⟨#[60,61]⟩,v] w λe w'=>e=.returned (.int .i64 (nU c))/\Below w.heap.size w w':=by
 by_cases d:c.length=2
 ·obtain⟨a,b,rfl⟩:∃a b,c= [a,b]:=by
   match c,d with
   | [a,b],_=>exact⟨a,b,rfl⟩
  obtain⟨p,j,cap,rfl,hb,g⟩:=h.at (by simp);have k:=g 0 a rfl;have m:=g 1 b rfl;rw[add_zero]at k;clear h g d;have f:Hid (nU [a,b]=gG (a==b) 3):=by rw[Hid,gG];simp[nU]
  go_enter Tryz.func351,Tryz.ntmps351
  go_wp2_with fail
  go_quiet ((go_at_call 362;exact Calls.quiet_of_same (dO _ _ _)))
  go_wp2_with fail
  go_ret;exact⟨by rw[f.out];rfl,below_drewN _ _⟩
 ·have f:Hid (nU c=gG false 3):=by
   rw[Hid]
   match c,d with
   | [],_=>rfl
   | [_],_=>rfl
   |_::_::_::_,_=>rfl
  have i:((c.length:Int)==2)=false:=by simp;omega
  obtain⟨l,cap,rfl⟩:=h.form;clear h d;go_enter Tryz.func351,Tryz.ntmps351
  go_wp2_with fail
  go_quiet ((go_at_call 362;exact Calls.quiet_of_same (dO _ _ _)))
  go_wp2_with fail
  go_ret;exact⟨by rw[f.out];rfl,below_drewN _ _⟩
theorem Js(w:World)(v:Value)(a:List Int)(h:aZ w v a):
  Calls prog 351 #[.string ⟨#[97,110,100]⟩,v] w λe w'=>e=.returned (.int .i64 (kF 3 a))/\Below w.heap.size w w':=by
 have c:=tN w v a 3 h;obtain⟨g,cap,rfl⟩:=h.form;obtain⟨d,b⟩:∃d,d=(decide (0<a.length)&&a.all (· ==3)):=⟨_,rfl⟩;have f:Hid (kF 3 a=gG d 3):=by rw[Hid,b,kF,gG];simp
 rw[<-b]at c;clear b h;go_enter Tryz.func351,Tryz.ntmps351
 go_wp2_with(first
  |(go_at_call 363;refine c.mono ?_;rintro e w2 ⟨rfl,hb2⟩)
  |(go_at_call 362;refine(dO _ _ _).mono ?_;rintro e i ⟨rfl,rfl⟩))
 go_ret;exact⟨by rw[f.out];rfl,hb2⟩
theorem Na(w:World)(v:Value)(a:List Int)(h:aZ w v a):
  Calls prog 351 #[.string ⟨#[111,114]⟩,v] w λe w'=>e=.returned (.int .i64 (kF 3 a))/\Below w.heap.size w w':=by
 have c:=tN w v a 3 h;obtain⟨g,cap,rfl⟩:=h.form;obtain⟨d,b⟩:∃d,d=(decide (0<a.length)&&a.all (· ==3)):=⟨_,rfl⟩;have f:Hid (kF 3 a=gG d 3):=by rw[Hid,b,kF,gG];simp
 rw[<-b]at c;clear b h;go_enter Tryz.func351,Tryz.ntmps351
 go_wp2_with(first
  |(go_at_call 363;refine c.mono ?_;rintro e w2 ⟨rfl,hb2⟩)
  |(go_at_call 362;refine(dO _ _ _).mono ?_;rintro e i ⟨rfl,rfl⟩))
 go_ret;exact⟨by rw[f.out];rfl,hb2⟩
theorem Jw(w:World)(v:Value)(a:List Int)(h:aZ w v a):
  Calls prog 351 #[.string ⟨#[110,111,116]⟩,v] w λe w'=>e=.returned (.int .i64 (ig [3] 3 a))/\Below w.heap.size w w':=by
 have c:=gU _ v (.slice (some ⟨w.heap.size,0,none⟩) 1 1) a [3] (h.ah (ae w _)) (wO w 3);obtain⟨g,cap,rfl⟩:=h.form;obtain⟨d,b⟩:∃d,d=decide (a= [3]):=⟨_,rfl⟩;have f:Hid (ig [3] 3 a=gG d 3):=by rw[Hid,b,ig,gG];simp
 rw[<-b]at c;clear b h;go_enter Tryz.func351,Tryz.ntmps351
 go_wp2_with(first
  |(go_at_call 354;refine c.mono ?_;rintro e w2 ⟨rfl,hb2⟩)
  |(go_at_call 362;refine(dO _ _ _).mono ?_;rintro e i ⟨rfl,rfl⟩))
 go_ret;exact⟨by rw[f.out];rfl,(ae w _).trans (hb2.mono (by simp[size_alloc]))⟩
theorem AA(w:World)(v:Value)(a:List Int)(h:aZ w v a):
  Calls prog 351 #[.string ⟨#[105,115,110,117,108,108]⟩,v] w λe w'=>e=.returned (.int .i64 (FM a))/\Below w.heap.size w w':=by
 obtain⟨f,cap,rfl⟩:=h.form;obtain⟨d,b⟩:∃d,d=((a.length:Int)==1):=⟨_,rfl⟩;have c:Hid (FM a=gG d 3):=by
  rw[Hid,b,gG]
  match a with
  | []=>rfl
  | [_]=>rfl
  |_::_::l=>simp[FM];omega
 clear h;go_enter Tryz.func351,Tryz.ntmps351
 go_wp2_with(go_at_call 362;refine(dO _ _ _).mono ?_;rintro e g ⟨rfl,rfl⟩)
 go_ret;exact⟨by rw[c.out,b];rfl,refl _ _⟩
theorem MW(w:World)(v:Value)(f:List Int)(h:aZ w v f):
  Calls prog 351 #[.string ⟨#[105,102]⟩,v] w λe w'=>e=.returned (.int .i64 (JS f))/\Below w.heap.size w w':=by
 by_cases l:f.length=3
 ·obtain⟨c,a,b,rfl⟩:∃c a b,f= [c,a,b]:=by
   match f,l with
   | [c,a,b],_=>exact⟨c,a,b,rfl⟩
  obtain⟨p,m,cap,rfl,hb,k⟩:=h.at (by simp);have n:=k 0 c rfl;have q:=k 1 a rfl;have r:=k 2 b rfl;rw[add_zero]at n;clear h k l;by_cases j:c=3
  ·subst j;by_cases d:a=b
   ·subst d;have g:Hid (JS [3,a,a]=a):=by rw[Hid];simp[JS]
    go_enter Tryz.func351,Tryz.ntmps351
    go_wp2_with fail
    go_region;all_goals(try go_wp2_with fail)
    all_goals go_ret
    all_goals exact⟨by rw[g.out];rfl,(refl _ _).drew⟩
   ·have g:Hid (JS [3,a,b]=0):=by rw[Hid];simp[JS,d]
    have i:(a==b)=false:=by simpa using d
    clear d;go_enter Tryz.func351,Tryz.ntmps351
    go_wp2_with fail
    go_region;all_goals(try go_wp2_with fail)
    all_goals go_ret
    all_goals exact⟨by rw[g.out];rfl,(refl _ _).drew⟩
  ·have g:Hid (JS [c,a,b]=0):=by rw[Hid];simp[JS,j]
   have i:(c==3)=false:=by simpa using j
   clear j;go_enter Tryz.func351,Tryz.ntmps351
   go_wp2_with fail
   go_region;all_goals(try go_wp2_with fail)
   all_goals go_ret
   all_goals exact⟨by rw[g.out];rfl,(refl _ _).drew⟩
 ·have g:Hid (JS f=0):=by
   rw[Hid]
   match f,l with
   | [],_=>rfl
   | [_],_=>rfl
   | [_,_],_=>rfl
   |_::_::_::_::_,_=>rfl
  have i:((f.length:Int)==3)=false:=by simp;omega
  obtain⟨o,cap,rfl⟩:=h.form;clear h l;go_enter Tryz.func351,Tryz.ntmps351
  go_wp2_with fail
  go_region;all_goals(try go_wp2_with fail)
  all_goals go_ret
  all_goals exact⟨by rw[g.out];rfl,(refl _ _).drew⟩
theorem Jv(w:World)(v:Value)(a:List Int)(h:aZ w v a):
  Calls prog 351 #[.string ⟨#[108,101,110]⟩,v] w λe w'=>e=.returned (.int .i64 (ig [2] 1 a))/\Below w.heap.size w w':=by
 have c:=gU _ v (.slice (some ⟨w.heap.size,0,none⟩) 1 1) a [2] (h.ah (ae w _)) (wO w 2);obtain⟨g,cap,rfl⟩:=h.form;obtain⟨d,b⟩:∃d,d=decide (a= [2]):=⟨_,rfl⟩;have f:Hid (ig [2] 1 a=gG d 1):=by rw[Hid,b,ig,gG];simp
 rw[<-b]at c;clear b h;go_enter Tryz.func351,Tryz.ntmps351
 go_wp2_with(first
  |(go_at_call 354;refine c.mono ?_;rintro e w2 ⟨rfl,hb2⟩)
  |(go_at_call 362;refine(dO _ _ _).mono ?_;rintro e i ⟨rfl,rfl⟩))
 go_ret;exact⟨by rw[f.out];rfl,(ae w _).trans (hb2.mono (by simp[size_alloc]))⟩
theorem Ju(w:World)(v:Value)(a:List Int)(h:aZ w v a):
  Calls prog 351 #[.string ⟨#[99,97,116]⟩,v] w λe w'=>e=.returned (.int .i64 (kF 2 a))/\Below w.heap.size w w':=by
 have c:=tN w v a 2 h;obtain⟨g,cap,rfl⟩:=h.form;obtain⟨d,b⟩:∃d,d=(decide (0<a.length)&&a.all (· ==2)):=⟨_,rfl⟩;have f:Hid (kF 2 a=gG d 2):=by rw[Hid,b,kF,gG];simp
 rw[<-b]at c;clear b h;go_enter Tryz.func351,Tryz.ntmps351
 go_wp2_with(first
  |(go_at_call 363;refine c.mono ?_;rintro e w2 ⟨rfl,hb2⟩)
  |(go_at_call 362;refine(dO _ _ _).mono ?_;rintro e i ⟨rfl,rfl⟩))
 go_ret;exact⟨by rw[f.out];rfl,hb2⟩
theorem GX(w:World)(v:Value)(d:List Int)(h:aZ w v d):
  Calls prog 351 #[.string ⟨#[110,111,116,101]⟩,v] w λe w'=>e=.returned (.int .i64 (zl d))/\Below w.heap.size w w':=by
 match d,h with
 | [],h=>
  obtain⟨g,cap,rfl⟩:=h.form;clear h;go_enter Tryz.func351,Tryz.ntmps351
  go_wp2_with fail
  go_ret;exact⟨rfl,refl _ _⟩
 | [a],h=>
  obtain⟨b,j,cap,rfl,hb,f⟩:=h.at (by simp);have q:=f 0 a rfl;rw[add_zero]at q;clear h f;go_enter Tryz.func351,Tryz.ntmps351
  go_wp2_with fail
  go_ret;exact⟨rfl,refl _ _⟩
 |a::b::l,h=>
  obtain⟨g,cap,rfl⟩:=h.form;have k:=h.choose_spec.choose_spec.2.1;have c:(((a::b::l).length:Int)==1)=false:=by simp;omega
  clear h;obtain⟨n,i⟩:∃n,n=(a::b::l).length:=⟨_,rfl⟩;rw[<-i]at c ⊢;go_enter Tryz.func351,Tryz.ntmps351
  go_wp2_with fail
  go_ret;exact⟨rfl,refl _ _⟩
theorem Jt(l:Bs)(b:bM l=true)(w:World)(v:Value)(a:List Int)(h:aZ w v a):
  Calls prog 351 #[.string (aa l),v] w λe w'=>e=.returned (.int .i64 (bK l a))/\Below w.heap.size w w':=by
 simp only[bM,oG,any_cons,List.any_nil,Bool.or_eq_true,beq_iff_eq,Bool.or_false]at b;rcases b with rfl|rfl|rfl|rfl|rfl|rfl|rfl|rfl|rfl|rfl|rfl|rfl|rfl|rfl|rfl
 ·rw[show bK [43] a=ig [1,1] 1 a from rfl,show aa [43]=⟨#[43]⟩from rfl];exact GZ w v a h
 ·rw[show bK [45] a=ig [1,1] 1 a from rfl,show aa [45]=⟨#[45]⟩from rfl];exact DF w v a h
 ·rw[show bK [42] a=ig [1,1] 1 a from rfl,show aa [42]=⟨#[42]⟩from rfl];exact DI w v a h
 ·rw[show bK [47] a=ig [1,1] 1 a from rfl,show aa [47]=⟨#[47]⟩from rfl];exact GY w v a h
 ·rw[show bK [61] a=nU a from rfl,show aa [61]=⟨#[61]⟩from rfl];exact MV w v a h
 ·rw[show bK [60] a=nU a from rfl,show aa [60]=⟨#[60]⟩from rfl];exact MZ w v a h
 ·rw[show bK [60,61] a=nU a from rfl,show aa [60,61]=⟨#[60,61]⟩from rfl];exact MX w v a h
 ·rw[show bK [97,110,100] a=kF 3 a from rfl,show aa [97,110,100]=⟨#[97,110,100]⟩from rfl];exact Js w v a h
 ·rw[show bK [111,114] a=kF 3 a from rfl,show aa [111,114]=⟨#[111,114]⟩from rfl];exact Na w v a h
 ·rw[show bK [110,111,116] a=ig [3] 3 a from rfl,show aa [110,111,116]=⟨#[110,111,116]⟩from rfl];exact Jw w v a h
 ·rw[show bK [105,115,110,117,108,108] a=FM a from rfl,show aa [105,115,110,117,108,108]=⟨#[105,115,110,117,108,108]⟩from rfl];exact AA w v a h
 ·rw[show bK [105,102] a=JS a from rfl,show aa [105,102]=⟨#[105,102]⟩from rfl];exact MW w v a h
 ·rw[show bK [108,101,110] a=ig [2] 1 a from rfl,show aa [108,101,110]=⟨#[108,101,110]⟩from rfl];exact Jv w v a h
 ·rw[show bK [99,97,116] a=kF 2 a from rfl,show aa [99,97,116]=⟨#[99,97,116]⟩from rfl];exact Ju w v a h
 ·rw[show bK [110,111,116,101] a=zl a from rfl,show aa [110,111,116,101]=⟨#[110,111,116,101]⟩from rfl];exact GX w v a h
inductive Ex where
 |mk (sort ty size:Int) (quiet:Bool) (vk vn:Int) (vs:Bs) (place:Int) (head:Bs) (fi:Option Nat) (ops:List Ex)
def Ex.ty:Ex->Int
 | .mk _ t _ _ _ _ _ _ _ _ _=>t
def Ex.size:Ex->Int
 | .mk _ _ s _ _ _ _ _ _ _ _=>s
def Ex.quiet:Ex->Bool
 | .mk _ _ _ q _ _ _ _ _ _ _=>q
def yj(FB:List Nat)(fi:Option Nat)(fp:Option Addr):Prop:=match fi with
 |none=>fp=none
 |some i=>∃b,FB[i]? =some b/\fp=some ⟨b,0,none⟩
mutual
inductive dG(w:World)(FB:List Nat)(S:Nat->Prop):List Value->Ex->Prop
 |mk {sort ty size:Int} {quiet:Bool} {vk vn:Int} {vs:Bs} {place:Int} {head:Bs} {fi:Option Nat} {ops:List Ex} {fp:Option Addr} {v:Value} {cs:List Value} :cO w FB S cs ops->w.ownsRow 0 210 11 v ops.length cs->(∀g,v.ownBlock=some g->S g)->yj FB fi fp->
   dG w FB S [.int .i64 sort,.int .i64 ty,.int .i64 size,.bool quiet,.int .i64 vk,.int .i64 vn,.string (aa vs),.int .i64 place,.string (aa head),.pointer fp,v] (.mk sort ty size quiet vk vn vs place head fi ops)
inductive cO(w:World)(FB:List Nat)(S:Nat->Prop):List Value->List Ex->Prop
 |nil:cO w FB S [] []
 |cons {c cs:List Value} {t:Ex} {ts:List Ex} :dG w FB S c t->cO w FB S cs ts->cO w FB S (c++cs) (t::ts)
end
mutual
theorem dG.move{w x:World}{h:List Nat}{S S':Nat->Prop}(i:∀g,S g->x.heap[g]? =w.heap[g]?)(j:∀g,S g->S' g):∀ {c:List Value} {t:Ex},dG w h S c t->dG x h S' c t
 |_,_,.mk a b d f=>.mk (cO.move i j a) (aA b λg e=>i g (d g e)) (λg e=>j g (d g e)) f
theorem cO.move{w x:World}{d:List Nat}{S S':Nat->Prop}(e:∀g,S g->x.heap[g]? =w.heap[g]?)(f:∀g,S g->S' g):∀ {c:List Value} {t:List Ex},cO w d S c t->cO x d S' c t
 |_,_,.nil=>.nil
 |_,_,.cons a b=>.cons (dG.move e f a) (cO.move e f b)
end
mutual
theorem dG.bounded{w:World}{e:List Nat}{S:Nat->Prop} :∀ {c:List Value} {t:Ex},dG w e S c t->dG w e (λg=>S g/\g<w.heap.size) c t
 |_,_,.mk a b d f=>.mk (cO.bounded a) b (λg h=>⟨d g h,(b.lt g h).2⟩) f
theorem cO.bounded{w:World}{d:List Nat}{S:Nat->Prop} :∀ {c:List Value} {t:List Ex},cO w d S c t->cO w d (λg=>S g/\g<w.heap.size) c t
 |_,_,.nil=>.nil
 |_,_,.cons a b=>.cons (dG.bounded a) (cO.bounded b)
end
theorem dG.Iu{w:World}{a:List Nat}{S:Nat->Prop}{c:List Value}{t:Ex}(h:dG w a S c t):c.length=11:=by cases h;rfl
theorem cO.snoc{w:World}{e:List Nat}{S:Nat->Prop}{c d:List Value}{t:List Ex}{u:Ex}(h:cO w e S c t)(k:dG w e S d u):cO w e S (c++d) (t++ [u]):=by
 induction t generalizing c with
 |nil=>cases h;have:=cO.cons k cO.nil;simpa using this
 |cons t f ih=>
  cases h with
  |cons a b=>rw[List.append_assoc];exact .cons a (ih b)
theorem cO.get{w:World}{g:List Nat}{S:Nat->Prop}{cs:List Value}{e:List Ex}(h:cO w g S cs e)(i:Nat)(k:i<e.length):∃c,dG w g S c e[i]/\∀j,j<11->cs[i*11+j]? =c[j]? :=by
 induction e generalizing cs i with
 |nil=>simp at k
 |cons t e ih=>
  cases h with
  | @cons c cs _ _ a b=>
   cases i with
   |zero=>exact⟨c,a,λj l=>by rw[List.getElem?_append_left (by rw[a.Iu];omega)];simp⟩
   |succ i=>
    obtain⟨d,m,l⟩:=ih b i (by simpa using k);refine⟨d,m,λj f=> ?_⟩;rw[<-l j f,List.getElem?_append_right (by rw[a.Iu];omega),a.Iu];congr 1;omega
theorem dG.inv{w:World}{i:List Nat}{S:Nat->Prop}{c:List Value}{t:Ex}(h:dG w i S c t):∃sort ty size quiet vk vn vs place head k e fp j n cap cs,t=.mk sort ty size quiet vk vn vs place head k e/\
  c= [.int .i64 sort,.int .i64 ty,.int .i64 size,.bool quiet,.int .i64 vk,.int .i64 vn,.string (aa vs),.int .i64 place,.string (aa head),.pointer fp,.slice j n cap]/\n=e.length/\cO w i S cs e/\
  w.ownsRow 0 210 11 (.slice j n cap) e.length cs/\(∀g,(Value.slice j n cap).ownBlock=some g->S g)/\yj i k fp:=by
 cases h with
 |mk a b d f=>
  rcases b.2 with⟨rfl,m⟩|⟨g,cap,l,rfl,o⟩
  ·exact⟨_,_,_,_,_,_,_,_,_,_,_,_,_,_,_,_,rfl,rfl,m.symm,a,b,d,f⟩
  ·exact⟨_,_,_,_,_,_,_,_,_,_,_,_,_,_,_,_,rfl,rfl,rfl,a,b,d,f⟩
theorem dG.ah{w x:World}{b:List Nat}{S:Nat->Prop}{c:List Value}{t:Ex}(h:dG w b S c t)(hb:Below w.heap.size w x):dG x b S c t:=
 h.bounded.move (λg a=>hb.block g a.2) (λ_ a=>a.1)
theorem cO.ah{w x:World}{b:List Nat}{S:Nat->Prop}{c:List Value}{t:List Ex}(h:cO w b S c t)(hb:Below w.heap.size w x):cO x b S c t:=
 h.bounded.move (λg a=>hb.block g a.2) (λ_ a=>a.1)
def jJ(w:World)(FB:List Nat)(v:Value)(es:List Ex):Prop:=∃cs ao cap,v=.slice ao es.length cap/\w.ownsRow 0 210 11 v es.length cs/\cO w FB (λ_=>True) cs es
theorem jJ.ah{w x:World}{c:List Nat}{v:Value}{d:List Ex}(h:jJ w c v d)(hb:Below w.heap.size w x):jJ x c v d:=by
 obtain⟨cs,f,cap,e,a,b⟩:=h;exact⟨cs,f,cap,e,aA a λg i=>hb.block g (a.lt g i).2,b.ah hb⟩
def fI(zs:List Int):List Value:=zs.map λz=>Value.int .i64 z
theorem sU{w:World}{b:Nat}{v:Value}{a:List Int}(h:w.ownsRow b 3 1 v a.length (fI a))(f:a.length<=1000):aZ w v a:=by
 rcases h.2 with⟨rfl,d⟩|⟨g,cap,c,rfl,i⟩
 ·have:a= []:=List.length_eq_zero_iff.mp d;subst this;exact⟨_,_,rfl,by simp,.inl rfl⟩
 ·refine⟨_,_,rfl,f,.inr ⟨g,0,rfl,(h.lt g rfl).2,λj u e=> ?_⟩⟩;have:=h.cells (g:=g) rfl j (.int .i64 u) (by simp[fI,e]);rw[Addr.add_lit]at this;simpa using this
theorem EQ:(Tryz.prog.info? 3).map (λi=>(i.zero,i.size,i.bytes))=some (some (.int .i64 0),1,8):=by kernel_rfl
theorem BP(w:World)(X:List Nat)(v:Value)(l:List Ex)(h:jJ w X v l)(hl:l.length<=1000):
  Calls prog 352 #[v] w λe w'=>∃v',e=.returned v'/\aZ w' v' (l.map Ex.ty)/\Below w.heap.size w w':=by
 obtain⟨i0,hi,L,M,N⟩:=info_parts EQ;obtain⟨cs,ao,cap,rfl,o,I⟩:=h;go_enter Tryz.func352,Tryz.ntmps352
 go_wp2_with fail
 go_loopw [3,8] (λkv O wr=>∃(i kn E:Nat) (F:Option Addr),i<=l.length/\kv=.slice F kn E/\O=.int .i64 i/\wr.ownsRow w.heap.size 3 1 (.slice F kn E) i (fI ((l.take i).map Ex.ty))/\Below w.heap.size w wr) (λ_ O _=>l.length- (intOf O).toNat)
 case atStart=>exact⟨0,0,0,none,zero_le _,rfl,rfl,World.ownsRow_nil _ _ _ _,refl _ _⟩
 case round=>
  obtain⟨i,kn,E,F,a2,rfl,rfl,m,C⟩:=hrel;have K:=C.size;by_cases B:i<l.length
  ·obtain⟨g,rfl⟩:∃g,ao=some ⟨g,0,none⟩:=by
    rcases o.2 with⟨h,h0⟩|⟨g,f,H,h,_⟩
    ·omega
    ·cases h;exact⟨g,rfl⟩
   have hg:g<w.heap.size:=(o.lt g rfl).2;have a1:g<wr.heap.size:=by omega
   obtain⟨c,T,y⟩:=I.get i B;have S:Hid (l.take (i+1)=l.take i++ [l[i]]):=List.take_succ_eq_append_getElem B;obtain⟨sort,ty,size,quiet,vk,vn,vs,place,head,fi,a3,fp,G,n1,x,a0,U,rfl,J,_,_,_,_⟩:=T.inv;have t:Hid ((l.take (i+1)).map Ex.ty=(l.take i).map Ex.ty++ [ty]):=by rw[Hid,S.out,List.map_append,U];rfl
   have a:∀j u,j<11-> [Value.int .i64 sort,.int .i64 ty,.int .i64 size,.bool quiet,.int .i64 vk,.int .i64 vn,.string (aa vs),.int .i64 place,.string (aa head),.pointer fp,.slice G n1 x][j]? =some u->wr.cell? ⟨g,i*11+j,none⟩=some u:=by
    intro j u s D;have:=o.cells (g:=g) rfl (i*11+j) u (by rw[y j s];exact D);rw[Addr.add_lit]at this;exact(C.cell (p:=⟨g,i*11+j,none⟩) hg).trans (by simpa using this)
   have V:=a 0 _ (by omega) rfl;have q1:=a 1 _ (by omega) rfl;have q2:=a 2 _ (by omega) rfl;have q3:=a 3 _ (by omega) rfl;have q4:=a 4 _ (by omega) rfl;have q5:=a 5 _ (by omega) rfl;have q6:=a 6 _ (by omega) rfl;have q7:=a 7 _ (by omega) rfl;have q8:=a 8 _ (by omega) rfl;have q9:=a 9 _ (by omega) rfl;have Q:=a 10 _ (by omega) rfl;rw[add_zero]at V;clear a T y S U J;have W1:wr.heap.size<=wr.heap.size:=le_refl _
   go_wp2_with(at_builtin;refine wpList_append_own _ rfl (.tmp 12) (.tmp 15) 42 rfl w.heap.size 3 i0 (.int .i64 0) 1 8 Tryz.underlying42 hi L M N rfl (by decide) _ _ _ rfl ((m.alloc _).alloc _) ⟨wr.heap.size+1,0,none⟩ 1 1 [.int .i64 ty] rfl rfl ?c1 ?c2 ?c3 ?c4 ?c5 ?_)
   case c1=>
    intro j u s
    match j,s with
    |0,s=>simp at s;subst s;simp[Addr.add]
   case c2=>intro u D;simp at D;subst D;rfl
   case c3=>unfold maxLen;omega
   case c4=>omega
   case c5=>simp;omega
   ·intro v' W d n _;obtain⟨r,P,f,rfl⟩:∃r P f,v'=.slice r P f:=by
     rcases d.2 with⟨e,_⟩|⟨q,f,H,e,_⟩<;>exact⟨_,_,_,e⟩
    have R:W.ownsRow w.heap.size 3 1 (.slice r P f) (i+1) (fI ((l.take (i+1)).map Ex.ty)):=by
     rw[t.out];simp only[fI,List.map_append,List.map_take,List.map_cons,List.map_nil]at d ⊢;exact d
    have Z:Below w.heap.size w W:=((C.alloc K _).alloc (by simp;omega) _).grown n (by simp;omega) (λk hk=>(m.lt k hk).1);clear d n m t V q1 q2 q3 q4 q5 q6 q7 q8 q9 Q
    go_wp2
    go_roundw
    case rel=>exact⟨i+1,_,_,_,by omega,rfl,by go_num,R,Z⟩
    case measure=>simp[intOf];omega
  ·have z:l.take i=l:=List.take_of_length_le (by omega);have A:i=l.length:=by omega
   have Y:Hid (aZ wr (.slice F kn E) (l.map Ex.ty)):=by
    rw[z]at m;refine sU (b:=w.heap.size) ?_ (by simpa using hl);rw[List.length_map,<-A];exact m
   clear m z A
   go_wp2_with fail
   go_ret;exact⟨_,rfl,Y.out,C⟩
end Go.Proofs.YtdifpeaklamhnaaGreatDoor
