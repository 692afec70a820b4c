import Derived.Test.YtdifpeaklamhnaaGreatDoorRtOZ
import Derived.Test.YtdifpeaklamhnaaGreatDoorEwUZ
set_option linter.unusedVariables false
set_option linter.unusedSimpArgs false
set_option maxRecDepth 100000
set_option maxHeartbeats 0
namespace Go.Proofs.YtdifpeaklamhnaaGreatDoor
open Go.Proofs.Tryz
open Go.RowKit
open Nat (le_refl zero_mul add_zero lt_of_lt_of_le le_of_lt)
open World (size_alloc size_setCell cell?_of_block)
open Below (size trans mono drew block refl)
theorem bS(b:Bool)(w:World):Calls prog 130 #[.bool b] w λe w'=>e=.returned (.agg #[.int .i64 3,.int .i64 (gz b),.string ⟨#[]⟩])/\w'=w.alloc (.cells #[.int .i64 3,.int .i64 (gz b),.string ⟨#[]⟩] 56):=by
 cases b
 ·go_enter Tryz.func130,Tryz.ntmps130
  go_wp2_with fail
  exact bodyPost_ret (v:=.agg #[.int .i64 3,.int .i64 0,.string ⟨#[]⟩]) (by simp[results,Tryz.results130,go_sem]) rfl ⟨rfl,rfl⟩
 ·go_enter Tryz.func130,Tryz.ntmps130
  go_wp2_with fail
  exact bodyPost_ret (v:=.agg #[.int .i64 3,.int .i64 1,.string ⟨#[]⟩]) (by simp[results,Tryz.results130,go_sem]) rfl ⟨rfl,rfl⟩
theorem Oh(n:Nat):(48+(n:Int) % 10)=((UInt8.ofNat (48+n % 10)).toNat:Int):=by
 have:(48+n % 10)<256:=by omega
 simp[UInt8.toNat_ofNat',Nat.mod_eq_of_lt this]
theorem EH(n:Nat)(w:World):(convert 174 9 (.slice (some ⟨w.heap.size,0,none⟩) 1 1)).run prog (w.alloc (.cells #[.int .u8 (48+(n:Int) % 10)] 5))=.ok (.string (aa [UInt8.ofNat (48+n % 10)])) (w.alloc (.cells #[.int .u8 (48+(n:Int) % 10)] 5)):=by
 rw[Oh];exact run_convert_bytes_back (P:=prog) (w.alloc (.cells #[.int .u8 ((UInt8.ofNat (48+n % 10)).toNat:Int)] 5)) 174 9 5 ⟨w.heap.size,0,none⟩ 1 [UInt8.ofNat (48+n % 10)] Tryz.underlying174 Tryz.underlying5 Tryz.underlying9 (by
  intro m b;have a:m=0:=by simp at b;exact b
  subst a;exact(af (heap_alloc_new w _)).trans rfl)
theorem Kj:∀(k n:Nat),n<=k->(Lib.decDigits n).length<=n+1:=by
 intro k
 induction k with
 |zero=>intro n a;rw[Lib.decDigits,dif_pos (by omega)];simp
 |succ k ih=>
  intro n a;by_cases h:n<10
  ·rw[Lib.decDigits,dif_pos h];simp
  ·have:=ih (n / 10) (by omega);rw[Lib.decDigits,dif_neg h,List.length_append,List.length_singleton];omega
theorem oL(a b:Bs):aa a++aa b=aa (a++b):=by apply ByteArray.ext;rw[ByteArray.data_append];simp[aa]
theorem PG(k:Nat):∀n:Nat,n<=k->n<=4000000000000000000->∀w:World,Calls prog 201 #[.int .i64 (n:Int)] w λe w'=>e=.returned (.string (aa (Lib.decDigits n)))/\Below w.heap.size w w':=by
 induction k with
 |zero=>
  intro n o m w;have a:=EH n w;obtain⟨c,f⟩:∃c,c=UInt8.ofNat (48+n % 10):=⟨_,rfl⟩;have b:Lib.decDigits n= [UInt8.ofNat (48+n % 10)]:=by rw[Lib.decDigits,dif_pos (by omega),Nat.mod_eq_of_lt (by omega)]
  rw[b];rw[<-f]at a ⊢;clear f b;go_enter Tryz.func201,Tryz.ntmps201
  go_wp2_with fail
  go_ret;exact⟨rfl,ae w _⟩
 |succ k ih=>
  intro n o m w;have a:=EH n w;obtain⟨c,f⟩:∃c,c=UInt8.ofNat (48+n % 10):=⟨_,rfl⟩;by_cases g:n<10
  ·have b:Lib.decDigits n= [UInt8.ofNat (48+n % 10)]:=by rw[Lib.decDigits,dif_pos g,Nat.mod_eq_of_lt g]
   rw[b];rw[<-f]at a ⊢;clear f b;go_enter Tryz.func201,Tryz.ntmps201
   go_wp2_with fail
   go_ret;exact⟨rfl,ae w _⟩
  ·have b:Lib.decDigits n=Lib.decDigits (n / 10)++ [UInt8.ofNat (48+n % 10)]:=by rw[Lib.decDigits,dif_neg g]
   have i:=ih (n / 10) (by omega) (by omega);rw[b];have l:=Kj _ (n / 10) (le_refl _);obtain⟨d,h⟩:∃d,d=Lib.decDigits (n / 10):=⟨_,rfl⟩;rw[<-h]at i l ⊢;rw[<-f]at a ⊢;have p:¬9223372036854775807<(aa d).size+(aa [c]).size:=by rw[aF,aF,List.length_singleton];omega
   have j:Hid (aa d++aa [c]=aa (d++ [c])):=oL _ _;clear f b h ih;go_enter Tryz.func201,Tryz.ntmps201
   go_wp2_with(go_at_call 201;refine(i _).mono ?_;rintro e w2 ⟨rfl,hb2⟩)
   go_ret;exact⟨by rw[<-j.out];rfl,(ae w _).trans (hb2.mono (by simp[size_alloc]))⟩
theorem zi(n:Int)(i: -4000000000000000000<=n)(j:n<=4000000000000000000)(w:World):Calls prog 201 #[.int .i64 n] w λe w'=>e=.returned (.string (aa (Lib.itoa n)))/\Below w.heap.size w w':=by
 by_cases c:n<0
 ·have a:=PG _ n.natAbs (le_refl _) (by omega);have g:=Kj _ n.natAbs (le_refl _);rw[Lib.itoa,if_pos c];have e:((n.natAbs:Nat):Int)= -n:=by omega
  rw[e]at a;obtain⟨d,b⟩:∃d,d=Lib.decDigits n.natAbs:=⟨_,rfl⟩;rw[<-b]at a g ⊢;have h:¬9223372036854775807<(ByteArray.mk #[45]).size+(aa d).size:=by rw[aF];show¬9223372036854775807<1+d.length;omega
  have f:Hid (ByteArray.mk #[45]++aa d=aa (45::d)):=by have:=oL [45] d;exact this
  clear b e;go_enter Tryz.func201,Tryz.ntmps201
  go_wp2_with(go_at_call 201;refine(a _).mono ?_;rintro e w2 ⟨rfl,hb2⟩)
  go_ret;exact⟨by rw[<-f.out];rfl,hb2⟩
 ·have a:=PG _ n.toNat (le_refl _) (by omega) w;rw[Lib.itoa,if_neg c]
  rwa[show((n.toNat:Nat):Int)=n by omega]at a
def mg(a b:aj):Bool:=if a.1=2 then Op.bytesLess a.2.2 b.2.2 else decide (a.2.1<b.2.1)
theorem fO(a b:aj)(k:a.1≠0)(hb:b.1≠0)(w:World):Calls prog 164 #[.agg #[.int .i64 a.1,.int .i64 a.2.1,.string (aa a.2.2)],.agg #[.int .i64 b.1,.int .i64 b.2.1,.string (aa b.2.2)]] w λe w'=>e=.returned (.bool (mg a b))/\Below w.heap.size w w':=by
 obtain⟨c,g,f⟩:=a;obtain⟨bk,i,h⟩:=b;simp only at k hb ⊢;have m:(c==0)=false:=by simpa using k
 have n:(bk==0)=false:=by simpa using hb
 by_cases j:c=2
 ·subst j;have d:Hid (mg (2,g,f) (bk,i,h)=Op.bytesLess (aa f).toList (aa h).toList):=by rw[Hid,mg,if_pos rfl,au,au]
  go_enter Tryz.func164,Tryz.ntmps164
  go_wp2_with fail
  go_ret;exact⟨by rw[d.out];rfl,az w _ _⟩
 ·have l:(c==2)=false:=by simpa using j
  have d:Hid (mg (c,g,f) (bk,i,h)=decide (g<i)):=by rw[Hid,mg,if_neg j]
  go_enter Tryz.func164,Tryz.ntmps164
  go_wp2_with fail
  go_ret;exact⟨by rw[d.out];rfl,az w _ _⟩
theorem CQ(k n:Int)(l:Bs)(w:World)(m: -4000000000000000000<=n)(o:n<=4000000000000000000)(u:l.length<=1000):Calls prog 131 #[.agg #[.int .i64 k,.int .i64 n,.string (aa l)]] w λe w'=>e=.returned (.string (aa (ku (k,n,l))))/\Below w.heap.size w w':=by
 by_cases b:k=1
 ·subst b;have i:=zi n m o;have a:Hid (ku (1,n,l)=Lib.itoa n):=rfl;go_enter Tryz.func131,Tryz.ntmps131
  go_wp2_with(go_at_call 201;refine(i _).mono ?_;rintro e w2 ⟨rfl,hb2⟩)
  go_ret;exact⟨by rw[a.out];rfl,(ae w _).trans (hb2.mono (by simp[size_alloc]))⟩
 ·have r:(k==1)=false:=by simpa using b
  by_cases c:k=2
  ·subst c;have a:Hid (ku (2,n,l)= [39]++(l++ [39])):=rfl;have p:¬9223372036854775807<(ByteArray.mk #[39]).size+(aa l).size:=by rw[aF];show¬9223372036854775807<1+l.length;omega
   have q:¬9223372036854775807<(ByteArray.mk #[39]++aa l).size+(ByteArray.mk #[39]).size:=by
    have:ByteArray.mk #[39]++aa l=aa (39::l):=oL [39] l;rw[this,aF];show¬9223372036854775807<(l.length+1)+1;omega
   have h:Hid (ByteArray.mk #[39]++aa l++ByteArray.mk #[39]=aa ([39]++(l++ [39]))):=by
    have j:ByteArray.mk #[39]++aa l=aa ([39]++l):=oL [39] l;rw[Hid,j,<-List.append_assoc];exact oL _ [39]
   go_enter Tryz.func131,Tryz.ntmps131
   go_wp2_with fail
   go_ret;exact⟨by rw[a.out,<-h.out];rfl,ae w _⟩
  ·have s:(k==2)=false:=by simpa using c
   by_cases d:k=3
   ·subst d;by_cases g:n=1
    ·subst g;have a:Hid (ku (3,1,l)= [116,114,117,101]):=rfl;go_enter Tryz.func131,Tryz.ntmps131
     go_wp2_with fail
     go_ret;exact⟨by rw[a.out];rfl,ae w _⟩
    ·have f:(n==1)=false:=by simpa using g
     have a:Hid (ku (3,n,l)= [102,97,108,115,101]):=by rw[Hid,ku];simp[f,Lib.formatBool];decide
     go_enter Tryz.func131,Tryz.ntmps131
     go_wp2_with fail
     go_ret;exact⟨by rw[a.out];rfl,ae w _⟩
   ·have t:(k==3)=false:=by simpa using d
    have a:Hid (ku (k,n,l)= [45]):=by rw[Hid,ku,if_neg b,if_neg c,if_neg d]
    go_enter Tryz.func131,Tryz.ntmps131
    go_wp2_with fail
    go_ret;exact⟨by rw[a.out];rfl,ae w _⟩
abbrev Kf:=Dx 232
def Kr(qt:Bool)(rb:Nat)(w w':World):Prop:=match qt with
 |true=>Below w.heap.size w w'
 |false=>Kf rb w w'
section
variable {qt : Bool} {rb : Nat} {w x y : World}
theorem Kr.of(h:Kf rb w x):Kr false rb w x:=h
theorem Kr.kf(h:Kr false rb w x):Kf rb w x:=h
theorem Kr.size(h:Kr qt rb w x):w.heap.size<=x.heap.size:=by
 cases qt
 ·exact Dx.size h
 ·exact size h
theorem Kr.trans(h:Kr qt rb w x)(k:Kr qt rb x y):Kr qt rb w y:=by
 have a:=h.size
 cases qt
 ·exact Dx.trans h k
 ·exact trans h (mono k a)
theorem Below.kr(h:Below w.heap.size w x)(a:rb<=w.heap.size):Kr qt rb w x:=by
 cases qt
 ·exact Below.kn h a
 ·exact h
theorem Kr.more(h:Kr qt rb w x)(a:rb<=w.heap.size)(k:Below w.heap.size x y):Kr qt rb w y:=by
 cases qt
 ·exact Dx.more h a k
 ·exact Below.trans h k
theorem Kr.drew(h:Kr qt rb w x):Kr qt rb w x.drew:=by
 cases qt
 ·exact⟨drew h.1,h.2⟩
 ·exact drew h
theorem Kr.cells(h:Kr qt rb w x){g:Nat}{a:Array Value}{T:TypeId}{c:Nat × Nat}(b:w.heap[g]? =some (.cells a T c))(t1:T≠9)(t2:T≠232):x.heap[g]? =some (.cells a T c):=by
 cases qt
 ·exact h.2 _ _ _ _ b t1 t2
 ·exact(block h g (ai b)).trans b
theorem Kr.mV(h:Kr qt rb w x){g:Nat}(a:g<w.heap.size)(b:g<rb):x.heap[g]? =w.heap[g]? :=by
 cases qt
 ·exact h.1.block g b
 ·exact block h g a
theorem Kr.low{w0:World}(a:Below w0.heap.size w0 x)(b:qt=false->w0.heap.size<=rb)(k:Kr qt rb x y):Below w0.heap.size w0 y:=by
 cases qt
 ·exact a.trans (k.1.mono (b rfl))
 ·exact a.trans (mono k a.size)
theorem Kr.kF(h:Kr qt rb w x){b:Nat}(a:rb<=w.heap.size)(hb:w.heap.size<=b)(a0 a1 a2:Value):Kr qt rb w (((x.setCell ⟨b,0,none⟩ a0).setCell ⟨b,1,none⟩ a1).setCell ⟨b,2,none⟩ a2):=by
 cases qt
 ·exact Dx.kF h a hb _ _ _
 ·exact aH h hb _ _ _
end
def RW(w:World)(rb:Nat)(fv:Value)(user:Bs)(cv lv:Value)(ns:List Bs)(k:Int):Prop:=∃no nn nc,w.heap[rb]? =some (.cells #[fv,.string (aa user),cv,lv,.slice no nn nc,.int .i64 k] 232 (0,0))/\w.ownsRow (rb+1) 9 1 (.slice no nn nc) ns.length (rJ ns)
abbrev iy(c:aj):Value:=.agg #[.int .i64 c.1,.int .i64 c.2.1,.string (aa c.2.2)]
theorem yG{w:World}{v:Value}{cs:List aj}(h:aO w v cs)(i:Nat)(c:i<cs.length):∃b a cap,v=.slice (some ⟨b,a,none⟩) cs.length cap/\b<w.heap.size/\w.cell? ⟨b,a+i*3,none⟩=some (.int .i64 cs[i].1)/\w.cell? ⟨b,a+i*3+1,none⟩=some (.int .i64 cs[i].2.1)/\w.cell? ⟨b,a+i*3+2,none⟩=some (.string (aa cs[i].2.2)):=by
 obtain⟨j,cap,rfl,_,h|⟨b,a,rfl,hb,d⟩⟩:=h
 ·subst h;simp at c
 ·obtain⟨e,f,g⟩:=d i cs[i] (List.getElem?_eq_getElem c);exact⟨b,a,cap,rfl,hb,e,f,g⟩
abbrev rX(c:aj):Obj:=aI c.1 c.2.1 (aa c.2.2)
structure SL(w x:World)(a c:aj):Prop where
 mV:Below w.heap.size w x
 b0:x.heap[w.heap.size]? =some (aI 0 0 ⟨#[]⟩)
 b1:x.heap[w.heap.size+1]? =some (rX a)
 b2:x.heap[w.heap.size+1+1]? =some (rX c)
theorem SL.ag{w x y:World}{a c:aj}(h:SL w x a c)(hb:Below x.heap.size x y):SL w y a c:=
 ⟨h.mV.trans (hb.mono h.mV.size),(hb.block _ (ai h.b0)).trans h.b0,(hb.block _ (ai h.b1)).trans h.b1,(hb.block _ (ai h.b2)).trans h.b2⟩
theorem yK(w:World)(a c:aj):SL w (((w.alloc (aI 0 0 ⟨#[]⟩)).alloc (rX a)).alloc (rX c)) a c:=by
 obtain⟨b,d,e⟩:=Ll w (aI 0 0 ⟨#[]⟩) (rX a) (rX c);exact⟨dA w _ _ _,b,d,e⟩
theorem SL.cells{w x:World}{a c:aj}(h:SL w x a c):(w.heap.size<x.heap.size/\w.heap.size+1<x.heap.size/\w.heap.size+1+1<x.heap.size)/\((x.cell? ⟨w.heap.size+1,0,none⟩=some (.int .i64 a.1)/\x.cell? ⟨w.heap.size+1,1,none⟩=some (.int .i64 a.2.1)/\x.cell? ⟨w.heap.size+1,2,none⟩=some (.string (aa a.2.2)))/\(x.cell? ⟨w.heap.size+1+1,0,none⟩=some (.int .i64 c.1)/\x.cell? ⟨w.heap.size+1+1,1,none⟩=some (.int .i64 c.2.1)/\x.cell? ⟨w.heap.size+1+1,2,none⟩=some (.string (aa c.2.2))))/\
  (x.cell? ⟨w.heap.size,0,none⟩=some (.int .i64 0)/\x.cell? ⟨w.heap.size,1,none⟩=some (.int .i64 0)/\x.cell? ⟨w.heap.size,2,none⟩=some (.string ⟨#[]⟩))/\(x.frozen? ⟨w.heap.size,0,none⟩=false/\x.frozen? ⟨w.heap.size,1,none⟩=false/\x.frozen? ⟨w.heap.size,2,none⟩=false):=
 ⟨⟨ai h.b0,ai h.b1,ai h.b2⟩,⟨(aQ h.b1).1,(aQ h.b2).1⟩,aQ h.b0⟩
def TG(c:aj):aj:=aV (c.2.1==0)
theorem Gd(w:World)(rb:Nat)(v:Value)(c:aj)(h:aO w v [c])(j:c.1≠0):Calls prog 132 #[.pointer (some ⟨rb,0,none⟩),.string ⟨#[110,111,116]⟩,v] w λe w'=>e=.returned (iy (TG c))/\Below w.heap.size w w':=by
 obtain⟨b,r,cap,rfl,hb,l,m,n⟩:=yG h 0 (by simp);simp only[List.getElem_cons_zero,zero_mul,add_zero]at l m n;have f:=fO c c j j;have a:=yK w c c;obtain⟨g,cn,i⟩:=c;simp only at l m n f j a ⊢;obtain⟨d,k⟩:∃d,d=mg (g,cn,i) (g,cn,i):=⟨_,rfl⟩;rw[<-k]at f;have o:=bS (cn==0);have p:Hid (iy (TG (g,cn,i))=.agg #[.int .i64 3,.int .i64 (gz (cn==0)),.string ⟨#[]⟩]):=rfl;clear k h;go_enter Tryz.func132,Tryz.ntmps132
 go_wp2_with(first
  |(go_at_call 164;refine(f _).mono ?_;rintro e w2 ⟨rfl,hb2⟩;replace a:=a.ag hb2;obtain⟨⟨q,l1,l2⟩,⟨⟨a0,a1,a2⟩,y,z,A⟩,⟨s,r1,r2⟩,t,u,x⟩:=a.cells)
  |(go_at_call 130;refine(o _).mono ?_;rintro e B ⟨rfl,rfl⟩))
 refine bodyPost_ret (v:=.agg #[.int .i64 3,.int .i64 (gz (cn==0)),.string ⟨#[]⟩]) (by simp[results,Tryz.results132,go_sem,s,r1,r2,q]) rfl ⟨by rw[p.out], ?_⟩;exact(aH a.mV (le_refl _) _ _ _).alloc (by simp only[size_setCell];exact a.mV.size) _
theorem Gc(w:World)(rb:Nat)(v:Value)(c:aj)(h:aO w v [c])(i:c.1≠0):Calls prog 132 #[.pointer (some ⟨rb,0,none⟩),.string ⟨#[108,101,110]⟩,v] w λe w'=>e=.returned (iy (1,(c.2.2.length:Int),[]))/\Below w.heap.size w w':=by
 obtain⟨b,p,cap,rfl,hb,l,m,n⟩:=yG h 0 (by simp);simp only[List.getElem_cons_zero,zero_mul,add_zero]at l m n;have g:=fO c c i i;have f:=yK w c c;obtain⟨j,cn,a⟩:=c;simp only at l m n g i f ⊢;obtain⟨d,k⟩:∃d,d=mg (j,cn,a) (j,cn,a):=⟨_,rfl⟩;rw[<-k]at g;have o:(aa a).size=a.length:=aF a;clear k h;go_enter Tryz.func132,Tryz.ntmps132
 go_wp2_with(go_at_call 164;refine(g _).mono ?_;rintro e w2 ⟨rfl,hb2⟩;replace f:=f.ag hb2;obtain⟨⟨z,l1,l2⟩,⟨⟨a0,a1,a2⟩,u,x,y⟩,⟨q,r1,r2⟩,r,s,t⟩:=f.cells)
 refine bodyPost_ret (v:=.agg #[.int .i64 1,.int .i64 (a.length:Int),.string ⟨#[]⟩]) (by simp[results,Tryz.results132,go_sem,q,r1,r2]) rfl ⟨rfl, ?_⟩;exact aH f.mV (le_refl _) _ _ _
def Ez(h:Bs)(ab ba:Bool):Bool:=if h= [61]then !ab&& !ba else if h= [60]then ab else !ba
theorem AO{w:World}{v:Value}{a c:aj}(h:aO w v [a,c]):∃b d cap,v=.slice (some ⟨b,d,none⟩) 2 cap/\b<w.heap.size/\(w.cell? ⟨b,d,none⟩=some (.int .i64 a.1)/\w.cell? ⟨b,d+1,none⟩=some (.int .i64 a.2.1)/\w.cell? ⟨b,d+2,none⟩=some (.string (aa a.2.2)))/\w.cell? ⟨b,d+3,none⟩=some (.int .i64 c.1)/\w.cell? ⟨b,d+4,none⟩=some (.int .i64 c.2.1)/\w.cell? ⟨b,d+5,none⟩=some (.string (aa c.2.2)):=by
 obtain⟨b,d,cap,e,hb,m,n,o⟩:=yG h 0 (by simp);obtain⟨p,i,f,g,_,j,k,l⟩:=yG h 1 (by simp);rw[e]at g;cases g;simp only[List.getElem_cons_zero,List.getElem_cons_succ,zero_mul,add_zero,Nat.one_mul,Nat.add_assoc]at m n o j k l;exact⟨b,d,cap,e,hb,⟨m,n,o⟩,j,k,l⟩
theorem Gb(w:World)(rb:Nat)(v:Value)(a c:aj)(h:aO w v [a,c])(C:a.1≠0)(D:c.1≠0)(A:Bs)(K:A= [61]\/A= [60]\/A= [60,61]):Calls prog 132 #[.pointer (some ⟨rb,0,none⟩),.string (aa A),v] w λe w'=>e=.returned (iy (aV (Ez A (mg a c) (mg c a))))/\Below w.heap.size w w':=by
 obtain⟨b,L,cap,rfl,hb,⟨Q,R,S⟩,N,O,P⟩:=AO h;have t:=fO a c C D;have k:=fO c a D C;have f:=yK w a c;obtain⟨F,H,G⟩:=a;obtain⟨I,cn,J⟩:=c;simp only at Q R S N O P t k f ⊢;obtain⟨o,y⟩:∃d,d=mg (F,H,G) (I,cn,J):=⟨_,rfl⟩;obtain⟨p,z⟩:∃d,d=mg (I,cn,J) (F,H,G):=⟨_,rfl⟩;rw[<-y]at t ⊢;rw[<-z]at k ⊢;have B:=bS;have M:Hid True:=trivial;clear y z h C D;have n:∀d:Bool,Hid (iy (aV d)=.agg #[.int .i64 3,.int .i64 (gz d),.string ⟨#[]⟩]):=λ_=>rfl;rcases K with rfl|rfl|rfl
 ·have x:aa [61]=⟨#[61]⟩:=rfl;rw[x];have u:Hid (Ez [61] o p=(!o&& !p)):=rfl;rw[u.out]
  cases o
  ·go_enter Tryz.func132,Tryz.ntmps132
   go_wp2_with(first
    |(go_at_call 164;first
    |(clear M;refine(t _).mono ?_;rintro e w2 ⟨rfl,hb2⟩;replace f:=f.ag hb2;obtain⟨⟨l,l1,l2⟩,⟨⟨a0,a1,a2⟩,q,r,s⟩,⟨m,r1,r2⟩,g,i,j⟩:=f.cells)
    |(refine(k _).mono ?_;rintro e w2 ⟨rfl,hb2⟩;replace f:=f.ag hb2;obtain⟨⟨l,l1,l2⟩,⟨⟨a0,a1,a2⟩,q,r,s⟩,⟨m,r1,r2⟩,g,i,j⟩:=f.cells))
    |(go_at_call 130;refine(B _ _).mono ?_;rintro e E ⟨rfl,rfl⟩))
   refine bodyPost_ret (v:=.agg #[.int .i64 3,.int .i64 (gz (!p)),.string ⟨#[]⟩]) (by simp[results,Tryz.results132,go_sem,m,r1,r2,l]) rfl ⟨by rw[(n _).out];rfl, ?_⟩;exact(aH f.mV (le_refl _) _ _ _).alloc (by simp only[size_setCell];exact f.mV.size) _
  ·go_enter Tryz.func132,Tryz.ntmps132
   go_wp2_with(first
    |(go_at_call 164;first
    |(clear M;refine(t _).mono ?_;rintro e w2 ⟨rfl,hb2⟩;replace f:=f.ag hb2;obtain⟨⟨l,l1,l2⟩,⟨⟨a0,a1,a2⟩,q,r,s⟩,⟨m,r1,r2⟩,g,i,j⟩:=f.cells)
    |(refine(k _).mono ?_;rintro e w2 ⟨rfl,hb2⟩;replace f:=f.ag hb2;obtain⟨⟨l,l1,l2⟩,⟨⟨a0,a1,a2⟩,q,r,s⟩,⟨m,r1,r2⟩,g,i,j⟩:=f.cells))
    |(go_at_call 130;refine(B _ _).mono ?_;rintro e E ⟨rfl,rfl⟩))
   refine bodyPost_ret (v:=.agg #[.int .i64 3,.int .i64 (gz false),.string ⟨#[]⟩]) (by simp[results,Tryz.results132,go_sem,m,r1,r2,l]) rfl ⟨by rw[(n _).out];rfl, ?_⟩;exact(aH f.mV (le_refl _) _ _ _).alloc (by simp only[size_setCell];exact f.mV.size) _
 ·have x:aa [60]=⟨#[60]⟩:=rfl;rw[x];have u:Hid (Ez [60] o p=o):=rfl;rw[u.out];go_enter Tryz.func132,Tryz.ntmps132
  go_wp2_with(first
   |(go_at_call 164;first
    |(clear M;refine(t _).mono ?_;rintro e w2 ⟨rfl,hb2⟩;replace f:=f.ag hb2;obtain⟨⟨l,l1,l2⟩,⟨⟨a0,a1,a2⟩,q,r,s⟩,⟨m,r1,r2⟩,g,i,j⟩:=f.cells)
    |(refine(k _).mono ?_;rintro e w2 ⟨rfl,hb2⟩;replace f:=f.ag hb2;obtain⟨⟨l,l1,l2⟩,⟨⟨a0,a1,a2⟩,q,r,s⟩,⟨m,r1,r2⟩,g,i,j⟩:=f.cells))
   |(go_at_call 130;refine(B _ _).mono ?_;rintro e E ⟨rfl,rfl⟩))
  refine bodyPost_ret (v:=.agg #[.int .i64 3,.int .i64 (gz o),.string ⟨#[]⟩]) (by simp[results,Tryz.results132,go_sem,m,r1,r2,l]) rfl ⟨by rw[(n _).out], ?_⟩;exact(aH f.mV (le_refl _) _ _ _).alloc (by simp only[size_setCell];exact f.mV.size) _
 ·have x:aa [60,61]=⟨#[60,61]⟩:=rfl;rw[x];have u:Hid (Ez [60,61] o p= !p):=rfl;rw[u.out];go_enter Tryz.func132,Tryz.ntmps132
  go_wp2_with(first
   |(go_at_call 164;first
    |(clear M;refine(t _).mono ?_;rintro e w2 ⟨rfl,hb2⟩;replace f:=f.ag hb2;obtain⟨⟨l,l1,l2⟩,⟨⟨a0,a1,a2⟩,q,r,s⟩,⟨m,r1,r2⟩,g,i,j⟩:=f.cells)
    |(refine(k _).mono ?_;rintro e w2 ⟨rfl,hb2⟩;replace f:=f.ag hb2;obtain⟨⟨l,l1,l2⟩,⟨⟨a0,a1,a2⟩,q,r,s⟩,⟨m,r1,r2⟩,g,i,j⟩:=f.cells))
   |(go_at_call 130;refine(B _ _).mono ?_;rintro e E ⟨rfl,rfl⟩))
  refine bodyPost_ret (v:=.agg #[.int .i64 3,.int .i64 (gz (!p)),.string ⟨#[]⟩]) (by simp[results,Tryz.results132,go_sem,m,r1,r2,l]) rfl ⟨by rw[(n _).out], ?_⟩;exact(aH f.mV (le_refl _) _ _ _).alloc (by simp only[size_setCell];exact f.mV.size) _
theorem RW.lt{w:World}{rb:Nat}{c:Value}{a:Bs}{b d:Value}{ns:List Bs}{k:Int}(h:RW w rb c a b d ns k):rb<w.heap.size:=by
 obtain⟨_,_,_,h,_⟩:=h;exact ai h
theorem RW.ag{w x:World}{rb:Nat}{fv:Value}{a:Bs}{cv lv:Value}{ns:List Bs}{k:Int}(h:RW w rb fv a cv lv ns k)(hb:Below w.heap.size w x):RW x rb fv a cv lv ns k:=by
 obtain⟨i,f,e,b,c⟩:=h;exact⟨i,f,e,(hb.block rb (ai b)).trans b,aA c λg d=>hb.block g (c.lt g d).2⟩
theorem RW.cells{w:World}{rb:Nat}{c:Value}{a:Bs}{b e:Value}{ns:List Bs}{k:Int}(h:RW w rb c a b e ns k):w.frozen? ⟨rb,5,none⟩=false/\w.cell? ⟨rb,5,none⟩=some (.int .i64 k):=by
 obtain⟨j,i,g,d,f⟩:=h;simp[World.frozen?,World.cell?,d]
theorem RW.fault{w x:World}{rb:Nat}{j:Value}{a:Bs}{i m:Value}{ns:List Bs}{k:Int}(h:RW w rb j a i m ns k)(hb:Below w.heap.size w x){b:Nat}(t:w.heap.size<=b)(n:Int)(a0 a1 a2:Value):RW ((((x.setCell ⟨rb,5,none⟩ (.int .i64 n)).setCell ⟨b,0,none⟩ a0).setCell ⟨b,1,none⟩ a1).setCell ⟨b,2,none⟩ a2) rb j a i m ns n/\Kf rb w ((((x.setCell ⟨rb,5,none⟩ (.int .i64 n)).setCell ⟨b,0,none⟩ a0).setCell ⟨b,1,none⟩ a1).setCell ⟨b,2,none⟩ a2):=by
 have s:=h.lt;obtain⟨z,y,v,l,d⟩:=h;have u:=(hb.block rb s).trans l;have c:∀g,g<w.heap.size->g≠rb->((((x.setCell ⟨rb,5,none⟩ (.int .i64 n)).setCell ⟨b,0,none⟩ a0).setCell ⟨b,1,none⟩ a1).setCell ⟨b,2,none⟩ a2).heap[g]? =w.heap[g]? :=λg q r=>by
  rw[gP _ _ _ _ _ _ (by omega),Below.heap_setCell _ _ _ _ r];exact hb.block g q
 refine⟨⟨z,y,v, ?_,aA d λg f=>c g (d.lt g f).2 (by have:=(d.lt g f).1;omega)⟩,⟨hb.os,hb.tape,hb.output,by simp only[size_setCell];exact hb.size,λg f=>c g (by omega) (by omega)⟩,λg o T A e t1 t2=>(c g (ai e) λp=> ?_).trans e⟩
 ·rw[gP _ _ _ _ _ _ (by omega)];simp[World.setCell,Array.getElem?_modify,u]
 ·subst p;rw[l]at e;cases e;exact t2 rfl
theorem Av{a:Bs}(b:a= [43]\/a= [45]\/a= [42]\/a= [47])(l:Bs)(c:l= [110,111,116]\/l= [108,101,110]\/l= [61]\/l= [60]\/l= [60,61]\/l= [99,97,116]):((aa a).toList==l)=false:=by
 rw[au];rcases b with rfl|rfl|rfl|rfl<;>rcases c with rfl|rfl|rfl|rfl|rfl|rfl<;>rfl
theorem Ji(w:World)(rb:Nat)(fv:Value)(l:Bs)(cv lv:Value)(ns:List Bs)(p:RW w rb fv l cv lv ns 0)(v:Value)(a c:aj)(h:aO w v [a,c])(X:a.1≠0)(Y:c.1≠0)(ra:aY a.2.1=true)(rc:aY c.2.1=true)(i:Bs)(q:i= [43]\/i= [45]\/i= [42]\/i= [47]):Calls prog 132 #[.pointer (some ⟨rb,0,none⟩),.string (aa i),v] w λe w'=>e=.returned (iy (qD i a.2.1 c.2.1).1)/\RW w' rb fv l cv lv ns (qD i a.2.1 c.2.1).2/\Kf rb w w':=by
 have t1:=Av q [110,111,116] (by simp);have t2:=Av q [108,101,110] (by simp);have t3:=Av q [61] (by simp);have t4:=Av q [60] (by simp);have t5:=Av q [60,61] (by simp);have t6:=Av q [99,97,116] (by simp);obtain⟨⟨A,B⟩,⟨C,D⟩,⟨G,H⟩,E,F⟩:=TH ra rc;obtain⟨b,a7,cap,rfl,hb,⟨q0,q1,q2⟩,p0,p1,p2⟩:=AO h;have L:=fO a c X Y;have j:=fO c a Y X;have f:=yK w a c;obtain⟨Q,o,R⟩:=a;obtain⟨V,cn,W⟩:=c;simp only at q0 q1 q2 p0 p1 p2 L j f A B C D G H E F ⊢;obtain⟨ab,I⟩:∃d,d=mg (Q,o,R) (V,cn,W):=⟨_,rfl⟩;obtain⟨bb,J⟩:∃d,d=mg (V,cn,W) (Q,o,R):=⟨_,rfl⟩;rw[<-I]at L;rw[<-J]at j;obtain⟨r,Z⟩:∃r,r=qD i o cn:=⟨_,rfl⟩;rw[<-Z];have O:Hid (r=qD i o cn):=Z;clear Z;have M:Hid True:=trivial;have s:=p.lt;clear I J h X Y ra rc;go_enter Tryz.func132,Tryz.ntmps132;go_upto_block 3 with(go_at_call 164;first
  |(clear M;refine(L _).mono ?_;rintro e w2 ⟨rfl,hb2⟩;replace f:=f.ag hb2;obtain⟨⟨l0,l1,l2⟩,⟨⟨a0,a1,a2⟩,S,T,U⟩,⟨t,r1,r2⟩,u,x,y⟩:=f.cells)
  |(refine(j _).mono ?_;rintro e w2 ⟨rfl,hb2⟩;replace f:=f.ag hb2;obtain⟨⟨l0,l1,l2⟩,⟨⟨a0,a1,a2⟩,S,T,U⟩,⟨t,r1,r2⟩,u,x,y⟩:=f.cells))
 clear L j t1 t2 t3 t4 t5 t6 q0 q1 q2 p0 p1 p2 hb;by_cases K:i= [47]/\cn=0
 ·obtain⟨rfl,rfl⟩:=K;have m:Hid (r=(dm,10)):=by rw[Hid,O.out,qD,if_pos ⟨rfl,rfl⟩]
  have k:aa [47]=⟨#[47]⟩:=rfl;rw[k];obtain⟨f5,g5⟩:=(p.ag f.mV).cells;have a3:rb<w2.heap.size:=lt_of_lt_of_le s f.mV.size;have a6:rb≠w.heap.size:=Nat.ne_of_lt s;clear O
  go_wp2_with fail
  refine bodyPost_ret (v:=.agg #[.int .i64 0,.int .i64 0,.string ⟨#[]⟩]) (by simp[results,Tryz.results132,go_sem,t,r1,r2]) rfl ?_;rw[m.out];exact⟨rfl,p.fault f.mV (le_refl _) _ _ _ _⟩
 ·obtain⟨n,P⟩:∃n,n=Rp i o cn:=⟨_,rfl⟩;go_cut [13] (λnv wx=>nv=.int .i64 n/\SL w wx (Q,o,R) (V,cn,W))
  case first=>
   have N:Hid (n=Rp i o cn):=P;clear P;rcases q with rfl|rfl|rfl|rfl
   ·have k:aa [43]=⟨#[43]⟩:=rfl;rw[k]
    go_wp2_with fail
    go_meet;exact⟨by rw[N.out];rfl,f⟩
   ·have k:aa [45]=⟨#[45]⟩:=rfl;rw[k]
    go_wp2_with fail
    go_meet;exact⟨by rw[N.out];rfl,f⟩
   ·have k:aa [42]=⟨#[42]⟩:=rfl;rw[k]
    go_wp2_with fail
    go_meet;exact⟨by rw[N.out];rfl,f⟩
   ·have k:aa [47]=⟨#[47]⟩:=rfl;have a5:(cn==0)=false:=by
     rw[beq_eq_false_iff_ne];exact λe=>K ⟨rfl,e⟩
    have a4:cn≠0:=λe=>K ⟨rfl,e⟩;rw[k]
    go_wp2_with fail
    go_meet;exact⟨by rw[N.out];rfl,f⟩
  case rest=>
   obtain⟨rfl,z⟩:=hcut;clear f l0 l1 l2 a0 a1 a2 S T U t r1 r2 u x y;obtain⟨⟨l0,l1,l2⟩,⟨⟨a0,a1,a2⟩,S,T,U⟩,⟨t,r1,r2⟩,u,x,y⟩:=z.cells;obtain⟨f5,g5⟩:=(p.ag z.mV).cells;have a3:rb<wc.heap.size:=lt_of_lt_of_le s z.mV.size;have g:Hid (r=if aY n then((1,n,[]),0)else(dm,11)):=by rw[Hid,O.out,qD,if_neg K,<-P]
   clear P O K A B C D G H E F;by_cases h1:1000000000<n
   ·have m:Hid (r=(dm,11)):=by rw[Hid,g.out,if_neg];simp only[aY,Bool.and_eq_true,decide_eq_true_eq];omega
    clear g
    go_wp2_with fail
    refine bodyPost_ret (v:=.agg #[.int .i64 0,.int .i64 0,.string ⟨#[]⟩]) (by simp[results,Tryz.results132,go_sem,t,r1,r2]) rfl ?_;rw[m.out];exact⟨rfl,p.fault z.mV (le_refl _) _ _ _ _⟩
   ·by_cases h2:n< -1000000000
    ·have m:Hid (r=(dm,11)):=by rw[Hid,g.out,if_neg];simp only[aY,Bool.and_eq_true,decide_eq_true_eq];omega
     clear g
     go_wp2_with fail
     refine bodyPost_ret (v:=.agg #[.int .i64 0,.int .i64 0,.string ⟨#[]⟩]) (by simp[results,Tryz.results132,go_sem,t,r1,r2]) rfl ?_;rw[m.out];exact⟨rfl,p.fault z.mV (le_refl _) _ _ _ _⟩
    ·have m:Hid (r=((1,n,[]),0)):=by rw[Hid,g.out,if_pos];simp only[aY,Bool.and_eq_true,decide_eq_true_eq];omega
     clear g
     go_wp2_with fail
     refine bodyPost_ret (v:=.agg #[.int .i64 1,.int .i64 n,.string ⟨#[]⟩]) (by simp[results,Tryz.results132,go_sem,t,r1,r2]) rfl ?_;rw[m.out];have hb:=aH z.mV (le_refl _) (.int .i64 1) (.int .i64 n) (.string ⟨#[]⟩);exact⟨rfl,p.ag hb,Below.kn hb (by omega)⟩
theorem Ga(w:World)(rb:Nat)(fv:Value)(o:Bs)(cv lv:Value)(ns:List Bs)(H:RW w rb fv o cv lv ns 0)(v:Value)(cs:List aj)(h:aO w v cs)(U:∀c∈cs,c.1≠0)(m:Nat)(hm:cs.length=m+1)(hl:cs.length<=1000)(hs:mI cs=true):Calls prog 132 #[.pointer (some ⟨rb,0,none⟩),.string ⟨#[99,97,116]⟩,v] w λe w'=>e=.returned (iy (Ii cs).1)/\RW w' rb fv o cv lv ns (Ii cs).2/\Kf rb w w':=by
 obtain⟨ao,cap,rfl,a8,hz⟩:=h;rw[hm];obtain⟨b,f,rfl,hb,J⟩:∃b f,ao=some ⟨b,f,none⟩/\b<w.heap.size/\∀(i:Nat) (c:aj),cs[i]? =some c->w.cell? ⟨b,f+i*3,none⟩=some (.int .i64 c.1)/\w.cell? ⟨b,f+i*3+1,none⟩=some (.int .i64 c.2.1)/\w.cell? ⟨b,f+i*3+2,none⟩=some (.string (aa c.2.2)):=by
  rcases hz with h|h
  ·subst h;simp at hm
  ·exact h
 have R:0<cs.length:=by omega
 have y:m<cs.length:=by omega
 obtain⟨K,L,N⟩:=J 0 cs[0] (List.getElem?_eq_getElem R);obtain⟨Y,Z,p2⟩:=J m cs[m] (List.getElem?_eq_getElem y);simp only[zero_mul,add_zero]at K L N;have I:=U cs[0] (List.getElem_mem R);have n:=U cs[m] (List.getElem_mem y);have x:Hid (∀(i:Nat) (c:aj),cs[i]? =some c->w.cell? ⟨b,f+i*3+2,none⟩=some (.string (aa c.2.2))):=λi c h=>(J i c h).2.2;have P:Hid (mI cs=true):=hs;obtain⟨r,V⟩:∃r,r=Ii cs:=⟨_,rfl⟩;rw[<-V];have HV:Hid (r=Ii cs):=V;obtain⟨a,A⟩:∃a,a=cs[0]:=⟨_,rfl⟩;obtain⟨c,C⟩:∃a,a=cs[m]:=⟨_,rfl⟩;rw[<-A]at K L N I;rw[<-C]at Y Z p2 n;have G:=fO a c I n;have j:=fO c a n I;have g:=yK w a c;obtain⟨ak,an,al⟩:=a;obtain⟨ck,cn,cl⟩:=c;simp only at K L N Y Z p2 G j g ⊢;obtain⟨ab,z⟩:∃d,d=mg (ak,an,al) (ck,cn,cl):=⟨_,rfl⟩;obtain⟨bb,B⟩:∃d,d=mg (ck,cn,cl) (ak,an,al):=⟨_,rfl⟩;rw[<-z]at G;rw[<-B]at j;have M:Hid True:=trivial;have W:=H.lt;clear z B U J hz hs V A C I n R y;go_enter Tryz.func132,Tryz.ntmps132
 go_wp2_with(go_at_call 164;first
  |(clear M;refine(G _).mono ?_;rintro e w2 ⟨rfl,hb2⟩;replace g:=g.ag hb2;obtain⟨⟨l0,l1,l2⟩,⟨⟨a0,a1,a2⟩,c0,c1,c2⟩,⟨r0,r1,r2⟩,a3,a4,a5⟩:=g.cells)
  |(refine(j _).mono ?_;rintro e w2 ⟨rfl,hb2⟩;replace g:=g.ag hb2;obtain⟨⟨l0,l1,l2⟩,⟨⟨a0,a1,a2⟩,c0,c1,c2⟩,⟨r0,r1,r2⟩,a3,a4,a5⟩:=g.cells))
 clear G j K L N Y Z p2;go_loopw [11,12] (λsv X wr=>∃i:Nat,i<=m+1/\sv=.string (aa (qE (cs.take i)))/\X=.int .i64 i/\wr=w2) (λ_ X _=>m+1- (intOf X).toNat)
 case atStart=>exact⟨0,Nat.zero_le _,by simp[qE];rfl,rfl,rfl⟩
 case round=>
  obtain⟨i,hi,rfl,rfl,rfl⟩:=hrel;by_cases a7:i<m+1
  ·have t:i<cs.length:=by omega
   have q:=(g.mV.cell (p:=⟨b,f+i*3+2,none⟩) hb).trans (x.out i cs[i] (List.getElem?_eq_getElem t));have Q:Hid (aa (qE (cs.take i))++aa cs[i].2.2=aa (qE (cs.take (i+1)))):=by rw[Hid,AJ cs i t];exact oL _ _
   have F:¬9223372036854775807<(aa (qE (cs.take i))).size+(aa cs[i].2.2).size:=by
    have y:=yE (Ju P.out (i+1));rw[AJ cs i t,List.length_append,List.length_take]at y;rw[aF,aF];omega
   have a6:b<wr.heap.size:=by have:=g.mV.size;omega
   obtain⟨l,E⟩:∃l,l=cs[i].2.2:=⟨_,rfl⟩;obtain⟨d,D⟩:∃l,l=qE (cs.take i):=⟨_,rfl⟩;rw[<-E]at q Q F;rw[<-D]at Q F ⊢;clear E D
   go_wp2_with fail
   go_roundw
   case rel=>exact⟨i+1,by omega,by rw[Q.out],by go_num,by trivial⟩
   case measure=>simp[intOf];omega
  ·have S:cs.take i=cs:=List.take_of_length_le (by omega);rw[S];have T:=yE P.out;obtain⟨f5,g5⟩:=(H.ag g.mV).cells;have a9:rb<wr.heap.size:=lt_of_lt_of_le W g.mV.size;obtain⟨s,u⟩:∃s,s=qE cs:=⟨_,rfl⟩;rw[<-u]at T ⊢;have b0:(aa s).size=s.length:=aF s;have k:Hid (r=if 30<s.length then(dm,12)else((2,0,s),0)):=by rw[Hid,HV.out,Ii,<-u]
   clear HV x P u;by_cases h:30<s.length
   ·have O:Hid (r=(dm,12)):=by rw[Hid,k.out,if_pos h]
    have hd:(30:Int)<(s.length:Int):=by omega
    clear k
    go_wp2_with fail
    refine bodyPost_ret (v:=.agg #[.int .i64 0,.int .i64 0,.string ⟨#[]⟩]) (by simp[results,Tryz.results132,go_sem,r0,r1,r2]) rfl ?_;rw[O.out];exact⟨rfl,H.fault g.mV (le_refl _) _ _ _ _⟩
   ·have O:Hid (r=((2,0,s),0)):=by rw[Hid,k.out,if_neg h]
    have hd:¬(30:Int)<(s.length:Int):=by omega
    clear k
    go_wp2_with fail
    refine bodyPost_ret (v:=.agg #[.int .i64 2,.int .i64 0,.string (aa s)]) (by simp[results,Tryz.results132,go_sem,r0,r1,r2]) rfl ?_;rw[O.out];have hb:=aH g.mV (le_refl _) (.int .i64 2) (.int .i64 0) (.string (aa s));exact⟨rfl,H.ag hb,Below.kn hb (by omega)⟩
def Nc(user:Bs)(args:List aj)(tx:Bs):Option aj:=if dK tx then some (1,mU tx,[])else if cB tx then some (2,0,(tx.drop 1).take (tx.length- 1- 1))else if tx=sH then some (2,0,user)else if tx=sG then some (aV true)else if tx=nW then some (aV false)else if 0<=iJ tx then args[(iJ tx).toNat]? else none
theorem vX(a:Bs)(h:0<(aa a).size):(aa a)[0]'h=a.getD 0 0:=by
 cases a with
 |nil=>simp[aF]at h
 |cons c l=>rfl
theorem Nf(a:Bs):(aa a).extract 1 (a.length- 1)=aa ((a.drop 1).take (a.length- 1- 1)):=by
 apply ByteArray.ext;rw[ByteArray.data_extract];simp[aa]
theorem CU(w:World)(rb:Nat)(Y:Value)(l:Bs)(X lv:Value)(ns:List Bs)(O:RW w rb Y l X lv ns 0)(N:Value)(args:List aj)(hA:aO w N args)(a:Bs)(hl:a.length<=maxLen)(v:aj)(d:Nc l args a=some v):Calls prog 128 #[.pointer (some ⟨rb,0,none⟩),.string (aa a),N] w λe w'=>e=.returned (iy v)/\Below w.heap.size w w':=by
 have m:∀x:World,Calls prog 180 #[.string (aa a)] x λe w'=>e=.returned (.tuple #[.int .i64 (mU a),.bool (dK a)])/\w'=x:=by
  intro x;have:=eO (aa a) x (by rw[aF];exact hl);rw[au]at this;exact this
 have r:∀x:World,Calls prog 183 #[.string (aa a)] x λe w'=>e=.returned (.int .i64 (iJ a))/\w'=x:=by
  intro x;have:=dG (aa a) x;rw[au]at this;exact this
 obtain⟨W,cap,rfl,_,R⟩:=hA;have u:=ae w (aI 0 0 ⟨#[]⟩);have a1:=heap_alloc_new w (aI 0 0 ⟨#[]⟩);obtain⟨L,g⟩:∃n,n=mU a:=⟨_,rfl⟩;obtain⟨S,f⟩:∃n,n=iJ a:=⟨_,rfl⟩;rw[<-g]at m;rw[<-f]at r;have H:Hid (S=iJ a):=f;have A:Hid (L=mU a):=g;have a2:=O.lt;unfold Nc at d
 cases t:dK a with
 |true=>
  rw[t]at m d;have s:Hid (v=(1,L,[])):=by rw[Hid,A.out];exact(Option.some.inj d).symm
  clear d g f t;go_enter Tryz.func128,Tryz.ntmps128
  go_wp2_with(first
   |(go_at_call 180;refine(m _).mono ?_;rintro e w2 ⟨rfl,rfl⟩)
   |(go_at_call 183;refine(r _).mono ?_;rintro e w2 ⟨rfl,rfl⟩))
  refine bodyPost_ret (v:=.agg #[.int .i64 1,.int .i64 L,.string ⟨#[]⟩]) (by simp[results,Tryz.results128,go_sem]) rfl ⟨by rw[s.out];rfl, ?_⟩;exact ae w _
 |false=>
  rw[t,if_neg Bool.false_ne_true]at d;rw[t]at m
  cases o:cB a with
  |true=>
   rw[o,if_pos rfl]at d;simp only[cB,Bool.and_eq_true,decide_eq_true_eq,beq_iff_eq]at o;have K:(aa a).size=a.length:=aF a;have D:2<=a.length:=o.1.1.1.1;have I:a.length<=32:=o.1.1.1.2;have q:0<(aa a).size:=by omega
   have a0:(aa a)[0]'q=39:=(vX a q).trans o.1.1.2;have s:Hid (v=(2,0,(a.drop 1).take (a.length- 1- 1))):=(Option.some.inj d).symm;have V:Hid ((aa a).extract 1 (a.length- 1)=aa ((a.drop 1).take (a.length- 1- 1))):=Nf a;clear g f t o d;go_enter Tryz.func128,Tryz.ntmps128
   go_wp2_with(first
    |(go_at_call 180;refine(m _).mono ?_;rintro e w2 ⟨rfl,rfl⟩)
    |(go_at_call 183;refine(r _).mono ?_;rintro e w2 ⟨rfl,rfl⟩))
   refine bodyPost_ret (v:=.agg #[.int .i64 2,.int .i64 0,.string ((aa a).extract 1 (a.length- 1))]) (by simp[results,Tryz.results128,go_sem]) rfl ⟨by rw[s.out,V.out], ?_⟩;exact ae w _
  |false=>
   rw[o,if_neg Bool.false_ne_true]at d;by_cases z:a=sH
   ·subst z;rw[if_pos rfl]at d;have s:Hid (v=(2,0,l)):=(Option.some.inj d).symm;have B:aa sH=⟨#[117,115,101,114]⟩:=rfl;rw[B]at m r ⊢;have M:(w.alloc (aI 0 0 ⟨#[]⟩)).cell? ⟨rb,1,none⟩=some (.string (aa l)):=by
     obtain⟨no,nn,nc,hb,_⟩:=O.ag u;exact(af hb).trans rfl
    clear g f t o d;go_enter Tryz.func128,Tryz.ntmps128
    go_wp2_with(first
     |(go_at_call 180;refine(m _).mono ?_;rintro e w2 ⟨rfl,rfl⟩)
     |(go_at_call 183;refine(r _).mono ?_;rintro e w2 ⟨rfl,rfl⟩))
    refine bodyPost_ret (v:=.agg #[.int .i64 2,.int .i64 0,.string (aa l)]) (by simp[results,Tryz.results128,go_sem]) rfl ⟨by rw[s.out], ?_⟩;exact ae w _
   ·rw[if_neg z]at d;by_cases E:a=sG
    ·subst E;rw[if_pos rfl]at d;have s:Hid (v=aV true):=(Option.some.inj d).symm;have B:aa sG=⟨#[116,114,117,101]⟩:=rfl;rw[B]at m r ⊢;clear g f t o d z;go_enter Tryz.func128,Tryz.ntmps128
     go_wp2_with(first
      |(go_at_call 180;refine(m _).mono ?_;rintro e w2 ⟨rfl,rfl⟩)
      |(go_at_call 183;refine(r _).mono ?_;rintro e w2 ⟨rfl,rfl⟩)
      |(go_at_call 130;refine(bS _ _).mono ?_;rintro e w2 ⟨rfl,rfl⟩))
     refine bodyPost_ret (v:=.agg #[.int .i64 3,.int .i64 1,.string ⟨#[]⟩]) (by simp[results,Tryz.results128,go_sem,gz]) rfl ⟨by rw[s.out];rfl, ?_⟩;exact az w _ _
    ·rw[if_neg E]at d;by_cases F:a=nW
     ·subst F;rw[if_pos rfl]at d;have s:Hid (v=aV false):=(Option.some.inj d).symm;have B:aa nW=⟨#[102,97,108,115,101]⟩:=rfl;rw[B]at m r ⊢;clear g f t o d z E;go_enter Tryz.func128,Tryz.ntmps128
      go_wp2_with(first
       |(go_at_call 180;refine(m _).mono ?_;rintro e w2 ⟨rfl,rfl⟩)
       |(go_at_call 183;refine(r _).mono ?_;rintro e w2 ⟨rfl,rfl⟩)
       |(go_at_call 130;refine(bS _ _).mono ?_;rintro e w2 ⟨rfl,rfl⟩))
      refine bodyPost_ret (v:=.agg #[.int .i64 3,.int .i64 0,.string ⟨#[]⟩]) (by simp[results,Tryz.results128,go_sem,gz]) rfl ⟨by rw[s.out];rfl, ?_⟩;exact az w _ _
     ·rw[if_neg F]at d;by_cases G:0<=iJ a
      ·rw[if_pos G]at d;have y:iC a=true:=by
        cases h:iC a with
        |true=>rfl
        |false=>rw[iJ,h,if_neg Bool.false_ne_true]at G;omega
       simp only[iC,Bool.and_eq_true,decide_eq_true_eq,beq_iff_eq]at y;have K:(aa a).size=a.length:=aF a;have D:a.length=2:=y.1.1.1;have q:0<(aa a).size:=by omega
       have Z:(aa a)[0]'q=36:=(vX a q).trans (by have:=y.1.1.2;rw[<-this];cases a<;>rfl);have t1:((aa a).toList== [117,115,101,114])=false:=by rw[au];exact beq_eq_false_iff_ne.mpr z
       have t2:((aa a).toList== [116,114,117,101])=false:=by rw[au];exact beq_eq_false_iff_ne.mpr E
       have t3:((aa a).toList== [102,97,108,115,101])=false:=by rw[au];exact beq_eq_false_iff_ne.mpr F
       obtain⟨k,Q⟩:∃k:Nat,(k:Int)=S:=⟨(iJ a).toNat,by rw[f];omega⟩;have C:(iJ a).toNat=k:=by rw[<-f,<-Q];simp
       rw[C]at d;subst Q;have J:k<args.length:=(List.getElem?_eq_some_iff.mp d).1;obtain⟨b,j,rfl,hb,P⟩:∃b j,W=some ⟨b,j,none⟩/\b<w.heap.size/\∀(i:Nat) (c:aj),args[i]? =some c->w.cell? ⟨b,j+i*3,none⟩=some (.int .i64 c.1)/\w.cell? ⟨b,j+i*3+1,none⟩=some (.int .i64 c.2.1)/\w.cell? ⟨b,j+i*3+2,none⟩=some (.string (aa c.2.2)):=by
        rcases R with h|h
        ·subst h;simp at J
        ·exact h
       obtain⟨T,M,U⟩:=P k v d;have p0:=(u.cell (p:=⟨b,j+k*3,none⟩) hb).trans T;have p1:=(u.cell (p:=⟨b,j+k*3+1,none⟩) hb).trans M;have p2:=(u.cell (p:=⟨b,j+k*3+2,none⟩) hb).trans U;obtain⟨vk,vn,vs⟩:=v;simp only at p0 p1 p2 ⊢;clear g f t o d z E F G y P R C T M U H A;go_enter Tryz.func128,Tryz.ntmps128
       go_wp2_with(first
        |(go_at_call 180;refine(m _).mono ?_;rintro e w2 ⟨rfl,rfl⟩)
        |(go_at_call 183;refine(r _).mono ?_;rintro e w2 ⟨rfl,rfl⟩))
       refine bodyPost_ret (v:=.agg #[.int .i64 vk,.int .i64 vn,.string (aa vs)]) (by simp[results,Tryz.results128,go_sem]) rfl ⟨rfl, ?_⟩;exact ae w _
      ·rw[if_neg G]at d;cases d
variable {qt : Bool}
def gU(qt:Bool)(rb:Nat)(fv:Value)(user:Bs)(cv lv:Value)(r:Rs)(x:World)(e:Ending)(w':World):Prop:=e=.returned (iy r.1)/\RW w' rb fv user cv lv r.2.2 r.2.1/\Kr qt rb x w'
structure Qs(w0:World)(g i:Nat)(t:Tr)(ao:Option Addr)(c2:Nat)(ty:Int)(is:List Nat)(l:List Tr):Prop where
 lt:g<w0.heap.size
 at':∀x,Below w0.heap.size w0 x->x.cell? ⟨g,i*4,none⟩=some (.string (aa t.tx))/\x.cell? ⟨g,i*4+1,none⟩=some (.bool t.br)/\x.cell? ⟨g,i*4+2,none⟩=some (.slice ao t.ops.length c2)/\x.cell? ⟨g,i*4+3,none⟩=some (.int .u8 ty)
 len:is.length=t.ops.length
 Ou:t.ops.length<=1000
 ix:∀(m q:Nat),is[m]? =some q->q<i/\l[q]? =t.ops[m]?
 op:∀(m q:Nat),is[m]? =some q->∃b,ao=some ⟨b,0,none⟩/\b<w0.heap.size/\t.ops.length<=c2/\∀x,Below w0.heap.size w0 x->x.cell? ⟨b,m,none⟩=some (.int .i64 (q:Int))
theorem iY.nat{w0:World}{g cap:Nat}{l:List Tr}{ty:Nat->Int}{cs:List Value}(h:iY w0 g cap l ty cs){i:Nat}{t:Tr}(k:l[i]? =some t):∃d f is,Qs w0 g i t d f (ty i) is l:=by
 obtain⟨d,f,is,s,u,v,w,j,o,r⟩:=h.at k;have c:=h.lt;refine⟨d,f,is,c,λx a=>⟨(a.cell (p:=⟨g,_,none⟩) c).trans s,(a.cell (p:=⟨g,_,none⟩) c).trans u,(a.cell (p:=⟨g,_,none⟩) c).trans v,(a.cell (p:=⟨g,_,none⟩) c).trans w⟩,j,h.Ou t (List.mem_of_getElem? k),o,λm q n=> ?_⟩;rcases r with h|⟨b,e,hb,hc,hq⟩
 ·rw[h,List.length_nil]at j;have:=(List.getElem?_eq_some_iff.mp n).1;omega
 ·exact⟨b,e,hb,hc,λx a=>(a.cell (p:=⟨b,_,none⟩) hb).trans (hq m q n)⟩
abbrev Cy(tx:Bs)(br:Bool)(ao:Option Addr)(n c2:Nat)(ty:Int):Obj:=.cells #[.string (aa tx),.bool br,.slice ao n c2,.int .u8 ty] 183
abbrev RV(rb g n cap i:Nat)(ao:Option Addr)(an ac:Nat)(x:World)(Q:Ending->World->Prop):Prop:=Calls prog 75 #[.pointer (some ⟨rb,0,none⟩),.agg #[.slice (some ⟨g,0,none⟩) n cap],.int .i64 (i:Int),.slice ao an ac] x Q
abbrev rA(g n cap:Nat):Obj:=.cells #[.slice (some ⟨g,0,none⟩) n cap] 102
structure lC(qt:Bool)(rb:Nat)(x y:World)(g n cap:Nat)(tx:Bs)(br:Bool)(bo:Option Addr)(on c2:Nat)(ty:Int):Prop where
 kr:Kr qt rb x y
 b0:y.heap[x.heap.size]? =some (rA g n cap)
 b1:y.heap[x.heap.size+1]? =some (aI 0 0 ⟨#[]⟩)
 b2:y.heap[x.heap.size+1+1]? =some (Cy tx br bo on c2 ty)
theorem lC.ag{rb:Nat}{x y z:World}{g n cap:Nat}{e:Bs}{b:Bool}{a:Option Addr}{d c:Nat}{ty:Int}(h:lC qt rb x y g n cap e b a d c ty)(k:Kr qt rb y z):lC qt rb x z g n cap e b a d c ty:=
 ⟨h.kr.trans k,k.cells h.b0 (by decide) (by decide),k.cells h.b1 (by decide) (by decide),k.cells h.b2 (by decide) (by decide)⟩
theorem lC.drew{rb:Nat}{x y:World}{g n cap:Nat}{e:Bs}{b:Bool}{a:Option Addr}{d c:Nat}{ty:Int}(h:lC qt rb x y g n cap e b a d c ty):lC qt rb x y.drew g n cap e b a d c ty:=⟨h.kr.drew,h.b0,h.b1,h.b2⟩
theorem lC.kF{rb:Nat}{x y:World}{g n cap:Nat}{f:Bs}{c:Bool}{a:Option Addr}{e d:Nat}{ty:Int}(h:lC qt rb x y g n cap f c a e d ty){b:Nat}(i:rb<=x.heap.size)(hb:x.heap.size+1+1<b)(a0 a1 a2:Value):lC qt rb x (((y.setCell ⟨b,0,none⟩ a0).setCell ⟨b,1,none⟩ a1).setCell ⟨b,2,none⟩ a2) g n cap f c a e d ty:=
 ⟨h.kr.kF i (by omega) _ _ _,(gP _ _ _ _ _ _ (by omega)).trans h.b0,(gP _ _ _ _ _ _ (by omega)).trans h.b1,(gP _ _ _ _ _ _ (by omega)).trans h.b2⟩
theorem oZ{rb:Nat}{x:World}(f:rb<=x.heap.size)(g n cap:Nat)(e:Bs)(b:Bool)(a:Option Addr)(d c:Nat)(ty:Int):lC qt rb x (((x.alloc (rA g n cap)).alloc (aI 0 0 ⟨#[]⟩)).alloc (Cy e b a d c ty)) g n cap e b a d c ty:=by
 obtain⟨h,i,j⟩:=Ll x (rA g n cap) (aI 0 0 ⟨#[]⟩) (Cy e b a d c ty);exact⟨Below.kr (dA x _ _ _) f,h,i,j⟩
theorem lC.cells{rb:Nat}{x y:World}{g n cap:Nat}{e:Bs}{b:Bool}{a:Option Addr}{d c:Nat}{ty:Int}(h:lC qt rb x y g n cap e b a d c ty):(x.heap.size<y.heap.size/\x.heap.size+1<y.heap.size/\x.heap.size+1+1<y.heap.size)/\y.cell? ⟨x.heap.size,0,none⟩=some (.slice (some ⟨g,0,none⟩) n cap)/\
  (y.cell? ⟨x.heap.size+1+1,0,none⟩=some (.string (aa e))/\y.cell? ⟨x.heap.size+1+1,1,none⟩=some (.bool b)/\y.cell? ⟨x.heap.size+1+1,2,none⟩=some (.slice a d c)/\y.cell? ⟨x.heap.size+1+1,3,none⟩=some (.int .u8 ty))/\
  (y.cell? ⟨x.heap.size+1,0,none⟩=some (.int .i64 0)/\y.cell? ⟨x.heap.size+1,1,none⟩=some (.int .i64 0)/\y.cell? ⟨x.heap.size+1,2,none⟩=some (.string ⟨#[]⟩))/\(y.frozen? ⟨x.heap.size+1,0,none⟩=false/\y.frozen? ⟨x.heap.size+1,1,none⟩=false/\y.frozen? ⟨x.heap.size+1,2,none⟩=false):=
 ⟨⟨ai h.b0,ai h.b1,ai h.b2⟩,(af h.b0).trans rfl,(bE h.b2).1,aQ h.b1⟩
theorem CW{w0:World}{g cap n i:Nat}{l:List Tr}{t:Tr}{o:Option Addr}{p:Nat}{ty:Int}{is:List Nat}(j:Qs w0 g i t o p ty is l)(B:i<n){x:World}{rb:Nat}{y:Value}{f:Bs}{w E:Value}{ns:List Bs}{k:Int}(q:k≠0)(m:RW x rb y f w E ns k)(h:Below w0.heap.size w0 x)(u:Option Addr)(s r:Nat):
  RV rb g n cap i u s r x λe w'=>e=.returned (iy dm)/\Below x.heap.size x w':=by
 obtain⟨F,G,H,L⟩:=j.at' _ (h.trans ((az x (rA g n cap) (aI 0 0 ⟨#[]⟩)).mono h.size));have J:g<x.heap.size:=lt_of_lt_of_le j.lt h.size;have D:=m.lt;have a:=dA x (rA g n cap) (aI 0 0 ⟨#[]⟩) (Cy t.tx t.br o t.ops.length p ty);obtain⟨f5,A⟩:=(m.ag a).cells;have C:(k==0)=false:=by simpa using q
 obtain⟨M,d⟩:∃z,z=t.tx:=⟨_,rfl⟩;obtain⟨I,b⟩:∃z,z=t.br:=⟨_,rfl⟩;obtain⟨K,c⟩:∃z,z=t.ops.length:=⟨_,rfl⟩;rw[<-d,<-b,<-c]at f5 A a;rw[<-d]at F;rw[<-b]at G;rw[<-c]at H;clear d b c j m q;go_enter Tryz.func75,Tryz.ntmps75
 go_wp2_with fail
 refine bodyPost_ret (v:=.agg #[.int .i64 0,.int .i64 0,.string ⟨#[]⟩]) (by simp[results,Tryz.results75,go_sem]) rfl ⟨rfl, ?_⟩;exact a
theorem RW.kF{x:World}{rb:Nat}{i:Value}{a:Bs}{f n:Value}{ns:List Bs}{k:Int}(h:RW x rb i a f n ns k){b:Nat}{c:Array Value}{o:Nat × Nat}(hb:x.heap[b]? =some (.cells c 56 o))(a0 a1 a2:Value):RW (((x.setCell ⟨b,0,none⟩ a0).setCell ⟨b,1,none⟩ a1).setCell ⟨b,2,none⟩ a2) rb i a f n ns k:=by
 obtain⟨s,r,q,j,l⟩:=h;refine⟨s,r,q,(gP x b rb _ _ _ (λe=> ?_)).trans j,aA l λg m=>gP x b g _ _ _ λe=> ?_⟩
 ·subst e;rw[j]at hb;cases hb
 ·subst e;rcases l.2 with⟨e,_⟩|⟨t,cap,d,e,_,p,_⟩
  ·cases e;cases m
  ·cases e;cases m;rw[p]at hb;cases hb
theorem gU.end{rb:Nat}{f:Value}{a:Bs}{d g:Value}{r:Rs}{w x:World}{e:Ending}(i:e=.returned (iy r.1))(l:rb<w.heap.size)(j:RW x rb f a d g r.2.2 r.2.1)(kn:Kr qt rb w x){b:Nat}(hb:w.heap.size<=b){c:Array Value}{h:Nat × Nat}(k:x.heap[b]? =some (.cells c 56 h))(a0 a1 a2:Value):gU qt rb f a d g r w e (((x.setCell ⟨b,0,none⟩ a0).setCell ⟨b,1,none⟩ a1).setCell ⟨b,2,none⟩ a2):=
 ⟨i,j.kF k _ _ _,kn.kF (by omega) hb _ _ _⟩
theorem Gj{w0:World}{g cap n i:Nat}{l:List Tr}{t:Tr}{r:Option Addr}{s:Nat}{ty:Int}{is:List Nat}(w:Qs w0 g i t r s ty is l)(I:i<n){x:World}{rb:Nat}{k:Value}{a:Bs}{j m:Value}{ns:List Bs}(h:RW x rb k a j m ns 0)(u:Below w0.heap.size w0 x){q:Option Addr}{p o:Nat}{args:List aj}(C:aO x (.slice q p o) args)(y:t.br=false)(E:t.tx.length<=maxLen)(v:aj)(F:Nc a args t.tx=some v):
  RV rb g n cap i q p o x λe w'=>gU qt rb k a j m (v,0,ns) x e w':=by
 obtain⟨J,K,L,X⟩:=w.at' _ (u.trans ((az x (rA g n cap) (aI 0 0 ⟨#[]⟩)).mono u.size));have Q:g<x.heap.size:=lt_of_lt_of_le w.lt u.size;have A:=h.lt;have b:=dA x (rA g n cap) (aI 0 0 ⟨#[]⟩) (Cy t.tx false r t.ops.length s ty);have D:=oZ (qt:=qt) (rb:=rb) (x:=x) (by omega) g n cap t.tx false r t.ops.length s ty;have B:=CU _ rb k a j m ns (h.ag b) (.slice q p o) args (C.ag b) t.tx E v F;obtain⟨f5,H⟩:=(h.ag b).cells;rw[y]at K;obtain⟨Y,f⟩:∃z,z=t.tx:=⟨_,rfl⟩;obtain⟨W,d⟩:∃z,z=t.ops.length:=⟨_,rfl⟩;rw[<-f,<-d]at f5 H b B D;rw[<-f]at J;rw[<-d]at L;have G:Hid (RW x rb k a j m ns 0):=h;clear f d w h F C E;go_enter Tryz.func75,Tryz.ntmps75
 go_wp2_with(go_at_call 128;refine B.mono ?_;rintro e w2 ⟨rfl,hb3⟩;have c:=D.ag (Below.kr hb3 (by simp only[size_alloc];omega));obtain⟨⟨R,l1,l2⟩,a0,⟨S,T,U,V⟩,⟨M,r1,r2⟩,N,O,P⟩:=c.cells)
 refine bodyPost_ret (v:=.agg #[.int .i64 v.1,.int .i64 v.2.1,.string (aa v.2.2)]) (by simp[results,Tryz.results75,go_sem,M,r1,r2]) rfl ?_;exact gU.end rfl A (RW.ag (RW.ag G.out b) hb3) c.kr (by omega) c.b1 _ _ _
variable {qt : Bool}
def iD(rb:Nat)(w:World)(v:Value)(cs:List aj):Prop:=aO w v cs/\(cs≠ []->∀ao n cap,v=.slice ao n cap->∀b o,ao=some ⟨b,o,none⟩->b<rb\/∃cur fz,w.heap[b]? =some (.cells cur 56 fz))
theorem lZ.Wl{w:World}{v:Value}{cs:List aj}(h:lZ w v cs)(rb:Nat):iD rb w v cs:=⟨h.1,λ_ a n cap e b o c=>.inr (h.2 a n cap e b o c)⟩
theorem iD.move{rb:Nat}{w x:World}{v:Value}{cs:List aj}(h:iD rb w v cs)(E:w.heap.size<=x.heap.size)(n:∀g,g<w.heap.size->(g<rb\/∃a j,w.heap[g]? =some (.cells a 56 j))->x.heap[g]? =w.heap[g]?):iD rb x v cs:=by
 obtain⟨⟨q,cap,m,t,u⟩,p⟩:=h;refine⟨⟨q,cap,m,t, ?_⟩,λc r F l e b o s=> ?_⟩
 ·by_cases c:cs= []
  ·exact .inl c
  ·obtain⟨b,d,e,A,y⟩:=u.resolve_left c;have k:=n b A (p c _ _ _ m b d e);refine .inr ⟨b,d,e,by omega,λi f z=> ?_⟩;obtain⟨B,C,D⟩:=y i f z;exact⟨(cell?_of_block k).trans B,(cell?_of_block k).trans C,(cell?_of_block k).trans D⟩
 ·rcases p c _ _ _ e b o s with h|⟨a,j,hb⟩
  ·exact .inl h
  ·exact .inr ⟨a,j,(n b (ai hb) (.inr ⟨a,j,hb⟩)).trans hb⟩
theorem iD.ag{rb:Nat}{w x:World}{v:Value}{cs:List aj}(h:iD rb w v cs)(hb:Below w.heap.size w x):iD rb x v cs:=h.move hb.size λg a _=>hb.block g a
theorem iD.Fe{rb:Nat}{w x:World}{v:Value}{cs:List aj}(h:iD rb w v cs)(k:Kr qt rb w x):iD rb x v cs:=h.move k.size λg a b=>by
 rcases b with h|⟨cur,fz,h⟩
 ·exact k.mV a h
 ·exact(k.cells h (by decide) (by decide)).trans h.symm
def Qt(qt:Bool)(w0:World)(g n cap rb:Nat)(fv:Value)(user:Bs)(cv lv:Value)(ao:Option Addr)(an ac:Nat)(args:List aj)(f:Ev)(q:Nat)(e:Ex):Prop:=∀(x:World) (ns:List Bs) (r:Rs),f e ns=some r->RW x rb fv user cv lv ns 0->Below w0.heap.size w0 x->iD rb x (.slice ao an ac) args->RV rb g n cap q ao an ac x λe w'=>gU qt rb fv user cv lv r x e w'
def VJ(w0:World)(g n cap rb:Nat)(fv:Value)(user:Bs)(cv lv:Value)(ao:Option Addr)(an ac q:Nat):Prop:=∀(x:World) (ns:List Bs) (k:Int),k≠0->RW x rb fv user cv lv ns k->Below w0.heap.size w0 x->RV rb g n cap q ao an ac x λe w'=>e=.returned (iy dm)/\Below x.heap.size x w'
theorem RW.kr{x y w0:World}{rb:Nat}(b:Below w0.heap.size w0 x)(a:qt=false->w0.heap.size<=rb)(k:Kr qt rb x y):Below w0.heap.size w0 y:=Kr.low b a k
structure VI(qt:Bool)(rb:Nat)(x y:World)(g n cap:Nat)(tx:Bs)(br:Bool)(bo:Option Addr)(on c2:Nat)(ty:Int)(fv:Value)(user:Bs)(cv lv:Value)(m1:List Bs)(k:Int)(v:aj)(cb:Nat):Prop where
 vb:lC qt rb x y g n cap tx br bo on c2 ty
 rw:RW y rb fv user cv lv m1 k
 bx:y.heap[cb]? =some (rX v)
 lt:x.heap.size+1+1<cb
theorem MK{w0:World}{g cap n i:Nat}{l:List Tr}{t:Tr}{bo:Option Addr}{A:Nat}{ty:Int}{is:List Nat}(hN:Qs w0 g i t bo A ty is l)(e8:i<n){x:World}{rb:Nat}{C:Value}{j:Bs}{B E:Value}{ns:List Bs}(hR:RW x rb C j B E ns 0)(w:Below w0.heap.size w0 x)(D:qt=false->w0.heap.size<=rb){P:Option Addr}{O N:Nat}{args:List aj}(hA:iD rb x (.slice P O N) args)(b8:t.br=true)(b9:t.tx=xH){f:Ev}{a b c:Ex}{T U K:Nat}(G:is= [T,U,K])
  (O0:Qt qt w0 g n cap rb C j B E P O N args f T a) (O1:Qt qt w0 g n cap rb C j B E P O N args f U b) (O2:Qt qt w0 g n cap rb C j B E P O N args f K c) (F2:VJ w0 g n cap rb C j B E P O N K)
  (v:aj) (k:Int) (m1:List Bs) (hf:f a ns=some (v,k,m1)) (a8:rT 3 v/\(k≠0->v=dm)) (r:Rs) (R:Tu f [a,b,c] ns=some r):
  RV rb g n cap i P O N x λe w'=>gU qt rb C j B E r x e w':=by
 obtain⟨q0,q1,q2,q3⟩:=hN.at' _ (w.trans ((az x (rA g n cap) (aI 0 0 ⟨#[]⟩)).mono w.size));have hg:g<x.heap.size:=lt_of_lt_of_le hN.lt w.size;have S:=hR.lt;have h3:t.ops.length=3:=by rw[<-hN.len,G];rfl
 obtain⟨m,b7,b6,c8,I⟩:=hN.op 0 T (by rw[G];rfl);obtain⟨e6,Y,_,_,a3⟩:=hN.op 1 U (by rw[G];rfl);obtain⟨e7,Z,_,_,a4⟩:=hN.op 2 K (by rw[G];rfl);rw[b7]at Y Z
 cases Y
 cases Z;subst b7;rw[h3]at q2 c8;rw[b8]at q1;rw[b9]at q0;have e1:aa xH=⟨#[105,102]⟩:=rfl;have b5:=dA x (rA g n cap) (aI 0 0 ⟨#[]⟩) (Cy xH true (some ⟨m,0,none⟩) 3 A ty);have hV:=oZ (qt:=qt) (rb:=rb) (x:=x) (by omega) g n cap xH true (some ⟨m,0,none⟩) 3 A ty;rw[e1]at q0;have HC:∀y:World,Below x.heap.size x y->RV rb g n cap T P O N y λe w'=>e=.returned (iy v)/\RW w' rb C j B E m1 k/\Kr qt rb y w':=λy J=>O0 y ns (v,k,m1) hf (hR.ag J) (w.trans (J.mono w.size)) (hA.ag J);obtain⟨f5,g5⟩:=(hR.ag b5).cells;have p0:=I _ (w.trans (b5.mono w.size));have e5:m<x.heap.size:=lt_of_lt_of_le b6 w.size;simp only[Cy,e1]at f5 g5 p0;rw[Tu,hf]at R;simp only at R;have M:v=aV true->∀y:World,Kr qt rb x y->RW y rb C j B E m1 k->RV rb g n cap U P O N y λe w'=>gU qt rb C j B E r y e w':=by
  intro hv y ky s;have H:k=0:=by
   rcases Decidable.em (k=0)with h|h
   ·exact h
   ·have:=a8.2 h;rw[hv]at this;exact absurd this (by decide)
  subst H;rw[if_neg (by simp),if_pos hv]at R;exact O1 y m1 r R s (RW.kr w D ky) (hA.Fe ky)
 have L:v≠aV true->∀y:World,Kr qt rb x y->RW y rb C j B E m1 k->RV rb g n cap K P O N y λe w'=>gU qt rb C j B E r y e w':=by
  intro hv y ky s;by_cases H:k=0
  ·subst H;rw[if_neg (by simp),if_neg hv]at R;exact O2 y m1 r R s (RW.kr w D ky) (hA.Fe ky)
  ·rw[if_pos H]at R;have c9:r=(dm,k,m1):=(Option.some.inj R).symm;refine(F2 y m1 k H s (RW.kr w D ky)).mono λe w' ⟨h1,h2⟩=> ?_;rw[c9];exact⟨h1,s.ag h2,Below.kr h2 (le_of_lt s.lt)⟩
 have z:Hid (∀y:World,lC qt rb x y g n cap xH true (some ⟨m,0,none⟩) 3 A ty->y.cell? ⟨x.heap.size,0,none⟩=some (.slice (some ⟨g,0,none⟩) n cap)/\y.cell? ⟨x.heap.size+1+1,2,none⟩=some (.slice (some ⟨m,0,none⟩) 3 A)/\y.cell? ⟨m,0,none⟩=some (.int .i64 (T:Int))/\y.cell? ⟨m,1,none⟩=some (.int .i64 (U:Int))/\y.cell? ⟨m,2,none⟩=some (.int .i64 (K:Int))):=λy J=>⟨J.cells.2.1,J.cells.2.2.1.2.2.1,I y (RW.kr w D J.kr),a3 y (RW.kr w D J.kr),a4 y (RW.kr w D J.kr)⟩;have e0:=a8.1.three;clear a8 R hf O0 O1 O2 F2 I a3 a4 hN hA hR b6 w G b9 b8 h3;go_enter Tryz.func75,Tryz.ntmps75;go_upto_region 11 with fail
 have a7:=(hV.ag (Below.kr (ae _ (aI 0 0 ⟨#[]⟩)) (by simp only[size_alloc];omega))).drew;have k3:=heap_alloc_new (((x.alloc (rA g n cap)).alloc (aI 0 0 ⟨#[]⟩)).alloc (Cy xH true (some ⟨m,0,none⟩) 3 A ty)) (aI 0 0 ⟨#[]⟩);simp only[size_alloc]at k3;go_cut [10] (λe3 wx=>∃F:Nat,e3=.pointer (some ⟨F,0,none⟩)/\VI qt rb x wx g n cap xH true (some ⟨m,0,none⟩) 3 A ty C j B E m1 k v F)
 case first=>
  go_region_held2 (λy=>y.cell? ⟨x.heap.size,0,none⟩=some (.slice (some ⟨g,0,none⟩) n cap)/\y.cell? ⟨x.heap.size+1+1,2,none⟩=some (.slice (some ⟨m,0,none⟩) 3 A)/\y.cell? ⟨m,0,none⟩=some (.int .i64 (T:Int))/\y.cell? ⟨m,1,none⟩=some (.int .i64 (U:Int))/\y.cell? ⟨m,2,none⟩=some (.int .i64 (K:Int))) (first|exact z.out _ hV|exact z.out _ hV.drew|exact z.out _ a7|exact b4|exact z.out _ (u.kF (le_of_lt S) (by omega) _ _ _)|exact z.out _ (u.ag (Below.kr (ae _ _) a9)))
   (first
    |(go_at_call 75;refine(HC _ ?_).mono ?_;exact(BO x _ _ _ _).drew;rintro e w2 ⟨rfl,hR2,kr2⟩;have u:=a7.ag kr2;have a9:=le_of_lt hR2.lt;have V:=kr2.cells k3 (by decide) (by decide);obtain⟨⟨z0,W,z2⟩,g2,g3,g4⟩:=aQ V;have lz:=ai V;have b4:=z.out _ u)
    |(go_at_call 75;refine(HC _ ?_).mono ?_;exact(dA x _ _ _).drew;rintro e w2 ⟨rfl,hR2,kr2⟩;have u:=hV.drew.ag kr2;have a9:=le_of_lt hR2.lt;have b4:=z.out _ u))
  ·go_wp2_with fail
   go_meet;exact⟨w2.heap.size,rfl,u.ag (Below.kr (ae _ _) a9),hR2.ag (ae _ _),heap_alloc_new _ _,by have:=u.cells.1.2.2;omega⟩
  ·go_wp2_with fail
   go_meet;exact⟨_,rfl,u.kF (le_of_lt S) (by omega) _ _ _,hR2.kF V _ _ _,mH V _ _ _,by omega⟩
 case rest=>
  obtain⟨F,rfl,X⟩:=hcut;obtain⟨⟨l0,l1,l2⟩,a0,⟨n0,n1,n2,n3⟩,⟨r0,r1,r2⟩,c5,c6,c7⟩:=X.vb.cells;have lz:=ai X.bx;have KB:=λ(y:World) (hb:Below wc.heap.size wc y)=>(⟨X.vb.ag (Below.kr hb (le_of_lt X.rw.lt)),X.rw.ag hb⟩:lC qt rb x y g n cap xH true (some ⟨m,0,none⟩) 3 A ty/\RW y rb C j B E m1 k);clear HC hV a7 k3 f5 g5 p0 q0 q1 q2 q3;have a5:∀y:World,Calls prog 130 #[.bool true] y λe w'=>e=.returned (.agg #[.int .i64 3,.int .i64 1,.string ⟨#[]⟩])/\w'=y.alloc (aI 3 1 ⟨#[]⟩):=bS true;obtain⟨⟨z0,W,z2⟩,_⟩:=aQ X.bx;go_upto_region 12 with fail
  go_cut [60] (λe4 wx=>(∃b:Bool,e4=.bool b/\nY b v)/\Hid (Below wc.heap.size wc wx))
  case first=>
   clear M L KB;have a6:∀o:Obj,Hid (Below wc.heap.size wc (wc.alloc o).drew):=λo=>(ae wc o).drew;rcases e0 with rfl|⟨d,rfl⟩
   ·replace z0:wc.cell? ⟨F,0,none⟩=some (.int .i64 0):=z0;replace W:wc.cell? ⟨F,1,none⟩=some (.int .i64 0):=W;replace z2:wc.cell? ⟨F,2,none⟩=some (.string ⟨#[]⟩):=z2;go_region_with(go_at_call 130;refine(a5 _).mono ?_;rintro e w3 ⟨rfl,rfl⟩);all_goals(go_wp2_with fail;go_meet)
    all_goals exact⟨⟨false,rfl,by decide,by decide⟩,a6 _⟩
   ·cases d
    ·replace z0:wc.cell? ⟨F,0,none⟩=some (.int .i64 3):=z0;replace W:wc.cell? ⟨F,1,none⟩=some (.int .i64 0):=W;replace z2:wc.cell? ⟨F,2,none⟩=some (.string ⟨#[]⟩):=z2;go_region_with(go_at_call 130;refine(a5 _).mono ?_;rintro e w3 ⟨rfl,rfl⟩);all_goals(go_wp2_with fail;go_meet)
     all_goals exact⟨⟨false,rfl,by decide,by decide⟩,a6 _⟩
    ·replace z0:wc.cell? ⟨F,0,none⟩=some (.int .i64 3):=z0;replace W:wc.cell? ⟨F,1,none⟩=some (.int .i64 1):=W;replace z2:wc.cell? ⟨F,2,none⟩=some (.string ⟨#[]⟩):=z2;go_region_with(go_at_call 130;refine(a5 _).mono ?_;rintro e w3 ⟨rfl,rfl⟩);all_goals(go_wp2_with fail;go_meet)
     all_goals exact⟨⟨true,rfl,λ_=>rfl,λ_=>rfl⟩,a6 _⟩
  case rest=>
   obtain⟨⟨b,rfl,HB⟩,HW⟩:=hcut;obtain⟨Q,s⟩:=KB _ HW.out;have b3:=s.ag (refl _ _).drew;obtain⟨⟨e9,g0,g1⟩,b2,⟨c0,c1,c3,c4⟩, -, -⟩:=Q.cells;have b0:Hid (∀y:World,lC qt rb x y g n cap xH true (some ⟨m,0,none⟩) 3 A ty->∀a0 a1 a2:Value,(((y.setCell ⟨x.heap.size+1,0,none⟩ a0).setCell ⟨x.heap.size+1,1,none⟩ a1).setCell ⟨x.heap.size+1,2,none⟩ a2).cell? ⟨x.heap.size,0,none⟩=some (.slice (some ⟨g,0,none⟩) n cap)/\(((y.setCell ⟨x.heap.size+1,0,none⟩ a0).setCell ⟨x.heap.size+1,1,none⟩ a1).setCell ⟨x.heap.size+1,2,none⟩ a2).cell? ⟨x.heap.size+1+1,2,none⟩=some (.slice (some ⟨m,0,none⟩) 3 A)/\(((y.setCell ⟨x.heap.size+1,0,none⟩ a0).setCell ⟨x.heap.size+1,1,none⟩ a1).setCell ⟨x.heap.size+1,2,none⟩ a2).cell? ⟨m,0,none⟩=some (.int .i64 (T:Int))/\(((y.setCell ⟨x.heap.size+1,0,none⟩ a0).setCell ⟨x.heap.size+1,1,none⟩ a1).setCell ⟨x.heap.size+1,2,none⟩ a2).cell? ⟨m,1,none⟩=some (.int .i64 (U:Int))/\(((y.setCell ⟨x.heap.size+1,0,none⟩ a0).setCell ⟨x.heap.size+1,1,none⟩ a1).setCell ⟨x.heap.size+1,2,none⟩ a2).cell? ⟨m,2,none⟩=some (.int .i64 (K:Int))):=λy J a0 a1 a2=>by
    obtain⟨s0,s1,s2,s3,s4⟩:=z.out y J;have c:∀q o:Nat,q≠x.heap.size+1->(((y.setCell ⟨x.heap.size+1,0,none⟩ a0).setCell ⟨x.heap.size+1,1,none⟩ a1).setCell ⟨x.heap.size+1,2,none⟩ a2).cell? ⟨q,o,none⟩=y.cell? ⟨q,o,none⟩:=λq o hq=>cell?_of_block (gP y _ _ _ _ _ hq);exact⟨(c _ _ (by omega)).trans s0,(c _ _ (by omega)).trans s1,(c _ _ (by omega)).trans s2,(c _ _ (by omega)).trans s3,(c _ _ (by omega)).trans s4⟩
   cases b with
   |true=>
    have HX:=M (HB.mp rfl);clear M L KB X z0 W z2;go_upto_region 13 with fail
    go_region_held2 (λy=>y.cell? ⟨x.heap.size,0,none⟩=some (.slice (some ⟨g,0,none⟩) n cap)/\y.cell? ⟨x.heap.size+1+1,2,none⟩=some (.slice (some ⟨m,0,none⟩) 3 A)/\y.cell? ⟨m,0,none⟩=some (.int .i64 (T:Int))/\y.cell? ⟨m,1,none⟩=some (.int .i64 (U:Int))/\y.cell? ⟨m,2,none⟩=some (.int .i64 (K:Int))) (first|exact z.out _ Q|exact z.out _ Q.drew|exact z.out _ p|exact b0.out _ p _ _ _)
     (first
      |(go_at_call 75;refine(HX _ Q.drew.kr b3).mono ?_;rintro e w5 ⟨rfl,hR5,kr5⟩;have p:=Q.drew.ag kr5;obtain⟨⟨m0,e2,m2⟩,b2,⟨c0,c1,c3,c4⟩,⟨r0,r1,r2⟩,c5,c6,c7⟩:=p.cells))
    all_goals go_wp2_with fail
    all_goals
     refine bodyPost_ret (v:=.agg #[.int .i64 r.1.1,.int .i64 r.1.2.1,.string (aa r.1.2.2)]) (by simp[results,Tryz.results75,go_sem,r0,r1,r2]) rfl ?_;exact gU.end rfl S hR5 p.kr (by omega) p.b1 _ _ _
   |false=>
    have HX:=L (λh=>Bool.false_ne_true (HB.mpr h));clear M L KB X z0 W z2;go_upto_region 14 with fail
    go_region_held2 (λy=>y.cell? ⟨x.heap.size,0,none⟩=some (.slice (some ⟨g,0,none⟩) n cap)/\y.cell? ⟨x.heap.size+1+1,2,none⟩=some (.slice (some ⟨m,0,none⟩) 3 A)/\y.cell? ⟨m,0,none⟩=some (.int .i64 (T:Int))/\y.cell? ⟨m,1,none⟩=some (.int .i64 (U:Int))/\y.cell? ⟨m,2,none⟩=some (.int .i64 (K:Int))) (first|exact z.out _ Q|exact z.out _ Q.drew|exact z.out _ p|exact b0.out _ p _ _ _)
     (first
      |(go_at_call 75;refine(HX _ Q.drew.kr b3).mono ?_;rintro e w5 ⟨rfl,hR5,kr5⟩;have p:=Q.drew.ag kr5;obtain⟨⟨m0,e2,m2⟩,b2,⟨c0,c1,c3,c4⟩,⟨r0,r1,r2⟩,c5,c6,c7⟩:=p.cells))
    all_goals go_wp2_with fail
    all_goals
     refine bodyPost_ret (v:=.agg #[.int .i64 r.1.1,.int .i64 r.1.2.1,.string (aa r.1.2.2)]) (by simp[results,Tryz.results75,go_sem,r0,r1,r2]) rfl ?_;exact gU.end rfl S hR5 p.kr (by omega) p.b1 _ _ _
end Go.Proofs.YtdifpeaklamhnaaGreatDoor
