import Derived.Test.YtdifpeaklamhnaaGreatDoorTyBZ
import Derived.Deep.DeepCutAuto
set_option linter.unusedVariables false
set_option linter.unusedSimpArgs false
set_option maxRecDepth 100000
set_option maxHeartbeats 0
namespace Go.Proofs.YtdifpeaklamhnaaGreatDoor
open Go.Proofs.Tryz
open Go.RowKit
open World (cell? size_alloc setCell cell?_setCell_other drew)
open Below (refl heap_alloc heap_setCell)
def fQ(k n:Int)(s:Bs):Ex:=.mk 0 k 1 true k n s 0 [] none []
def tX:Ex:=.mk 1 2 1 true 0 0 [] 0 [] none []
def wV(t p:Int):Ex:=.mk 3 t 1 true 0 0 [] p [] none []
def dx(atoi:Bs->Int)(k:Int)(l:Bs):Ex:=
 if k=3 then fQ 1 (atoi l) []else if k=4 then fQ 2 0 ((l.drop 1).take (l.length- 1- 1))else if l= [117,115,101,114]then tX else fQ 3 (gB (l== [116,114,117,101])) []
theorem mE(w:World)(a:List Nat)(S:Nat->Prop)(sort ty size:Int)(quiet:Bool)(vk vn:Int)(vs:Bs)(place:Int)(head:Bs):
  dG w a S [.int .i64 sort,.int .i64 ty,.int .i64 size,.bool quiet,.int .i64 vk,.int .i64 vn,.string (aa vs),.int .i64 place,.string (aa head),.pointer none,.slice none 0 0] (.mk sort ty size quiet vk vn vs place head none []):=
 .mk .nil (World.ownsRow_nil _ _ _ _) (λg b=>by cases b) rfl
theorem aX{x:World}{b:Nat}{a0 a1 a2 a3 a4 a5 c d e a9 a:Value}{T:TypeId}(h:x.heap[b]? =some (.cells #[a0,a1,a2,a3,a4,a5,c,d,e,a9,a] T (0,0))):
  (x.cell? ⟨b,0,none⟩=some a0/\x.cell? ⟨b,1,none⟩=some a1/\x.cell? ⟨b,2,none⟩=some a2/\x.cell? ⟨b,3,none⟩=some a3/\x.cell? ⟨b,4,none⟩=some a4/\x.cell? ⟨b,5,none⟩=some a5/\x.cell? ⟨b,6,none⟩=some c/\x.cell? ⟨b,7,none⟩=some d/\x.cell? ⟨b,8,none⟩=some e/\x.cell? ⟨b,9,none⟩=some a9/\x.cell? ⟨b,10,none⟩=some a)/\
  (x.frozen? ⟨b,0,none⟩=false/\x.frozen? ⟨b,1,none⟩=false/\x.frozen? ⟨b,2,none⟩=false/\x.frozen? ⟨b,3,none⟩=false/\x.frozen? ⟨b,4,none⟩=false/\x.frozen? ⟨b,5,none⟩=false/\x.frozen? ⟨b,6,none⟩=false/\x.frozen? ⟨b,7,none⟩=false/\x.frozen? ⟨b,8,none⟩=false/\x.frozen? ⟨b,9,none⟩=false/\x.frozen? ⟨b,10,none⟩=false):=by
 simp[cell?,World.frozen?,h]
abbrev EJ:Obj:=.cells #[.int .i64 0,.int .i64 0,.int .i64 0,.bool false,.int .i64 0,.int .i64 0,.string ⟨#[]⟩,.int .i64 0,.string ⟨#[]⟩,.pointer none,.slice none 0 0] 210
def sK(w:World)(FB:List Nat)(o:Except Int Ex)(e:Ending)(w':World):Prop:=Below w.heap.size w w'/\
 ((∃n:Int,o=.error n/\n≠0/\e=.returned (.tuple #[.agg #[.int .i64 0,.int .i64 0,.int .i64 0,.bool false,.int .i64 0,.int .i64 0,.string ⟨#[]⟩,.int .i64 0,.string ⟨#[]⟩,.pointer none,.slice none 0 0],.int .i64 n]))\/
  (∃(x:Ex) (c:Array Value),o=.ok x/\e=.returned (.tuple #[.agg c,.int .i64 0])/\dG w' FB (λg=>w.heap.size<=g) c.toList x))
theorem CW(l:Bs)(a b:Nat):(aa l).extract a b=aa ((l.drop a).take (b- a)):=by
 apply ByteArray.ext;simp[aa,ByteArray.data_extract]
theorem az(w:World)(o a:Obj):Below w.heap.size w ((w.alloc o).alloc a):=((refl _ w).alloc (Nat.le_refl _) _).alloc (by simp[size_alloc]) _
theorem iI{w w2:World}{o a:Obj}(h:Below ((w.alloc o).alloc a).heap.size ((w.alloc o).alloc a) w2):w2.heap[w.heap.size+1]? =some a/\Below w.heap.size w w2/\w.heap.size+2<=w2.heap.size:=by
 have b:=h.size;have:=heap_alloc_new (w.alloc o) a;rw[size_alloc]at this;refine⟨(h.block _ (by simp[size_alloc])).trans this,(az w o a).trans (h.mono (by simp only[size_alloc];omega)), ?_⟩;simp only[size_alloc]at b;omega
theorem Ji(a:Bs->Int)(k:Int)(l:Bs)(w:World)(I:List Nat)
  (i:k=3->∀x:World,Calls prog 331 #[.string (aa l)] x λe w'=>e=.returned (.tuple #[.int .i64 (a l),.nilIface])/\Below x.heap.size x w') (F:k=4->2<=l.length/\l.length<=32):
  Calls prog 291 #[.agg #[.int .i64 k,.string (aa l)]] w λe w'=>Below w.heap.size w w'/\∃c:Array Value,e=.returned (.agg c)/\dG w' I (λg=>w.heap.size<=g) c.toList (dx a k l):=by
 by_cases E:k=3
 ·subst E;have j:Hid (dx a 3 l=fQ 1 (a l) []):=by rw[Hid,dx,if_pos rfl]
  have J:=i rfl;clear i F;go_enter Tryz.func291,Tryz.ntmps291
  go_wp2_with(first
   |(go_at_call 331;refine(J _).mono ?_;rintro e w2 ⟨rfl,hb2⟩;obtain⟨b,h,o⟩:=iI hb2)
   |(go_at_call 302;refine(yG _ _).mono ?_;rintro e H ⟨rfl,hb3⟩)
   |(go_at_call 332;refine(pO _ _ _ _).mono ?_;rintro e q ⟨rfl,hb4⟩;have O:=hb3.size;have p:=hb4.size;have m:Below w.heap.size w q:=(h.trans (hb3.mono h.size)).trans (hb4.mono (by omega));obtain⟨⟨r,s,t,u,y,z,A,B,C,D,d⟩,f0,f1,f2,f3,f4,f5,f6,f7,f8,f9,f10⟩:=aX ((hb4.block _ (by omega)).trans ((hb3.block _ (by omega)).trans b))))
  refine bodyPost_ret (v:=.agg #[.int .i64 0,.int .i64 1,.int .i64 1,.bool true,.int .i64 1,.int .i64 (a l),.string ⟨#[]⟩,.int .i64 0,.string ⟨#[]⟩,.pointer none,.slice none 0 0]) (by simp[results,Tryz.results291,go_sem,r,s,t,u,y,z,A,B,C,D,d]) rfl ⟨?_,_,rfl, ?_⟩
  ·repeat(refine Below.setCell ?_ (by show w.heap.size<=w.heap.size+1;omega) _)
   exact m
  ·rw[j.out];exact mE _ _ _ 0 1 1 true 1 (a l) [] 0 []
 ·have K:(k==3)=false:=by simpa using E
  clear i;by_cases f:k=4
  ·subst f;have j:Hid (dx a 4 l=fQ 2 0 ((l.drop 1).take (l.length- 1- 1))):=by rw[Hid,dx,if_neg (by omega),if_pos rfl]
   obtain⟨M,N⟩:=F rfl;have P:(aa l).size=l.length:=aF l;have R:=CW l 1 (l.length- 1);clear F;go_enter Tryz.func291,Tryz.ntmps291
   go_wp2_with(first
    |(go_at_call 197;refine(Cu _ _).mono ?_;rintro e H ⟨rfl,hb3⟩;obtain⟨b,h,o⟩:=iI hb3)
    |(go_at_call 332;refine(pO _ _ _ _).mono ?_;rintro e q ⟨rfl,hb4⟩;have p:=hb4.size;have m:Below w.heap.size w q:=h.trans (hb4.mono h.size);obtain⟨⟨r,s,t,u,y,z,A,B,C,D,d⟩,f0,f1,f2,f3,f4,f5,f6,f7,f8,f9,f10⟩:=aX ((hb4.block _ (by omega)).trans b)))
   refine bodyPost_ret (v:=.agg #[.int .i64 0,.int .i64 2,.int .i64 1,.bool true,.int .i64 2,.int .i64 0,.string (aa ((l.drop 1).take (l.length- 1- 1))),.int .i64 0,.string ⟨#[]⟩,.pointer none,.slice none 0 0]) (by simp[results,Tryz.results291,go_sem,r,s,t,u,y,z,A,B,C,D,d]) rfl ⟨?_,_,rfl, ?_⟩
   ·repeat(refine Below.setCell ?_ (by show w.heap.size<=w.heap.size+1;omega) _)
    exact m
   ·rw[j.out];exact mE _ _ _ 0 2 1 true 2 0 ((l.drop 1).take (l.length- 1- 1)) 0 []
  ·have L:(k==4)=false:=by simpa using f
   clear F;by_cases G:l= [117,115,101,114]
   ·subst G;have j:Hid (dx a k [117,115,101,114]=tX):=by rw[Hid,dx,if_neg E,if_neg f,if_pos rfl]
    have n:aa [117,115,101,114]=⟨#[117,115,101,114]⟩:=rfl;rw[n];go_enter Tryz.func291,Tryz.ntmps291
    go_wp2_with fail
    refine bodyPost_ret (v:=.agg #[.int .i64 1,.int .i64 2,.int .i64 1,.bool true,.int .i64 0,.int .i64 0,.string ⟨#[]⟩,.int .i64 0,.string ⟨#[]⟩,.pointer none,.slice none 0 0]) (by simp[results,Tryz.results291,go_sem]) rfl ⟨az _ _ _,_,rfl, ?_⟩;rw[j.out];exact mE _ _ _ 1 2 1 true 0 0 [] 0 []
   ·have Q:((aa l).toList== [117,115,101,114])=false:=by rw[aj];simpa using G
    have j:Hid (dx a k l=fQ 3 (gB (l== [116,114,117,101])) []):=by rw[Hid,dx,if_neg E,if_neg f,if_neg G]
    go_enter Tryz.func291,Tryz.ntmps291
    go_wp2_with(first
     |(go_at_call 137;refine(Ah _ _).mono ?_;rintro e H ⟨rfl,hb3⟩;obtain⟨b,h,o⟩:=iI hb3)
     |(go_at_call 332;refine(pO _ _ _ _).mono ?_;rintro e q ⟨rfl,hb4⟩;have p:=hb4.size;have m:Below w.heap.size w q:=h.trans (hb4.mono h.size);obtain⟨⟨r,s,t,u,y,z,A,B,C,D,d⟩,f0,f1,f2,f3,f4,f5,f6,f7,f8,f9,f10⟩:=aX ((hb4.block _ (by omega)).trans b)))
    rw[aj]at*;refine bodyPost_ret (v:=.agg #[.int .i64 0,.int .i64 3,.int .i64 1,.bool true,.int .i64 3,.int .i64 (gB (l== [116,114,117,101])),.string ⟨#[]⟩,.int .i64 0,.string ⟨#[]⟩,.pointer none,.slice none 0 0]) (by simp[results,Tryz.results291,go_sem,r,s,t,u,y,z,A,B,C,D,d]) rfl ⟨?_,_,rfl, ?_⟩
    ·repeat(refine Below.setCell ?_ (by show w.heap.size<=w.heap.size+1;omega) _)
     exact m
    ·rw[j.out];exact mE _ _ _ 0 3 1 true 3 (gB (l== [116,114,117,101])) [] 0 []
structure Fn where
 name:Bs
 args:List Int
 body:Ex
def kD(w:World)(FB:List Nat)(b:Nat)(fn:Fn):Prop:=∃(av:Value) (c:List Value),w.heap[b]? =some (.cells (.string (aa fn.name)::av::c).toArray 212 (0,0))/\w.ownsRow 0 3 1 av fn.args.length (fI fn.args)/\fn.args.length<=1000/\dG w FB (λ_=>True) c fn.body
theorem kD.ah{w x:World}{d:List Nat}{b:Nat}{fn:Fn}(h:kD w d b fn)(hb:Below w.heap.size w x):kD x d b fn:=by
 obtain⟨i,c,e,f,a,j⟩:=h;exact⟨i,c,(hb.block b (af e)).trans e,aA f λg k=>hb.block g (f.lt g k).2,a,j.ah hb⟩
mutual
theorem dG.typed{w:World}{j:List Nat}{S:Nat->Prop} :∀ {c:List Value} {t:Ex},dG w j S c t->dG w j (λg=>S g/\∃e k,w.heap[g]? =some (.cells e 210 k)) c t
 |_,_,.mk a b d f=>.mk (cO.typed a) b (λg i=>⟨d g i,by
   rcases b.2 with⟨rfl,_⟩|⟨l,cap,e,rfl,_,h,_⟩
   ·cases i
   ·cases i;exact⟨e,_,h⟩⟩) f
theorem cO.typed{w:World}{e:List Nat}{S:Nat->Prop} :∀ {c:List Value} {t:List Ex},cO w e S c t->cO w e (λg=>S g/\∃d f,w.heap[g]? =some (.cells d 210 f)) c t
 |_,_,.nil=>.nil
 |_,_,.cons a b=>.cons (dG.typed a) (cO.typed b)
end
theorem kD.grow{w x:World}{j:List Nat}{b:Nat}{fn:Fn}(h:kD w j b fn)(i:∀(g:Nat) (a:Array Value) (T:TypeId) (e:Nat × Nat),w.heap[g]? =some (.cells a T e)->T=212\/T=3\/T=210->x.heap[g]? =w.heap[g]?):kD x j b fn:=by
 obtain⟨m,c,k,l,f,n⟩:=h;refine⟨m,c,(i b _ _ _ k (.inl rfl)).trans k,aA l λg d=> ?_,f,n.typed.move (λg d=> ?_) (λ_ _=>trivial)⟩
 ·rcases l.2 with⟨rfl,_⟩|⟨p,cap,a,rfl,_,h,_⟩
  ·cases d
  ·cases d;exact i _ _ _ _ h (.inr (.inl rfl))
 ·obtain⟨_,a,e,o⟩:=d;exact i g a _ e o (.inr (.inr rfl))
def jA(w:World)(FB:List Nat)(v:Value)(fns:List Fn):Prop:=∃ao cap,v=.slice ao fns.length cap/\FB.length=fns.length/\fns.length<=100/\
 (fns= []\/∃b,ao=some ⟨b,0,none⟩/\b<w.heap.size/\∀(i q:Nat),FB[i]? =some q->w.cell? ⟨b,i,none⟩=some (.pointer (some ⟨q,0,none⟩)))/\∀(i q:Nat) (fn:Fn),FB[i]? =some q->fns[i]? =some fn->kD w FB q fn
theorem jA.ah{w x:World}{c:List Nat}{v:Value}{fns:List Fn}(h:jA w c v fns)(hb:Below w.heap.size w x):jA x c v fns:=by
 obtain⟨d,cap,f,g,j,k,l⟩:=h;refine⟨d,cap,f,g,j, ?_,λi q fn a b=>(l i q fn a b).ah hb⟩;rcases k with h|⟨b,e,hl,hc⟩
 ·exact .inl h
 ·exact .inr ⟨b,e,by have:=hb.size;omega,λi q m=>(hb.cell (p:=⟨b,i,none⟩) hl).trans (hc i q m)⟩
def aV(fns:List Fn)(l:Bs):Option Nat:=fns.findIdx? (λf=>f.name==l)
theorem Lp(w:World)(d:List Nat)(q b:Nat)(fn:Fn)(l:Bs)(h:kD w d q fn)(j:w.cell? ⟨b,0,none⟩=some (.string (aa l))):
  Calls prog 194 #[.pointer (some ⟨q,0,none⟩),.pointer (some ⟨b,0,none⟩)] w λe w'=>e=.returned (.bool (fn.name==l))/\Below w.heap.size w w':=by
 obtain⟨g,c,a,_,_,_⟩:=h;have i:w.cell? ⟨q,0,none⟩=some (.string (aa fn.name)):=by simp[cell?,a]
 have f:Hid ((fn.name==l)=((aa fn.name).toList==(aa l).toList)):=by rw[Hid,aj,aj]
 clear a;go_enter Tryz.func194,Tryz.ntmps194
 go_wp2_with fail
 go_region
 go_wp2_with fail
 go_ret;exact⟨by rw[f.out];rfl,(refl _ _).drew⟩
theorem sS(w:World)(a:List Nat)(v:Value)(fns:List Fn)(t:Nat)(l:Bs)(h:jA w a v fns)(B:t<w.heap.size)(K:w.cell? ⟨t,0,none⟩=some (.string (aa l))):
  Calls prog 193 #[v,.func (Fn.func 194) #[] #[.pointer (some ⟨t,0,none⟩)]] w λe w'=>(∃k:Int,e=.returned (.int .i64 k)/\((aV fns l=none/\k= -1)\/∃i:Nat,aV fns l=some i/\k=i/\i<fns.length))/\Below w.heap.size w w':=by
 obtain⟨I,cap,rfl,H,N,D,z⟩:=h;go_enter Tryz.func193,Tryz.ntmps193
 go_wp2_with fail
 go_loopw [8] (λE L=>∃i:Nat,i<=fns.length/\E=.int .i64 i/\Below w.heap.size w L/\Hid (aV fns l=((fns.drop i).findIdx? (λf=>f.name==l)).map (· +i))) (λE _=>fns.length- (intOf E).toNat)
 case atStart=>exact⟨0,Nat.zero_le _,rfl,refl _ _,by rw[Hid];simp[aV]⟩
 case round=>
  obtain⟨i,M,rfl,g,u⟩:=hrel;by_cases c:i<fns.length
  ·obtain⟨b,rfl,hb,F⟩:∃b,I=some ⟨b,0,none⟩/\b<w.heap.size/\∀(i q:Nat),a[i]? =some q->w.cell? ⟨b,i,none⟩=some (.pointer (some ⟨q,0,none⟩)):=by
    rcases D with h|h
    ·subst h;simp at c
    ·exact h
   have r:i<a.length:=by omega
   have C:a[i]? =some a[i]:=List.getElem?_eq_getElem r;have J:=(g.cell (p:=⟨b,i,none⟩) hb).trans (F i a[i] C);have hF:=(z i a[i] fns[i] C (List.getElem?_eq_getElem c)).ah g;have A:=(g.cell (p:=⟨t,0,none⟩) B).trans K;have G:fns.drop i=fns[i]::fns.drop (i+1):=List.drop_eq_getElem_cons c;have j:Hid (aV fns l=if(fns[i].name==l)then some i else((fns.drop (i+1)).findIdx? (λf=>f.name==l)).map (· +(i+1))):=by
    rw[Hid,u.out,G,List.findIdx?_cons]
    cases(fns[i].name==l)
    ·simp only[Bool.false_eq_true,if_false,Option.map_map];congr 1;funext x;simp;omega
    ·simp
   obtain⟨q,s⟩:∃q,q=a[i]:=⟨_,rfl⟩;obtain⟨fn,o⟩:∃fn,fn=fns[i]:=⟨_,rfl⟩;rw[<-s]at J hF;rw[<-o]at hF j;have y:=Lp wr a q t fn l hF A;clear F G D z u hF s o C;obtain⟨d,n⟩:∃d,d=(fn.name==l):=⟨_,rfl⟩;rw[<-n]at y j;clear n
   cases d with
   |true=>
    have m:Hid (aV fns l=some i):=by rw[Hid,j.out,if_pos rfl]
    clear j
    go_wp2_with(go_at_call 194;refine y.mono ?_;rintro e w2 ⟨rfl,hb2⟩)
    go_ret;exact⟨⟨_,rfl,.inr ⟨i,m.out,rfl,c⟩⟩,g.trans (hb2.mono g.size)⟩
   |false=>
    have m:Hid (aV fns l=((fns.drop (i+1)).findIdx? (λf=>f.name==l)).map (· +(i+1))):=by rw[Hid,j.out,if_neg Bool.false_ne_true]
    clear j
    go_wp2_with(go_at_call 194;refine y.mono ?_;rintro e w2 ⟨rfl,hb2⟩)
    go_roundw
    case rel=>exact⟨i+1,by omega,by go_num,g.trans (hb2.mono g.size),m⟩
    case measure=>simp[intOf];omega
  ·have m:Hid (aV fns l=none):=by rw[Hid,u.out,List.drop_of_length_le (by omega)];rfl
   clear u D z
   go_wp2_with fail
   go_ret;exact⟨⟨_,rfl,.inl ⟨m.out,rfl⟩⟩,g⟩
theorem yP(w:World)(c:List Nat)(v:Value)(fns:List Fn)(l:Bs)(h:jA w c v fns):
  Calls prog 122 #[v,.string (aa l)] w λe w'=>(∃p,e=.returned (.pointer p)/\yj c (aV fns l) p)/\Below w.heap.size w w':=by
 have a:=ae w (.cells #[.string (aa l)] 9);have f:=sS _ c v fns w.heap.size l (h.ah a) (by simp[size_alloc]) ((ag (heap_alloc_new w (.cells #[.string (aa l)] 9))).trans rfl);obtain⟨s,cap,rfl,o,x,r,u⟩:=h;clear u;go_enter Tryz.func122,Tryz.ntmps122
 go_wp2_with(go_at_call 193;refine f.mono ?_)
 rintro e w2 ⟨⟨k,rfl,⟨hN,rfl⟩|⟨i,hN,rfl,hlt⟩⟩,hb2⟩
 ·have g:Hid (aV fns l=none):=hN;clear hN f
  go_wp2_with fail
  go_ret;exact⟨⟨_,rfl,by rw[g.out];rfl⟩,a.trans (hb2.mono a.size)⟩
 ·have g:Hid (aV fns l=some i):=hN;obtain⟨b,rfl,hb,n⟩:∃b,s=some ⟨b,0,none⟩/\b<w.heap.size/\∀(i q:Nat),c[i]? =some q->w.cell? ⟨b,i,none⟩=some (.pointer (some ⟨q,0,none⟩)):=by
   rcases r with h|h
   ·subst h;simp at hlt
   ·exact h
  have m:=a.trans (hb2.mono a.size);have j:c[i]? =some (c[i]'(by omega)):=List.getElem?_eq_getElem (by omega);have t:=(m.cell (p:=⟨b,i,none⟩) hb).trans (n i _ j);obtain⟨q,d⟩:∃q,q=c[i]'(by omega):=⟨_,rfl⟩;rw[<-d]at t j;clear hN f n r d hb2 a
  go_wp2_with fail
  go_ret;exact⟨⟨_,rfl,by rw[g.out];exact⟨q,j,rfl⟩⟩,m⟩
def Nl(w:World)(l:Bs)(size:Int)(q:Bool)(v:Value)(t:Int)(e:Ending)(w':World):Prop:=Below w.heap.size w w'/\
 ((t=0/\e=.returned (.tuple #[.agg #[.int .i64 0,.int .i64 0,.int .i64 0,.bool false,.int .i64 0,.int .i64 0,.string ⟨#[]⟩,.int .i64 0,.string ⟨#[]⟩,.pointer none,.slice none 0 0],.int .i64 3]))\/
  (t≠0/\e=.returned (.tuple #[.agg #[.int .i64 4,.int .i64 t,.int .i64 size,.bool (q&& !iW l),.int .i64 0,.int .i64 0,.string ⟨#[]⟩,.int .i64 0,.string (aa l),.pointer none,v],.int .i64 0])))
theorem iA{w w2:World}(h:Below w.drew.heap.size w.drew w2):Below w.heap.size w w2:=⟨h.os,h.tape,h.output,h.size,h.block⟩
theorem BH{w w2:World}{o a:Obj}(h:Below ((w.alloc o).alloc a).heap.size ((w.alloc o).alloc a) w2):w2.heap[w.heap.size]? =some o:=
 (h.block _ (by simp only[size_alloc];omega)).trans ((heap_alloc _ _ _ (by simp only[size_alloc];omega)).trans (heap_alloc_new w o))
theorem Ep(w:World)(J:List Nat)(l:Bs)(M:bM l=true)(size:Int)(q:Bool)(f:Option Addr)(n cap:Nat)(b:List Ex)(h:jJ w J (.slice f n cap) b)(D:b.length<=1000):
  Calls prog 327 #[.agg #[.int .i64 0,.int .i64 0,.int .i64 size,.bool q,.int .i64 0,.int .i64 0,.string ⟨#[]⟩,.int .i64 0,.string (aa l),.pointer none,.slice f n cap]] w λe w'=>
   Nl w l size q (.slice f n cap) (bK l (b.map Ex.ty)) e w':=by
 have z:∀x:World,Below w.heap.size w x->Calls prog 352 #[.slice f n cap] x λe w'=>∃v',e=.returned v'/\aZ w' v' (b.map Ex.ty)/\Below x.heap.size x w':=
  λx hx=>BP x J _ b (h.ah hx) D
 have s:∀(x:World) (v':Value),aZ x v' (b.map Ex.ty)->Calls prog 351 #[.string (aa l),v'] x λe w'=>e=.returned (.int .i64 (bK l (b.map Ex.ty)))/\Below x.heap.size x w':=
  λx v' Z=>Jt l M x v' _ Z
 have g:∀x:World,Calls prog 353 #[.string (aa l)] x λe w'=>e=.returned (.bool (!iW l))/\w'=x:=by
  intro x;have:=EW (aa l) x;rw[aj]at this;exact this
 obtain⟨t,N⟩:∃t,t=bK l (b.map Ex.ty):=⟨_,rfl⟩;obtain⟨O,k⟩:∃O,O=b.map Ex.ty:=⟨_,rfl⟩;rw[<-N]at s ⊢;rw[<-k]at z s;obtain⟨u,F⟩:∃u,u=iW l:=⟨_,rfl⟩;rw[<-F]at g;have K:Hid (iW l=u):=F.symm;clear N k F h M;go_enter Tryz.func327,Tryz.ntmps327;go_upto_region 2 with fail
 go_cut [] (λH=>Below w.heap.size w H/\H.heap[w.heap.size]? =some (.cells #[.int .i64 4,.int .i64 t,.int .i64 size,.bool q,.int .i64 0,.int .i64 0,.string ⟨#[]⟩,.int .i64 0,.string (aa l),.pointer none,.slice f n cap] 210 (0,0))/\H.heap[w.heap.size+1]? =some EJ)
 case first=>
  go_region_with(first
   |(go_at_call 352;refine(z _ ?_).mono ?_;exact(az w _ _).drew;rintro e w2 ⟨v',rfl,hi2,c⟩;replace c:=iA c;obtain⟨ko,kc,rfl⟩:=hi2.form;have i:=BH c;obtain⟨C,d,E⟩:=iI c;obtain⟨⟨y0,y1,y2,y3,y4,y5,y6,y7,y8,y9,I⟩,f0,f1,f2,f3,f4,f5,f6,f7,f8,f9,f10⟩:=aX i)
   |(go_at_call 351;refine(s _ _ hi2).mono ?_;rintro e w3 ⟨rfl,hb3⟩;have j:=(hb3.block _ (by omega)).trans i;obtain⟨⟨z0,m,z2,z3,z4,z5,o,p,r,z9,a⟩,P,g1,Q,R,S,T,U,V,W,X,A⟩:=aX j))
  all_goals(go_wp2_with fail;go_meet)
  all_goals exact⟨((d.trans (hb3.mono d.size)).setCell (Nat.le_refl _) _),by simp[setCell,Array.getElem?_modify,j],(heap_setCell _ _ _ _ (by simp)).trans ((hb3.block _ (by omega)).trans C)⟩
 case rest=>
  obtain⟨d,L,B⟩:=hcut;have E:=af B;obtain⟨⟨y0,y1,y2,y3,y4,y5,y6,y7,y8,y9,I⟩,f0,f1,f2,f3,f4,f5,f6,f7,f8,f9,f10⟩:=aX L;obtain⟨⟨z0,m,z2,z3,z4,z5,o,p,r,z9,a⟩,P,g1,Q,R,S,T,U,V,W,X,A⟩:=aX B;clear L B z s;by_cases y:t=0
  ·subst y
   cases q
   ·go_wp2_with(go_at_call 353;refine(g _).mono ?_;rintro e G ⟨rfl,rfl⟩)
    refine bodyPost_ret (v:=.tuple #[.agg #[.int .i64 0,.int .i64 0,.int .i64 0,.bool false,.int .i64 0,.int .i64 0,.string ⟨#[]⟩,.int .i64 0,.string ⟨#[]⟩,.pointer none,.slice none 0 0],.int .i64 3]) (by simp[results,Tryz.results327,go_sem,z0,m,z2,z3,z4,z5,o,p,r,z9,a]) rfl ⟨?_,.inl ⟨rfl,rfl⟩⟩
    repeat(refine Below.setCell ?_ (by simp) _)
    exact d
   ·go_wp2_with(go_at_call 353;refine(g _).mono ?_;rintro e G ⟨rfl,rfl⟩)
    refine bodyPost_ret (v:=.tuple #[.agg #[.int .i64 0,.int .i64 0,.int .i64 0,.bool false,.int .i64 0,.int .i64 0,.string ⟨#[]⟩,.int .i64 0,.string ⟨#[]⟩,.pointer none,.slice none 0 0],.int .i64 3]) (by simp[results,Tryz.results327,go_sem,z0,m,z2,z3,z4,z5,o,p,r,z9,a]) rfl ⟨?_,.inl ⟨rfl,rfl⟩⟩
    repeat(refine Below.setCell ?_ (by simp) _)
    exact d
  ·have Y:(t==0)=false:=by simpa using y
   cases q
   ·go_wp2_with(go_at_call 353;refine(g _).mono ?_;rintro e G ⟨rfl,rfl⟩)
    refine bodyPost_ret (v:=.tuple #[.agg #[.int .i64 4,.int .i64 t,.int .i64 size,.bool (false),.int .i64 0,.int .i64 0,.string ⟨#[]⟩,.int .i64 0,.string (aa l),.pointer none,.slice f n cap],.int .i64 0]) (by simp[results,Tryz.results327,go_sem,z0,m,z2,z3,z4,z5,o,p,r,z9,a]) rfl ⟨?_,.inr ⟨y,by rw[K.out];rfl⟩⟩
    repeat(refine Below.setCell ?_ (by simp) _)
    exact d
   ·go_wp2_with(go_at_call 353;refine(g _).mono ?_;rintro e G ⟨rfl,rfl⟩)
    refine bodyPost_ret (v:=.tuple #[.agg #[.int .i64 4,.int .i64 t,.int .i64 size,.bool (!u),.int .i64 0,.int .i64 0,.string ⟨#[]⟩,.int .i64 0,.string (aa l),.pointer none,.slice f n cap],.int .i64 0]) (by simp[results,Tryz.results327,go_sem,z0,m,z2,z3,z4,z5,o,p,r,z9,a]) rfl ⟨?_,.inr ⟨y,by rw[K.out];rfl⟩⟩
    repeat(refine Below.setCell ?_ (by simp) _)
    exact d
def og(fns:List Fn)(l:Bs)(size:Int)(q:Bool)(es:List Ex):Except Int Ex:=
 match aV fns l with
 |none=>.error 2
 |some i=>match fns[i]? with
  |none=>.error 2
  |some fn=>if es.map Ex.ty=fn.args then .ok (.mk 5 fn.body.ty (size+fn.body.size) (q&&fn.body.quiet) 0 0 [] 0 l (some i) es)else .error 3
def JC(w:World)(FB:List Nat)(fns:List Fn)(l:Bs)(size:Int)(q:Bool)(v:Value)(ks:List Int)(e:Ending)(w':World):Prop:=Below w.heap.size w w'/\
 ((aV fns l=none/\e=.returned (.tuple #[.agg #[.int .i64 0,.int .i64 0,.int .i64 0,.bool false,.int .i64 0,.int .i64 0,.string ⟨#[]⟩,.int .i64 0,.string ⟨#[]⟩,.pointer none,.slice none 0 0],.int .i64 2]))\/
  (∃(i qb:Nat) (fn:Fn),aV fns l=some i/\fns[i]? =some fn/\FB[i]? =some qb/\
   ((ks≠fn.args/\e=.returned (.tuple #[.agg #[.int .i64 0,.int .i64 0,.int .i64 0,.bool false,.int .i64 0,.int .i64 0,.string ⟨#[]⟩,.int .i64 0,.string ⟨#[]⟩,.pointer none,.slice none 0 0],.int .i64 3]))\/
   (ks=fn.args/\e=.returned (.tuple #[.agg #[.int .i64 5,.int .i64 fn.body.ty,.int .i64 (size+fn.body.size),.bool (q&&fn.body.quiet),.int .i64 0,.int .i64 0,.string ⟨#[]⟩,.int .i64 0,.string (aa l),.pointer (some ⟨qb,0,none⟩),v],.int .i64 0])))))
theorem yO{fns:List Fn}{l:Bs}{i:Nat}(h:aV fns l=some i):i<fns.length:=by
 unfold aV at h;obtain⟨h,_⟩:=List.findIdx?_eq_some_iff_getElem.mp h;exact h
theorem kD.cells{w:World}{k:List Nat}{b:Nat}{fn:Fn}(h:kD w k b fn):∃a cap,aZ w (.slice a fn.args.length cap) fn.args/\w.cell? ⟨b,1,none⟩=some (.slice a fn.args.length cap)/\
  w.cell? ⟨b,3,none⟩=some (.int .i64 fn.body.ty)/\w.cell? ⟨b,4,none⟩=some (.int .i64 fn.body.size)/\w.cell? ⟨b,5,none⟩=some (.bool fn.body.quiet):=by
 obtain⟨p,c,d,f,e,n⟩:=h;have j:=sU f e;obtain⟨a,cap,rfl⟩:=j.form;obtain⟨sort,ty,size,quiet,vk,vn,vs,place,head,q,o,fp,l,r,i,m,g,rfl,_⟩:=n.inv;refine⟨a,cap,j,(ag d).trans rfl, ?_, ?_, ?_⟩
 ·rw[g];exact(ag d).trans rfl
 ·rw[g];exact(ag d).trans rfl
 ·rw[g];exact(ag d).trans rfl
theorem fO{w w2:World}{o o' o2:Obj}(h:Below (((w.alloc o).alloc o').alloc o2).heap.size (((w.alloc o).alloc o').alloc o2) w2):
  w2.heap[w.heap.size]? =some o/\w2.heap[w.heap.size+1]? =some o'/\w2.heap[w.heap.size+2]? =some o2/\Below w.heap.size w w2/\w.heap.size+3<=w2.heap.size:=by
 have a:=h.size;have a1:=heap_alloc_new (w.alloc o) o';have a2:=heap_alloc_new ((w.alloc o).alloc o') o2;simp only[size_alloc]at a1 a2 a;refine⟨?_, ?_, ?_, ?_,by omega⟩
 ·exact(h.block _ (by simp only[size_alloc];omega)).trans ((heap_alloc _ _ _ (by simp only[size_alloc];omega)).trans ((heap_alloc _ _ _ (by simp only[size_alloc];omega)).trans (heap_alloc_new w o)))
 ·exact(h.block _ (by simp only[size_alloc];omega)).trans ((heap_alloc _ _ _ (by simp only[size_alloc];omega)).trans a1)
 ·exact(h.block _ (by simp only[size_alloc];omega)).trans a2
 ·exact((az w o o').alloc (by simp only[size_alloc];omega) _).trans (h.mono (by simp only[size_alloc];omega))
theorem NS(w:World)(C:List Nat)(co:Option Addr)(cn cc:Nat)(pv:Value)(po:Option Addr)(pn pc:Nat)(b1:pv=.slice po pn pc)(fo:Option Addr)(E fc:Nat)(fns:List Fn)(hF:jA w C (.slice fo E fc) fns)(a7:∀fn∈fns,0<=fn.body.size/\fn.body.size<=300)
  (l:Bs) (size:Int) (b6:0<=size) (b7:size<=1000000) (q:Bool) (s:Option Addr) (n cap:Nat) (M:List Ex) (h:jJ w C (.slice s n cap) M) (a8:M.length<=1000):
  Calls prog 328 #[.agg #[.slice co cn cc,pv,.slice fo E fc],.agg #[.int .i64 0,.int .i64 0,.int .i64 size,.bool q,.int .i64 0,.int .i64 0,.string ⟨#[]⟩,.int .i64 0,.string (aa l),.pointer none,.slice s n cap]] w λe w'=>
   JC w C fns l size q (.slice s n cap) (M.map Ex.ty) e w':=by
 subst b1;have HT:∀x:World,Below w.heap.size w x->Calls prog 352 #[.slice s n cap] x λe w'=>∃v',e=.returned v'/\aZ w' v' (M.map Ex.ty)/\Below x.heap.size x w':=
  λx hx=>BP x C _ M (h.ah hx) a8
 have X:∀x:World,Below w.heap.size w x->Calls prog 122 #[.slice fo E fc,.string (aa l)] x λe w'=>(∃p,e=.returned (.pointer p)/\yj C (aV fns l) p)/\Below x.heap.size x w':=
  λx hx=>yP x C _ fns l (hF.ah hx)
 obtain⟨t,a5⟩:∃t,t=M.map Ex.ty:=⟨_,rfl⟩;rw[<-a5]at HT ⊢;clear a5 h;go_enter Tryz.func328,Tryz.ntmps328
 go_wp2_with(go_at_call 122;refine(X _ ?c1).mono ?_)
 case c1=>exact(az w _ _).alloc (by simp only[size_alloc];omega) _
 rintro e w2 ⟨⟨p,rfl,hp⟩,hb2⟩;obtain⟨a0,y,z,L,b8⟩:=fO hb2;clear hb2 X
 cases g:aV fns l with
 |none=>
  rw[g]at hp;have a9:p=none:=hp;subst a9;have HF:Hid (aV fns l=none):=g;obtain⟨⟨z0,H,z2,z3,z4,z5,I,J,K,z9,j⟩,g0,g1,g2,g3,g4,g5,g6,g7,g8,g9,F⟩:=aX z;clear g hp a0 y z HT hF
  go_wp2_with fail
  refine bodyPost_ret (v:=.tuple #[.agg #[.int .i64 0,.int .i64 0,.int .i64 0,.bool false,.int .i64 0,.int .i64 0,.string ⟨#[]⟩,.int .i64 0,.string ⟨#[]⟩,.pointer none,.slice none 0 0],.int .i64 2]) (by simp[results,Tryz.results328,go_sem,z0,H,z2,z3,z4,z5,I,J,K,z9,j]) rfl ⟨?_,.inl ⟨HF.out,rfl⟩⟩
  repeat(refine Below.setCell ?_ (by simp<;>omega) _)
  exact L
 |some i=>
  rw[g]at hp;obtain⟨a,hq,b0⟩:=hp;subst b0;have a6:=yO g;obtain⟨fn,A⟩:∃fn,fns[i]? =some fn:=⟨_,List.getElem?_eq_getElem a6⟩;have G:kD w C a fn:=hF.choose_spec.choose_spec.2.2.2.2 i a fn hq A;have b5:a<w.heap.size:=by obtain⟨av,c,h1,_⟩:=G;exact af h1
  have hA:=G.ah L;obtain⟨go,gc,hi,u1,u3,u4,u5⟩:=hA.cells;obtain⟨b2,b3⟩:=a7 fn (List.mem_of_getElem? A);have D:∀(e:Ending) (w':World),Below w.heap.size w w'->((t≠fn.args/\e=.returned (.tuple #[.agg #[.int .i64 0,.int .i64 0,.int .i64 0,.bool false,.int .i64 0,.int .i64 0,.string ⟨#[]⟩,.int .i64 0,.string ⟨#[]⟩,.pointer none,.slice none 0 0],.int .i64 3]))\/
    (t=fn.args/\e=.returned (.tuple #[.agg #[.int .i64 5,.int .i64 fn.body.ty,.int .i64 (size+fn.body.size),.bool (q&&fn.body.quiet),.int .i64 0,.int .i64 0,.string ⟨#[]⟩,.int .i64 0,.string (aa l),.pointer (some ⟨a,0,none⟩),.slice s n cap],.int .i64 0])))->Hid (JC w C fns l size q (.slice s n cap) t e w'):=
   λe w' hb h=>⟨hb,.inr ⟨i,a,fn,g,A,hq,h⟩⟩
  obtain⟨bt,a4⟩:∃x,x=fn.body.ty:=⟨_,rfl⟩;obtain⟨Z,a3⟩:∃x,x=fn.body.size:=⟨_,rfl⟩;obtain⟨bq,a2⟩:∃x,x=fn.body.quiet:=⟨_,rfl⟩;obtain⟨Y,a1⟩:∃x,x=fn.args:=⟨_,rfl⟩;rw[<-a4]at u3 D;rw[<-a3]at u4 D b2 b3;rw[<-a2]at u5 D;rw[<-a1]at hi u1 D;obtain⟨⟨N,O,P,Q,R,S,T,U,V,W,r⟩,f0,f1,f2,f3,f4,f5,f6,f7,f8,f9,f10⟩:=aX y;clear g hA G hF a7 A hq a4 a3 a2 a1 a0 a6;go_upto_region 4 with fail
  go_cut [23] (λb4 o=>b4=.bool (!decide (t=Y))/\Below w2.heap.size w2 o)
  case first=>
   go_region_with(first
    |(go_at_call 352;refine(HT _ ?_).mono ?_;exact L.drew;rintro e w3 ⟨v',rfl,hi3,m⟩;replace m:=iA m;obtain⟨ko,kc,rfl⟩:=hi3.form;have b9:=(m.cell (p:=⟨a,1,none⟩) (by show a<w2.heap.size;omega)).trans u1)
    |(go_at_call 354;refine(gU _ _ _ t Y hi3 (hi.ah m)).mono ?_;rintro e w4 ⟨rfl,hb4⟩))
   all_goals(go_wp2_with fail;go_meet)
   all_goals exact⟨rfl,m.trans (hb4.mono m.size)⟩
  case rest=>
   obtain⟨rfl,f⟩:=hcut;have B:=f.size;have u:Below w.heap.size w wc:=L.trans (f.mono L.size);clear N O P Q R S T U V W r f0 f1 f2 f3 f4 f5 f6 f7 f8 f9 f10;have d:=(f.block _ (by omega)).trans y;have b:=(f.block _ (by omega)).trans z;obtain⟨⟨N,O,P,Q,R,S,T,U,V,W,r⟩,f0,f1,f2,f3,f4,f5,f6,f7,f8,f9,f10⟩:=aX d;obtain⟨⟨z0,H,z2,z3,z4,z5,I,J,K,z9,j⟩,g0,g1,g2,g3,g4,g5,g6,g7,g8,g9,F⟩:=aX b;have v3:=(f.cell (p:=⟨a,3,none⟩) (by show a<w2.heap.size;omega)).trans u3;have v4:=(f.cell (p:=⟨a,4,none⟩) (by show a<w2.heap.size;omega)).trans u4;have v5:=(f.cell (p:=⟨a,5,none⟩) (by show a<w2.heap.size;omega)).trans u5;have k:a≠w.heap.size+1:=by omega
   clear u1 u3 u4 u5 hi y z HT f L;by_cases hk:t=Y
   ·have hd:decide (t=Y)=true:=by simpa using hk
    rw[hd];clear hd;go_upto_region 8 with fail
    go_cut [] (λo=>Below w.heap.size w o/\o.heap[w.heap.size+1]? =some (.cells #[.int .i64 5,.int .i64 bt,.int .i64 size,.bool q,.int .i64 0,.int .i64 0,.string ⟨#[]⟩,.int .i64 0,.string (aa l),.pointer (some ⟨a,0,none⟩),.slice s n cap] 210 (0,0))/\o.heap[w.heap.size+2]? =some EJ/\o.cell? ⟨a,4,none⟩=some (.int .i64 Z)/\o.cell? ⟨a,5,none⟩=some (.bool bq))
    case first=>
     go_wp2_with fail
     go_meet;refine⟨?_, ?_, ?_, ?_, ?_⟩
     ·iterate 3 (refine Below.setCell ?_ (by simp) _)
      exact u
     ·simp[setCell,Array.getElem?_modify,d]
     ·rw[heap_setCell _ _ _ _ (by simp),heap_setCell _ _ _ _ (by simp),heap_setCell _ _ _ _ (by simp)];exact b
     ·simpa[cell?_setCell_other,k]using v4
     ·simpa[cell?_setCell_other,k]using v5
    case rest=>
     clear N O P Q R S T U V W r f0 f1 f2 f3 f4 f5 f6 f7 f8 f9 f10 z0 H z2 z3 z4 z5 I J K z9 j g0 g1 g2 g3 g4 g5 g6 g7 g8 g9 F v3 v4 v5 u B d b;obtain⟨u,d,b,v4,v5⟩:=hcut;have B:=af b;obtain⟨⟨N,O,P,Q,R,S,T,U,V,W,r⟩,f0,f1,f2,f3,f4,f5,f6,f7,f8,f9,f10⟩:=aX d;go_upto_region 9 with fail
     go_cut [] (λo=>Below w.heap.size w o/\o.heap[w.heap.size+1]? =some (.cells #[.int .i64 5,.int .i64 bt,.int .i64 (size+Z),.bool q,.int .i64 0,.int .i64 0,.string ⟨#[]⟩,.int .i64 0,.string (aa l),.pointer (some ⟨a,0,none⟩),.slice s n cap] 210 (0,0))/\o.heap[w.heap.size+2]? =some EJ/\o.cell? ⟨a,4,none⟩=some (.int .i64 Z)/\o.cell? ⟨a,5,none⟩=some (.bool bq))
     case first=>
      go_region
      go_wp2_with fail
      go_meet;refine⟨(u.setCell (by simp) _).drew, ?_,(heap_setCell _ _ _ _ (by simp)).trans b, ?_, ?_⟩
      ·simp[setCell,drew,Array.getElem?_modify,d]
      ·simpa[cell?_setCell_other,k]using v4
      ·simpa[cell?_setCell_other,k]using v5
     case rest=>
      clear N O P Q R S T U V W r f0 f1 f2 f3 f4 f5 f6 f7 f8 f9 f10 v4 v5 u B d b;obtain⟨u,d,b,v4,v5⟩:=hcut;have B:=af b;obtain⟨⟨N,O,P,Q,R,S,T,U,V,W,r⟩,f0,f1,f2,f3,f4,f5,f6,f7,f8,f9,f10⟩:=aX d;obtain⟨⟨z0,H,z2,z3,z4,z5,I,J,K,z9,j⟩,g0,g1,g2,g3,g4,g5,g6,g7,g8,g9,F⟩:=aX b
      cases q
      ·go_wp2_with fail
       refine bodyPost_ret (v:=.tuple #[.agg #[.int .i64 5,.int .i64 bt,.int .i64 (size+Z),.bool false,.int .i64 0,.int .i64 0,.string ⟨#[]⟩,.int .i64 0,.string (aa l),.pointer (some ⟨a,0,none⟩),.slice s n cap],.int .i64 0]) (by simp[results,Tryz.results328,go_sem,z0,H,z2,z3,z4,z5,I,J,K,z9,j]) rfl ((D _ _ ?_ (.inr ⟨hk,by simp⟩)).out)
       iterate 12 (refine Below.setCell ?_ (by simp<;>omega) _)
       exact u
      ·go_wp2_with fail
       refine bodyPost_ret (v:=.tuple #[.agg #[.int .i64 5,.int .i64 bt,.int .i64 (size+Z),.bool bq,.int .i64 0,.int .i64 0,.string ⟨#[]⟩,.int .i64 0,.string (aa l),.pointer (some ⟨a,0,none⟩),.slice s n cap],.int .i64 0]) (by simp[results,Tryz.results328,go_sem,z0,H,z2,z3,z4,z5,I,J,K,z9,j]) rfl ((D _ _ ?_ (.inr ⟨hk,by simp⟩)).out)
       iterate 12 (refine Below.setCell ?_ (by simp<;>omega) _)
       exact u
   ·have hd:decide (t=Y)=false:=by simpa using hk
    rw[hd];clear hd
    go_wp2_with fail
    refine bodyPost_ret (v:=.tuple #[.agg #[.int .i64 0,.int .i64 0,.int .i64 0,.bool false,.int .i64 0,.int .i64 0,.string ⟨#[]⟩,.int .i64 0,.string ⟨#[]⟩,.pointer none,.slice none 0 0],.int .i64 3]) (by simp[results,Tryz.results328,go_sem,z0,H,z2,z3,z4,z5,I,J,K,z9,j]) rfl ((D _ _ ?_ (.inl ⟨hk,rfl⟩)).out)
    repeat(refine Below.setCell ?_ (by simp<;>omega) _)
    exact u
def aH:List Ex->Int
 | []=>0
 |e::es=>e.size+aH es
def pQ(fns:List Fn)(l:Bs)(es:List Ex):Except Int Ex:=
 if bM l then(if bK l (es.map Ex.ty)=0 then .error 3 else .ok (.mk 4 (bK l (es.map Ex.ty)) (1+aH es) (es.all Ex.quiet&& !iW l) 0 0 [] 0 l none es))
 else og fns l (1+aH es) (es.all Ex.quiet) es
def xO(ps:List Int)(l:Bs):Except Int Ex:=
 match ps[(l.getD 1 0).toNat- 49]? with
 |none=>.error 2
 |some t=>.ok (wV t ((l.getD 1 0).toNat- 49:Nat))
abbrev Sc:=List (Bs × Int) × List Int
def wK(t:Int)(p:Nat):Ex:=.mk 2 t 1 true 0 0 [] p [] none []
def mP(ay:List (Bs × Int))(l:Bs):Option Nat:=ay.findIdx? (λc=>c.1==l)
def uk(ay:List (Bs × Int))(l:Bs):Except Int Ex:=match mP ay l with
 |none=>.error 2
 |some i=>match ay[i]? with
  |none=>.error 2
  |some c=>.ok (wK c.2 i)
def uY(fns:List Fn)(l:Bs)(o:Except Int (List Ex)):Except Int Ex:=match o with
 | .error e=>.error e
 | .ok es=>pQ fns l es
mutual
def aY(atoi:Bs->Int)(ps:Sc)(fns:List Fn):Tr->Except Int Ex
 | .mk k tx br ops=>if br then uY fns tx (bW atoi ps fns ops)else if k=6 then uk ps.1 tx else if k=7 then xO ps.2 tx else .ok (dx atoi k tx)
def bW(atoi:Bs->Int)(ps:Sc)(fns:List Fn):List Tr->Except Int (List Ex)
 | []=>.ok []
 |t::ts=>match aY atoi ps fns t with
  | .error e=>.error e
  | .ok x=>match bW atoi ps fns ts with
   | .error e=>.error e
   | .ok xs=>.ok (x::xs)
end
def thenS(es:List Ex)(o:Except Int (List Ex)):Except Int (List Ex):=match o with
 | .error e=>.error e
 | .ok xs=>.ok (es++xs)
theorem PV(a:Bs->Int)(ps:Sc)(fns:List Fn)(c:List Ex)(t:Tr)(b:List Tr)(x:Ex)(h:aY a ps fns t=.ok x):thenS c (bW a ps fns (t::b))=thenS (c++ [x]) (bW a ps fns b):=by
 rw[bW,h]
 cases bW a ps fns b<;>simp[thenS]
theorem MP(a:Bs->Int)(ps:Sc)(fns:List Fn)(b:List Ex)(t:Tr)(c:List Tr)(n:Int)(h:aY a ps fns t=.error n):thenS b (bW a ps fns (t::c))=.error n:=by
 rw[bW,h];rfl
theorem zQ(a b:List Ex):aH (a++b)=aH a+aH b:=by
 induction a with
 |nil=>simp[aH]
 |cons x c ih=>simp[aH,ih];omega
theorem TT:(Tryz.prog.info? 210).map (λi=>(i.zero,i.size,i.bytes))=some (some (.agg #[.int .i64 0,.int .i64 0,.int .i64 0,.bool false,.int .i64 0,.int .i64 0,.string ⟨#[]⟩,.int .i64 0,.string ⟨#[]⟩,.pointer none,.slice none 0 0]),11,120):=by kernel_rfl
theorem Oo{wr d W l:World}{n:List Nat}{m:Nat}{v v':Value}{cs c:List Value}{r:List Ex}{x:Ex}
  (z:m<wr.heap.size) (j:wr.ownsRow (m+1) 210 11 v r.length cs) (q:cO wr n (λg=>m<g/\v.ownBlock≠some g) cs r)
  (i:Below wr.heap.size wr d) (y:dG d n (λg=>wr.heap.size<=g) c x)
  (s:d.heap.size<=W.heap.size/\∀g,g<d.heap.size->W.heap[g]? =d.heap[g]?)
  (p:W.grownBy l v.ownBlock) (h:v'.ownBlock=v.ownBlock\/v'.ownBlock=some W.heap.size):
  cO l n (λg=>m<g/\v'.ownBlock≠some g) (cs++c) (r++ [x])/\(∀g,g<wr.heap.size->v.ownBlock≠some g->l.heap[g]? =wr.heap[g]?):=by
 have B:=i.size;have ah:∀g,g<d.heap.size->v.ownBlock≠some g->l.heap[g]? =d.heap[g]? :=by
  intro g o u;rw[p.block g (by omega) (λe=>u e.symm),s.2 g o]
 have b:∀g,g<wr.heap.size->v.ownBlock≠some g->l.heap[g]? =wr.heap[g]? :=by
  intro g o w;rw[ah g (by omega) w,i.block g o]
 have k:∀g,v.ownBlock=some g->g<wr.heap.size:=λg a=>(j.lt g a).2;have A:=s.1;refine⟨cO.snoc ?_ ?_,b⟩
 ·refine q.bounded.move (λg a=>b g a.2 a.1.2) (λg a=>⟨a.1.1, ?_⟩);rcases h with e|e
  ·rw[e];exact a.1.2
  ·rw[e];intro f;have t:=Option.some.inj f;have:=a.2;omega
 ·refine y.bounded.move (λg a=>ah g a.2 (λe=>by have:=k g e;have:=a.1;omega)) (λg a=>⟨by have:=a.1;omega, ?_⟩);rcases h with e|e
  ·rw[e];intro f;have:=k g f;have:=a.1;omega
  ·rw[e];intro f;have t:=Option.some.inj f;have:=a.2;omega
mutual
inductive Fit(P:Int->Bs->Prop):Tr->Prop
 |mk {k:Int} {tx:Bs} {br:Bool} {ops:List Tr} :(br=false->P k tx)->Fits P ops->Fit P (.mk k tx br ops)
inductive Fits(P:Int->Bs->Prop):List Tr->Prop
 |nil:Fits P []
 |cons {t:Tr} {ts:List Tr} :Fit P t->Fits P ts->Fits P (t::ts)
end
theorem Fits.get{P:Int->Bs->Prop}{c:List Tr}(h:Fits P c)(i:Nat)(d:i<c.length):Fit P c[i]:=by
 induction c generalizing i with
 |nil=>simp at d
 |cons t c ih=>
  cases h with
  |cons a b=>
   cases i with
   |zero=>exact a
   |succ i=>simpa using ih b i (by simpa using d)
def iK(w:World)(v:Value)(ns:List (Bs × Int)):Prop:=∃ao cap,v=.slice ao ns.length cap/\ns.length<=1000/\(ns= []\/∃b,ao=some ⟨b,0,none⟩/\b<w.heap.size/\∀(i:Nat) (n:Bs × Int),ns[i]? =some n->w.cell? ⟨b,i*2,none⟩=some (.string (aa n.1))/\w.cell? ⟨b,i*2+1,none⟩=some (.int .i64 n.2))
theorem iK.ah{w x:World}{v:Value}{ns:List (Bs × Int)}(h:iK w v ns)(hb:Below w.heap.size w x):iK x v ns:=by
 obtain⟨d,cap,f,g,j⟩:=h;refine⟨d,cap,f,g, ?_⟩;rcases j with h|⟨b,e,hl,hc⟩
 ·exact .inl h
 ·refine .inr ⟨b,e,by have:=hb.size;omega,λi n k=> ?_⟩;obtain⟨a,c⟩:=hc i n k;exact⟨(hb.cell (p:=⟨b,_,none⟩) hl).trans a,(hb.cell (p:=⟨b,_,none⟩) hl).trans c⟩
theorem FH(w:World)(cap:Nat):iK w (.slice none 0 cap) []:=⟨none,cap,rfl,by simp,.inl rfl⟩
structure Hu(w:World)(FB:List Nat)(nv pv fv:Value)(ps:Sc)(fns:List Fn):Prop where
 ns:iK w nv ps.1
 ps:aZ w pv ps.2
 fns:jA w FB fv fns
theorem Hu.ah{w x:World}{a:List Nat}{c d b:Value}{ps:Sc}{fns:List Fn}(h:Hu w a c d b ps fns)(hb:Below w.heap.size w x):Hu x a c d b ps fns:=⟨h.ns.ah hb,h.ps.ah hb,h.fns.ah hb⟩
mutual
def uD:Tr->Nat
 | .mk _ _ _ ops=>1+fK ops
def fK:List Tr->Nat
 | []=>0
 |t::ts=>uD t+fK ts
end
theorem pX(a b:List Tr):fK (a++b)=fK a+fK b:=by
 induction a with
 |nil=>simp[fK]
 |cons x c ih=>simp[fK,ih];omega
theorem IU(a:List Tr)(i:Nat)(h:i<a.length):fK (a.take (i+1))=fK (a.take i)+uD a[i]/\fK (a.take (i+1))<=fK a:=by
 have e:a.take (i+1)=a.take i++ [a[i]]:=List.take_succ_eq_append_getElem h;have b:=congrArg fK (List.take_append_drop (i+1) a);rw[pX]at b;refine⟨by rw[e,pX];simp[fK],by omega⟩
theorem Dr(a:Bs->Int)(k:Int)(l:Bs):(dx a k l).size=1:=by
 unfold dx;split
 ·rfl
 ·split
  ·rfl
  ·split<;>rfl
theorem Lm{fns:List Fn}(c:∀fn∈fns,0<=fn.body.size/\fn.body.size<=300){l:Bs}{a:List Ex}{x:Ex}(h:pQ fns l a=.ok x)(d:0<=aH a):0<=x.size/\x.size<=301+aH a:=by
 unfold pQ at h;split at h
 ·split at h
  ·cases h
  ·cases h;simp only[Ex.size];omega
 ·unfold og at h;split at h
  ·cases h
  ·split at h
   ·cases h
   ·next fn b=>
    split at h
    ·cases h;have:=c fn (List.mem_of_getElem? b);show 0<=1+aH a+fn.body.size/\1+aH a+fn.body.size<=301+aH a;omega
    ·cases h
theorem wh(b:Bs->Int)(ps:Sc){fns:List Fn}(q:∀fn∈fns,0<=fn.body.size/\fn.body.size<=300)(N:Nat):∀(t:Tr),SizeOf.sizeOf t<=N->∀x,aY b ps fns t=.ok x->0<=x.size/\x.size<=301*uD t:=by
 induction N with
 |zero=>intro t e;obtain⟨k,r,p,g⟩:=t;simp at e
 |succ N ih=>
  have m:∀(d:List Tr),(∀t∈d,SizeOf.sizeOf t<=N)->∀c,bW b ps fns d=.ok c->0<=aH c/\aH c<=301*fK d:=by
   intro d
   induction d with
   |nil=>intro _ c h;rw[bW]at h;cases h;simp[aH,fK]
   |cons t d n=>
    intro f c h;rw[bW]at h;split at h
    ·cases h
    ·next x a=>
     split at h
     ·cases h
     ·next s l=>
      cases h;have o:=ih t (f t (by simp)) x a;have u:=n (λt e=>f t (by simp[e])) s l;simp only[aH,fK];omega
  intro t e x a;obtain⟨k,r,p,g⟩:=t;simp only[Tr.mk.sizeOf_spec]at e;rw[aY]at a;simp only[uD];split at a
  ·unfold uY at a;split at a
   ·cases a
   ·next c i=>
    have o:=m g (λt j=>by have:=List.sizeOf_lt_of_mem j;omega) c i;have:=Lm q a o.1;omega
  ·split at a
   ·unfold uk at a;split at a
    ·cases a
    ·split at a
     ·cases a
     ·cases a;simp only[wK,Ex.size];omega
   ·split at a
    ·unfold xO at a;split at a
     ·cases a
     ·cases a;simp only[wV,Ex.size];omega
    ·cases a;rw[Dr];omega
def DU(atoi:Bs->Int)(P:Int->Bs->Prop)(N:Nat):Prop:=∀(t:Tr) (w:World) (FB:List Nat) (ps:Sc) (fns:List Fn) (qo:Option Addr) (qn qc:Nat) (po:Option Addr) (pn pc:Nat) (fo:Option Addr) (fnn fc:Nat) (c:Array Value),SizeOf.sizeOf t<=N->uD t<=1000->Fit P t->lh w (λ_=>True) c.toList t->
 Hu w FB (.slice qo qn qc) (.slice po pn pc) (.slice fo fnn fc) ps fns->(∀fn∈fns,0<=fn.body.size/\fn.body.size<=300)->
 Calls prog 242 #[.agg #[.slice qo qn qc,.slice po pn pc,.slice fo fnn fc],.agg c] w λe w'=>sK w FB (aY atoi ps fns t) e w'
end Go.Proofs.YtdifpeaklamhnaaGreatDoor
