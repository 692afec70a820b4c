import Derived.Test.YtdifpeaklamhnaaGreatDoorBaGZ
set_option linter.unusedVariables false
set_option linter.unusedSimpArgs false
set_option maxRecDepth 100000
set_option maxHeartbeats 0
namespace Go.Proofs.YtdifpeaklamhnaaGreatDoor
open Go.Proofs.Tryz
open Go.RowKit
def yh(w:World)(o:Except Int (List Fn × List (aJ × Ex)))(e:Ending)(w':World):Prop:=Below w.heap.size w w'/\
 ∃(FB:List Nat) (fo:Option Addr) (fnn fc:Nat) (to':Option Addr) (tn tc:Nat) (n:Int) (fns:List Fn) (tt:List (aJ × Ex)),e=.returned (.tuple #[.agg #[.slice fo fnn fc,.slice to' tn tc],.int .i64 n])/\iP w' FB (.slice fo fnn fc) fns/\jm w' FB (.slice to' tn tc) tt/\Hid ((o=.error n/\n≠0/\tt= [])\/(o=.ok (fns,tt)/\n=0))
theorem yh.bad{w:World}{o:Except Int (List Fn × List (aJ × Ex))}{n:Int}{e:Ending}{w':World}(c:o=.error n)(b:n≠0)(hb:Below w.heap.size w w')(a:e=.returned (.tuple #[.agg #[.slice none 0 0,.slice none 0 0],.int .i64 n])):yh w o e w':=
 ⟨hb,[],none,0,0,none,0,0,n,[],[],a,LH _,JD _ _ _,.inl ⟨c,b,rfl⟩⟩
theorem CO(w:World)(i:List mM)(E:Option Addr)(D cap:Nat)(I:fT w (.slice E D cap) i)(j:List aJ)(h:Option Addr)(y x:Nat)(l:jI w (.slice h y x) j)(a:Bs):
  Calls prog 68 #[.agg #[.slice E D cap,.slice h y x],.string (aa a)] w λe w'=>yh w (mR a (dz i j)) e w':=by
 by_cases H:30<a.length
 ·have G:30<(aa a).size:=by rw[aF];exact H
  have P:decide ((30:Int)<((aa a).size:Int))=true:=by simp;omega
  have m:Hid (mR a (dz i j)=.error 9):=by rw[Hid,mR,if_pos H]
  clear I l;go_enter Tryz.func68,Tryz.ntmps68
  go_wp2_with fail
  refine bodyPost_ret (v:=.tuple #[.agg #[.slice none 0 0,.slice none 0 0],.int .i64 9]) (by simp[results,Tryz.results68,go_sem]) rfl (.bad m.out (by decide) ?_ rfl);exact az w _ _
 ·have G:(aa a).size<=30:=by rw[aF];omega
  have P:decide ((30:Int)<((aa a).size:Int))=false:=by simp;omega
  have m:Hid (mR a (dz i j)=dz i j):=by rw[Hid,mR,if_neg H]
  have f:=az w (.cells #[.slice E D cap,.slice h y x] 67) (.cells #[.slice none 0 0,.slice none 0 0] 194);have L:=zO w _ f i _ (I.ag f) j h y x l;clear I l;go_enter Tryz.func68,Tryz.ntmps68
  go_wp2_with(go_at_call 62;refine L.mono ?_)
  clear L;rintro e w2 ⟨k,hres⟩;obtain⟨r,K,S⟩:=mG k;obtain⟨z0,T,M,g1⟩:=mi r;have Q:w.heap.size+1<w2.heap.size:=by omega
  rcases hres with⟨n,t,R,rfl⟩|⟨fns,J,A,p,b,o,d,q,c,t,rfl,hF,s,u⟩
  ·have C:Hid (mR a (dz i j)=.error n):=m.out.trans t;clear t k r m f
   go_wp2_with fail
   exact bodyPost_ret (v:=.tuple #[.agg #[.slice none 0 0,.slice none 0 0],.int .i64 n]) (by simp[results,Tryz.results68,go_sem,z0,M]) rfl (.bad C.out R ((K.setCell (by simp) _).setCell (by simp) _) rfl)
  ·have C:Hid (mR a (dz i j)=.ok (fns,J)):=m.out.trans t;have N:Hid (iP ((w2.setCell ⟨w.heap.size+1,0,none⟩ (.slice p b o)).setCell ⟨w.heap.size+1,1,none⟩ (.slice d q c)) A (.slice p b o) fns):=
    hF.other r (by simp[World.size_setCell]) λg F=>pW _ _ _ _ _ F
   have z:Below w.heap.size w ((w2.setCell ⟨w.heap.size+1,0,none⟩ (.slice p b o)).setCell ⟨w.heap.size+1,1,none⟩ (.slice d q c)):=(K.setCell (by simp) _).setCell (by simp) _;have O:Hid (jm ((w2.setCell ⟨w.heap.size+1,0,none⟩ (.slice p b o)).setCell ⟨w.heap.size+1,1,none⟩ (.slice d q c)) A (.slice d q c) J):=
    (s.other r λg F=>pW _ _ _ _ _ F).dS z
   have B:Hid _:=z;clear t k r hF s u m f z
   go_wp2_with fail
   exact bodyPost_ret (v:=.tuple #[.agg #[.slice p b o,.slice d q c],.int .i64 0]) (by simp[results,Tryz.results68,go_sem,z0,M]) rfl ⟨B.out,A,p,b,o,d,q,c,0,fns,J,rfl,N.out,O.out,.inr ⟨C.out,rfl⟩⟩
def nO(w:World)(FB:List Nat)(tt:List (aJ × Ex))(l:Bs)(a2 a5:Value)(xs:List Value)(n:Int):Prop:=(dH tt l=none/\n=2/\eD w a5 [])\/
 ∃(i:Nat) (te:aJ × Ex) (sort ty size:Int) (quiet:Bool) (vk vn:Int) (vs:Bs) (place:Int) (head:Bs) (fp oo:Option Addr) (on oc:Nat),dH tt l=some i/\tt[i]? =some te/\n=0/\RowsIn w a2 te.1.rows/\eD w a5 te.1.eZ/\xs= [.int .i64 sort,.int .i64 ty,.int .i64 size,.bool quiet,.int .i64 vk,.int .i64 vn,.string (aa vs),.int .i64 place,.string (aa head),.pointer fp,.slice oo on oc]/\dJ w FB (λ_=>True) xs te.2
theorem nO.ag{w x:World}{d:List Nat}{e:List (aJ × Ex)}{l:Bs}{a2 a5:Value}{xs:List Value}{n:Int}(h:nO w d e l a2 a5 xs n)(hb:Below w.heap.size w x):nO x d e l a2 a5 xs n:=by
 rcases h with⟨a,b,c⟩|⟨i,q,sort,ty,size,quiet,vk,vn,vs,place,head,fp,p,o,m,a,b,c,f,g,j,k⟩
 ·exact .inl ⟨a,b,c.ag hb⟩
 ·exact .inr ⟨i,q,sort,ty,size,quiet,vk,vn,vs,place,head,fp,p,o,m,a,b,c,f.ag hb,g.ag hb,j,k.ag hb⟩
theorem Da(w:World)(p:List Nat)(v:List (aJ × Ex))(y:Option Addr)(o x:Nat)(m:Option Addr)(u k:Nat)(h:jm w p (.slice m u k) v)(l:Bs):
  Calls prog 76 #[.agg #[.slice y o x,.slice m u k],.string (aa l)] w λe w'=>Below w.heap.size w w'/\∃a0 a1 a2 a3 a4 a5 q s t a9 a b c d f g j n,rU a0 a1 a2 a3 a4 a5 q s t a9 a b c d f g j/\e=.returned (.tuple #[.agg #[a0,a1,a2,a3,a4,a5,q,s,t,a9,a,b,c,d,f,g,j],.int .i64 n])/\Hid (nO w' p v l a2 a5 [q,s,t,a9,a,b,c,d,f,g,j] n):=by
 refine(rW w p v y o x m u k h l).mono ?_;rintro e w' ⟨hb,⟨h1,rfl⟩|⟨i,te,r,h1,h2,rfl,h3⟩⟩
 ·exact⟨hb,_,_,_,_,_,_,_,_,_,_,_,_,_,_,_,_,_,_,by simp[rU,Value.oneCell'],rfl,.inl ⟨h1,rfl,none,0,rfl,by simp,.inl rfl⟩⟩
 ·exact⟨hb,_,_,_,_,_,_,_,_,_,_,_,_,_,_,_,_,_,_,by simp[rU,Value.oneCell'],rfl,.inr ⟨i,te,_,_,_,_,_,_,_,_,_,_,_,_,_,h1,h2,rfl,h3.rows,h3.eZ,rfl,h3.ex⟩⟩
theorem EM(w:World)(a b c:Int):Calls prog 66 #[.slice (some ⟨w.heap.size,0,none⟩) 3 3] (w.alloc (.cells #[.int .i64 a,.int .i64 b,.int .i64 c] 68)) λe w'=>e=.returned (.int .i64 (aK [a,b,c]))/\w'=w.alloc (.cells #[.int .i64 a,.int .i64 b,.int .i64 c] 68):=by
 refine vB _ w.heap.size 3 [a,b,c] (by simp) λj u d=> ?_;rw[af (heap_alloc_new w _)]
 match j,d with
 |0,d=>simp at d;subst d;rfl
 |1,d=>simp at d;subst d;rfl
 |2,d=>simp at d;subst d;rfl
theorem GH{P:Program}{x:World}{b:Nat}(m0:x.heap[b]? =some (.cells #[.string ⟨#[]⟩,.slice none 0 0,.slice none 0 0,.int .i64 0,.string ⟨#[]⟩,.slice none 0 0,.int .i64 0,.int .i64 0,.int .i64 0,.bool false,.int .i64 0,.int .i64 0,.string ⟨#[]⟩,.int .i64 0,.string ⟨#[]⟩,.pointer none,.slice none 0 0] 235))(a0 a1 a2 a3 a4 a5 g j k a9 a c d f i l m:Value)(o0:a0.oneCell'=true)(o1:a1.oneCell'=true)(o2:a2.oneCell'=true)(o3:a3.oneCell'=true)(o4:a4.oneCell'=true)(o5:a5.oneCell'=true)(o6:g.oneCell'=true)(o7:j.oneCell'=true)(o8:k.oneCell'=true)(o9:a9.oneCell'=true)(M:a.oneCell'=true)(N:c.oneCell'=true)(O:d.oneCell'=true)(Q:f.oneCell'=true)(R:i.oneCell'=true)(S:l.oneCell'=true)(T:m.oneCell'=true):
  ∃x1 x2 x3 x4 x5 x6 x7 x8 x9 o p q r s t u n:World,(store ⟨b,0,none⟩ a0).run P x=.ok () x1/\(store ⟨b,1,none⟩ a1).run P x1=.ok () x2/\(store ⟨b,2,none⟩ a2).run P x2=.ok () x3/\(store ⟨b,3,none⟩ a3).run P x3=.ok () x4/\(store ⟨b,4,none⟩ a4).run P x4=.ok () x5/\(store ⟨b,5,none⟩ a5).run P x5=.ok () x6/\(store ⟨b,6,none⟩ g).run P x6=.ok () x7/\(store ⟨b,7,none⟩ j).run P x7=.ok () x8/\(store ⟨b,8,none⟩ k).run P x8=.ok () x9/\(store ⟨b,9,none⟩ a9).run P x9=.ok () o/\(store ⟨b,10,none⟩ a).run P o=.ok () p/\(store ⟨b,11,none⟩ c).run P p=.ok () q/\(store ⟨b,12,none⟩ d).run P q=.ok () r/\(store ⟨b,13,none⟩ f).run P r=.ok () s/\(store ⟨b,14,none⟩ i).run P s=.ok () t/\(store ⟨b,15,none⟩ l).run P t=.ok () u/\(store ⟨b,16,none⟩ m).run P u=.ok () n/\n.heap[b]? =some (.cells #[a0,a1,a2,a3,a4,a5,g,j,k,a9,a,c,d,f,i,l,m] 235 (0,0))/\∀(B:Nat) (y:World),B<=b->Below B y x->Below B y n:=by
 obtain⟨x1,r0,m1, -,b0⟩:=aZ (P:=P) 0 #[a0,.slice none 0 0,.slice none 0 0,.int .i64 0,.string ⟨#[]⟩,.slice none 0 0,.int .i64 0,.int .i64 0,.int .i64 0,.bool false,.int .i64 0,.int .i64 0,.string ⟨#[]⟩,.int .i64 0,.string ⟨#[]⟩,.pointer none,.slice none 0 0] m0 (by simp) o0 rfl;obtain⟨x2,r1,m2, -,b1⟩:=aZ (P:=P) 1 #[a0,a1,.slice none 0 0,.int .i64 0,.string ⟨#[]⟩,.slice none 0 0,.int .i64 0,.int .i64 0,.int .i64 0,.bool false,.int .i64 0,.int .i64 0,.string ⟨#[]⟩,.int .i64 0,.string ⟨#[]⟩,.pointer none,.slice none 0 0] m1 (by simp) o1 rfl;obtain⟨x3,r2,m3, -,b2⟩:=aZ (P:=P) 2 #[a0,a1,a2,.int .i64 0,.string ⟨#[]⟩,.slice none 0 0,.int .i64 0,.int .i64 0,.int .i64 0,.bool false,.int .i64 0,.int .i64 0,.string ⟨#[]⟩,.int .i64 0,.string ⟨#[]⟩,.pointer none,.slice none 0 0] m2 (by simp) o2 rfl;obtain⟨x4,r3,m4, -,b3⟩:=aZ (P:=P) 3 #[a0,a1,a2,a3,.string ⟨#[]⟩,.slice none 0 0,.int .i64 0,.int .i64 0,.int .i64 0,.bool false,.int .i64 0,.int .i64 0,.string ⟨#[]⟩,.int .i64 0,.string ⟨#[]⟩,.pointer none,.slice none 0 0] m3 (by simp) o3 rfl;obtain⟨x5,r4,m5, -,b4⟩:=aZ (P:=P) 4 #[a0,a1,a2,a3,a4,.slice none 0 0,.int .i64 0,.int .i64 0,.int .i64 0,.bool false,.int .i64 0,.int .i64 0,.string ⟨#[]⟩,.int .i64 0,.string ⟨#[]⟩,.pointer none,.slice none 0 0] m4 (by simp) o4 rfl;obtain⟨x6,r5,m6, -,b5⟩:=aZ (P:=P) 5 #[a0,a1,a2,a3,a4,a5,.int .i64 0,.int .i64 0,.int .i64 0,.bool false,.int .i64 0,.int .i64 0,.string ⟨#[]⟩,.int .i64 0,.string ⟨#[]⟩,.pointer none,.slice none 0 0] m5 (by simp) o5 rfl;obtain⟨x7,r6,m7, -,b6⟩:=aZ (P:=P) 6 #[a0,a1,a2,a3,a4,a5,g,.int .i64 0,.int .i64 0,.bool false,.int .i64 0,.int .i64 0,.string ⟨#[]⟩,.int .i64 0,.string ⟨#[]⟩,.pointer none,.slice none 0 0] m6 (by simp) o6 rfl;obtain⟨x8,r7,m8, -,b7⟩:=aZ (P:=P) 7 #[a0,a1,a2,a3,a4,a5,g,j,.int .i64 0,.bool false,.int .i64 0,.int .i64 0,.string ⟨#[]⟩,.int .i64 0,.string ⟨#[]⟩,.pointer none,.slice none 0 0] m7 (by simp) o7 rfl;obtain⟨x9,r8,m9, -,b8⟩:=aZ (P:=P) 8 #[a0,a1,a2,a3,a4,a5,g,j,k,.bool false,.int .i64 0,.int .i64 0,.string ⟨#[]⟩,.int .i64 0,.string ⟨#[]⟩,.pointer none,.slice none 0 0] m8 (by simp) o8 rfl;obtain⟨o,r9,F, -,b9⟩:=aZ (P:=P) 9 #[a0,a1,a2,a3,a4,a5,g,j,k,a9,.int .i64 0,.int .i64 0,.string ⟨#[]⟩,.int .i64 0,.string ⟨#[]⟩,.pointer none,.slice none 0 0] m9 (by simp) o9 rfl;obtain⟨p,U,G, -,v⟩:=aZ (P:=P) 10 #[a0,a1,a2,a3,a4,a5,g,j,k,a9,a,.int .i64 0,.string ⟨#[]⟩,.int .i64 0,.string ⟨#[]⟩,.pointer none,.slice none 0 0] F (by simp) M rfl;obtain⟨q,V,H, -,w⟩:=aZ (P:=P) 11 #[a0,a1,a2,a3,a4,a5,g,j,k,a9,a,c,.string ⟨#[]⟩,.int .i64 0,.string ⟨#[]⟩,.pointer none,.slice none 0 0] G (by simp) N rfl;obtain⟨r,W,I, -,z⟩:=aZ (P:=P) 12 #[a0,a1,a2,a3,a4,a5,g,j,k,a9,a,c,d,.int .i64 0,.string ⟨#[]⟩,.pointer none,.slice none 0 0] H (by simp) O rfl;obtain⟨s,X,J, -,A⟩:=aZ (P:=P) 13 #[a0,a1,a2,a3,a4,a5,g,j,k,a9,a,c,d,f,.string ⟨#[]⟩,.pointer none,.slice none 0 0] I (by simp) Q rfl;obtain⟨t,Y,K, -,C⟩:=aZ (P:=P) 14 #[a0,a1,a2,a3,a4,a5,g,j,k,a9,a,c,d,f,i,.pointer none,.slice none 0 0] J (by simp) R rfl;obtain⟨u,Z,L, -,D⟩:=aZ (P:=P) 15 #[a0,a1,a2,a3,a4,a5,g,j,k,a9,a,c,d,f,i,l,.slice none 0 0] K (by simp) S rfl;obtain⟨n,c0,m17, -,E⟩:=aZ (P:=P) 16 #[a0,a1,a2,a3,a4,a5,g,j,k,a9,a,c,d,f,i,l,m] L (by simp) T rfl;exact⟨_,_,_,_,_,_,_,_,_,_,_,_,_,_,_,_,_,r0,r1,r2,r3,r4,r5,r6,r7,r8,r9,U,V,W,X,Y,Z,c0,m17,λB y e h=>(E B y e (D B y e (C B y e (A B y e (z B y e (w B y e (v B y e (b9 B y e (b8 B y e (b7 B y e (b6 B y e (b5 B y e (b4 B y e (b3 B y e (b2 B y e (b1 B y e (b0 B y e h)))))))))))))))))⟩
def BG(w:World)(r:List Int × Int)(e:Ending)(w':World):Prop:=∃so sn sc,e=.returned (.tuple #[.slice so sn sc,.int .i64 r.2])/\w'.ownsRow w.heap.size 3 1 (.slice so sn sc) r.1.length (aL r.1)/\Below w.heap.size w w'
theorem KM{c:List mM}{d:List aJ}{a name:Bs}{p:List Fn × List (aJ × Ex)}(h:mR a (dz c d)=.ok p):tK c d a name=match dH p.2 name with
  |none=>qC 2
  |some i=>match p.2[i]? with
   |none=>qC 2
   |some b=>if aW b.1.eZ a then(aN (jQ p.1 a b.2) 0 b.1.rows,0)else qC 7:=by
 obtain⟨e,f⟩:=Cj h;rw[tK,if_neg (by omega),e]
 try rfl
theorem Gw{c:List mM}{d:List aJ}{a name:Bs}{n:Int}(h:mR a (dz c d)=.error n):tK c d a name=qC n:=by
 unfold mR at h;unfold tK;split at h
 ·next b=>rw[if_pos b];cases h;rfl
 ·next b=>rw[if_neg b,h]
theorem MP{w:World}{d:List mM}{e:List aJ}{a name:Bs}{m:List Nat}{fns:List Fn}{c:List (aJ × Ex)}{n g:Int}{a2 a5:Value}{q:List Value}{j:List Bs}(h:(mR a (dz d e)=.error n/\n≠0/\c= [])\/(mR a (dz d e)=.ok (fns,c)/\n=0))(o:nO w m c name a2 a5 q g)(p:∀i b,dH c name=some i->c[i]? =some b->j=b.1.eZ):
  (aK [n,g,fU (!aW j a) 7]≠0/\tK d e a name=qC (aK [n,g,fU (!aW j a) 7]))\/
  (aK [n,g,fU (!aW j a) 7]=0/\mR a (dz d e)=.ok (fns,c)/\∃i b,dH c name=some i/\c[i]? =some b/\tK d e a name=(aN (jQ fns a b.2) 0 b.1.rows,0)):=by
 rcases h with⟨f,l,r⟩|⟨f,rfl⟩
 ·refine .inl ?_;rw[aK,if_neg l];exact⟨l,Gw f⟩
 ·rw[aK,if_pos rfl,KM f];rcases o with⟨g1,rfl,_⟩|⟨i,b,_,_,_,_,_,_,_,_,_,_,_,_,_,g1,k,rfl,_⟩
  ·refine .inl ⟨by simp[aK], ?_⟩;simp only[g1];rfl
  ·rw[p i b g1 k,aK,if_pos rfl];simp only[g1,k]
   cases s:aW b.1.eZ a with
   |true=>exact .inr ⟨by simp[aK,fU],f,i,b,rfl,k,by rw[if_pos rfl]⟩
   |false=>exact .inl ⟨by simp[aK,fU],by rw[if_neg Bool.false_ne_true];rfl⟩
theorem nO.eZ{w:World}{f:List Nat}{c:List (aJ × Ex)}{l:Bs}{a2 a5:Value}{p:List Value}{n:Int}(h:nO w f c l a2 a5 p n):∃e,eD w a5 e/\∀i a,dH c l=some i->c[i]? =some a->e=a.1.eZ:=by
 rcases h with⟨b,_,k⟩|⟨i,a,_,_,_,_,_,_,_,_,_,_,_,_,_,b,g,_,_,m,_⟩
 ·exact⟨[],k,λi a h=>by rw[b]at h;cases h⟩
 ·refine⟨a.1.eZ,m,λj o h d=> ?_⟩;rw[b]at h;cases h;rw[g]at d;cases d;rfl
theorem PP{fns:List Fn}{a:Bs}{x:Ex}{r:List aj}{v:aj}(h:tY fns a 300 r [] x=some v):jQ fns a x r=true↔v=aV true:=by
 rw[jQ,h];exact beq_iff_eq
def ND(w2:World)(FB:List Nat)(tt:List (aJ × Ex))(l:Bs)(s10 s11:Value)(wx:World):Prop:=∃(g:Nat) (a0 a1 a2 a3 a4 a5 a6 a7 a8 a9 a10 a11 a12 a13 a14 a15 a16:Value) (n6:Int),s10=.pointer (some ⟨g,0,none⟩)/\s11=.int .i64 n6/\rU a0 a1 a2 a3 a4 a5 a6 a7 a8 a9 a10 a11 a12 a13 a14 a15 a16/\wx.heap[g]? =some (.cells #[a0,a1,a2,a3,a4,a5,a6,a7,a8,a9,a10,a11,a12,a13,a14,a15,a16] 235 (0,0))/\Hid (nO wx FB tt l a2 a5 [a6,a7,a8,a9,a10,a11,a12,a13,a14,a15,a16] n6)/\Below w2.heap.size w2 wx
def TN(f:Func):Code:=((f.body.bind (kJ 2)).getD .skip)
theorem TP(w2:World)(R:List Nat)(T:List (aJ × Ex))(name:Bs)(V:Option Addr)(g U:Nat)(c:Option Addr)(S b:Nat)(hT:jm w2 R (.slice c S b) T)(u0 u1 u3 u4 u5 u6 u7 u9 b3 b4 s t u v w x b5 b6 b7 b8 b9 c0 y z A B C D E F G H I J L:Value)(K:Act->World->Prop)(P:Ending->World->Prop)
  (hK:∀(M N c1 c2 v20 v21 c3 c4:Value) (wx:World),ND w2 R T name M N wx->K ⟨#[u0,u1,.string (aa name),u3,u4,u5,u6,u7,.pointer (some ⟨w2.heap.size,0,none⟩),u9,M,N,s,t,u,v,w,x,c1,c2,v20,v21,c3,c4,y,z,A,B,C,D,E,F,G,H,I,J,L],[]⟩ wx):
  Code.wp prog (TN Tryz.f35) (Exit.then K (bodyPost prog Tryz.f35 P)) ⟨#[u0,u1,.string (aa name),u3,u4,u5,u6,u7,.pointer (some ⟨w2.heap.size,0,none⟩),u9,b3,b4,s,t,u,v,w,x,b5,b6,b7,b8,b9,c0,y,z,A,B,C,D,E,F,G,H,I,J,L],[]⟩ (w2.alloc (.cells #[.slice V g U,.slice c S b] 194)):=by
 conv=>arg 2;whnf
 have HK:Hid _:=hK;have a:=ae w2 (.cells #[.slice V g U,.slice c S b] 194);have HT:=Da _ R T V g U c S b (hT.ag a) name;clear hK hT
 go_wp2_with(go_at_call 76;refine HT.mono ?_;rintro e O ⟨j,a0,a1,a2,a3,a4,a5,a6,a7,a8,a9,a10,a11,a12,a13,a14,a15,a16,n6,HO17,rfl,HTO⟩)
 clear HT;have h:Below w2.heap.size w2 O:=a.trans (j.mono a.size);have f:Hid _:=HO17;obtain⟨o0,o1,o2,o3,o4,o5,o6,o7,o8,o9,W,X,Y,Z,b0,b1,b2⟩:=HO17;obtain⟨x1,x2,x3,x4,x5,x6,x7,x8,x9,c5,c6,c7,c8,c9,e0,e1,Q,r0,r1,r2,r3,r4,r5,r6,r7,r8,r9,l,m,n,o,p,q,r,kT,d⟩:=GH (P:=prog) (heap_alloc_new O (.cells #[.string ⟨#[]⟩,.slice none 0 0,.slice none 0 0,.int .i64 0,.string ⟨#[]⟩,.slice none 0 0,.int .i64 0,.int .i64 0,.int .i64 0,.bool false,.int .i64 0,.int .i64 0,.string ⟨#[]⟩,.int .i64 0,.string ⟨#[]⟩,.pointer none,.slice none 0 0] 235)) a0 a1 a2 a3 a4 a5 a6 a7 a8 a9 a10 a11 a12 a13 a14 a15 a16 o0 o1 o2 o3 o4 o5 o6 o7 o8 o9 W X Y Z b0 b1 b2;have k:Below O.heap.size O Q:=d _ _ (Nat.le_refl _) (ae O _);have i:Hid (nO Q R T name a2 a5 [a6,a7,a8,a9,a10,a11,a12,a13,a14,a15,a16] n6):=HTO.out.ag k;clear a d HTO j;simp only[r0,r1,r2,r3,r4,r5,r6,r7,r8,r9,l,m,n,o,p,q,r,Result.andThen];clear r0 r1 r2 r3 r4 r5 r6 r7 r8 r9 l m n o p q r
 go_wp2_with fail
 exact HK.out _ _ _ _ _ _ _ _ _ ⟨_,a0,a1,a2,a3,a4,a5,a6,a7,a8,a9,a10,a11,a12,a13,a14,a15,a16,n6,rfl,rfl,f.out,kT,i,h.trans (k.mono h.size)⟩
theorem RP(w:World)(fs:List mM)(ao:Option Addr)(an cap:Nat)(hv:fT w (.slice ao an cap) fs)(ts:List aJ)(C:Option Addr)(tl tc:Nat)(b7:jI w (.slice C tl tc) ts)(a name:Bs):
  Calls prog 35 #[.agg #[.slice ao an cap,.slice C tl tc],.string (aa a),.string (aa name)] w λe w'=>BG w (tK fs ts a name) e w':=by
 have y:=ae w (.cells #[.slice ao an cap,.slice C tl tc] 67);have HR:=CO _ fs ao an cap (hv.ag y) ts C tl tc (b7.ag y) a;clear hv b7;go_enter Tryz.func35,Tryz.ntmps35;go_upto_region 2 with(go_at_call 68;refine HR.mono ?_;rintro e w2 ⟨b3,FB,fo,fnn,fc,to',tn,tcc,n,fns,tt,rfl,hF,hT,HO⟩)
 clear HR;have B2:Below w.heap.size w w2:=y.trans (b3.mono y.size);have HF:Hid (iP w2 FB (.slice fo fnn fc) fns):=hF;clear b3 y hF;go_cut [9,10,11] (λs9 e9 g0 wx=>s9=.int .i64 n/\ND w2 FB tt name e9 g0 wx)
 case first=>
  refine TP w2 FB tt name fo fnn fc to' tn tcc hT _ _ _ _ _ _ _ _ _ _ _ _ _ _ _ _ _ _ _ _ _ _ _ _ _ _ _ _ _ _ _ _ _ _ _ _ _ ?_;intro h0 h2 h3 h4 v20 v21 h5 h6 wx hM;dsimp only
  go_wp2_with fail
  go_meet;exact⟨rfl,hM⟩
 case rest=>
 clear hT;obtain⟨rfl,gT,a0,a1,a2,a3,a4,a5,Q,R,S,a9,l,o,p,r,s,t,u,M,rfl,rfl,h,kT,k,B⟩:=hcut;have D:=h;obtain⟨o0,o1,o2,o3,o4,o5,o6,o7,o8,o9,e0,e3,e4,e5,e6,e7,e8⟩:rU a0 a1 a2 a3 a4 a5 Q R S a9 l o p r s t u:=h;obtain⟨us,b6,b5⟩:=k.out.eZ;have HG:=LP _ a0 a1 a2 a3 a4 a5 Q R S a9 l o p r s t u D us b6 a;have d:=MP HO.out k.out b5;obtain⟨g,hg⟩:∃g,g=fU (!aW us a) 7:=⟨_,rfl⟩;rw[<-hg]at HG d;have b:Hid _:=d;obtain⟨⟨c0,c1,c2,c3,c4,c5,c6,c7,c8,c9,T,U,V,X,Y,Z,b0⟩, -⟩:=uu kT;clear hg b6 b5 d D
 go_wp2_with(go_at_call 77;refine HG.mono ?_)
 clear HG;rintro e w6 ⟨rfl,hb6⟩;have z:=EM w6 n M g;have G:=ae w6 (.cells #[.int .i64 n,.int .i64 M,.int .i64 g] 68);have c:Below wc.heap.size wc (w6.alloc (.cells #[.int .i64 n,.int .i64 M,.int .i64 g] 68)):=hb6.trans (G.mono hb6.size);have K:Below w.heap.size w (w6.alloc (.cells #[.int .i64 n,.int .i64 M,.int .i64 g] 68)):=(B2.trans (B.mono B2.size)).trans (c.mono (B2.trans (B.mono B2.size)).size);have L:=(G.block gT (Nat.lt_of_lt_of_le (ai kT) hb6.size)).trans ((hb6.block _ (ai kT)).trans kT);obtain⟨m,hm⟩:∃m,m=aK [n,M,g]:=⟨_,rfl⟩;rw[<-hm]at z b;clear hm hb6 G kT c0 c1 c2 c3 c4 c5 c6 c7 c8 c9 T U V X Y Z b0;go_upto_region 4 with(go_at_call 66;refine z.mono ?_;rintro e w7 ⟨rfl,rfl⟩)
 rcases b.out with⟨hm,O⟩|⟨rfl,ho,i,N,hi,J,O⟩
 ·have g8:(m==0)=false:=by simpa using hm
  have E:Hid (tK fs ts a name=qC m):=O;clear O b HF k HO c L z hm
  go_wp2_with fail
  go_ret2;rw[E.out];exact⟨none,0,0,rfl,World.ownsRow_nil _ _ _ _,K⟩
 ·have E:Hid (tK fs ts a name=_):=O;obtain⟨h1,b8⟩:=Cj ho;have b1:=Pw h1;have I:=vT h1 N (List.mem_of_getElem? J);have F:=nO.ag k.out c;have A:=iP.ag (HF.out:iP w2 FB (.slice fo fnn fc) fns) (B.trans (c.mono B.size));obtain⟨W,hW⟩:∃W,W=w6.alloc (.cells #[.int .i64 n,.int .i64 M,.int .i64 g] 68):=⟨_,rfl⟩;rw[<-hW]at F A K L;have P:Calls prog 78 #[.agg #[a0,a1,a2,a3,a4,a5,Q,R,S,a9,l,o,p,r,s,t,u],.string (aa a)] W λe w'=>∃so sn sc,e=.returned (.slice so sn sc)/\w'.ownsRow W.heap.size 3 1 (.slice so sn sc) (aN (jQ fns a N.2) 0 N.1.rows).length (aL (aN (jQ fns a N.2) 0 N.1.rows))/\Below W.heap.size W w':=by
   rcases F with⟨g1,_⟩|⟨i',g9,sort,ty,size,quiet,vk,vn,vs,place,head,fp,oo,on,oc,g1,g2,_,g4,g5,g6,g7⟩
   ·rw[hi]at g1;cases g1
   rw[hi]at g1;cases g1;rw[J]at g2;cases g2;refine Jt W a0 a1 a2 a3 a4 a5 Q R S a9 l o p r s t u ⟨o0,o1,o2,o3,o4,o5,o6,o7,o8,o9,e0,e3,e4,e5,e6,e7,e8⟩ N.1.rows g4 (by have:=I.rows.1;omega) a _ λx row co cn cc hx b4 H=> ?_;obtain⟨v, -,hq, -⟩:=KC b1 I b8 b4;refine⟨v,PP hq, ?_⟩;have b2:Below W.heap.size W x:=(az W _ _).trans (hx.mono (by omega));have kW:=heap_alloc_new (W.alloc (.cells #[a0,a1,a2,a3,a4,a5,Q,R,S,a9,l,o,p,r,s,t,u] 235)) (.cells #[.string (aa a),.slice none 0 0] 221);rw[World.size_alloc]at kW;have kx:=(hx.block (W.heap.size+1) (by omega)).trans kW;have b9:=g7.ag b2;simp only[List.cons.injEq,and_true]at g6;obtain⟨rfl,rfl,rfl,rfl,rfl,rfl,rfl,rfl,rfl,rfl,rfl⟩:=g6;refine Al x FB (W.heap.size+1) row co cn cc hq ⟨⟨⟨none,0,0,kx⟩,A.choose_spec.choose_spec.2.1,λj q f e1 e2=>(A.choose_spec.choose_spec.2.2.2.2 j q f e1 e2).ag b2⟩,H,none,0,rfl,by simp,.inl rfl⟩ sort ty size quiet vk vn vs place head fp oo on oc b9
  rw[hW]at P;rw[hW]at L K;obtain⟨⟨c0,c1,c2,c3,c4,c5,c6,c7,c8,c9,T,U,V,X,Y,Z,b0⟩, -⟩:=uu L;have g3:=ai L;clear F A O b HF k HO c b1 I J hi ho z L
  go_wp2_with(go_at_call 78;refine P.mono ?_;rintro e w8 ⟨so,sn,sc,rfl,hown,hb8⟩)
  go_ret2;rw[E.out];exact⟨so,sn,sc,rfl,qP hown K.size,K.trans (hb8.mono K.size)⟩
end Go.Proofs.YtdifpeaklamhnaaGreatDoor
