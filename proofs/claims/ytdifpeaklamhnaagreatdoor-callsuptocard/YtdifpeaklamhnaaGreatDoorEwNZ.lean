import Derived.Test.YtdifpeaklamhnaaGreatDoorEwRZ
set_option linter.unusedVariables false
set_option linter.unusedSimpArgs false
set_option maxRecDepth 100000
set_option maxHeartbeats 0
namespace Go.Proofs.YtdifpeaklamhnaaGreatDoor
open Go.Proofs.Tryz
open Go.RowKit
open Below (kn refl)
theorem KO(w:World)(v:Value)(cs:List au)(h:aR w v cs)(d:bu cs=false)(l:cs.length<=1000)(g:jU cs=true):
  Calls prog 254 #[.string (aa xJ),v] w λe w'=>qE w (sO cs).1 (sO cs).2 e w':=by
 have b:=dP (w.alloc (aC 0 0 ⟨#[]⟩)) v cs (h.ah (ae w _));rw[d]at b;have c:=λ(x:World) (m:Below w.heap.size w x)=>QL x v cs (h.ah m) l g;obtain⟨t,cap,rfl,_,_⟩:=h;obtain⟨⟨u,k⟩,f⟩:∃r,r=sO cs:=⟨_,rfl⟩;simp only[<-f]at c ⊢;have j:aa xJ=⟨#[99,97,116]⟩:=rfl;rw[j];clear d f g;go_enter Tryz.func254,Tryz.ntmps254
 go_wp2_with(first
  |(go_at_call 299;refine b.mono ?_;rintro e w2 ⟨rfl,hb2⟩;obtain⟨a,n,l2⟩:=pW hb2)
  |(go_at_call 301;refine(c _ a).mono ?_;rintro e y ⟨rfl,hb3⟩;have i:=(hb3.block _ l2).trans n;obtain⟨⟨o,r1,r2⟩,p,q,s⟩:=aJ i;have l3:=af i))
 refine bodyPost_ret (v:=.tuple #[nE u,.int .i64 k]) (by simp[results,Tryz.results254,go_sem,o,r1,r2,nE]) rfl ⟨rfl, ?_⟩;exact aI (a.trans (hb3.mono a.size)) (Nat.le_refl _) _ _ _
theorem NC(w:World)(v:Value)(a c:au)(h:aR w v [a,c])(p:a.1≠0)(j:c.1≠0)(x:aP a.2.1=true)(rc:aP c.2.1=true)(d:Bs)(o:d= [43]\/d= [45]\/d= [42]\/d= [47]):
  Calls prog 254 #[.string (aa d),v] w λe w'=>qE w (jC d a.2.1 c.2.1).1 (jC d a.2.1 c.2.1).2 e w':=by
 have m:=dP (w.alloc (aC 0 0 ⟨#[]⟩)) v [a,c] (h.ah (ae w _));have q:bu [a,c]=false:=by simp[bu,p,j]
 rw[q]at m;obtain⟨b,B,cap,rfl,hb,n⟩:=wG h;have l:=NR d o a.2.1 c.2.1 x rc;obtain⟨G,y,H⟩:=a;obtain⟨I,cn,J⟩:=c;simp only at l n ⊢;obtain⟨⟨u,k⟩,s⟩:∃r,r=jC d y cn:=⟨_,rfl⟩;simp only[<-s]at l ⊢;clear q h s p j x rc;have g:aa d=⟨#[43]⟩\/aa d=⟨#[45]⟩\/aa d=⟨#[42]⟩\/aa d=⟨#[47]⟩:=by
  rcases o with rfl|rfl|rfl|rfl
  ·exact .inl rfl
  ·exact .inr (.inl rfl)
  ·exact .inr (.inr (.inl rfl))
  ·exact .inr (.inr (.inr rfl))
 clear o;rcases g with g|g|g|g<;>rw[g]at l ⊢ <;>clear g
 all_goals
  go_enter Tryz.func254,Tryz.ntmps254;go_upto_region 10 with(go_at_call 299;refine m.mono ?_;rintro e w2 ⟨rfl,hb2⟩;obtain⟨i,A,l2⟩:=pW hb2;obtain⟨⟨N,O,P⟩,K,L,M⟩:=n w2 i;have z:=Nat.lt_of_lt_of_le hb i.size)
  clear m n hb2;go_region_with(go_at_call 300;refine(l _).mono ?_;rintro e Q ⟨rfl,f⟩;replace f:=iA f;have t:=(f.block _ l2).trans A;obtain⟨⟨C,r1,r2⟩,D,E,F⟩:=aJ t;have l3:=af t);all_goals(go_wp2_with fail)
  all_goals
   refine bodyPost_ret (v:=.tuple #[nE u,.int .i64 k]) (by simp[results,Tryz.results254,go_sem,C,r1,r2,nE]) rfl ⟨rfl, ?_⟩
   first|exact aI (i.trans (f.mono i.size)) (Nat.le_refl _) _ _ _|exact(aI (i.trans (f.mono i.size)) (Nat.le_refl _) _ _ _).drew
theorem QB(w:World)(v:Value)(cs:List au)(h:aR w v cs)(q:cs.length<=1000)(d:Bs)(r:au)(k:Int)(b:qm d cs=some (r,k)):
  Calls prog 254 #[.string (aa d),v] w λe w'=>qE w r k e w':=by
 unfold qm at b;by_cases o:d=xJ
 ·subst o;rw[if_pos rfl]at b;split at b
  ·next s=>
   split at b
   ·next l=>cases b;exact oC w v cs h l xJ (by decide)
   ·next l=>
    have e:=Option.some.inj b;have:=KO w v cs h (by simpa using l) q s;rw[e]at this;exact this
  ·cases b
 rw[if_neg o]at b;split at b
 ·next c=>
  unfold SK at b;by_cases g:d=nK
  ·subst g;rw[if_pos rfl]at b;cases b;exact HY w v c h
  rw[if_neg g]at b;have l:c.1=0->bu [c]=true:=λe=>by simp[bu,e]
  by_cases i:d=LC
  ·subst i;rw[if_pos rfl]at b;cases b;by_cases f:c.1=0
   ·rw[if_pos f];exact oC w v [c] h (l f) LC g
   ·rw[if_neg f];exact KR w v c h f
  rw[if_neg i]at b;by_cases p:d=LB
  ·subst p;rw[if_pos rfl]at b;cases b;by_cases f:c.1=0
   ·rw[if_pos f];exact oC w v [c] h (l f) LB g
   ·rw[if_neg f];exact KQ w v c h f
  rw[if_neg p]at b;cases b
 ·next a c=>
  unfold Hz at b;by_cases g:EU d=true
  ·rw[if_pos g]at b;cases b;have m:d= [61]\/d= [60]\/d= [60,61]:=by
    simp only[EU,Bool.or_eq_true,beq_iff_eq]at g;rcases g with(h|h)|h<;>simp[h]
   have j:d≠nK:=by rcases m with rfl|rfl|rfl<;>decide
   by_cases f:a.1=0\/c.1=0
   ·rw[if_pos f];exact oC w v [a,c] h (yw f) d j
   ·rw[if_neg f];exact KP w v a c h (λe=>f (.inl e)) (λe=>f (.inr e)) d m
  rw[if_neg g]at b;by_cases i:LP d=true
  ·rw[if_pos i]at b;have m:d= [43]\/d= [45]\/d= [42]\/d= [47]:=by
    simp only[LP,Bool.or_eq_true,beq_iff_eq]at i;rcases i with((h|h)|h)|h<;>simp[h]
   have j:d≠nK:=by rcases m with rfl|rfl|rfl|rfl<;>decide
   split at b
   ·next n=>
    simp only[Bool.and_eq_true]at n;split at b
    ·next f=>cases b;exact oC w v [a,c] h (yw f) d j
    ·next f=>
     have:=NC w v a c h (λe=>f (.inl e)) (λe=>f (.inr e)) n.1 n.2 d m;rw[Option.some.inj b]at this;exact this
   ·cases b
  rw[if_neg i]at b;cases b
 ·cases b
abbrev Ni(x:World)(g o0 o1 o2 o3 o4 o5 o6 o7 o8 o9 o10:Nat)(sort ty size:Int)(quiet:Bool)(vk vn:Int)(vs:Bs)(place:Int)(head:Bs)(fp xo:Option Addr)(xn xc:Nat):Prop:=
 x.cell? ⟨g,o0,none⟩=some (.int .i64 sort)/\x.cell? ⟨g,o1,none⟩=some (.int .i64 ty)/\x.cell? ⟨g,o2,none⟩=some (.int .i64 size)/\x.cell? ⟨g,o3,none⟩=some (.bool quiet)/\x.cell? ⟨g,o4,none⟩=some (.int .i64 vk)/\x.cell? ⟨g,o5,none⟩=some (.int .i64 vn)/\x.cell? ⟨g,o6,none⟩=some (.string (aa vs))/\x.cell? ⟨g,o7,none⟩=some (.int .i64 place)/\x.cell? ⟨g,o8,none⟩=some (.string (aa head))/\x.cell? ⟨g,o9,none⟩=some (.pointer fp)/\x.cell? ⟨g,o10,none⟩=some (.slice xo xn xc)
theorem Ig(S:Bs)(w:World)(t:Nat)(e5:t<w.heap.size)(co:Option Addr)(cn cc:Nat)(V:Option Addr)(U T:Nat)(r:Rs)
  (p B m:Int) (h:Bool) (E H:Int) (K:Bs) (b:Int) (y:Option Addr) (g oc:Nat) {e4:Array Value} {fz:Nat × Nat} (X:w.heap[g]? =some (.cells e4 210 fz))
  {sort ty size:Int} {quiet:Bool} {vk vn:Int} {vs:Bs} {place:Int} {head:Bs} {fp xo:Option Addr} {xn xc:Nat} {n A l:Int} {f:Bool} {D G:Int} {J:Bs} {a:Int} {j:Bs} {u Q:Option Addr} {O M:Nat} {q C ql:Int} {i:Bool} {F I:Int} {L:Bs} {d:Int} {k:Bs} {z R:Option Addr} {P N:Nat}
  (A0:Ni w g 0 1 2 3 4 5 6 7 8 9 10 sort ty size quiet vk vn vs place head fp xo xn xc) (A1:Ni w g 11 12 13 14 15 16 17 18 19 20 21 n A l f D G J a j u Q O M) (A2:Ni w g 22 23 24 25 26 27 28 29 30 31 32 q C ql i F I L d k z R P N)
  (HC:∀x:World,Below w.heap.size w x->Calls prog 251 #[qI t co cn cc V U T,.agg (uq sort ty size quiet vk vn vs place head fp xo xn xc),.agg (uq n A l f D G J a j u Q O M),.agg (uq q C ql i F I L d k z R P N)] x λe w'=>Fin t S r x e w'):
  Calls prog 198 #[qI t co cn cc V U T,.agg #[.int .i64 p,.int .i64 B,.int .i64 m,.bool h,.int .i64 E,.int .i64 H,.string (aa K),.int .i64 b,.string ⟨#[105,102]⟩,.pointer y,.slice (some ⟨g,0,none⟩) 3 oc]] w λe w'=>Fin t S r w e w':=by
 have hg:=af X;have s:=dA w (Bh t co cn cc V U T) (.cells #[.int .i64 p,.int .i64 B,.int .i64 m,.bool h,.int .i64 E,.int .i64 H,.string (aa K),.int .i64 b,.string ⟨#[105,102]⟩,.pointer y,.slice (some ⟨g,0,none⟩) 3 oc] 210) (aC 0 0 ⟨#[]⟩);obtain⟨Z,k1,k2⟩:=NK w (Bh t co cn cc V U T) (.cells #[.int .i64 p,.int .i64 B,.int .i64 m,.bool h,.int .i64 E,.int .i64 H,.string (aa K),.int .i64 b,.string ⟨#[105,102]⟩,.pointer y,.slice (some ⟨g,0,none⟩) 3 oc] 210) (aC 0 0 ⟨#[]⟩);obtain⟨W,Y⟩:∃W,W=((w.alloc (Bh t co cn cc V U T)).alloc (.cells #[.int .i64 p,.int .i64 B,.int .i64 m,.bool h,.int .i64 E,.int .i64 H,.string (aa K),.int .i64 b,.string ⟨#[105,102]⟩,.pointer y,.slice (some ⟨g,0,none⟩) 3 oc] 210)).alloc (aC 0 0 ⟨#[]⟩):=⟨_,rfl⟩;have g1:W.heap.size=w.heap.size+3:=by rw[Y];simp[World.size_alloc]
 have e0:=HC W.drew (by rw[Y];exact s.drew);go_enter Tryz.func198,Tryz.ntmps198;go_upto_region 7 with fail
 rw[<-Y]at Z k1 k2 s ⊢;have HS:Hid (∀x:World,x.heap[w.heap.size]? =W.heap[w.heap.size]? ->x.heap[w.heap.size+1]? =W.heap[w.heap.size+1]? ->x.heap[g]? =W.heap[g]? ->x.cell? ⟨w.heap.size,0,none⟩=some (.pointer (some ⟨t,0,none⟩))/\x.cell? ⟨w.heap.size,1,none⟩=some (.slice co cn cc)/\x.cell? ⟨w.heap.size,2,none⟩=some (.slice V U T)/\x.cell? ⟨w.heap.size+1,10,none⟩=some (.slice (some ⟨g,0,none⟩) 3 oc)/\x.cell? ⟨g,0,none⟩=some (.int .i64 sort)/\x.cell? ⟨g,1,none⟩=some (.int .i64 ty)/\x.cell? ⟨g,2,none⟩=some (.int .i64 size)/\x.cell? ⟨g,3,none⟩=some (.bool quiet)/\x.cell? ⟨g,4,none⟩=some (.int .i64 vk)/\x.cell? ⟨g,5,none⟩=some (.int .i64 vn)/\x.cell? ⟨g,6,none⟩=some (.string (aa vs))/\x.cell? ⟨g,7,none⟩=some (.int .i64 place)/\x.cell? ⟨g,8,none⟩=some (.string (aa head))/\x.cell? ⟨g,9,none⟩=some (.pointer fp)/\x.cell? ⟨g,10,none⟩=some (.slice xo xn xc)/\x.cell? ⟨g,11,none⟩=some (.int .i64 n)/\x.cell? ⟨g,12,none⟩=some (.int .i64 A)/\x.cell? ⟨g,13,none⟩=some (.int .i64 l)/\x.cell? ⟨g,14,none⟩=some (.bool f)/\x.cell? ⟨g,15,none⟩=some (.int .i64 D)/\x.cell? ⟨g,16,none⟩=some (.int .i64 G)/\x.cell? ⟨g,17,none⟩=some (.string (aa J))/\x.cell? ⟨g,18,none⟩=some (.int .i64 a)/\x.cell? ⟨g,19,none⟩=some (.string (aa j))/\x.cell? ⟨g,20,none⟩=some (.pointer u)/\x.cell? ⟨g,21,none⟩=some (.slice Q O M)/\x.cell? ⟨g,22,none⟩=some (.int .i64 q)/\x.cell? ⟨g,23,none⟩=some (.int .i64 C)/\x.cell? ⟨g,24,none⟩=some (.int .i64 ql)/\x.cell? ⟨g,25,none⟩=some (.bool i)/\x.cell? ⟨g,26,none⟩=some (.int .i64 F)/\x.cell? ⟨g,27,none⟩=some (.int .i64 I)/\x.cell? ⟨g,28,none⟩=some (.string (aa L))/\x.cell? ⟨g,29,none⟩=some (.int .i64 d)/\x.cell? ⟨g,30,none⟩=some (.string (aa k))/\x.cell? ⟨g,31,none⟩=some (.pointer z)/\x.cell? ⟨g,32,none⟩=some (.slice R P N)):=by
  intro x e6 e7 e8;have c:∀o,x.cell? ⟨g,o,none⟩=w.cell? ⟨g,o,none⟩:=λo=>
   World.cell?_of_block (w:=w) (e8.trans (s.block g hg))
  have e9:=e6.trans Z;have g0:=e7.trans k1;obtain⟨z0,z1,z2⟩:=(aJ e9).1;obtain⟨a0,a1,a2,a3,a4,a5,a6,a7,a8,a9,e1⟩:=A0;obtain⟨b0,b1,b2,b3,b4,b5,b6,b7,b8,b9,e2⟩:=A1;obtain⟨c0,c1,c2,c3,c4,c5,c6,c7,c8,c9,e3⟩:=A2;simp only[c];exact⟨z0,z1,z2,(ag g0).trans rfl,a0,a1,a2,a3,a4,a5,a6,a7,a8,a9,e1,b0,b1,b2,b3,b4,b5,b6,b7,b8,b9,e2,c0,c1,c2,c3,c4,c5,c6,c7,c8,c9,e3⟩
 have kg:=(s.block g hg).trans X;clear Y HC A0 A1 A2;have g2:g<W.heap.size:=by omega
 go_region_held2 (λx=>x.cell? ⟨w.heap.size,0,none⟩=some (.pointer (some ⟨t,0,none⟩))/\x.cell? ⟨w.heap.size,1,none⟩=some (.slice co cn cc)/\x.cell? ⟨w.heap.size,2,none⟩=some (.slice V U T)/\x.cell? ⟨w.heap.size+1,10,none⟩=some (.slice (some ⟨g,0,none⟩) 3 oc)/\x.cell? ⟨g,0,none⟩=some (.int .i64 sort)/\x.cell? ⟨g,1,none⟩=some (.int .i64 ty)/\x.cell? ⟨g,2,none⟩=some (.int .i64 size)/\x.cell? ⟨g,3,none⟩=some (.bool quiet)/\x.cell? ⟨g,4,none⟩=some (.int .i64 vk)/\x.cell? ⟨g,5,none⟩=some (.int .i64 vn)/\x.cell? ⟨g,6,none⟩=some (.string (aa vs))/\x.cell? ⟨g,7,none⟩=some (.int .i64 place)/\x.cell? ⟨g,8,none⟩=some (.string (aa head))/\x.cell? ⟨g,9,none⟩=some (.pointer fp)/\x.cell? ⟨g,10,none⟩=some (.slice xo xn xc)/\x.cell? ⟨g,11,none⟩=some (.int .i64 n)/\x.cell? ⟨g,12,none⟩=some (.int .i64 A)/\x.cell? ⟨g,13,none⟩=some (.int .i64 l)/\x.cell? ⟨g,14,none⟩=some (.bool f)/\x.cell? ⟨g,15,none⟩=some (.int .i64 D)/\x.cell? ⟨g,16,none⟩=some (.int .i64 G)/\x.cell? ⟨g,17,none⟩=some (.string (aa J))/\x.cell? ⟨g,18,none⟩=some (.int .i64 a)/\x.cell? ⟨g,19,none⟩=some (.string (aa j))/\x.cell? ⟨g,20,none⟩=some (.pointer u)/\x.cell? ⟨g,21,none⟩=some (.slice Q O M)/\x.cell? ⟨g,22,none⟩=some (.int .i64 q)/\x.cell? ⟨g,23,none⟩=some (.int .i64 C)/\x.cell? ⟨g,24,none⟩=some (.int .i64 ql)/\x.cell? ⟨g,25,none⟩=some (.bool i)/\x.cell? ⟨g,26,none⟩=some (.int .i64 F)/\x.cell? ⟨g,27,none⟩=some (.int .i64 I)/\x.cell? ⟨g,28,none⟩=some (.string (aa L))/\x.cell? ⟨g,29,none⟩=some (.int .i64 d)/\x.cell? ⟨g,30,none⟩=some (.string (aa k))/\x.cell? ⟨g,31,none⟩=some (.pointer z)/\x.cell? ⟨g,32,none⟩=some (.slice R P N)) (first|exact HS.out _ rfl rfl rfl|exact HS.out _ K0 K1 Kg|exact HS.out _ ((bF _ _ _ _ _ _ (by omega)).trans K0) ((bF _ _ _ _ _ _ (by omega)).trans K1) ((bF _ _ _ _ _ _ (by omega)).trans Kg))
  (first
   |(go_at_call 251;refine e0.mono ?_;rintro e w3 ⟨rfl,hk3,kn3⟩;have K0:=(kn3.2 _ _ _ _ Z (by decide) (by decide)).trans Z.symm;have K1:=(kn3.2 _ _ _ _ k1 (by decide) (by decide)).trans k1.symm;have Kg:=(kn3.2 _ _ _ _ kg (by decide) (by decide)).trans kg.symm;obtain⟨k3,l3,⟨r0,r1,r2⟩,g3,g4,g5⟩:=kn3.box k2 (by decide) (by decide)))
 all_goals go_wp2_with fail
 all_goals
  refine bodyPost_ret (v:=.tuple #[.agg #[.int .i64 r.1.1,.int .i64 r.1.2.1,.string (aa r.1.2.2)],.int .i64 r.2.1]) (by simp[results,Tryz.results198,go_sem,r0,r1,r2]) rfl ?_;exact Fin.end rfl e5 hk3 (kn3.pre s.drew (by omega)) (by omega) k3 _ _ _
theorem nT{g:Nat}{w w2:World}{d e:Array Value}{f fb:Nat × Nat}(h:Kn g (((w.alloc (.cells d 312 f)).alloc (.cells e 210 fb)).alloc (aC 0 0 ⟨#[]⟩)) w2)(l:g<w.heap.size):Kn g w w2/\(w2.heap[w.heap.size]? =some (.cells d 312 f)/\w2.heap[w.heap.size+1]? =some (.cells e 210 fb)/\w2.heap[w.heap.size+2]? =some (aC 0 0 ⟨#[]⟩))/\w.heap.size<w2.heap.size/\w.heap.size+1<w2.heap.size/\w.heap.size+2<w2.heap.size:=by
 obtain⟨i,j,k⟩:=NK w (.cells d 312 f) (.cells e 210 fb) (aC 0 0 ⟨#[]⟩);have a:=h.2 _ _ _ _ i (by decide) (by decide);have b:=h.2 _ _ _ _ j (by decide) (by decide);have c:=h.2 _ _ _ _ k (by decide) (by decide);exact⟨h.pre (dA w _ _ _) (by omega),⟨a,b,c⟩,af a,af b,af c⟩
theorem xE.mY{a:TypeId}{b:Nat}{w x:World}(h:xE a b w.drew x):xE a b w x:=⟨⟨h.1.os,h.1.tape,h.1.output,h.1.size,h.1.block⟩,h.2⟩
theorem Bo{ns:List Bs}{cs:List au}{r:Rs}(h:zk ns cs=some r):∃c,cs= [c]/\QE c=true/\ns.length<=1000000/\r=(c,0,ns++ [fV c]):=by
 rcases cs with _|⟨c,_|⟨d,l⟩⟩
 ·cases h
 ·rw[zk]at h;split at h
  ·next hb=>simp only[Bool.and_eq_true,decide_eq_true_eq]at hb;exact⟨c,rfl,hb.1,hb.2,(Option.some.inj h).symm⟩
  ·cases h
 ·cases h
section
variable {sort ty size : Int} {quiet : Bool} {vk vn : Int} {vs : Bs} {place : Int} {fp oo : Option Addr} {on oc : Nat}
theorem Eo{a:Bs}{w:World}{b:Nat}(c:b<w.heap.size){co:Option Addr}{cn cc:Nat}{h:Option Addr}{g f:Nat}{r:Rs}
  (i:∀x:World,Below w.heap.size w x->Calls prog 249 #[qI b co cn cc h g f,.slice oo on oc] x λe w'=>Fin b a r x e w'):
  Calls prog 198 #[qI b co cn cc h g f,.agg #[.int .i64 sort,.int .i64 ty,.int .i64 size,.bool quiet,.int .i64 vk,.int .i64 vn,.string (aa vs),.int .i64 place,.string ⟨#[97,110,100]⟩,.pointer fp,.slice oo on oc]] w λe w'=>Fin b a r w e w':=by
 have d:=i _ (dA w (Bh b co cn cc h g f) (.cells #[.int .i64 sort,.int .i64 ty,.int .i64 size,.bool quiet,.int .i64 vk,.int .i64 vn,.string (aa vs),.int .i64 place,.string ⟨#[97,110,100]⟩,.pointer fp,.slice oo on oc] 210) (aC 0 0 ⟨#[]⟩));clear i;go_enter Tryz.func198,Tryz.ntmps198
 go_wp2_with(go_at_call 249;refine d.mono ?_;rintro e w2 ⟨rfl,hk2,kn2⟩;obtain⟨k,⟨_,_,j⟩,p,l1,l2⟩:=nT kn2 c;obtain⟨⟨l,r1,r2⟩,m,n,o⟩:=aJ j)
 refine bodyPost_ret (v:=.tuple #[.agg #[.int .i64 r.1.1,.int .i64 r.1.2.1,.string (aa r.1.2.2)],.int .i64 r.2.1]) (by simp[results,Tryz.results198,go_sem,l,r1,r2]) rfl ?_;exact Fin.end rfl c hk2 k (by omega) j _ _ _
theorem Ih{a:Bs}{w:World}{b:Nat}(c:b<w.heap.size){co:Option Addr}{cn cc:Nat}{h:Option Addr}{g f:Nat}{r:Rs}
  (i:∀x:World,Below w.heap.size w x->Calls prog 250 #[qI b co cn cc h g f,.slice oo on oc] x λe w'=>Fin b a r x e w'):
  Calls prog 198 #[qI b co cn cc h g f,.agg #[.int .i64 sort,.int .i64 ty,.int .i64 size,.bool quiet,.int .i64 vk,.int .i64 vn,.string (aa vs),.int .i64 place,.string ⟨#[111,114]⟩,.pointer fp,.slice oo on oc]] w λe w'=>Fin b a r w e w':=by
 have d:=i _ (dA w (Bh b co cn cc h g f) (.cells #[.int .i64 sort,.int .i64 ty,.int .i64 size,.bool quiet,.int .i64 vk,.int .i64 vn,.string (aa vs),.int .i64 place,.string ⟨#[111,114]⟩,.pointer fp,.slice oo on oc] 210) (aC 0 0 ⟨#[]⟩));clear i;go_enter Tryz.func198,Tryz.ntmps198
 go_wp2_with(go_at_call 250;refine d.mono ?_;rintro e w2 ⟨rfl,hk2,kn2⟩;obtain⟨k,⟨_,_,j⟩,p,l1,l2⟩:=nT kn2 c;obtain⟨⟨l,r1,r2⟩,m,n,o⟩:=aJ j)
 refine bodyPost_ret (v:=.tuple #[.agg #[.int .i64 r.1.1,.int .i64 r.1.2.1,.string (aa r.1.2.2)],.int .i64 r.2.1]) (by simp[results,Tryz.results198,go_sem,l,r1,r2]) rfl ?_;exact Fin.end rfl c hk2 k (by omega) j _ _ _
def JG(wb:Nat)(user:Bs)(cs:List au)(k:Int)(n1:List Bs)(w:World)(e:Ending)(w':World):Prop:=∃ro rn rc,e=.returned (.tuple #[.slice ro rn rc,.int .i64 k])/\(k=0->dU w' (.slice ro rn rc) cs)/\Wk w' wb user n1/\Kn wb w w'
theorem Er{b:Bs}{w:World}{g:Nat}(a:g<w.heap.size){co:Option Addr}{cn cc:Nat}{t:Option Addr}{s q:Nat}{r:Rs}{cs:List au}{k:Int}{l:List Bs}{head:Bs}(m:head≠hAnd)(H:head≠hOr)(I:head≠yQ)(J:head≠oL)
  (D:∀x:World,Below w.heap.size w x->Calls prog 252 #[qI g co cn cc t s q,.slice oo on oc] x λe w'=>JG g b cs k l x e w')
  (c:k=0->cs.length<=1000) (u:k≠0->r=(bO,k,l)) (j:k=0->∃v f,qm head cs=some (v,f)/\r=(v,f,l)):
  Calls prog 198 #[qI g co cn cc t s q,.agg (uq sort ty size quiet vk vn vs place head fp oo on oc)] w λe w'=>Fin g b r w e w':=by
 have i:=D _ (dA w (Bh g co cn cc t s q) (Li sort ty size quiet vk vn vs place head fp oo on oc) (aC 0 0 ⟨#[]⟩));have t1:((aa head).toList== [97,110,100])=false:=by rw[aj];exact beq_eq_false_iff_ne.mpr m
 have t2:((aa head).toList== [111,114])=false:=by rw[aj];exact beq_eq_false_iff_ne.mpr H
 have t3:((aa head).toList== [105,102])=false:=by rw[aj];exact beq_eq_false_iff_ne.mpr I
 have t4:((aa head).toList== [110,111,116,101])=false:=by rw[aj];exact beq_eq_false_iff_ne.mpr J
 clear D m H I J;by_cases d:k=0
 ·subst d;obtain⟨v,f,j,E⟩:=j rfl;have p:Hid (r=(v,f,l)):=E;have K:=λ(x:World) (y:Value) (h:aR x y cs)=>QB x y cs h (c rfl) head v f j;clear u E j c;go_enter Tryz.func198,Tryz.ntmps198
  go_wp2_with(first
   |(go_at_call 252;refine i.mono ?_;rintro e w2 ⟨ro,rn,rc,rfl,hcs,hk2,kn2⟩;obtain⟨n,⟨_,F,o⟩,M,l1,l2⟩:=nT kn2 a;obtain⟨⟨P,Q,R,S,T,U,V,W,X,Y,N⟩,_⟩:=aX F)
   |(go_at_call 254;refine(K w2 _ (hcs (by trivial)).1).mono ?_;rintro e O ⟨rfl,hb3⟩;have G:=(hb3.block _ l2).trans o;obtain⟨⟨z,r1,r2⟩,A,B,C⟩:=aJ G;have l3:=Nat.lt_of_lt_of_le l2 hb3.size))
  refine bodyPost_ret (v:=.tuple #[.agg #[.int .i64 v.1,.int .i64 v.2.1,.string (aa v.2.2)],.int .i64 f]) (by simp[results,Tryz.results198,go_sem,z,r1,r2]) rfl ?_;rw[p.out];exact Fin.end rfl a (hk2.ah hb3) (n.trans (kn hb3 (by have:=n.size;omega))) (by omega) G _ _ _
 ·have L:(k==0)=false:=by simpa using d
  have p:Hid (r=(bO,k,l)):=u d;clear u j c;go_enter Tryz.func198,Tryz.ntmps198
  go_wp2_with(go_at_call 252;refine i.mono ?_;rintro e w2 ⟨ro,rn,rc,rfl, -,hk2,kn2⟩;obtain⟨n,⟨_,F,o⟩,M,l1,l2⟩:=nT kn2 a;obtain⟨⟨z,r1,r2⟩,A,B,C⟩:=aJ o)
  refine bodyPost_ret (v:=.tuple #[.agg #[.int .i64 0,.int .i64 0,.string ⟨#[]⟩],.int .i64 k]) (by simp[results,Tryz.results198,go_sem,z,r1,r2]) rfl ?_;rw[p.out];exact Fin.end rfl a hk2 n (by omega) o _ _ _
theorem Ct{d:Bs}{w:World}{f:Nat}(a:f<w.heap.size)(t:∀x,Below f w x->sJ x){co:Option Addr}{cn cc:Nat}{q:Option Addr}{p o:Nat}{r:Rs}{cs:List au}{k:Int}{j:List Bs}
  (E:∀x:World,Below w.heap.size w x->Calls prog 252 #[qI f co cn cc q p o,.slice oo on oc] x λe w'=>JG f d cs k j x e w')
  (y:k≠0->r=(bO,k,j)) (u:k=0->zk j cs=some r):
  Calls prog 198 #[qI f co cn cc q p o,.agg #[.int .i64 sort,.int .i64 ty,.int .i64 size,.bool quiet,.int .i64 vk,.int .i64 vn,.string (aa vs),.int .i64 place,.string ⟨#[110,111,116,101]⟩,.pointer fp,.slice oo on oc]] w λe w'=>Fin f d r w e w':=by
 have g:=E _ (dA w (Bh f co cn cc q p o) (.cells #[.int .i64 sort,.int .i64 ty,.int .i64 size,.bool quiet,.int .i64 vk,.int .i64 vn,.string (aa vs),.int .i64 place,.string ⟨#[110,111,116,101]⟩,.pointer fp,.slice oo on oc] 210) (aC 0 0 ⟨#[]⟩));clear E;by_cases h:k=0
 ·subst h;obtain⟨c,rfl,hb,N,G⟩:=Bo (u rfl);have n:Hid (r=(c,0,j++ [fV c])):=G;clear y u G;go_enter Tryz.func198,Tryz.ntmps198;go_upto_region 12 with(go_at_call 252;refine g.mono ?_;rintro e w2 ⟨ro,rn,rc,rfl,hcs,hk2,kn2⟩;obtain⟨l,⟨O,H,m⟩,Q,l1,l2⟩:=nT kn2 a;obtain⟨⟨X,Y,Z,y3,y4,y5,y6,y7,y8,y9,W⟩,_⟩:=aX H)
  obtain⟨b,R,cap,z,L,i⟩:=nH (hcs (by trivial)).1
  cases z;obtain⟨S,T,U⟩:=i w2 (refl _ _);obtain⟨⟨f0,f1,f2⟩,_⟩:=aJ O;have F:=Ug (w:=w2.drew) (hk2.ah (refl _ w2).drew) (t _ l.1.drew) c hb N;obtain⟨J,s,K⟩:=c;simp only at S T U F ⊢;clear g hcs i t hb;go_region_with(go_at_call 253;refine F.mono ?_;rintro e V ⟨rfl,hk3,kn3⟩;have I:Kn f w V:=l.trans kn3.mY;obtain⟨P,l3,⟨A,r1,r2⟩,B,C,D⟩:=kn3.mY.box m (by decide) (by decide));all_goals(go_wp2_with fail)
  all_goals
   refine bodyPost_ret (v:=.tuple #[.agg #[.int .i64 J,.int .i64 s,.string (aa K)],.int .i64 0]) (by simp[results,Tryz.results198,go_sem,A,r1,r2]) rfl ?_;rw[n.out];exact Fin.end rfl a hk3 I (by omega) P _ _ _
 ·have M:(k==0)=false:=by simpa using h
  have n:Hid (r=(bO,k,j)):=y h;clear y u t;go_enter Tryz.func198,Tryz.ntmps198
  go_wp2_with(go_at_call 252;refine g.mono ?_;rintro e w2 ⟨ro,rn,rc,rfl, -,hk2,kn2⟩;obtain⟨l,⟨_,H,m⟩,Q,l1,l2⟩:=nT kn2 a;obtain⟨⟨A,r1,r2⟩,B,C,D⟩:=aJ m)
  refine bodyPost_ret (v:=.tuple #[.agg #[.int .i64 0,.int .i64 0,.string ⟨#[]⟩],.int .i64 k]) (by simp[results,Tryz.results198,go_sem,A,r1,r2]) rfl ?_;rw[n.out];exact Fin.end rfl a hk2 l (by omega) m _ _ _
end
theorem Jz(w:World)(b:Nat)(a:Bs)(h:w.cell? ⟨b,0,none⟩=some (.string (aa a)))(c:b<w.heap.size)(co:Option Addr)(cn cc:Nat)(g:Option Addr)(f d:Nat)(ty size:Int)(quiet:Bool)(vk vn:Int)(vs:Bs)(place:Int)(head:Bs)(fp oo:Option Addr)(on oc:Nat):
  Calls prog 126 #[qI b co cn cc g f d,.agg (uq 1 ty size quiet vk vn vs place head fp oo on oc)] w λe w'=>qE w (2,0,a) 0 e w':=by
 have i:=((dA w (Bh b co cn cc g f d) (Li 1 ty size quiet vk vn vs place head fp oo on oc) (aC 0 0 ⟨#[]⟩)).cell (p:=⟨b,0,none⟩) c).trans h;go_enter Tryz.func126,Tryz.ntmps126
 go_wp2_with(go_at_call 197;refine(Bb _ _).mono ?_;rintro e w2 ⟨rfl,rfl⟩)
 refine bodyPost_ret (v:=.tuple #[.agg #[.int .i64 2,.int .i64 0,.string (aa a)],.int .i64 0]) (by simp[results,Tryz.results126,go_sem]) rfl ⟨rfl, ?_⟩;exact(dA w _ _ _).alloc (by simp only[World.size_alloc];omega) _
theorem Hg(w:World)(j:Nat)(co:Option Addr)(cn cc:Nat)(c:Option Addr)(b a:Nat)(sort ty size:Int)(d:sort≠1)(f:sort≠2)(g:sort≠3)(h:sort≠4)(i:sort≠5)(quiet:Bool)(vk vn:Int)(vs:Bs)(place:Int)(head:Bs)(fp oo:Option Addr)(on oc:Nat):
  Calls prog 126 #[qI j co cn cc c b a,.agg (uq sort ty size quiet vk vn vs place head fp oo on oc)] w λe w'=>qE w (vk,vn,vs) 0 e w':=by
 have m1:(sort==1)=false:=by simpa using d
 have m2:(sort==2)=false:=by simpa using f
 have m3:(sort==3)=false:=by simpa using g
 have k:(sort==4)=false:=by simpa using h
 have l:(sort==5)=false:=by simpa using i
 go_enter Tryz.func126,Tryz.ntmps126
 go_wp2_with fail
 refine bodyPost_ret (v:=.tuple #[.agg #[.int .i64 vk,.int .i64 vn,.string (aa vs)],.int .i64 0]) (by simp[results,Tryz.results126,go_sem]) rfl ⟨rfl, ?_⟩;exact dA w _ _ _
theorem Ng(w:World)(l:Nat)(co:Option Addr)(cn cc:Nat)(b a j:Nat)(args:List au)(hb:b<w.heap.size)(p:Nat)(c:au)(k:args[p]? =some c)(g:w.cell? ⟨b,a+p*3,none⟩=some (.int .i64 c.1))(h:w.cell? ⟨b,a+p*3+1,none⟩=some (.int .i64 c.2.1))(i:w.cell? ⟨b,a+p*3+2,none⟩=some (.string (aa c.2.2)))(ty size:Int)(quiet:Bool)(vk vn:Int)(vs:Bs)(head:Bs)(fp oo:Option Addr)(on oc:Nat):
  Calls prog 126 #[qI l co cn cc (some ⟨b,a,none⟩) args.length j,.agg (uq 3 ty size quiet vk vn vs p head fp oo on oc)] w λe w'=>qE w c 0 e w':=by
 have o:p<args.length:=(List.getElem?_eq_some_iff.mp k).1;obtain⟨m,f,n⟩:=c;simp only at g h i ⊢;have d:=dA w (Bh l co cn cc (some ⟨b,a,none⟩) args.length j) (Li 3 ty size quiet vk vn vs p head fp oo on oc) (aC 0 0 ⟨#[]⟩);replace g:=(d.cell (p:=⟨b,a+p*3,none⟩) hb).trans g;replace h:=(d.cell (p:=⟨b,a+p*3+1,none⟩) hb).trans h;replace i:=(d.cell (p:=⟨b,a+p*3+2,none⟩) hb).trans i;clear k d;go_enter Tryz.func126,Tryz.ntmps126
 go_wp2_with fail
 refine bodyPost_ret (v:=.tuple #[.agg #[.int .i64 m,.int .i64 f,.string (aa n)],.int .i64 0]) (by simp[results,Tryz.results126,go_sem]) rfl ⟨rfl, ?_⟩;exact dA w _ _ _
theorem Nf(w:World)(n:Nat)(l:Option Addr)(k j:Nat)(b a cc:Nat)(ay:List au)(hb:b<w.heap.size)(p:Nat)(c:au)(m:ay[p]? =some c)(g:w.cell? ⟨b,a+p*3,none⟩=some (.int .i64 c.1))(h:w.cell? ⟨b,a+p*3+1,none⟩=some (.int .i64 c.2.1))(i:w.cell? ⟨b,a+p*3+2,none⟩=some (.string (aa c.2.2)))(ty size:Int)(quiet:Bool)(vk vn:Int)(vs:Bs)(head:Bs)(fp oo:Option Addr)(on oc:Nat):
  Calls prog 126 #[qI n (some ⟨b,a,none⟩) ay.length cc l k j,.agg (uq 2 ty size quiet vk vn vs p head fp oo on oc)] w λe w'=>qE w c 0 e w':=by
 have r:p<ay.length:=(List.getElem?_eq_some_iff.mp m).1;obtain⟨o,f,q⟩:=c;simp only at g h i ⊢;have d:=dA w (Bh n (some ⟨b,a,none⟩) ay.length cc l k j) (Li 2 ty size quiet vk vn vs p head fp oo on oc) (aC 0 0 ⟨#[]⟩);replace g:=(d.cell (p:=⟨b,a+p*3,none⟩) hb).trans g;replace h:=(d.cell (p:=⟨b,a+p*3+1,none⟩) hb).trans h;replace i:=(d.cell (p:=⟨b,a+p*3+2,none⟩) hb).trans i;clear m d;go_enter Tryz.func126,Tryz.ntmps126
 go_wp2_with fail
 refine bodyPost_ret (v:=.tuple #[.agg #[.int .i64 o,.int .i64 f,.string (aa q)],.int .i64 0]) (by simp[results,Tryz.results126,go_sem]) rfl ⟨rfl, ?_⟩;exact dA w _ _ _
theorem qE.fin{c:Nat}{a:Bs}{v:au}{k:Int}{ns:List Bs}{w:World}{e:Ending}{w':World}(h:qE w v k e w')(b:Wk w c a ns):Fin c a (v,k,ns) w e w':=
 ⟨h.1,b.ah h.2,kn h.2 (Nat.le_of_lt b.lt)⟩
section
variable {ty size : Int} {quiet : Bool} {vk vn : Int} {vs : Bs} {place : Int} {head : Bs} {fp oo : Option Addr} {on oc : Nat}
theorem He{a:Bs}{r:Rs}{w:World}{b:Nat}(c:b<w.heap.size){co:Option Addr}{cn cc:Nat}{h:Option Addr}{g f:Nat}
  (i:∀x:World,Below w.heap.size w x->Calls prog 198 #[qI b co cn cc h g f,.agg (uq 4 ty size quiet vk vn vs place head fp oo on oc)] x λe w'=>Fin b a r x e w'):
  Calls prog 126 #[qI b co cn cc h g f,.agg (uq 4 ty size quiet vk vn vs place head fp oo on oc)] w λe w'=>Fin b a r w e w':=by
 have d:=i _ (dA w (Bh b co cn cc h g f) (Li 4 ty size quiet vk vn vs place head fp oo on oc) (aC 0 0 ⟨#[]⟩));clear i;go_enter Tryz.func126,Tryz.ntmps126
 go_wp2_with(go_at_call 198;refine d.mono ?_;rintro e w2 ⟨rfl,hk2,kn2⟩;obtain⟨k,⟨_,_,j⟩,p,l1,l2⟩:=nT kn2 c;obtain⟨⟨l,r1,r2⟩,m,n,o⟩:=aJ j)
 refine bodyPost_ret (v:=.tuple #[.agg #[.int .i64 r.1.1,.int .i64 r.1.2.1,.string (aa r.1.2.2)],.int .i64 r.2.1]) (by simp[results,Tryz.results126,go_sem,l,r1,r2]) rfl ?_;exact Fin.end rfl c hk2 k (by omega) j _ _ _
theorem Hf{a:Bs}{r:Rs}{w:World}{b:Nat}(c:b<w.heap.size){co:Option Addr}{cn cc:Nat}{h:Option Addr}{g f:Nat}
  (i:∀x:World,Below w.heap.size w x->Calls prog 199 #[qI b co cn cc h g f,.agg (uq 5 ty size quiet vk vn vs place head fp oo on oc)] x λe w'=>Fin b a r x e w'):
  Calls prog 126 #[qI b co cn cc h g f,.agg (uq 5 ty size quiet vk vn vs place head fp oo on oc)] w λe w'=>Fin b a r w e w':=by
 have d:=i _ (dA w (Bh b co cn cc h g f) (Li 5 ty size quiet vk vn vs place head fp oo on oc) (aC 0 0 ⟨#[]⟩));clear i;go_enter Tryz.func126,Tryz.ntmps126
 go_wp2_with(go_at_call 199;refine d.mono ?_;rintro e w2 ⟨rfl,hk2,kn2⟩;obtain⟨k,⟨_,_,j⟩,p,l1,l2⟩:=nT kn2 c;obtain⟨⟨l,r1,r2⟩,m,n,o⟩:=aJ j)
 refine bodyPost_ret (v:=.tuple #[.agg #[.int .i64 r.1.1,.int .i64 r.1.2.1,.string (aa r.1.2.2)],.int .i64 r.2.1]) (by simp[results,Tryz.results126,go_sem,l,r1,r2]) rfl ?_;exact Fin.end rfl c hk2 k (by omega) j _ _ _
theorem TI{a:Bs}{r:Rs}{cs:List au}{k:Int}{n1:List Bs}{w:World}{b:Nat}(c:b<w.heap.size){co:Option Addr}{cn cc:Nat}{m:Option Addr}{l j:Nat}{sort:Int}{fb:Nat}
  (t:∀x:World,Below w.heap.size w x->Calls prog 252 #[qI b co cn cc m l j,.slice oo on oc] x λe w'=>JG b a cs k n1 x e w') (n:k≠0->r=(bO,k,n1))
  (g:k=0->∀(x:World) (ro:Option Addr) (rn rc:Nat),Kn b w x->Wk x b a n1->dU x (.slice ro rn rc) cs->Calls prog 70 #[.pointer (some ⟨b,0,none⟩),.pointer (some ⟨fb,0,none⟩),.slice ro rn rc] x λe w'=>Fin b a r x e w'):
  Calls prog 199 #[qI b co cn cc m l j,.agg (uq sort ty size quiet vk vn vs place head (some ⟨fb,0,none⟩) oo on oc)] w λe w'=>Fin b a r w e w':=by
 have f:=t _ (dA w (Bh b co cn cc m l j) (Li sort ty size quiet vk vn vs place head (some ⟨fb,0,none⟩) oo on oc) (aC 0 0 ⟨#[]⟩));clear t;by_cases d:k=0
 ·subst d;replace g:=g rfl;clear n;go_enter Tryz.func199,Tryz.ntmps199
  go_wp2_with(first
   |(go_at_call 252;refine f.mono ?_;rintro e w2 ⟨ro,rn,rc,rfl,hcs,hk2,kn2⟩;obtain⟨h,⟨A,u,i⟩,C,l1,l2⟩:=nT kn2 c;obtain⟨⟨F,G,H,I,J,K,L,M,N,O,D⟩,_⟩:=aX u;obtain⟨⟨f0,f1,f2⟩,_⟩:=aJ A)
   |(go_at_call 70;refine(g _ _ _ _ h hk2 (hcs (by trivial))).mono ?_;rintro e E ⟨rfl,hk3,kn3⟩;obtain⟨B,l3,⟨o,r1,r2⟩,p,q,s⟩:=kn3.box i (by decide) (by decide)))
  refine bodyPost_ret (v:=.tuple #[.agg #[.int .i64 r.1.1,.int .i64 r.1.2.1,.string (aa r.1.2.2)],.int .i64 r.2.1]) (by simp[results,Tryz.results199,go_sem,o,r1,r2]) rfl ?_;exact Fin.end rfl c hk3 (h.trans kn3) (by omega) B _ _ _
 ·have z:(k==0)=false:=by simpa using d
  have y:Hid (r=(bO,k,n1)):=n d;clear n g;go_enter Tryz.func199,Tryz.ntmps199
  go_wp2_with(go_at_call 252;refine f.mono ?_;rintro e w2 ⟨ro,rn,rc,rfl, -,hk2,kn2⟩;obtain⟨h,⟨_,u,i⟩,C,l1,l2⟩:=nT kn2 c;obtain⟨⟨o,r1,r2⟩,p,q,s⟩:=aJ i)
  refine bodyPost_ret (v:=.tuple #[.agg #[.int .i64 0,.int .i64 0,.string ⟨#[]⟩],.int .i64 k]) (by simp[results,Tryz.results199,go_sem,o,r1,r2]) rfl ?_;rw[y.out];exact Fin.end rfl c hk2 h (by omega) i _ _ _
end
theorem kD.body{w:World}{b:List Nat}{fb:Nat}{fn:Fn}(h:kD w b fb fn):fb<w.heap.size/\∃sort ty size quiet vk vn vs place head fp oo on oc,dG w b (λ_=>True) [.int .i64 sort,.int .i64 ty,.int .i64 size,.bool quiet,.int .i64 vk,.int .i64 vn,.string (aa vs),.int .i64 place,.string (aa head),.pointer fp,.slice oo on oc] fn.body/\
  ∀x:World,x.heap[fb]? =w.heap[fb]? ->Ni x fb 2 3 4 5 6 7 8 9 10 11 12 sort ty size quiet vk vn vs place head fp oo on oc:=by
 obtain⟨g,c,d,_,_,e⟩:=h;obtain⟨sort,ty,size,quiet,vk,vn,vs,place,head,i,f,fp,oo,on,oc,cs,j,rfl, -, -, -, -, -⟩:=e.inv;refine⟨af d,sort,ty,size,quiet,vk,vn,vs,place,head,fp,oo,on,oc,e,λx a=> ?_⟩;have hb:=a.trans d;exact⟨(ag hb).trans rfl,(ag hb).trans rfl,(ag hb).trans rfl,(ag hb).trans rfl,(ag hb).trans rfl,(ag hb).trans rfl,(ag hb).trans rfl,(ag hb).trans rfl,(ag hb).trans rfl,(ag hb).trans rfl,(ag hb).trans rfl⟩
theorem uS{b:Bs}{r:Rs}{w:World}{f:Nat}(i:f<w.heap.size){j:List Nat}{fb:Nat}{fn:Fn}(o:kD w j fb fn){n:Option Addr}{m l:Nat}
  (k:∀(x:World) (c:Array Value),Below w.heap.size w x->dG x j (λ_=>True) c.toList fn.body->Calls prog 126 #[qI f none 0 0 n m l,.agg c] x λe w'=>Fin f b r x e w'):
  Calls prog 70 #[.pointer (some ⟨f,0,none⟩),.pointer (some ⟨fb,0,none⟩),.slice n m l] w λe w'=>Fin f b r w e w':=by
 obtain⟨h,sort,ty,size,quiet,vk,vn,vs,place,head,fp,oo,on,oc,p,d⟩:=o.body;have a:=ae w (aC 0 0 ⟨#[]⟩);have q:=heap_alloc_new w (aC 0 0 ⟨#[]⟩);have g:=k _ (uq sort ty size quiet vk vn vs place head fp oo on oc) a (p.ah a);obtain⟨B,C,D,E,F,G,H,I,J,K,A⟩:=d _ (a.block fb h);clear k p d o;go_enter Tryz.func70,Tryz.ntmps70
 go_wp2_with(go_at_call 126;refine g.mono ?_;rintro e w2 ⟨rfl,hk2,kn2⟩;obtain⟨s,l3,⟨t,r1,r2⟩,u,y,z⟩:=kn2.box q (by decide) (by decide))
 refine bodyPost_ret (v:=.tuple #[.agg #[.int .i64 r.1.1,.int .i64 r.1.2.1,.string (aa r.1.2.2)],.int .i64 r.2.1]) (by simp[results,Tryz.results70,go_sem,t,r1,r2]) rfl ?_;exact Fin.end rfl i hk2 (kn2.pre a (by omega)) (Nat.le_refl _) s _ _ _
theorem Iw(j:Nat){w:World}{b:List Nat}{oo:Option Addr}{on oc:Nat}{a:List Ex}(h:jJ w b (.slice oo on oc) a)(f:j<a.length):∃g sort ty size quiet vk vn vs place head fp xo xn xc,oo=some ⟨g,0,none⟩/\g<w.heap.size/\
  dG w b (λ_=>True) [.int .i64 sort,.int .i64 ty,.int .i64 size,.bool quiet,.int .i64 vk,.int .i64 vn,.string (aa vs),.int .i64 place,.string (aa head),.pointer fp,.slice xo xn xc] a[j]/\
  Ni w g (j*11) (j*11+1) (j*11+2) (j*11+3) (j*11+4) (j*11+5) (j*11+6) (j*11+7) (j*11+8) (j*11+9) (j*11+10) sort ty size quiet vk vn vs place head fp xo xn xc:=by
 obtain⟨g,sort,ty,size,quiet,vk,vn,vs,place,head,fp,xo,xn,xc,e,d,i,c⟩:=yL h j f;exact⟨g,sort,ty,size,quiet,vk,vn,vs,place,head,fp,xo,xn,xc,e,d,i,c w λ_ _=>rfl⟩
theorem wX{w:World}{f:Option Addr}{d i:Nat}{args:List au}(h:aR w (.slice f d i) args){p:Int}{v:au}(c:qO args p=some v):∃(b a k:Nat),f=some ⟨b,a,none⟩/\d=args.length/\b<w.heap.size/\p=(k:Int)/\args[k]? =some v/\w.cell? ⟨b,a+k*3,none⟩=some (.int .i64 v.1)/\w.cell? ⟨b,a+k*3+1,none⟩=some (.int .i64 v.2.1)/\w.cell? ⟨b,a+k*3+2,none⟩=some (.string (aa v.2.2)):=by
 obtain⟨j,g,e,r,l⟩:=h
 cases e;unfold qO at c;split at c
 ·next q=>
  rcases l with h|⟨b,a,rfl,hb,hc⟩
  ·subst h;simp at c
  ·obtain⟨m,n,o⟩:=hc p.toNat v c;exact⟨b,a,p.toNat,rfl,rfl,hb,by omega,c,m,n,o⟩
 ·cases c
theorem dG.ops{w:World}{e:List Nat}{S:Nat->Prop}{c:List Value}{sort ty size:Int}{quiet:Bool}{vk vn:Int}{vs:Bs}{place:Int}{head:Bs}{j:Option Nat}{i:List Ex}(h:dG w e S c (.mk sort ty size quiet vk vn vs place head j i)):∃fp oo on oc,c= [.int .i64 sort,.int .i64 ty,.int .i64 size,.bool quiet,.int .i64 vk,.int .i64 vn,.string (aa vs),.int .i64 place,.string (aa head),.pointer fp,.slice oo on oc]/\jJ w e (.slice oo on oc) i/\yj e j fp:=by
 cases h with
 |mk a b d f=>
  rcases b.2 with⟨rfl,l⟩|⟨g,cap,k,rfl,m⟩
  ·exact⟨_,_,_,_,rfl,⟨_,_,_,by rw[l],b,a.move (λ_ _=>rfl) λ_ _=>trivial⟩,f⟩
  ·exact⟨_,_,_,_,rfl,⟨_,_,_,rfl,b,a.move (λ_ _=>rfl) λ_ _=>trivial⟩,f⟩
theorem Ll{w:World}{d:List Nat}{g on oc:Nat}{f:List Ex}(h:jJ w d (.slice (some ⟨g,0,none⟩) on oc) f):∃a i,w.heap[g]? =some (.cells a 210 i):=by
 obtain⟨cs,k,cap,e,b,_⟩:=h;rcases b.2 with⟨h,_⟩|⟨l,c,a,h,_,j,_⟩
 ·cases h
 ·cases h;exact⟨_,_,j⟩
theorem Hd{f:Ev} :∀ {b:List Ex} {ns:List Bs} {cs:List au} {k:Int} {n:List Bs},fE f b ns=some (cs,k,n)->k=0->cs.length=b.length
 | [],ns,cs,k,n,h,_=>by rw[fE]at h;cases h;rfl
 |e::b,ns,cs,k,n,h,hk=>by
  rw[fE]at h;split at h
  ·cases h
  ·split at h
   ·next a=>cases h;exact absurd hk a
   ·split at h
    ·cases h
    ·next c g i d=>
     split at h
     ·next a=>cases h;exact absurd hk a
     ·next a=>cases h;rw[List.length_cons,List.length_cons,Hd d (by omega)]
theorem Lb(fns:List Fn)(d:Bs)(N:Nat)(z:KM fns d N)(w:World)(q:List Nat)(j:Nat)(ay args:List au)(co:Option Addr)(cn cc:Nat)(n:Option Addr)(m l:Nat)
  (hF:Qs w q fns j (.slice co cn cc) (.slice n m l) ay args) (ns:List Bs) (C:Wk w j d ns) {sort ty size:Int} {quiet:Bool} {vk vn:Int} {vs:Bs} {place:Int} {head:Bs} {fp oo:Option Addr} {on oc:Nat} (s:List Ex) (t:jJ w q (.slice oo on oc) s) (E:s.length<=1000) (r:Rs) (f:lD (nz fns d N ay args) head s ns=some r):
  Calls prog 198 #[qI j co cn cc n m l,.agg (uq sort ty size quiet vk vn vs place head fp oo on oc)] w λe w'=>Fin j d r w e w':=by
 have o:=C.lt;have A:∀ {x:World},Below w.heap.size w x->Kn j w x:=λh=>kn h (by omega);by_cases Y:head=hAnd
 ·subst Y;rw[lD,if_pos rfl]at f;exact Eo o λx i=>UG fns d N z x q j ay args co cn cc n m l (hF.dJ (A i)) ns (C.ah i) oo on oc s (t.ah i) E r f
 by_cases Z:head=hOr
 ·subst Z;rw[lD,if_neg (by decide),if_pos rfl]at f;exact Ih o λx i=>VJ fns d N z x q j ay args co cn cc n m l (hF.dJ (A i)) ns (C.ah i) oo on oc s (t.ah i) E r f
 by_cases n3:head=yQ
 ·subst n3;rw[lD,if_neg (by decide),if_neg (by decide),if_pos rfl]at f;have h3:∃a b c,s= [a,b,c]:=by
   match s,f with
   | [a,b,c],_=>exact⟨a,b,c,rfl⟩
  obtain⟨a,b,c,rfl⟩:=h3;obtain⟨g,a2,b2,a0,I,b5,b8,c1,F,P,a6,e0,c7,c4,rfl,hg,V,L⟩:=Iw 0 t (by simp);obtain⟨g1,a3,b3,a1,J,b6,b9,c2,G,Q,a7,e3,c8,c5,e1,a9,W,M⟩:=Iw 1 t (by simp);obtain⟨g2,a4,b4,ql,K,b7,c0,c3,H,R,a8,e4,c9,c6,e2,b0,X,O⟩:=Iw 2 t (by simp)
  cases e1
  cases e2;have T:on=3:=by obtain⟨_,_,_,e,_⟩:=t;cases e;rfl
  subst T;obtain⟨a5,fz,S⟩:=Ll t;rw[TS]at f;split at f
  ·cases f
  next v k m1 hu=>
  refine Ig d w j o co cn cc n m l r sort ty size quiet vk vn vs place fp g oc S L M O λx i=> ?_;have b1:=i.size;refine NU d x j (by omega) co cn cc n m l v k m1 r (λh=> ?_) (λy D=> ?_) (λh0 U y D u=> ?_) (λh0 U y D u=> ?_)
  ·rw[if_pos h]at f;exact(Option.some.inj f).symm
  ·have p:=i.trans (D.mono i.size);exact z a (v,k,m1) y q j ay args co cn cc n m l _ ns hu (hF.dJ (A p)) (C.ah p) (V.ah p)
  ·have p:=(A i).trans D;rw[if_neg (by omega),if_pos U]at f;exact z b r y q j ay args co cn cc n m l _ m1 f (hF.dJ p) u (W.dJ p)
  ·have p:=(A i).trans D;rw[if_neg (by omega),if_neg U]at f;exact z c r y q j ay args co cn cc n m l _ m1 f (hF.dJ p) u (X.dJ p)
 rw[lD,if_neg Y,if_neg Z,if_neg n3]at f;split at f
 ·cases f
 next cs k m1 B=>
 have HW:∀x:World,Below w.heap.size w x->Calls prog 252 #[qI j co cn cc n m l,.slice oo on oc] x λe w'=>JG j d cs k m1 x e w':=λx i=>
  Hl fns d N z x q j ay args co cn cc n m l (hF.dJ (A i)) ns (C.ah i) oo on oc s (t.ah i) E cs k m1 B
 have hf:k≠0->r=(bO,k,m1):=λh=>by rw[if_pos h]at f;exact(Option.some.inj f).symm
 by_cases n4:head=oL
 ·subst n4;exact Ct o hF.Uy HW hf λh=>by rw[if_neg (by omega),if_pos rfl]at f;exact f
 ·refine Er o Y Z n3 n4 HW (λh=>by rw[Hd B h];exact E) hf λh=> ?_;rw[if_neg (by omega),if_neg n4]at f;split at f
  ·cases f
  next v k2 ha=>exact⟨v,k2,ha,(Option.some.inj f).symm⟩
theorem Vv(fns:List Fn)(g:Bs):∀N,KM fns g N
 |0=>λe v w D l ay args co cn cc B A n c ns d=>by cases d
 |N+1=>by
  have F:=Vv fns g N;intro e r w D l ay args co cn cc B A n c ns d hF m hx;obtain⟨sort,ty,size,quiet,vk,vn,vs,place,head,fi,G⟩:=e;obtain⟨fp,oo,on,oc,hc,hE,O⟩:=hx.ops;have H:c=uq sort ty size quiet vk vn vs place head fp oo on oc:=by rw[<-Array.toList_inj];exact hc
  subst H;have s:=m.lt;have V:∀ {x:World},Below w.heap.size w x->Kn l w x:=λh=>kn h (by omega);unfold nz at d;by_cases hl:1000<G.length
  ·rw[if_pos hl]at d;cases d
  rw[if_neg hl]at d;by_cases s1:sort=1
  ·subst s1;rw[if_pos rfl]at d;cases d;have Q:=m;obtain⟨no,nn,nc,hb,_⟩:=m;exact(Jz w l g ((ag hb).trans rfl) s co cn cc B A n ty size quiet vk vn vs place head fp oo on oc).mono λe w' h=>h.fin Q
  rw[if_neg s1]at d;have pl:∀ {o:Option au},qP o ns=some r->∃v,o=some v/\r=(v,0,ns):=fun {o} h=>by
   cases o with
   |none=>cases h
   |some v=>exact⟨v,rfl,(Option.some.inj h).symm⟩
  by_cases s2:sort=2
  ·subst s2;rw[if_pos rfl]at d;obtain⟨v,R,rfl⟩:=pl d;obtain⟨b,t,j,rfl,rfl,hb,rfl,P,W,X,Y⟩:=wX hF.ay.1 R;exact(Nf w l B A n b t cc ay hb j v P W X Y ty size quiet vk vn vs head fp oo on oc).mono λe w' h=>h.fin m
  rw[if_neg s2]at d;by_cases s3:sort=3
  ·subst s3;rw[if_pos rfl]at d;obtain⟨v,R,rfl⟩:=pl d;obtain⟨b,t,j,rfl,rfl,hb,rfl,P,W,X,Y⟩:=wX hF.args.1 R;exact(Ng w l co cn cc b t n args hb j v P W X Y ty size quiet vk vn vs head fp oo on oc).mono λe w' h=>h.fin m
  rw[if_neg s3]at d;by_cases Z:sort=4
  ·subst Z;rw[if_pos rfl]at d;exact He s λx f=>Lb fns g N F x D l ay args co cn cc B A n (hF.dJ (V f)) ns (m.ah f) G (hE.ah f) (by omega) r d
  rw[if_neg Z]at d;by_cases s5:sort=5
  ·subst s5;rw[if_pos rfl]at d
   cases fi with
   |none=>cases d
   |some i=>
    rw[Eu]at d;split at d
    ·cases d
    next fn M=>
    split at d
    ·cases d
    next cs k m1 I=>
    obtain⟨fb,L,rfl⟩:∃b,D[i]? =some b/\fp=some ⟨b,0,none⟩:=O;have K:=hF.fn i fb fn L M;refine Hf s λx f=> ?_;have a0:=f.size;refine TI (cs:=cs) (k:=k) (n1:=m1) (by omega) (λy T=> ?_) (λh=> ?_) (λh y ro rn rc T p J=> ?_)
    ·have C:=f.trans (T.mono f.size);exact Hl fns g N F y D l ay args co cn cc B A n (hF.dJ (V C)) ns (m.ah C) oo on oc G (hE.ah C) (by omega) cs k m1 I
    ·rw[if_pos h]at d;exact(Option.some.inj d).symm
    ·have C:=(V f).trans T;rw[if_neg (by omega)]at d;refine uS p.lt (K.dJ C) λz c' U S=> ?_;have E:=C.trans (kn U (Nat.le_of_lt p.lt));exact F fn.body r z D l [] cs none 0 0 ro rn rc c' m1 d ⟨hF.fb,λi q fn a b=>(hF.fn i q fn a b).dJ E,λu hu=>hF.Uy u (E.1.trans hu),⟨⟨none,0,rfl,by simp,.inl rfl⟩,λ_ _ _ e _ _ eb=>by cases e;cases eb⟩,J.ah U⟩ (p.ah U) S
  rw[if_neg s5]at d;cases d;exact(Hg w l co cn cc B A n sort ty size s1 s2 s3 Z s5 quiet vk vn vs place head fp oo on oc).mono λe w' h=>h.fin m
end Go.Proofs.YtdifpeaklamhnaaGreatDoor
