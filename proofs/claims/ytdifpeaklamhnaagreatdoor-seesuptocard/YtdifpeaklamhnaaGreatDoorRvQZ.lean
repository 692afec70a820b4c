import Derived.Test.YtdifpeaklamhnaaGreatDoorRvNZ
import Derived.Test.YtdifpeaklamhnaaGreatDoorTaG
set_option linter.unusedVariables false
set_option linter.unusedSimpArgs false
set_option maxRecDepth 100000
set_option maxHeartbeats 0
namespace Go.Proofs.YtdifpeaklamhnaaGreatDoor
open Go.Proofs.Tryz
open Go.RowKit
open Bool (and_eq_true eq_false_iff)
open List (getElem?_eq_getElem mem_append_left)
variable {qt : Bool}
theorem IB{b:List RF}(c:∀r∈b,bM r.fn.name=false){h:Bs}(hb:bM h=true):bB (RF.list b) h=none:=by
 unfold bB;rw[List.findIdx?_eq_none_iff];intro fn a;rw[RF.list,List.mem_map]at a;obtain⟨r,d,rfl⟩:=a;rw[beq_eq_false_iff_ne];intro e;have:=c r d;rw[e,hb]at this
 cases this
theorem MZ{n:List RF}{h:Bs}(H:qt=true->fK h=false)(O:∀r∈n,bM r.fn.name=false){g:List Int}{cs:List aj}{u:List Bs}{r:Rs}(hb:bM h=true)(D:h≠hAnd)(E:h≠hOr)(F:h≠xH)(m:bL h g≠0)(l:BB g cs)(P:cs.length<=1000)(i:(if h=nz then AX u cs else match qB h cs with|none=>none|some (v,C)=>some (v,C,u))=some r)(S:Nat)(K:Value)(o:Bs)(I R:Value)(x:World):Sv qt n cs u r S K o I R x h:=by
 refine .inr ⟨IB O hb, ?_⟩;by_cases p:h=nz
 ·subst p;rw[if_pos rfl]at i;obtain⟨c,rfl,z,Q,B⟩:=Ms i;refine .inr (.inl ⟨rfl, ?_,c,rfl,z, ?_,Q,B⟩)
  ·cases qt with
   |false=>rfl
   |true=>exact absurd (H rfl) (by decide)
  cases g with
  |nil=>exact absurd l id
  |cons t g=>exact l.1.bd.2.2
 rw[if_neg p]at i;split at i
 ·cases i
 next v C d=>
 have B:r=(v,C,u):=(Option.some.inj i).symm;subst B;by_cases q:h=oH
 ·subst q;refine .inl ⟨rfl, ?_⟩;have e:bL oH g=FL g:=rfl;rw[e]at m;obtain⟨t,rfl⟩:∃t,g= [t]:=by
   unfold FL at m;split at m
   ·exact⟨_,rfl⟩
   ·exact absurd rfl m
  obtain⟨c,rfl,N⟩:=CE l;have J:qB oH [c]=some (aV (c.1==0),0):=rfl;rw[J]at d
  cases d;simp[bF]
 ·refine .inr (.inr ⟨q,p, ?_⟩)
  cases s:bF cs with
  |false=>exact .inr ⟨rfl,λy w A M=>FZ H D E F p q m l s P d A M⟩
  |true=>
   refine .inl ⟨rfl, ?_⟩
   suffices hs:qB h cs=some (dm,0)by
    rw[hs]at d;cases d;rfl
   unfold qB at d ⊢;by_cases G:h=Ck
   ·rw[if_pos G,if_pos (om l),if_pos s]
   ·rw[if_neg G]at d ⊢;split at d
    ·next c=>
     have f:c.1=0:=by simpa[bF]using s
     unfold QH at d ⊢;rw[if_neg q]at d ⊢;by_cases j:h=zV
     ·rw[if_pos j,if_pos f]
     ·rw[if_neg j]at d ⊢;by_cases k:h=zU
      ·rw[if_pos k,if_pos f]
      ·rw[if_neg k]at d;cases d
    ·next a b=>
     have f:a.1=0\/b.1=0:=by simpa[bF]using s
     unfold Ed at d ⊢;by_cases j:IQ h=true
     ·rw[if_pos j,if_pos f]
     ·rw[if_neg j]at d ⊢;by_cases k:IM h=true
      ·rw[if_pos k]at d ⊢;split at d
       ·next L=>rw[if_pos L,if_pos f]
       ·cases d
      ·rw[if_neg k]at d;cases d
    ·cases d
theorem Oc{b:Bs}(h:iV b=true):0<b.length/\b.getD 0 0≠39:=by
 unfold iV at h;simp only[and_eq_true]at h;have d:=h.1.2;unfold aU at d;simp only[and_eq_true,decide_eq_true_eq]at d;obtain⟨⟨⟨f, -⟩,a⟩, -⟩:=d;rcases b with _|⟨c,l⟩
 ·simp at f
 ·refine⟨by simp,λe=> ?_⟩;have e:c=39:=e;subst e;have:List.takeWhile (λx=>x != 46) (39::l)=39::l.takeWhile (λx=>x != 46):=by simp
  rw[this]at a;have a:eB 39=true:=a;exact absurd a (by decide)
theorem CV(w:World)(M:Nat)(fv:Value)(N:Bs)(cv lv:Value)(ns:List Bs)(S:RW w M fv N cv lv ns 0)(av:Value)(d:Bs)(hl:d.length<=maxLen)(h1:dK d=false)(h0:0<d.length)(A:d.getD 0 0≠39)(hu:d≠sH)(ht:d≠sG)(hf:d≠nW)(hp:iJ d<0)
  (a:List Bs) (f:List aj) (hn:eD w cv a) (hc:aO w lv f) (a0:a.length<=100) (i:Nat) (v:aj) (hi:a.findIdx? (λx=>x==d)=some i) (Y:f[i]? =some v):
  Calls prog 128 #[.pointer (some ⟨M,0,none⟩),.string (aa d),av] w λe w'=>e=.returned (iy v)/\Below w.heap.size w w':=by
 have R:∀x:World,Calls prog 180 #[.string (aa d)] x λe w'=>e=.returned (.tuple #[.int .i64 (mU d),.bool (dK d)])/\w'=x:=by
  intro x;have:=eO (aa d) x (by rw[aF];exact hl);rw[au]at this;exact this
 have HP:∀x:World,Calls prog 183 #[.string (aa d)] x λe w'=>e=.returned (.int .i64 (iJ d))/\w'=x:=by
  intro x;have:=dG (aa d) x;rw[au]at this;exact this
 rw[h1]at R;have m:=ae w (aI 0 0 ⟨#[]⟩);obtain⟨nv,G⟩:∃n,n=mU d:=⟨_,rfl⟩;obtain⟨pv,I⟩:∃n,n=iJ d:=⟨_,rfl⟩;rw[<-G]at R;rw[<-I]at HP hp;have a6:=S.lt;obtain⟨W,hx,F⟩:=List.findIdx?_eq_some_iff_getElem.mp hi;obtain⟨co,cc,rfl, -,L⟩:=hn;obtain⟨b,j,rfl,hb,E⟩:∃b j,co=some ⟨b,j,none⟩/\b<w.heap.size/\∀(i:Nat) (l:Bs),a[i]? =some l->w.cell? ⟨b,j+i,none⟩=some (.string (aa l)):=by
  rcases L with h|h
  ·subst h;simp at W
  ·exact h
 obtain⟨lo,lc,rfl,T,K⟩:=hc;have Z:i<f.length:=(List.getElem?_eq_some_iff.mp Y).1;obtain⟨g,O,rfl,V,C⟩:∃b j,lo=some ⟨b,j,none⟩/\b<w.heap.size/\∀(i:Nat) (c:aj),f[i]? =some c->w.cell? ⟨b,j+i*3,none⟩=some (.int .i64 c.1)/\w.cell? ⟨b,j+i*3+1,none⟩=some (.int .i64 c.2.1)/\w.cell? ⟨b,j+i*3+2,none⟩=some (.string (aa c.2.2)):=by
  rcases K with h|h
  ·subst h;simp at Z
  ·exact h
 obtain⟨c0,c1,c2⟩:=C i v Y;have B:=S.ag m;obtain⟨u,r⟩:∃x,x=w.alloc (aI 0 0 ⟨#[]⟩):=⟨_,rfl⟩;have k0:=heap_alloc_new w (aI 0 0 ⟨#[]⟩);rw[<-r]at m B k0;have HB:Hid _:=m;obtain⟨no,nn,nc,o, -⟩:=B;have p2:u.cell? ⟨M,2,none⟩=some (.slice (some ⟨b,j,none⟩) a.length cc):=(af o).trans rfl;have p3:u.cell? ⟨M,3,none⟩=some (.slice (some ⟨g,O,none⟩) f.length lc):=(af o).trans rfl;have q0:=(m.cell (p:=⟨g,O+i*3,none⟩) V).trans c0;have q1:=(m.cell (p:=⟨g,O+i*3+1,none⟩) V).trans c1;have q2:=(m.cell (p:=⟨g,O+i*3+2,none⟩) V).trans c2;have s:∀(k:Nat) (l:Bs),a[k]? =some l->u.cell? ⟨b,j+k,none⟩=some (.string (aa l)):=λk l h=>(m.cell (p:=⟨b,j+k,none⟩) hb).trans (E k l h);have a7:u.heap.size=w.heap.size+1:=by rw[r];exact World.size_alloc _ _
 have HW:∀Q:World->Prop,Q u->Q (w.alloc (aI 0 0 ⟨#[]⟩)):=by intro Q h;rw[<-r];exact h
 have a8:(aa d).size=d.length:=aF d;have H:0<(aa d).size:=by omega
 have U:(aa d)[0]'H=d.getD 0 0:=vX d H;obtain⟨c,D⟩:∃c,c=d.getD 0 0:=⟨_,rfl⟩;rw[<-D]at U A;have a3:((c.toNat:Int)==39)=false:=by
  rw[beq_eq_false_iff_ne];exact λe=>A (UInt8.toNat_inj.mp (by show c.toNat=39;omega))
 clear D;have t1:((aa d).toList== [117,115,101,114])=false:=by rw[au];exact beq_eq_false_iff_ne.mpr hu
 have t2:((aa d).toList== [116,114,117,101])=false:=by rw[au];exact beq_eq_false_iff_ne.mpr ht
 have t3:((aa d).toList== [102,97,108,115,101])=false:=by rw[au];exact beq_eq_false_iff_ne.mpr hf
 have J:a[i]=d:=by simpa using hx
 have t:∀(k:Nat) (h:k<i),a[k]'(by omega)≠d:=λk h e=>by have:=F k h;simp[e]at this
 obtain⟨vk,vn,vs⟩:=v;simp only at q0 q1 q2 ⊢;have z:Hid _:=t;have y:Hid _:=s;have HX:Hid _:=J;clear S o hi hx F E C c0 c1 c2 L K r G I t s J Y m T;go_enter Tryz.func128,Tryz.ntmps128
 go_wp2_with(first
  |(go_at_call 180;refine(R _).mono ?_;rintro e w2 ⟨rfl,rfl⟩)
  |(go_at_call 183;refine(HP _).mono ?_;rintro e w2 ⟨rfl,rfl⟩))
 go_loopw [10] (λiv wr=>∃k:Nat,k<=i/\iv=.int .i64 k/\wr=u) (λiv _=>i+1- (intOf iv).toNat)
 case atStart=>exact⟨0,Nat.zero_le _,rfl,HW (λx=>x=u) rfl⟩
 case round=>
  obtain⟨k,hk,rfl,rfl⟩:=hrel;clear HW;have a4:M<wr.heap.size:=by omega
  have a1:b<wr.heap.size:=by omega
  have a2:g<wr.heap.size:=by omega
  have X:k<a.length:=by omega
  have qk:=y.out k a[k] (getElem?_eq_getElem X);have ho:(aa a[k]).toList=a[k]:=au _;have a5:(aa d).toList=d:=au _;by_cases he:k=i
  ·subst he;have P:(a[k]==d)=true:=by rw[HX.out];simp
   obtain⟨nm,q⟩:∃x,x=a[k]:=⟨_,rfl⟩;rw[<-q]at qk ho P;obtain⟨⟨r0,r1,r2⟩,a9,b0,b1⟩:=aQ k0;clear z y HX q
   go_wp2_with fail
   refine bodyPost_ret (v:=.agg #[.int .i64 vk,.int .i64 vn,.string (aa vs)]) (by simp[results,Tryz.results128,go_sem,r0,r1,r2]) rfl ⟨rfl, ?_⟩;exact aH HB.out (Nat.le_refl _) _ _ _
  ·have P:(a[k]==d)=false:=by rw[beq_eq_false_iff_ne];exact z.out k (by omega)
   obtain⟨nm,q⟩:∃x,x=a[k]:=⟨_,rfl⟩;rw[<-q]at qk ho P;clear q
   go_wp2_with fail
   go_roundw
   case rel=>exact⟨k+1,by omega,by go_num,by trivial⟩
   case measure=>simp[intOf];omega
theorem CX{qt:Bool}{w0:World}{g cap n i:Nat}{l:List Tr}{t:Tr}{p:Option Addr}{q:Nat}{ty:Int}{is:List Nat}(s:Qs w0 g i t p q ty is l)(I:i<n){x:World}{c:Nat}{m:Value}{a:Bs}{k o:Value}{ns:List Bs}(j:RW x c m a k o ns 0)(r:Below w0.heap.size w0 x){E:Option Addr}{D C:Nat}(u:t.br=false)(v:aj)
  (A:∀y,Below x.heap.size x y->RW y c m a k o ns 0->Calls prog 128 #[.pointer (some ⟨c,0,none⟩),.string (aa t.tx),.slice E D C] y λe w'=>e=.returned (iy v)/\Below y.heap.size y w'):
  RV c g n cap i E D C x λe w'=>gU qt c m a k o (v,0,ns) x e w':=by
 obtain⟨J,K,L,X⟩:=s.at' _ (r.trans ((az x (rA g n cap) (aI 0 0 ⟨#[]⟩)).mono r.size));have Q:g<x.heap.size:=Nat.lt_of_lt_of_le s.lt r.size;have w:=j.lt;have b:=dA x (rA g n cap) (aI 0 0 ⟨#[]⟩) (Cy t.tx false p t.ops.length q ty);have F:=oZ (qt:=qt) (rb:=c) (x:=x) (by omega) g n cap t.tx false p t.ops.length q ty;have B:=A _ b (j.ag b);obtain⟨f5,H⟩:=(j.ag b).cells;rw[u]at K;obtain⟨Y,h⟩:∃z,z=t.tx:=⟨_,rfl⟩;obtain⟨W,f⟩:∃z,z=t.ops.length:=⟨_,rfl⟩;rw[<-h,<-f]at f5 H b B F;rw[<-h]at J;rw[<-f]at L;have G:Hid (RW x c m a k o ns 0):=j;clear h f s j A;go_enter Tryz.func75,Tryz.ntmps75
 go_wp2_with(go_at_call 128;refine B.mono ?_;rintro e w2 ⟨rfl,hb3⟩;have d:=F.ag (Below.kr hb3 (by simp only[World.size_alloc];omega));obtain⟨⟨R,l1,l2⟩,a0,⟨S,T,U,V⟩,⟨M,r1,r2⟩,N,O,P⟩:=d.cells)
 refine bodyPost_ret (v:=.agg #[.int .i64 v.1,.int .i64 v.2.1,.string (aa v.2.2)]) (by simp[results,Tryz.results75,go_sem,M,r1,r2]) rfl ?_;exact gU.end rfl w (RW.ag (RW.ag G.out b) hb3) d.kr (by omega) d.b1 _ _ _
def Ny(tx:Bs):Prop:=dK tx=false/\0<tx.length/\tx.getD 0 0≠39/\tx≠sH/\tx≠sG/\tx≠nW/\iJ tx<0/\tx.length<=25
theorem QP{c:Bs}(h:iV c=true):c.length<=25:=by
 unfold iV at h;simp only[and_eq_true]at h;obtain⟨⟨_,a⟩,b⟩:=h;unfold aU at a b;simp only[and_eq_true,decide_eq_true_eq]at a b;have e:=congrArg List.length (List.takeWhile_append_dropWhile (p:=(· != 46)) (l:=c));rw[List.length_append]at e;have:=a.1.1.2;have:=b.1.1.2;rw[List.length_drop]at this;omega
theorem OQ{cn:List (Bs × Int)}{q:List aj}{K:List Int}{fns s:List Fn}{t:Tr}{e:Ex}(Q:mQ t)(hb:t.br=false)(h:bg bA (cn,K) fns t=.ok e){l:Bs}{args:List aj}{N:Nat}{ns:List Bs}{r:Rs}(g:pg s l (N+1) q args e ns=some r):(∃v,Nc l args t.tx=some v/\r=(v,0,ns)/\t.tx.length<=32)\/∃(v:aj) (i:Nat),Ny t.tx/\(cn.map Prod.fst).findIdx? (λx=>x==t.tx)=some i/\q[i]? =some v/\r=(v,0,ns):=by
 obtain⟨k,b,O,W⟩:=t;obtain⟨X,B,U⟩:=Q hb;have C:O=false:=hb;have D:k=aT b:=U;subst C D;have d:gm b=true:=B;show(∃v,Nc l args b=some v/\r=(v,0,ns)/\b.length<=32)\/∃(v:aj) (i:Nat),Ny b/\(cn.map Prod.fst).findIdx? (λx=>x==b)=some i/\q[i]? =some v/\r=(v,0,ns);have z:(b== [40])=false:=by
  rw[eq_false_iff];intro e;rw[beq_iff_eq]at e;subst e;exact absurd d (by decide)
 have A:(b== [41])=false:=by
  rw[eq_false_iff];intro e;rw[beq_iff_eq]at e;subst e;exact absurd d (by decide)
 have J:jD b=false:=by
  rw[eq_false_iff];intro e;rw[(vN e).1]at d;cases d
 rw[bg,if_neg Bool.false_ne_true]at h;have f:aT b=if dK b then 3 else if cB b then 4 else if iC b then 7 else if aU b then 5 else if iV b then 6 else 0:=by
  unfold aT;rw[z,A,J];rfl
 unfold Nc
 cases n:dK b with
 |true=>
  have E:aT b=3:=by rw[f,n];rfl
  rw[E,if_neg (by decide),if_neg (by decide)]at h
  cases h;have j:r=((1,bA b,[]),0,ns):=by simpa[cK,dI,pg]using g.symm
  exact .inl ⟨_,rfl,by rw[j,(Ky n).1],by have:=(FK n).1;omega⟩
 |false=>
  rw[n,if_neg Bool.false_ne_true]at f;rw[if_neg Bool.false_ne_true]
  cases u:cB b with
  |true=>
   have F:aT b=4:=by rw[f,u];rfl
   rw[F,if_neg (by decide),if_neg (by decide)]at h
   cases h;have j:r=((2,0,(b.drop 1).take (b.length- 1- 1)),0,ns):=by simpa[cK,dI,pg]using g.symm
   have M:=u;simp only[cB,and_eq_true,decide_eq_true_eq]at M;exact .inl ⟨_,by rw[if_pos rfl],j,M.1.1.1.2⟩
  |false=>
   rw[u,if_neg Bool.false_ne_true]at f;rw[if_neg Bool.false_ne_true]
   cases o:iC b with
   |true=>
    have I:aT b=7:=by rw[f,o];rfl
    rw[I,if_neg (by decide),if_pos rfl]at h;obtain⟨c,rfl,R,S⟩:=uM o;unfold uN at h;split at h
    ·cases h
    next ty V=>
    cases h;have y:iJ [36,c]=((c.toNat- 49:Nat):Int):=by
     rw[iJ,o,if_pos rfl];show((c.toNat:Int)- 49)=_;omega
    rw[if_neg (by simp[sH]),if_neg (by simp[sG]),if_neg (by simp[nW]),if_pos (by rw[y];omega),y];have a:lD (jO args ((c.toNat- 49:Nat):Int)) ns=some r:=by
     simpa[qd,pg]using g
    rw[jO,if_pos (by omega),Int.toNat_natCast]at a
    cases p:args[c.toNat- 49]? with
    |none=>rw[p]at a;cases a
    |some v=>rw[p]at a;exact .inl ⟨v,by rw[Int.toNat_natCast];exact p,(Option.some.inj a).symm,by simp⟩
   |false=>
    rw[o,if_neg Bool.false_ne_true]at f
    cases w:aU b with
    |true=>
     have G:aT b=5:=by rw[f,w];rfl
     have j:iX b=true:=by
      have L:=(kI w).2.2.2.2.1;rw[gm,n,u,o,L]at d;simpa using d
     rw[G,if_neg (by decide),if_neg (by decide)]at h
     cases h;unfold iX at j;simp only[Bool.or_eq_true,beq_iff_eq]at j;rcases j with(rfl|rfl)|rfl
     ·exact .inl ⟨aV true,by rw[if_neg (by decide),if_pos (by decide)],by simpa[cK,dI,pg,aV]using g.symm,by decide⟩
     ·exact .inl ⟨aV false,by rw[if_neg (by decide),if_neg (by decide),if_pos (by decide)],by simpa[cK,dI,pg,aV]using g.symm,by decide⟩
     ·exact .inl ⟨(2,0,l),by rw[if_pos (by decide)],by simpa[cK,mK,pg]using g.symm,by decide⟩
    |false=>
     have j:iX b=false:=by
      rw[eq_false_iff];intro e;rw[uW e]at w;cases w
     have m:iV b=true:=by
      rw[gm,n,u,o,j]at d;simpa using d
     have H:aT b=6:=by rw[f,w,m];rfl
     rw[H,if_pos rfl]at h;unfold qH at h;split at h
     ·cases h
     next i T=>
     split at h
     ·cases h
     next c L=>
     cases h;have a:lD (jO q (i:Int)) ns=some r:=by simpa[oC,pg]using g
     rw[jO,if_pos (by omega),Int.toNat_natCast]at a
     cases p:q[i]? with
     |none=>rw[p]at a;cases a
     |some v=>
      rw[p]at a;refine .inr ⟨v,i, ?_, ?_,p,(Option.some.inj a).symm⟩
      ·obtain⟨g1,P⟩:=Oc m;unfold iX at j;simp only[Bool.or_eq_false_iff,beq_eq_false_iff_ne]at j;refine⟨n,g1,P,j.2,j.1.1,j.1.2, ?_,QP m⟩;rw[iJ,o,if_neg Bool.false_ne_true];decide
      ·rw[List.findIdx?_map];exact T
variable {qt : Bool}
mutual
theorem FC:∀t:Tr,(∀y∈post t,mQ y)->Fit UD t
 | .mk k tx br ops,h=>by
  rw[post]at h;exact .mk (λhb=>(h (.mk k tx br ops) (by simp) hb).2.2) (vF ops λy a=>h y (mem_append_left _ a))
theorem vF:∀a:List Tr,(∀y∈bX a,mQ y)->Fits UD a
 | [],_=>.nil
 |t::a,h=>by
  rw[bX]at h;exact .cons (FC t λy b=>h y (mem_append_left _ b)) (vF a λy b=>h y (List.mem_append_right _ b))
end
theorem RF.take(a:List RF)(i:Nat):RF.list (a.take i)=(RF.list a).take i:=by simp[RF.list,List.map_take]
theorem PL{a:List RF}{i:Nat}{fn:Fn}(h:(RF.list a)[i]? =some fn):∃b,a[i]? =some b/\b.fn=fn:=by
 rw[RF.list,List.getElem?_map]at h
 cases c:a[i]? with
 |none=>rw[c]at h;cases h
 |some b=>rw[c]at h;exact⟨b,rfl,Option.some.inj h⟩
theorem ug.tX{a:List RF}(h:ug a):pX (RF.list a):=λi fn f=>by
 obtain⟨b,d,rfl⟩:=PL f;obtain⟨c,e⟩:=h.UH i b d;rw[RF.take]at c;exact⟨⟨b.t,FC _ e,c⟩,h.Bn b (List.mem_of_getElem? d)⟩
theorem KT{ps:Sc}{fns:List Fn} :∀ {b:List Tr} {a:List Ex},bY bA ps fns b=.ok a->b.length=a.length/\∀(m:Nat) (t:Tr),b[m]? =some t->∃e,a[m]? =some e/\bg bA ps fns t=.ok e
 | [],a,h=>by rw[bY]at h;cases h;exact⟨rfl,λm t h=>by simp at h⟩
 |t::b,a,h=>by
  rw[bY]at h;split at h
  ·cases h
  ·next x i=>
   split at h
   ·cases h
   ·next k d=>
    cases h;obtain⟨f,g⟩:=KT d;refine⟨by simp[f],λm j c=> ?_⟩
    cases m with
    |zero=>simp at c;subst c;exact⟨x,rfl,i⟩
    |succ m=>simpa using g m j (by simpa using c)
theorem LB{fns:List Fn}{j:Nat}{h:Bs}{i:Nat}(a:bB (fns.take j) h=some i):bB fns h=some i:=by
 unfold bB at a ⊢;rw[List.findIdx?_eq_some_iff_getElem]at a ⊢;obtain⟨e,c,d⟩:=a;have b:i<fns.length:=by rw[List.length_take]at e;omega
 refine⟨b,by simpa using c,λk f=>by simpa using d k f⟩
theorem Br{f:Ev} :∀(a:List Ex) (ns:List Bs) (cs:List aj) (k:Int) (n:List Bs),gJ f a ns=some (cs,k,n)->cs.length<=a.length
 | [],ns,cs,k,n,h=>by rw[gJ]at h;cases h;simp
 |e::a,ns,cs,k,n,h=>by
  rw[gJ]at h;split at h
  ·cases h
  split at h
  ·cases h;simp
  split at h
  ·cases h
  next b d g c=>
  split at h
  ·cases h;simp
  ·cases h;have:=Br a _ _ _ _ c;simp;omega
theorem Pt{t:Tr}{m:Nat}{o:Tr}(e:t.ops[m]? =some o)(d:∀y∈post t,mQ y):∀y∈post o,mQ y:=λy f=>by
 obtain⟨k,i,g,c⟩:=t;refine d y ?_;rw[post];refine mem_append_left _ ?_;have:∀(b:List Tr) (m:Nat),b[m]? =some o->y∈bX b:=by
  intro b
  induction b with
  |nil=>intro m h;simp at h
  |cons a b ih=>
   intro m h;rw[bX]
   cases m with
   |zero=>simp at h;subst h;exact mem_append_left _ f
   |succ m=>exact List.mem_append_right _ (ih m (by simpa using h))
 exact this c m e
def UJ(w0:World)(cv lv:Value)(cn:List (Bs × Int))(cl:List aj):Prop:=BB (cn.map Prod.snd) cl/\(cn= []\/(eD w0 cv (cn.map Prod.fst)/\aO w0 lv cl/\cn.length<=100))
theorem VS{E:List RF}(hK:ug E){o:Bs}(hu:o.length<=30){fv cv lv:Value}{rb:Nat} :∀(N j:Nat) (cn:List (Bs × Int)) (W:List aj) (G:List Int) (t:Tr) (e:Ex) (w0:World) (g cap:Nat) (l:List Tr) (tX:Nat->Int) (vs:List Value) (i:Nat),iY w0 g cap l tX vs->l[i]? =some t->(∀y∈post t,mQ y)->(qt=false->w0.heap.size<=rb)->jk w0 fv E->bg bA (cn,G) (RF.list (E.take j)) t=.ok e->(qt=true->e.quiet=true)->UJ w0 cv lv cn W->∀(ao:Option Addr) (an ac:Nat) (args:List aj),BB G args->Qt qt w0 g l.length cap rb fv o cv lv ao an ac args (pg (RF.list E) o N W args) i e:=by
 intro N
 induction N with
 |zero=>intro j cn W G t e w0 g cap l tX vs i _ _ _ _ _ _ _ _ ao an ac args _ x ns r hr;cases hr
 |succ N ih=>
  intro j cn W G t e w0 g cap l tX vs i hN hi hL B F z c4 a4 ao an ac args ha x ns r f hR T hA;have C:i<l.length:=(List.getElem?_eq_some_iff.mp hi).1;obtain⟨bo,c2,is,u⟩:=hN.nat hi
  cases Y:t.br with
  |false=>
   rcases OQ (hL t (List.mem_of_getElem? (dF t))) Y z f with⟨v,U,rfl,hl⟩|⟨v,ci,⟨d1,d2,d3,d4,d5,d6,d7,d8⟩,b3,U,rfl⟩
   ·exact Gj u C hR T hA.1 Y (by unfold maxLen;omega) v U
   ·rcases a4.2 with h0|⟨e1,e2,e3⟩
    ·subst h0;simp at b3
    ·exact CX u C hR T Y v λy hy I=>CV y rb fv o cv lv ns I _ t.tx (by unfold maxLen;omega) d1 d2 d3 d4 d5 d6 d7 _ W ((e1.ag T).ag hy) ((e2.ag T).ag hy) (by rw[List.length_map];exact e3) ci v b3 U
  |true=>
   have h2:=z;obtain⟨k,V,br,D⟩:=t;have b1:br=true:=Y;subst b1;rw[bg,if_pos rfl]at z;unfold qz at z;split at z
   ·cases z
   next w b4=>
   obtain⟨A,e0⟩:=KT b4;have g6:D.length<=1000:=u.Ou;have H:(qt=true->∀e∈w,e.quiet=true)->∀(m q:Nat) (h:m<w.length),is[m]? =some q->Qt qt w0 g l.length cap rb fv o cv lv ao an ac args (pg (RF.list E) o N W args) q w[m]:=λR m q h hm=>by
    obtain⟨P,a8⟩:=u.ix m q hm;have c0:m<D.length:=by omega
    have ho:(Tr.mk k V true D).ops[m]? =some D[m]:=getElem?_eq_getElem c0;rw[ho]at a8;obtain⟨e',a7,g4⟩:=e0 m D[m] (getElem?_eq_getElem c0);rw[getElem?_eq_getElem h]at a7;rw[Option.some.inj a7];exact ih j cn W G D[m] e' w0 g cap l tX vs q hN a8 (Pt ho hL) B F g4 (λP=>R P e' (List.mem_of_getElem? ((getElem?_eq_getElem h).trans a7))) a4 ao an ac args ha
   have HF:∀(m q:Nat),is[m]? =some q->VJ w0 g l.length cap rb fv o cv lv ao an ac q:=λm q hm y h5 k' g0 I X=>by
    obtain⟨P,a8⟩:=u.ix m q hm;have a0:q<l.length:=by omega
    obtain⟨g7,g8,h4,b0⟩:=hN.nat (getElem?_eq_getElem a0);exact CW b0 a0 g0 I X ao an ac
   have hm:=zC b4 (vF D λy hy=>hL y (by rw[post];exact mem_append_left _ hy));have HE:∀e∈w,Bv (pg (RF.list E) o N W args) e:=λe he=>Vk (RF.list E) o hu hK.tX N j (cn,G) W args e (by rw[<-RF.take];exact hm e he) a4.1 ha;unfold nR at z;split at z
   ·next hb=>
    split at z
    ·cases z
    next s=>
    cases z;have Q:qt=true->(w.all Ex.quiet&& !fK V)=true:=c4;have R:qt=true->∀e∈w,e.quiet=true:=λP=>by
     have:=Q P;simp only[and_eq_true,List.all_eq_true]at this;exact this.1
    have a0:qt=true->fK V=false:=λP=>by
     have:=Q P;simp only[and_eq_true,Bool.not_eq_true']at this;exact this.2
    replace H:=H R;rw[pg,if_neg (by omega),if_neg (by decide),if_neg (by decide),if_neg (by decide),if_pos rfl]at f;unfold nC at f;by_cases n1:V=hAnd
    ·rw[if_pos n1]at f;subst n1;obtain⟨h3,_⟩:=ol (n:=3) (ts:=w.map Ex.ty) s;have O:0<w.length:=by
      rcases w with _|⟨a,w⟩
      ·exact absurd rfl s
      ·simp
     exact Jm u C hR T B hA rfl rfl A O H (λe he=>⟨HE e he,rE rfl 3 h3 e he⟩) r f
    rw[if_neg n1]at f;by_cases n2:V=hOr
    ·rw[if_pos n2]at f;subst n2;obtain⟨h3,_⟩:=ol (n:=3) (ts:=w.map Ex.ty) s;have O:0<w.length:=by
      rcases w with _|⟨a,w⟩
      ·exact absurd rfl s
      ·simp
     exact ML u C hR T B hA rfl rfl A O H (λe he=>⟨HE e he,rE rfl 3 h3 e he⟩) r f
    rw[if_neg n2]at f;by_cases n3:V=xH
    ·rw[if_pos n3]at f;subst n3;obtain⟨a,b,c,rfl⟩:∃a b c,w= [a,b,c]:=by
      rcases w with _|⟨a,_|⟨b,_|⟨c,_|⟨d,l⟩⟩⟩⟩
      ·exact absurd rfl s
      ·exact absurd rfl s
      ·exact absurd rfl s
      ·exact⟨a,b,c,rfl⟩
      ·exact absurd rfl s
     have b5:=f;rw[Tu]at f;split at f
     ·cases f
     next v k' m1 hf=>
     have e9:=u.len;have b9:is.length=3:=by rw[e9];exact A
     obtain⟨j0,j1,j2,L⟩:∃j0 j1 j2,is= [j0,j1,j2]:=by
      rcases is with _|⟨j0,_|⟨j1,_|⟨j2,_|⟨j3,is⟩⟩⟩⟩<;>simp at b9
      exact⟨j0,j1,j2,rfl⟩
     have g3:a.ty=3:=by
      have e:bL xH ([a,b,c].map Ex.ty)=if a.ty=3/\b.ty=c.ty then b.ty else 0:=rfl
      rw[e]at s;by_cases h':a.ty=3/\b.ty=c.ty
      ·exact h'.1
      ·rw[if_neg h']at s;exact absurd rfl s
     have M:=HE a (by simp) ns _ hf;rw[g3]at M;exact MK u C hR T B hA rfl rfl L (H 0 j0 (by simp) (by rw[L];rfl)) (H 1 j1 (by simp) (by rw[L];rfl)) (H 2 j2 (by simp) (by rw[L];rfl)) (HF 2 j2 (by rw[L];rfl)) v k' m1 hf M r b5
    rw[if_neg n3]at f;split at f
    ·cases f
    next cs k' n' U=>
    have S:=F;obtain⟨fo,c8,Z,_⟩:=S;refine zu u C hR T B hA rfl n1 n2 n3 A H HF cs k' n' U r (λhk=> ?_) Z F λhk=> ?_
    ·rw[if_pos hk]at f;exact(Option.some.inj f).symm
    ·rw[if_neg (λh=>h hk)]at f;exact MZ a0 hK.free hb n1 n2 n3 s (zD w HE ns cs k' n' U hk) (by have:=Br w ns cs k' n' U;omega) f rb fv o cv lv x
   ·next hb=>
    have a5:bM V=false:=by simpa using hb
    unfold lY at z;split at z
    ·cases z
    next i' b7=>
    split at z
    ·cases z
    next fn J=>
    split at z
    ·next s=>
     cases z;have Q:qt=true->(w.all Ex.quiet&&fn.body.quiet)=true:=c4;have R:qt=true->∀e∈w,e.quiet=true:=λP=>by
      have:=Q P;simp only[and_eq_true,List.all_eq_true]at this;exact this.1
     have g1:qt=true->fn.body.quiet=true:=λP=>by
      have:=Q P;simp only[and_eq_true]at this;exact this.2
     replace H:=H R;rw[RF.take]at b7;have b8:=LB b7;obtain⟨c7,K,_⟩:=jB b8;have e8:c7=fn:=by
      rw[RF.take,List.getElem?_take]at J;split at J
      ·rw[K]at J;exact Option.some.inj J
      ·cases J
     subst e8;rw[pg,if_neg (by omega),if_neg (by decide),if_neg (by decide),if_neg (by decide),if_neg (by decide),if_pos rfl,Er,K]at f;simp only at f;split at f
     ·cases f
     next cs k' n' U=>
     have S:=F;obtain⟨fo,c8,Z,h8,hz⟩:=S;obtain⟨rf,a1,rfl⟩:=PL K;refine zu u C hR T B hA rfl (λe=> ?_) (λe=> ?_) (λe=> ?_) A H HF cs k' n' U r (λhk=> ?_) Z F λhk=> ?_
     ·have e:V=hAnd:=e;subst e;cases a5
     ·have e:V=hOr:=e;subst e;cases a5
     ·have e:V=xH:=e;subst e;cases a5
     ·rw[if_pos hk]at f;exact(Option.some.inj f).symm
     ·rw[if_neg (λh=>h hk)]at f;refine .inl ⟨i',rf,b8,a1,λg2 n2 a2 y lo ln lc ky a6 I e6=> ?_⟩;rcases hz with h|⟨b,hb0,hbl,hfa⟩
      ·subst h;simp at a1
      subst hb0;obtain⟨gb,g5,a9,a3, -, -,c6, -, -,c5,c3,c1, -⟩:=hfa i' rf a1;obtain⟨b',h1,g9,b6,e7⟩:=a6;rw[Z]at b6
      cases b6;have X:=RW.kr T B ky;have b2:=(X.cell (p:=⟨b,i'*5+2,none⟩) hbl).trans c6;rw[e7]at b2
      cases b2;have c9:iY w0 g2 a2 (post rf.t) a3 a9:=⟨c3,c1,c5,λt z=>Nat.le_trans (nG z) c5⟩;obtain⟨e5,e4⟩:=hK.UH i' rf a1;have M:=zD w HE ns cs k' n' U hk;rw[s]at M;exact ih i' [] [] rf.fn.args rf.t rf.fn.body w0 g2 a2 (post rf.t) a3 a9 ((post rf.t).length- 1) c9 (dF _) e4 B F e5 g1 ⟨trivial,.inl rfl⟩ lo ln lc cs M y n' r f I X (e6.Wl rb)
    ·cases z
end Go.Proofs.YtdifpeaklamhnaaGreatDoor
