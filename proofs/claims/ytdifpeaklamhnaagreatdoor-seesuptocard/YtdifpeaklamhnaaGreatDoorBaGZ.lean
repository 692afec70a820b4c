import Derived.Test.YtdifpeaklamhnaaGreatDoorCaBZ
import Derived.Test.YtdifpeaklamhnaaGreatDoorWxKZ
set_option linter.unusedVariables false
set_option linter.unusedSimpArgs false
set_option maxRecDepth 100000
set_option maxHeartbeats 0
namespace Go.Proofs.YtdifpeaklamhnaaGreatDoor
open Go.Proofs.Tryz
open Go.RowKit
open Below (refl)
open World (size_alloc)
open List (all_eq_true getElem?_eq_getElem drop_of_length_le)
open Bool (and_eq_true not_eq_true' or_eq_true)
theorem VE{fns:List Fn}{ps:Sc}{ty s:Int}{q:Bool}{h:Bs}{a:List Ex}(H:Ty fns ps (.mk 4 ty s q 0 0 [] 0 h none a))(j:q=true):(∀e∈a,e.quiet=true)/\fK h=false:=by
 subst j;obtain⟨t,i,H⟩:=H
 cases i with
 | @mk k tx b ops hp hf=>
  rw[bg]at H
  cases b with
  |true=>
   rw[if_pos rfl]at H;unfold qz at H;split at H
   ·cases H
   next c g=>
   unfold nR at H;split at H
   ·split at H
    ·cases H
    ·simp only[Except.ok.injEq,Ex.mk.injEq,and_eq_true,all_eq_true,not_eq_true']at H;obtain⟨-, -, -,⟨d,f⟩, -, -, -, -,rfl, -,rfl⟩:=H;exact⟨d,f⟩
   ·unfold lY at H;split at H
    ·cases H
    split at H
    ·cases H
    split at H
    ·simp at H
    ·cases H
  |false=>
   exfalso;rw[if_neg Bool.false_ne_true]at H;split at H
   ·unfold qH at H;split at H
    ·cases H
    split at H
    ·cases H
    ·simp[oC]at H
   ·split at H
    ·unfold uN at H;split at H
     ·cases H
     ·simp[qd]at H
    ·unfold cK at H;split at H
     ·simp[dI]at H
     ·split at H
      ·simp[dI]at H
      ·split at H
       ·simp[mK]at H
       ·simp[dI]at H
theorem VF{fns:List Fn}{ps:Sc}{ty s:Int}{q:Bool}{h:Bs}{b:List Ex}{i:Nat}{fn:Fn}(H:Ty fns ps (.mk 5 ty s q 0 0 [] 0 h (some i) b))(m:fns[i]? =some fn)(o:q=true):(∀e∈b,e.quiet=true)/\fn.body.quiet=true:=by
 subst o;obtain⟨t,n,H⟩:=H
 cases n with
 | @mk k tx c ops hp hf=>
  rw[bg]at H
  cases c with
  |true=>
   rw[if_pos rfl]at H;unfold qz at H;split at H
   ·cases H
   next d l=>
   unfold nR at H;split at H
   ·split at H
    ·cases H
    ·simp at H
   ·unfold lY at H;split at H
    ·cases H
    split at H
    ·cases H
    next f a=>
    split at H
    ·simp only[Except.ok.injEq,Ex.mk.injEq,and_eq_true,all_eq_true,Option.some.injEq]at H;obtain⟨-, -, -,⟨g,j⟩, -, -, -, -, -,rfl,rfl⟩:=H;rw[m]at a
     cases a;exact⟨g,j⟩
    ·cases H
  |false=>
   exfalso;rw[if_neg Bool.false_ne_true]at H;split at H
   ·unfold qH at H;split at H
    ·cases H
    split at H
    ·cases H
    ·simp[oC]at H
   ·split at H
    ·unfold uN at H;split at H
     ·cases H
     ·simp[qd]at H
    ·unfold cK at H;split at H
     ·simp[dI]at H
     ·split at H
      ·simp[dI]at H
      ·split at H
       ·simp[mK]at H
       ·simp[dI]at H
def VG(f:Ev)(g:Ex->Option aj)(e:Ex):Prop:=∀(ns:List Bs) (r:Rs),f e ns=some r->g e=some r.1/\r.2=(0,ns)
theorem zF{f:Ev}{g:Ex->Option aj} :∀ {a:List Ex},(∀e∈a,VG f g e)->∀ {ns:List Bs} {cs:List aj} {k:Int} {n:List Bs},gJ f a ns=some (cs,k,n)->rq g a=some cs/\k=0/\n=ns
 | [],_,ns,cs,k,n,h=>by rw[gJ]at h;cases h;exact⟨rfl,rfl,rfl⟩
 |e::a,H,ns,cs,k,n,h=>by
  rw[gJ]at h;split at h
  ·cases h
  next c o q i=>
  obtain⟨g1,d⟩:=H e (by simp) _ _ i
  cases d;rw[if_neg (by simp)]at h;split at h
  ·cases h
  next b p r j=>
  obtain⟨m,rfl,rfl⟩:=zF (λe l=>H e (by simp[l])) j;rw[if_neg (by simp)]at h
  cases h;exact⟨by rw[rq,g1];simp only[m],rfl,rfl⟩
theorem JP{f:Ev}{g:Ex->Option aj}{b:aj} :∀ {d:List Ex} {a:aj},(∀e∈d,VG f g e)->∀ {ns:List Bs} {r:Rs},tZ f b a d ns=some r->JO g b a d=some r.1/\r.2=(0,ns)
 | [],a,_,ns,r,h=>by rw[tZ]at h;cases h;exact⟨rfl,rfl⟩
 |e::d,a,H,ns,r,h=>by
  rw[tZ]at h;split at h
  ·cases h
  next c m n k=>
  obtain⟨g1,j⟩:=H e (by simp) _ _ k
  cases j;rw[JO,g1];by_cases i:c=b
  ·rw[if_pos (.inr i)]at h
   cases h;simp only[i,if_true];exact⟨trivial,trivial⟩
  ·rw[if_neg (by simp[i])]at h;simp only[if_neg i];exact JP (λe l=>H e (by simp[l])) h
theorem QI{h:Bs}{cs:List aj}{v:aj}{k:Int}(i:fK h=false)(d:qB h cs=some (v,k)):xD h cs=some v/\k=0:=by
 have o:h≠Ck:=λe=>by subst e;cases i
 unfold qB at d;rw[if_neg o]at d;rcases cs with _|⟨a,_|⟨b,_|⟨c,l⟩⟩⟩
 ·cases d
 ·have d:QH h a=some (v,k):=d;unfold QH at d;rw[xD];split at d
  ·next e=>cases d;rw[if_pos (.inl e),Ec,if_pos e];exact⟨rfl,rfl⟩
  next g=>
  split at d
  ·next e=>cases d;rw[if_pos (.inr (.inl e)),Ec,if_neg g,if_pos e];refine⟨?_,rfl⟩;split<;>rfl
  next n=>
  split at d
  ·next e=>cases d;rw[if_pos (.inr (.inr e)),Ec,if_neg g,if_neg n,if_pos e];refine⟨?_,rfl⟩;split<;>rfl
  ·cases d
 ·have d:Ed h a b=some (v,k):=d;have f:IM h=false:=by
   cases m:IM h with
   |false=>rfl
   |true=>
    simp only[IM,or_eq_true,beq_iff_eq]at m;rcases m with((rfl|rfl)|rfl)|rfl<;>cases i
  unfold Ed at d;rw[f]at d;split at d
  ·next j=>
   simp only[IQ,or_eq_true,beq_iff_eq]at j
   cases d;rw[xD,JY,if_pos (by rcases j with(h|h)|h<;>simp[h])];refine⟨?_,rfl⟩;split<;>rfl
  ·simp at d
 ·cases d
theorem OD{f:Ev}{g:Ex->Option aj}{h:Bs}{i:List Ex}(m:fK h=false)(H:∀e∈i,VG f g e){ns:List Bs}{r:Rs}(d:nC f h i ns=some r):uD g h i=some r.1/\r.2=(0,ns):=by
 unfold nC at d;unfold uD;split at d
 ·next e=>rw[if_pos e];exact JP H d
 next n=>
 rw[if_neg n];split at d
 ·next e=>rw[if_pos e];exact JP H d
 next o=>
 rw[if_neg o];split at d
 ·next e=>
  rw[if_pos e];unfold Tu at d;split at d
  ·next a b c=>
   split at d
   ·cases d
   next v k t j=>
   obtain⟨g1,q⟩:=H a (by simp) _ _ j
   cases q;rw[if_neg (by simp)]at d;simp only[VH,g1];split at d
   ·next l=>simp only[l,if_true];exact H b (by simp) _ _ d
   ·next l=>simp only[l,if_false];exact H c (by simp) _ _ d
  ·cases d
 next p=>
 rw[if_neg p];split at d
 ·cases d
 next cs k t j=>
 obtain⟨u,rfl,rfl⟩:=zF H j;rw[if_neg (by simp),if_neg (λe=>by subst e;cases m)]at d;split at d
 ·cases d
 next v x s=>
 obtain⟨w,rfl⟩:=QI m s
 cases d;simp only[u,w];exact⟨trivial,trivial⟩
theorem Tp(fns:List Fn)(f:Bs)(hF:pX fns):∀(N j:Nat) (ps:Sc) (ax args:List aj) (e:Ex),Ty (fns.take j) ps e->e.quiet=true->VG (pg fns f N ax args) (tY fns f N ax args) e:=by
 intro N
 induction N with
 |zero=>intro j ps ax args e h x ns r a;cases a
 |succ N ih=>
  intro j ps ax args e h x ns r a;have H:=h;rcases JH h with⟨k,n,s,rfl,C⟩|rfl|⟨ty,p,rfl,w⟩|⟨c,p,rfl,w⟩|⟨h,y,q,g,D,rfl⟩|⟨h,y,q,i,fn,g,d,z,rfl⟩
  ·have:r=((k,n,s),0,ns):=by simpa[dI,pg]using a.symm
   subst this;exact⟨by simp[dI,tY],rfl⟩
  ·have:r=((2,0,f),0,ns):=by simpa[mK,pg]using a.symm
   subst this;exact⟨by simp[mK,tY],rfl⟩
  ·have b:lD (jO args (p:Int)) ns=some r:=by simpa[qd,pg]using a
   unfold lD at b;split at b
   ·cases b
   ·next c u=>cases b;exact⟨by simpa[qd,tY]using u,rfl⟩
  ·have b:lD (jO ax (p:Int)) ns=some r:=by simpa[oC,pg]using a
   unfold lD at b;split at b
   ·cases b
   ·next c u=>cases b;exact⟨by simpa[oC,tY]using u,rfl⟩
  ·obtain⟨o,t⟩:=VE H x;rw[pg]at a;split at a
   ·cases a
   next v=>
   rw[if_neg (by decide),if_neg (by decide),if_neg (by decide),if_pos rfl]at a;rw[tY,if_neg v,if_neg (by decide),if_neg (by decide),if_neg (by decide),if_pos rfl];exact OD t (λe m=>ih j ps ax args e (g e m) (o e m)) a
  ·obtain⟨o,t⟩:=VF H d x;have l:fns[i]? =some fn:=by
    rw[List.getElem?_take]at d;split at d
    ·exact d
    ·cases d
   rw[pg]at a;split at a
   ·cases a
   next v=>
   rw[if_neg (by decide),if_neg (by decide),if_neg (by decide),if_neg (by decide),if_pos rfl,Er,l]at a;rw[tY,if_neg v,if_neg (by decide),if_neg (by decide),if_neg (by decide),if_neg (by decide),if_pos rfl];simp only[l];simp only at a;split at a
   ·cases a
   next cs k n A=>
   obtain⟨B,rfl,rfl⟩:=zF (λe m=>ih j ps ax args e (g e m) (o e m)) A;rw[if_neg (by simp)]at a;simp only[B];exact ih i ([],fn.args) [] cs fn.body (hF i fn l).1 t _ r a
structure qx(fns:List Fn)(te:aJ × Ex):Prop where
 VU:bJ te.1=true
 UH:eG bA (te.1.ax.map (dO [114,111,119]),[]) fns te.1.aD=.ok te.2
 quiet:te.2.quiet=true
 ty:te.2.ty=3
theorem Hw{fns:List Fn}{c:List (aJ × Ex)}{t:aJ}{x:Ex}(h:cZ fns c t=.ok x):qx fns (t,x):=by
 unfold cZ at h;split at h
 ·cases h
 next d=>
 have b:bJ t=true:=by
  cases b:bJ t with
  |true=>rfl
  |false=>
   refine absurd ?_ d;rw[b]
   cases f:(!aU t.name||(oW c t.name==0))<;>decide
 unfold Ac at h;split at h
 ·cases h
 next y e=>
 split at h
 ·cases h
 next a=>
 cases h;simp only[or_eq_true,not_eq_true',not_or,Bool.not_eq_false,beq_iff_eq]at a;exact⟨b,e,a.2,a.1⟩
theorem Bh{fns:List Fn} :∀(f:List aJ) (a c:List (aJ × Ex)),(∀b∈a,qx fns b)->iw fns a f=.ok c->∀b∈c,qx fns b
 | [],a,c,ha,h=>by rw[iw]at h;cases h;exact ha
 |t::f,a,c,ha,h=>by
  rw[iw]at h
  cases e:cZ fns a t with
  |error n=>rw[e]at h;cases h
  |ok x=>
   rw[e]at h;refine Bh f (a++ [(t,x)]) c (λb d=> ?_) h;rcases List.mem_append.mp d with h'|h'
   ·exact ha b h'
   ·rw[List.mem_singleton.mp h'];exact Hw e
theorem vT{d:List mM}{c:List aJ}{p:List Fn × List (aJ × Ex)}(h:dz d c=.ok p):∀b∈p.2,qx p.1 b:=by
 unfold dz at h;split at h
 ·cases h
 split at h
 ·cases h
 next fns f=>
 unfold Dw at h;split at h
 ·cases h
 next e a=>cases h;exact Bh c [] e (λb h=>by simp at h) a
theorem Jo(b:Bs):∀ {cs:List aj} {a:List dL},fQ cs a=true->BB ((a.map (dO b)).map Prod.snd) cs
 | [],[],_=>trivial
 | [],_::_,h=>by cases h
 |_::_,[],h=>by cases h
 |c::cs,d::a,h=>by
  simp only[fQ,and_eq_true]at h;exact⟨QT h.1,Jo b h.2⟩
theorem qx.rows{fns:List Fn}{a:aJ × Ex}(h:qx fns a):a.1.rows.length<=10/\a.1.ax.length<=4/\∀r∈a.1.rows,fQ r a.1.ax=true:=by
 have:=h.VU;simp only[bJ,fe,bG,and_eq_true,not_eq_true',decide_eq_false_iff_not,all_eq_true,Bool.or_eq_false_iff]at this;exact⟨by omega,by omega,this.2.2⟩
theorem qx.typed{fns:List Fn}{b:aJ × Ex}(h:qx fns b):Ty fns (b.1.ax.map (dO [114,111,119]),[]) b.2/\b.2.size<=300:=by
 have a:=h.UH;unfold eG at a;split at a
 ·cases a
 next t c=>
 unfold mJ at a;split at a
 ·cases a
 next y d=>
 split at a
 ·cases a
 next e=>
 cases a;exact⟨⟨t,(vP UD (λ_=>rfl) _ t c).1,d⟩,by omega⟩
theorem KC{fns:List Fn}(hF:pX fns){b:aJ × Ex}(h:qx fns b){a:Bs}(i:a.length<=30){r:List aj}(e:r∈b.1.rows):∃v,pg fns a 300 r [] b.2 []=some (v,0,[])/\tY fns a 300 r [] b.2=some v/\rT 3 v:=by
 obtain⟨g,f⟩:=h.typed;have c:Ty (fns.take fns.length) (b.1.ax.map (dO [114,111,119]),[]) b.2:=by rw[List.take_length];exact g
 obtain⟨x,d,g1,_,_⟩:=(Vj fns a i hF 300 fns.length _ r [] b.2 c (by omega) f (Jo _ (h.rows.2.2 r e)) trivial).2 [] (by simp;omega);obtain⟨j,l⟩:=Tp fns a hF 300 fns.length _ r [] b.2 c h.quiet [] x d;obtain⟨v,k,n⟩:=x
 cases l;rw[h.ty]at g1;exact⟨v,d,j,g1⟩
def jQ(fns:List Fn)(user:Bs)(x:Ex)(r:List aj):Bool:=match tY fns user 300 r [] x with
 |none=>false
 |some v=>v==aV true
def aN(P:List aj->Bool):Nat->List (List aj)->List Int
 |_,[]=>[]
 |i,r::rs=>if P r then(i:Int)::aN P (i+1) rs else aN P (i+1) rs
theorem nV(P:List aj->Bool):∀(b:List (List aj)) (r:List aj) (i:Nat),aN P i (b++ [r])=aN P i b++(if P r then [((i+b.length:Nat):Int)]else [])
 | [],r,i=>by simp only[List.nil_append,aN,List.length_nil,Nat.add_zero]
 |a::b,r,i=>by
  simp only[List.cons_append,aN,nV P b r (i+1),List.length_cons];rw[show i+1+b.length=i+(b.length+1)by omega];split<;>simp
theorem lT(P:List aj->Bool):∀(b:List (List aj)) (i:Nat),(aN P i b).length<=b.length
 | [],i=>by simp[aN]
 |a::b,i=>by
  have:=lT P b (i+1);rw[aN];split<;>simp<;>omega
def qC(n:Int):List Int × Int:=([],n)
def tK(fs:List mM)(ts:List aJ)(user name:Bs):List Int × Int:=
 if 30<user.length then qC 9 else match dz fs ts with
 | .error n=>qC n
 | .ok p=>match dH p.2 name with
  |none=>qC 2
  |some i=>match p.2[i]? with
   |none=>qC 2
   |some te=>if aW te.1.eZ user then(aN (jQ p.1 user te.2) 0 te.1.rows,0)else qC 7
theorem yu(l:List Bs)(x:Bs)(k:Nat)(h:k<l.length):aW (l.drop k) x=(x==l[k]||aW (l.drop (k+1)) x):=by
 unfold aW;rw[List.drop_eq_getElem_cons h,List.contains_cons]
theorem Dk(w:World)(v:Value)(a:List Bs)(s:ByteArray)(h:eD w v a):
  Calls prog 202 #[v,.string s] w λe w'=>(∃k:Int,e=.returned (.int .i64 k)/\(decide (0<=k)=aW a s.toList))/\w'=w:=by
 obtain⟨r,cap,rfl,t,m⟩:=h;unfold maxLen at t;go_enter Tryz.func202,Tryz.ntmps202
 go_wp2_with fail
 go_loopw [8] (λo u=>∃i:Nat,i<=a.length/\o=.int .i64 i/\u=w/\Hid (aW a s.toList=aW (a.drop i) s.toList)) (λo _=>a.length- (intOf o).toNat)
 case atStart=>exact⟨0,Nat.zero_le _,rfl,rfl,rfl⟩
 case round=>
  obtain⟨i,x,rfl,rfl,f⟩:=hrel;by_cases c:i<a.length
  ·obtain⟨b,d,rfl,hb,n⟩:∃b d,r=some ⟨b,d,none⟩/\b<wr.heap.size/\∀(i:Nat) (l:Bs),a[i]? =some l->wr.cell? ⟨b,d+i,none⟩=some (.string (aa l)):=by
    rcases m with h|h
    ·subst h;simp at c
    ·exact h
   have q:=n i a[i] (getElem?_eq_getElem c);have j:Hid (aW a s.toList=(s.toList==a[i]||aW (a.drop (i+1)) s.toList)):=f.out.trans (yu a _ i c);have y:(aa a[i]).toList=a[i]:=au _
   cases p:(s.toList==a[i])with
   |true=>
    have g:Hid (aW a s.toList=true):=by rw[Hid,j.out,p];rfl
    clear f n m j
    go_wp2_with fail
    go_ret;exact⟨⟨_,rfl,by rw[g.out];simp⟩,rfl⟩
   |false=>
    have g:Hid (aW a s.toList=aW (a.drop (i+1)) s.toList):=by rw[Hid,j.out,p];rfl
    clear f n m j
    go_wp2_with fail
    go_roundw
    case rel=>exact⟨i+1,by omega,by go_num,by trivial,g⟩
    case measure=>simp[intOf];omega
  ·have g:Hid (aW a s.toList=false):=by rw[Hid,f.out,drop_of_length_le (by omega)];rfl
   clear f m
   go_wp2_with fail
   go_ret;exact⟨⟨_,rfl,by rw[g.out];rfl⟩,rfl⟩
theorem xS(w:World)(v:Value)(a:List Bs)(s:ByteArray)(h:eD w v a):
  Calls prog 135 #[v,.string s] w λe w'=>e=.returned (.bool (aW a s.toList))/\w'=w:=by
 obtain⟨d,c⟩:∃d,d=aW a s.toList:=⟨_,rfl⟩;have b:=Dk w v a s h;rw[<-c]at b ⊢;clear c;go_enter Tryz.func135,Tryz.ntmps135
 go_wp2_with(go_at_call 202;refine b.mono ?_;rintro e w2 ⟨⟨k,rfl,hk⟩,rfl⟩)
 go_ret;exact⟨rfl,rfl⟩
theorem Hz(w:World)(v:Value)(a:List Bs)(s:ByteArray)(h:eD w v a):
  Calls prog 114 #[v,.string s] w λe w'=>e=.returned (.bool (aW a s.toList))/\w'=w:=by
 obtain⟨r,cap,rfl,t,m⟩:=h;unfold maxLen at t;go_enter Tryz.func114,Tryz.ntmps114
 go_wp2_with fail
 go_loopw [5] (λp u=>∃i:Nat,i<=a.length/\p=.int .i64 i/\u=w/\Hid (aW a s.toList=aW (a.drop i) s.toList)) (λp _=>a.length- (intOf p).toNat)
 case atStart=>exact⟨0,Nat.zero_le _,rfl,rfl,rfl⟩
 case round=>
  obtain⟨i,x,rfl,rfl,g⟩:=hrel;by_cases d:i<a.length
  ·obtain⟨b,f,rfl,hb,n⟩:∃b f,r=some ⟨b,f,none⟩/\b<wr.heap.size/\∀(i:Nat) (l:Bs),a[i]? =some l->wr.cell? ⟨b,f+i,none⟩=some (.string (aa l)):=by
    rcases m with h|h
    ·subst h;simp at d
    ·exact h
   have q:=n i a[i] (getElem?_eq_getElem d);have k:Hid (aW a s.toList=(s.toList==a[i]||aW (a.drop (i+1)) s.toList)):=g.out.trans (yu a _ i d);have y:(aa a[i]).toList=a[i]:=au _
   cases c:(s.toList==a[i])with
   |true=>
    have j:Hid (aW a s.toList=true):=by rw[Hid,k.out,c];rfl
    have o:(a[i]==s.toList)=true:=by rw[beq_iff_eq]at c ⊢;exact c.symm
    clear g n m k c
    go_wp2_with fail
    go_ret;exact⟨ay j.out.symm,rfl⟩
   |false=>
    have j:Hid (aW a s.toList=aW (a.drop (i+1)) s.toList):=by rw[Hid,k.out,c];rfl
    have o:(a[i]==s.toList)=false:=by rw[beq_eq_false_iff_ne]at c ⊢;exact λe=>c e.symm
    clear g n m k c
    go_wp2_with fail
    go_roundw
    case rel=>exact⟨i+1,by omega,by go_num,by trivial,j⟩
    case measure=>simp[intOf];omega
  ·have j:Hid (aW a s.toList=false):=by rw[Hid,g.out,drop_of_length_le (by omega)];rfl
   clear g m
   go_wp2_with fail
   go_ret;exact⟨ay j.out.symm,rfl⟩
theorem LP(w:World)(a0 a1 a2 a3 a4 a5 k l m a9 b c f g h i j:Value)(s:rU a0 a1 a2 a3 a4 a5 k l m a9 b c f g h i j)(n:List Bs)(r:eD w a5 n)(a:Bs):
  Calls prog 77 #[.agg #[a0,a1,a2,a3,a4,a5,k,l,m,a9,b,c,f,g,h,i,j],.string (aa a)] w λe w'=>e=.returned (.int .i64 (fU (!aW n a) 7))/\Below w.heap.size w w':=by
 have hb:=ae w (.cells #[a0,a1,a2,a3,a4,a5,k,l,m,a9,b,c,f,g,h,i,j] 235);have kn:=heap_alloc_new w (.cells #[a0,a1,a2,a3,a4,a5,k,l,m,a9,b,c,f,g,h,i,j] 235);have q:(w.alloc (.cells #[a0,a1,a2,a3,a4,a5,k,l,m,a9,b,c,f,g,h,i,j] 235)).cell? ⟨w.heap.size,5,none⟩=some a5:=(af kn).trans rfl;have o:=xS _ a5 n (aa a) (r.ag hb);rw[au]at o;obtain⟨d,p⟩:∃d,d=aW n a:=⟨_,rfl⟩;rw[<-p]at o ⊢;obtain⟨B,C,D,E,F,G,H,I,J,K,t,u,v,x,y,z,A⟩:=s;obtain⟨uo,uc,rfl, -⟩:=r;clear kn p;go_enter Tryz.func77,Tryz.ntmps77
 go_wp2_with(first
  |(go_at_call 135;refine o.mono ?_;rintro e w2 ⟨rfl,rfl⟩)
  |(go_at_call 123;refine(jf _ _ _).mono ?_;rintro e L ⟨rfl,rfl⟩))
 go_ret;exact⟨rfl,hb⟩
theorem Al{fns:List Fn}{a:Bs}{N:Nat}{e:Ex}{v:aj}(w:World)(g:List Nat)(h:Nat)(ax:List aj)(co:Option Addr)(cn cc:Nat)(f:tY fns a N ax [] e=some v)(hF:xC w g fns a h (.slice co cn cc) (.slice none 0 0) ax [])(sort ty size:Int)(quiet:Bool)(vk vn:Int)(vs:Bs)(place:Int)(head:Bs)(fp d:Option Addr)(c b:Nat)(i:dJ w g (λ_=>True) [.int .i64 sort,.int .i64 ty,.int .i64 size,.bool quiet,.int .i64 vk,.int .i64 vn,.string (aa vs),.int .i64 place,.string (aa head),.pointer fp,.slice d c b] e):
  Calls prog 136 #[.pointer (some ⟨h,0,none⟩),.agg #[.int .i64 sort,.int .i64 ty,.int .i64 size,.bool quiet,.int .i64 vk,.int .i64 vn,.string (aa vs),.int .i64 place,.string (aa head),.pointer fp,.slice d c b],.slice co cn cc] w λe w'=>fA w v e w':=by
 have hb:=az w (.cells #[.int .i64 sort,.int .i64 ty,.int .i64 size,.bool quiet,.int .i64 vk,.int .i64 vn,.string (aa vs),.int .i64 place,.string (aa head),.pointer fp,.slice d c b] 210) (aI 0 0 ⟨#[]⟩);have l:((w.alloc (.cells #[.int .i64 sort,.int .i64 ty,.int .i64 size,.bool quiet,.int .i64 vk,.int .i64 vn,.string (aa vs),.int .i64 place,.string (aa head),.pointer fp,.slice d c b] 210)).alloc (aI 0 0 ⟨#[]⟩)).heap[w.heap.size+1]? =some (aI 0 0 ⟨#[]⟩):=by
  have:=heap_alloc_new (w.alloc (.cells #[.int .i64 sort,.int .i64 ty,.int .i64 size,.bool quiet,.int .i64 vk,.int .i64 vn,.string (aa vs),.int .i64 place,.string (aa head),.pointer fp,.slice d c b] 210)) (aI 0 0 ⟨#[]⟩);rw[size_alloc]at this;exact this
 have k:=KU fns a N e v _ g h ax [] co cn cc none 0 0 #[.int .i64 sort,.int .i64 ty,.int .i64 size,.bool quiet,.int .i64 vk,.int .i64 vn,.string (aa vs),.int .i64 place,.string (aa head),.pointer fp,.slice d c b] f (hF.ag hb) (i.ag hb);clear hF i f;go_enter Tryz.func136,Tryz.ntmps136
 go_wp2_with(go_at_call 126;refine k.mono ?_;rintro e w2 ⟨rfl,hb2⟩;have j:=NQ hb2 l (by simp only[size_alloc];omega);have l2:=ai j;obtain⟨⟨m,r1,r2⟩,n,o,p⟩:=aQ j)
 refine bodyPost_ret (v:=.tuple #[.agg #[.int .i64 v.1,.int .i64 v.2.1,.string (aa v.2.2)],.int .i64 0]) (by simp[results,Tryz.results136,go_sem,m,r1,r2]) rfl ⟨rfl, ?_⟩;exact aH (hb.trans (hb2.mono hb.size)) (by omega) _ _ _
theorem Jt(w:World)(a0 a1 a2 a3 a4 a5 H I J a9 a c f l m n o:Value)(ho:rU a0 a1 a2 a3 a4 a5 H I J a9 a c f l m n o)(rows:List (List aj))(hr:RowsIn w a2 rows)(c9:rows.length<=1000)(s:Bs)(P:List aj->Bool)
  (HV:∀(x:World) (row:List aj) (co:Option Addr) (cn cc:Nat),Below (w.heap.size+2) ((w.alloc (.cells #[a0,a1,a2,a3,a4,a5,H,I,J,a9,a,c,f,l,m,n,o] 235)).alloc (.cells #[.string (aa s),.slice none 0 0] 221)) x->row∈rows->aO x (.slice co cn cc) row->∃v:aj,(P row=true↔v=aV true)/\Calls prog 136 #[.pointer (some ⟨w.heap.size+1,0,none⟩),.agg #[H,I,J,a9,a,c,f,l,m,n,o],.slice co cn cc] x λe w'=>fA x v e w'):
  Calls prog 78 #[.agg #[a0,a1,a2,a3,a4,a5,H,I,J,a9,a,c,f,l,m,n,o],.string (aa s)] w λe w'=>∃N M K,e=.returned (.slice N M K)/\w'.ownsRow w.heap.size 3 1 (.slice N M K) (aN P 0 rows).length (aL (aN P 0 rows))/\Below w.heap.size w w':=by
 obtain⟨i0,hi,b6,b7,b8⟩:=info_parts qK;obtain⟨ro,rc,rfl, -,hz⟩:=hr;obtain⟨o0,o1,o2,o3,o4,o5,o6,o7,o8,o9,e3,e4,e5,e6,e7,e8,e9⟩:=ho;have b1:=az w (.cells #[a0,a1,.slice ro rows.length rc,a3,a4,a5,H,I,J,a9,a,c,f,l,m,n,o] 235) (.cells #[.string (aa s),.slice none 0 0] 221);have Z:((w.alloc (.cells #[a0,a1,.slice ro rows.length rc,a3,a4,a5,H,I,J,a9,a,c,f,l,m,n,o] 235)).alloc (.cells #[.string (aa s),.slice none 0 0] 221)).heap[w.heap.size]? =some (.cells #[a0,a1,.slice ro rows.length rc,a3,a4,a5,H,I,J,a9,a,c,f,l,m,n,o] 235 (0,0)):=
  (Below.heap_alloc _ _ _ (by simp[size_alloc])).trans (heap_alloc_new w _)
 obtain⟨W,E⟩:∃x,x=((w.alloc (.cells #[a0,a1,.slice ro rows.length rc,a3,a4,a5,H,I,J,a9,a,c,f,l,m,n,o] 235)).alloc (.cells #[.string (aa s),.slice none 0 0] 221)):=⟨_,rfl⟩;have e0:W.heap.size=w.heap.size+2:=by rw[E];simp[size_alloc]
 rw[<-E]at HV b1 Z;have q2:W.cell? ⟨w.heap.size,2,none⟩=some (.slice ro rows.length rc):=(af Z).trans rfl;have HW:∀Q:World->Prop,Q W->Q ((w.alloc (.cells #[a0,a1,.slice ro rows.length rc,a3,a4,a5,H,I,J,a9,a,c,f,l,m,n,o] 235)).alloc (.cells #[.string (aa s),.slice none 0 0] 221)):=by intro Q h;rw[<-E];exact h
 rw[E]at q2;clear E;go_enter Tryz.func78,Tryz.ntmps78
 go_wp2_with fail
 go_loopw [6,17] (λsv iv wr=>∃(i M K:Nat) (N:Option Addr),i<=rows.length/\sv=.slice N M K/\iv=.int .i64 i/\wr.ownsRow (w.heap.size+2) 3 1 (.slice N M K) (aN P 0 (rows.take i)).length (aL (aN P 0 (rows.take i)))/\Below (w.heap.size+2) W wr) (λ_ iv _=>rows.length- (intOf iv).toNat)
 case atStart=>exact⟨0,0,0,none,Nat.zero_le _,rfl,rfl,World.ownsRow_nil _ _ _ _,HW (λx=>Below (w.heap.size+2) W x) (refl _ _)⟩
 case round=>
  clear q2 HW;obtain⟨i,M,K,N,c8,rfl,rfl,z,hB⟩:=hrel;have e2:=hB.size;have O:Below w.heap.size w wr:=b1.trans (hB.mono (by omega));by_cases S:i<rows.length
  ·obtain⟨b,T,rfl,hb,hc⟩:∃b T,ro=some ⟨b,T,none⟩/\b<w.heap.size/\∀(i:Nat) (r:List aj),rows[i]? =some r->∃ro rn rc,w.cell? ⟨b,T+i,none⟩=some (.slice ro rn rc)/\aO w (.slice ro rn rc) r:=by
    rcases hz with h|h
    ·subst h;simp at S
    ·exact h
   obtain⟨xo,xn,xc,q0,F⟩:=hc i rows[i] (getElem?_eq_getElem S);have q:=(O.cell (p:=⟨b,T+i,none⟩) hb).trans q0;have c7:b<wr.heap.size:=by omega
   have B:=(hB.block w.heap.size (by omega)).trans Z;have c6:=ai B;have t6:wr.cell? ⟨w.heap.size,6,none⟩=some H:=(af B).trans rfl;have t7:wr.cell? ⟨w.heap.size,7,none⟩=some I:=(af B).trans rfl;have t8:wr.cell? ⟨w.heap.size,8,none⟩=some J:=(af B).trans rfl;have t9:wr.cell? ⟨w.heap.size,9,none⟩=some a9:=(af B).trans rfl;have t10:wr.cell? ⟨w.heap.size,10,none⟩=some a:=(af B).trans rfl;have t11:wr.cell? ⟨w.heap.size,11,none⟩=some c:=(af B).trans rfl;have t12:wr.cell? ⟨w.heap.size,12,none⟩=some f:=(af B).trans rfl;have t13:wr.cell? ⟨w.heap.size,13,none⟩=some l:=(af B).trans rfl;have t14:wr.cell? ⟨w.heap.size,14,none⟩=some m:=(af B).trans rfl;have t15:wr.cell? ⟨w.heap.size,15,none⟩=some n:=(af B).trans rfl;have t16:wr.cell? ⟨w.heap.size,16,none⟩=some o:=(af B).trans rfl;obtain⟨v,hP,HC⟩:=HV wr rows[i] xo xn xc hB (List.getElem_mem S) (F.ag O);have V:Hid (aN P 0 (rows.take (i+1))=aN P 0 (rows.take i)++(if P rows[i]then [((i:Nat):Int)]else [])):=by
    rw[Hid,List.take_succ_eq_append_getElem S,nV,List.length_take,Nat.min_eq_left (by omega),Nat.zero_add]
   obtain⟨p,hp⟩:∃p,p=P rows[i]:=⟨_,rfl⟩;rw[<-hp]at hP V;have b3:=lT P (rows.take i) 0;rw[List.length_take]at b3;obtain⟨L,hL⟩:∃L,L=aN P 0 (rows.take i):=⟨_,rfl⟩;rw[<-hL]at V z b3;have HP:Hid (p=true↔v=aV true):=hP;clear hz hc q0 F B hp hL hP HV;go_upto_region 7 with(go_at_call 136;refine HC.mono ?_;rintro e w2 ⟨rfl,hb2⟩)
   clear HC t6 t7 t8 t9 t10 t11 t12 t13 t14 t15 t16 q;obtain⟨b0,U,C⟩:=v;go_cut [31] (λb9 wx=>(∃b:Bool,b9=.bool b/\nY b (b0,U,C))/\Hid (Below w2.heap.size w2 wx))
   case first=>
    by_cases h3:b0=3
    ·subst h3;by_cases h1:U=1
     ·subst h1;by_cases he:(aa C).toList= []
      ·have D:nY true (3,1,C):=by
        rw[au]at he;rw[nY,he];exact⟨λ_=>rfl,λ_=>rfl⟩
       go_region_with(go_at_call 137;refine(bH _ _).mono ?_;rintro e w3 ⟨rfl,rfl⟩);all_goals(go_wp2_with fail;go_meet)
       all_goals exact⟨⟨true,rfl,D⟩,(show Below w2.heap.size w2 _ from by first|exact(az w2 _ _).drew|exact az w2 _ _)⟩
      ·have D:nY false (3,1,C):=by
        refine⟨λh=>(by cases h),λh=> ?_⟩;rw[au]at he;cases h;exact absurd rfl he
       go_region_with(go_at_call 137;refine(bH _ _).mono ?_;rintro e w3 ⟨rfl,rfl⟩);all_goals(go_wp2_with fail;go_meet)
       all_goals exact⟨⟨false,rfl,D⟩,(show Below w2.heap.size w2 _ from by first|exact(az w2 _ _).drew|exact az w2 _ _)⟩
     ·have D:nY false (3,U,C):=⟨λh=>(by cases h),λh=>absurd (congrArg (λp:aj=>p.2.1) h) h1⟩;go_region_with(go_at_call 137;refine(bH _ _).mono ?_;rintro e w3 ⟨rfl,rfl⟩);all_goals(go_wp2_with fail;go_meet)
      all_goals exact⟨⟨false,rfl,D⟩,(show Below w2.heap.size w2 _ from by first|exact(az w2 _ _).drew|exact az w2 _ _)⟩
    ·have D:nY false (b0,U,C):=⟨λh=>(by cases h),λh=>absurd (congrArg (λp:aj=>p.1) h) h3⟩;go_region_with(go_at_call 137;refine(bH _ _).mono ?_;rintro e w3 ⟨rfl,rfl⟩);all_goals(go_wp2_with fail;go_meet)
     all_goals exact⟨⟨false,rfl,D⟩,(show Below w2.heap.size w2 _ from by first|exact(az w2 _ _).drew|exact az w2 _ _)⟩
   case rest=>
    obtain⟨⟨d,rfl,D⟩,HW⟩:=hcut;have B3:Below wr.heap.size wr wc:=hb2.trans (HW.out.mono hb2.size);have Y:Below (w.heap.size+2) W wc:=hB.trans (B3.mono (by omega));have e1:=Y.size;have y:=aA z (x:=wc) λg hg=>B3.block g (z.lt g hg).2;clear hb2 HW B3 z hB O
    cases d with
    |true=>
     have b5:p=true:=HP.out.mpr (D.mp rfl);subst b5;rw[if_pos rfl]at V;clear HP D
     go_wp2_with(at_builtin;refine wpList_append_own _ rfl (.tmp 32) (.tmp 34) 42 rfl (w.heap.size+2) 3 i0 (.int .i64 0) 1 8 Tryz.underlying42 hi b6 b7 b8 rfl (by decide) _ _ _ rfl (y.alloc _) ⟨wc.heap.size,0,none⟩ 1 1 [.int .i64 ((i:Nat):Int)] rfl rfl ?c1 ?c2 ?c3 ?c4 ?c5 ?_)
     case c1=>
      intro j u hj
      match j,hj with
      |0,hj=>simp at hj;subst hj;simp[Addr.add]
     case c2=>intro u hu;simp at hu;subst hu;rfl
     case c3=>unfold maxLen;omega
     case c4=>omega
     case c5=>simp;omega
     ·intro v' w3 t G _;obtain⟨X,n',A,rfl⟩:∃X n' A,v'=.slice X n' A:=by
       rcases t.2 with⟨e,_⟩|⟨q,A,c0,e,_⟩<;>exact⟨_,_,_,e⟩
      have R:w3.ownsRow (w.heap.size+2) 3 1 (.slice X n' A) (aN P 0 (rows.take (i+1))).length (aL (aN P 0 (rows.take (i+1)))):=by
       rw[V.out];simp only[aL,List.map_append,List.map_cons,List.map_nil,List.length_append,List.length_cons,List.length_nil]at t ⊢;exact t
      have RB:Below (w.heap.size+2) W w3:=(Y.alloc (by omega) _).grown G (by simp;omega) (λk hk=>(y.lt k hk).1);clear t G y V
      go_wp2
      go_roundw
      case rel=>exact⟨i+1,_,_,_,by omega,rfl,by go_num,R,RB⟩
      case measure=>simp[intOf];omega
    |false=>
     have b4:p=false:=by
      cases p with
      |false=>rfl
      |true=>exact absurd (D.mpr (HP.out.mp rfl)) Bool.false_ne_true
     subst b4;rw[if_neg Bool.false_ne_true,List.append_nil]at V;clear HP D;have R:Hid (wc.ownsRow (w.heap.size+2) 3 1 (.slice N M K) (aN P 0 (rows.take (i+1))).length (aL (aN P 0 (rows.take (i+1))))):=by rw[Hid,V.out];exact y
     clear y V
     go_wp2_with fail
     go_roundw
     case rel=>exact⟨i+1,M,K,N,by omega,rfl,by go_num,R.out,Y⟩
     case measure=>simp[intOf];omega
  ·have b2:rows.take i=rows:=List.take_of_length_le (by omega);rw[b2]at z;have HS:Hid (wr.ownsRow w.heap.size 3 1 (.slice N M K) (aN P 0 rows).length (aL (aN P 0 rows))):=qP z (by omega);clear z b2 HV hz
   go_wp2_with fail
   go_ret;exact⟨N,M,K,rfl,HS.out,O⟩
def wG(w0 w:World)(FB:List Nat)(v:Value)(ts:List (aJ × Ex)):Prop:=∃ao cap,v=.slice ao ts.length cap/\ts.length<=1000/\(ts= []\/∃b cur fz,ao=some ⟨b,0,none⟩/\w.heap[b]? =some (.cells cur 235 fz)/\∀(i:Nat) (te:aJ × Ex),ts[i]? =some te->∃r:fw,wD w b i r/\mX w0 r te.1/\dJ w FB (λ_=>True) r.ex te.2)
theorem wG.dS{w0 w:World}{a:List Nat}{v:Value}{c:List (aJ × Ex)}(h:wG w0 w a v c)(hb:Below w0.heap.size w0 w):jm w a v c:=by
 obtain⟨d,cap,j,k,l⟩:=h;refine⟨d,cap,j,k, ?_⟩;rcases l with h|⟨b,cur,fz,e,hk,hc⟩
 ·exact .inl h
 ·refine .inr ⟨b,e,ai hk,λi n m=> ?_⟩;obtain⟨r,g1,f,g⟩:=hc i n m;exact⟨r,g1,f.full hb g⟩
theorem wG.other{w0 w x:World}{k:List Nat}{v:Value}{n:List (aJ × Ex)}(h:wG w0 w k v n){b:Nat}{q:Array Value}{fb:Nat × Nat}(hb:w.heap[b]? =some (.cells q 194 fb))(j:∀g,g≠b->x.heap[g]? =w.heap[g]?):wG w0 x k v n:=by
 obtain⟨p,cap,z,A,B⟩:=h;refine⟨p,cap,z,A, ?_⟩;rcases B with h|⟨g,cur,fz,e,d,hc⟩
 ·exact .inl h
 ·have c:g≠b:=λe=>by subst e;rw[hb]at d;cases d
  refine .inr ⟨g,cur,fz,e,(j g c).trans d,λi D C=> ?_⟩;obtain⟨r,g1,u,y⟩:=hc i D C;refine⟨r,g1.ag λo=>World.cell?_of_block (w:=w) (a:=⟨g,o,none⟩) (j g c),u,y.typed.move (λt f=> ?_) (λ_ _=>trivial)⟩;obtain⟨_,l,s,m⟩:=f;refine j t λe=> ?_;subst e;rw[hb]at m;cases m
theorem Qc{w0 w:World}{bb:Nat}{k:List Nat}{h:List (aJ × Ex)}{f:Option Addr}{o n:Nat}{raws:List fw}(m:w.ownsRow (bb+1) 235 17 (.slice f o n) h.length (dX raws))(z:raws.length=h.length)(y:h.length<=4)
  (x:∀(i:Nat) (r:fw) (d:aJ × Ex),raws[i]? =some r->h[i]? =some d->mX w0 r d.1/\dJ w k (λ_=>True) r.ex d.2):wG w0 w k (.slice f o n) h:=by
 rcases m.2 with⟨e,l⟩|⟨g,cap,p,e,_,v,_⟩
 ·cases e;exact⟨none,0,by rw[l],by omega,.inl (List.length_eq_zero_iff.mp l)⟩
 ·cases e;refine⟨_,_,rfl,by omega,.inr ⟨g,_,_,rfl,v,λi d c=> ?_⟩⟩;have t:=(List.getElem?_eq_some_iff.mp c).1;have b:raws[i]? =some raws[i]:=getElem?_eq_getElem (by omega);obtain⟨q,s⟩:=x i _ d b c;have a:∀j,j<17->w.cell? ⟨g,i*17+j,none⟩=raws[i].arr[j]? :=λj u=>(m.cellAt _ (by omega)).trans (lL raws i _ j b u);exact⟨raws[i],⟨a 0 (by omega),a 1 (by omega),a 2 (by omega),a 3 (by omega),a 4 (by omega),a 5 (by omega),a 6 (by omega),a 7 (by omega),a 8 (by omega),a 9 (by omega),a 10 (by omega),a 11 (by omega),a 12 (by omega),a 13 (by omega),a 14 (by omega),a 15 (by omega),a 16 (by omega)⟩,q,s⟩
def DT(w0 w:World)(o:Except Int (List Fn × List (aJ × Ex)))(e:Ending)(w':World):Prop:=Below w.heap.size w w'/\
 ((∃n:Int,o=.error n/\n≠0/\e=.returned (.tuple #[.agg #[.slice none 0 0,.slice none 0 0],.int .i64 n]))\/
  (∃(fns:List Fn) (tt:List (aJ × Ex)) (FB:List Nat) (fo:Option Addr) (fnn fc:Nat) (to':Option Addr) (tn tc:Nat),o=.ok (fns,tt)/\e=.returned (.tuple #[.agg #[.slice fo fnn fc,.slice to' tn tc],.int .i64 0])/\iP w' FB (.slice fo fnn fc) fns/\wG w0 w' FB (.slice to' tn tc) tt/\∀fn∈fns,0<=fn.body.size/\fn.body.size<=300))
theorem Lf{w0 w:World}{k f:Nat}{p:List Nat}{fns:List Fn}{u:List (aJ × Ex)}(h:pq w0 w k p fns u)(t:w.heap[f]? =some (.cells #[.slice none 0 0,.slice none 0 0] 194 (0,0)))(F:f<k)(K:w0.heap.size<=f):
  ∃(m:Option Addr) (c l:Nat) (d:Option Addr) (o n:Nat),w.heap[k]? =some (.cells #[.slice m c l,.slice d o n] 194 (0,0))/\
   iP ((w.setCell ⟨f,0,none⟩ (.slice m c l)).setCell ⟨f,1,none⟩ (.slice d o n)) p (.slice m c l) fns/\wG w0 ((w.setCell ⟨f,0,none⟩ (.slice m c l)).setCell ⟨f,1,none⟩ (.slice d o n)) p (.slice d o n) u:=by
 obtain⟨m,c,l,d,o,n,j,D,E,x,y,z,A,B,L,C⟩:=h;refine⟨m,c,l,d,o,n,x,y.other t (by simp[World.setCell]) (λg q=>pW _ _ _ _ _ q), ?_⟩;refine Qc (w0:=w0) (bb:=k) (raws:=j) ?_ A B λi r I a b=> ?_
 ·exact ownsRow_setCell_below (ownsRow_setCell_below z (by show f<k+1;omega) _) (by show f<k+1;omega) _
 ·obtain⟨G,H⟩:=C i r I a b;refine⟨G,H.typed.move (λg q=> ?_) (λ_ _=>trivial)⟩;obtain⟨_,v,J,s⟩:=q;refine pW _ _ _ _ _ λe=> ?_;subst e;rw[t]at s;cases s
theorem xE(w0 w:World)(h0:Below w0.heap.size w0 w)(d:List mM)(h8:d.length<=8)(v:Value)(hv:fT w v d)(k:List aJ)(h4:k.length<=4)(r:Option Addr)(tl T:Nat)(c8:jI w0 (.slice r tl T) k):
  Calls prog 62 #[.agg #[v,.slice r tl T]] w λe w'=>DT w0 w (dz d k) e w':=by
 obtain⟨ao,cap,rfl,g3,hz⟩:=hv;obtain⟨g4,GK,b8,e5,b0⟩:=c8
 cases b8;have D:Hid _:=b0;have a1:=h0.size;clear b0;have g2:decide ((8:Int)<(d.length:Int))=false:=by simp;omega
 have e9:decide ((4:Int)<(k.length:Int))=false:=by simp;omega
 go_enter Tryz.func62,Tryz.ntmps62
 go_wp2_with fail
 go_loopw [25] (λR wr=>∃(i:Nat) (J:List Nat) (a:List Fn),i<=d.length/\R=.int .i64 i/\a.length=i/\qp wr (w.heap.size+2) J a/\(∀fn∈a,0<=fn.body.size/\fn.body.size<=300)/\Hid (fq [] d=fq a (d.drop i))/\
   Below (w.heap.size+2) (((w.alloc (.cells #[.slice ao d.length cap,.slice r k.length T] 67)).alloc (.cells #[.slice none 0 0,.slice none 0 0] 194)).alloc (.cells #[.slice none 0 0,.slice none 0 0] 194)) wr) (λR _=>d.length- (intOf R).toNat)
 case atStart=>exact⟨0,[],[],Nat.zero_le _,rfl,rfl,⟨none,0,0,(fP (refl _ _)).2.2.1,World.ownsRow_nil _ _ _ _,rfl,by simp,λi q fn h=>by simp at h⟩,λfn h=>by simp at h,rfl,refl _ _⟩
 case round=>
  obtain⟨i,J,a,hi,rfl,b7,A,C,E,I⟩:=hrel;have e4:w.heap.size+2<wr.heap.size:=by obtain⟨_,_,_,h1,_⟩:=A;exact ai h1
  have B:=jo w (.cells #[.slice ao d.length cap,.slice r k.length T] 67) (.cells #[.slice none 0 0,.slice none 0 0] 194) (.cells #[.slice none 0 0,.slice none 0 0] 194);have hR:wr.heap[w.heap.size+1]? =some (.cells #[.slice none 0 0,.slice none 0 0] 194 (0,0)):=(I.block _ (by omega)).trans (fP (refl _ _)).2.1;have N:wr.heap[w.heap.size]? =some (.cells #[.slice ao d.length cap,.slice r k.length T] 67 (0,0)):=(I.block _ (by omega)).trans (fP (refl _ _)).1;by_cases s:i<d.length
  ·obtain⟨b,l,rfl,hb,hc⟩:∃b l,ao=some ⟨b,l,none⟩/\b<w.heap.size/\∀(i:Nat) (f:mM),d[i]? =some f->(w.cell? ⟨b,l+i*3,none⟩=some (.string (aa f.1))/\w.cell? ⟨b,l+i*3+1,none⟩=some (.string (aa f.2.1))/\w.cell? ⟨b,l+i*3+2,none⟩=some (.string (aa f.2.2)))/\f.1.length<=maxLen/\f.2.2.length<=maxLen:=by
    rcases hz with h|h
    ·subst h;simp at s
    ·exact h
   obtain⟨⟨X,Y,Z⟩,P,Q⟩:=hc i d[i] (getElem?_eq_getElem s);have y:∀j,wr.cell? ⟨b,j,none⟩=w.cell? ⟨b,j,none⟩:=λj=>(I.cell (p:=⟨b,j,none⟩) (by show b<w.heap.size+2;omega)).trans (B.cell (p:=⟨b,j,none⟩) hb);have S:=(y _).trans X;have U:=(y _).trans Y;have V:=(y _).trans Z;have hd:d.drop i=(d[i].1,d[i].2.1,d[i].2.2)::d.drop (i+1):=List.drop_eq_getElem_cons s;rw[hd]at E;obtain⟨x1,a7⟩:∃x,x=d[i].1:=⟨_,rfl⟩;obtain⟨x2,a8⟩:∃x,x=d[i].2.1:=⟨_,rfl⟩;obtain⟨x3,a9⟩:∃x,x=d[i].2.2:=⟨_,rfl⟩;rw[<-a7]at S E P;rw[<-a8]at U E;rw[<-a9]at V E Q;have e8:b<wr.heap.size:=by omega
   have K:=DV _ (w.heap.size+2) J a (A.ag (ae wr (.cells #[.string (aa x1),.string (aa x2),.string (aa x3)] 48))) (by omega) C x1 x2 x3 P Q;clear y X Y Z hc hz hd a7 a8 a9 P Q A
   go_wp2_with(go_at_call 110;refine K.mono ?_)
   rintro e F (⟨n,ho,hn,rfl,hb5⟩|⟨fn,q,ho,rfl,g,hb5⟩)
   ·have HE:Hid (fq [] d=.error n):=by rw[Hid,E.out];exact DW ho _
    have g:Below wr.heap.size wr F:=(ae wr _).trans (hb5.mono (by simp[size_alloc]));have c7:=g.size;have BX:Below w.heap.size w F:=(B.trans (I.mono (by omega))).trans (g.mono (by omega));obtain⟨z0,g0,z1,g1⟩:=mi ((g.block _ (by omega)).trans hR);have b6:w.heap.size+1<F.heap.size:=by omega
    have c6:(n==0)=false:=by simpa using hn
    clear K E I hR N hb5 g B S U V
    go_wp2_with fail
    exact bodyPost_ret (v:=.tuple #[.agg #[.slice none 0 0,.slice none 0 0],.int .i64 n]) (by simp[results,Tryz.results62,go_sem,z0,z1]) rfl ⟨(BX.setCell (by simp) _).setCell (by simp) _,.inl ⟨n,by rw[Bf h8 h4 HE.out],hn,rfl⟩⟩
   ·have HN:Hid (fq [] d=fq (a++ [fn]) (d.drop (i+1))):=by rw[Hid,E.out];exact JX ho _
    have a6:∀f∈a++ [fn],0<=f.body.size/\f.body.size<=300:=by
     intro f hf;rcases List.mem_append.mp hf with h|h
     ·exact C f h
     ·rw[List.mem_singleton.mp h];exact Aq C ho
    have RB:Below (w.heap.size+2) (((w.alloc (.cells #[.slice (some ⟨b,l,none⟩) d.length cap,.slice r k.length T] 67)).alloc (.cells #[.slice none 0 0,.slice none 0 0] 194)).alloc (.cells #[.slice none 0 0,.slice none 0 0] 194)) F:=I.trans (((ae wr _).mono (by omega)).trans hb5);clear K E I hR N hb5 B S U V ho
    go_wp2
    go_roundw
    case rel=>exact⟨i+1,J++ [q],a++ [fn],by omega,by go_num,by simp[b7],g,a6,HN,RB⟩
    case measure=>simp[intOf];omega
  ·have HE:Hid (fq [] d=.ok a):=by rw[Hid,E.out,drop_of_length_le (by omega)];rfl
   have BX:Below w.heap.size w wr:=B.trans (I.mono (by omega));have a2:=Ie A (by omega) (h0.trans (BX.mono a1));have b1:wr.cell? ⟨w.heap.size,1,none⟩=some (.slice r k.length T):=(af N).trans rfl;generalize c9:wr=wa at*;clear c9 E A hz
   go_wp2_with fail
   go_loopw [39] (λR wx=>∃(j:Nat) (c:List (aJ × Ex)),j<=k.length/\R=.int .i64 j/\c.length=j/\pq w0 wx (w.heap.size+2) J a c/\Hid (iw a [] k=iw a c (k.drop j))/\Below (w.heap.size+2) wa wx) (λR _=>k.length- (intOf R).toNat)
   case atStart=>exact⟨0,[],Nat.zero_le _,rfl,rfl,a2,rfl,refl _ _⟩
   case round=>
    obtain⟨j,c,hj,rfl,b9,m,H,M⟩:=hrel;generalize e2:wr=wj at*;clear e2 a2;have e3:w.heap.size+2<wj.heap.size:=by obtain⟨_,_,_,_,_,_,_,_,_,h1,_⟩:=m;exact ai h1
    have u:wj.heap[w.heap.size+1]? =some (.cells #[.slice none 0 0,.slice none 0 0] 194 (0,0)):=(M.block _ (by omega)).trans hR;have z:Below w.heap.size w wj:=BX.trans (M.mono (by omega));by_cases s:j<k.length
    ·obtain⟨b,l,rfl,hb,hc⟩:∃b l,r=some ⟨b,l,none⟩/\b<w0.heap.size/\∀(i:Nat) (t:aJ),k[i]? =some t->Ao w0 b (l+i*6) t:=by
      rcases D.out with h|h
      ·subst h;simp at s
      ·exact h
     obtain⟨co,cn,cc,ro,rn,rc,uo,un,uc,⟨X,Y,Z,c3,c4,c5⟩,hC,O,hU,a4,a5⟩:=hc j k[j] (getElem?_eq_getElem s);have y:∀o,wj.cell? ⟨b,o,none⟩=w0.cell? ⟨b,o,none⟩:=λo=>(h0.trans (z.mono a1)).cell (p:=⟨b,o,none⟩) hb;have S:=(y _).trans X;have U:=(y _).trans Y;have V:=(y _).trans Z;have q3:=(y _).trans c3;have q4:=(y _).trans c4;have q5:=(y _).trans c5;have e7:b<wj.heap.size:=by have:=z.size;omega
     have hd:k.drop j=k[j]::k.drop (j+1):=List.drop_eq_getElem_cons s;rw[hd]at H;obtain⟨t,ht⟩:∃t,t=k[j]:=⟨_,rfl⟩;rw[<-ht]at S q3 q4 H hC O hU a4 a5;have K:=BH w0 _ (w.heap.size+2) J a c (m.ag (ae wj (.cells #[.string (aa t.name),.slice co cn cc,.slice ro rn rc,.int .i64 t.count,.string (aa t.aD),.slice uo un uc] 54))) (by omega) C t co cn cc ro rn rc uo un uc hC O hU a4 a5;clear y X Y Z c3 c4 c5 hc hd ht hC O hU m D
     go_wp2_with(go_at_call 111;refine K.mono ?_)
     rintro e F (⟨n,ho,hn,rfl,hb5⟩|⟨x,ho,rfl,g,hb5⟩)
     ·have L:Hid (dz d k=.error n):=by rw[Hid,pR h8 h4 HE.out,H.out,iw,ho];rfl
      have g:Below wj.heap.size wj F:=(ae wj _).trans (hb5.mono (by simp[size_alloc]));have c7:=g.size;have b4:Below w.heap.size w F:=z.trans (g.mono z.size);obtain⟨z0,g0,z1,g1⟩:=mi ((g.block _ (by omega)).trans u);have b6:w.heap.size+1<F.heap.size:=by omega
      have c6:(n==0)=false:=by simpa using hn
      clear K H u hb5 g S U V q3 q4 q5
      go_wp2_with fail
      exact bodyPost_ret (v:=.tuple #[.agg #[.slice none 0 0,.slice none 0 0],.int .i64 n]) (by simp[results,Tryz.results62,go_sem,z0,z1]) rfl ⟨(b4.setCell (by simp) _).setCell (by simp) _,.inl ⟨n,L.out,hn,rfl⟩⟩
     ·have HN:Hid (iw a [] k=iw a (c++ [(t,x)]) (k.drop (j+1))):=by rw[Hid,H.out,iw,ho]
      have RB:Below (w.heap.size+2) wa F:=M.trans (((ae wj _).mono (by omega)).trans hb5);clear K H u hb5 S U V q3 q4 q5 ho
      go_wp2
      go_roundw
      case rel=>exact⟨j+1,c++ [(t,x)],by omega,by go_num,by simp[b9],g,HN,RB⟩
      case measure=>simp[intOf];omega
    ·have L:Hid (dz d k=.ok (a,c)):=by rw[Hid,pR h8 h4 HE.out,H.out,drop_of_length_le (by omega)];rfl
     obtain⟨fo,a0,fc,b3,tn,b2,b5⟩:=Lf m u (by omega) (by omega);obtain⟨a3,W⟩:=b5;obtain⟨z0,g0,z1,g1⟩:=mi u;obtain⟨e0,_,e1,_⟩:=mi a3;have e6:w.heap.size+2≠w.heap.size+1:=by omega
     have G:Hid _:=W;clear H m u a3 W D
     go_wp2_with fail
     exact bodyPost_ret (v:=.tuple #[.agg #[.slice fo a0 fc,.slice b3 tn b2],.int .i64 0]) (by simp[results,Tryz.results62,go_sem,z0,z1]) rfl ⟨(z.setCell (by simp) _).setCell (by simp) _,.inr ⟨a,c,J,fo,a0,fc,b3,tn,b2,L.out,rfl,G.out.1,G.out.2,C⟩⟩
theorem zO(w0 w:World)(r:Below w0.heap.size w0 w)(a:List mM)(v:Value)(l:fT w v a)(g:List aJ)(f:Option Addr)(o n:Nat)(c:jI w0 (.slice f o n) g):
  Calls prog 62 #[.agg #[v,.slice f o n]] w λe w'=>DT w0 w (dz a g) e w':=by
 by_cases t:a.length<=8
 ·by_cases s:g.length<=4
  ·exact xE w0 w r a t v l g s f o n c
  ·obtain⟨q,cap,rfl,k,m⟩:=l;obtain⟨p,GK,b,h,d⟩:=c
   cases b;have i:Hid (dz a g=.error 9):=by rw[Hid,dz,if_pos (by omega)]
   have j:decide ((8:Int)<(a.length:Int))=false:=by simp;omega
   have u:decide ((4:Int)<(g.length:Int))=true:=by simp;omega
   clear m d;go_enter Tryz.func62,Tryz.ntmps62
   go_wp2_with fail
   refine bodyPost_ret (v:=.tuple #[.agg #[.slice none 0 0,.slice none 0 0],.int .i64 9]) (by simp[results,Tryz.results62,go_sem]) rfl ⟨?_,.inl ⟨9,i.out,by decide,rfl⟩⟩;exact az w _ _
 ·obtain⟨q,cap,rfl,k,m⟩:=l;obtain⟨p,GK,b,h,d⟩:=c
  cases b;have i:Hid (dz a g=.error 9):=by rw[Hid,dz,if_pos (by omega)]
  have j:decide ((8:Int)<(a.length:Int))=true:=by simp;omega
  clear m d;go_enter Tryz.func62,Tryz.ntmps62
  go_wp2_with fail
  refine bodyPost_ret (v:=.tuple #[.agg #[.slice none 0 0,.slice none 0 0],.int .i64 9]) (by simp[results,Tryz.results62,go_sem]) rfl ⟨?_,.inl ⟨9,i.out,by decide,rfl⟩⟩;exact az w _ _
end Go.Proofs.YtdifpeaklamhnaaGreatDoor
