import Derived.Test.YtdifpeaklamhnaaGreatDoorBldZ
set_option linter.unusedVariables false
set_option linter.unusedSimpArgs false
set_option maxRecDepth 100000
set_option maxHeartbeats 0
namespace Go.Proofs.YtdifpeaklamhnaaGreatDoor
open Go.RowKit
open List (cons_append headD_cons all_cons nil_append)
theorem gD.get{w:World}{S:Nat->Prop}{cs:List Value}{e:List Tr}(h:gD w S cs e)(i:Nat)(g:i<e.length):∃c,lh w S c e[i]/\∀j,j<4->cs[i*4+j]? =c[j]? :=by
 induction e generalizing cs i with
 |nil=>simp at g
 |cons t e ih=>
  cases h with
  | @cons c cs _ _ a b=>
   cases i with
   |zero=>exact⟨c,a,λj k=>by rw[List.getElem?_append_left (by rw[a.four];omega)];simp⟩
   |succ i=>
    obtain⟨d,l,k⟩:=ih b i (by simpa using g);refine⟨d,l,λj f=> ?_⟩;rw[<-k j f,List.getElem?_append_right (by rw[a.four];omega),a.four];congr 1;omega
theorem lh.inv{w:World}{S:Nat->Prop}{c:List Value}{t:Tr}(h:lh w S c t):∃k i f e j n cap cs,t=.mk k i f e/\c= [.int .i64 k,.string (aa i),.bool f,.slice j n cap]/\n=e.length/\gD w S cs e/\
  w.ownsRow 0 96 4 (.slice j n cap) e.length cs/\∀g,(Value.slice j n cap).ownBlock=some g->S g:=by
 cases h with
 | @mk k i f e v cs a b d=>
  rcases b.2 with⟨rfl,m⟩|⟨g,cap,l,rfl,o⟩
  ·exact⟨k,i,f,e,none,0,0,cs,rfl,rfl,m.symm,a,b,d⟩
  ·exact⟨k,i,f,e,_,_,_,cs,rfl,rfl,rfl,a,b,d⟩
theorem Aj(w:World):Lib.IsBuilderF 176 5 w.heap.size w.heap.size (Lib.byteCells []) (w.alloc (.cells #[.pointer none,.slice none 0 0] 176)):=
 Lib.IsBuilderF.of (.inl ⟨Nat.le_refl _,.slice none 0 0,bI w _,World.ownsRow_nil _ _ _ _,by simp[Value.ownBlock]⟩)
mutual
def Uw:Tr->Nat
 | .mk _ _ br ops=>if br then 1+Ir ops else 0
def Ir:List Tr->Nat
 | []=>0
 |t::ts=>max (Uw t) (Ir ts)
end
def xX(l:Bs):Bool:=l.all λc=>eD c.toNat
def pu(c:UInt8):Bool:=eD c.toNat||aL c.toNat
def rY(r:Bs):Prop:=r= []\/pu (r.headD 0)=true
def Good(tx:Bs):Prop:=(tx≠ []/\tx.all (λc=> !pu c&&c != 39)=true)\/(∃inner:Bs,tx=39::(inner++ [39])/\inner.all (λc=>c != 39)=true)
theorem Cn(c:UInt8)(l:Bs):xX (c::l)=(eD c.toNat&&xX l):=rfl
theorem Gw(b l:Bs)(h:xX b=true):bE (b++l)=bE l:=by
 induction b with
 |nil=>rfl
 |cons c r ih=>
  rw[Cn,Bool.and_eq_true]at h;rw[pq _ (by simp)];simp only[cons_append,headD_cons,h.1,if_true,List.drop_succ_cons,List.drop_zero];exact ih h.2
theorem Gx(a r:Bs)(b:0<a.length)(hb:eD (a.headD 0).toNat=false)(d:eO (a++r)=a.length):bE (a++r)=if aQ a=0 then none else(bE r).map ((aQ a,a):: ·):=by
 have c:(a++r).headD 0=a.headD 0:=by cases a with|nil=>simp at b|cons _ _=>rfl
 rw[pq _ (by simp;omega),c,hb,if_neg Bool.false_ne_true,d,List.take_left,List.drop_left]
theorem kP(c:UInt8):dC c= !pu c:=by simp[dC,pu]
theorem Kw(r:Bs)(h:rY r):r.takeWhile dC= []:=by
 rcases h with rfl|h
 ·rfl
 ·cases r with
  |nil=>rfl
  |cons c r=>
   have:dC c=false:=by rw[kP];simp only[headD_cons]at h;rw[h];rfl
   rw[List.takeWhile_cons,this];rfl
theorem Ur(a r:Bs)(h:a.all dC=true)(b:rY r):(a++r).takeWhile dC=a:=by
 induction a with
 |nil=>exact Kw r b
 |cons c t ih=>
  rw[all_cons,Bool.and_eq_true]at h;rw[cons_append,List.takeWhile_cons,h.1,if_pos rfl,ih h.2]
theorem VM(a r:Bs)(h:a.all (λc=>c != 39)=true):(a++39::r).takeWhile (· != 39)=a:=by
 induction a with
 |nil=>rfl
 |cons c t ih=>
  rw[all_cons,Bool.and_eq_true]at h;rw[cons_append,List.takeWhile_cons,h.1,if_pos rfl,ih h.2]
theorem EN{a:Bs}(h:Good a):0<a.length:=by
 rcases h with⟨h,_⟩|⟨i,rfl,_⟩
 ·exact List.length_pos_iff.mpr h
 ·simp
theorem vF{a:Bs}(h:Good a):pu (a.headD 0)=false:=by
 rcases h with⟨h,b⟩|⟨i,rfl,_⟩
 ·cases a with
  |nil=>exact absurd rfl h
  |cons c t=>rw[all_cons,Bool.and_eq_true]at b;have:=b.1;simp at this;simpa using this.1
 ·rfl
theorem rJ{c:UInt8}(h:pu c=false):eD c.toNat=false/\aL c.toNat=false:=by
 unfold pu at h;simpa using h
theorem LA{a r:Bs}(h:Good a)(j:rY r):eO (a++r)=a.length:=by
 have m:=vF h;have n:=EN h;have f:(a++r).headD 0=a.headD 0:=by cases a with|nil=>simp at n|cons _ _=>rfl
 unfold eO;rw[f,(rJ m).2,if_neg Bool.false_ne_true];rcases h with⟨h,b⟩|⟨i,rfl,b⟩
 ·have g:ma (a++r)=0:=by
   unfold ma;rw[f]
   cases a with
   |nil=>exact absurd rfl h
   |cons c t=>
    rw[all_cons,Bool.and_eq_true]at b;have:=b.1;simp at this;rw[headD_cons,if_neg];simpa using this.2
  have k:a.all dC=true:=by
   rw[List.all_eq_true]at b ⊢;intro c l;have:=b c l;simp at this;rw[kP,this.1];rfl
  rw[g,List.drop_zero,Ur a r k j,Nat.zero_add]
 ·have e:((39::(i++ [39]))++r).drop 1=i++39::r:=by simp
  have g:ma ((39::(i++ [39]))++r)=i.length+2:=by
   unfold ma;rw[e,VM i r b,if_pos (by rfl),if_pos];rw[List.contains_iff_mem];simp
  rw[g];have d:((39::(i++ [39]))++r).drop (i.length+2)=r:=by
   have:(39::(i++ [39])).length=i.length+2:=by simp
   rw[<-this,List.drop_left]
  rw[d,Kw r j];simp
mutual
def vY:Tr->List Tk
 | .mk k tx br ops=>if br then(1,[40])::(k,tx)::(qW ops++ [(2,[41])])else [(k,tx)]
def qW:List Tr->List Tk
 | []=>[]
 |t::ts=>vY t++qW ts
end
mutual
inductive Wf:Tr->Prop
 |leaf {k:Int} {tx:Bs} :aQ tx=k->k≠0->¬k=1->¬k=2->Good tx->fT k tx=true->Wf (.mk k tx false [])
 |node {k:Int} {tx:Bs} {ops:List Tr} :aQ tx=k->k≠0->Good tx->ku k tx=true->SH ops->Wf (.mk k tx true ops)
inductive SH:List Tr->Prop
 |nil:SH []
 |cons {t:Tr} {ts:List Tr} :Wf t->SH ts->SH (t::ts)
end
theorem Iz{x:Tr}(h:Wf x):∃t r,vY x=t::r/\¬t.1=2:=by
 cases h with
 |leaf b c d a e f=>exact⟨_,[],by rw[vY];rfl,a⟩
 |node b c d a e=>exact⟨(1,[40]),_,by rw[vY];rfl,by decide⟩
mutual
theorem zq:∀ {x:Tr} {f deep:Nat} {r:List Tk},Wf x->deep+Uw x<=20->2*(vY x).length<=f->gX f deep (vY x++r)=some (x,r)
 |_,f,deep,r,.leaf h1 h2 h3 h4 h5 h6,_,hf=>by
  rw[vY]at hf ⊢;simp at hf;obtain⟨g,rfl⟩:∃g,f=g+1:=⟨f- 1,by omega⟩;simp only[Bool.false_eq_true,if_false,cons_append,nil_append];rw[gX,if_neg h3,h6,if_pos rfl]
 |_,f,deep,r, @Wf.node k tx ops h1 h2 h3 h4 h5,hd,hf=>by
  rw[Uw,if_pos rfl]at hd;rw[vY,if_pos rfl]at hf ⊢;simp only[List.length_cons,List.length_append,List.length_nil]at hf;obtain⟨g,rfl⟩:∃g,f=g+2:=⟨f- 2,by omega⟩;have:=wW (r:=r) (f:=g) (deep:=deep+1) h5 (by omega) (by omega);simp only[cons_append,List.append_assoc,nil_append];rw[gX,if_pos rfl,DL,if_neg (by omega),h4,if_pos rfl,this];rfl
theorem wW:∀ {c:List Tr} {f deep:Nat} {r:List Tk},SH c->deep+Ir c<=20->2*(qW c).length+1<=f->lH f deep (qW c++(2,[41])::r)=some (c,r)
 |_,f,deep,r,.nil,_,hf=>by
  obtain⟨g,rfl⟩:∃g,f=g+1:=⟨f- 1,by omega⟩;rw[qW,nil_append,lH,if_pos rfl]
 |_,f,deep,r, @SH.cons t ts h1 h2,hd,hf=>by
  rw[Ir]at hd;rw[qW,List.length_append]at hf;obtain⟨a,b,d,h⟩:=Iz h1;obtain⟨g,rfl⟩:∃g,f=g+1:=⟨f- 1,by omega⟩;have i:1<=(vY t).length:=by rw[d];simp
  have e:=zq (f:=g) (deep:=deep) (r:=qW ts++(2,[41])::r) h1 (by omega) (by omega);have i2:=wW (f:=g) (deep:=deep) (r:=r) h2 (by omega) (by omega);rw[qW,List.append_assoc];rw[d,cons_append]at e;rw[d,cons_append,lH,if_neg h,e];simp only;rw[i2];rfl
end
end Go.Proofs.YtdifpeaklamhnaaGreatDoor
