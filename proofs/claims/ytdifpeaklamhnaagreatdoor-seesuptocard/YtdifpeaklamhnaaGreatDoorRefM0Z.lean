import Derived.Test.YtdifpeaklamhnaaGreatDoorRef6Z
import Derived.Test.YtdifpeaklamhnaaGreatDoorDecoQZ
import Derived.Deep.AppendLies
set_option linter.unusedVariables false
set_option linter.unusedSimpArgs false
set_option maxRecDepth 100000
set_option maxHeartbeats 0
namespace Go.Proofs.YtdifpeaklamhnaaGreatDoor
open Go.Proofs.Tryz
open Go.RowKit
open List (all_eq_true all_cons headD_cons cons_append takeWhile_cons drop_zero take_left take_succ_cons drop_drop length_drop append_nil append_assoc)
open Bool (and_eq_true or_eq_true eq_false_iff)
open World (setCell)
open Value (int slice)
open Below (heap_setCell heap_alloc)
open Nat (add_comm eq_zero_or_pos le_refl)
def qh(l:Bs):Bool:=l.all λc=> !(c==39)
theorem vJ{l:Bs}(h:aU l=true):qh l=true:=by
 unfold aU at h;simp only[and_eq_true]at h;unfold qh;rw[all_eq_true];intro c b;have:=List.all_eq_true.mp h.2 c b
 cases a:(c==39)with
 |false=>rfl
 |true=>rw[beq_iff_eq]at a;subst a;simp[zK,eB,bQ]at this
theorem Mo(l:Bs):∀n:Int,bO l n=true->qh l=true:=by
 induction l with
 |nil=>intro n _;rfl
 |cons c r ih=>
  intro n h;rw[bO,and_eq_true,and_eq_true]at h;have b:=jW h.1.1;unfold qh;rw[all_cons,and_eq_true];refine⟨?_,ih _ h.2⟩
  cases a:(c==39)with
  |false=>rfl
  |true=>rw[beq_iff_eq]at a;subst a;simp at b
theorem Pb{l:Bs}(h:dK l=true):qh l=true:=by
 unfold dK at h;rw[or_eq_true]at h;rcases h with h|h
 ·rw[beq_iff_eq]at h;subst h;decide
 ·simp only[and_eq_true]at h;have b:=Mo _ _ h.2;unfold aX at b
  cases l with
  |nil=>rfl
  |cons c r=>
   rw[headD_cons]at b
   cases a:(c==45)with
   |true=>
    rw[a,if_pos rfl]at b;rw[beq_iff_eq]at a;subst a;unfold qh at b ⊢;rw[all_cons];simpa using b
   |false=>rw[a,if_neg Bool.false_ne_true]at b;exact b
theorem Pd{l:Bs}(h:iC l=true):qh l=true:=by
 unfold iC at h;simp only[and_eq_true,decide_eq_true_eq]at h;obtain⟨⟨⟨d,e⟩,f⟩,_⟩:=h
 match l,d with
 | [a,b],_=>
  have g:a=36:=by simpa using e
  have hb:=jW f;subst g;unfold qh;have:(b==39)=false:=by
   cases c:(b==39)with
   |false=>rfl
   |true=>rw[beq_iff_eq]at c;subst c;simp at hb
  simp[this]
theorem OZ{l:Bs}(h:iV l=true):qh l=true:=by
 unfold iV at h;simp only[and_eq_true]at h;obtain⟨⟨g,d⟩,f⟩:=h;have a1:=vJ d;have a2:=vJ f;have e:=zB l;have i:=(pK l 46 g);unfold qh at*;rw[e,List.all_append,a1,Bool.true_and]
 cases b:l.dropWhile (· != 46)with
 |nil=>rfl
 |cons c r=>
  rw[b]at a2;have a:(c != 46)=false:=by
   have:=List.head?_dropWhile_not (p:=(· != 46)) l;rw[b]at this;simpa using this
  have:c=46:=by simpa using a
  subst this;rw[all_cons];simpa using a2
theorem Mq{l:Bs}(h:jD l=true):qh l=true:=by
 unfold jD at h;simp only[or_eq_true,beq_iff_eq]at h;rcases h with(((((h|h)|h)|h)|h)|h)|h<;>(subst h;decide)
theorem qM{l:Bs}(h:aT l≠0):cB l=true\/qh l=true:=by
 unfold aT at h;split at h
 ·next e=>right;rw[beq_iff_eq]at e;subst e;decide
 ·split at h
  ·next e=>right;rw[beq_iff_eq]at e;subst e;decide
  ·split at h
   ·next e=>right;exact Mq e
   ·split at h
    ·next e=>right;exact Pb e
    ·split at h
     ·next e=>left;exact e
     ·split at h
      ·next e=>right;exact Pd e
      ·split at h
       ·next e=>right;exact vJ e
       ·split at h
        ·next e=>right;exact OZ e
        ·exact absurd rfl h
theorem tq{l:Bs}(h:cB l=true):∃a:Bs,l=39::(a++ [39])/\a.all (λc=>c != 39)=true:=by
 unfold cB at h;simp only[and_eq_true,decide_eq_true_eq]at h;obtain⟨⟨⟨⟨g,_⟩,n⟩,i⟩,b⟩:=h
 cases l with
 |nil=>simp at g
 |cons c r=>
  have o:c=39:=by simpa using n
  subst o
  cases f:r.reverse with
  |nil=>rw[List.reverse_eq_nil_iff]at f;subst f;simp at g
  |cons d m=>
   have e:r=m.reverse++ [d]:=by have:=congrArg List.reverse f;simpa using this
   subst e;have p:d=39:=by
    have j:(39::(m.reverse++ [d])).getD ((39::(m.reverse++ [d])).length- 1) 0=d:=by
     rw[List.getD_eq_getElem?_getD];simp
    rw[j]at i;simpa using i
   subst p;refine⟨m.reverse,rfl, ?_⟩;have k:((39::(m.reverse++ [39])).take ((39::(m.reverse++ [39])).length- 1)).drop 1=m.reverse:=by simp
   rw[k]at b;rw[all_eq_true]at b ⊢;intro x q;have:=b x q;unfold qR at this;simp only[and_eq_true]at this;simpa using this.2
theorem Gp(i r:Bs)(h:i.all (λc=>c != 39)=true):oO (i++39::r)=i.length+1:=by
 induction i with
 |nil=>rfl
 |cons c t ih=>
  rw[all_cons,and_eq_true]at h;have:(c==39)=false:=by simpa using h.1
  rw[cons_append,oO,this,if_neg Bool.false_ne_true,ih h.2];simp
theorem PI(t r:Bs)(h:t.all jP=true)(a:r= []\/jP (r.headD 0)=false):ql (t++r)=t.length:=by
 induction t with
 |nil=>
  rcases a with rfl|a
  ·rfl
  ·cases r with
   |nil=>rfl
   |cons c r=>simp only[headD_cons]at a;rw[List.nil_append,ql,a];rfl
 |cons c t ih=>
  rw[all_cons,and_eq_true]at h;rw[cons_append,ql,h.1,if_pos rfl,ih h.2];simp
theorem vQ(c:UInt8):jP c=(!oU c&& !(c==39)):=by unfold jP oU;cases eF c.toNat<;>cases aM c.toNat<;>rfl
theorem PQ{l:Bs}{n:Nat}(h:si (l.drop n)):mD l n=true:=by
 unfold mD;rcases h with h|h
 ·rw[h];rfl
 ·cases a:l.drop n with
  |nil=>rfl
  |cons c r=>
   rw[a]at h;simp only[headD_cons]at h ⊢;unfold oU at h;rw[or_eq_true]at h;rcases h with h|h
   ·have:0<kG (c::r):=by unfold kG;rw[takeWhile_cons,qg,h];simp
    rw[decide_eq_true this];rfl
   ·rw[h];simp
theorem Oj{l:Bs}{n:Nat}(h:mD l n=true):si (l.drop n):=by
 unfold mD at h
 cases a:l.drop n with
 |nil=>exact .inl rfl
 |cons c r=>
  rw[a]at h;right;simp only[headD_cons,or_eq_true,decide_eq_true_eq]at h ⊢;rcases h with(h|h)|h
  ·unfold kG at h;rw[takeWhile_cons]at h
   cases hb:qg c with
   |true=>unfold qg at hb;unfold oU;rw[hb];rfl
   |false=>rw[hb]at h;simp at h
  ·cases h
  ·unfold oU;rw[h];simp
theorem JE{b r:Bs}(g:Good b)(f:si r):bU (b++r)=b.length/\cO (b++r)=b:=by
 have a:bU (b++r)=b.length:=by
  have o:=vD g;rcases g with⟨j,d⟩|⟨i,rfl,d⟩
  ·cases b with
   |nil=>exact absurd rfl j
   |cons c t=>
    rw[all_cons,and_eq_true]at d;have k:(c==39)=false:=by have:=d.1;simp at this;simpa using this.2
    have l:t.all jP=true:=by
     rw[all_eq_true];intro x n;have:=List.all_eq_true.mp d.2 x n;rw[vQ];simpa[bne]using this
    have m:r= []\/jP (r.headD 0)=false:=by
     rcases f with h|h
     ·exact .inl h
     ·right;rw[vQ,h];rfl
    unfold bU;simp only[cons_append,headD_cons,List.drop_succ_cons,drop_zero,k,Bool.false_eq_true,if_false];rw[PI t r l m];simp;omega
  ·unfold bU;have e:((39::(i++ [39]))++r).drop 1=i++39::r:=by simp
   rw[e,Gp i r d];simp;omega
 refine⟨a, ?_⟩;unfold cO;rw[a,take_left,PQ (by rw[List.drop_left];exact f)];rfl
theorem BK(l:Bs):(l.take (ql l)).all jP=true:=by
 induction l with
 |nil=>rfl
 |cons c r ih=>
  rw[ql]
  cases h:jP c with
  |true=>rw[if_pos rfl,take_succ_cons,all_cons,h,ih];rfl
  |false=>rfl
theorem MO(l:Bs):(∃i r,l=i++39::r/\i.all (λc=>c != 39)=true/\oO l=i.length+1)\/(qh l=true/\oO l=l.length):=by
 induction l with
 |nil=>right;exact⟨rfl,rfl⟩
 |cons c r ih=>
  cases h:(c==39)with
  |true=>
   left;refine⟨[],r, ?_,rfl, ?_⟩
   ·rw[beq_iff_eq]at h;rw[h];rfl
   ·rw[oO,h];rfl
  |false=>
   rcases ih with⟨i,t,rfl,b,a⟩|⟨d,a⟩
   ·left;refine⟨c::i,t,rfl, ?_, ?_⟩
    ·rw[all_cons,b];simpa using h
    ·rw[oO,h,if_neg Bool.false_ne_true,a];simp
   ·right;refine⟨?_, ?_⟩
    ·unfold qh at*;rw[all_cons,d,h];rfl
    ·rw[oO,h,if_neg Bool.false_ne_true,a];simp
theorem IJ{l:Bs}(p:0<l.length)(n:oU (l.headD 0)=false)(k:cO l≠ [])(b:aT (cO l)≠0):∃r,l=cO l++r/\Good (cO l)/\si r/\r=l.drop (bU l):=by
 unfold cO at k b ⊢
 cases h:mD l (bU l)with
 |false=>rw[h]at k;exact absurd rfl k
 |true=>
  rw[h,if_pos rfl]at b;rw[if_pos rfl];refine⟨l.drop (bU l),(List.take_append_drop _ _).symm, ?_,Oj h,rfl⟩
  cases l with
  |nil=>simp at p
  |cons c r=>
   rw[headD_cons]at n;unfold bU at b ⊢;simp only[headD_cons,List.drop_succ_cons,drop_zero]at b ⊢
   cases a:(c==39)with
   |false=>
    rw[a,if_neg Bool.false_ne_true,add_comm,take_succ_cons]at b;rw[if_neg Bool.false_ne_true,add_comm,take_succ_cons];refine .inl ⟨by simp, ?_⟩;rw[all_cons,n,and_eq_true];refine⟨by simpa using a, ?_⟩;have:=BK r;rw[all_eq_true]at this ⊢;intro x u;have g:=this x u;rw[vQ]at g;simpa[bne]using g
   |true=>
    rw[a,if_pos rfl,add_comm,take_succ_cons]at b;rw[if_pos rfl,add_comm,take_succ_cons];have q:c=39:=by simpa using a
    subst q;rcases MO r with⟨i,t,rfl,s,j⟩|⟨m,j⟩
    ·rw[j];have e:(i++39::t).take (i.length+1)=i++ [39]:=by
      rw[show i++39::t=(i++ [39])++t by simp];have:(i++ [39]).length=i.length+1:=by simp
      rw[<-this,take_left]
     rw[e];exact .inr ⟨i,rfl,s⟩
    ·exfalso;rw[j,List.take_length]at b;rcases qM b with hq2|d
     ·obtain⟨f,e,_⟩:=tq hq2;have o:r=f++ [39]:=by simpa using e
      subst o;unfold qh at m;simp at m
     ·unfold qh at d;rw[all_cons]at d;cases d
theorem Bp(l:Bs)(p:UInt8->Bool):l=l.takeWhile p++l.dropWhile p:=(List.takeWhile_append_dropWhile).symm
theorem nL(l:Bs)(p:UInt8->Bool):l.take (l.takeWhile p).length=l.takeWhile p/\l.drop (l.takeWhile p).length=l.dropWhile p:=by
 have e:=Bp l p;constructor
 ·have:(l.takeWhile p++l.dropWhile p).take (l.takeWhile p).length=l.takeWhile p:=take_left;rw[<-e]at this;exact this
 ·have:(l.takeWhile p++l.dropWhile p).drop (l.takeWhile p).length=l.dropWhile p:=List.drop_left;rw[<-e]at this;exact this
theorem Tn(l:Bs):si (l.dropWhile dC):=by
 cases a:l.dropWhile dC with
 |nil=>exact .inl rfl
 |cons c r=>
  right;have:dC c=false:=by
   have:=List.head?_dropWhile_not (p:=dC) l;rw[a]at this;simpa using this
  rw[kD]at this;simpa using this
theorem zS{l:Bs}(q:0<l.length)(d:oU (l.headD 0)=false)(f:aT (l.take (eT l))≠0):Good (l.take (eT l))/\si (l.drop (eT l)):=by
 have j:eT l=lJ l+((l.drop (lJ l)).takeWhile dC).length:=by
  unfold eT;rw[(rH d).2,if_neg Bool.false_ne_true]
 have b:si (l.drop (eT l)):=by
  rw[j,<-drop_drop,(nL _ _).2];exact Tn _
 refine⟨?_,b⟩
 cases l with
 |nil=>simp at q
 |cons c r=>
  rw[headD_cons]at d
  cases a:(c==39)with
  |false=>
   have y:lJ (c::r)=0:=by unfold lJ;rw[headD_cons,a];rfl
   rw[y,drop_zero,Nat.zero_add]at j;have z:(c::r).take (eT (c::r))=(c::r).takeWhile dC:=by rw[j];exact(nL _ _).1
   rw[z]at f ⊢;have g:(c::r).takeWhile dC≠ []:=by rw[takeWhile_cons,kD,d];simp
   have w:qh ((c::r).takeWhile dC)=true:=by
    rcases qM f with h|h
    ·obtain⟨i,e,_⟩:=tq h;rw[takeWhile_cons,kD,d]at e;simp only[Bool.not_false,if_true,List.cons.injEq]at e;rw[e.1]at a;cases a
    ·exact h
   refine .inl ⟨g, ?_⟩;rw[all_eq_true];intro x o;have k:dC x=true:=by
    have:=List.all_takeWhile (l:=c::r) (p:=dC);rw[all_eq_true]at this;exact this x o
   have s:=List.all_eq_true.mp w x o;rw[kD]at k;rw[k];simpa[bne]using s
  |true=>
   have t:c=39:=by simpa using a
   subst t;rcases qM f with h|h
   ·obtain⟨i,e,u⟩:=tq h;rw[e];exact .inr ⟨i,rfl,u⟩
   ·exfalso;have n:0<eT (39::r):=oN _ (by simp) (rH d).1;obtain⟨m,v⟩:∃m,eT (39::r)=m+1:=⟨eT (39::r)- 1,by omega⟩;rw[v,take_succ_cons]at h;unfold qh at h;rw[all_cons]at h;cases h
theorem Qh{l:Bs}(a:0<l.length)(e:oU (l.headD 0)=false)(c:aT (l.take (eT l))≠0):cO l=l.take (eT l)/\bU l=eT l:=by
 obtain⟨g,b⟩:=zS a e c;have d:(l.take (eT l)).length=eT l:=by rw[List.length_take];have:=CK l a;omega
 have:=JE (r:=l.drop (eT l)) g b;rw[List.take_append_drop]at this;exact⟨this.2,by rw[this.1,d]⟩
def lq(l:Bs):Bs:=l.drop (kG l)
def jS(l:Bs):Bs × Bs:=if l.length=0\/aM (l.headD 0).toNat=true then([],l)else(cO l,lq (l.drop (bU l)))
mutual
def uJ:Nat->Nat->Bs->Option (Tr × Bs)
 |0,_,_=>none
 |f+1,deep,l=>
  if(lq l).headD 0==40 then
   (if oI (jS (lq ((lq l).drop 1))).1&&decide (deep<20)then
    (nT f (deep+1) (jS (lq ((lq l).drop 1))).2).map (λp=>(Tr.mk (aT (jS (lq ((lq l).drop 1))).1) (jS (lq ((lq l).drop 1))).1 true p.1,lq (p.2.drop 1)))
   else none)
  else if gm (jS (lq l)).1 then some (Tr.mk (aT (jS (lq l)).1) (jS (lq l)).1 false [],(jS (lq l)).2)else none
def nT:Nat->Nat->Bs->Option (List Tr × Bs)
 |0,_,_=>none
 |f+1,deep,l=>
  if l.length=0 then none else if l.headD 0==41 then some ([],l)else
   match uJ f deep l with
   |none=>none
   |some (x,r)=>(nT f deep r).map (λp=>(x::p.1,p.2))
end
theorem nJ(l:Bs):kG (lq l)=0:=by
 unfold lq kG;rw[(nL l qg).2]
 cases a:l.dropWhile qg with
 |nil=>rfl
 |cons c r=>
  have:qg c=false:=by
   have:=List.head?_dropWhile_not (p:=qg) l;rw[a]at this;simpa using this
  rw[takeWhile_cons,this];rfl
theorem Df{l:Bs}(h:kG l=0)(a:0<l.length):eF (l.headD 0).toNat=false:=by
 cases l with
 |nil=>simp at a
 |cons c r=>
  unfold kG at h;rw[takeWhile_cons]at h
  cases hb:qg c with
  |true=>rw[hb]at h;simp at h
  |false=>exact hb
theorem lS(l:Bs):bI (lq l)=bI l:=by
 have e:l=l.takeWhile qg++lq l:=by unfold lq kG;rw[(nL l qg).2];exact Bp l qg
 have hb:xW (l.takeWhile qg)=true:=List.all_takeWhile;have:=Gu (l.takeWhile qg) (lq l) hb;rw[<-e]at this;exact this.symm
theorem Dh(l:Bs):(lq l).length<=l.length:=by unfold lq;simp
theorem head_cons{l:Bs}{c:UInt8}(a:c≠0)(h:l.headD 0=c):l=c::l.drop 1:=by
 cases l with
 |nil=>simp at h;exact absurd h.symm a
 |cons d r=>simp at h;subst h;rfl
theorem CZ{c:UInt8}(a:c=40\/c=41)(r:Bs):bI (c::r)=(bI r).map ((aT [c],[c]):: ·):=by
 have b:eT ([c]++r)=([c]:Bs).length:=by
  unfold eT;rw[if_pos];rfl;rcases a with rfl|rfl<;>rfl
 have:=Gv [c] r (by simp) (by rcases a with rfl|rfl<;>rfl) b;rw[if_neg (by rcases a with rfl|rfl<;>decide)]at this;exact this
theorem KL{l:Bs}(c:0<l.length)(h:oU (l.headD 0)=false)(i:cO l≠ [])(b:aT (cO l)≠0):
  bI l=(bI (lq (l.drop (bU l)))).map ((aT (cO l),cO l):: ·)/\Good (cO l):=by
 obtain⟨r,e,g,d,f⟩:=IJ c h i b;have a:=Gv (cO l) r (EN g) (rH (vD g)).1 (LM g d);rw[<-e,if_neg b]at a;rw[a,lS,<-f];exact⟨rfl,g⟩
theorem FD(o:Option (List Tk))(a b:List Tk):(o.map (b++ ·)).map (a++ ·)=o.map ((a++b)++ ·):=by cases o<;>simp
theorem LU{l:Bs}(b:aM (l.headD 0).toNat=false)(h:oI l=true):aT l≠0/\l≠ []/\jU (aT l) l=true:=by
 have e:=AU b;rw[h]at e;refine⟨?_, ?_,e⟩
 ·intro a;rw[a]at e;simp[jU]at e
 ·intro a;subst a;cases h
theorem Le{l:Bs}(c:aM (l.headD 0).toNat=false)(h:gm l=true):aT l≠0/\l≠ []/\fZ (aT l) l=true/\¬aT l=1/\¬aT l=2:=by
 have e:=Aw c;rw[h]at e;have hb:(l== [40])=false/\(l== [41])=false:=by
  constructor
  ·rw[eq_false_iff];intro h;rw[beq_iff_eq]at h;subst h;cases c
  ·rw[eq_false_iff];intro h;rw[beq_iff_eq]at h;subst h;cases c
 have b:aT l≠1/\aT l≠2/\(aT l=0->iX l=false):=by
  unfold aT;rw[hb.1,hb.2,if_neg Bool.false_ne_true,if_neg Bool.false_ne_true];refine⟨?_, ?_, ?_⟩
  ·repeat(first|(split;decide)|decide)
   all_goals(repeat split)<;>decide
  ·repeat(first|(split;decide)|decide)
   all_goals(repeat split)<;>decide
  ·intro a
   cases g:iX l with
   |false=>rfl
   |true=>
    have d:=uW g;have f:=kI d;rw[f.1,f.2.1,f.2.2.1,f.2.2.2.1,d]at a;simp at a
 refine⟨?_, ?_,e,b.1,b.2.1⟩
 ·intro a;rw[a]at e;unfold fZ at e;rw[b.2.2 a]at e;simp at e
 ·intro a;subst a;cases h
theorem Qi{l:Bs}(c:kG l=0)(a:(jS l).1≠ []):0<l.length/\aM (l.headD 0).toNat=false/\oU (l.headD 0)=false/\jS l=(cO l,lq (l.drop (bU l))):=by
 by_cases h:l.length=0\/aM (l.headD 0).toNat=true
 ·unfold jS at a;rw[if_pos h]at a;exact absurd rfl a
 ·have b:0<l.length:=by
   rcases eq_zero_or_pos l.length with e|e
   ·exact absurd (.inl e) h
   ·exact e
  have hb:aM (l.headD 0).toNat=false:=by
   rw[eq_false_iff];exact λe=>h (.inr e)
  refine⟨b,hb, ?_, ?_⟩
  ·unfold oU;rw[Df c b,hb];rfl
  ·unfold jS;rw[if_neg h]
theorem KP{l:Bs}(b:0<l.length)(a:cO l≠ []):(cO l).headD 0=l.headD 0:=by
 unfold cO at a ⊢
 cases d:mD l (bU l)with
 |false=>rw[d]at a;exact absurd rfl a
 |true=>
  rw[if_pos rfl]
  cases l with
  |nil=>simp at b
  |cons c r=>
   have:bU (c::r)=bU (c::r)- 1+1:=by unfold bU;omega
   rw[this,take_succ_cons];rfl
mutual
theorem AZ:∀(f deep:Nat) (l:Bs) (t:Tr) (r:Bs),uJ f deep l=some (t,r)->bI l=(bI r).map (vY t++ ·)/\Wf t/\deep+UF t<=20+(if deep<=20 then 0 else deep- 20)/\kG r=0:=by
 intro f
 match f with
 |0=>intro deep l t r h;simp[uJ]at h
 |f+1=>
  intro deep l t r h;rw[uJ]at h
  cases d:((lq l).headD 0==40)with
  |true=>
   rw[d,if_pos rfl]at h;have x:lq l=40::(lq l).drop 1:=head_cons (by decide) (by simpa using d);obtain⟨l2,i⟩:∃l2,l2=lq ((lq l).drop 1):=⟨_,rfl⟩;rw[<-i]at h;have o:kG l2=0:=by rw[i];exact nJ _
   cases b:(oI (jS l2).1&&decide (deep<20))with
   |false=>rw[b]at h;simp at h
   |true=>
    rw[b,if_pos rfl]at h;rw[and_eq_true,decide_eq_true_eq]at b;obtain⟨⟨u,w⟩,m,v⟩:=Option.map_eq_some_iff.mp h;simp only[Prod.mk.injEq]at v;obtain⟨rfl,rfl⟩:=v;have a:(jS l2).1≠ []:=by intro e;rw[e]at b;have:=b.1;cases this
    obtain⟨j,hb,n,k⟩:=Qi o a;rw[k]at m b a ⊢;simp only at m b a ⊢;have c:=LU (by rw[KP j a];exact hb) b.1;obtain⟨s1,g⟩:=KL j n c.2.1 c.1;obtain⟨s2,w2,d2,y⟩:=Ba f (deep+1) _ u w m;obtain⟨q,rfl⟩:∃q,w=41::q:=⟨_,head_cons (by decide) y⟩;refine⟨?_,.node rfl c.1 g c.2.2 w2, ?_,nJ _⟩
    ·rw[<-lS l,x,CZ (.inl rfl),<-lS ((lq l).drop 1),<-i,s1,s2];rw[lS,CZ (.inr rfl)];rw[vY,if_pos rfl];have p:aT [40]=1:=by decide
     have s:aT [41]=2:=by decide
     rw[p,s];show _=(bI q).map _
     cases bI q<;>simp
    ·rw[UF,if_pos rfl];have z:deep<20:=b.2;rw[if_pos (by omega)]at d2 ⊢;omega
  |false=>
   rw[d,if_neg Bool.false_ne_true]at h
   cases b:gm (jS (lq l)).1 with
   |false=>rw[b]at h;simp at h
   |true=>
    rw[b,if_pos rfl]at h;simp only[Option.some.injEq,Prod.mk.injEq]at h;obtain⟨rfl,rfl⟩:=h;have a:(jS (lq l)).1≠ []:=by intro e;rw[e]at b;cases b
    obtain⟨j,hb,n,k⟩:=Qi (nJ l) a;rw[k]at b a ⊢;simp only at b a ⊢;have c:=Le (by rw[KP j a];exact hb) b;obtain⟨s1,g⟩:=KL j n c.2.1 c.1;refine⟨?_,.leaf rfl c.1 c.2.2.2.1 c.2.2.2.2 g c.2.2.1, ?_,nJ _⟩
    ·rw[<-lS l,s1,vY]
     cases bI (lq ((lq l).drop (bU (lq l))))<;>simp
    ·rw[UF];simp only[Bool.false_eq_true,if_false];split<;>omega
theorem Ba:∀(f a:Nat) (l:Bs) (c:List Tr) (r:Bs),nT f a l=some (c,r)->bI l=(bI r).map (qX c++ ·)/\SN c/\a+Iw c<=20+(if a<=20 then 0 else a- 20)/\r.headD 0=41:=by
 intro f
 match f with
 |0=>intro a l c r h;simp[nT]at h
 |f+1=>
  intro a l c r h;rw[nT]at h;by_cases e:l.length=0
  ·rw[if_pos e]at h;simp at h
  ·rw[if_neg e]at h
   cases b:(l.headD 0==41)with
   |true=>
    rw[b,if_pos rfl]at h;simp only[Option.some.injEq,Prod.mk.injEq]at h;obtain⟨rfl,rfl⟩:=h;refine⟨?_,.nil, ?_,by simpa using b⟩
    ·rw[qX];cases bI l<;>simp
    ·rw[Iw];split<;>omega
   |false=>
    rw[b,if_neg Bool.false_ne_true]at h
    cases d:uJ f a l with
    |none=>rw[d]at h;simp at h
    |some p=>
     obtain⟨x,r1⟩:=p;rw[d]at h;simp only at h;obtain⟨⟨m,r2⟩,i,g⟩:=Option.map_eq_some_iff.mp h;simp only[Prod.mk.injEq]at g;obtain⟨rfl,rfl⟩:=g;obtain⟨s1,k,d1,n⟩:=AZ f a l x r1 d;obtain⟨s2,w2,d2,j⟩:=Ba f a r1 m r2 i;refine⟨?_,.cons k w2, ?_,j⟩
     ·rw[s1,s2,qX,FD]
     ·rw[Iw];omega
end
theorem Kq{l:Bs}(a:aM (l.headD 0).toNat=false):¬aT l=1/\¬aT l=2:=by
 have hb:(l== [40])=false/\(l== [41])=false:=by
  constructor
  ·rw[eq_false_iff];intro h;rw[beq_iff_eq]at h;subst h;cases a
  ·rw[eq_false_iff];intro h;rw[beq_iff_eq]at h;subst h;cases a
 unfold aT;rw[hb.1,hb.2,if_neg Bool.false_ne_true,if_neg Bool.false_ne_true];constructor
 ·repeat(first|(split;decide)|decide)
  all_goals(repeat split)<;>decide
 ·repeat(first|(split;decide)|decide)
  all_goals(repeat split)<;>decide
theorem Td{c:UInt8}(h:aM c.toNat=true):c=40\/c=41:=by
 unfold aM at h;simp at h;rcases h with h|h
 ·exact .inl (UInt8.toNat_inj.mp (by simp;omega))
 ·exact .inr (UInt8.toNat_inj.mp (by simp;omega))
theorem pV{l:Bs}{a:Tk}{k:List Tk}(u:kG l=0)(h:bI l=some (a::k)):
  (∃r,l=40::r/\a=(1,[40])/\bI r=some k)\/(∃r,l=41::r/\a=(2,[41])/\bI r=some k)\/
  (0<l.length/\aM (l.headD 0).toNat=false/\aM (a.2.headD 0).toNat=false/\a.1=aT a.2/\(jS l).1=a.2/\bI (jS l).2=some k/\kG (jS l).2=0/\(jS l).2.length<l.length):=by
 have d:0<l.length:=by
  rcases eq_zero_or_pos l.length with e|e
  ·rw[kC l e]at h;cases h
  ·exact e
 have f:=Df u d
 cases b:aM (l.headD 0).toNat with
 |true=>
  cases l with
  |nil=>simp at d
  |cons c r=>
   simp only[headD_cons]at b;have p:=Td b;rw[CZ p]at h;obtain⟨o,j,g⟩:=Option.map_eq_some_iff.mp h;simp only[List.cons.injEq]at g;obtain⟨rfl,rfl⟩:=g;rcases p with rfl|rfl
   ·exact .inl ⟨r,rfl,rfl,j⟩
   ·exact .inr (.inl ⟨r,rfl,rfl,j⟩)
 |false=>
  right;right;have s:oU (l.headD 0)=false:=by unfold oU;rw[f,b];rfl
  rw[oQ l d,f,if_neg Bool.false_ne_true]at h;by_cases n:aT (l.take (eT l))=0
  ·rw[if_pos n]at h;cases h
  ·rw[if_neg n]at h;obtain⟨o,j,g⟩:=Option.map_eq_some_iff.mp h;simp only[List.cons.injEq]at g;obtain⟨rfl,rfl⟩:=g;have t:=Qh d s n;have w:=oN l d f;have i:jS l=(cO l,lq (l.drop (bU l))):=by
    unfold jS;rw[if_neg];rintro(e|e)
    ·omega
    ·rw[b]at e;cases e
   refine⟨d,rfl, ?_,rfl, ?_, ?_, ?_, ?_⟩
   ·show aM ((l.take (eT l)).headD 0).toNat=false;obtain⟨m,q⟩:∃m,eT l=m+1:=⟨eT l- 1,by omega⟩
    cases l with
    |nil=>simp at d
    |cons c r=>rw[q,take_succ_cons];exact b
   ·rw[i];exact t.1
   ·rw[i,lS,t.2];exact j
   ·rw[i];exact nJ _
   ·rw[i];have:=Dh (l.drop (bU l));have v:=t.2;rw[length_drop]at this;show(lq (l.drop (bU l))).length<l.length;omega
theorem comp:∀n:Nat,
  (∀(f c:Nat) (l:Bs) (g:List Tk) (t:Tr) (d:List Tk) (F:Nat),f<=n->bI l=some g->gY f c g=some (t,d)->2*l.length<=F->
   ∃r,uJ F c l=some (t,r)/\bI r=some d/\kG r=0/\r.length<l.length)/\
  (∀(f c:Nat) (l:Bs) (g:List Tk) (C:List Tr) (d:List Tk) (F:Nat),f<=n->kG l=0->bI l=some g->lg f c g=some (C,d)->2*l.length+1<=F->
   ∃r,nT F c l=some (C,41::r)/\bI r=some d/\r.length<l.length):=by
 intro n
 induction n with
 |zero=>
  refine⟨?_, ?_⟩
  ·intro f c l g t d F I _ h;obtain rfl:f=0:=by omega
   simp[gY]at h
  ·intro f c l g t d F I _ _ h;obtain rfl:f=0:=by omega
   simp[lg]at h
 |succ n ih=>
  obtain⟨L,B⟩:=ih;refine⟨?_, ?_⟩
  ·intro f c l g t d F I m h hF
   cases f with
   |zero=>simp[gY]at h
   |succ f=>
   cases g with
   |nil=>simp[gY]at h
   |cons a g=>
    rw[<-lS]at m;have A:=Dh l;have R:0<l.length:=by
     rcases eq_zero_or_pos (lq l).length with e|e
     ·rw[kC _ e]at m;cases m
     ·omega
    obtain⟨G,rfl⟩:∃G,F=G+1:=⟨F- 1,by omega⟩;rw[uJ];rw[gY]at h;rcases pV (nJ l) m with⟨r,e,rfl,u⟩|⟨r,e,rfl,u⟩|⟨D,hb,i,o,k,j,v,w⟩
    ·rw[if_pos rfl]at h;rw[e]at A ⊢;simp only[List.length_cons]at A;simp only[headD_cons,beq_self_eq_true,if_true,List.drop_succ_cons,drop_zero]
     cases f with
     |zero=>simp[Dy]at h
     |succ f=>
     cases g with
     |nil=>simp[Dy]at h
     |cons b g=>
      rw[Dy]at h;by_cases M:20<c+1
      ·rw[if_pos M]at h;cases h
      ·rw[if_neg M]at h
       cases s:jU b.1 b.2 with
       |false=>rw[s]at h;simp at h
       |true=>
        rw[s,if_pos rfl]at h;obtain⟨⟨C,q⟩,J,z⟩:=Option.map_eq_some_iff.mp h;simp only[Prod.mk.injEq]at z;obtain⟨rfl,rfl⟩:=z;have U:=Dh r;rw[<-lS]at u;rcases pV (nJ r) u with⟨_,_,rfl,_⟩|⟨_,_,rfl,_⟩|⟨D,hb,i,o,k,j,v,w⟩
        ·cases s
        ·cases s
        ·obtain⟨O,V,X,l'⟩:=B f (c+1) _ g C q G (by omega) v j J (by omega);have T:oI b.2=true:=by rw[<-AU i,<-o];exact s
         refine⟨lq O, ?_,by rw[lS];exact X,nJ _, ?_⟩
         ·rw[k,T,decide_eq_true (by omega:c<20),V];simp[o]
         ·have:=Dh O;omega
    ·rw[if_neg (by decide)]at h;have:fZ 2 [41]=false:=by decide
     simp only[this]at h;simp at h
    ·have N:=Kq i;rw[<-o]at N;rw[if_neg N.1]at h
     cases s:fZ a.1 a.2 with
     |false=>rw[s]at h;simp at h
     |true=>
      rw[s,if_pos rfl]at h;simp only[Option.some.injEq,Prod.mk.injEq]at h;obtain⟨rfl,rfl⟩:=h;have E:((lq l).headD 0==40)=false:=by
       rw[eq_false_iff];intro e;rw[beq_iff_eq]at e;rw[e]at hb;cases hb
      have S:gm a.2=true:=by rw[<-Aw i,<-o];exact s
      rw[E,if_neg Bool.false_ne_true,k,S,if_pos rfl];refine⟨_,by rw[o],j,v,by omega⟩
  ·intro f c l g C d F I v m h hF
   cases f with
   |zero=>simp[lg]at h
   |succ f=>
   cases g with
   |nil=>simp[lg]at h
   |cons a g=>
    obtain⟨G,rfl⟩:∃G,F=G+1:=⟨F- 1,by omega⟩;have R:0<l.length:=by
     rcases eq_zero_or_pos l.length with e|e
     ·rw[kC _ e]at m;cases m
     ·omega
    rw[lg]at h;rw[nT,if_neg (by omega)];by_cases y:a.1=2
    ·rw[if_pos y]at h;simp only[Option.some.injEq,Prod.mk.injEq]at h;obtain⟨rfl,rfl⟩:=h;rcases pV v m with⟨r,rfl,rfl,u⟩|⟨r,rfl,rfl,u⟩|⟨D,hb,i,o,k,j,v,w⟩
     ·cases y
     ·exact⟨r,rfl,u,by simp⟩
     ·exact absurd (o▸y) (Kq i).2
    ·rw[if_neg y]at h;have H:(l.headD 0==41)=false:=by
      rcases pV v m with⟨r,rfl,rfl,u⟩|⟨r,rfl,rfl,u⟩|⟨D,hb,i,o,k,j,v,w⟩
      ·rfl
      ·exact absurd rfl y
      ·rw[eq_false_iff];intro e;rw[beq_iff_eq]at e;rw[e]at hb;cases hb
     rw[H,if_neg Bool.false_ne_true]
     cases K:gY f c (a::g)with
     |none=>rw[K]at h;simp at h
     |some p=>
      obtain⟨x,q⟩:=p;rw[K]at h;simp only at h;obtain⟨⟨Y,W⟩,J,z⟩:=Option.map_eq_some_iff.mp h;simp only[Prod.mk.injEq]at z;obtain⟨rfl,rfl⟩:=z;obtain⟨r1,P,s1,Z,l1⟩:=L f c l _ x q G (by omega) m K (by omega);obtain⟨r2,Q,s2,l2⟩:=B f c r1 q Y W G (by omega) Z s1 J (by omega);rw[P];exact⟨r2,by simp[Q],s2,by omega⟩
def Jj(l:Bs):Option Tr:=match uJ (2*l.length+1) 0 l with|some (t,[])=>some t|_=>none
theorem PH(l:Bs)(h:l.length<=400):Jj l=iW l:=by
 have o:iW l=(bI l).bind il:=by unfold iW;rw[if_neg (by omega)]
 rw[o];have d:∀t,Jj l=some t->(bI l).bind il=some t:=by
  intro t a;unfold Jj at a;split at a
  ·next m e=>
   simp only[Option.some.injEq]at a;subst a;obtain⟨s1,v,d1,_⟩:=AZ _ _ _ _ _ e;rw[kC [] rfl]at s1;simp only[Option.map_some,append_nil]at s1;rw[s1,Option.bind_some];have:=yY (f:=2*(vY m).length) (deep:=0) (r:=[]) v (by simpa using d1) (le_refl _);rw[append_nil]at this;unfold il;rw[this]
  ·cases a
 have b:∀t,(bI l).bind il=some t->Jj l=some t:=by
  intro t a
  cases i:bI l with
  |none=>rw[i]at a;cases a
  |some x=>
   rw[i,Option.bind_some]at a;unfold il at a;split at a
   ·next m e=>
    simp only[Option.some.injEq]at a;subst a;obtain⟨r,n,s1,w,_⟩:=(comp _).1 _ _ l _ _ _ (2*l.length+1) (le_refl _) i e (by omega);have u:r= []:=by
     cases r with
     |nil=>rfl
     |cons c q=>
      have k:0<(c::q).length:=by simp
      have hb:=Df w k;rw[oQ _ k,hb,if_neg Bool.false_ne_true]at s1;split at s1
      ·cases s1
      ·obtain⟨_,_,s⟩:=Option.map_eq_some_iff.mp s1
       cases s
    subst u;unfold Jj;rw[n]
   ·cases a
 cases g:Jj l with
 |some t=>exact(d t g).symm
 |none=>
  cases p:(bI l).bind il with
  |none=>rfl
  |some t=>rw[b t p]at g;cases g
theorem EP:(Tryz.prog.info? 183).map (λi=>(i.zero,i.size,i.bytes))=some (some (.agg #[.string ⟨#[]⟩,.bool false,.slice none 0 0,.int .u8 0]),4,56):=by kernel_rfl
structure zI(w w':World)(rb:Nat)(o:Option Nat):Prop where
 os:w'.os=w.os
 tape:w'.tape=w.tape
 output:w'.output=w.output
 size:w.heap.size<=w'.heap.size
 block:∀g,g<w.heap.size->g≠rb->o≠some g->w'.heap[g]? =w.heap[g]?
mutual
inductive zN(w:World)(S:Nat->Prop)(cs:List Value):Nat->Nat->Tr->Prop
 |mk {lo i:Nat} {k:Int} {tx:Bs} {br:Bool} {ops:List Tr} {v:Value} {is:List Nat} :cs[4*i]? =some (.string (aa tx))->cs[4*i+1]? =some (.bool br)->cs[4*i+2]? =some v->cs[4*i+3]? =some (.int .u8 0)->
   w.ownsRow 0 3 1 v ops.length (is.map λj:Nat=>int .i64 (j:Int))->(∀g,v.ownBlock=some g->S g)->jl w S cs lo i is ops->(br=false->ops= []/\gm tx=true/\k=aT tx)->tx.length<=maxLen->zN w S cs lo i (.mk k tx br ops)
inductive jl(w:World)(S:Nat->Prop)(cs:List Value):Nat->Nat->List Nat->List Tr->Prop
 |nil {lo:Nat} :jl w S cs lo lo [] []
 |cons {lo i hi:Nat} {is:List Nat} {t:Tr} {ts:List Tr} :zN w S cs lo i t->jl w S cs (i+1) hi is ts->jl w S cs lo hi (i::is) (t::ts)
end
theorem yg{cs a:List Value}{i:Nat}{v:Value}(h:cs[i]? =some v):(cs++a)[i]? =some v:=by
 rw[List.getElem?_append_left (List.getElem?_eq_some_iff.mp h).1];exact h
mutual
theorem zN.move{w x:World}{S S':Nat->Prop}{cs:List Value}(j:List Value)(k:∀g,S g->x.heap[g]? =w.heap[g]?)(m:∀g,S g->S' g):∀ {lo i:Nat} {t:Tr},zN w S cs lo i t->zN x S' (cs++j) lo i t
 |_,_,_,.mk a b c c3 d e f l z=>.mk (yg a) (yg b) (yg c) (yg c3) (aA d λg h=>k g (e g h)) (λg h=>m g (e g h)) (jl.move j k m f) l z
theorem jl.move{w x:World}{S S':Nat->Prop}{cs:List Value}(c:List Value)(e:∀g,S g->x.heap[g]? =w.heap[g]?)(f:∀g,S g->S' g):∀ {lo d:Nat} {i:List Nat} {t:List Tr},jl w S cs lo d i t->jl x S' (cs++c) lo d i t
 |_,_,_,_,.nil=>.nil
 |_,_,_,_,.cons a b=>.cons (zN.move c e f a) (jl.move c e f b)
end
mutual
theorem zN.bounded{w:World}{S:Nat->Prop}{cs:List Value} :∀ {lo i:Nat} {t:Tr},zN w S cs lo i t->zN w (λg=>S g/\g<w.heap.size) cs lo i t
 |_,_,_,.mk a b c c3 d e f l z=>.mk a b c c3 d (λg h=>⟨e g h,(d.lt g h).2⟩) (jl.bounded f) l z
theorem jl.bounded{w:World}{S:Nat->Prop}{cs:List Value} :∀ {lo c:Nat} {i:List Nat} {t:List Tr},jl w S cs lo c i t->jl w (λg=>S g/\g<w.heap.size) cs lo c i t
 |_,_,_,_,.nil=>.nil
 |_,_,_,_,.cons a b=>.cons (zN.bounded a) (jl.bounded b)
end
def DN(w:World)(rb:Nat)(s:ByteArray)(k:Nat)(v:Value)(n:Nat)(cs:List Value)(o:Option (Tr × Bs))(e:Ending)(w':World):Prop:=
 zI w w' rb v.ownBlock/\((o=none/\e=.returned (.int .i64 (-1))/\∃k' ao m cap,dN w' rb s k' (.slice ao m cap))\/
  (∃t k' g cap n' ds,o=some (t,s.toList.drop k')/\k<k'/\k'<=s.size/\n<=n'/\n'+1+k<=n+k'/\e=.returned (.int .i64 (n':Int))/\
   dN w' rb s k' (.slice (some ⟨g,0,none⟩) (n'+1) cap)/\w'.ownsRow (rb+1) 183 4 (.slice (some ⟨g,0,none⟩) (n'+1) cap) (n'+1) (cs++ds)/\
   (v.ownBlock=some g\/w.heap.size<=g)/\zN w' (λq=>w.heap.size<=q/\q≠g) (cs++ds) n n' t))
theorem FN{w h W p:World}{c I lo m d a:Nat}{v N v4:Value}{s:ByteArray}{cs ds:List Value}(J:Int){u:Bs}{z:Bool}{ops:List Tr}{is:List Nat}{x:Value}
  (L:c<w.heap.size) (F:zI w h c v.ownBlock) (C:v4.ownBlock=v.ownBlock\/∃g,v4.ownBlock=some g/\w.heap.size<=g)
  (K:W.os=h.os/\W.tape=h.tape/\W.output=h.output/\h.heap.size<=W.heap.size/\∀g,g<h.heap.size->W.heap[g]? =h.heap[g]?)
  (D:h.ownsRow (c+1) 183 4 v4 m (cs++ds))
  (b:W.grownBy p v4.ownBlock) (t:p.ownsRow (c+1) 183 4 (.slice (some ⟨d,0,none⟩) (m+1) a) (m+1) (cs++ds++ [.string (aa u),.bool z,x,.int .u8 0]))
  (l:v4.ownBlock=some d\/d=h.heap.size+1) (M:p.heap[c]? =some (.cells #[.string s,.int .i64 (I:Int),N] 180 (0,0)))
  (r:h.ownsRow 0 3 1 x ops.length (is.map λj:Nat=>int .i64 (j:Int))) (n:∀g,x.ownBlock=some g->w.heap.size<=g/\v4.ownBlock≠some g)
  (B:jl h (λq=>w.heap.size<=q/\v4.ownBlock≠some q) (cs++ds) lo m is ops) (G:z=false->ops= []/\gm u=true/\J=aT u) (H:u.length<=maxLen):
  zI w (p.setCell ⟨c,2,none⟩ (.slice (some ⟨d,0,none⟩) (m+1) a)) c v.ownBlock/\
  dN (p.setCell ⟨c,2,none⟩ (.slice (some ⟨d,0,none⟩) (m+1) a)) c s I (.slice (some ⟨d,0,none⟩) (m+1) a)/\
  (p.setCell ⟨c,2,none⟩ (.slice (some ⟨d,0,none⟩) (m+1) a)).ownsRow (c+1) 183 4 (.slice (some ⟨d,0,none⟩) (m+1) a) (m+1) (cs++(ds++ [.string (aa u),.bool z,x,.int .u8 0]))/\
  (v.ownBlock=some d\/w.heap.size<=d)/\
  zN (p.setCell ⟨c,2,none⟩ (.slice (some ⟨d,0,none⟩) (m+1) a)) (λq=>w.heap.size<=q/\q≠d) (cs++(ds++ [.string (aa u),.bool z,x,.int .u8 0])) lo m (.mk J u z ops):=by
 obtain⟨a1,a2,a3,a4,a5⟩:=K;have f:(cs++ds).length=4*m:=by have:=D.1;omega
 have ag:∀g,g<h.heap.size->g≠c->v4.ownBlock≠some g->(p.setCell ⟨c,2,none⟩ (.slice (some ⟨d,0,none⟩) (m+1) a)).heap[g]? =h.heap[g]? :=by
  intro g k y E;rw[heap_setCell _ _ _ _ y,b.block g (by omega) (λe=>E e.symm),a5 g k]
 have o:∀g,g<h.heap.size->v4.ownBlock≠some g->g≠d:=by
  intro g k y e;subst e;rcases l with e|e
  ·exact y e
  ·omega
 have hF:=F.size;refine⟨⟨b.os.trans (a1.trans F.os),b.tape.trans (a2.trans F.tape),b.output.trans (a3.trans F.output), ?_, ?_⟩, ?_, ?_, ?_, ?_⟩
 ·have:=b.size;simp[setCell];omega
 ·intro g k y E;rw[ag g (by omega) y ?_,F.block g k y E];rcases C with e|⟨q,e,hq⟩
  ·rw[e];exact E
  ·rw[e];intro A;have:=Option.some.inj A;omega
 ·unfold dN;simp[setCell,Array.getElem?_modify,M]
 ·rw[<-append_assoc];exact ownsRow_setCell_below t (by show c<c+1;omega) _
 ·rcases l with e|e
  ·rcases C with A|⟨q,A,hq⟩
   ·exact .inl (by rw[<-A];exact e)
   ·rw[A]at e;have:=Option.some.inj e;exact .inr (by omega)
  ·exact .inr (by omega)
 ·rw[<-append_assoc];refine .mk (v:=x) (is:=is) ?_ ?_ ?_ ?_ (aA r λg i=> ?_) (λg i=> ?_) (B.bounded.move _ (λg i=> ?_) (λg i=>⟨i.1.1,o g i.2 i.1.2⟩)) G H
  ·rw[List.getElem?_append_right (by omega),f];simp
  ·rw[List.getElem?_append_right (by omega),f,show 4*m+1- 4*m=1 by omega];rfl
  ·rw[List.getElem?_append_right (by omega),f,show 4*m+2- 4*m=2 by omega];rfl
  ·rw[List.getElem?_append_right (by omega),f,show 4*m+3- 4*m=3 by omega];rfl
  ·have k:=n g i;exact ag g (r.lt g i).2 (by omega) k.2
  ·have k:=n g i;exact⟨k.1,o g (r.lt g i).2 k.2⟩
  ·have k:=i.1.1;exact ag g i.2 (by omega) i.1.2
theorem qZ{a b:World}{row:Option Nat}(h:a.drew.grownBy b row):a.grownBy b row:=⟨h.os,h.tape,h.output,h.size,h.block⟩
theorem yU{s:ByteArray}{k:Nat}(h:k<s.size):(s.toList.drop k).headD 0=s[k]:=(Gn s k h).2
theorem vo{x:World}{b:Nat}{a0 a1 a2 a3:Value}{T:TypeId}(h:x.heap[b]? =some (.cells #[a0,a1,a2,a3] T (0,0)))(v:Value):(x.setCell ⟨b,0,none⟩ v).heap[b]? =some (.cells #[v,a1,a2,a3] T (0,0)):=by
 simp[setCell,Array.getElem?_modify,h]
theorem gK{x:World}{b d:Nat}{o:Obj}(h:x.heap[b]? =some o)(a:b≠d)(c:Nat)(v:Value):(x.setCell ⟨d,c,none⟩ v).heap[b]? =some o:=by
 rw[heap_setCell _ _ _ _ a];exact h
theorem Pg(s:ByteArray)(hs:s.size<=400)(w:World)(b k C n:Nat)(j:Option Addr)(cap:Nat)(cs:List Value)(h:dN w b s k (.slice j n cap))(hk:k<=s.size)
  (f:w.ownsRow (b+1) 183 4 (.slice j n cap) n cs) (hn:n<=1000)
  (i:Nat) (E:k+kG (s.toList.drop k)=i) (M:i<s.size) (K:(s[i]==40)=false) (hb:aM s[i].toNat=false) (c:Bs) (N:c≠ []) (S:cO (s.toList.drop i)=c) (q:gm c=true) (G:c.length<=maxLen) (o:Option (Tr × Bs))
  (ho:o=some (Tr.mk (aT c) c false [],lq ((s.toList.drop i).drop (bU (s.toList.drop i))))):
  Calls prog 58 #[.pointer (some ⟨b,0,none⟩),.int .i64 C] w λe w'=>DN w b s k (.slice j n cap) n cs o e w':=by
 obtain⟨i0,hi,U,V,W⟩:=info_parts EP;have HA:∀x:World,Calls prog 109 #[.string (aa c)] x λe w'=>e=.returned (.bool true)/\Below x.heap.size x w':=by
  intro x;have:=wY (aa c) x (by rw[aF];exact G);rw[au,q]at this;exact this
 have I:Hid (gm c=true):=q;clear q;go_enter Tryz.func58,Tryz.ntmps58
 go_wp2_with(go_at_call 106;refine(jR s hs _ b k _ h hk).mono ?_;rintro e w2 ⟨rfl,hk1,hg1,hr1⟩)
 rw[E]at hr1;have a7:=hr1.lt;have m:w2.heap.size≠b:=by omega
 obtain⟨⟨y0,y1,y2⟩,f1,f2⟩:=eX hr1;have Z:((s[i].toNat:Int)==40)=false:=by rw[<-K];exact kN s[i] 40 (by omega)
 go_region;have P:∀o:Obj,dN (w2.alloc o).drew b s i (.slice j n cap):=λo=>by unfold dN;exact dE hr1 _
 all_goals(try go_wp2_with(go_at_call 107;refine(tQ s hs _ b i _ (P _) M hb).mono ?_))
 rintro e w3 ⟨rfl,k',hk',hks,a,hr3⟩;have L:k<k':=by
  rw[hk'];have:0<bU (s.toList.drop i):=by unfold bU;omega
  omega
 have O:o=some (Tr.mk (aT c) c false [],s.toList.drop k'):=by rw[ho,hk',lq,<-drop_drop,<-drop_drop]
 clear ho hk';rw[S];replace a:=qZ a;have a1:=hr3.lt;have r:w3.heap[w2.heap.size]? =some (.cells #[.string ⟨#[]⟩,.bool false,.slice none 0 0,.int .u8 0] 183 (0,0)):=cz (bN w2 _) a m;have a5:=ai r;obtain⟨⟨z0,z1,z2,z3⟩,g0,g1,g2,g3⟩:=bE r;have a6:(aa c).toList.isEmpty=false:=by rw[au];cases c with|nil=>exact absurd rfl N|cons=>rfl
 go_wp2_with(go_at_call 109;refine(HA _).mono ?_;rintro e l ⟨rfl,hb4⟩;have F:=cu (vo r _) hb4;obtain⟨⟨u0,u1,u2,u3⟩,v0,v1,v2,v3⟩:=bE F;have y:=cu (gK hr3 m.symm 0 _) hb4)
 have a8:=hg1.size;have Q:=a.size;rw[World.size_alloc]at Q;have R:=hb4.size;have a4:w3.heap.size<=l.heap.size:=by simpa[setCell]using R
 have Y:∀g,g<w.heap.size->g≠b->l.heap[g]? =w.heap[g]? :=by
  intro g J H;rw[hb4.block g (by simp[setCell];omega),heap_setCell _ _ _ _ (by show g≠w2.heap.size;omega),a.block g (by simp;omega) (by simpa using H),heap_alloc _ _ _ (by omega),hg1.block g J (by simpa using H)]
 have p:l.ownsRow (b+1) 183 4 (.slice j n cap) n cs:=aA f λg z=>Y g (f.lt g z).2 (by have:=(f.lt g z).1;omega);have A:∀o:Obj,(l.drew.alloc o).ownsRow (b+1) 183 4 (.slice j n cap) n cs:=λo=>World.ownsRow.alloc (show l.drew.ownsRow _ _ _ _ _ _ from p) o;have a2:=ai y;have T:(slice j n cap).ownBlock≠some b:=λe=>by have:=(f.lt _ e).1;omega
 obtain⟨⟨p0,p1,p2⟩,q1,q2⟩:=eX y
 go_region_law (refine step_append_lies _ rfl (.tmp 127) (.tmp 129) 100 rfl (b+1) 183 i0 _ 4 56 Tryz.underlying100 hi U V W rfl (by decide) (.slice j n cap) n cs (by simp[Act.eval]) (A _) ⟨l.heap.size,0,none⟩ 1 1 [.string (aa c),.bool false,.slice none 0 0,.int .u8 0] (by simp[Act.eval]) rfl (World.news_of_block (bN l.drew _)) (by intro u hu;simp at hu;rcases hu with rfl|rfl|rfl|rfl<;>rfl) (by decide) (by unfold maxLen;omega) (by omega) (by simp;omega) (l.heap.size+1) (by simp) ?_;intro g5 B w5 t d D a0;have X:w5.heap[b]? =_:=(d.block b (by simp;omega) T.symm).trans (dE y _);have a3:=ai X;obtain⟨⟨r0,r1,r2⟩,t1,t2⟩:=eX X)
 all_goals(go_wp2_with fail;go_ret)
 all_goals
  have F4:zI w l b (slice j n cap).ownBlock:=⟨hb4.os.trans (a.os.trans hg1.os),hb4.tape.trans (a.tape.trans hg1.tape),hb4.output.trans (a.output.trans hg1.output),by omega,λg J H _=>Y g J H⟩;obtain⟨A1,A2,A3,A4,A5⟩:=FN (aT c) (ds:=[]) (v:=.slice j n cap) (is:=[]) (ops:=[]) h.lt F4 (.inl rfl) (by exact⟨rfl,rfl,rfl,by simp,λg z=>heap_alloc _ _ _ z⟩) (by rw[append_nil];exact p) d (by rw[append_nil];exact t) D X (World.ownsRow_nil _ _ _ _) (λg z=>by cases z) .nil (λ_=>⟨rfl,I.out,rfl⟩) G;exact⟨A1,.inr ⟨_,k',g5,B,n,_,O,L,hks,le_refl _,by omega,rfl,A2,A3,A4,A5⟩⟩
theorem Rw(s:ByteArray)(M:s.size<=400)(w:World)(j k q n:Nat)(p:Option Addr)(cap:Nat)(cs:List Value)(h:dN w j s k (.slice p n cap))(P:k<=s.size)
  (f:Nat) (u:k+kG (s.toList.drop k)=f) (D:f<s.size) (B:(s[f]==40)=false) (hb:aM s[f].toNat=false) (m:Bs) (H:cO (s.toList.drop f)=m) (t:gm m=false) (G:m.length<=maxLen):
  Calls prog 58 #[.pointer (some ⟨j,0,none⟩),.int .i64 q] w λe w'=>DN w j s k (.slice p n cap) n cs none e w':=by
 have J:∀x:World,Calls prog 109 #[.string (aa m)] x λe w'=>e=.returned (.bool false)/\Below x.heap.size x w':=by
  intro x;have:=wY (aa m) x (by rw[aF];exact G);rw[au,t]at this;exact this
 clear t;go_enter Tryz.func58,Tryz.ntmps58
 go_wp2_with(go_at_call 106;refine(jR s M _ j k _ h P).mono ?_;rintro e w2 ⟨rfl,hk1,hg1,hr1⟩)
 rw[u]at hr1;have Q:=hr1.lt;have b:w2.heap.size≠j:=by omega
 obtain⟨⟨y0,y1,y2⟩,f1,f2⟩:=eX hr1;have K:((s[f].toNat:Int)==40)=false:=by rw[<-B];exact kN s[f] 40 (by omega)
 have E:∀o:Obj,dN (w2.alloc o).drew j s f (.slice p n cap):=λo=>by unfold dN;exact dE hr1 _
 go_region;all_goals(try go_wp2_with(go_at_call 107;refine(tQ s M _ j f _ (E _) D hb).mono ?_))
 rintro e O ⟨rfl,k',hk',hks,d,hr3⟩;rw[H];replace d:=qZ d;have L:=hr3.lt;have l:O.heap[w2.heap.size]? =some (.cells #[.string ⟨#[]⟩,.bool false,.slice none 0 0,.int .u8 0] 183 (0,0)):=cz (bN w2 _) d b;have N:=ai l;obtain⟨⟨z0,z1,z2,z3⟩,R,g1,S,T⟩:=bE l;have I:w.grownBy O (some j):=aB (aS hg1 _) d;have y:=hg1.size
 cases i:m with
 |nil=>
  subst i;have C:(aa ([]:Bs)).toList.isEmpty=true:=by rw[au];rfl
  go_wp2_with fail
  go_ret;have a:=df I y 0 (.string (aa []));exact⟨⟨a.os,a.tape,a.output,a.size,λg z A _=>a.block g z (by simpa using A)⟩,.inl ⟨rfl,rfl,k',p,n,cap,gK hr3 b.symm 0 _⟩⟩
 |cons c r=>
  have C:(aa (c::r)).toList.isEmpty=false:=by rw[au];rfl
  rw[i]at J
  go_wp2_with(go_at_call 109;refine(J _).mono ?_;rintro e Z ⟨rfl,hb4⟩;have v:=cu (vo l _) hb4;obtain⟨⟨U,V,W,X⟩,v0,Y,v2,v3⟩:=bE v;have F:=cu (gK hr3 b.symm 0 _) hb4)
  go_ret;have a:=aB (df I y 0 (.string (aa (c::r)))) (bC hb4 _);exact⟨⟨a.os,a.tape,a.output,a.size,λg z A _=>a.block g z (by simpa using A)⟩,.inl ⟨rfl,rfl,k',p,n,cap,F⟩⟩
theorem yX(s:ByteArray)(B:s.size<=400)(w:World)(b k f n:Nat)(d:Option Addr)(cap:Nat)(cs:List Value)(h:dN w b s k (.slice d n cap))(z:k<=s.size)
  (a:Nat) (j:k+kG (s.toList.drop k)=a) (l:a=s.size\/∃p:a<s.size,aM s[a].toNat=true/\(s[a]==40)=false):
  Calls prog 58 #[.pointer (some ⟨b,0,none⟩),.int .i64 f] w λe w'=>DN w b s k (.slice d n cap) n cs none e w':=by
 have r:∀x:World,dN x b s a (.slice d n cap)->Calls prog 107 #[.pointer (some ⟨b,0,none⟩)] x λe w'=>e=.returned (.string ⟨#[]⟩)/\x=w':=by
  intro x D;refine(zA s x b a _ D ?_ ?_).mono λe w' h=>⟨h.1,h.2.symm⟩
  ·rcases l with h|⟨h,_⟩<;>omega
  ·rcases l with h|⟨h,i,_⟩
   ·exact .inl h
   ·exact .inr ⟨h,i⟩
 go_enter Tryz.func58,Tryz.ntmps58
 go_wp2_with(go_at_call 106;refine(jR s B _ b k _ h z).mono ?_;rintro e w2 ⟨rfl,hk1,hg1,hr1⟩)
 rw[j]at hr1;have A:=hr1.lt;have u:w2.heap.size≠b:=by omega
 obtain⟨⟨F,H,I⟩,f1,f2⟩:=eX hr1;have C:=hg1.size;have c:∀o:Obj,dN (w2.alloc o).drew b s a (.slice d n cap):=λo=>by unfold dN;exact dE hr1 _
 have q:∀o:Obj,w.grownBy (w2.alloc o).drew (some b):=λo=>dB (aS hg1 _);rcases l with l|⟨p,hbr,h40⟩
 ·have v:decide ((a:Int)<(s.size:Int))=false:=by simp;omega
  have y:decide (a<s.size)=false:=by simp;omega
  go_region;all_goals(try go_wp2_with(go_at_call 107;refine(r _ (c _)).mono ?_;rintro e E ⟨rfl,rfl⟩))
  go_ret;have G:=q (.cells #[.string ⟨#[]⟩,.bool false,.slice none 0 0,.int .u8 0] 183);exact⟨⟨G.os,G.tape,G.output,G.size,λg m i _=>G.block g m (by simpa using i)⟩,.inl ⟨rfl,rfl,a,d,n,cap,c _⟩⟩
 ·have t:((s[a].toNat:Int)==40)=false:=by rw[<-h40];exact kN s[a] 40 (by omega)
  go_region;all_goals(try go_wp2_with(go_at_call 107;refine(r _ (c _)).mono ?_;rintro e E ⟨rfl,rfl⟩))
  go_ret;have G:=q (.cells #[.string ⟨#[]⟩,.bool false,.slice none 0 0,.int .u8 0] 183);exact⟨⟨G.os,G.tape,G.output,G.size,λg m i _=>G.block g m (by simpa using i)⟩,.inl ⟨rfl,rfl,a,d,n,cap,c _⟩⟩
theorem Az{x:World}{b:Nat}{a0 a1 a2 a3:Value}{T:TypeId}(h:x.heap[b]? =some (.cells #[a0,a1,a2,a3] T (0,0)))(v:Value):(x.setCell ⟨b,1,none⟩ v).heap[b]? =some (.cells #[a0,v,a2,a3] T (0,0)):=by
 simp[setCell,Array.getElem?_modify,h]
theorem Jw(l:Bs):kG l<=l.length:=by unfold kG;exact Qm l qg
theorem JF(s:ByteArray)(m:s.size<=400)(k:Nat)(j:k<=s.size):∃f c,jS (s.toList.drop k)=(f,s.toList.drop c)/\k<=c/\c<=s.size/\(f≠ []->k<c)/\f.length<=maxLen/\
  ∀(w:World) (b:Nat) (v:Value),dN w b s k v->Calls prog 107 #[.pointer (some ⟨b,0,none⟩)] w λe w'=>e=.returned (.string (aa f))/\w.grownBy w' (some b)/\dN w' b s c v:=by
 by_cases d:k=s.size\/∃a:k<s.size,aM s[k].toNat=true
 ·refine⟨[],k, ?_,le_refl _,j,λh=>absurd rfl h,by simp,λw b v h=>(zA s w b k v h j d).mono ?_⟩
  ·unfold jS;rw[if_pos];rcases d with h|⟨h,hb⟩
   ·left;rw[length_drop,ah];omega
   ·right;rw[yU h];exact hb
  ·rintro e w' ⟨rfl,rfl⟩;exact⟨rfl,fF _ _,h⟩
 ·have a:k<s.size:=by
   rcases Nat.lt_or_ge k s.size with h|h
   ·exact h
   ·exact absurd (.inl (by omega)) d
  have hb:aM s[k].toNat=false:=by
   rw[eq_false_iff];exact λe=>d (.inr ⟨a,e⟩)
  have g:=GU (s.toList.drop k) (by rw[length_drop,ah];omega);have l:0<bU (s.toList.drop k):=by unfold bU;omega
  rw[length_drop,ah]at g;have i:=Jw (s.toList.drop (k+bU (s.toList.drop k)));rw[length_drop,ah]at i;refine⟨cO (s.toList.drop k),k+bU (s.toList.drop k)+kG (s.toList.drop (k+bU (s.toList.drop k))), ?_,by omega,by omega,λ_=>by omega, ?_,λw b v h=>(tQ s m w b k v h a hb).mono ?_⟩
  ·unfold jS;rw[if_neg,lq,<-drop_drop,<-drop_drop];rintro(h|h)
   ·rw[length_drop,ah]at h;omega
   ·rw[yU a,hb]at h;cases h
  ·unfold cO;split
   ·rw[List.length_take,length_drop,ah];unfold maxLen;omega
   ·simp
  ·rintro e w' ⟨rfl,k',rfl,_,hg,hr⟩;exact⟨rfl,hg,hr⟩
theorem FM(s:ByteArray)(G:s.size<=400)(w:World)(a k c n:Nat)(y:Option Addr)(cap:Nat)(cs:List Value)(h:dN w a s k (.slice y n cap))(P:k<=s.size)
  (d:Nat) (m:k+kG (s.toList.drop k)=d) (Q:d<s.size) (z:(s[d]==40)=true) (H:Nat) (p:d+1+kG (s.toList.drop (d+1))=H) (j:Bs) (I:Nat)
  (M:∀(w:World) (a:Nat) (v:Value),dN w a s H v->Calls prog 107 #[.pointer (some ⟨a,0,none⟩)] w λe w'=>e=.returned (.string (aa j))/\w.grownBy w' (some a)/\dN w' a s I v)
  (D:j.length<=maxLen) (i:oI j=false\/20<=c):
  Calls prog 58 #[.pointer (some ⟨a,0,none⟩),.int .i64 c] w λe w'=>DN w a s k (.slice y n cap) n cs none e w':=by
 have E:∀x:World,Calls prog 108 #[.string (aa j)] x λe w'=>e=.returned (.bool (oI j))/\Below x.heap.size x w':=by
  intro x;have:=wZ (aa j) x (by rw[aF];exact D);rw[au]at this;exact this
 obtain⟨q,A⟩:∃q,q=oI j:=⟨_,rfl⟩;have B:q=false\/20<=c:=by rw[A];exact i
 rw[<-A]at E;clear i A;go_enter Tryz.func58,Tryz.ntmps58
 go_wp2_with(go_at_call 106;refine(jR s G _ a k _ h P).mono ?_;rintro e w2 ⟨rfl,hk1,hg1,hr1⟩)
 rw[m]at hr1;have R:=hr1.lt;have b:w2.heap.size≠a:=by omega
 obtain⟨⟨y0,y1,y2⟩,f1,f2⟩:=eX hr1;have F:((s[d].toNat:Int)==40)=true:=by rw[<-z];exact kN s[d] 40 (by omega)
 have u:=hg1.size;have C:∀o:Obj,dN ((w2.setCell ⟨a,1,none⟩ (.int .i64 ((d:Int)+1))).alloc o).drew a s (d+1) (.slice y n cap):=λo=>by unfold dN;exact dE hr1.inc _
 go_region
 go_wp2_with(first
  |(go_at_call 106;refine(jR s G _ a (d+1) _ (C _) (by omega)).mono ?_;rintro e J ⟨rfl,hk2,f,hr3⟩;replace f:=qZ f;rw[p]at hr3;have r:J.heap[w2.heap.size]? =some (.cells #[.string ⟨#[]⟩,.bool false,.slice none 0 0,.int .u8 0] 183 (0,0)):=cz (by simpa[setCell]using bN (w2.setCell ⟨a,1,none⟩ (.int .i64 ((d:Int)+1))) (.cells #[.string ⟨#[]⟩,.bool false,.slice none 0 0,.int .u8 0] 183)) f b;obtain⟨⟨z0,z1,z2,z3⟩,S,g1,T,U⟩:=bE r)
  |(go_at_call 107;refine(M _ a _ (gK hr3 b.symm 1 _)).mono ?_;rintro e w4 ⟨rfl,hg4,hr4⟩;have t:=cz (Az r _) hg4 b;obtain⟨⟨V,W,X,Y⟩,v0,Z,v2,v3⟩:=bE t)
  |(go_at_call 108;refine(E _).mono ?_;rintro e w5 ⟨rfl,hb5⟩))
 all_goals first
  |(exfalso;rcases B with e|e;exact absurd ‹q=true› (by rw[e];decide);omega)
  |(go_ret
    have K:w.grownBy J (some a):=aB (aS (aB hg1 (eu _ _ _ _)) _) f;have L:=aB (df K u 1 (.bool true)) hg4;have l:=aB (df L u 0 (.string (aa j))) (bC hb5 _);exact⟨⟨l.os,l.tape,l.output,l.size,λg N O _=>l.block g N (by simpa using O)⟩,.inl ⟨rfl,rfl,I,y,n,cap,cu (gK hr4 b.symm 0 _) hb5⟩⟩)
theorem zI.trans{w wr i:World}{rb:Nat}{o b:Option Nat}(h:zI w wr rb o)(a:zI wr i rb b)(k:b=o\/∃g,b=some g/\w.heap.size<=g):zI w i rb o:=by
 refine⟨a.os.trans h.os,a.tape.trans h.tape,a.output.trans h.output,Nat.le_trans h.size a.size,λg c d f=> ?_⟩;rw[a.block g (Nat.lt_of_lt_of_le c h.size) d ?_,h.block g c d f];rcases k with e|⟨q,e,hq⟩
 ·rw[e];exact f
 ·rw[e];intro j;have:=Option.some.inj j;omega
theorem zI.qZ{w w':World}{a:Nat}{o:Option Nat}(h:zI w.drew w' a o):zI w w' a o:=⟨h.os,h.tape,h.output,h.size,h.block⟩
theorem zI.Rt{w w':World}{a:Nat}(h:w.grownBy w' (some a))(o:Option Nat):zI w w' a o:=⟨h.os,h.tape,h.output,h.size,λg b c _=>h.block g b (by simpa using c)⟩
theorem Lj{x:World}{b:Nat}{a0 a1 a2 a3:Value}{T:TypeId}(h:x.heap[b]? =some (.cells #[a0,a1,a2,a3] T (0,0)))(v:Value):(x.setCell ⟨b,2,none⟩ v).heap[b]? =some (.cells #[a0,a1,v,a3] T (0,0)):=by
 simp[setCell,Array.getElem?_modify,h]
theorem jl.snoc{w:World}{S:Nat->Prop}{cs:List Value}{is:List Nat}{c:List Tr}{lo m i:Nat}{x:Tr}(h:jl w S cs lo m is c)(k:zN w S cs m i x):jl w S cs lo (i+1) (is++ [i]) (c++ [x]):=by
 induction c generalizing is lo with
 |nil=>cases h;exact .cons k .nil
 |cons y d ih=>cases h with|cons a b=>exact .cons a (ih b)
theorem Pk{w wr B w7:World}{o:Obj}{p b n m u Z f l i a:Nat}{v A y:Value}{s:ByteArray}{cs G r:List Value}{tx:Bs}{k:List Tr}{is:List Nat}{x:Tr}
  (a1:p<w.heap.size) (a0:w.heap.size<=b) (X:b<wr.heap.size) (hF:zI w wr p v.ownBlock) (P:A.ownBlock=v.ownBlock\/∃g,A.ownBlock=some g/\w.heap.size<=g) (Q:A.ownBlock≠some b)
  (V:wr.ownsRow (b+1) 3 1 y k.length (is.map λj:Nat=>int .i64 (j:Int))) (Y:∀g,y.ownBlock=some g->A.ownBlock≠some g) (W:wr.ownsRow (p+1) 183 4 A m (cs++G))
  (O:jl wr (λq=>b<q/\A.ownBlock≠some q/\y.ownBlock≠some q) (cs++G) n m is k)
  (U:wr.heap[b]? =some (.cells #[.string (aa tx),.bool true,y,.int .u8 0] 183 (0,0)))
  (D:zI wr B p A.ownBlock) (M:dN B p s Z (.slice (some ⟨f,0,none⟩) (u+1) l)) (C:B.ownsRow (p+1) 183 4 (.slice (some ⟨f,0,none⟩) (u+1) l) (u+1) (cs++G++r))
  (z:A.ownBlock=some f\/wr.heap.size<=f) (F:zN B (λq=>wr.heap.size<=q/\q≠f) (cs++G++r) m u x)
  (c:(B.alloc o).grownBy w7 y.ownBlock) (E:w7.ownsRow (b+1) 3 1 (.slice (some ⟨i,0,none⟩) (k.length+1) a) (k.length+1) ((is.map λj:Nat=>int .i64 (j:Int))++ [.int .i64 (u:Int)]))
  (t:y.ownBlock=some i\/i=B.heap.size+1):
  dN (w7.setCell ⟨b,2,none⟩ (.slice (some ⟨i,0,none⟩) (k.length+1) a)) p s Z (.slice (some ⟨f,0,none⟩) (u+1) l)/\
  zI w (w7.setCell ⟨b,2,none⟩ (.slice (some ⟨i,0,none⟩) (k.length+1) a)) p v.ownBlock/\
  (w7.setCell ⟨b,2,none⟩ (.slice (some ⟨i,0,none⟩) (k.length+1) a)).ownsRow (p+1) 183 4 (.slice (some ⟨f,0,none⟩) (u+1) l) (u+1) (cs++(G++r))/\
  (some f=v.ownBlock\/∃g,some f=some g/\w.heap.size<=g)/\some f≠some b/\
  (w7.setCell ⟨b,2,none⟩ (.slice (some ⟨i,0,none⟩) (k.length+1) a)).heap[b]? =some (.cells #[.string (aa tx),.bool true,.slice (some ⟨i,0,none⟩) (k.length+1) a,.int .u8 0] 183 (0,0))/\
  (w7.setCell ⟨b,2,none⟩ (.slice (some ⟨i,0,none⟩) (k.length+1) a)).ownsRow (b+1) 3 1 (.slice (some ⟨i,0,none⟩) (k.length+1) a) (k++ [x]).length ((is++ [u]).map λj:Nat=>int .i64 (j:Int))/\
  (∀g,some i=some g->some f≠some g)/\
  jl (w7.setCell ⟨b,2,none⟩ (.slice (some ⟨i,0,none⟩) (k.length+1) a)) (λq=>b<q/\some f≠some q/\some i≠some q) (cs++(G++r)) n (u+1) (is++ [u]) (k++ [x]):=by
 have s6:=D.size;have sF:=hF.size;have I:∀g,y.ownBlock=some g->b<g/\g<wr.heap.size:=λg N=>by have:=V.lt g N;omega
 have hL:∀g,A.ownBlock=some g->p<g/\g<wr.heap.size:=λg N=>by have:=W.lt g N;omega
 have L:f<B.heap.size:=(C.lt f rfl).2;have ag:∀g,g<B.heap.size->g≠b->y.ownBlock≠some g->(w7.setCell ⟨b,2,none⟩ (.slice (some ⟨i,0,none⟩) (k.length+1) a)).heap[g]? =B.heap[g]? :=by
  intro g H R T;rw[heap_setCell _ _ _ _ R,c.block g (by simp;omega) (λe=>T e.symm),heap_alloc _ _ _ H]
 have J:y.ownBlock≠some f:=by
  intro e;rcases z with d|d
  ·exact Y f e d
  ·have:=I f e;omega
 have K:f≠b:=by
  intro e;rcases z with d|d
  ·exact Q (by rw[d,e])
  ·omega
 have S:f≠i:=by
  intro e;rcases t with d|d
  ·exact J (by rw[d,e])
  ·omega
 refine⟨?_, ?_, ?_, ?_,(λe=>K (Option.some.inj e)), ?_, ?_,(λg e d=>S (by rw[Option.some.inj e,Option.some.inj d])), ?_⟩
 ·unfold dN;rw[ag p (ai M) (by omega) (λe=>by have:=I p e;omega)];exact M
 ·refine⟨c.os.trans (D.os.trans hF.os),c.tape.trans (D.tape.trans hF.tape),c.output.trans (D.output.trans hF.output), ?_,λg H R T=> ?_⟩
  ·have:=c.size;simp[setCell]at this ⊢;omega
  ·rw[ag g (by omega) (by omega) (λe=>by have:=I g e;omega),(hF.trans D P).block g H R T]
 ·rw[<-append_assoc];exact aA C λg N=>by
   have:f=g:=Option.some.inj N;subst this;exact ag f L K J
 ·rcases z with e|e
  ·rcases P with d|⟨q,d,h⟩
   ·exact .inl (by rw[<-d,e])
   ·exact .inr ⟨f,rfl,by rw[e]at d;have:=Option.some.inj d;omega⟩
  ·exact .inr ⟨f,rfl,by omega⟩
 ·refine Lj (a2:=y) ?_ _;rw[c.block b (by simp;omega) (λe=>by have:=I b e.symm;omega),heap_alloc _ _ _ (by omega),D.block b X (by omega) Q];exact U
 ·rw[List.map_append,List.length_append];exact ownsRow_setCell_below E (by show b<b+1;omega) _
 ·rw[<-append_assoc];refine jl.snoc (m:=m) ?_ ?_
  ·refine O.bounded.move r (λq h=> ?_) (λq h=>⟨h.1.1, ?_, ?_⟩)
   ·have H:=h.1.1;rw[ag q (by have:=h.2;omega) (by omega) h.1.2.2,D.block q h.2 (by omega) h.1.2.1]
   ·intro e;have e:=Option.some.inj e;subst e;rcases z with d|d
    ·exact h.1.2.1 d
    ·have:=h.2;omega
   ·intro e;have e:=Option.some.inj e;subst e;rcases t with d|d
    ·exact h.1.2.2 d
    ·have:=h.2;omega
  ·have:=F.bounded.move (x:=w7.setCell ⟨b,2,none⟩ (.slice (some ⟨i,0,none⟩) (k.length+1) a)) (S':=λq=>b<q/\some f≠some q/\some i≠some q) [] (λq h=> ?_) (λq h=>⟨by have:=h.1.1;omega,λe=>h.1.2 (Option.some.inj e).symm,λe=> ?_⟩)
   ·rwa[append_nil]at this
   ·have H:=h.1.1;exact ag q h.2 (by omega) (λe=>by have:=I q e;omega)
   ·have e:=Option.some.inj e;subst e;have H:=h.1.1;have R:=h.2;rcases t with d|d
    ·have:=I i d;omega
    ·omega
end Go.Proofs.YtdifpeaklamhnaaGreatDoor
