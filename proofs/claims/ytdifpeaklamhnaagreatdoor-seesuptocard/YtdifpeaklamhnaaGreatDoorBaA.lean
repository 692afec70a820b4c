import Derived.Test.YtdifpeaklamhnaaGreatDoorTyMZ
set_option linter.unusedVariables false
set_option linter.unusedSimpArgs false
set_option maxRecDepth 100000
set_option maxHeartbeats 0
namespace Go.Proofs.YtdifpeaklamhnaaGreatDoor
open Go.Proofs.Tryz
open Go.RowKit
def aP(l:Bs):List Int:=l.map λc=>iT c.toNat
theorem xB(s:ByteArray)(w:World)(L:s.size<=1000):
  Calls prog 186 #[.string s] w λe w'=>∃v',e=.returned v'/\(bi w' v' (aP s.toList)/\w'.ownsRow w.heap.size 3 1 v' (aP s.toList).length (aL (aP s.toList)))/\Below w.heap.size w w':=by
 obtain⟨i0,H,t,v,x⟩:=info_parts qK;go_enter Tryz.func186,Tryz.ntmps186
 go_wp2_with fail
 go_loopw [3,7] (λK y wr=>∃(i kn m:Nat) (n:Option Addr),i<=s.size/\K=.slice n kn m/\y=.int .i64 i/\wr.ownsRow w.heap.size 3 1 (.slice n kn m) i (aL (aP (s.toList.take i)))/\Below w.heap.size w wr) (λ_ y _=>s.size- (intOf y).toNat)
 case atStart=>exact⟨0,0,0,none,Nat.zero_le _,rfl,rfl,World.ownsRow_nil _ _ _ _,Below.refl _ _⟩
 case round=>
  obtain⟨i,kn,m,n,I,rfl,rfl,c,p⟩:=hrel;have r:=p.size;by_cases l:i<s.size
  ·have A:Hid (aP (s.toList.take (i+1))=aP (s.toList.take i)++ [iT s[i].toNat]):=by
    have e:s.toList.take (i+1)=s.toList.take i++ [s[i]]:=by
     rw[List.take_succ_eq_append_getElem (by rw[ah];exact l),ed s i l]
    rw[Hid,aP,e,List.map_append];rfl
   go_wp2_with(first
    |(go_at_call 241;refine(xA _ _).mono ?_;rintro e w2 ⟨rfl,rfl⟩)
    |(at_builtin;refine wpList_append_own _ rfl (.tmp 10) (.tmp 15) 42 rfl w.heap.size 3 i0 (.int .i64 0) 1 8 Tryz.underlying42 H t v x rfl (by decide) _ _ _ rfl (c.alloc _) ⟨w2.heap.size,0,none⟩ 1 1 [.int .i64 (iT s[i].toNat)] rfl rfl ?c1 ?c2 ?c3 ?c4 ?c5 ?_))
   case c1=>
    intro j u o
    match j,o with
    |0,o=>simp at o;subst o;simp[Addr.add]
   case c2=>intro u C;simp at C;subst C;rfl
   case c3=>unfold maxLen;omega
   case c4=>omega
   case c5=>simp;omega
   ·intro v' D a f _;obtain⟨g,z,d,rfl⟩:∃g z d,v'=.slice g z d:=by
     rcases a.2 with⟨e,_⟩|⟨q,d,G,e,_⟩<;>exact⟨_,_,_,e⟩
    have R:D.ownsRow w.heap.size 3 1 (.slice g z d) (i+1) (aL (aP (s.toList.take (i+1)))):=by
     rw[A.out];simp only[aL,List.map_append,List.map_cons,List.map_nil]at a ⊢;exact a
    have F:Below w.heap.size w D:=(p.alloc r _).grown f (by simp;omega) (λk J=>(c.lt k J).1);clear a f c A
    go_wp2
    go_roundw
    case rel=>exact⟨i+1,_,_,_,by omega,rfl,by go_num,R,F⟩
    case measure=>simp[intOf];omega
  ·have h:s.toList.take i=s.toList:=List.take_of_length_le (by rw[ah];omega);have E:Hid (bi wr (.slice n kn m) (aP s.toList)/\wr.ownsRow w.heap.size 3 1 (.slice n kn m) (aP s.toList).length (aL (aP s.toList))):=by
    rw[h]at c;have B:(aP s.toList).length=i:=by rw[aP,List.length_map,ah];omega
    rw[<-B]at c;exact⟨jr (b:=w.heap.size) c (by rw[B];omega),c⟩
   clear c h
   go_wp2_with fail
   go_ret;exact⟨_,rfl,E.out,p⟩
def dQ(l:Bs):Bool:=decide (l.length<=4)&& !(aP l).any (· ==0)
theorem BL(s:ByteArray)(w:World):Calls prog 185 #[.string s] w λe w'=>e=.returned (.bool (dQ s.toList))/\Below w.heap.size w w':=by
 by_cases g:s.size<=4
 ·have j:=xB s w (by omega);have c:∀(x:World) (v:Value),bi x v (aP s.toList)->Calls prog 149 #[v,.int .i64 0] x λe w'=>e=.returned (.bool ((aP s.toList).any (· ==0)))/\w'=x:=λx v h=>xR x v _ 0 h;obtain⟨d,i⟩:∃d,d=(aP s.toList).any (· ==0):=⟨_,rfl⟩;have f:Hid (dQ s.toList= !d):=by rw[Hid,dQ,ah,decide_eq_true g,<-i,Bool.true_and]
  rw[<-i]at c;obtain⟨k,b⟩:∃k,k=aP s.toList:=⟨_,rfl⟩;rw[<-b]at j c;have a:decide ((s.size:Int)<=4)=true:=by simp;omega
  clear i b g;go_enter Tryz.func185,Tryz.ntmps185
  go_wp2_with(first
   |(go_at_call 186;refine j.mono ?_;rintro e w2 ⟨v',rfl,⟨hi2,_⟩,hb2⟩)
   |(go_at_call 149;refine(c _ _ hi2).mono ?_;rintro e l ⟨rfl,rfl⟩))
  go_ret;exact⟨by rw[f.out];rfl,hb2⟩
 ·have f:Hid (dQ s.toList=false):=by rw[Hid,dQ,ah,decide_eq_false g];rfl
  have a:decide ((s.size:Int)<=4)=false:=by simp;omega
  go_enter Tryz.func185,Tryz.ntmps185
  go_wp2_with fail
  go_ret;exact⟨ay f.out.symm,Below.refl _ _⟩
def oG(fns:List Fn)(l:Bs):Bool:=aU l&& !iX l&& !bM l&&(bB fns l).isNone
theorem IR(w:World)(k:List Nat)(fns:List Fn)(j:Nat)(r:Option Addr)(f n:Nat)(s:j<w.heap.size)(B:w.cell? ⟨j,0,none⟩=some (.slice r f n))(hF:iP w k (.slice r f n) fns)(l:Bs)(C:l.length<=maxLen):
  Calls prog 184 #[.pointer (some ⟨j,0,none⟩),.string (aa l)] w λe w'=>e=.returned (.bool (oG fns l))/\Below w.heap.size w w':=by
 have g:∀x:World,Calls prog 171 #[.string (aa l)] x λe w'=>e=.returned (.bool (aU l))/\w'=x:=by
  intro x;have:=jY (aa l) x (by rw[aF];exact C);rw[au]at this;exact this
 have h:∀x:World,Calls prog 175 #[.string (aa l)] x λe w'=>e=.returned (.bool (iX l))/\Below x.heap.size x w':=by
  intro x;have:=gW (aa l) x;rw[au]at this;exact this
 have m:∀x:World,Calls prog 240 #[.string (aa l)] x λe w'=>e=.returned (.bool (bM l))/\w'=x:=by
  intro x;have:=sj (aa l) x;rw[au]at this;exact this
 have u:∀x:World,Below w.heap.size w x->Calls prog 122 #[.slice r f n,.string (aa l)] x λe w'=>(∃p,e=.returned (.pointer p)/\zL k (bB fns l) p)/\Below x.heap.size x w':=λx D=>EL x k _ fns l (hF.ag D);have c:Hid (oG fns l=(aU l&& !iX l&& !bM l&&(bB fns l).isNone)):=rfl;obtain⟨a,v⟩:∃a,a=aU l:=⟨_,rfl⟩;obtain⟨b,hb⟩:∃b,b=iX l:=⟨_,rfl⟩;obtain⟨d,y⟩:∃d,d=bM l:=⟨_,rfl⟩;obtain⟨o,z⟩:∃o,o=bB fns l:=⟨_,rfl⟩;rw[<-v]at g c;rw[<-hb]at h c;rw[<-y]at m c;rw[<-z]at u c;clear v hb y z hF
 cases a
 ·go_enter Tryz.func184,Tryz.ntmps184
  go_wp2_with(go_at_call 171;refine(g _).mono ?_;rintro e w2 ⟨rfl,rfl⟩)
  go_ret;exact⟨by rw[c.out];rfl,Below.refl _ _⟩
 ·cases b
  ·cases d
   ·go_enter Tryz.func184,Tryz.ntmps184
    go_wp2_with(first
     |(go_at_call 171;refine(g _).mono ?_;rintro e w2 ⟨rfl,rfl⟩)
     |(go_at_call 175;refine(h _).mono ?_;rintro e A ⟨rfl,hb3⟩)
     |(go_at_call 240;refine(m _).mono ?_;rintro e E ⟨rfl,rfl⟩;have F:=(hb3.cell (p:=⟨j,0,none⟩) s).trans B)
     |(go_at_call 122;refine(u _ hb3).mono ?_;rintro e G ⟨⟨p,rfl,hp⟩,hb5⟩))
    have t:p.isNone=o.isNone:=by
     cases o with
     |none=>have:p=none:=hp;rw[this];rfl
     |some i=>obtain⟨q,_,rfl⟩:=hp;rfl
    go_ret;exact⟨by rw[c.out,<-t];rfl,hb3.trans (hb5.mono hb3.size)⟩
   ·go_enter Tryz.func184,Tryz.ntmps184
    go_wp2_with(first
     |(go_at_call 171;refine(g _).mono ?_;rintro e w2 ⟨rfl,rfl⟩)
     |(go_at_call 175;refine(h _).mono ?_;rintro e A ⟨rfl,hb3⟩)
     |(go_at_call 240;refine(m _).mono ?_;rintro e E ⟨rfl,rfl⟩))
    go_ret;exact⟨by rw[c.out];rfl,hb3⟩
  ·go_enter Tryz.func184,Tryz.ntmps184
   go_wp2_with(first
    |(go_at_call 171;refine(g _).mono ?_;rintro e w2 ⟨rfl,rfl⟩)
    |(go_at_call 175;refine(h _).mono ?_;rintro e A ⟨rfl,hb3⟩))
   go_ret;exact⟨by rw[c.out];rfl,hb3⟩
end Go.Proofs.YtdifpeaklamhnaaGreatDoor
