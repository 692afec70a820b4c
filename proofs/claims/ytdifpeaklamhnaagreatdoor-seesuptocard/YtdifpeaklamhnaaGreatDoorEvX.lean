import Derived.Test.YtdifpeaklamhnaaGreatDoorEwUZ
set_option linter.unusedVariables false
set_option linter.unusedSimpArgs false
set_option maxRecDepth 100000
set_option maxHeartbeats 0
namespace Go.Proofs.YtdifpeaklamhnaaGreatDoor
open Go.RowKit
def rq(f:Ex->Option aj):List Ex->Option (List aj)
 | []=>some []
 |e::es=>match f e with
  |none=>none
  |some c=>match rq f es with
   |none=>none
   |some cs=>some (c::cs)
def JO(f:Ex->Option aj)(stop last:aj):List Ex->Option aj
 | []=>some last
 |e::es=>match f e with
  |none=>none
  |some c=>if c=stop then some c else JO f stop (if c.1=0 then c else last) es
def VH(f:Ex->Option aj):List Ex->Option aj
 | [a,b,c]=>match f a with
  |none=>none
  |some v=>if v=aV true then f b else f c
 |_=>none
def Ec(h:Bs)(c:aj):Option aj:=
 if h=oH then some (aV (c.1==0))else if c.1=0 then some dm else if h=zV then some (aV (c==aV false))else if h=zU then some (1,(c.2.2.length:Int),[])else none
def JY(h:Bs)(a b:aj):Option aj:=
 if h= [61]\/h= [60]\/h= [60,61]then(if a.1=0\/b.1=0 then some dm else some (uy h (sK a b)))else none
def xD(h:Bs):List aj->Option aj
 | [c]=>if h=oH\/h=zV\/h=zU then Ec h c else none
 | [a,b]=>JY h a b
 |_=>none
def uD(f:Ex->Option aj)(h:Bs)(ops:List Ex):Option aj:=
 if h=hAnd then JO f (aV false) (aV true) ops
 else if h=hOr then JO f (aV true) (aV false) ops
 else if h=xH then VH f ops
 else match rq f ops with
  |none=>none
  |some cs=>xD h cs
def tY(fns:List Fn)(user:Bs):Nat->List aj->List aj->Ex->Option aj
 |0,_,_,_=>none
 |N+1,ax,args,.mk sort _ _ _ vk vn vs place head fi ops=>
  if 1000<ops.length then none
  else if sort=1 then some (2,0,user)
  else if sort=2 then jO ax place
  else if sort=3 then jO args place
  else if sort=4 then uD (tY fns user N ax args) head ops
  else if sort=5 then(match fi with
   |none=>none
   |some i=>match fns[i]? with
    |none=>none
    |some fn=>match rq (tY fns user N ax args) ops with
     |none=>none
     |some cs=>tY fns user N [] cs fn.body)
  else some (vk,vn,vs)
theorem Bt{f:Ex->Option aj} :∀ {a:List Ex} {cs:List aj},rq f a=some cs->cs.length=a.length/\∀i (h:i<a.length),∃c,cs[i]? =some c/\f a[i]=some c
 | [],cs,h=>by
  rw[rq]at h;cases h;exact⟨rfl,λi h=>by simp at h⟩
 |e::a,cs,h=>by
  rw[rq]at h;split at h
  ·cases h
  ·next c k=>
   split at h
   ·cases h
   ·next d b=>
    cases h;obtain⟨g,j⟩:=Bt b;refine⟨by simp[g],λi l=> ?_⟩
    cases i with
    |zero=>exact⟨c,rfl,k⟩
    |succ i=>simpa using j i (by simpa using l)
end Go.Proofs.YtdifpeaklamhnaaGreatDoor
