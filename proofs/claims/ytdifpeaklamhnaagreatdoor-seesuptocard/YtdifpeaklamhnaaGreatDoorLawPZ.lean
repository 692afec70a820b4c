import Derived.Test.YtdifpeaklamhnaaGreatDoorRefVZ
set_option linter.unusedVariables false
set_option linter.unusedSimpArgs false
set_option maxRecDepth 100000
set_option maxHeartbeats 0
namespace Go.Proofs.YtdifpeaklamhnaaGreatDoor
open Go.Proofs.Tryz
open Go.RowKit
theorem uw{x:World}{b j:Nat}{cs:Array Value}{T:TypeId}{a:Nat × Nat}(h:x.heap[b]? =some (.cells cs T a)):x.cell? ⟨b,j,none⟩=cs[j]? :=by simp[World.cell?,h]
theorem Rq(n:Int)(w:World):Calls prog 12 #[.int .i64 n] w λe w'=>e=.returned (.int .i64 n)/\w'=w:=by
 go_enter Tryz.func12,Tryz.ntmps12
 go_wp2_with fail
 go_ret;exact⟨rfl,rfl⟩
end Go.Proofs.YtdifpeaklamhnaaGreatDoor
