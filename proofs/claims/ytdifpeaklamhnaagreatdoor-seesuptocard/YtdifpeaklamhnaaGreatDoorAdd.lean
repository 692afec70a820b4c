import Derived.Test.YtdifpeaklamhnaaGreatDoorDecoQZ
set_option linter.unusedVariables false
set_option linter.unusedSimpArgs false
set_option maxRecDepth 100000
set_option maxHeartbeats 0
namespace Go.Proofs.YtdifpeaklamhnaaGreatDoor
theorem ui(a b:Bs):aa a++aa b=aa (a++b):=by
 apply ByteArray.ext;rw[ByteArray.data_append];simp[aa]
theorem NJ(l:List UInt8)(b:Bs):(ByteArray.mk l.toArray)++aa b=aa (l++b):=ui l b
end Go.Proofs.YtdifpeaklamhnaaGreatDoor
