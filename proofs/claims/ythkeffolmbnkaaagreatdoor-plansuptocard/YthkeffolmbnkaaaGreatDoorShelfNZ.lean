import Derived.Shelf.Small.Strs
import Derived.Shelf.Strings.BuilderK
import Derived.Test.YthkeffolmbnkaaaGreatDoorProg
import Derived.Shelf.Small.Wraps
import Derived.Shelf.Strconv.Atoi
import Derived.Shelf.Strconv.Itoa3
import Derived.Shelf.Strconv.AtoiErrFast
import Derived.Shelf.Strconv.Clone
import Derived.Shelf.Strings.Shaped
import Derived.Shelf.Slices.Turned
import Derived.Shelf.Slices.Equal
set_option linter.unusedVariables false
set_option linter.unusedSimpArgs false
namespace Go.Proofs
open Go.Shelf Tryz
theorem kz{α}{a b:α}(h:a=b:=by kernel_rfl):some a=some b:=congrArg some h
def Tryz.Nu:Ren:=⟨λ|137=>233|217=>284|266=>323|n=>n,λ|9=>9|5=>5|3=>3|n=>n,λ|n=>n⟩
theorem Tryz.abj:Lays.n137 Tryz.prog Tryz.Nu:={mixed:=by kernel_rfl,f137:=func233.trans kz,f217:=func284.trans kz,f266:=func323.trans kz,t3:=underlying3,a3:=isAgg3,z3:=sizeOf3,v3:=zeroValue3,t5:=underlying5,a5:=isAgg5,z5:=sizeOf5,v5:=zeroValue5,t9:=underlying9,a9:=isAgg9,z9:=sizeOf9,v9:=zeroValue9}
open Go.RowKit in
theorem Tryz.strings_IndexByte (s:ByteArray) (c:Int) (w:World) :
 Calls Tryz.prog 233 #[.string s, .int .u8 c] w λe w' => e = .returned (.int .i64 (Lib.indexByte s.data.toList c.toNat.toUInt8)) /\ w' = w:=Any.strings_IndexByte Tryz.abj s c w
def Tryz.Nq:Ren:=⟨λ|101=>234|208=>285|206=>324|n=>n,λ|9=>9|4=>4|3=>3|n=>n,λ|n=>n⟩
theorem Tryz.abe:Lays.n101 Tryz.prog Tryz.Nq:={mixed:=by kernel_rfl,f101:=func234.trans kz,f206:=func324.trans kz,f208:=func285.trans kz,t3:=underlying3,a3:=isAgg3,z3:=sizeOf3,v3:=zeroValue3,t4:=underlying4,a4:=isAgg4,z4:=sizeOf4,v4:=zeroValue4,t9:=underlying9,a9:=isAgg9,z9:=sizeOf9,v9:=zeroValue9}
open Go.RowKit Go.Lib in
theorem Tryz.strings_TrimPrefix (s p:ByteArray) (w:World) :
 Calls Tryz.prog 234 #[.string s, .string p] w λe w' => e = .returned (.string ⟨(Lib.trimPrefix s.data.toList p.data.toList).toArray⟩) /\ w' = w:=Any.strings_TrimPrefix Tryz.abe s p w
def Tryz.Ny:Ren:=⟨λ|219=>325|217=>284|225=>347|224=>348|267=>349|266=>323|314=>360|n=>n,λ|9=>9|3=>3|4=>4|5=>5|46=>276|146=>528|51=>410|n=>n,λ|1=>0|n=>n⟩
theorem Tryz.abn:Lays.n219 Tryz.prog Tryz.Ny:={mixed:=by kernel_rfl,f217:=func284.trans kz,f219:=func325.trans kz,f224:=func348.trans kz,f225:=func347.trans kz,f266:=func323.trans kz,f267:=func349.trans kz,f314:=func360.trans kz,t3:=underlying3,a3:=isAgg3,z3:=sizeOf3,v3:=zeroValue3,t4:=underlying4,a4:=isAgg4,z4:=sizeOf4,v4:=zeroValue4,t5:=underlying5,a5:=isAgg5,z5:=sizeOf5,v5:=zeroValue5,t9:=underlying9,a9:=isAgg9,z9:=sizeOf9,v9:=zeroValue9,t46:=underlying276,a46:=isAgg276,z46:=sizeOf276,v46:=zeroValue276,t51:=underlying410,a51:=isAgg410,z51:=sizeOf410,v51:=zeroValue410,t146:=underlying528,a146:=isAgg528,z146:=sizeOf528,v146:=zeroValue528,g1:=by kernel_rfl}
open Go.RowKit Go.Lib in
theorem Tryz.stringslite_Index_one (s:ByteArray) (c:UInt8) (w:World) :
 Calls Tryz.prog 325 #[.string s, .string ⟨#[c]⟩] w λe w' => e = .returned (.int .i64 (Lib.indexByte s.data.toList c)) /\ w' = w:=Any.stringslite_Index_one Tryz.abn s c w
def Tryz.BO:Ren:=⟨λ|169=>56|n=>n,λ|70=>173|9=>9|0=>0|72=>176|37=>174|127=>287|3=>3|5=>5|n=>n,λ|n=>n⟩
theorem Tryz.abk:Lays.n169 Tryz.prog Tryz.BO:={mixed:=by kernel_rfl,f169:=func56.trans kz,t0:=underlying0,a0:=isAgg0,z0:=sizeOf0,v0:=zeroValue0,t3:=underlying3,a3:=isAgg3,z3:=sizeOf3,v3:=zeroValue3,t9:=underlying9,a9:=isAgg9,z9:=sizeOf9,v9:=zeroValue9,t37:=underlying174,a37:=isAgg174,z37:=sizeOf174,v37:=zeroValue174,t70:=underlying173,a70:=isAgg173,z70:=sizeOf173,v70:=zeroValue173,t72:=underlying176,a72:=isAgg176,z72:=sizeOf176,v72:=zeroValue176,t127:=underlying287,a127:=isAgg287,z127:=sizeOf287,v127:=zeroValue287}
theorem Tryz.yM:Builder.Extra Tryz.prog Tryz.BO:={sizeBuilder:=by kernel_rfl,liesBuilder:=by kernel_rfl,t5:=underlying5,a5:=isAgg5,z5:=sizeOf5,v5:=zeroValue5,infoByte:=by kernel_rfl,cellsByte:=by kernel_rfl,sizeByte:=by kernel_rfl,neB5:=by decide}
open Go.RowKit in
theorem Tryz.Builder_String_any_k (B b:Nat) (l:List UInt8) (w:World) (h:Lib.IsBuilderF 176 5 B b (Lib.byteCells l) w) (hBw:B <= w.heap.size) :
 Calls Tryz.prog 56 #[.pointer (some ⟨b, 0, none⟩)] w λe w' => e = .returned (.string ⟨l.toArray⟩) /\ (Lib.IsBuilderF 176 5 B b (Lib.byteCells l) w' /\ Below B w w' /\ Lib.OthersKept 5 (some b) w w'):=Any.Builder_String_any_k Tryz.abk Tryz.yM B b l w h hBw
end Go.Proofs

namespace Go.Proofs
open Go.Shelf
def Tryz.Nw:Ren:=⟨λ|172=>330|244=>354|245=>355|247=>363|279=>364|280=>365|281=>366|282=>367|287=>371|316=>199|171=>335|205=>372|321=>378|322=>379|243=>356|246=>368|283=>373|284=>374|285=>375|286=>376|129=>320|317=>380|318=>381|319=>382|320=>383|337=>384|338=>385|n=>n,λ|9=>9|3=>3|75=>283|76=>284|4=>4|5=>5|167=>531|37=>174|0=>0|85=>532|2=>2|168=>534|53=>407|175=>539|46=>276|210=>542|127=>287|145=>552|143=>550|21=>21|171=>544|173=>546|212=>554|51=>410|20=>20|213=>555|232=>556|233=>557|80=>99|n=>n,λ|15=>1|16=>2|17=>3|18=>4|19=>5|n=>n⟩
theorem Tryz.abm:Lays.n172 Tryz.prog Tryz.Nw:={mixed:=by kernel_rfl,f129:=func320.trans kz,f171:=func335.trans kz,f172:=func330.trans kz,f205:=func372.trans kz,f243:=func356.trans kz,f244:=func354.trans kz,f245:=func355.trans kz,f246:=func368.trans kz,f247:=func363.trans kz,f279:=func364.trans kz,f280:=func365.trans kz,f281:=func366.trans kz,f282:=func367.trans kz,f283:=func373.trans kz,f284:=func374.trans kz,f285:=func375.trans kz,f286:=func376.trans kz,f287:=func371.trans kz,f316:=func199.trans kz,f317:=func380.trans kz,f318:=func381.trans kz,f319:=func382.trans kz,f320:=func383.trans kz,f321:=func378.trans kz,f322:=func379.trans kz,f337:=func384.trans kz,f338:=func385.trans kz,t0:=underlying0,a0:=isAgg0,z0:=sizeOf0,v0:=zeroValue0,t2:=underlying2,a2:=isAgg2,z2:=sizeOf2,v2:=zeroValue2,t3:=underlying3,a3:=isAgg3,z3:=sizeOf3,v3:=zeroValue3,t4:=underlying4,a4:=isAgg4,z4:=sizeOf4,v4:=zeroValue4,t5:=underlying5,a5:=isAgg5,z5:=sizeOf5,v5:=zeroValue5,t9:=underlying9,a9:=isAgg9,z9:=sizeOf9,v9:=zeroValue9,t20:=underlying20,a20:=isAgg20,z20:=sizeOf20,v20:=zeroValue20,t21:=underlying21,a21:=isAgg21,z21:=sizeOf21,v21:=zeroValue21,t37:=underlying174,a37:=isAgg174,z37:=sizeOf174,v37:=zeroValue174,t46:=underlying276,a46:=isAgg276,z46:=sizeOf276,v46:=zeroValue276,t51:=underlying410,a51:=isAgg410,z51:=sizeOf410,v51:=zeroValue410,t53:=underlying407,a53:=isAgg407,z53:=sizeOf407,v53:=zeroValue407,t75:=underlying283,a75:=isAgg283,z75:=sizeOf283,v75:=zeroValue283,t76:=underlying284,a76:=isAgg284,z76:=sizeOf284,v76:=zeroValue284,t85:=underlying532,a85:=isAgg532,z85:=sizeOf532,v85:=zeroValue532,t127:=underlying287,a127:=isAgg287,z127:=sizeOf287,v127:=zeroValue287,t143:=underlying550,a143:=isAgg550,z143:=sizeOf550,v143:=zeroValue550,t145:=underlying552,a145:=isAgg552,z145:=sizeOf552,v145:=zeroValue552,t167:=underlying531,a167:=isAgg531,z167:=sizeOf531,v167:=zeroValue531,t168:=underlying534,a168:=isAgg534,z168:=sizeOf534,v168:=zeroValue534,t171:=underlying544,a171:=isAgg544,z171:=sizeOf544,v171:=zeroValue544,t173:=underlying546,a173:=isAgg546,z173:=sizeOf546,v173:=zeroValue546,t175:=underlying539,a175:=isAgg539,z175:=sizeOf539,v175:=zeroValue539,t210:=underlying542,a210:=isAgg542,z210:=sizeOf542,v210:=zeroValue542,t212:=underlying554,a212:=isAgg554,z212:=sizeOf554,v212:=zeroValue554,t213:=underlying555,a213:=isAgg555,z213:=sizeOf555,t232:=underlying556,a232:=isAgg556,z232:=sizeOf556,v232:=zeroValue556,t233:=underlying557,a233:=isAgg557,z233:=sizeOf557,v233:=zeroValue557,g15:=by kernel_rfl,g16:=by kernel_rfl,g17:=by kernel_rfl,g18:=by kernel_rfl,g19:=by kernel_rfl}
open Go.RowKit in
theorem Tryz.strconv_Atoi (s:ByteArray) (n:Int) (hl:s.size <= 18) (h:Lib.atoi s.data.toList = some n) (w:World) :
 Calls Tryz.prog 330 #[.string s] w λe w' => e = .returned (.tuple #[.int .i64 n, .nilIface]) /\ ∃ t, w' = Lib.bytesWorld w 5 t:=Any.strconv_Atoi Tryz.abm s n hl h w
def Tryz.Ns:Ren:=⟨λ|121=>336|214=>357|n=>n,λ|4=>4|9=>9|n=>n,λ|n=>n⟩
theorem Tryz.abg:Lays.n121 Tryz.prog Tryz.Ns:={mixed:=by kernel_rfl,f121:=func336.trans kz,f214:=func357.trans kz,t4:=underlying4,a4:=isAgg4,z4:=sizeOf4,v4:=zeroValue4,t9:=underlying9,a9:=isAgg9,z9:=sizeOf9,v9:=zeroValue9}
open Go.RowKit in
theorem Tryz.strconv_FormatBool (b:Bool) (w:World) :
 Calls Tryz.prog 336 #[.bool b] w λe w' => e = .returned (.string ⟨(Lib.formatBool b).toArray⟩) /\ w' = w:=Any.strconv_FormatBool Tryz.abg b w
def Tryz.Nt:Ren:=⟨λ|122=>283|215=>322|n=>n,λ|3=>3|4=>4|n=>n,λ|n=>n⟩
theorem Tryz.abh:Lays.n122 Tryz.prog Tryz.Nt:={mixed:=by kernel_rfl,f122:=func283.trans kz,f215:=func322.trans kz,t3:=underlying3,a3:=isAgg3,z3:=sizeOf3,v3:=zeroValue3,t4:=underlying4,a4:=isAgg4,z4:=sizeOf4,v4:=zeroValue4}
open Go.RowKit in
theorem Tryz.cmp_Compare_int (x y:Int) (w:World) :
 Calls Tryz.prog 283 #[.int .i64 x, .int .i64 y] w λe w' => e = .returned (.int .i64 (Lib.compareInt x y)) /\ w' = w:=Any.cmp_Compare_int Tryz.abh x y w
def Tryz.JQ:Ren:=⟨λ|316=>199|n=>n,λ|9=>9|3=>3|4=>4|37=>174|0=>0|127=>287|5=>5|n=>n,λ|n=>n⟩
theorem Tryz.Yh:Go.Proofs.LaysM.n316 Tryz.prog Tryz.JQ:={mixed:=by kernel_rfl,f316:=func199.trans kz,t0:=underlying0,a0:=isAgg0,z0:=sizeOf0,v0:=zeroValue0,t3:=underlying3,a3:=isAgg3,z3:=sizeOf3,v3:=zeroValue3,t4:=underlying4,a4:=isAgg4,z4:=sizeOf4,v4:=zeroValue4,t9:=underlying9,a9:=isAgg9,z9:=sizeOf9,v9:=zeroValue9,t37:=underlying174,a37:=isAgg174,z37:=sizeOf174,v37:=zeroValue174,t127:=underlying287,a127:=isAgg287,z127:=sizeOf287,v127:=zeroValue287,t5:=underlying5,a5:=isAgg5,z5:=sizeOf5,v5:=zeroValue5,i0:=by kernel_rfl,i3:=by kernel_rfl,i4:=by kernel_rfl,i5:=by kernel_rfl,i9:=by kernel_rfl,i37:=by kernel_rfl,i127:=by kernel_rfl}
open Go.RowKit in
theorem Tryz.stringslite_Clone (s:ByteArray) (w:World) (hlim:s.size <= 281474976710656) :
 Calls Tryz.prog 199 #[.string s] w λe w' => e = .returned (.string s) /\ Below w.heap.size w w':=Any.stringslite_Clone Tryz.Yh s w hlim
def Tryz.Nr:Ren:=⟨λ|106=>321|213=>346|265=>359|n=>n,λ|9=>9|3=>3|n=>n,λ|n=>n⟩
theorem Tryz.abf:Lays.n106 Tryz.prog Tryz.Nr:={mixed:=by kernel_rfl,f106:=func321.trans kz,f213:=func346.trans kz,f265:=func359.trans kz,t3:=underlying3,a3:=isAgg3,z3:=sizeOf3,v3:=zeroValue3,t9:=underlying9,a9:=isAgg9,z9:=sizeOf9,v9:=zeroValue9}
open Go.RowKit in
theorem Tryz.strings_Compare (a b:ByteArray) (w:World) :
 Calls Tryz.prog 321 #[.string a, .string b] w λe w' => e = .returned (.int .i64 (Lib.compareBytes a.data.toList b.data.toList)) /\ w' = w:=Any.strings_Compare Tryz.abf a b w
def Tryz.JP:Ren:=⟨λ|171=>335|243=>356|246=>368|283=>373|284=>374|285=>375|286=>376|129=>320|317=>380|318=>381|319=>382|320=>383|337=>384|338=>385|n=>n,λ|3=>3|9=>9|2=>2|4=>4|171=>544|0=>0|53=>407|37=>174|5=>5|173=>546|212=>554|51=>410|20=>20|213=>555|46=>276|232=>556|233=>557|n=>n,λ|17=>3|18=>4|19=>5|n=>n⟩
theorem Tryz.Yg:Go.Proofs.LaysM.n171 Tryz.prog Tryz.JP:={mixed:=by kernel_rfl,f129:=func320.trans kz,f171:=func335.trans kz,f243:=func356.trans kz,f246:=func368.trans kz,f283:=func373.trans kz,f284:=func374.trans kz,f285:=func375.trans kz,f286:=func376.trans kz,f317:=func380.trans kz,f318:=func381.trans kz,f319:=func382.trans kz,f320:=func383.trans kz,f337:=func384.trans kz,f338:=func385.trans kz,t0:=underlying0,a0:=isAgg0,z0:=sizeOf0,v0:=zeroValue0,t2:=underlying2,a2:=isAgg2,z2:=sizeOf2,v2:=zeroValue2,t3:=underlying3,a3:=isAgg3,z3:=sizeOf3,v3:=zeroValue3,t4:=underlying4,a4:=isAgg4,z4:=sizeOf4,v4:=zeroValue4,t5:=underlying5,a5:=isAgg5,z5:=sizeOf5,v5:=zeroValue5,t9:=underlying9,a9:=isAgg9,z9:=sizeOf9,v9:=zeroValue9,t20:=underlying20,a20:=isAgg20,z20:=sizeOf20,v20:=zeroValue20,t37:=underlying174,a37:=isAgg174,z37:=sizeOf174,v37:=zeroValue174,t46:=underlying276,a46:=isAgg276,z46:=sizeOf276,v46:=zeroValue276,t51:=underlying410,a51:=isAgg410,z51:=sizeOf410,v51:=zeroValue410,t53:=underlying407,a53:=isAgg407,z53:=sizeOf407,v53:=zeroValue407,t171:=underlying544,a171:=isAgg544,z171:=sizeOf544,v171:=zeroValue544,t173:=underlying546,a173:=isAgg546,z173:=sizeOf546,v173:=zeroValue546,t212:=underlying554,a212:=isAgg554,z212:=sizeOf554,v212:=zeroValue554,t213:=underlying555,a213:=isAgg555,z213:=sizeOf555,t232:=underlying556,a232:=isAgg556,z232:=sizeOf556,v232:=zeroValue556,t233:=underlying557,a233:=isAgg557,z233:=sizeOf557,v233:=zeroValue557,g17:=by kernel_rfl,g18:=by kernel_rfl,g19:=by kernel_rfl,i0:=by kernel_rfl,i2:=by kernel_rfl,i3:=by kernel_rfl,i4:=by kernel_rfl,i5:=by kernel_rfl,i9:=by kernel_rfl,i20:=by kernel_rfl,i37:=by kernel_rfl,i46:=by kernel_rfl,i51:=by kernel_rfl,i53:=by kernel_rfl,i171:=by kernel_rfl,i173:=by kernel_rfl,i212:=by kernel_rfl,i232:=by kernel_rfl,i233:=by kernel_rfl,m17:=by kernel_rfl,m18:=by kernel_rfl,m19:=by kernel_rfl}
open Go.RowKit Go.Sort Go.Lib in
theorem Tryz.strconv_Itoa (n:Int) (h0:-9223372036854775808 ≤ n) (h1:n ≤ 9223372036854775807) (w:World) (htab:Lib.TabIs Tryz.prog w "internal/strconv.uint64pow10" .u64 Lib.pow10Tab) :
 Calls Tryz.prog 335 #[.int .i64 n] w λe w' => e = .returned (.string ⟨(Lib.itoa n).toArray⟩) /\ ∃ k os, w' = grow (w.drewN k) os:=Any.strconv_Itoa Tryz.Yg n h0 h1 w htab
def Tryz.Nv:Ren:=⟨λ|171=>335|243=>356|246=>368|283=>373|284=>374|285=>375|286=>376|129=>320|317=>380|318=>381|319=>382|320=>383|337=>384|338=>385|n=>n,λ|3=>3|9=>9|2=>2|4=>4|171=>544|0=>0|53=>407|37=>174|5=>5|173=>546|212=>554|51=>410|20=>20|213=>555|46=>276|232=>556|233=>557|n=>n,λ|17=>3|18=>4|19=>5|n=>n⟩
theorem Tryz.abl:Lays.n171 Tryz.prog Tryz.Nv:={mixed:=by kernel_rfl,f129:=func320.trans kz,f171:=func335.trans kz,f243:=func356.trans kz,f246:=func368.trans kz,f283:=func373.trans kz,f284:=func374.trans kz,f285:=func375.trans kz,f286:=func376.trans kz,f317:=func380.trans kz,f318:=func381.trans kz,f319:=func382.trans kz,f320:=func383.trans kz,f337:=func384.trans kz,f338:=func385.trans kz,t0:=underlying0,a0:=isAgg0,z0:=sizeOf0,v0:=zeroValue0,t2:=underlying2,a2:=isAgg2,z2:=sizeOf2,v2:=zeroValue2,t3:=underlying3,a3:=isAgg3,z3:=sizeOf3,v3:=zeroValue3,t4:=underlying4,a4:=isAgg4,z4:=sizeOf4,v4:=zeroValue4,t5:=underlying5,a5:=isAgg5,z5:=sizeOf5,v5:=zeroValue5,t9:=underlying9,a9:=isAgg9,z9:=sizeOf9,v9:=zeroValue9,t20:=underlying20,a20:=isAgg20,z20:=sizeOf20,v20:=zeroValue20,t37:=underlying174,a37:=isAgg174,z37:=sizeOf174,v37:=zeroValue174,t46:=underlying276,a46:=isAgg276,z46:=sizeOf276,v46:=zeroValue276,t51:=underlying410,a51:=isAgg410,z51:=sizeOf410,v51:=zeroValue410,t53:=underlying407,a53:=isAgg407,z53:=sizeOf407,v53:=zeroValue407,t171:=underlying544,a171:=isAgg544,z171:=sizeOf544,v171:=zeroValue544,t173:=underlying546,a173:=isAgg546,z173:=sizeOf546,v173:=zeroValue546,t212:=underlying554,a212:=isAgg554,z212:=sizeOf554,v212:=zeroValue554,t213:=underlying555,a213:=isAgg555,z213:=sizeOf555,t232:=underlying556,a232:=isAgg556,z232:=sizeOf556,v232:=zeroValue556,t233:=underlying557,a233:=isAgg557,z233:=sizeOf557,v233:=zeroValue557,g17:=by kernel_rfl,g18:=by kernel_rfl,g19:=by kernel_rfl}
open Go.RowKit Go.Sort Go.Lib in
theorem Tryz.strconv_Itoa_small (i:Nat) (hi:i < 100) (w:World) :
 Calls Tryz.prog 335 #[.int .i64 i] w λe w' => e = .returned (.string ⟨(Lib.decDigits i).toArray⟩) /\ w' = w:=Any.strconv_Itoa_small Tryz.abl i hi w
end Go.Proofs
