/- Contracts of Go's library at this program. Laid by the kit's own command; what is not used is left out. -/
import Derived.Shelf.Strings.Builder1
import Derived.Shelf.Small.Bits
import Derived.Shelf.Small.Strs
import Derived.Shelf.Small.Wraps
import Derived.Shelf.Strings.BuilderF
import Derived.Shelf.Strings.BuilderK
import Derived.Shelf.Strconv.Atoi
import Derived.Shelf.Strconv.Itoa0
import Derived.Shelf.Strconv.Itoa1
import Derived.Shelf.LaysM
import Derived.Shelf.Strconv.Itoa2
import Derived.Shelf.Strconv.Itoa3
import Derived.Shelf.Strconv.Clone
import Derived.Shelf.Strings.Search1
import Derived.Shelf.Strings.Search2
import Derived.Shelf.Strings.Cut
import Derived.Shelf.Strings.Shaped
import Derived.Shelf.Strings.Prefix
import Derived.Ground.Names2Prog
import Derived.Shelf.Slices.Clone
import Derived.Shelf.Slices.SearchI
import Derived.Ground.SlgnProg
import Derived.Shelf.SlicesE.Clone
import Derived.Test.YtilfjpmeededmaaGreatDoorProg
namespace Go.Proofs
open Go.Shelf
def Tryz.lays172_ren : Go.Shelf.Ren := ⟨fun | 172 => 353 | 244 => 381 | 245 => 382 | 247 => 393 | 279 => 394 | 280 => 395 | 281 => 396 | 282 => 397 | 287 => 404 | 316 => 148 | 171 => 358 | 205 => 405 | 321 => 414 | 322 => 415 | 243 => 383 | 246 => 398 | 283 => 406 | 284 => 407 | 285 => 408 | 286 => 409 | 129 => 321 | 317 => 416 | 318 => 417 | 319 => 418 | 320 => 419 | 337 => 421 | 338 => 422 | n => n, fun | 9 => 9 | 3 => 3 | 75 => 463 | 76 => 464 | 4 => 4 | 5 => 5 | 167 => 556 | 37 => 351 | 0 => 0 | 85 => 557 | 2 => 2 | 168 => 559 | 53 => 324 | 175 => 565 | 46 => 211 | 210 => 568 | 127 => 422 | 145 => 578 | 143 => 576 | 21 => 21 | 171 => 570 | 173 => 572 | 212 => 580 | 51 => 327 | 20 => 20 | 213 => 581 | 232 => 584 | 233 => 585 | 80 => 239 | n => n, fun | 15 => 1 | 16 => 2 | 17 => 3 | 18 => 4 | 19 => 5 | n => n⟩
theorem Tryz.lays172 : Go.Proofs.Lays.n172 Tryz.prog Tryz.lays172_ren := {
  mixed := by kernel_rfl
  f129 := Tryz.func321.trans (congrArg some (by kernel_rfl))
  f171 := Tryz.func358.trans (congrArg some (by kernel_rfl))
  f172 := Tryz.func353.trans (congrArg some (by kernel_rfl))
  f205 := Tryz.func405.trans (congrArg some (by kernel_rfl))
  f243 := Tryz.func383.trans (congrArg some (by kernel_rfl))
  f244 := Tryz.func381.trans (congrArg some (by kernel_rfl))
  f245 := Tryz.func382.trans (congrArg some (by kernel_rfl))
  f246 := Tryz.func398.trans (congrArg some (by kernel_rfl))
  f247 := Tryz.func393.trans (congrArg some (by kernel_rfl))
  f279 := Tryz.func394.trans (congrArg some (by kernel_rfl))
  f280 := Tryz.func395.trans (congrArg some (by kernel_rfl))
  f281 := Tryz.func396.trans (congrArg some (by kernel_rfl))
  f282 := Tryz.func397.trans (congrArg some (by kernel_rfl))
  f283 := Tryz.func406.trans (congrArg some (by kernel_rfl))
  f284 := Tryz.func407.trans (congrArg some (by kernel_rfl))
  f285 := Tryz.func408.trans (congrArg some (by kernel_rfl))
  f286 := Tryz.func409.trans (congrArg some (by kernel_rfl))
  f287 := Tryz.func404.trans (congrArg some (by kernel_rfl))
  f316 := Tryz.func148.trans (congrArg some (by kernel_rfl))
  f317 := Tryz.func416.trans (congrArg some (by kernel_rfl))
  f318 := Tryz.func417.trans (congrArg some (by kernel_rfl))
  f319 := Tryz.func418.trans (congrArg some (by kernel_rfl))
  f320 := Tryz.func419.trans (congrArg some (by kernel_rfl))
  f321 := Tryz.func414.trans (congrArg some (by kernel_rfl))
  f322 := Tryz.func415.trans (congrArg some (by kernel_rfl))
  f337 := Tryz.func421.trans (congrArg some (by kernel_rfl))
  f338 := Tryz.func422.trans (congrArg some (by kernel_rfl))
  t0 := Tryz.underlying0
  a0 := Tryz.isAgg0
  z0 := Tryz.sizeOf0
  v0 := Tryz.zeroValue0
  t2 := Tryz.underlying2
  a2 := Tryz.isAgg2
  z2 := Tryz.sizeOf2
  v2 := Tryz.zeroValue2
  t3 := Tryz.underlying3
  a3 := Tryz.isAgg3
  z3 := Tryz.sizeOf3
  v3 := Tryz.zeroValue3
  t4 := Tryz.underlying4
  a4 := Tryz.isAgg4
  z4 := Tryz.sizeOf4
  v4 := Tryz.zeroValue4
  t5 := Tryz.underlying5
  a5 := Tryz.isAgg5
  z5 := Tryz.sizeOf5
  v5 := Tryz.zeroValue5
  t9 := Tryz.underlying9
  a9 := Tryz.isAgg9
  z9 := Tryz.sizeOf9
  v9 := Tryz.zeroValue9
  t20 := Tryz.underlying20
  a20 := Tryz.isAgg20
  z20 := Tryz.sizeOf20
  v20 := Tryz.zeroValue20
  t21 := Tryz.underlying21
  a21 := Tryz.isAgg21
  z21 := Tryz.sizeOf21
  v21 := Tryz.zeroValue21
  t37 := Tryz.underlying351
  a37 := Tryz.isAgg351
  z37 := Tryz.sizeOf351
  v37 := Tryz.zeroValue351
  t46 := Tryz.underlying211
  a46 := Tryz.isAgg211
  z46 := Tryz.sizeOf211
  v46 := Tryz.zeroValue211
  t51 := Tryz.underlying327
  a51 := Tryz.isAgg327
  z51 := Tryz.sizeOf327
  v51 := Tryz.zeroValue327
  t53 := Tryz.underlying324
  a53 := Tryz.isAgg324
  z53 := Tryz.sizeOf324
  v53 := Tryz.zeroValue324
  t75 := Tryz.underlying463
  a75 := Tryz.isAgg463
  z75 := Tryz.sizeOf463
  v75 := Tryz.zeroValue463
  t76 := Tryz.underlying464
  a76 := Tryz.isAgg464
  z76 := Tryz.sizeOf464
  v76 := Tryz.zeroValue464
  t85 := Tryz.underlying557
  a85 := Tryz.isAgg557
  z85 := Tryz.sizeOf557
  v85 := Tryz.zeroValue557
  t127 := Tryz.underlying422
  a127 := Tryz.isAgg422
  z127 := Tryz.sizeOf422
  v127 := Tryz.zeroValue422
  t143 := Tryz.underlying576
  a143 := Tryz.isAgg576
  z143 := Tryz.sizeOf576
  v143 := Tryz.zeroValue576
  t145 := Tryz.underlying578
  a145 := Tryz.isAgg578
  z145 := Tryz.sizeOf578
  v145 := Tryz.zeroValue578
  t167 := Tryz.underlying556
  a167 := Tryz.isAgg556
  z167 := Tryz.sizeOf556
  v167 := Tryz.zeroValue556
  t168 := Tryz.underlying559
  a168 := Tryz.isAgg559
  z168 := Tryz.sizeOf559
  v168 := Tryz.zeroValue559
  t171 := Tryz.underlying570
  a171 := Tryz.isAgg570
  z171 := Tryz.sizeOf570
  v171 := Tryz.zeroValue570
  t173 := Tryz.underlying572
  a173 := Tryz.isAgg572
  z173 := Tryz.sizeOf572
  v173 := Tryz.zeroValue572
  t175 := Tryz.underlying565
  a175 := Tryz.isAgg565
  z175 := Tryz.sizeOf565
  v175 := Tryz.zeroValue565
  t210 := Tryz.underlying568
  a210 := Tryz.isAgg568
  z210 := Tryz.sizeOf568
  v210 := Tryz.zeroValue568
  t212 := Tryz.underlying580
  a212 := Tryz.isAgg580
  z212 := Tryz.sizeOf580
  v212 := Tryz.zeroValue580
  t213 := Tryz.underlying581
  a213 := Tryz.isAgg581
  z213 := Tryz.sizeOf581
  t232 := Tryz.underlying584
  a232 := Tryz.isAgg584
  z232 := Tryz.sizeOf584
  v232 := Tryz.zeroValue584
  t233 := Tryz.underlying585
  a233 := Tryz.isAgg585
  z233 := Tryz.sizeOf585
  v233 := Tryz.zeroValue585
  g15 := by kernel_rfl
  g16 := by kernel_rfl
  g17 := by kernel_rfl
  g18 := by kernel_rfl
  g19 := by kernel_rfl }
open Go.RowKit in
theorem Tryz.strconv_Atoi (s : ByteArray) (n : Int) (hl : s.size ≤ 18) (h : Lib.atoi s.data.toList = some n) (w : World) :
    Calls Tryz.prog 353 #[.string s] w fun e w' => e = .returned (.tuple #[.int .i64 n, .nilIface]) ∧ ∃ t, w' = Lib.bytesWorld w 5 t := Any.strconv_Atoi Tryz.lays172 s n hl h w
def Tryz.lays121_ren : Go.Shelf.Ren := ⟨fun | 121 => 359 | 214 => 384 | n => n, fun | 4 => 4 | 9 => 9 | n => n, fun | n => n⟩
theorem Tryz.lays121 : Go.Proofs.Lays.n121 Tryz.prog Tryz.lays121_ren := {
  mixed := by kernel_rfl
  f121 := Tryz.func359.trans (congrArg some (by kernel_rfl))
  f214 := Tryz.func384.trans (congrArg some (by kernel_rfl))
  t4 := Tryz.underlying4
  a4 := Tryz.isAgg4
  z4 := Tryz.sizeOf4
  v4 := Tryz.zeroValue4
  t9 := Tryz.underlying9
  a9 := Tryz.isAgg9
  z9 := Tryz.sizeOf9
  v9 := Tryz.zeroValue9 }
open Go.RowKit in
theorem Tryz.strconv_FormatBool (b : Bool) (w : World) :
    Calls Tryz.prog 359 #[.bool b] w fun e w' => e = .returned (.string ⟨(Lib.formatBool b).toArray⟩) ∧ w' = w := Any.strconv_FormatBool Tryz.lays121 b w
def Tryz.lays122_ren : Go.Shelf.Ren := ⟨fun | 122 => 250 | 215 => 323 | n => n, fun | 3 => 3 | 4 => 4 | n => n, fun | n => n⟩
theorem Tryz.lays122 : Go.Proofs.Lays.n122 Tryz.prog Tryz.lays122_ren := {
  mixed := by kernel_rfl
  f122 := Tryz.func250.trans (congrArg some (by kernel_rfl))
  f215 := Tryz.func323.trans (congrArg some (by kernel_rfl))
  t3 := Tryz.underlying3
  a3 := Tryz.isAgg3
  z3 := Tryz.sizeOf3
  v3 := Tryz.zeroValue3
  t4 := Tryz.underlying4
  a4 := Tryz.isAgg4
  z4 := Tryz.sizeOf4
  v4 := Tryz.zeroValue4 }
open Go.RowKit in
theorem Tryz.cmp_Compare_int (x y : Int) (w : World) :
    Calls Tryz.prog 250 #[.int .i64 x, .int .i64 y] w fun e w' => e = .returned (.int .i64 (Lib.compareInt x y)) ∧ w' = w := Any.cmp_Compare_int Tryz.lays122 x y w
def Tryz.laysM316_ren : Go.Shelf.Ren := ⟨fun | 316 => 148 | n => n, fun | 9 => 9 | 3 => 3 | 4 => 4 | 37 => 351 | 0 => 0 | 127 => 422 | 5 => 5 | n => n, fun | n => n⟩
theorem Tryz.laysM316 : Go.Proofs.LaysM.n316 Tryz.prog Tryz.laysM316_ren := {
  mixed := by kernel_rfl
  f316 := Tryz.func148.trans (congrArg some (by kernel_rfl))
  t0 := Tryz.underlying0
  a0 := Tryz.isAgg0
  z0 := Tryz.sizeOf0
  v0 := Tryz.zeroValue0
  t3 := Tryz.underlying3
  a3 := Tryz.isAgg3
  z3 := Tryz.sizeOf3
  v3 := Tryz.zeroValue3
  t4 := Tryz.underlying4
  a4 := Tryz.isAgg4
  z4 := Tryz.sizeOf4
  v4 := Tryz.zeroValue4
  t9 := Tryz.underlying9
  a9 := Tryz.isAgg9
  z9 := Tryz.sizeOf9
  v9 := Tryz.zeroValue9
  t37 := Tryz.underlying351
  a37 := Tryz.isAgg351
  z37 := Tryz.sizeOf351
  v37 := Tryz.zeroValue351
  t127 := Tryz.underlying422
  a127 := Tryz.isAgg422
  z127 := Tryz.sizeOf422
  v127 := Tryz.zeroValue422
  t5 := Tryz.underlying5
  a5 := Tryz.isAgg5
  z5 := Tryz.sizeOf5
  v5 := Tryz.zeroValue5
  i0 := by kernel_rfl
  i3 := by kernel_rfl
  i4 := by kernel_rfl
  i5 := by kernel_rfl
  i9 := by kernel_rfl
  i37 := by kernel_rfl
  i127 := by kernel_rfl }
open Go.RowKit in
theorem Tryz.stringslite_Clone (s : ByteArray) (w : World) (hlim : s.size ≤ 281474976710656) :
    Calls Tryz.prog 148 #[.string s] w fun e w' => e = .returned (.string s) ∧ Below w.heap.size w w' := Any.stringslite_Clone Tryz.laysM316 s w hlim
def Tryz.lays106_ren : Go.Shelf.Ren := ⟨fun | 106 => 322 | 213 => 369 | 265 => 386 | n => n, fun | 9 => 9 | 3 => 3 | n => n, fun | n => n⟩
theorem Tryz.lays106 : Go.Proofs.Lays.n106 Tryz.prog Tryz.lays106_ren := {
  mixed := by kernel_rfl
  f106 := Tryz.func322.trans (congrArg some (by kernel_rfl))
  f213 := Tryz.func369.trans (congrArg some (by kernel_rfl))
  f265 := Tryz.func386.trans (congrArg some (by kernel_rfl))
  t3 := Tryz.underlying3
  a3 := Tryz.isAgg3
  z3 := Tryz.sizeOf3
  v3 := Tryz.zeroValue3
  t9 := Tryz.underlying9
  a9 := Tryz.isAgg9
  z9 := Tryz.sizeOf9
  v9 := Tryz.zeroValue9 }
open Go.RowKit in
theorem Tryz.strings_Compare (a b : ByteArray) (w : World) :
    Calls Tryz.prog 322 #[.string a, .string b] w fun e w' => e = .returned (.int .i64 (Lib.compareBytes a.data.toList b.data.toList)) ∧ w' = w := Any.strings_Compare Tryz.lays106 a b w
def Tryz.laysM171_ren : Go.Shelf.Ren := ⟨fun | 171 => 358 | 243 => 383 | 246 => 398 | 283 => 406 | 284 => 407 | 285 => 408 | 286 => 409 | 129 => 321 | 317 => 416 | 318 => 417 | 319 => 418 | 320 => 419 | 337 => 421 | 338 => 422 | n => n, fun | 3 => 3 | 9 => 9 | 2 => 2 | 4 => 4 | 171 => 570 | 0 => 0 | 53 => 324 | 37 => 351 | 5 => 5 | 173 => 572 | 212 => 580 | 51 => 327 | 20 => 20 | 213 => 581 | 46 => 211 | 232 => 584 | 233 => 585 | n => n, fun | 17 => 3 | 18 => 4 | 19 => 5 | n => n⟩
theorem Tryz.laysM171 : Go.Proofs.LaysM.n171 Tryz.prog Tryz.laysM171_ren := {
  mixed := by kernel_rfl
  f129 := Tryz.func321.trans (congrArg some (by kernel_rfl))
  f171 := Tryz.func358.trans (congrArg some (by kernel_rfl))
  f243 := Tryz.func383.trans (congrArg some (by kernel_rfl))
  f246 := Tryz.func398.trans (congrArg some (by kernel_rfl))
  f283 := Tryz.func406.trans (congrArg some (by kernel_rfl))
  f284 := Tryz.func407.trans (congrArg some (by kernel_rfl))
  f285 := Tryz.func408.trans (congrArg some (by kernel_rfl))
  f286 := Tryz.func409.trans (congrArg some (by kernel_rfl))
  f317 := Tryz.func416.trans (congrArg some (by kernel_rfl))
  f318 := Tryz.func417.trans (congrArg some (by kernel_rfl))
  f319 := Tryz.func418.trans (congrArg some (by kernel_rfl))
  f320 := Tryz.func419.trans (congrArg some (by kernel_rfl))
  f337 := Tryz.func421.trans (congrArg some (by kernel_rfl))
  f338 := Tryz.func422.trans (congrArg some (by kernel_rfl))
  t0 := Tryz.underlying0
  a0 := Tryz.isAgg0
  z0 := Tryz.sizeOf0
  v0 := Tryz.zeroValue0
  t2 := Tryz.underlying2
  a2 := Tryz.isAgg2
  z2 := Tryz.sizeOf2
  v2 := Tryz.zeroValue2
  t3 := Tryz.underlying3
  a3 := Tryz.isAgg3
  z3 := Tryz.sizeOf3
  v3 := Tryz.zeroValue3
  t4 := Tryz.underlying4
  a4 := Tryz.isAgg4
  z4 := Tryz.sizeOf4
  v4 := Tryz.zeroValue4
  t5 := Tryz.underlying5
  a5 := Tryz.isAgg5
  z5 := Tryz.sizeOf5
  v5 := Tryz.zeroValue5
  t9 := Tryz.underlying9
  a9 := Tryz.isAgg9
  z9 := Tryz.sizeOf9
  v9 := Tryz.zeroValue9
  t20 := Tryz.underlying20
  a20 := Tryz.isAgg20
  z20 := Tryz.sizeOf20
  v20 := Tryz.zeroValue20
  t37 := Tryz.underlying351
  a37 := Tryz.isAgg351
  z37 := Tryz.sizeOf351
  v37 := Tryz.zeroValue351
  t46 := Tryz.underlying211
  a46 := Tryz.isAgg211
  z46 := Tryz.sizeOf211
  v46 := Tryz.zeroValue211
  t51 := Tryz.underlying327
  a51 := Tryz.isAgg327
  z51 := Tryz.sizeOf327
  v51 := Tryz.zeroValue327
  t53 := Tryz.underlying324
  a53 := Tryz.isAgg324
  z53 := Tryz.sizeOf324
  v53 := Tryz.zeroValue324
  t171 := Tryz.underlying570
  a171 := Tryz.isAgg570
  z171 := Tryz.sizeOf570
  v171 := Tryz.zeroValue570
  t173 := Tryz.underlying572
  a173 := Tryz.isAgg572
  z173 := Tryz.sizeOf572
  v173 := Tryz.zeroValue572
  t212 := Tryz.underlying580
  a212 := Tryz.isAgg580
  z212 := Tryz.sizeOf580
  v212 := Tryz.zeroValue580
  t213 := Tryz.underlying581
  a213 := Tryz.isAgg581
  z213 := Tryz.sizeOf581
  t232 := Tryz.underlying584
  a232 := Tryz.isAgg584
  z232 := Tryz.sizeOf584
  v232 := Tryz.zeroValue584
  t233 := Tryz.underlying585
  a233 := Tryz.isAgg585
  z233 := Tryz.sizeOf585
  v233 := Tryz.zeroValue585
  g17 := by kernel_rfl
  g18 := by kernel_rfl
  g19 := by kernel_rfl
  i0 := by kernel_rfl
  i2 := by kernel_rfl
  i3 := by kernel_rfl
  i4 := by kernel_rfl
  i5 := by kernel_rfl
  i9 := by kernel_rfl
  i20 := by kernel_rfl
  i37 := by kernel_rfl
  i46 := by kernel_rfl
  i51 := by kernel_rfl
  i53 := by kernel_rfl
  i171 := by kernel_rfl
  i173 := by kernel_rfl
  i212 := by kernel_rfl
  i232 := by kernel_rfl
  i233 := by kernel_rfl
  m17 := by kernel_rfl
  m18 := by kernel_rfl
  m19 := by kernel_rfl }
open Go.RowKit Go.Sort Go.Lib in
theorem Tryz.strconv_Itoa (n : Int) (h0 : -9223372036854775808 ≤ n) (h1 : n ≤ 9223372036854775807) (w : World) (htab : Lib.TabIs Tryz.prog w "internal/strconv.uint64pow10" .u64 Lib.pow10Tab) :
    Calls Tryz.prog 358 #[.int .i64 n] w fun e w' => e = .returned (.string ⟨(Lib.itoa n).toArray⟩) ∧ ∃ k os, w' = grow (w.drewN k) os := Any.strconv_Itoa Tryz.laysM171 n h0 h1 w htab
def Tryz.lays171_ren : Go.Shelf.Ren := ⟨fun | 171 => 358 | 243 => 383 | 246 => 398 | 283 => 406 | 284 => 407 | 285 => 408 | 286 => 409 | 129 => 321 | 317 => 416 | 318 => 417 | 319 => 418 | 320 => 419 | 337 => 421 | 338 => 422 | n => n, fun | 3 => 3 | 9 => 9 | 2 => 2 | 4 => 4 | 171 => 570 | 0 => 0 | 53 => 324 | 37 => 351 | 5 => 5 | 173 => 572 | 212 => 580 | 51 => 327 | 20 => 20 | 213 => 581 | 46 => 211 | 232 => 584 | 233 => 585 | n => n, fun | 17 => 3 | 18 => 4 | 19 => 5 | n => n⟩
theorem Tryz.lays171 : Go.Proofs.Lays.n171 Tryz.prog Tryz.lays171_ren := {
  mixed := by kernel_rfl
  f129 := Tryz.func321.trans (congrArg some (by kernel_rfl))
  f171 := Tryz.func358.trans (congrArg some (by kernel_rfl))
  f243 := Tryz.func383.trans (congrArg some (by kernel_rfl))
  f246 := Tryz.func398.trans (congrArg some (by kernel_rfl))
  f283 := Tryz.func406.trans (congrArg some (by kernel_rfl))
  f284 := Tryz.func407.trans (congrArg some (by kernel_rfl))
  f285 := Tryz.func408.trans (congrArg some (by kernel_rfl))
  f286 := Tryz.func409.trans (congrArg some (by kernel_rfl))
  f317 := Tryz.func416.trans (congrArg some (by kernel_rfl))
  f318 := Tryz.func417.trans (congrArg some (by kernel_rfl))
  f319 := Tryz.func418.trans (congrArg some (by kernel_rfl))
  f320 := Tryz.func419.trans (congrArg some (by kernel_rfl))
  f337 := Tryz.func421.trans (congrArg some (by kernel_rfl))
  f338 := Tryz.func422.trans (congrArg some (by kernel_rfl))
  t0 := Tryz.underlying0
  a0 := Tryz.isAgg0
  z0 := Tryz.sizeOf0
  v0 := Tryz.zeroValue0
  t2 := Tryz.underlying2
  a2 := Tryz.isAgg2
  z2 := Tryz.sizeOf2
  v2 := Tryz.zeroValue2
  t3 := Tryz.underlying3
  a3 := Tryz.isAgg3
  z3 := Tryz.sizeOf3
  v3 := Tryz.zeroValue3
  t4 := Tryz.underlying4
  a4 := Tryz.isAgg4
  z4 := Tryz.sizeOf4
  v4 := Tryz.zeroValue4
  t5 := Tryz.underlying5
  a5 := Tryz.isAgg5
  z5 := Tryz.sizeOf5
  v5 := Tryz.zeroValue5
  t9 := Tryz.underlying9
  a9 := Tryz.isAgg9
  z9 := Tryz.sizeOf9
  v9 := Tryz.zeroValue9
  t20 := Tryz.underlying20
  a20 := Tryz.isAgg20
  z20 := Tryz.sizeOf20
  v20 := Tryz.zeroValue20
  t37 := Tryz.underlying351
  a37 := Tryz.isAgg351
  z37 := Tryz.sizeOf351
  v37 := Tryz.zeroValue351
  t46 := Tryz.underlying211
  a46 := Tryz.isAgg211
  z46 := Tryz.sizeOf211
  v46 := Tryz.zeroValue211
  t51 := Tryz.underlying327
  a51 := Tryz.isAgg327
  z51 := Tryz.sizeOf327
  v51 := Tryz.zeroValue327
  t53 := Tryz.underlying324
  a53 := Tryz.isAgg324
  z53 := Tryz.sizeOf324
  v53 := Tryz.zeroValue324
  t171 := Tryz.underlying570
  a171 := Tryz.isAgg570
  z171 := Tryz.sizeOf570
  v171 := Tryz.zeroValue570
  t173 := Tryz.underlying572
  a173 := Tryz.isAgg572
  z173 := Tryz.sizeOf572
  v173 := Tryz.zeroValue572
  t212 := Tryz.underlying580
  a212 := Tryz.isAgg580
  z212 := Tryz.sizeOf580
  v212 := Tryz.zeroValue580
  t213 := Tryz.underlying581
  a213 := Tryz.isAgg581
  z213 := Tryz.sizeOf581
  t232 := Tryz.underlying584
  a232 := Tryz.isAgg584
  z232 := Tryz.sizeOf584
  v232 := Tryz.zeroValue584
  t233 := Tryz.underlying585
  a233 := Tryz.isAgg585
  z233 := Tryz.sizeOf585
  v233 := Tryz.zeroValue585
  g17 := by kernel_rfl
  g18 := by kernel_rfl
  g19 := by kernel_rfl }
open Go.RowKit Go.Sort Go.Lib in
theorem Tryz.strconv_Itoa_small (i : Nat) (hi : i < 100) (w : World) :
    Calls Tryz.prog 358 #[.int .i64 i] w fun e w' => e = .returned (.string ⟨(Lib.decDigits i).toArray⟩) ∧ w' = w := Any.strconv_Itoa_small Tryz.lays171 i hi w
end Go.Proofs
