import Derived.Shelf.Small.Strs
import Derived.Shelf.Strings.BuilderK
import Derived.Test.YtdifpeaklamhnaaGreatDoorProg
import Derived.Shelf.Small.Wraps
import Derived.Shelf.Strconv.Atoi
import Derived.Shelf.Strconv.Itoa3
import Derived.Shelf.Strconv.AtoiErrFast
import Derived.Shelf.Strconv.Clone
import Derived.Shelf.Strings.Shaped
import Derived.Shelf.Slices.Turned
import Derived.Shelf.Slices.Equal
set_option linter.unusedVariables false
set_option linter.unusedSimpArgs false
namespace Go.Proofs
open Go.Shelf
def Tryz.Fv : Go.Shelf.Ren := ⟨fun | 137 => 234 | 217 => 285 | 266 => 324 | n => n, fun | 9 => 9 | 5 => 5 | 3 => 3 | n => n, fun | n => n⟩
theorem Tryz.Rh : Go.Proofs.Lays.n137 Tryz.prog Tryz.Fv := {
  mixed := by kernel_rfl
  f137 := Tryz.func234.trans (congrArg some (by kernel_rfl))
  f217 := Tryz.func285.trans (congrArg some (by kernel_rfl))
  f266 := Tryz.func324.trans (congrArg some (by kernel_rfl))
  t3 := Tryz.underlying3
  a3 := Tryz.isAgg3
  z3 := Tryz.sizeOf3
  v3 := Tryz.zeroValue3
  t5 := Tryz.underlying5
  a5 := Tryz.isAgg5
  z5 := Tryz.sizeOf5
  v5 := Tryz.zeroValue5
  t9 := Tryz.underlying9
  a9 := Tryz.isAgg9
  z9 := Tryz.sizeOf9
  v9 := Tryz.zeroValue9 }
open Go.RowKit in
theorem Tryz.strings_IndexByte (s : ByteArray) (c : Int) (w : World) :
    Calls Tryz.prog 234 #[.string s, .int .u8 c] w λe w' => e = .returned (.int .i64 (Lib.indexByte s.data.toList c.toNat.toUInt8)) /\ w' = w := Any.strings_IndexByte Tryz.Rh s c w
def Tryz.Fp : Go.Shelf.Ren := ⟨fun | 101 => 235 | 208 => 286 | 206 => 325 | n => n, fun | 9 => 9 | 4 => 4 | 3 => 3 | n => n, fun | n => n⟩
theorem Tryz.Rb : Go.Proofs.Lays.n101 Tryz.prog Tryz.Fp := {
  mixed := by kernel_rfl
  f101 := Tryz.func235.trans (congrArg some (by kernel_rfl))
  f206 := Tryz.func325.trans (congrArg some (by kernel_rfl))
  f208 := Tryz.func286.trans (congrArg some (by kernel_rfl))
  t3 := Tryz.underlying3
  a3 := Tryz.isAgg3
  z3 := Tryz.sizeOf3
  v3 := Tryz.zeroValue3
  t4 := Tryz.underlying4
  a4 := Tryz.isAgg4
  z4 := Tryz.sizeOf4
  v4 := Tryz.zeroValue4
  t9 := Tryz.underlying9
  a9 := Tryz.isAgg9
  z9 := Tryz.sizeOf9
  v9 := Tryz.zeroValue9 }
open Go.RowKit Go.Lib in
theorem Tryz.strings_TrimPrefix (s p : ByteArray) (w : World) :
    Calls Tryz.prog 235 #[.string s, .string p] w λe w' => e = .returned (.string ⟨(Lib.trimPrefix s.data.toList p.data.toList).toArray⟩) /\ w' = w := Any.strings_TrimPrefix Tryz.Rb s p w
def Tryz.Fy : Go.Shelf.Ren := ⟨fun | 219 => 326 | 217 => 285 | 225 => 348 | 224 => 349 | 267 => 350 | 266 => 324 | 314 => 361 | n => n, fun | 9 => 9 | 3 => 3 | 4 => 4 | 5 => 5 | 46 => 276 | 146 => 528 | 51 => 410 | n => n, fun | 1 => 0 | n => n⟩
theorem Tryz.Rl : Go.Proofs.Lays.n219 Tryz.prog Tryz.Fy := {
  mixed := by kernel_rfl
  f217 := Tryz.func285.trans (congrArg some (by kernel_rfl))
  f219 := Tryz.func326.trans (congrArg some (by kernel_rfl))
  f224 := Tryz.func349.trans (congrArg some (by kernel_rfl))
  f225 := Tryz.func348.trans (congrArg some (by kernel_rfl))
  f266 := Tryz.func324.trans (congrArg some (by kernel_rfl))
  f267 := Tryz.func350.trans (congrArg some (by kernel_rfl))
  f314 := Tryz.func361.trans (congrArg some (by kernel_rfl))
  t3 := Tryz.underlying3
  a3 := Tryz.isAgg3
  z3 := Tryz.sizeOf3
  v3 := Tryz.zeroValue3
  t4 := Tryz.underlying4
  a4 := Tryz.isAgg4
  z4 := Tryz.sizeOf4
  v4 := Tryz.zeroValue4
  t5 := Tryz.underlying5
  a5 := Tryz.isAgg5
  z5 := Tryz.sizeOf5
  v5 := Tryz.zeroValue5
  t9 := Tryz.underlying9
  a9 := Tryz.isAgg9
  z9 := Tryz.sizeOf9
  v9 := Tryz.zeroValue9
  t46 := Tryz.underlying276
  a46 := Tryz.isAgg276
  z46 := Tryz.sizeOf276
  v46 := Tryz.zeroValue276
  t51 := Tryz.underlying410
  a51 := Tryz.isAgg410
  z51 := Tryz.sizeOf410
  v51 := Tryz.zeroValue410
  t146 := Tryz.underlying528
  a146 := Tryz.isAgg528
  z146 := Tryz.sizeOf528
  v146 := Tryz.zeroValue528
  g1 := by kernel_rfl }
open Go.RowKit Go.Lib in
theorem Tryz.stringslite_Index_one (s : ByteArray) (c : UInt8) (w : World) :
    Calls Tryz.prog 326 #[.string s, .string ⟨#[c]⟩] w λe w' => e = .returned (.int .i64 (Lib.indexByte s.data.toList c)) /\ w' = w := Any.stringslite_Index_one Tryz.Rl s c w
def Tryz.wQ : Go.Shelf.Ren := ⟨fun | 169 => 57 | n => n, fun | 70 => 173 | 9 => 9 | 0 => 0 | 72 => 176 | 37 => 174 | 127 => 287 | 3 => 3 | 5 => 5 | n => n, fun | n => n⟩
theorem Tryz.Ri : Go.Proofs.Lays.n169 Tryz.prog Tryz.wQ := {
  mixed := by kernel_rfl
  f169 := Tryz.func57.trans (congrArg some (by kernel_rfl))
  t0 := Tryz.underlying0
  a0 := Tryz.isAgg0
  z0 := Tryz.sizeOf0
  v0 := Tryz.zeroValue0
  t3 := Tryz.underlying3
  a3 := Tryz.isAgg3
  z3 := Tryz.sizeOf3
  v3 := Tryz.zeroValue3
  t9 := Tryz.underlying9
  a9 := Tryz.isAgg9
  z9 := Tryz.sizeOf9
  v9 := Tryz.zeroValue9
  t37 := Tryz.underlying174
  a37 := Tryz.isAgg174
  z37 := Tryz.sizeOf174
  v37 := Tryz.zeroValue174
  t70 := Tryz.underlying173
  a70 := Tryz.isAgg173
  z70 := Tryz.sizeOf173
  v70 := Tryz.zeroValue173
  t72 := Tryz.underlying176
  a72 := Tryz.isAgg176
  z72 := Tryz.sizeOf176
  v72 := Tryz.zeroValue176
  t127 := Tryz.underlying287
  a127 := Tryz.isAgg287
  z127 := Tryz.sizeOf287
  v127 := Tryz.zeroValue287 }
theorem Tryz.uf : Builder.Extra Tryz.prog Tryz.wQ := {
  sizeBuilder := by kernel_rfl
  liesBuilder := by kernel_rfl
  t5 := Tryz.underlying5
  a5 := Tryz.isAgg5
  z5 := Tryz.sizeOf5
  v5 := Tryz.zeroValue5
  infoByte := by kernel_rfl
  cellsByte := by kernel_rfl
  sizeByte := by kernel_rfl
  neB5 := by decide }
open Go.RowKit in
theorem Tryz.Builder_String_any_k (B b : Nat) (l : List UInt8) (w : World) (h : Lib.IsBuilderF 176 5 B b (Lib.byteCells l) w) (hBw : B <= w.heap.size) :
    Calls Tryz.prog 57 #[.pointer (some ⟨b, 0, none⟩)] w λe w' => e = .returned (.string ⟨l.toArray⟩) /\ (Lib.IsBuilderF 176 5 B b (Lib.byteCells l) w' /\ Below B w w' /\ Lib.OthersKept 5 (some b) w w') := Any.Builder_String_any_k Tryz.Ri Tryz.uf B b l w h hBw
end Go.Proofs

namespace Go.Proofs
open Go.Shelf
def Tryz.Fx : Go.Shelf.Ren := ⟨fun | 172 => 331 | 244 => 355 | 245 => 356 | 247 => 364 | 279 => 365 | 280 => 366 | 281 => 367 | 282 => 368 | 287 => 372 | 316 => 200 | 171 => 336 | 205 => 373 | 321 => 379 | 322 => 380 | 243 => 357 | 246 => 369 | 283 => 374 | 284 => 375 | 285 => 376 | 286 => 377 | 129 => 321 | 317 => 381 | 318 => 382 | 319 => 383 | 320 => 384 | 337 => 385 | 338 => 386 | n => n, fun | 9 => 9 | 3 => 3 | 75 => 283 | 76 => 284 | 4 => 4 | 5 => 5 | 167 => 531 | 37 => 174 | 0 => 0 | 85 => 532 | 2 => 2 | 168 => 534 | 53 => 407 | 175 => 539 | 46 => 276 | 210 => 542 | 127 => 287 | 145 => 552 | 143 => 550 | 21 => 21 | 171 => 544 | 173 => 546 | 212 => 554 | 51 => 410 | 20 => 20 | 213 => 555 | 232 => 556 | 233 => 557 | 80 => 99 | n => n, fun | 15 => 1 | 16 => 2 | 17 => 3 | 18 => 4 | 19 => 5 | n => n⟩
theorem Tryz.Rk : Go.Proofs.Lays.n172 Tryz.prog Tryz.Fx := {
  mixed := by kernel_rfl
  f129 := Tryz.func321.trans (congrArg some (by kernel_rfl))
  f171 := Tryz.func336.trans (congrArg some (by kernel_rfl))
  f172 := Tryz.func331.trans (congrArg some (by kernel_rfl))
  f205 := Tryz.func373.trans (congrArg some (by kernel_rfl))
  f243 := Tryz.func357.trans (congrArg some (by kernel_rfl))
  f244 := Tryz.func355.trans (congrArg some (by kernel_rfl))
  f245 := Tryz.func356.trans (congrArg some (by kernel_rfl))
  f246 := Tryz.func369.trans (congrArg some (by kernel_rfl))
  f247 := Tryz.func364.trans (congrArg some (by kernel_rfl))
  f279 := Tryz.func365.trans (congrArg some (by kernel_rfl))
  f280 := Tryz.func366.trans (congrArg some (by kernel_rfl))
  f281 := Tryz.func367.trans (congrArg some (by kernel_rfl))
  f282 := Tryz.func368.trans (congrArg some (by kernel_rfl))
  f283 := Tryz.func374.trans (congrArg some (by kernel_rfl))
  f284 := Tryz.func375.trans (congrArg some (by kernel_rfl))
  f285 := Tryz.func376.trans (congrArg some (by kernel_rfl))
  f286 := Tryz.func377.trans (congrArg some (by kernel_rfl))
  f287 := Tryz.func372.trans (congrArg some (by kernel_rfl))
  f316 := Tryz.func200.trans (congrArg some (by kernel_rfl))
  f317 := Tryz.func381.trans (congrArg some (by kernel_rfl))
  f318 := Tryz.func382.trans (congrArg some (by kernel_rfl))
  f319 := Tryz.func383.trans (congrArg some (by kernel_rfl))
  f320 := Tryz.func384.trans (congrArg some (by kernel_rfl))
  f321 := Tryz.func379.trans (congrArg some (by kernel_rfl))
  f322 := Tryz.func380.trans (congrArg some (by kernel_rfl))
  f337 := Tryz.func385.trans (congrArg some (by kernel_rfl))
  f338 := Tryz.func386.trans (congrArg some (by kernel_rfl))
  t0 := Tryz.underlying0
  a0 := Tryz.isAgg0
  z0 := Tryz.sizeOf0
  v0 := Tryz.zeroValue0
  t2 := Tryz.underlying2
  a2 := Tryz.isAgg2
  z2 := Tryz.sizeOf2
  v2 := Tryz.zeroValue2
  t3 := Tryz.underlying3
  a3 := Tryz.isAgg3
  z3 := Tryz.sizeOf3
  v3 := Tryz.zeroValue3
  t4 := Tryz.underlying4
  a4 := Tryz.isAgg4
  z4 := Tryz.sizeOf4
  v4 := Tryz.zeroValue4
  t5 := Tryz.underlying5
  a5 := Tryz.isAgg5
  z5 := Tryz.sizeOf5
  v5 := Tryz.zeroValue5
  t9 := Tryz.underlying9
  a9 := Tryz.isAgg9
  z9 := Tryz.sizeOf9
  v9 := Tryz.zeroValue9
  t20 := Tryz.underlying20
  a20 := Tryz.isAgg20
  z20 := Tryz.sizeOf20
  v20 := Tryz.zeroValue20
  t21 := Tryz.underlying21
  a21 := Tryz.isAgg21
  z21 := Tryz.sizeOf21
  v21 := Tryz.zeroValue21
  t37 := Tryz.underlying174
  a37 := Tryz.isAgg174
  z37 := Tryz.sizeOf174
  v37 := Tryz.zeroValue174
  t46 := Tryz.underlying276
  a46 := Tryz.isAgg276
  z46 := Tryz.sizeOf276
  v46 := Tryz.zeroValue276
  t51 := Tryz.underlying410
  a51 := Tryz.isAgg410
  z51 := Tryz.sizeOf410
  v51 := Tryz.zeroValue410
  t53 := Tryz.underlying407
  a53 := Tryz.isAgg407
  z53 := Tryz.sizeOf407
  v53 := Tryz.zeroValue407
  t75 := Tryz.underlying283
  a75 := Tryz.isAgg283
  z75 := Tryz.sizeOf283
  v75 := Tryz.zeroValue283
  t76 := Tryz.underlying284
  a76 := Tryz.isAgg284
  z76 := Tryz.sizeOf284
  v76 := Tryz.zeroValue284
  t85 := Tryz.underlying532
  a85 := Tryz.isAgg532
  z85 := Tryz.sizeOf532
  v85 := Tryz.zeroValue532
  t127 := Tryz.underlying287
  a127 := Tryz.isAgg287
  z127 := Tryz.sizeOf287
  v127 := Tryz.zeroValue287
  t143 := Tryz.underlying550
  a143 := Tryz.isAgg550
  z143 := Tryz.sizeOf550
  v143 := Tryz.zeroValue550
  t145 := Tryz.underlying552
  a145 := Tryz.isAgg552
  z145 := Tryz.sizeOf552
  v145 := Tryz.zeroValue552
  t167 := Tryz.underlying531
  a167 := Tryz.isAgg531
  z167 := Tryz.sizeOf531
  v167 := Tryz.zeroValue531
  t168 := Tryz.underlying534
  a168 := Tryz.isAgg534
  z168 := Tryz.sizeOf534
  v168 := Tryz.zeroValue534
  t171 := Tryz.underlying544
  a171 := Tryz.isAgg544
  z171 := Tryz.sizeOf544
  v171 := Tryz.zeroValue544
  t173 := Tryz.underlying546
  a173 := Tryz.isAgg546
  z173 := Tryz.sizeOf546
  v173 := Tryz.zeroValue546
  t175 := Tryz.underlying539
  a175 := Tryz.isAgg539
  z175 := Tryz.sizeOf539
  v175 := Tryz.zeroValue539
  t210 := Tryz.underlying542
  a210 := Tryz.isAgg542
  z210 := Tryz.sizeOf542
  v210 := Tryz.zeroValue542
  t212 := Tryz.underlying554
  a212 := Tryz.isAgg554
  z212 := Tryz.sizeOf554
  v212 := Tryz.zeroValue554
  t213 := Tryz.underlying555
  a213 := Tryz.isAgg555
  z213 := Tryz.sizeOf555
  t232 := Tryz.underlying556
  a232 := Tryz.isAgg556
  z232 := Tryz.sizeOf556
  v232 := Tryz.zeroValue556
  t233 := Tryz.underlying557
  a233 := Tryz.isAgg557
  z233 := Tryz.sizeOf557
  v233 := Tryz.zeroValue557
  g15 := by kernel_rfl
  g16 := by kernel_rfl
  g17 := by kernel_rfl
  g18 := by kernel_rfl
  g19 := by kernel_rfl }
open Go.RowKit in
theorem Tryz.strconv_Atoi (s : ByteArray) (n : Int) (hl : s.size <= 18) (h : Lib.atoi s.data.toList = some n) (w : World) :
    Calls Tryz.prog 331 #[.string s] w λe w' => e = .returned (.tuple #[.int .i64 n, .nilIface]) /\ ∃ t, w' = Lib.bytesWorld w 5 t := Any.strconv_Atoi Tryz.Rk s n hl h w
def Tryz.Fs : Go.Shelf.Ren := ⟨fun | 121 => 337 | 214 => 358 | n => n, fun | 4 => 4 | 9 => 9 | n => n, fun | n => n⟩
theorem Tryz.Re : Go.Proofs.Lays.n121 Tryz.prog Tryz.Fs := {
  mixed := by kernel_rfl
  f121 := Tryz.func337.trans (congrArg some (by kernel_rfl))
  f214 := Tryz.func358.trans (congrArg some (by kernel_rfl))
  t4 := Tryz.underlying4
  a4 := Tryz.isAgg4
  z4 := Tryz.sizeOf4
  v4 := Tryz.zeroValue4
  t9 := Tryz.underlying9
  a9 := Tryz.isAgg9
  z9 := Tryz.sizeOf9
  v9 := Tryz.zeroValue9 }
open Go.RowKit in
theorem Tryz.strconv_FormatBool (b : Bool) (w : World) :
    Calls Tryz.prog 337 #[.bool b] w λe w' => e = .returned (.string ⟨(Lib.formatBool b).toArray⟩) /\ w' = w := Any.strconv_FormatBool Tryz.Re b w
def Tryz.Fu : Go.Shelf.Ren := ⟨fun | 122 => 284 | 215 => 323 | n => n, fun | 3 => 3 | 4 => 4 | n => n, fun | n => n⟩
theorem Tryz.Rf : Go.Proofs.Lays.n122 Tryz.prog Tryz.Fu := {
  mixed := by kernel_rfl
  f122 := Tryz.func284.trans (congrArg some (by kernel_rfl))
  f215 := Tryz.func323.trans (congrArg some (by kernel_rfl))
  t3 := Tryz.underlying3
  a3 := Tryz.isAgg3
  z3 := Tryz.sizeOf3
  v3 := Tryz.zeroValue3
  t4 := Tryz.underlying4
  a4 := Tryz.isAgg4
  z4 := Tryz.sizeOf4
  v4 := Tryz.zeroValue4 }
open Go.RowKit in
theorem Tryz.cmp_Compare_int (x y : Int) (w : World) :
    Calls Tryz.prog 284 #[.int .i64 x, .int .i64 y] w λe w' => e = .returned (.int .i64 (Lib.compareInt x y)) /\ w' = w := Any.cmp_Compare_int Tryz.Rf x y w
def Tryz.Cv : Go.Shelf.Ren := ⟨fun | 316 => 200 | n => n, fun | 9 => 9 | 3 => 3 | 4 => 4 | 37 => 174 | 0 => 0 | 127 => 287 | 5 => 5 | n => n, fun | n => n⟩
theorem Tryz.OP : Go.Proofs.LaysM.n316 Tryz.prog Tryz.Cv := {
  mixed := by kernel_rfl
  f316 := Tryz.func200.trans (congrArg some (by kernel_rfl))
  t0 := Tryz.underlying0
  a0 := Tryz.isAgg0
  z0 := Tryz.sizeOf0
  v0 := Tryz.zeroValue0
  t3 := Tryz.underlying3
  a3 := Tryz.isAgg3
  z3 := Tryz.sizeOf3
  v3 := Tryz.zeroValue3
  t4 := Tryz.underlying4
  a4 := Tryz.isAgg4
  z4 := Tryz.sizeOf4
  v4 := Tryz.zeroValue4
  t9 := Tryz.underlying9
  a9 := Tryz.isAgg9
  z9 := Tryz.sizeOf9
  v9 := Tryz.zeroValue9
  t37 := Tryz.underlying174
  a37 := Tryz.isAgg174
  z37 := Tryz.sizeOf174
  v37 := Tryz.zeroValue174
  t127 := Tryz.underlying287
  a127 := Tryz.isAgg287
  z127 := Tryz.sizeOf287
  v127 := Tryz.zeroValue287
  t5 := Tryz.underlying5
  a5 := Tryz.isAgg5
  z5 := Tryz.sizeOf5
  v5 := Tryz.zeroValue5
  i0 := by kernel_rfl
  i3 := by kernel_rfl
  i4 := by kernel_rfl
  i5 := by kernel_rfl
  i9 := by kernel_rfl
  i37 := by kernel_rfl
  i127 := by kernel_rfl }
open Go.RowKit in
theorem Tryz.stringslite_Clone (s : ByteArray) (w : World) (hlim : s.size <= 281474976710656) :
    Calls Tryz.prog 200 #[.string s] w λe w' => e = .returned (.string s) /\ Below w.heap.size w w' := Any.stringslite_Clone Tryz.OP s w hlim
def Tryz.Fq : Go.Shelf.Ren := ⟨fun | 106 => 322 | 213 => 347 | 265 => 360 | n => n, fun | 9 => 9 | 3 => 3 | n => n, fun | n => n⟩
theorem Tryz.Rc : Go.Proofs.Lays.n106 Tryz.prog Tryz.Fq := {
  mixed := by kernel_rfl
  f106 := Tryz.func322.trans (congrArg some (by kernel_rfl))
  f213 := Tryz.func347.trans (congrArg some (by kernel_rfl))
  f265 := Tryz.func360.trans (congrArg some (by kernel_rfl))
  t3 := Tryz.underlying3
  a3 := Tryz.isAgg3
  z3 := Tryz.sizeOf3
  v3 := Tryz.zeroValue3
  t9 := Tryz.underlying9
  a9 := Tryz.isAgg9
  z9 := Tryz.sizeOf9
  v9 := Tryz.zeroValue9 }
open Go.RowKit in
theorem Tryz.strings_Compare (a b : ByteArray) (w : World) :
    Calls Tryz.prog 322 #[.string a, .string b] w λe w' => e = .returned (.int .i64 (Lib.compareBytes a.data.toList b.data.toList)) /\ w' = w := Any.strings_Compare Tryz.Rc a b w
def Tryz.Cu : Go.Shelf.Ren := ⟨fun | 171 => 336 | 243 => 357 | 246 => 369 | 283 => 374 | 284 => 375 | 285 => 376 | 286 => 377 | 129 => 321 | 317 => 381 | 318 => 382 | 319 => 383 | 320 => 384 | 337 => 385 | 338 => 386 | n => n, fun | 3 => 3 | 9 => 9 | 2 => 2 | 4 => 4 | 171 => 544 | 0 => 0 | 53 => 407 | 37 => 174 | 5 => 5 | 173 => 546 | 212 => 554 | 51 => 410 | 20 => 20 | 213 => 555 | 46 => 276 | 232 => 556 | 233 => 557 | n => n, fun | 17 => 3 | 18 => 4 | 19 => 5 | n => n⟩
theorem Tryz.OO : Go.Proofs.LaysM.n171 Tryz.prog Tryz.Cu := {
  mixed := by kernel_rfl
  f129 := Tryz.func321.trans (congrArg some (by kernel_rfl))
  f171 := Tryz.func336.trans (congrArg some (by kernel_rfl))
  f243 := Tryz.func357.trans (congrArg some (by kernel_rfl))
  f246 := Tryz.func369.trans (congrArg some (by kernel_rfl))
  f283 := Tryz.func374.trans (congrArg some (by kernel_rfl))
  f284 := Tryz.func375.trans (congrArg some (by kernel_rfl))
  f285 := Tryz.func376.trans (congrArg some (by kernel_rfl))
  f286 := Tryz.func377.trans (congrArg some (by kernel_rfl))
  f317 := Tryz.func381.trans (congrArg some (by kernel_rfl))
  f318 := Tryz.func382.trans (congrArg some (by kernel_rfl))
  f319 := Tryz.func383.trans (congrArg some (by kernel_rfl))
  f320 := Tryz.func384.trans (congrArg some (by kernel_rfl))
  f337 := Tryz.func385.trans (congrArg some (by kernel_rfl))
  f338 := Tryz.func386.trans (congrArg some (by kernel_rfl))
  t0 := Tryz.underlying0
  a0 := Tryz.isAgg0
  z0 := Tryz.sizeOf0
  v0 := Tryz.zeroValue0
  t2 := Tryz.underlying2
  a2 := Tryz.isAgg2
  z2 := Tryz.sizeOf2
  v2 := Tryz.zeroValue2
  t3 := Tryz.underlying3
  a3 := Tryz.isAgg3
  z3 := Tryz.sizeOf3
  v3 := Tryz.zeroValue3
  t4 := Tryz.underlying4
  a4 := Tryz.isAgg4
  z4 := Tryz.sizeOf4
  v4 := Tryz.zeroValue4
  t5 := Tryz.underlying5
  a5 := Tryz.isAgg5
  z5 := Tryz.sizeOf5
  v5 := Tryz.zeroValue5
  t9 := Tryz.underlying9
  a9 := Tryz.isAgg9
  z9 := Tryz.sizeOf9
  v9 := Tryz.zeroValue9
  t20 := Tryz.underlying20
  a20 := Tryz.isAgg20
  z20 := Tryz.sizeOf20
  v20 := Tryz.zeroValue20
  t37 := Tryz.underlying174
  a37 := Tryz.isAgg174
  z37 := Tryz.sizeOf174
  v37 := Tryz.zeroValue174
  t46 := Tryz.underlying276
  a46 := Tryz.isAgg276
  z46 := Tryz.sizeOf276
  v46 := Tryz.zeroValue276
  t51 := Tryz.underlying410
  a51 := Tryz.isAgg410
  z51 := Tryz.sizeOf410
  v51 := Tryz.zeroValue410
  t53 := Tryz.underlying407
  a53 := Tryz.isAgg407
  z53 := Tryz.sizeOf407
  v53 := Tryz.zeroValue407
  t171 := Tryz.underlying544
  a171 := Tryz.isAgg544
  z171 := Tryz.sizeOf544
  v171 := Tryz.zeroValue544
  t173 := Tryz.underlying546
  a173 := Tryz.isAgg546
  z173 := Tryz.sizeOf546
  v173 := Tryz.zeroValue546
  t212 := Tryz.underlying554
  a212 := Tryz.isAgg554
  z212 := Tryz.sizeOf554
  v212 := Tryz.zeroValue554
  t213 := Tryz.underlying555
  a213 := Tryz.isAgg555
  z213 := Tryz.sizeOf555
  t232 := Tryz.underlying556
  a232 := Tryz.isAgg556
  z232 := Tryz.sizeOf556
  v232 := Tryz.zeroValue556
  t233 := Tryz.underlying557
  a233 := Tryz.isAgg557
  z233 := Tryz.sizeOf557
  v233 := Tryz.zeroValue557
  g17 := by kernel_rfl
  g18 := by kernel_rfl
  g19 := by kernel_rfl
  i0 := by kernel_rfl
  i2 := by kernel_rfl
  i3 := by kernel_rfl
  i4 := by kernel_rfl
  i5 := by kernel_rfl
  i9 := by kernel_rfl
  i20 := by kernel_rfl
  i37 := by kernel_rfl
  i46 := by kernel_rfl
  i51 := by kernel_rfl
  i53 := by kernel_rfl
  i171 := by kernel_rfl
  i173 := by kernel_rfl
  i212 := by kernel_rfl
  i232 := by kernel_rfl
  i233 := by kernel_rfl
  m17 := by kernel_rfl
  m18 := by kernel_rfl
  m19 := by kernel_rfl }
open Go.RowKit Go.Sort Go.Lib in
theorem Tryz.strconv_Itoa (n : Int) (h0 : -9223372036854775808 ≤ n) (h1 : n ≤ 9223372036854775807) (w : World) (htab : Lib.TabIs Tryz.prog w "internal/strconv.uint64pow10" .u64 Lib.pow10Tab) :
    Calls Tryz.prog 336 #[.int .i64 n] w λe w' => e = .returned (.string ⟨(Lib.itoa n).toArray⟩) /\ ∃ k os, w' = grow (w.drewN k) os := Any.strconv_Itoa Tryz.OO n h0 h1 w htab
def Tryz.Fw : Go.Shelf.Ren := ⟨fun | 171 => 336 | 243 => 357 | 246 => 369 | 283 => 374 | 284 => 375 | 285 => 376 | 286 => 377 | 129 => 321 | 317 => 381 | 318 => 382 | 319 => 383 | 320 => 384 | 337 => 385 | 338 => 386 | n => n, fun | 3 => 3 | 9 => 9 | 2 => 2 | 4 => 4 | 171 => 544 | 0 => 0 | 53 => 407 | 37 => 174 | 5 => 5 | 173 => 546 | 212 => 554 | 51 => 410 | 20 => 20 | 213 => 555 | 46 => 276 | 232 => 556 | 233 => 557 | n => n, fun | 17 => 3 | 18 => 4 | 19 => 5 | n => n⟩
theorem Tryz.Rj : Go.Proofs.Lays.n171 Tryz.prog Tryz.Fw := {
  mixed := by kernel_rfl
  f129 := Tryz.func321.trans (congrArg some (by kernel_rfl))
  f171 := Tryz.func336.trans (congrArg some (by kernel_rfl))
  f243 := Tryz.func357.trans (congrArg some (by kernel_rfl))
  f246 := Tryz.func369.trans (congrArg some (by kernel_rfl))
  f283 := Tryz.func374.trans (congrArg some (by kernel_rfl))
  f284 := Tryz.func375.trans (congrArg some (by kernel_rfl))
  f285 := Tryz.func376.trans (congrArg some (by kernel_rfl))
  f286 := Tryz.func377.trans (congrArg some (by kernel_rfl))
  f317 := Tryz.func381.trans (congrArg some (by kernel_rfl))
  f318 := Tryz.func382.trans (congrArg some (by kernel_rfl))
  f319 := Tryz.func383.trans (congrArg some (by kernel_rfl))
  f320 := Tryz.func384.trans (congrArg some (by kernel_rfl))
  f337 := Tryz.func385.trans (congrArg some (by kernel_rfl))
  f338 := Tryz.func386.trans (congrArg some (by kernel_rfl))
  t0 := Tryz.underlying0
  a0 := Tryz.isAgg0
  z0 := Tryz.sizeOf0
  v0 := Tryz.zeroValue0
  t2 := Tryz.underlying2
  a2 := Tryz.isAgg2
  z2 := Tryz.sizeOf2
  v2 := Tryz.zeroValue2
  t3 := Tryz.underlying3
  a3 := Tryz.isAgg3
  z3 := Tryz.sizeOf3
  v3 := Tryz.zeroValue3
  t4 := Tryz.underlying4
  a4 := Tryz.isAgg4
  z4 := Tryz.sizeOf4
  v4 := Tryz.zeroValue4
  t5 := Tryz.underlying5
  a5 := Tryz.isAgg5
  z5 := Tryz.sizeOf5
  v5 := Tryz.zeroValue5
  t9 := Tryz.underlying9
  a9 := Tryz.isAgg9
  z9 := Tryz.sizeOf9
  v9 := Tryz.zeroValue9
  t20 := Tryz.underlying20
  a20 := Tryz.isAgg20
  z20 := Tryz.sizeOf20
  v20 := Tryz.zeroValue20
  t37 := Tryz.underlying174
  a37 := Tryz.isAgg174
  z37 := Tryz.sizeOf174
  v37 := Tryz.zeroValue174
  t46 := Tryz.underlying276
  a46 := Tryz.isAgg276
  z46 := Tryz.sizeOf276
  v46 := Tryz.zeroValue276
  t51 := Tryz.underlying410
  a51 := Tryz.isAgg410
  z51 := Tryz.sizeOf410
  v51 := Tryz.zeroValue410
  t53 := Tryz.underlying407
  a53 := Tryz.isAgg407
  z53 := Tryz.sizeOf407
  v53 := Tryz.zeroValue407
  t171 := Tryz.underlying544
  a171 := Tryz.isAgg544
  z171 := Tryz.sizeOf544
  v171 := Tryz.zeroValue544
  t173 := Tryz.underlying546
  a173 := Tryz.isAgg546
  z173 := Tryz.sizeOf546
  v173 := Tryz.zeroValue546
  t212 := Tryz.underlying554
  a212 := Tryz.isAgg554
  z212 := Tryz.sizeOf554
  v212 := Tryz.zeroValue554
  t213 := Tryz.underlying555
  a213 := Tryz.isAgg555
  z213 := Tryz.sizeOf555
  t232 := Tryz.underlying556
  a232 := Tryz.isAgg556
  z232 := Tryz.sizeOf556
  v232 := Tryz.zeroValue556
  t233 := Tryz.underlying557
  a233 := Tryz.isAgg557
  z233 := Tryz.sizeOf557
  v233 := Tryz.zeroValue557
  g17 := by kernel_rfl
  g18 := by kernel_rfl
  g19 := by kernel_rfl }
open Go.RowKit Go.Sort Go.Lib in
theorem Tryz.strconv_Itoa_small (i : Nat) (hi : i < 100) (w : World) :
    Calls Tryz.prog 336 #[.int .i64 i] w λe w' => e = .returned (.string ⟨(Lib.decDigits i).toArray⟩) /\ w' = w := Any.strconv_Itoa_small Tryz.Rj i hi w
end Go.Proofs
