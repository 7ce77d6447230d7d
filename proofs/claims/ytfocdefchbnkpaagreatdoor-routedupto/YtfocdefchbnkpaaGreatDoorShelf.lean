/- The library's contracts, laid at this dump. -/
import Derived.Test.YtfocdefchbnkpaaGreatDoorAli
import Derived.Shelf.Small.Strs
import Derived.Shelf.Strings.Search1
import Derived.Shelf.Strings.Search2
import Derived.Shelf.Strings.Search3
import Derived.Shelf.Strings.Cut
import Derived.Shelf.Strconv.Atoi
import Derived.Shelf.Strings.Prefix
import Derived.Shelf.Strings.Trim
import Derived.Shelf.Strings.Split
import Derived.Test.YtfocdefchbnkpaaGreatDoorProg
import Derived.Test.YtfocdefchbnkpaaGreatDoorPure1
import Derived.Lib.IndexMore
set_option maxRecDepth 100000
set_option maxHeartbeats 20000000
namespace Go.Proofs
open Go.Shelf Go.RowKit Go.Lib
def Tryz.lays137_ren : Go.Shelf.Ren := ⟨fun | 137 => 264 | 217 => 323 | 266 => 375 | n => n, fun | 9 => 9 | 5 => 5 | 3 => 3 | n => n, fun | n => n⟩
theorem Tryz.lays137 : Go.Proofs.Lays.n137 Tryz.prog Tryz.lays137_ren := {
  mixed := by kernel_rfl
  f137 := Tryz.func264.trans (congrArg some (by kernel_rfl))
  f217 := Tryz.func323.trans (congrArg some (by kernel_rfl))
  f266 := Tryz.func375.trans (congrArg some (by kernel_rfl))
  t3 := Tryz.underlying3
  a3 := Tryz.isAgg3
  z3 := Tryz.sizeOf3
  v3 := Tryz.zeroValue3
  t5 := Tryz.underlying5
  a5 := Tryz.isAgg5
  z5 := Tryz.sizeOf5
  v5 := Tryz.zeroValue5
  t9 := Tryz.underlying9
  a9 := Tryz.isAgg9
  z9 := Tryz.sizeOf9
  v9 := Tryz.zeroValue9 }
theorem Tryz.strings_IndexByte (s : ByteArray) (c : Int) (w : World) :
    Calls Tryz.prog 264 #[.string s, .int .u8 c] w fun e w' => e = .returned (.int .i64 (Lib.indexByte s.data.toList c.toNat.toUInt8)) ∧ w' = w := Any.strings_IndexByte Tryz.lays137 s c w
def Tryz.lays219_ren : Go.Shelf.Ren := ⟨fun | 219 => 364 | 217 => 323 | 225 => 405 | 224 => 406 | 267 => 407 | 266 => 375 | 314 => 425 | n => n, fun | 9 => 9 | 3 => 3 | 4 => 4 | 5 => 5 | 46 => 220 | 146 => 388 | 51 => 152 | n => n, fun | 1 => 0 | n => n⟩
theorem Tryz.lays219 : Go.Proofs.Lays.n219 Tryz.prog Tryz.lays219_ren := {
  mixed := by kernel_rfl
  f217 := Tryz.func323.trans (congrArg some (by kernel_rfl))
  f219 := Tryz.func364.trans (congrArg some (by kernel_rfl))
  f224 := Tryz.func406.trans (congrArg some (by kernel_rfl))
  f225 := Tryz.func405.trans (congrArg some (by kernel_rfl))
  f266 := Tryz.func375.trans (congrArg some (by kernel_rfl))
  f267 := Tryz.func407.trans (congrArg some (by kernel_rfl))
  f314 := Tryz.func425.trans (congrArg some (by kernel_rfl))
  t3 := Tryz.underlying3
  a3 := Tryz.isAgg3
  z3 := Tryz.sizeOf3
  v3 := Tryz.zeroValue3
  t4 := Tryz.underlying4
  a4 := Tryz.isAgg4
  z4 := Tryz.sizeOf4
  v4 := Tryz.zeroValue4
  t5 := Tryz.underlying5
  a5 := Tryz.isAgg5
  z5 := Tryz.sizeOf5
  v5 := Tryz.zeroValue5
  t9 := Tryz.underlying9
  a9 := Tryz.isAgg9
  z9 := Tryz.sizeOf9
  v9 := Tryz.zeroValue9
  t46 := Tryz.underlying220
  a46 := Tryz.isAgg220
  z46 := Tryz.sizeOf220
  v46 := Tryz.zeroValue220
  t51 := Tryz.underlying152
  a51 := Tryz.isAgg152
  z51 := Tryz.sizeOf152
  v51 := Tryz.zeroValue152
  t146 := Tryz.underlying388
  a146 := Tryz.isAgg388
  z146 := Tryz.sizeOf388
  v146 := Tryz.zeroValue388
  g1 := by kernel_rfl }
theorem Tryz.stringslite_Index_one (s : ByteArray) (c : UInt8) (w : World) :
    Calls Tryz.prog 364 #[.string s, .string ⟨#[c]⟩] w fun e w' => e = .returned (.int .i64 (Lib.indexByte s.data.toList c)) ∧ w' = w := Any.stringslite_Index_one Tryz.lays219 s c w
def Tryz.lays144_ren : Go.Shelf.Ren := ⟨fun | 144 => 322 | 143 => 374 | 219 => 364 | 217 => 323 | 225 => 405 | 224 => 406 | 267 => 407 | 266 => 375 | 314 => 425 | n => n, fun | 9 => 9 | 4 => 4 | 3 => 3 | 5 => 5 | 46 => 220 | 146 => 388 | 51 => 152 | n => n, fun | 1 => 0 | n => n⟩
theorem Tryz.lays144 : Go.Proofs.Lays.n144 Tryz.prog Tryz.lays144_ren := {
  mixed := by kernel_rfl
  f143 := Tryz.func374.trans (congrArg some (by kernel_rfl))
  f144 := Tryz.func322.trans (congrArg some (by kernel_rfl))
  f217 := Tryz.func323.trans (congrArg some (by kernel_rfl))
  f219 := Tryz.func364.trans (congrArg some (by kernel_rfl))
  f224 := Tryz.func406.trans (congrArg some (by kernel_rfl))
  f225 := Tryz.func405.trans (congrArg some (by kernel_rfl))
  f266 := Tryz.func375.trans (congrArg some (by kernel_rfl))
  f267 := Tryz.func407.trans (congrArg some (by kernel_rfl))
  f314 := Tryz.func425.trans (congrArg some (by kernel_rfl))
  t3 := Tryz.underlying3
  a3 := Tryz.isAgg3
  z3 := Tryz.sizeOf3
  v3 := Tryz.zeroValue3
  t4 := Tryz.underlying4
  a4 := Tryz.isAgg4
  z4 := Tryz.sizeOf4
  v4 := Tryz.zeroValue4
  t5 := Tryz.underlying5
  a5 := Tryz.isAgg5
  z5 := Tryz.sizeOf5
  v5 := Tryz.zeroValue5
  t9 := Tryz.underlying9
  a9 := Tryz.isAgg9
  z9 := Tryz.sizeOf9
  v9 := Tryz.zeroValue9
  t46 := Tryz.underlying220
  a46 := Tryz.isAgg220
  z46 := Tryz.sizeOf220
  v46 := Tryz.zeroValue220
  t51 := Tryz.underlying152
  a51 := Tryz.isAgg152
  z51 := Tryz.sizeOf152
  v51 := Tryz.zeroValue152
  t146 := Tryz.underlying388
  a146 := Tryz.isAgg388
  z146 := Tryz.sizeOf388
  v146 := Tryz.zeroValue388
  g1 := by kernel_rfl }
theorem Tryz.strings_Contains_one (s : ByteArray) (c : UInt8) (w : World) :
    Calls Tryz.prog 322 #[.string s, .string ⟨#[c]⟩] w fun e w' => e = .returned (.bool (decide (0 ≤ Lib.indexByte s.data.toList c))) ∧ w' = w := Any.strings_Contains_one Tryz.lays144 s c w
def Tryz.lays172_ren : Go.Shelf.Ren := ⟨fun | 172 => 236 | 244 => 306 | 245 => 307 | 247 => 359 | 279 => 360 | 280 => 361 | 281 => 362 | 282 => 363 | 287 => 402 | 316 => 403 | 171 => 159 | 205 => 404 | 321 => 423 | 322 => 424 | 243 => 219 | 246 => 298 | 283 => 346 | 284 => 347 | 285 => 348 | 286 => 349 | 129 => 285 | 317 => 387 | 318 => 388 | 319 => 389 | 320 => 390 | 337 => 415 | 338 => 416 | n => n, fun | 9 => 9 | 3 => 3 | 75 => 270 | 76 => 271 | 4 => 4 | 5 => 5 | 167 => 421 | 37 => 32 | 0 => 0 | 85 => 422 | 2 => 2 | 168 => 424 | 53 => 60 | 175 => 451 | 46 => 220 | 210 => 454 | 127 => 215 | 145 => 466 | 143 => 464 | 21 => 21 | 171 => 415 | 173 => 417 | 212 => 441 | 51 => 152 | 20 => 20 | 213 => 442 | 232 => 469 | 233 => 470 | 80 => 58 | n => n, fun | 15 => 2 | 16 => 3 | 17 => 1 | 18 => 4 | 19 => 5 | n => n⟩
theorem Tryz.lays172 : Go.Proofs.Lays.n172 Tryz.prog Tryz.lays172_ren := {
  mixed := by kernel_rfl
  f129 := Tryz.func285.trans (congrArg some (by kernel_rfl))
  f171 := Tryz.func159.trans (congrArg some (by kernel_rfl))
  f172 := Tryz.func236.trans (congrArg some (by kernel_rfl))
  f205 := Tryz.func404.trans (congrArg some (by kernel_rfl))
  f243 := Tryz.func219.trans (congrArg some (by kernel_rfl))
  f244 := Tryz.func306.trans (congrArg some (by kernel_rfl))
  f245 := Tryz.func307.trans (congrArg some (by kernel_rfl))
  f246 := Tryz.func298.trans (congrArg some (by kernel_rfl))
  f247 := Tryz.func359.trans (congrArg some (by kernel_rfl))
  f279 := Tryz.func360.trans (congrArg some (by kernel_rfl))
  f280 := Tryz.func361.trans (congrArg some (by kernel_rfl))
  f281 := Tryz.func362.trans (congrArg some (by kernel_rfl))
  f282 := Tryz.func363.trans (congrArg some (by kernel_rfl))
  f283 := Tryz.func346.trans (congrArg some (by kernel_rfl))
  f284 := Tryz.func347.trans (congrArg some (by kernel_rfl))
  f285 := Tryz.func348.trans (congrArg some (by kernel_rfl))
  f286 := Tryz.func349.trans (congrArg some (by kernel_rfl))
  f287 := Tryz.func402.trans (congrArg some (by kernel_rfl))
  f316 := Tryz.func403.trans (congrArg some (by kernel_rfl))
  f317 := Tryz.func387.trans (congrArg some (by kernel_rfl))
  f318 := Tryz.func388.trans (congrArg some (by kernel_rfl))
  f319 := Tryz.func389.trans (congrArg some (by kernel_rfl))
  f320 := Tryz.func390.trans (congrArg some (by kernel_rfl))
  f321 := Tryz.func423.trans (congrArg some (by kernel_rfl))
  f322 := Tryz.func424.trans (congrArg some (by kernel_rfl))
  f337 := Tryz.func415.trans (congrArg some (by kernel_rfl))
  f338 := Tryz.func416.trans (congrArg some (by kernel_rfl))
  t0 := Tryz.underlying0
  a0 := Tryz.isAgg0
  z0 := Tryz.sizeOf0
  v0 := Tryz.zeroValue0
  t2 := Tryz.underlying2
  a2 := Tryz.isAgg2
  z2 := Tryz.sizeOf2
  v2 := Tryz.zeroValue2
  t3 := Tryz.underlying3
  a3 := Tryz.isAgg3
  z3 := Tryz.sizeOf3
  v3 := Tryz.zeroValue3
  t4 := Tryz.underlying4
  a4 := Tryz.isAgg4
  z4 := Tryz.sizeOf4
  v4 := Tryz.zeroValue4
  t5 := Tryz.underlying5
  a5 := Tryz.isAgg5
  z5 := Tryz.sizeOf5
  v5 := Tryz.zeroValue5
  t9 := Tryz.underlying9
  a9 := Tryz.isAgg9
  z9 := Tryz.sizeOf9
  v9 := Tryz.zeroValue9
  t20 := Tryz.underlying20
  a20 := Tryz.isAgg20
  z20 := Tryz.sizeOf20
  v20 := Tryz.zeroValue20
  t21 := Tryz.underlying21
  a21 := Tryz.isAgg21
  z21 := Tryz.sizeOf21
  v21 := Tryz.zeroValue21
  t37 := Tryz.underlying32
  a37 := Tryz.isAgg32
  z37 := Tryz.sizeOf32
  v37 := Tryz.zeroValue32
  t46 := Tryz.underlying220
  a46 := Tryz.isAgg220
  z46 := Tryz.sizeOf220
  v46 := Tryz.zeroValue220
  t51 := Tryz.underlying152
  a51 := Tryz.isAgg152
  z51 := Tryz.sizeOf152
  v51 := Tryz.zeroValue152
  t53 := Tryz.underlying60
  a53 := Tryz.isAgg60
  z53 := Tryz.sizeOf60
  v53 := Tryz.zeroValue60
  t75 := Tryz.underlying270
  a75 := Tryz.isAgg270
  z75 := Tryz.sizeOf270
  v75 := Tryz.zeroValue270
  t76 := Tryz.underlying271
  a76 := Tryz.isAgg271
  z76 := Tryz.sizeOf271
  v76 := Tryz.zeroValue271
  t85 := Tryz.underlying422
  a85 := Tryz.isAgg422
  z85 := Tryz.sizeOf422
  v85 := Tryz.zeroValue422
  t127 := Tryz.underlying215
  a127 := Tryz.isAgg215
  z127 := Tryz.sizeOf215
  v127 := Tryz.zeroValue215
  t143 := Tryz.underlying464
  a143 := Tryz.isAgg464
  z143 := Tryz.sizeOf464
  v143 := Tryz.zeroValue464
  t145 := Tryz.underlying466
  a145 := Tryz.isAgg466
  z145 := Tryz.sizeOf466
  v145 := Tryz.zeroValue466
  t167 := Tryz.underlying421
  a167 := Tryz.isAgg421
  z167 := Tryz.sizeOf421
  v167 := Tryz.zeroValue421
  t168 := Tryz.underlying424
  a168 := Tryz.isAgg424
  z168 := Tryz.sizeOf424
  v168 := Tryz.zeroValue424
  t171 := Tryz.underlying415
  a171 := Tryz.isAgg415
  z171 := Tryz.sizeOf415
  v171 := Tryz.zeroValue415
  t173 := Tryz.underlying417
  a173 := Tryz.isAgg417
  z173 := Tryz.sizeOf417
  v173 := Tryz.zeroValue417
  t175 := Tryz.underlying451
  a175 := Tryz.isAgg451
  z175 := Tryz.sizeOf451
  v175 := Tryz.zeroValue451
  t210 := Tryz.underlying454
  a210 := Tryz.isAgg454
  z210 := Tryz.sizeOf454
  v210 := Tryz.zeroValue454
  t212 := Tryz.underlying441
  a212 := Tryz.isAgg441
  z212 := Tryz.sizeOf441
  v212 := Tryz.zeroValue441
  t213 := Tryz.underlying442
  a213 := Tryz.isAgg442
  z213 := Tryz.sizeOf442
  t232 := Tryz.underlying469
  a232 := Tryz.isAgg469
  z232 := Tryz.sizeOf469
  v232 := Tryz.zeroValue469
  t233 := Tryz.underlying470
  a233 := Tryz.isAgg470
  z233 := Tryz.sizeOf470
  v233 := Tryz.zeroValue470
  g15 := by kernel_rfl
  g16 := by kernel_rfl
  g17 := by kernel_rfl
  g18 := by kernel_rfl
  g19 := by kernel_rfl }
theorem Tryz.strconv_Atoi (s : ByteArray) (n : Int) (hl : s.size ≤ 18) (h : Lib.atoi s.data.toList = some n) (w : World) :
    Calls Tryz.prog 236 #[.string s] w fun e w' => e = .returned (.tuple #[.int .i64 n, .nilIface]) ∧ ∃ t, w' = Lib.bytesWorld w 5 t := Any.strconv_Atoi Tryz.lays172 s n hl h w
def Tryz.lays99_ren : Go.Shelf.Ren := ⟨fun | 99 => 216 | 206 => 230 | n => n, fun | 9 => 9 | 4 => 4 | 3 => 3 | n => n, fun | n => n⟩
theorem Tryz.lays99 : Go.Proofs.Lays.n99 Tryz.prog Tryz.lays99_ren := {
  mixed := by kernel_rfl
  f99 := Tryz.func216.trans (congrArg some (by kernel_rfl))
  f206 := Tryz.func230.trans (congrArg some (by kernel_rfl))
  t3 := Tryz.underlying3
  a3 := Tryz.isAgg3
  z3 := Tryz.sizeOf3
  v3 := Tryz.zeroValue3
  t4 := Tryz.underlying4
  a4 := Tryz.isAgg4
  z4 := Tryz.sizeOf4
  v4 := Tryz.zeroValue4
  t9 := Tryz.underlying9
  a9 := Tryz.isAgg9
  z9 := Tryz.sizeOf9
  v9 := Tryz.zeroValue9 }
theorem Tryz.strings_HasPrefix (s p : ByteArray) (w : World) :
    Calls Tryz.prog 216 #[.string s, .string p] w fun e w' => e = .returned (.bool (Lib.hasPrefix s.data.toList p.data.toList)) ∧ w' = w := Any.strings_HasPrefix Tryz.lays99 s p w
def Tryz.lays101_ren : Go.Shelf.Ren := ⟨fun | 101 => 244 | 208 => 312 | 206 => 230 | n => n, fun | 9 => 9 | 4 => 4 | 3 => 3 | n => n, fun | n => n⟩
theorem Tryz.lays101 : Go.Proofs.Lays.n101 Tryz.prog Tryz.lays101_ren := {
  mixed := by kernel_rfl
  f101 := Tryz.func244.trans (congrArg some (by kernel_rfl))
  f206 := Tryz.func230.trans (congrArg some (by kernel_rfl))
  f208 := Tryz.func312.trans (congrArg some (by kernel_rfl))
  t3 := Tryz.underlying3
  a3 := Tryz.isAgg3
  z3 := Tryz.sizeOf3
  v3 := Tryz.zeroValue3
  t4 := Tryz.underlying4
  a4 := Tryz.isAgg4
  z4 := Tryz.sizeOf4
  v4 := Tryz.zeroValue4
  t9 := Tryz.underlying9
  a9 := Tryz.isAgg9
  z9 := Tryz.sizeOf9
  v9 := Tryz.zeroValue9 }
theorem Tryz.strings_TrimPrefix (s p : ByteArray) (w : World) :
    Calls Tryz.prog 244 #[.string s, .string p] w fun e w' => e = .returned (.string ⟨(Lib.trimPrefix s.data.toList p.data.toList).toArray⟩) ∧ w' = w := Any.strings_TrimPrefix Tryz.lays101 s p w
def Tryz.lays160_ren : Go.Shelf.Ren := ⟨fun | 160 => 356 | 232 => 395 | 231 => 394 | 227 => 396 | 234 => 398 | 233 => 397 | 236 => 400 | 235 => 399 | 228 => 420 | 271 => 422 | 151 => 421 | 197 => 418 | 120 => 429 | 152 => 428 | 260 => 427 | 137 => 264 | 119 => 430 | 224 => 406 | 225 => 405 | 217 => 323 | 266 => 375 | n => n, fun | 9 => 9 | 4 => 4 | 3 => 3 | 5 => 5 | 117 => 447 | 116 => 446 | 0 => 0 | 124 => 450 | 21 => 21 | 105 => 460 | 46 => 220 | 119 => 472 | 139 => 475 | 138 => 474 | n => n, fun | 3 => 6 | 4 => 7 | n => n⟩
theorem Tryz.lays160 : Go.Proofs.Lays.n160 Tryz.prog Tryz.lays160_ren := {
  mixed := by kernel_rfl
  f119 := Tryz.func430.trans (congrArg some (by kernel_rfl))
  f120 := Tryz.func429.trans (congrArg some (by kernel_rfl))
  f137 := Tryz.func264.trans (congrArg some (by kernel_rfl))
  f151 := Tryz.func421.trans (congrArg some (by kernel_rfl))
  f152 := Tryz.func428.trans (congrArg some (by kernel_rfl))
  f160 := Tryz.func356.trans (congrArg some (by kernel_rfl))
  f197 := Tryz.func418.trans (congrArg some (by kernel_rfl))
  f217 := Tryz.func323.trans (congrArg some (by kernel_rfl))
  f224 := Tryz.func406.trans (congrArg some (by kernel_rfl))
  f225 := Tryz.func405.trans (congrArg some (by kernel_rfl))
  f227 := Tryz.func396.trans (congrArg some (by kernel_rfl))
  f228 := Tryz.func420.trans (congrArg some (by kernel_rfl))
  f231 := Tryz.func394.trans (congrArg some (by kernel_rfl))
  f232 := Tryz.func395.trans (congrArg some (by kernel_rfl))
  f233 := Tryz.func397.trans (congrArg some (by kernel_rfl))
  f234 := Tryz.func398.trans (congrArg some (by kernel_rfl))
  f235 := Tryz.func399.trans (congrArg some (by kernel_rfl))
  f236 := Tryz.func400.trans (congrArg some (by kernel_rfl))
  f260 := Tryz.func427.trans (congrArg some (by kernel_rfl))
  f266 := Tryz.func375.trans (congrArg some (by kernel_rfl))
  f271 := Tryz.func422.trans (congrArg some (by kernel_rfl))
  t0 := Tryz.underlying0
  a0 := Tryz.isAgg0
  z0 := Tryz.sizeOf0
  v0 := Tryz.zeroValue0
  t3 := Tryz.underlying3
  a3 := Tryz.isAgg3
  z3 := Tryz.sizeOf3
  v3 := Tryz.zeroValue3
  t4 := Tryz.underlying4
  a4 := Tryz.isAgg4
  z4 := Tryz.sizeOf4
  v4 := Tryz.zeroValue4
  t5 := Tryz.underlying5
  a5 := Tryz.isAgg5
  z5 := Tryz.sizeOf5
  v5 := Tryz.zeroValue5
  t9 := Tryz.underlying9
  a9 := Tryz.isAgg9
  z9 := Tryz.sizeOf9
  v9 := Tryz.zeroValue9
  t21 := Tryz.underlying21
  a21 := Tryz.isAgg21
  z21 := Tryz.sizeOf21
  v21 := Tryz.zeroValue21
  t46 := Tryz.underlying220
  a46 := Tryz.isAgg220
  z46 := Tryz.sizeOf220
  v46 := Tryz.zeroValue220
  t105 := Tryz.underlying460
  a105 := Tryz.isAgg460
  z105 := Tryz.sizeOf460
  v105 := Tryz.zeroValue460
  t116 := Tryz.underlying446
  a116 := Tryz.isAgg446
  z116 := Tryz.sizeOf446
  t117 := Tryz.underlying447
  a117 := Tryz.isAgg447
  z117 := Tryz.sizeOf447
  v117 := Tryz.zeroValue447
  t119 := Tryz.underlying472
  a119 := Tryz.isAgg472
  z119 := Tryz.sizeOf472
  t124 := Tryz.underlying450
  a124 := Tryz.isAgg450
  z124 := Tryz.sizeOf450
  v124 := Tryz.zeroValue450
  t138 := Tryz.underlying474
  a138 := Tryz.isAgg474
  z138 := Tryz.sizeOf474
  v138 := Tryz.zeroValue474
  t139 := Tryz.underlying475
  a139 := Tryz.isAgg475
  z139 := Tryz.sizeOf475
  v139 := Tryz.zeroValue475
  g3 := by kernel_rfl
  g4 := by kernel_rfl }
theorem Tryz.strings_Trim_one (s : ByteArray) (c : UInt8) (hc : c.toNat < 128) (w : World) (hs : s.size ≤ 9223372036854775807) :
    Calls Tryz.prog 356 #[.string s, .string ⟨#[c]⟩] w fun e w' => e = .returned (.string ⟨(Lib.trimB s.data.toList c).toArray⟩) ∧ (w' = w ∨ w' = w.drew) := Any.strings_Trim_one Tryz.lays160 s c hc w hs
def Tryz.lays146_ren : Go.Shelf.Ren := ⟨fun | 146 => 301 | 221 => 351 | 268 => 391 | 138 => 392 | 143 => 374 | 195 => 417 | 197 => 418 | 218 => 419 | 219 => 364 | 260 => 427 | 217 => 323 | 225 => 405 | 224 => 406 | 267 => 407 | 266 => 375 | 314 => 425 | n => n, fun | 9 => 9 | 31 => 22 | 3 => 3 | 4 => 4 | 0 => 0 | 105 => 460 | 21 => 21 | 5 => 5 | 46 => 220 | 119 => 472 | 139 => 475 | 138 => 474 | 146 => 388 | 51 => 152 | n => n, fun | 1 => 0 | 3 => 6 | 4 => 7 | n => n⟩
theorem Tryz.lays146 : Go.Proofs.Lays.n146 Tryz.prog Tryz.lays146_ren := {
  mixed := by kernel_rfl
  f138 := Tryz.func392.trans (congrArg some (by kernel_rfl))
  f143 := Tryz.func374.trans (congrArg some (by kernel_rfl))
  f146 := Tryz.func301.trans (congrArg some (by kernel_rfl))
  f195 := Tryz.func417.trans (congrArg some (by kernel_rfl))
  f197 := Tryz.func418.trans (congrArg some (by kernel_rfl))
  f217 := Tryz.func323.trans (congrArg some (by kernel_rfl))
  f218 := Tryz.func419.trans (congrArg some (by kernel_rfl))
  f219 := Tryz.func364.trans (congrArg some (by kernel_rfl))
  f221 := Tryz.func351.trans (congrArg some (by kernel_rfl))
  f224 := Tryz.func406.trans (congrArg some (by kernel_rfl))
  f225 := Tryz.func405.trans (congrArg some (by kernel_rfl))
  f260 := Tryz.func427.trans (congrArg some (by kernel_rfl))
  f266 := Tryz.func375.trans (congrArg some (by kernel_rfl))
  f267 := Tryz.func407.trans (congrArg some (by kernel_rfl))
  f268 := Tryz.func391.trans (congrArg some (by kernel_rfl))
  f314 := Tryz.func425.trans (congrArg some (by kernel_rfl))
  t0 := Tryz.underlying0
  a0 := Tryz.isAgg0
  z0 := Tryz.sizeOf0
  v0 := Tryz.zeroValue0
  t3 := Tryz.underlying3
  a3 := Tryz.isAgg3
  z3 := Tryz.sizeOf3
  v3 := Tryz.zeroValue3
  t4 := Tryz.underlying4
  a4 := Tryz.isAgg4
  z4 := Tryz.sizeOf4
  v4 := Tryz.zeroValue4
  t5 := Tryz.underlying5
  a5 := Tryz.isAgg5
  z5 := Tryz.sizeOf5
  v5 := Tryz.zeroValue5
  t9 := Tryz.underlying9
  a9 := Tryz.isAgg9
  z9 := Tryz.sizeOf9
  v9 := Tryz.zeroValue9
  t21 := Tryz.underlying21
  a21 := Tryz.isAgg21
  z21 := Tryz.sizeOf21
  v21 := Tryz.zeroValue21
  t31 := Tryz.underlying22
  a31 := Tryz.isAgg22
  z31 := Tryz.sizeOf22
  v31 := Tryz.zeroValue22
  t46 := Tryz.underlying220
  a46 := Tryz.isAgg220
  z46 := Tryz.sizeOf220
  v46 := Tryz.zeroValue220
  t51 := Tryz.underlying152
  a51 := Tryz.isAgg152
  z51 := Tryz.sizeOf152
  v51 := Tryz.zeroValue152
  t105 := Tryz.underlying460
  a105 := Tryz.isAgg460
  z105 := Tryz.sizeOf460
  v105 := Tryz.zeroValue460
  t119 := Tryz.underlying472
  a119 := Tryz.isAgg472
  z119 := Tryz.sizeOf472
  t138 := Tryz.underlying474
  a138 := Tryz.isAgg474
  z138 := Tryz.sizeOf474
  v138 := Tryz.zeroValue474
  t139 := Tryz.underlying475
  a139 := Tryz.isAgg475
  z139 := Tryz.sizeOf475
  v139 := Tryz.zeroValue475
  t146 := Tryz.underlying388
  a146 := Tryz.isAgg388
  z146 := Tryz.sizeOf388
  v146 := Tryz.zeroValue388
  g1 := by kernel_rfl
  g3 := by kernel_rfl
  g4 := by kernel_rfl }
theorem Tryz.strings_Split (s sep : ByteArray) (m : Int) (w : World) (hs : s.size < 4294967281) (hm : w.cell? ⟨0, 0, none⟩ = some (.int .i64 m)) (h1 : 1 ≤ sep.size) :
    Calls Tryz.prog 301 #[.string s, .string sep] w fun e w' =>
      e = .returned (.slice (some ⟨w.heap.size, 0, none⟩) (Lib.countB s sep + 1) (Lib.countB s sep + 1)) ∧ w' = w.alloc (.cells ((Lib.splitB sep 0 (Lib.countB s sep) s).map Value.string).toArray 9) := Any.strings_Split Tryz.lays146 (by kernel_rfl) s sep m w hs hm h1
end Go.Proofs
namespace Go.Proofs.YtfocdefchbnkpaaGreatDoor
open Go.RowKit
structure P.Tk where
 k:Int
 at_:Nat
 raw:List UInt8
def xH (l:List UInt8):Nat×Int:=if 5<R.span R.digitI l then (0,5) else (R.span R.digitI l,2)
theorem yL (c:UInt8)(r:List UInt8)(x:UInt8):Lib.index (c :: r) [x]=if c=x then 0 else if Lib.index r [x] = -1 then -1 else Lib.index r [x]+1:=by
 rw[Lib.index]
 by_cases h:c=x
 ·subst h;rw[if_pos (by simp[List.isPrefixOf]),if_pos rfl]
 ·rw[if_neg (by simp[List.isPrefixOf];exact fun e=>h e.symm),if_neg h]
  by_cases h2:Lib.index r [x] = -1
  ·rw[if_pos (by rw[h2];rfl),if_pos h2]
  ·rw[if_neg (by rw[beq_iff_eq];exact h2),if_neg h2]
theorem kS (l:List UInt8)(x:UInt8):Lib.indexByte l x=Lib.index l [x]:=by
 induction l with
 | nil=>rfl
 | cons c r ih=>
  rw[yL,Lib.indexByte,ih]
  by_cases h:c=x
  ·rw[if_pos (by rw[h];simp),if_pos h]
  ·rw[if_neg (by simpa using h),if_neg h]
   by_cases h2:Lib.index r [x] = -1
   ·rw[if_pos (by rw[h2];rfl),if_pos h2]
   ·rw[if_neg (by simpa using h2),if_neg h2]
def yZ (t:List UInt8):Bool:=!(Lib.cut t [34]).2.2 || (decide (24<(Lib.cut t [34]).1.length) || Lib.contains (Lib.cut t [34]).1 [10])
def xM (l:List UInt8):Nat×Int:=if yZ (l.drop 1) then (0,5) else ((Lib.cut (l.drop 1) [34]).1.length+2,3)
def zr (l:List UInt8):Nat×Int:=
 match l with
 | []=>(0,0)
 | c :: _=>
  if R.smallI c.toNat then (R.span R.smallI l,1)
  else if R.digitI c.toNat then xH l
  else if c.toNat=34 then xM l
  else if R.signI c.toNat then (1,4) else (0,5)
def zj (l:List UInt8)(p:Nat):Nat:=p+R.span qt (l.drop p)
def zU (l:List UInt8)(p:Nat):P.Tk:=
 ⟨(zr (l.drop (zj l p))).2,zj l p,(l.drop (zj l p)).take (zr (l.drop (zj l p))).1⟩
theorem zjH (t:List UInt8):(Lib.cut t [34]).1.length<=t.length:=by
 unfold Lib.cut;split
 ·simp only[List.length_take];omega
 ·exact zZ _
theorem zgU (t:List UInt8)(h:(Lib.cut t [34]).2.2=true):(Lib.cut t [34]).1.length+1<=t.length:=by
 unfold Lib.cut at h ⊢
 split
 ·rename_i h0
  have:=Lib.index_room t [34] h0
  simp only[List.length_take,zm,qi] at this ⊢
  omega
 ·rename_i h0;rw[if_neg h0] at h;simp at h
theorem jU (l:List UInt8):(zr l).1<=l.length:=by
 unfold zr
 match l with
 | []=>simp
 | c :: r=>
  simp only
  have h1:=R.span_le R.smallI (c :: r)
  have h2:=R.span_le R.digitI (c :: r)
  split
  ·exact h1
  ·split
   ·unfold xH;split
    ·simp
    ·exact h2
   ·split
    ·unfold xM;split
     ·simp
     ·rename_i hb
      have:(Lib.cut r [34]).2.2=true:=by
       unfold yZ at hb;simp at hb;exact hb.1
      have:=zgU r this
      simp only[List.drop_succ_cons,List.drop_zero,zm];omega
    ·split <;> simp
theorem wO (s:ByteArray)(w:World)(hs:s.size<=maxLen) :
  Calls Tryz.prog 262 #[.string s] w fun e w'=>e = .returned (.tuple #[.int .i64 (xH s.data.toList).1,.int .i64 (xH s.data.toList).2])/\w'=w:=by
 have HM:Y (xH s.data.toList=if 5<R.span R.digitI s.data.toList then (0,5) else (R.span R.digitI s.data.toList,2)):=rfl
 have HR:=fun w=>kO s w hs
 have ab:Y _:=HR
 clear HR
 generalize R.span R.digitI s.data.toList=n at*
 by_cases h5:5<n
 ·rw[if_pos h5] at HM
  go_enter Tryz.func262,Tryz.ntmps262
  go_wp2_with fail
  refine(ab.o _).mono ?_
  rintro e wX ⟨rfl,aa⟩
  rw[aa]
  clear aa wX
  go_wp2
  go_ret2
  exact⟨by rw[HM.o];rfl,rfl⟩
 ·rw[if_neg h5] at HM
  go_enter Tryz.func262,Tryz.ntmps262
  go_wp2_with fail
  refine(ab.o _).mono ?_
  rintro e wX ⟨rfl,aa⟩
  rw[aa]
  clear aa wX
  go_wp2
  go_ret2
  exact⟨by rw[HM.o];rfl,rfl⟩
theorem zj7 {a b c d:ByteArray}{e:Bool}(h:a=c)(h2:b=d):Ending.returned (.tuple #[.string a,.string b,.bool e]) = .returned (.tuple #[.string c,.string d,.bool e]):=by rw[h,h2]
theorem zcF (s:ByteArray)(w:World)(hs:s.size<=maxLen) :
  Calls Tryz.prog 308 #[.string s,.string ⟨#[34]⟩] w fun e w'=>e = .returned (.tuple #[.string (R.str (Lib.cut s.data.toList [34]).1),.string (R.str (Lib.cut s.data.toList [34]).2.1),.bool (Lib.cut s.data.toList [34]).2.2])/\w.grownBy w' none:=by
 have HC:Y (Lib.cut s.data.toList [34]=if 0<=Lib.index s.data.toList [34] then (s.data.toList.take (Lib.index s.data.toList [34]).toNat,s.data.toList.drop ((Lib.index s.data.toList [34]).toNat+1),true) else (s.data.toList,[],false)):=rfl
 have ab:0<=Lib.index s.data.toList [34]->Lib.index s.data.toList [34]+1<=s.size:=fun h=>by
  have:=Lib.index_room s.data.toList [34] h
  rw[R.size_eq] at this;simpa using this
 have HI:Y (∀w,Calls Tryz.prog 364 #[.string s,.string ⟨#[34]⟩] w fun e w'=>e = .returned (.int .i64 (Lib.index s.data.toList [34]))/\w'=w):=fun w=>by
  rw[<-kS];exact Tryz.stringslite_Index_one s 34 w
 unfold maxLen at hs
 generalize Lib.index s.data.toList [34]=k at*
 by_cases h0:0<=k
 ·rw[if_pos h0] at HC
  obtain⟨n,rfl⟩:=Int.eq_ofNat_of_zero_le h0
  have hr:=ab h0
  clear ab
  go_enter Tryz.func308,Tryz.ntmps308
  go_wp2_with fail
  refine(HI.o _).mono ?_
  rintro e wX ⟨rfl,aa⟩
  rw[aa]
  clear aa wX
  go_wp2
  go_region
  go_wp2
  go_ret3
  exact⟨by rw[HC.o];exact zj7 (by rw[jr,Nat.sub_zero,List.drop_zero];rfl) (by rw[jr,<-R.size_eq,jS (by rw[List.length_drop];omega)];rfl),zQ _⟩
 ·rw[if_neg h0] at HC
  clear ab
  go_enter Tryz.func308,Tryz.ntmps308
  go_wp2_with fail
  refine(HI.o _).mono ?_
  rintro e wX ⟨rfl,aa⟩
  rw[aa]
  clear aa wX
  go_wp2
  go_ret3
  exact⟨by rw[HC.o,R.str_of];rfl,zM _ _⟩
theorem zpI (s:ByteArray)(w:World)(hs:s.size<=maxLen) :
  Calls Tryz.prog 238 #[.string s,.string ⟨#[34]⟩] w fun e w'=>e = .returned (.tuple #[.string (R.str (Lib.cut s.data.toList [34]).1),.string (R.str (Lib.cut s.data.toList [34]).2.1),.bool (Lib.cut s.data.toList [34]).2.2])/\w.grownBy w' none:=by
 have HC:Y _:=fun w=>zcF s w hs
 generalize Lib.cut s.data.toList [34]=c at*
 go_enter Tryz.func238,Tryz.ntmps238
 go_wp2_with fail
 refine(HC.o _).mono ?_
 rintro e wX ⟨rfl,hg⟩
 go_wp2
 go_ret3
 exact⟨rfl,hg⟩
theorem wQ (s:ByteArray)(w:World)(hs:s.size<=1000000000000)(h1:1<=s.size) :
  Calls Tryz.prog 263 #[.string s] w fun e w'=>e = .returned (.tuple #[.int .i64 (xM s.data.toList).1,.int .i64 (xM s.data.toList).2])/\w.grownBy w' none:=by
 have hx:(s.extract 1 s.size).data.toList=s.data.toList.drop 1:=fQ s 1
 have ah:(s.extract 1 s.size).size<=maxLen:=by rw[<-R.size_eq,hx,List.length_drop,R.size_eq];unfold maxLen;omega
 have HC:=fun w=>zpI (s.extract 1 s.size) w ah
 rw[hx] at HC
 have ae:Y _:=HC
 have HM:Y (xM s.data.toList=if yZ (s.data.toList.drop 1) then (0,5) else ((Lib.cut (s.data.toList.drop 1) [34]).1.length+2,3)):=rfl
 have HB:Y (yZ (s.data.toList.drop 1)=(!(Lib.cut (s.data.toList.drop 1) [34]).2.2 || (decide (24<(Lib.cut (s.data.toList.drop 1) [34]).1.length) || Lib.contains (Lib.cut (s.data.toList.drop 1) [34]).1 [10]))):=rfl
 have ag:=zjH (s.data.toList.drop 1)
 rw[List.length_drop,R.size_eq] at ag
 clear HC hx ah
 generalize Lib.cut (s.data.toList.drop 1) [34]=c at*
 obtain⟨aa,rest,ai⟩:=c
 simp only at HB HM ag
 have aj:(R.str aa).size=aa.length:=R.str_size aa
 have ad:Y (∀w,Calls Tryz.prog 322 #[.string (R.str aa),.string ⟨#[10]⟩] w fun e w'=>e = .returned (.bool (Lib.contains aa [10]))/\w'=w):=fun w=>by
  have:=Tryz.strings_Contains_one (R.str aa) 10 w
  rw[R.str_toList,kS] at this;exact this
 cases ai
 ·rw[HB.o] at HM
  simp only[Bool.not_false,Bool.true_or,if_true] at HM
  go_enter Tryz.func263,Tryz.ntmps263
  go_wp2_with fail
  refine(ae.o _).mono ?_
  rintro e w1 ⟨rfl,hg⟩
  go_wp2
  go_ret2
  exact⟨by rw[HM.o];rfl,hg⟩
 ·by_cases af:24<aa.length
  ·rw[HB.o,decide_eq_true af] at HM
   simp only[Bool.not_true,Bool.true_or,Bool.or_true,if_true] at HM
   go_enter Tryz.func263,Tryz.ntmps263
   go_wp2_with fail
   refine(ae.o _).mono ?_
   rintro e w1 ⟨rfl,hg⟩
   go_wp2
   go_ret2
   exact⟨by rw[HM.o];rfl,hg⟩
  ·rw[HB.o,decide_eq_false af] at HM
   simp only[Bool.not_true,Bool.false_or] at HM
   cases hco:Lib.contains aa [10]
   ·rw[hco] at HM ad
    simp only[xO,if_false] at HM
    go_enter Tryz.func263,Tryz.ntmps263
    go_wp2_with fail
    refine(ae.o _).mono ?_
    rintro e w1 ⟨rfl,hg⟩
    go_wp2_with fail
    refine(ad.o _).mono ?_
    rintro e wX ⟨rfl,ab⟩
    rw[ab]
    clear ab wX
    go_wp2
    go_ret2
    exact⟨by rw[HM.o];rfl,hg⟩
   ·rw[hco] at HM ad
    simp only[if_true] at HM
    go_enter Tryz.func263,Tryz.ntmps263
    go_wp2_with fail
    refine(ae.o _).mono ?_
    rintro e w1 ⟨rfl,hg⟩
    go_wp2_with fail
    refine(ad.o _).mono ?_
    rintro e wX ⟨rfl,ab⟩
    rw[ab]
    clear ab wX
    go_wp2
    go_ret2
    exact⟨by rw[HM.o];rfl,hg⟩
theorem zn {w w':World}{B rb:Nat}{e:TypeId}{aa:Nat}{v:Value}{n:Nat}{xs:List Value}(h:w.ownsRow B e aa v n xs)(hg:w.grownBy w' (some rb))(hB:rb<B):w'.ownsRow B e aa v n xs:=by
 refine h.kept hg ?_
 cases hv:v.ownBlock with
 | none=>exact Or.inl rfl
 | some k=>right;have:=(h.lt k hv).1;simp;omega
def yB:List R.Tok->Int
 | a :: b :: r=>if a.k=34/\b.k=49 then R.num b.s+yB (r.drop 1) else 0
 | _=>0
 termination_by l=>l.length
 decreasing_by simp;omega
theorem zdK (ts:List R.Tok)(k:Nat)(h:k+1<ts.length)(h1:ts[k].k=34)(h2:ts[k+1].k=49):yB (ts.drop k)=R.num ts[k+1].s+yB (ts.drop (k+3)):=by
 rw[List.drop_eq_getElem_cons (by omega),List.drop_eq_getElem_cons (i:=k+1) (by omega),yB,if_pos ⟨h1,h2⟩,List.drop_drop]
theorem zdL (ts:List R.Tok)(k:Nat)(h:¬∃h:k+1<ts.length,ts[k].k=34/\ts[k+1].k=49):yB (ts.drop k)=0:=by
 by_cases hk:k+1<ts.length
 ·rw[List.drop_eq_getElem_cons (by omega),List.drop_eq_getElem_cons (i:=k+1) (by omega),yB,if_neg (fun c=>h ⟨hk,c⟩)]
 ·by_cases aa:k<ts.length
  ·rw[List.drop_eq_getElem_cons aa,List.drop_of_length_le (by omega)];unfold yB;rfl
  ·rw[List.drop_of_length_le (by omega)];unfold yB;rfl
theorem x9 {a b c:World}{row aa:Option Nat}(h:a.grownBy b row)(hk:b.grownBy c aa)(hn:∀k,aa=some k->a.heap.size<=k):a.grownBy c row:=by
 cases aa with
 | none=>exact zA h (zk hk _)
 | some k=>exact zY h hk (hn k rfl)
def zi (l:List (List UInt8×Int)):List Value:=(l.map fun t=>[Value.string (R.str t.1),.int .i64 t.2]).flatten
theorem ji (l:List (List UInt8×Int))(t:List UInt8×Int):zi (l++[t])=zi l++[Value.string (R.str t.1),.int .i64 t.2]:=by simp[zi]
def zo (ts : List R.Tok) (st : R.St) (i : Nat) (acc : List (List UInt8 × Int)) : R.St × List (List UInt8 × Int) :=
  (R.notS (R.notS (R.notS (R.kindS ts (R.kindS ts st 34) 49) (decide ((i : Int) < 4)) 3 (R.cur ts st).at_) (R.upstream (R.cur ts st).s) 4 (R.cur ts st).at_) (decide (R.num (R.cur ts (R.kindS ts st 34)).s ≤ 1000)) 4 (R.cur ts (R.kindS ts st 34)).at_,
   if 0 < R.num (R.cur ts (R.kindS ts st 34)).s then acc ++ [((R.cur ts st).s, R.num (R.cur ts (R.kindS ts st 34)).s)] else acc)
def R.tgLoop (ts:List R.Tok):Nat->R.St->Nat->List (List UInt8×Int)->List (List UInt8×Int)×R.St
 | 0,st,_,acc=>(acc,st)
 | n+1,st,i,acc=>
  if st.bad<0 then
   if R.isB (zo ts st i acc).1 (R.cur ts (zo ts st i acc).1) [44] then R.tgLoop ts n (R.needS ts (zo ts st i acc).1 [44]) (i+1) (zo ts st i acc).2
   else ((zo ts st i acc).2,(zo ts st i acc).1)
  else (acc,st)
def R.targetsS (ts : List R.Tok) (st : R.St) : List (List UInt8 × Int) × R.St :=
  ((R.tgLoop ts (ts.length + 1) (R.notS (R.needS ts st [116, 111]) (decide (0 < yB (ts.drop (R.needS ts st [116, 111]).K))) 4 (R.cur ts st).at_) 0 []).1,
   R.needS ts (R.tgLoop ts (ts.length + 1) (R.notS (R.needS ts st [116, 111]) (decide (0 < yB (ts.drop (R.needS ts st [116, 111]).K))) 4 (R.cur ts st).at_) 0 []).2 [59])
theorem v7 (t:R.Tok)(st:R.St)(ok:Bool):st.K<=(R.overS t st ok).K:=by
 unfold R.overS;split
 ·exact zZ _
 ·split <;> simp
theorem R.notS_K (st:R.St)(ok:Bool)(e a:Int):(R.notS st ok e a).K=st.K:=by
 unfold R.notS;split <;> rfl
theorem uR (ts:List R.Tok)(st:R.St)(i:Nat)(aa:List (List UInt8×Int)):st.K<=(zo ts st i aa).1.K:=by
 unfold zo
 simp only[R.notS_K]
 exact zp (v7 _ _ _) (v7 _ _ _)
theorem R.needS_yes {ts:List R.Tok}{st:R.St}{s:List UInt8}(h:R.isB st (R.cur ts st) s=true):R.needS ts st s={ st with K:=st.K+1 }:=by
 unfold R.needS R.overS
 have hb:st.bad<0:=by unfold R.isB at h;simp at h;exact h.1
 rw[if_neg (by omega),if_pos h]
end Go.Proofs.YtfocdefchbnkpaaGreatDoor
