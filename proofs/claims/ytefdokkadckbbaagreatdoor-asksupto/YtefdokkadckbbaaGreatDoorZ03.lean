/- Shelf -/
import Derived.Shelf.Strings.OnBuilder
import Derived.Shelf.Strings.Split
import Derived.Test.YtefdokkadckbbaaGreatDoorProg
namespace Go.Proofs
open Go.Shelf
def Tryz.lays156_ren : Go.Shelf.Ren := ⟨fun | 156 => 239 | 165 => 281 | 166 => 282 | 169 => 283 | 240 => 307 | 241 => 308 | 276 => 316 | 277 => 317 | n => n, fun | 31 => 42 | 9 => 9 | 3 => 3 | 4 => 4 | 0 => 0 | 20 => 20 | 72 => 389 | 76 => 392 | 70 => 387 | 37 => 336 | 75 => 391 | 127 => 413 | 164 => 306 | 5 => 5 | 80 => 237 | n => n, fun | n => n⟩
theorem Tryz.lays156 : Go.Proofs.Lays.n156 Tryz.prog Tryz.lays156_ren := {
 mixed := by kernel_rfl
 f156 := Tryz.func239.trans (congrArg some (by kernel_rfl))
 f165 := Tryz.func281.trans (congrArg some (by kernel_rfl))
 f166 := Tryz.func282.trans (congrArg some (by kernel_rfl))
 f169 := Tryz.func283.trans (congrArg some (by kernel_rfl))
 f240 := Tryz.func307.trans (congrArg some (by kernel_rfl))
 f241 := Tryz.func308.trans (congrArg some (by kernel_rfl))
 f276 := Tryz.func316.trans (congrArg some (by kernel_rfl))
 f277 := Tryz.func317.trans (congrArg some (by kernel_rfl))
 t0 := Tryz.underlying0
 a0 := Tryz.isAgg0
 z0 := Tryz.sizeOf0
 v0 := Tryz.zeroValue0
 t3 := Tryz.underlying3
 a3 := Tryz.isAgg3
 z3 := Tryz.sizeOf3
 v3 := Tryz.zeroValue3
 t4 := Tryz.underlying4
 a4 := Tryz.isAgg4
 z4 := Tryz.sizeOf4
 v4 := Tryz.zeroValue4
 t9 := Tryz.underlying9
 a9 := Tryz.isAgg9
 z9 := Tryz.sizeOf9
 v9 := Tryz.zeroValue9
 t20 := Tryz.underlying20
 a20 := Tryz.isAgg20
 z20 := Tryz.sizeOf20
 v20 := Tryz.zeroValue20
 t31 := Tryz.underlying42
 a31 := Tryz.isAgg42
 z31 := Tryz.sizeOf42
 v31 := Tryz.zeroValue42
 t37 := Tryz.underlying336
 a37 := Tryz.isAgg336
 z37 := Tryz.sizeOf336
 v37 := Tryz.zeroValue336
 t70 := Tryz.underlying387
 a70 := Tryz.isAgg387
 z70 := Tryz.sizeOf387
 v70 := Tryz.zeroValue387
 t72 := Tryz.underlying389
 a72 := Tryz.isAgg389
 z72 := Tryz.sizeOf389
 v72 := Tryz.zeroValue389
 t75 := Tryz.underlying391
 a75 := Tryz.isAgg391
 z75 := Tryz.sizeOf391
 v75 := Tryz.zeroValue391
 t76 := Tryz.underlying392
 a76 := Tryz.isAgg392
 z76 := Tryz.sizeOf392
 v76 := Tryz.zeroValue392
 t127 := Tryz.underlying413
 a127 := Tryz.isAgg413
 z127 := Tryz.sizeOf413
 v127 := Tryz.zeroValue413
 t164 := Tryz.underlying306
 a164 := Tryz.isAgg306
 z164 := Tryz.sizeOf306
 v164 := Tryz.zeroValue306 }
theorem Tryz.Builder_Extra_156 : Builder.Extra Tryz.prog Tryz.lays156_ren := {
 sizeBuilder := by kernel_rfl
 liesBuilder := by kernel_rfl
 t5 := Tryz.underlying5
 a5 := Tryz.isAgg5
 z5 := Tryz.sizeOf5
 v5 := Tryz.zeroValue5
 infoByte := by kernel_rfl
 cellsByte := by kernel_rfl
 sizeByte := by kernel_rfl
 neB5 := by decide }
open Go.RowKit in
theorem Tryz.strings_Join_none (a : Option Addr) (c : Nat) (sep : ByteArray) (w : World) :
  Calls Tryz.prog 239 #[.slice a 0 c, .string sep] w fun e w' => e = .returned (.string ⟨#[]⟩) ∧ w' = w := Any.strings_Join_none Tryz.lays156 Tryz.Builder_Extra_156 a c sep w
open Go.RowKit in
theorem Tryz.strings_Join (bk o c : Nat) (xs : List ByteArray) (sep : ByteArray) (w : World) (hcells : ∀ (j : Nat) x, xs[j]? = some x → w.cell? ⟨bk, o + j, none⟩ = some (.string x)) (hbk : bk < w.heap.size) (hN : xs.length ≤ 140737488355328) (hcap : xs.length ≤ c) (hlen : (Lib.join (xs.map (·.data.toList)) sep.data.toList).length ≤ 140737488355328) :
  Calls Tryz.prog 239 #[.slice (some ⟨bk, o, none⟩) xs.length c, .string sep] w fun e w' => e = .returned (.string ⟨(Lib.join (xs.map (·.data.toList)) sep.data.toList).toArray⟩) ∧ Below w.heap.size w w' := Any.strings_Join Tryz.lays156 Tryz.Builder_Extra_156 bk o c xs sep w hcells hbk hN hcap hlen
def Tryz.lays146_ren : Go.Shelf.Ren := ⟨fun | 146 => 240 | 221 => 284 | 268 => 309 | 138 => 310 | 143 => 311 | 195 => 318 | 197 => 319 | 218 => 320 | 219 => 321 | 260 => 322 | 217 => 323 | 225 => 324 | 224 => 325 | 267 => 326 | 266 => 327 | 314 => 328 | n => n, fun | 9 => 9 | 31 => 42 | 3 => 3 | 4 => 4 | 0 => 0 | 105 => 420 | 21 => 21 | 5 => 5 | 46 => 239 | 119 => 423 | 139 => 426 | 138 => 425 | 146 => 427 | 51 => 252 | n => n, fun | 1 => 0 | 3 => 1 | 4 => 2 | n => n⟩
theorem Tryz.lays146 : Go.Proofs.Lays.n146 Tryz.prog Tryz.lays146_ren := {
 mixed := by kernel_rfl
 f138 := Tryz.func310.trans (congrArg some (by kernel_rfl))
 f143 := Tryz.func311.trans (congrArg some (by kernel_rfl))
 f146 := Tryz.func240.trans (congrArg some (by kernel_rfl))
 f195 := Tryz.func318.trans (congrArg some (by kernel_rfl))
 f197 := Tryz.func319.trans (congrArg some (by kernel_rfl))
 f217 := Tryz.func323.trans (congrArg some (by kernel_rfl))
 f218 := Tryz.func320.trans (congrArg some (by kernel_rfl))
 f219 := Tryz.func321.trans (congrArg some (by kernel_rfl))
 f221 := Tryz.func284.trans (congrArg some (by kernel_rfl))
 f224 := Tryz.func325.trans (congrArg some (by kernel_rfl))
 f225 := Tryz.func324.trans (congrArg some (by kernel_rfl))
 f260 := Tryz.func322.trans (congrArg some (by kernel_rfl))
 f266 := Tryz.func327.trans (congrArg some (by kernel_rfl))
 f267 := Tryz.func326.trans (congrArg some (by kernel_rfl))
 f268 := Tryz.func309.trans (congrArg some (by kernel_rfl))
 f314 := Tryz.func328.trans (congrArg some (by kernel_rfl))
 t0 := Tryz.underlying0
 a0 := Tryz.isAgg0
 z0 := Tryz.sizeOf0
 v0 := Tryz.zeroValue0
 t3 := Tryz.underlying3
 a3 := Tryz.isAgg3
 z3 := Tryz.sizeOf3
 v3 := Tryz.zeroValue3
 t4 := Tryz.underlying4
 a4 := Tryz.isAgg4
 z4 := Tryz.sizeOf4
 v4 := Tryz.zeroValue4
 t5 := Tryz.underlying5
 a5 := Tryz.isAgg5
 z5 := Tryz.sizeOf5
 v5 := Tryz.zeroValue5
 t9 := Tryz.underlying9
 a9 := Tryz.isAgg9
 z9 := Tryz.sizeOf9
 v9 := Tryz.zeroValue9
 t21 := Tryz.underlying21
 a21 := Tryz.isAgg21
 z21 := Tryz.sizeOf21
 v21 := Tryz.zeroValue21
 t31 := Tryz.underlying42
 a31 := Tryz.isAgg42
 z31 := Tryz.sizeOf42
 v31 := Tryz.zeroValue42
 t46 := Tryz.underlying239
 a46 := Tryz.isAgg239
 z46 := Tryz.sizeOf239
 v46 := Tryz.zeroValue239
 t51 := Tryz.underlying252
 a51 := Tryz.isAgg252
 z51 := Tryz.sizeOf252
 v51 := Tryz.zeroValue252
 t105 := Tryz.underlying420
 a105 := Tryz.isAgg420
 z105 := Tryz.sizeOf420
 v105 := Tryz.zeroValue420
 t119 := Tryz.underlying423
 a119 := Tryz.isAgg423
 z119 := Tryz.sizeOf423
 t138 := Tryz.underlying425
 a138 := Tryz.isAgg425
 z138 := Tryz.sizeOf425
 v138 := Tryz.zeroValue425
 t139 := Tryz.underlying426
 a139 := Tryz.isAgg426
 z139 := Tryz.sizeOf426
 v139 := Tryz.zeroValue426
 t146 := Tryz.underlying427
 a146 := Tryz.isAgg427
 z146 := Tryz.sizeOf427
 v146 := Tryz.zeroValue427
 g1 := by kernel_rfl
 g3 := by kernel_rfl
 g4 := by kernel_rfl }
open Go.RowKit Go.Lib in
theorem Tryz.strings_Split (s sep : ByteArray) (m : Int) (w : World) (hs : s.size < 4294967281) (hm : w.cell? ⟨0, 0, none⟩ = some (.int .i64 m)) (h1 : 1 ≤ sep.size) :
  Calls Tryz.prog 240 #[.string s, .string sep] w fun e w' =>
   e = .returned (.slice (some ⟨w.heap.size, 0, none⟩) (Lib.countB s sep + 1) (Lib.countB s sep + 1)) ∧ w' = w.alloc (.cells ((Lib.splitB sep 0 (Lib.countB s sep) s).map Value.string).toArray 9) := Any.strings_Split Tryz.lays146 (by kernel_rfl) s sep m w hs hm h1
end Go.Proofs
