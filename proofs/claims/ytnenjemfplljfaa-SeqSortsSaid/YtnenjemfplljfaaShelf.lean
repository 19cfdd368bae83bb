/-
  DERIVED: THE SHELF's CONTRACTS AT THIS DUMP, IN PLAIN WORDS (tools/lay-plain.mjs out of 'LayTmpYtnenjemfplljfaa.lean', which tools/lay-shelf.mjs wrote): THE SAME DECLARATIONS UNDER THE SAME NAMES: 'import', 'namespace', 'open', 'def', 'theorem' AND NOTHING ELSE: no command of the shelf's: FOR A HAND-IN. Each laying: the table of numbers ('.._ren') and one theorem, a field a fact of the dump's own or the kernel's comparison; each contract: ONE APPLICATION.
-/
import Derived.Shelf.Sort.Plain
import Derived.Ground.NamesProg
import Derived.Test.YtnenjemfplljfaaProg
namespace Go.Proofs
open Go.Shelf
def Try.lays189_ren : Go.Shelf.Ren := ⟨fun | 189 => 14 | 125 => 16 | 257 => 15 | 128 => 26 | 129 => 27 | 294 => 17 | 295 => 18 | 296 => 19 | 297 => 20 | 298 => 21 | 299 => 22 | 216 => 23 | 300 => 24 | 301 => 25 | 328 => 28 | 329 => 29 | 330 => 30 | 331 => 31 | 332 => 32 | 215 => 33 | 343 => 34 | n => n, fun | 28 => 26 | 3 => 3 | 46 => 34 | 0 => 0 | 51 => 44 | 53 => 46 | 4 => 4 | 183 => 37 | 182 => 36 | 131 => 41 | 5 => 5 | 9 => 9 | 218 => 47 | 222 => 51 | 228 => 54 | 229 => 55 | n => n, fun | n => n⟩
theorem Try.lays189 : Go.Proofs.Lays.n189 Try.prog Try.lays189_ren := {
  mixed := by kernel_rfl
  f125 := Try.func16.trans (congrArg some (by kernel_rfl))
  f128 := Try.func26.trans (congrArg some (by kernel_rfl))
  f129 := Try.func27.trans (congrArg some (by kernel_rfl))
  f189 := Try.func14.trans (congrArg some (by kernel_rfl))
  f215 := Try.func33.trans (congrArg some (by kernel_rfl))
  f216 := Try.func23.trans (congrArg some (by kernel_rfl))
  f257 := Try.func15.trans (congrArg some (by kernel_rfl))
  f294 := Try.func17.trans (congrArg some (by kernel_rfl))
  f295 := Try.func18.trans (congrArg some (by kernel_rfl))
  f296 := Try.func19.trans (congrArg some (by kernel_rfl))
  f297 := Try.func20.trans (congrArg some (by kernel_rfl))
  f298 := Try.func21.trans (congrArg some (by kernel_rfl))
  f299 := Try.func22.trans (congrArg some (by kernel_rfl))
  f300 := Try.func24.trans (congrArg some (by kernel_rfl))
  f301 := Try.func25.trans (congrArg some (by kernel_rfl))
  f328 := Try.func28.trans (congrArg some (by kernel_rfl))
  f329 := Try.func29.trans (congrArg some (by kernel_rfl))
  f330 := Try.func30.trans (congrArg some (by kernel_rfl))
  f331 := Try.func31.trans (congrArg some (by kernel_rfl))
  f332 := Try.func32.trans (congrArg some (by kernel_rfl))
  f343 := Try.func34.trans (congrArg some (by kernel_rfl))
  t0 := Try.underlying0
  a0 := Try.isAgg0
  z0 := Try.sizeOf0
  v0 := Try.zeroValue0
  t3 := Try.underlying3
  a3 := Try.isAgg3
  z3 := Try.sizeOf3
  v3 := Try.zeroValue3
  t4 := Try.underlying4
  a4 := Try.isAgg4
  z4 := Try.sizeOf4
  v4 := Try.zeroValue4
  t5 := Try.underlying5
  a5 := Try.isAgg5
  z5 := Try.sizeOf5
  v5 := Try.zeroValue5
  t9 := Try.underlying9
  a9 := Try.isAgg9
  z9 := Try.sizeOf9
  v9 := Try.zeroValue9
  t28 := Try.underlying26
  a28 := Try.isAgg26
  z28 := Try.sizeOf26
  v28 := Try.zeroValue26
  t46 := Try.underlying34
  a46 := Try.isAgg34
  z46 := Try.sizeOf34
  v46 := Try.zeroValue34
  t51 := Try.underlying44
  a51 := Try.isAgg44
  z51 := Try.sizeOf44
  v51 := Try.zeroValue44
  t53 := Try.underlying46
  a53 := Try.isAgg46
  z53 := Try.sizeOf46
  v53 := Try.zeroValue46
  t131 := Try.underlying41
  a131 := Try.isAgg41
  z131 := Try.sizeOf41
  v131 := Try.zeroValue41
  t182 := Try.underlying36
  a182 := Try.isAgg36
  z182 := Try.sizeOf36
  v182 := Try.zeroValue36
  t183 := Try.underlying37
  a183 := Try.isAgg37
  z183 := Try.sizeOf37
  v183 := Try.zeroValue37
  t218 := Try.underlying47
  a218 := Try.isAgg47
  z218 := Try.sizeOf47
  v218 := Try.zeroValue47
  t222 := Try.underlying51
  a222 := Try.isAgg51
  z222 := Try.sizeOf51
  v222 := Try.zeroValue51
  t228 := Try.underlying54
  a228 := Try.isAgg54
  z228 := Try.sizeOf54
  v228 := Try.zeroValue54
  t229 := Try.underlying55
  a229 := Try.isAgg55
  z229 := Try.sizeOf55
  v229 := Try.zeroValue55 }
end Go.Proofs
