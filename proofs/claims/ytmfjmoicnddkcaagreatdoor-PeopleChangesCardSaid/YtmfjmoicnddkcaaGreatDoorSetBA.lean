/- The library's contracts on sorts and sets that the proofs use, laid at this program: numbers of functions, types and variables, and the facts that they are those. slices.Sorted of the keys of a set of ints: these, each once, in ascending order. Conditions: at most 1000 entries. slices.Sorted of the keys of a set of strings: these, each once, in ascending order. Conditions: at most 1000 entries. -/
import Derived.Shelf.SlGeneric
import Derived.Shelf.SlIterI.Nil
import Derived.Shelf.SlIter.Nil
import Derived.Shelf.SortM.Plain
import Derived.Shelf.SortM.SortNone
import Derived.Ground.GgzProg
import Derived.Ground.SlgmProg
import Derived.Test.YtmfjmoicnddkcaaGreatDoorProg
import Derived.Test.YtmfjmoicnddkcaaGreatDoorOnA
import Derived.Test.YtmfjmoicnddkcaaGreatDoorIntA
import Derived.Test.YtmfjmoicnddkcaaGreatDoorReaderA
namespace Go.Proofs
open Go.Shelf
def YtmfjmoicnddkcaaGreatDoor.laysKeysI_ren : Go.Shelf.Ren := ⟨fun | 7 => 47 | 10 => 74 | n => n, fun | 23 => 67 | 26 => 3 | 3 => 4 | 28 => 73 | 0 => 0 | 27 => 72 | 33 => 66 | 4 => 4 | n => n, fun | n => n⟩
theorem YtmfjmoicnddkcaaGreatDoor.laysKeysI : Go.Proofs.SlLaysZI.n7 Tryz.prog YtmfjmoicnddkcaaGreatDoor.laysKeysI_ren := {
  mixed := by kernel_rfl
  f7 := ⟨Tryz.f47.name, by decide, Tryz.func47.trans (congrArg some (by kernel_rfl))⟩
  f10 := ⟨Tryz.f74.name, by decide, Tryz.func74.trans (congrArg some (by kernel_rfl))⟩
  t0 := Tryz.underlying0
  a0 := Tryz.isAgg0
  z0 := Tryz.sizeOf0
  v0 := Tryz.zeroValue0
  t4 := Tryz.underlying4
  a4 := Tryz.isAgg4
  z4 := Tryz.sizeOf4
  v4 := Tryz.zeroValue4
  t23 := Tryz.underlying67
  a23 := Tryz.isAgg67
  z23 := Tryz.sizeOf67
  v23 := Tryz.zeroValue67
  t26 := Tryz.underlying3
  a26 := Tryz.isAgg3
  z26 := Tryz.sizeOf3
  v26 := Tryz.zeroValue3
  t27 := Tryz.underlying72
  a27 := Tryz.isAgg72
  z27 := Tryz.sizeOf72
  v27 := Tryz.zeroValue72
  t28 := Tryz.underlying73
  a28 := Tryz.isAgg73
  z28 := Tryz.sizeOf73
  v28 := Tryz.zeroValue73
  t33 := Tryz.underlying66
  a33 := Tryz.isAgg66
  z33 := Tryz.sizeOf66
  v33 := Tryz.zeroValue66 }
def YtmfjmoicnddkcaaGreatDoor.laysSortedI_ren : Go.Shelf.Ren := ⟨fun | 6 => 46 | 8 => 72 | 9 => 73 | 11 => 93 | 13 => 95 | 12 => 94 | 23 => 125 | 24 => 126 | 14 => 116 | 15 => 117 | 16 => 118 | 17 => 119 | 18 => 120 | 19 => 121 | 20 => 122 | 21 => 123 | 22 => 124 | 25 => 148 | 26 => 149 | 27 => 150 | 28 => 151 | 29 => 152 | 30 => 153 | 31 => 178 | n => n, fun | 26 => 3 | 28 => 73 | 24 => 30 | 0 => 0 | 3 => 3 | 37 => 133 | 48 => 169 | 50 => 171 | 4 => 4 | 40 => 162 | 39 => 161 | 45 => 44 | 5 => 5 | 9 => 9 | 51 => 190 | 55 => 147 | 57 => 213 | 58 => 214 | 33 => 66 | n => n, fun | n => n⟩
theorem YtmfjmoicnddkcaaGreatDoor.laysSortedI : Go.Proofs.SlLaysZI.n6 Tryz.prog YtmfjmoicnddkcaaGreatDoor.laysSortedI_ren := {
  mixed := by kernel_rfl
  f6 := ⟨Tryz.f46.name, by decide, Tryz.func46.trans (congrArg some (by kernel_rfl))⟩
  f8 := ⟨Tryz.f72.name, by decide, Tryz.func72.trans (congrArg some (by kernel_rfl))⟩
  f11 := ⟨Tryz.f93.name, by decide, Tryz.func93.trans (congrArg some (by kernel_rfl))⟩
  t0 := Tryz.underlying0
  a0 := Tryz.isAgg0
  z0 := Tryz.sizeOf0
  v0 := Tryz.zeroValue0
  t24 := Tryz.underlying30
  a24 := Tryz.isAgg30
  z24 := Tryz.sizeOf30
  v24 := Tryz.zeroValue30
  t26 := Tryz.underlying3
  a26 := Tryz.isAgg3
  z26 := Tryz.sizeOf3
  v26 := Tryz.zeroValue3
  t28 := Tryz.underlying73
  a28 := Tryz.isAgg73
  z28 := Tryz.sizeOf73
  v28 := Tryz.zeroValue73
  i26 := by kernel_rfl }
def YtmfjmoicnddkcaaGreatDoor.laysSortI_ren : Go.Shelf.Ren := ⟨fun | 5 => 73 | 8 => 95 | 7 => 94 | 19 => 125 | 20 => 126 | 10 => 116 | 11 => 117 | 12 => 118 | 13 => 119 | 14 => 120 | 15 => 121 | 16 => 122 | 17 => 123 | 18 => 124 | 30 => 148 | 31 => 149 | 32 => 150 | 33 => 151 | 34 => 152 | 35 => 153 | 40 => 178 | n => n, fun | 23 => 30 | 25 => 3 | 3 => 3 | 32 => 133 | 22 => 30 | 0 => 0 | 44 => 169 | 46 => 171 | 4 => 4 | 36 => 162 | 35 => 161 | 41 => 44 | 5 => 5 | 9 => 9 | 53 => 190 | 57 => 147 | 63 => 213 | 64 => 214 | n => n, fun | n => n⟩
theorem YtmfjmoicnddkcaaGreatDoor.laysSortI : Go.Proofs.SlLaysM.n5 Tryz.prog YtmfjmoicnddkcaaGreatDoor.laysSortI_ren := {
  mixed := by kernel_rfl
  f5 := ⟨Tryz.f73.name, by decide, Tryz.func73.trans (congrArg some (by kernel_rfl))⟩
  f7 := ⟨Tryz.f94.name, by decide, Tryz.func94.trans (congrArg some (by kernel_rfl))⟩
  f8 := Tryz.func95.trans (congrArg some (by kernel_rfl))
  f10 := ⟨Tryz.f116.name, by decide, Tryz.func116.trans (congrArg some (by kernel_rfl))⟩
  f11 := ⟨Tryz.f117.name, by decide, Tryz.func117.trans (congrArg some (by kernel_rfl))⟩
  f12 := ⟨Tryz.f118.name, by decide, Tryz.func118.trans (congrArg some (by kernel_rfl))⟩
  f13 := ⟨Tryz.f119.name, by decide, Tryz.func119.trans (congrArg some (by kernel_rfl))⟩
  f14 := ⟨Tryz.f120.name, by decide, Tryz.func120.trans (congrArg some (by kernel_rfl))⟩
  f15 := ⟨Tryz.f121.name, by decide, Tryz.func121.trans (congrArg some (by kernel_rfl))⟩
  f16 := ⟨Tryz.f122.name, by decide, Tryz.func122.trans (congrArg some (by kernel_rfl))⟩
  f17 := ⟨Tryz.f123.name, by decide, Tryz.func123.trans (congrArg some (by kernel_rfl))⟩
  f18 := ⟨Tryz.f124.name, by decide, Tryz.func124.trans (congrArg some (by kernel_rfl))⟩
  f19 := Tryz.func125.trans (congrArg some (by kernel_rfl))
  f20 := Tryz.func126.trans (congrArg some (by kernel_rfl))
  f30 := ⟨Tryz.f148.name, by decide, Tryz.func148.trans (congrArg some (by kernel_rfl))⟩
  f31 := Tryz.func149.trans (congrArg some (by kernel_rfl))
  f32 := Tryz.func150.trans (congrArg some (by kernel_rfl))
  f33 := ⟨Tryz.f151.name, by decide, Tryz.func151.trans (congrArg some (by kernel_rfl))⟩
  f34 := ⟨Tryz.f152.name, by decide, Tryz.func152.trans (congrArg some (by kernel_rfl))⟩
  f35 := ⟨Tryz.f153.name, by decide, Tryz.func153.trans (congrArg some (by kernel_rfl))⟩
  f40 := ⟨Tryz.f178.name, by decide, Tryz.func178.trans (congrArg some (by kernel_rfl))⟩
  t0 := Tryz.underlying0
  a0 := Tryz.isAgg0
  z0 := Tryz.sizeOf0
  v0 := Tryz.zeroValue0
  t3 := Tryz.underlying3
  a3 := Tryz.isAgg3
  z3 := Tryz.sizeOf3
  v3 := Tryz.zeroValue3
  t4 := Tryz.underlying4
  a4 := Tryz.isAgg4
  z4 := Tryz.sizeOf4
  v4 := Tryz.zeroValue4
  t5 := Tryz.underlying5
  a5 := Tryz.isAgg5
  z5 := Tryz.sizeOf5
  v5 := Tryz.zeroValue5
  t9 := Tryz.underlying9
  a9 := Tryz.isAgg9
  z9 := Tryz.sizeOf9
  v9 := Tryz.zeroValue9
  t22 := Tryz.underlying30
  a22 := Tryz.isAgg30
  z22 := Tryz.sizeOf30
  v22 := Tryz.zeroValue30
  t23 := Tryz.underlying30
  a23 := Tryz.isAgg30
  z23 := Tryz.sizeOf30
  v23 := Tryz.zeroValue30
  t25 := Tryz.underlying3
  a25 := Tryz.isAgg3
  z25 := Tryz.sizeOf3
  v25 := Tryz.zeroValue3
  t32 := Tryz.underlying133
  a32 := Tryz.isAgg133
  z32 := Tryz.sizeOf133
  v32 := Tryz.zeroValue133
  t35 := Tryz.underlying161
  a35 := Tryz.isAgg161
  z35 := Tryz.sizeOf161
  v35 := Tryz.zeroValue161
  t36 := Tryz.underlying162
  a36 := Tryz.isAgg162
  z36 := Tryz.sizeOf162
  v36 := Tryz.zeroValue162
  t41 := Tryz.underlying44
  a41 := Tryz.isAgg44
  z41 := Tryz.sizeOf44
  v41 := Tryz.zeroValue44
  t44 := Tryz.underlying169
  a44 := Tryz.isAgg169
  z44 := Tryz.sizeOf169
  v44 := Tryz.zeroValue169
  t46 := Tryz.underlying171
  a46 := Tryz.isAgg171
  z46 := Tryz.sizeOf171
  v46 := Tryz.zeroValue171
  t53 := Tryz.underlying190
  a53 := Tryz.isAgg190
  z53 := Tryz.sizeOf190
  v53 := Tryz.zeroValue190
  t57 := Tryz.underlying147
  a57 := Tryz.isAgg147
  z57 := Tryz.sizeOf147
  v57 := Tryz.zeroValue147
  t63 := Tryz.underlying213
  a63 := Tryz.isAgg213
  z63 := Tryz.sizeOf213
  v63 := Tryz.zeroValue213
  t64 := Tryz.underlying214
  a64 := Tryz.isAgg214
  z64 := Tryz.sizeOf214
  v64 := Tryz.zeroValue214 }
def YtmfjmoicnddkcaaGreatDoor.laysKeysS_ren : Go.Shelf.Ren := ⟨fun | 7 => 76 | 10 => 98 | n => n, fun | 23 => 100 | 26 => 9 | 3 => 4 | 28 => 103 | 0 => 0 | 27 => 102 | 33 => 135 | 4 => 4 | n => n, fun | n => n⟩
theorem YtmfjmoicnddkcaaGreatDoor.laysKeysS : Go.Proofs.SlLaysZ.n7 Tryz.prog YtmfjmoicnddkcaaGreatDoor.laysKeysS_ren := {
  mixed := by kernel_rfl
  f7 := ⟨Tryz.f76.name, by decide, Tryz.func76.trans (congrArg some (by kernel_rfl))⟩
  f10 := ⟨Tryz.f98.name, by decide, Tryz.func98.trans (congrArg some (by kernel_rfl))⟩
  t0 := Tryz.underlying0
  a0 := Tryz.isAgg0
  z0 := Tryz.sizeOf0
  v0 := Tryz.zeroValue0
  t4 := Tryz.underlying4
  a4 := Tryz.isAgg4
  z4 := Tryz.sizeOf4
  v4 := Tryz.zeroValue4
  t23 := Tryz.underlying100
  a23 := Tryz.isAgg100
  z23 := Tryz.sizeOf100
  v23 := Tryz.zeroValue100
  t26 := Tryz.underlying9
  a26 := Tryz.isAgg9
  z26 := Tryz.sizeOf9
  v26 := Tryz.zeroValue9
  t27 := Tryz.underlying102
  a27 := Tryz.isAgg102
  z27 := Tryz.sizeOf102
  v27 := Tryz.zeroValue102
  t28 := Tryz.underlying103
  a28 := Tryz.isAgg103
  z28 := Tryz.sizeOf103
  v28 := Tryz.zeroValue103
  t33 := Tryz.underlying135
  a33 := Tryz.isAgg135
  z33 := Tryz.sizeOf135
  v33 := Tryz.zeroValue135 }
def YtmfjmoicnddkcaaGreatDoor.laysSortedS_ren : Go.Shelf.Ren := ⟨fun | 6 => 75 | 8 => 96 | 9 => 97 | 11 => 127 | 13 => 95 | 12 => 128 | 23 => 125 | 24 => 126 | 14 => 154 | 15 => 155 | 16 => 156 | 17 => 157 | 18 => 158 | 19 => 159 | 20 => 160 | 21 => 161 | 22 => 162 | 25 => 179 | 26 => 149 | 27 => 150 | 28 => 180 | 29 => 181 | 30 => 182 | 31 => 203 | n => n, fun | 26 => 9 | 28 => 103 | 24 => 33 | 0 => 0 | 3 => 3 | 37 => 133 | 48 => 169 | 50 => 171 | 4 => 4 | 40 => 162 | 39 => 161 | 45 => 44 | 5 => 5 | 9 => 9 | 51 => 190 | 55 => 147 | 57 => 213 | 58 => 214 | 33 => 135 | n => n, fun | n => n⟩
theorem YtmfjmoicnddkcaaGreatDoor.laysSortedS : Go.Proofs.SlLaysZ.n6 Tryz.prog YtmfjmoicnddkcaaGreatDoor.laysSortedS_ren := {
  mixed := by kernel_rfl
  f6 := ⟨Tryz.f75.name, by decide, Tryz.func75.trans (congrArg some (by kernel_rfl))⟩
  f8 := ⟨Tryz.f96.name, by decide, Tryz.func96.trans (congrArg some (by kernel_rfl))⟩
  f11 := ⟨Tryz.f127.name, by decide, Tryz.func127.trans (congrArg some (by kernel_rfl))⟩
  t0 := Tryz.underlying0
  a0 := Tryz.isAgg0
  z0 := Tryz.sizeOf0
  v0 := Tryz.zeroValue0
  t24 := Tryz.underlying33
  a24 := Tryz.isAgg33
  z24 := Tryz.sizeOf33
  v24 := Tryz.zeroValue33
  t26 := Tryz.underlying9
  a26 := Tryz.isAgg9
  z26 := Tryz.sizeOf9
  v26 := Tryz.zeroValue9
  t28 := Tryz.underlying103
  a28 := Tryz.isAgg103
  z28 := Tryz.sizeOf103
  v28 := Tryz.zeroValue103
  i26 := by kernel_rfl }
def YtmfjmoicnddkcaaGreatDoor.laysSortS_ren : Go.Shelf.Ren := ⟨fun | 6 => 97 | 8 => 95 | 9 => 128 | 19 => 125 | 20 => 126 | 21 => 154 | 22 => 155 | 23 => 156 | 24 => 157 | 25 => 158 | 26 => 159 | 27 => 160 | 28 => 161 | 29 => 162 | 36 => 179 | 31 => 149 | 32 => 150 | 37 => 180 | 38 => 181 | 39 => 182 | 41 => 203 | n => n, fun | 27 => 33 | 29 => 9 | 3 => 3 | 32 => 133 | 26 => 33 | 0 => 0 | 44 => 169 | 46 => 171 | 4 => 4 | 36 => 162 | 35 => 161 | 41 => 44 | 5 => 5 | 9 => 9 | 53 => 190 | 57 => 147 | 63 => 213 | 64 => 214 | n => n, fun | n => n⟩
theorem YtmfjmoicnddkcaaGreatDoor.laysSortS : Go.Proofs.SlLaysM.n6 Tryz.prog YtmfjmoicnddkcaaGreatDoor.laysSortS_ren := {
  mixed := by kernel_rfl
  f6 := ⟨Tryz.f97.name, by decide, Tryz.func97.trans (congrArg some (by kernel_rfl))⟩
  f8 := Tryz.func95.trans (congrArg some (by kernel_rfl))
  f9 := ⟨Tryz.f128.name, by decide, Tryz.func128.trans (congrArg some (by kernel_rfl))⟩
  f19 := Tryz.func125.trans (congrArg some (by kernel_rfl))
  f20 := Tryz.func126.trans (congrArg some (by kernel_rfl))
  f21 := ⟨Tryz.f154.name, by decide, Tryz.func154.trans (congrArg some (by kernel_rfl))⟩
  f22 := ⟨Tryz.f155.name, by decide, Tryz.func155.trans (congrArg some (by kernel_rfl))⟩
  f23 := ⟨Tryz.f156.name, by decide, Tryz.func156.trans (congrArg some (by kernel_rfl))⟩
  f24 := ⟨Tryz.f157.name, by decide, Tryz.func157.trans (congrArg some (by kernel_rfl))⟩
  f25 := ⟨Tryz.f158.name, by decide, Tryz.func158.trans (congrArg some (by kernel_rfl))⟩
  f26 := ⟨Tryz.f159.name, by decide, Tryz.func159.trans (congrArg some (by kernel_rfl))⟩
  f27 := ⟨Tryz.f160.name, by decide, Tryz.func160.trans (congrArg some (by kernel_rfl))⟩
  f28 := ⟨Tryz.f161.name, by decide, Tryz.func161.trans (congrArg some (by kernel_rfl))⟩
  f29 := ⟨Tryz.f162.name, by decide, Tryz.func162.trans (congrArg some (by kernel_rfl))⟩
  f31 := Tryz.func149.trans (congrArg some (by kernel_rfl))
  f32 := Tryz.func150.trans (congrArg some (by kernel_rfl))
  f36 := ⟨Tryz.f179.name, by decide, Tryz.func179.trans (congrArg some (by kernel_rfl))⟩
  f37 := ⟨Tryz.f180.name, by decide, Tryz.func180.trans (congrArg some (by kernel_rfl))⟩
  f38 := ⟨Tryz.f181.name, by decide, Tryz.func181.trans (congrArg some (by kernel_rfl))⟩
  f39 := ⟨Tryz.f182.name, by decide, Tryz.func182.trans (congrArg some (by kernel_rfl))⟩
  f41 := ⟨Tryz.f203.name, by decide, Tryz.func203.trans (congrArg some (by kernel_rfl))⟩
  t0 := Tryz.underlying0
  a0 := Tryz.isAgg0
  z0 := Tryz.sizeOf0
  v0 := Tryz.zeroValue0
  t3 := Tryz.underlying3
  a3 := Tryz.isAgg3
  z3 := Tryz.sizeOf3
  v3 := Tryz.zeroValue3
  t4 := Tryz.underlying4
  a4 := Tryz.isAgg4
  z4 := Tryz.sizeOf4
  v4 := Tryz.zeroValue4
  t5 := Tryz.underlying5
  a5 := Tryz.isAgg5
  z5 := Tryz.sizeOf5
  v5 := Tryz.zeroValue5
  t9 := Tryz.underlying9
  a9 := Tryz.isAgg9
  z9 := Tryz.sizeOf9
  v9 := Tryz.zeroValue9
  t26 := Tryz.underlying33
  a26 := Tryz.isAgg33
  z26 := Tryz.sizeOf33
  v26 := Tryz.zeroValue33
  t27 := Tryz.underlying33
  a27 := Tryz.isAgg33
  z27 := Tryz.sizeOf33
  v27 := Tryz.zeroValue33
  t29 := Tryz.underlying9
  a29 := Tryz.isAgg9
  z29 := Tryz.sizeOf9
  v29 := Tryz.zeroValue9
  t32 := Tryz.underlying133
  a32 := Tryz.isAgg133
  z32 := Tryz.sizeOf133
  v32 := Tryz.zeroValue133
  t35 := Tryz.underlying161
  a35 := Tryz.isAgg161
  z35 := Tryz.sizeOf161
  v35 := Tryz.zeroValue161
  t36 := Tryz.underlying162
  a36 := Tryz.isAgg162
  z36 := Tryz.sizeOf162
  v36 := Tryz.zeroValue162
  t41 := Tryz.underlying44
  a41 := Tryz.isAgg44
  z41 := Tryz.sizeOf44
  v41 := Tryz.zeroValue44
  t44 := Tryz.underlying169
  a44 := Tryz.isAgg169
  z44 := Tryz.sizeOf169
  v44 := Tryz.zeroValue169
  t46 := Tryz.underlying171
  a46 := Tryz.isAgg171
  z46 := Tryz.sizeOf171
  v46 := Tryz.zeroValue171
  t53 := Tryz.underlying190
  a53 := Tryz.isAgg190
  z53 := Tryz.sizeOf190
  v53 := Tryz.zeroValue190
  t57 := Tryz.underlying147
  a57 := Tryz.isAgg147
  z57 := Tryz.sizeOf147
  v57 := Tryz.zeroValue147
  t63 := Tryz.underlying213
  a63 := Tryz.isAgg213
  z63 := Tryz.sizeOf213
  v63 := Tryz.zeroValue213
  t64 := Tryz.underlying214
  a64 := Tryz.isAgg214
  z64 := Tryz.sizeOf214
  v64 := Tryz.zeroValue214 }
end Go.Proofs
namespace Go.Proofs.YtmfjmoicnddkcaaGreatDoor
open Go.RowKit Go.Shelf Go.Sort Go.Maps


theorem sortsI (m : Nat) : AnyZI.SortsIn Tryz.prog laysSortedI_ren Fence.wide m :=
  ⟨fun blk off cap ss W hH hblk hsz => callsIn_wide.2 (AnyM.slices_Sort_int laysSortI blk off cap ss W hH hblk hsz),
   fun p cap W => callsIn_wide.2 (AnyM.slices_Sort_int_none laysSortI p cap W)⟩
theorem keysI_any (b : Nat) (w : World) : Calls Tryz.prog 47 #[.map (some b)] w fun e w' => e = .returned (.func (.func 74) #[] #[.pointer (some ⟨w.heap.size, 0, none⟩)]) ∧ w' = w.alloc (.cells #[.map (some b)] 67) :=
  (callsIn_wide (n := 5)).1 (AnyZI.keys_in laysKeysI Fence.wide 5 trivial rfl (some b) w)
theorem intKeys_facts {D0 : DataW Unit} {R : Value → Option (DataW Unit × List MemPlace)} {w : World} {b n : Nat} (hown : w.ownsMap Tryz.prog 3 R b n D0) : (intKeys D0).Nodup ∧ ∀ x, x ∈ intKeys D0 ↔ has D0 (Lit.int .i64 x) = true := by
  obtain ⟨es, hD, hp, _⟩ := hown.entries lawInt
  obtain ⟨es', hD', hko⟩ := hown.keysOf
  obtain rfl : es = es' := by rw [hD] at hD'; simpa using hD'
  subst hD
  have hk : ∀ p ∈ es, ∃ x, p.1 = Lit.int .i64 x := fun p hp => by obtain ⟨v, hv⟩ := hko p hp; obtain ⟨x, _, hx, _⟩ := Maps.keyOf_i64 (k := 3) intRowS hv; exact ⟨x, hx⟩
  constructor
  · show (es.map fun p => Go.intOf p.1).Nodup
    refine List.pairwise_map.2 (hp.imp_of_mem fun {p q} hp' hq' hne e => hne ?_)
    obtain ⟨a, ha⟩ := hk p hp'
    obtain ⟨b, hb⟩ := hk q hq'
    rw [ha, hb] at e ⊢
    exact congrArg _ e
  · intro x
    rw [has_eq, List.any_eq_true]
    show x ∈ es.map (fun p => Go.intOf p.1) ↔ _
    rw [List.mem_map]
    constructor
    · rintro ⟨p, hp', rfl⟩
      obtain ⟨a, ha⟩ := hk p hp'
      exact ⟨p, hp', by rw [ha]; simp [Lit.sameKey, Go.intOf]⟩
    · rintro ⟨p, hp', hs⟩
      obtain ⟨a, ha⟩ := hk p hp'
      rw [ha] at hs
      exact ⟨p, hp', by rw [ha]; simpa [Lit.sameKey, Go.intOf] using hs⟩
set_option maxHeartbeats 1000000 in
theorem sortedI_any (Bm b nn : Nat) (hnn : nn ≤ 1000) (f : Int → Bool) (w : World) (hBm : Blk w Bm 67 #[.map (some b)]) (hS : SetT 3 w b nn (onInt f)) :
    Calls Tryz.prog 46 #[.func (.func 74) #[] #[.pointer (some ⟨Bm, 0, none⟩)]] w fun e w' => ∃ v q, e = .returned v ∧ OwnI w' w.heap.size v q ∧ Hid (q.Pairwise (· < ·) ∧ ∀ n, n ∈ q ↔ f n = true) ∧ q.length ≤ nn ∧ Below w.heap.size w w' := by
  obtain ⟨D0, hown, hm, hp⟩ := hS
  have hsz := hown.size_le
  have hcell : w.cell? ⟨Bm, 0, none⟩ = some (.map (some b)) := by have := hBm.cell 0; simpa using this
  have hseq : SeqGives Fence.wide 2 Tryz.prog 74 #[.pointer (some ⟨Bm, 0, none⟩)] encZ (fun ss => ss.Perm (intKeys D0)) (Maps.size D0) w :=
    AnyZI.keys_gives (ρ := laysKeysI_ren) { laysKeysI with } Fence.wide _ trivial rfl (by omega) Bm b nn D0 w hBm.lt hcell hown
  have cS := AnyZI.sorted_in laysSortedI Fence.wide 5 trivial trivial trivial trivial rfl (by omega) (sortsI _) (enters_of Tryz.func73 (by kernel_rfl) rfl) 74 #[.pointer (some ⟨Bm, 0, none⟩)] trivial (enters_of Tryz.func74 (by kernel_rfl) rfl) _ (Maps.size D0) (by unfold maxLen; omega) (by omega) _ hseq
  change CallsIn _ _ Tryz.prog 46 _ _ _ at cS
  have hk := intKeys_facts hown
  refine ((callsIn_wide (n := 5)).1 cS).mono ?_
  rintro e w' ⟨v, ss, he, hperm, hrow, _, hB⟩
  have hp2 : (ss.mergeSort (fun x y => decide (x ≤ y))).Perm ss := List.mergeSort_perm ss _
  have hlen : (ss.mergeSort (fun x y => decide (x ≤ y))).length = ss.length := hp2.length_eq
  have hall := hp2.trans hperm
  have hle : ss.length ≤ nn := by
    have h1 := hperm.length_eq
    have h2 : (intKeys D0).length = Maps.size D0 := by
      obtain ⟨es, hD, _⟩ := hown.entries lawInt
      subst hD
      simp [intKeys, Maps.size]
    omega
  have hsort : (ss.mergeSort (fun x y => decide (x ≤ y))).Pairwise (· < ·) := by
    have h1 := List.pairwise_mergeSort (le := fun x y : Int => decide (x ≤ y)) (fun a b c h1 h2 => by simp only [decide_eq_true_eq] at *; omega) (fun a b => by simp only [Bool.or_eq_true, decide_eq_true_eq]; omega) ss
    have h2 := (hall.nodup_iff).2 hk.1
    exact (h1.and h2).imp (fun {a b} hab => by have h3 := hab.1; simp only [decide_eq_true_eq] at h3; have h4 := hab.2; omega)
  refine ⟨v, ss.mergeSort (fun x y => decide (x ≤ y)), he, ?_, Lib.hid ⟨hsort, fun n => ?_⟩, by omega, hB⟩
  · unfold OwnI
    rw [hlen]
    exact hrow
  · rw [hall.mem_iff, hk.2 n]
    constructor
    · intro h
      cases hf : f n
      · have := has_false_of_atKey (D := D0) (k := Lit.int .i64 n) (fun z => by rw [hp]; simp [onInt, hf])
        rw [this] at h
        cases h
      · rfl
    · intro h
      exact has_true_of_atKey (y := .lit (.bool true)) (fun z => by rw [hp]; simp [onInt, h])
end Go.Proofs.YtmfjmoicnddkcaaGreatDoor
namespace Go.Proofs.YtmfjmoicnddkcaaGreatDoor
open Go.RowKit Go.Shelf Go.Sort Go.Maps


/-- A word for the keys of a map keyed by strings. -/
def onStr (p : List UInt8 → Bool) (k : Lit) : Bool := match k with | .string b => p b | _ => false
/-- v is a slice of the strings l in memory of the call's own, from block base on. -/
def OwnT (w : World) (base : Nat) (v : Value) (l : List (List UInt8)) : Prop := w.ownsRow base 9 1 v l.length (l.map encStr)
theorem sortsS (m : Nat) : AnyZ.SortsIn Tryz.prog laysSortedS_ren Fence.wide m :=
  ⟨fun blk off cap ss W hH hblk hsz => callsIn_wide.2 (AnyM.slices_Sort_string laysSortS blk off cap ss W hH hblk hsz),
   fun p cap W => callsIn_wide.2 (AnyM.slices_Sort_string_none laysSortS p cap W)⟩
theorem keysS_any (b : Nat) (w : World) : Calls Tryz.prog 76 #[.map (some b)] w fun e w' => e = .returned (.func (.func 98) #[] #[.pointer (some ⟨w.heap.size, 0, none⟩)]) ∧ w' = w.alloc (.cells #[.map (some b)] 100) :=
  (callsIn_wide (n := 5)).1 (AnyZ.keys_in laysKeysS Fence.wide 5 trivial rfl (some b) w)
theorem strKeys_facts {D0 : DataW Unit} {R : Value → Option (DataW Unit × List MemPlace)} {w : World} {b n : Nat} (hown : w.ownsMap Tryz.prog 9 R b n D0) : (strKeys D0).Nodup ∧ ∀ x, x ∈ strKeys D0 ↔ has D0 (Lit.string x) = true := by
  obtain ⟨es, hD, hp, _⟩ := hown.entries lawString
  obtain ⟨es', hD', hko⟩ := hown.keysOf
  obtain rfl : es = es' := by rw [hD] at hD'; simpa using hD'
  subst hD
  have hk : ∀ p ∈ es, ∃ x, p.1 = Lit.string x := fun p hp => by obtain ⟨v, hv⟩ := hko p hp; obtain ⟨x, _, hx, _⟩ := Maps.keyOf_str (k := 9) stringRowK hv; exact ⟨x, hx⟩
  constructor
  · show (es.map fun p => strOf p.1).Nodup
    refine List.pairwise_map.2 (hp.imp_of_mem fun {p q} hp' hq' hne e => hne ?_)
    obtain ⟨a, ha⟩ := hk p hp'
    obtain ⟨b, hb⟩ := hk q hq'
    rw [ha, hb] at e ⊢
    exact congrArg _ e
  · intro x
    rw [has_eq, List.any_eq_true]
    show x ∈ es.map (fun p => strOf p.1) ↔ _
    rw [List.mem_map]
    constructor
    · rintro ⟨p, hp', rfl⟩
      obtain ⟨a, ha⟩ := hk p hp'
      exact ⟨p, hp', by rw [ha]; simp [Lit.sameKey, strOf]⟩
    · rintro ⟨p, hp', hs⟩
      obtain ⟨a, ha⟩ := hk p hp'
      rw [ha] at hs
      exact ⟨p, hp', by rw [ha]; simpa [Lit.sameKey, strOf] using hs⟩
set_option maxHeartbeats 1000000 in
theorem sortedS_any (Bm b nn : Nat) (hnn : nn ≤ 1000) (f : (List UInt8) → Bool) (w : World) (hBm : Blk w Bm 100 #[.map (some b)]) (hS : SetT 9 w b nn (onStr f)) :
    Calls Tryz.prog 75 #[.func (.func 98) #[] #[.pointer (some ⟨Bm, 0, none⟩)]] w fun e w' => ∃ v q, e = .returned v ∧ OwnT w' w.heap.size v q ∧ Hid (q.Pairwise (· < ·) ∧ ∀ n, n ∈ q ↔ f n = true) ∧ q.length ≤ nn ∧ Below w.heap.size w w' := by
  obtain ⟨D0, hown, hm, hp⟩ := hS
  have hsz := hown.size_le
  have hcell : w.cell? ⟨Bm, 0, none⟩ = some (.map (some b)) := by have := hBm.cell 0; simpa using this
  have hseq : SeqGives Fence.wide 2 Tryz.prog 98 #[.pointer (some ⟨Bm, 0, none⟩)] encStr (fun ss => ss.Perm (strKeys D0)) (Maps.size D0) w :=
    AnyZ.keys_gives (ρ := laysKeysS_ren) { laysKeysS with } Fence.wide _ trivial rfl (by omega) Bm b nn D0 w hBm.lt hcell hown
  have cS := AnyZ.sorted_in laysSortedS Fence.wide 5 trivial trivial trivial trivial rfl (by omega) (sortsS _) (enters_of Tryz.func97 (by kernel_rfl) rfl) 98 #[.pointer (some ⟨Bm, 0, none⟩)] trivial (enters_of Tryz.func98 (by kernel_rfl) rfl) _ (Maps.size D0) (by unfold maxLen; omega) (by omega) _ hseq
  change CallsIn _ _ Tryz.prog 75 _ _ _ at cS
  have hk := strKeys_facts hown
  refine ((callsIn_wide (n := 5)).1 cS).mono ?_
  rintro e w' ⟨v, ss, he, hperm, hrow, _, hB⟩
  have hp2 : (ss.mergeSort (fun x y => decide (x ≤ y))).Perm ss := List.mergeSort_perm ss _
  have hlen : (ss.mergeSort (fun x y => decide (x ≤ y))).length = ss.length := hp2.length_eq
  have hall := hp2.trans hperm
  have hle : ss.length ≤ nn := by
    have h1 := hperm.length_eq
    have h2 : (strKeys D0).length = Maps.size D0 := by
      obtain ⟨es, hD, _⟩ := hown.entries lawString
      subst hD
      simp [strKeys, Maps.size]
    omega
  have hsort : (ss.mergeSort (fun x y => decide (x ≤ y))).Pairwise (· < ·) := by
    have h1 := List.pairwise_mergeSort (le := fun x y : (List UInt8) => decide (x ≤ y)) (fun a b c h1 h2 => by simp only [decide_eq_true_eq] at *; exact List.le_trans h1 h2) (fun a b => by simp only [Bool.or_eq_true, decide_eq_true_eq]; exact List.le_total a b) ss
    have h2 := (hall.nodup_iff).2 hk.1
    exact (h1.and h2).imp (fun {a b} hab => by have h3 := hab.1; simp only [decide_eq_true_eq] at h3; exact Classical.byContradiction (fun hn => hab.2 (List.le_antisymm h3 (List.not_lt.1 hn))))
  refine ⟨v, ss.mergeSort (fun x y => decide (x ≤ y)), he, ?_, Lib.hid ⟨hsort, fun n => ?_⟩, by omega, hB⟩
  · unfold OwnT
    rw [hlen]
    exact hrow
  · rw [hall.mem_iff, hk.2 n]
    constructor
    · intro h
      cases hf : f n
      · have := has_false_of_atKey (D := D0) (k := Lit.string n) (fun z => by rw [hp]; simp [onStr, hf])
        rw [this] at h
        cases h
      · rfl
    · intro h
      exact has_true_of_atKey (y := .lit (.bool true)) (fun z => by rw [hp]; simp [onStr, h])
end Go.Proofs.YtmfjmoicnddkcaaGreatDoor
