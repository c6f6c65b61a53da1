import Derived.Shelf.Strings.OnBuilder
import Derived.Shelf.Small.Wraps
import Derived.Shelf.LaysM
import Derived.Shelf.Strconv.Itoa3
import Derived.Shelf.Strconv.AtoiAll
import Derived.Shelf.Strings.Cut
import Derived.Shelf.Strings.Shaped
import Derived.Shelf.Strings.Split
import Derived.Shelf.Strings.SplitShaped
import Derived.Test.YtjjflbnopphciacGreatDoorProg
import Derived.Test.YtjjflbnopphciacGreatDoorRsad
import Derived.Test.YtjjflbnopphciacGreatDoorRsaa
import Derived.Test.YtjjflbnopphciacGreatDoorRsac
import Derived.RangeFuncNested
import Derived.RangeFuncBox
namespace Go.Proofs
open Go.Shelf
def Tryz.lays156_ren : Go.Shelf.Ren := ⟨fun | 156 => 61 | 165 => 86 | 166 => 87 | 169 => 88 | 240 => 102 | 241 => 103 | 276 => 123 | 277 => 124 | n => n, fun | 31 => 76 | 9 => 9 | 3 => 3 | 4 => 4 | 0 => 0 | 20 => 20 | 72 => 123 | 76 => 127 | 70 => 120 | 37 => 121 | 75 => 126 | 127 => 142 | 164 => 160 | 5 => 5 | 80 => 129 | n => n, fun | n => n⟩
theorem Tryz.lays156 : Go.Proofs.Lays.n156 Tryz.prog Tryz.lays156_ren := {
  mixed := by kernel_rfl
  f156 := Tryz.func61.trans (congrArg some (by kernel_rfl))
  f165 := Tryz.func86.trans (congrArg some (by kernel_rfl))
  f166 := Tryz.func87.trans (congrArg some (by kernel_rfl))
  f169 := Tryz.func88.trans (congrArg some (by kernel_rfl))
  f240 := Tryz.func102.trans (congrArg some (by kernel_rfl))
  f241 := Tryz.func103.trans (congrArg some (by kernel_rfl))
  f276 := Tryz.func123.trans (congrArg some (by kernel_rfl))
  f277 := Tryz.func124.trans (congrArg some (by kernel_rfl))
  t0 := Tryz.underlying0
  a0 := Tryz.isAgg0
  z0 := Tryz.sizeOf0
  v0 := Tryz.zeroValue0
  t3 := Tryz.underlying3
  a3 := Tryz.isAgg3
  z3 := Tryz.sizeOf3
  v3 := Tryz.zeroValue3
  t4 := Tryz.underlying4
  a4 := Tryz.isAgg4
  z4 := Tryz.sizeOf4
  v4 := Tryz.zeroValue4
  t9 := Tryz.underlying9
  a9 := Tryz.isAgg9
  z9 := Tryz.sizeOf9
  v9 := Tryz.zeroValue9
  t20 := Tryz.underlying20
  a20 := Tryz.isAgg20
  z20 := Tryz.sizeOf20
  v20 := Tryz.zeroValue20
  t31 := Tryz.underlying76
  a31 := Tryz.isAgg76
  z31 := Tryz.sizeOf76
  v31 := Tryz.zeroValue76
  t37 := Tryz.underlying121
  a37 := Tryz.isAgg121
  z37 := Tryz.sizeOf121
  v37 := Tryz.zeroValue121
  t70 := Tryz.underlying120
  a70 := Tryz.isAgg120
  z70 := Tryz.sizeOf120
  v70 := Tryz.zeroValue120
  t72 := Tryz.underlying123
  a72 := Tryz.isAgg123
  z72 := Tryz.sizeOf123
  v72 := Tryz.zeroValue123
  t75 := Tryz.underlying126
  a75 := Tryz.isAgg126
  z75 := Tryz.sizeOf126
  v75 := Tryz.zeroValue126
  t76 := Tryz.underlying127
  a76 := Tryz.isAgg127
  z76 := Tryz.sizeOf127
  v76 := Tryz.zeroValue127
  t127 := Tryz.underlying142
  a127 := Tryz.isAgg142
  z127 := Tryz.sizeOf142
  v127 := Tryz.zeroValue142
  t164 := Tryz.underlying160
  a164 := Tryz.isAgg160
  z164 := Tryz.sizeOf160
  v164 := Tryz.zeroValue160 }
theorem Tryz.Builder_Extra_156 : Builder.Extra Tryz.prog Tryz.lays156_ren := {
  sizeBuilder := by kernel_rfl
  liesBuilder := by kernel_rfl
  t5 := Tryz.underlying5
  a5 := Tryz.isAgg5
  z5 := Tryz.sizeOf5
  v5 := Tryz.zeroValue5
  infoByte := by kernel_rfl
  cellsByte := by kernel_rfl
  sizeByte := by kernel_rfl
  neB5 := by decide }
open Go.RowKit in
theorem Tryz.strings_Join_none (a : Option Addr) (c : Nat) (sep : ByteArray) (w : World) :
    Calls Tryz.prog 61 #[.slice a 0 c, .string sep] w fun e w' => e = .returned (.string ⟨#[]⟩) ∧ w' = w := Any.strings_Join_none Tryz.lays156 Tryz.Builder_Extra_156 a c sep w
open Go.RowKit in
theorem Tryz.strings_Join (bk o c : Nat) (xs : List ByteArray) (sep : ByteArray) (w : World) (hcells : ∀ (j : Nat) x, xs[j]? = some x → w.cell? ⟨bk, o + j, none⟩ = some (.string x)) (hbk : bk < w.heap.size) (hN : xs.length ≤ 140737488355328) (hcap : xs.length ≤ c) (hlen : (Lib.join (xs.map (·.data.toList)) sep.data.toList).length ≤ 140737488355328) :
    Calls Tryz.prog 61 #[.slice (some ⟨bk, o, none⟩) xs.length c, .string sep] w fun e w' => e = .returned (.string ⟨(Lib.join (xs.map (·.data.toList)) sep.data.toList).toArray⟩) ∧ Below w.heap.size w w' := Any.strings_Join Tryz.lays156 Tryz.Builder_Extra_156 bk o c xs sep w hcells hbk hN hcap hlen
def Tryz.lays103_ren : Go.Shelf.Ren := ⟨fun | 103 => 95 | 210 => 117 | 206 => 138 | n => n, fun | 9 => 9 | 4 => 4 | 24 => 137 | 3 => 3 | n => n, fun | n => n⟩
theorem Tryz.lays103 : Go.Proofs.Lays.n103 Tryz.prog Tryz.lays103_ren := {
  mixed := by kernel_rfl
  f103 := Tryz.func95.trans (congrArg some (by kernel_rfl))
  f206 := Tryz.func138.trans (congrArg some (by kernel_rfl))
  f210 := Tryz.func117.trans (congrArg some (by kernel_rfl))
  t3 := Tryz.underlying3
  a3 := Tryz.isAgg3
  z3 := Tryz.sizeOf3
  v3 := Tryz.zeroValue3
  t4 := Tryz.underlying4
  a4 := Tryz.isAgg4
  z4 := Tryz.sizeOf4
  v4 := Tryz.zeroValue4
  t9 := Tryz.underlying9
  a9 := Tryz.isAgg9
  z9 := Tryz.sizeOf9
  v9 := Tryz.zeroValue9
  t24 := Tryz.underlying137
  a24 := Tryz.isAgg137
  z24 := Tryz.sizeOf137
  v24 := Tryz.zeroValue137 }
open Go.RowKit in
theorem Tryz.strings_CutPrefix (s p : ByteArray) (w : World) :
    Calls Tryz.prog 95 #[.string s, .string p] w fun e w' => e = .returned (.tuple #[.string ⟨(Lib.trimPrefix s.data.toList p.data.toList).toArray⟩, .bool (Lib.hasPrefix s.data.toList p.data.toList)]) ∧ w' = w := Any.strings_CutPrefix Tryz.lays103 s p w
def Tryz.laysM171_ren : Go.Shelf.Ren := ⟨fun | 171 => 60 | 243 => 85 | 246 => 101 | 283 => 119 | 284 => 120 | 285 => 121 | 286 => 122 | 129 => 143 | 317 => 142 | 318 => 144 | 319 => 145 | 320 => 146 | 337 => 158 | 338 => 159 | n => n, fun | 3 => 3 | 9 => 9 | 2 => 2 | 4 => 4 | 171 => 154 | 0 => 0 | 53 => 155 | 37 => 121 | 5 => 5 | 173 => 158 | 212 => 182 | 51 => 183 | 20 => 20 | 213 => 184 | 46 => 164 | 232 => 211 | 233 => 212 | n => n, fun | 17 => 2 | 18 => 7 | 19 => 8 | n => n⟩
theorem Tryz.laysM171 : Go.Proofs.LaysM.n171 Tryz.prog Tryz.laysM171_ren := {
  mixed := by kernel_rfl
  f129 := Tryz.func143.trans (congrArg some (by kernel_rfl))
  f171 := Tryz.func60.trans (congrArg some (by kernel_rfl))
  f243 := Tryz.func85.trans (congrArg some (by kernel_rfl))
  f246 := Tryz.func101.trans (congrArg some (by kernel_rfl))
  f283 := Tryz.func119.trans (congrArg some (by kernel_rfl))
  f284 := Tryz.func120.trans (congrArg some (by kernel_rfl))
  f285 := Tryz.func121.trans (congrArg some (by kernel_rfl))
  f286 := Tryz.func122.trans (congrArg some (by kernel_rfl))
  f317 := Tryz.func142.trans (congrArg some (by kernel_rfl))
  f318 := Tryz.func144.trans (congrArg some (by kernel_rfl))
  f319 := Tryz.func145.trans (congrArg some (by kernel_rfl))
  f320 := Tryz.func146.trans (congrArg some (by kernel_rfl))
  f337 := Tryz.func158.trans (congrArg some (by kernel_rfl))
  f338 := Tryz.func159.trans (congrArg some (by kernel_rfl))
  t0 := Tryz.underlying0
  a0 := Tryz.isAgg0
  z0 := Tryz.sizeOf0
  v0 := Tryz.zeroValue0
  t2 := Tryz.underlying2
  a2 := Tryz.isAgg2
  z2 := Tryz.sizeOf2
  v2 := Tryz.zeroValue2
  t3 := Tryz.underlying3
  a3 := Tryz.isAgg3
  z3 := Tryz.sizeOf3
  v3 := Tryz.zeroValue3
  t4 := Tryz.underlying4
  a4 := Tryz.isAgg4
  z4 := Tryz.sizeOf4
  v4 := Tryz.zeroValue4
  t5 := Tryz.underlying5
  a5 := Tryz.isAgg5
  z5 := Tryz.sizeOf5
  v5 := Tryz.zeroValue5
  t9 := Tryz.underlying9
  a9 := Tryz.isAgg9
  z9 := Tryz.sizeOf9
  v9 := Tryz.zeroValue9
  t20 := Tryz.underlying20
  a20 := Tryz.isAgg20
  z20 := Tryz.sizeOf20
  v20 := Tryz.zeroValue20
  t37 := Tryz.underlying121
  a37 := Tryz.isAgg121
  z37 := Tryz.sizeOf121
  v37 := Tryz.zeroValue121
  t46 := Tryz.underlying164
  a46 := Tryz.isAgg164
  z46 := Tryz.sizeOf164
  v46 := Tryz.zeroValue164
  t51 := Tryz.underlying183
  a51 := Tryz.isAgg183
  z51 := Tryz.sizeOf183
  v51 := Tryz.zeroValue183
  t53 := Tryz.underlying155
  a53 := Tryz.isAgg155
  z53 := Tryz.sizeOf155
  v53 := Tryz.zeroValue155
  t171 := Tryz.underlying154
  a171 := Tryz.isAgg154
  z171 := Tryz.sizeOf154
  v171 := Tryz.zeroValue154
  t173 := Tryz.underlying158
  a173 := Tryz.isAgg158
  z173 := Tryz.sizeOf158
  v173 := Tryz.zeroValue158
  t212 := Tryz.underlying182
  a212 := Tryz.isAgg182
  z212 := Tryz.sizeOf182
  v212 := Tryz.zeroValue182
  t213 := Tryz.underlying184
  a213 := Tryz.isAgg184
  z213 := Tryz.sizeOf184
  t232 := Tryz.underlying211
  a232 := Tryz.isAgg211
  z232 := Tryz.sizeOf211
  v232 := Tryz.zeroValue211
  t233 := Tryz.underlying212
  a233 := Tryz.isAgg212
  z233 := Tryz.sizeOf212
  v233 := Tryz.zeroValue212
  g17 := by kernel_rfl
  g18 := by kernel_rfl
  g19 := by kernel_rfl
  i0 := by kernel_rfl
  i2 := by kernel_rfl
  i3 := by kernel_rfl
  i4 := by kernel_rfl
  i5 := by kernel_rfl
  i9 := by kernel_rfl
  i20 := by kernel_rfl
  i37 := by kernel_rfl
  i46 := by kernel_rfl
  i51 := by kernel_rfl
  i53 := by kernel_rfl
  i171 := by kernel_rfl
  i173 := by kernel_rfl
  i212 := by kernel_rfl
  i232 := by kernel_rfl
  i233 := by kernel_rfl
  m17 := by kernel_rfl
  m18 := by kernel_rfl
  m19 := by kernel_rfl }
open Go.RowKit Go.Sort Go.Lib in
theorem Tryz.strconv_Itoa (n : Int) (h0 : -9223372036854775808 ≤ n) (h1 : n ≤ 9223372036854775807) (w : World) (htab : Lib.TabIs Tryz.prog w "internal/strconv.uint64pow10" .u64 Lib.pow10Tab) :
    Calls Tryz.prog 60 #[.int .i64 n] w fun e w' => e = .returned (.string ⟨(Lib.itoa n).toArray⟩) ∧ ∃ k os, w' = grow (w.drewN k) os := Any.strconv_Itoa Tryz.laysM171 n h0 h1 w htab
def Tryz.laysC172_ren : Go.Shelf.Ren := ⟨fun | 172 => 94 | 244 => 115 | 245 => 116 | 247 => 133 | 279 => 134 | 280 => 135 | 281 => 136 | 282 => 137 | 287 => 150 | 316 => 151 | 171 => 60 | 205 => 152 | 321 => 160 | 322 => 161 | 243 => 85 | 246 => 101 | 283 => 119 | 284 => 120 | 285 => 121 | 286 => 122 | 129 => 143 | 317 => 142 | 318 => 144 | 319 => 145 | 320 => 146 | 337 => 158 | 338 => 159 | n => n, fun | 9 => 9 | 3 => 3 | 75 => 126 | 76 => 127 | 4 => 4 | 5 => 5 | 167 => 168 | 37 => 121 | 0 => 0 | 85 => 169 | 2 => 2 | 168 => 171 | 53 => 155 | 175 => 188 | 46 => 164 | 210 => 192 | 127 => 142 | 145 => 209 | 143 => 207 | 21 => 21 | 171 => 154 | 173 => 158 | 212 => 182 | 51 => 183 | 20 => 20 | 213 => 184 | 232 => 211 | 233 => 212 | 80 => 129 | n => n, fun | 15 => 3 | 16 => 4 | 17 => 2 | 18 => 7 | 19 => 8 | n => n⟩
theorem Tryz.laysC172 : Go.Proofs.LaysC.n172 Tryz.prog Tryz.laysC172_ren := {
  mixed := by kernel_rfl
  f129 := Tryz.func143.trans (congrArg some (by kernel_rfl))
  f171 := Tryz.func60.trans (congrArg some (by kernel_rfl))
  f172 := Tryz.func94.trans (congrArg some (by kernel_rfl))
  f205 := Tryz.func152.trans (congrArg some (by kernel_rfl))
  f243 := Tryz.func85.trans (congrArg some (by kernel_rfl))
  f244 := Tryz.func115.trans (congrArg some (by kernel_rfl))
  f245 := Tryz.func116.trans (congrArg some (by kernel_rfl))
  f246 := Tryz.func101.trans (congrArg some (by kernel_rfl))
  f247 := Tryz.func133.trans (congrArg some (by kernel_rfl))
  f279 := Tryz.func134.trans (congrArg some (by kernel_rfl))
  f280 := Tryz.func135.trans (congrArg some (by kernel_rfl))
  f281 := Tryz.func136.trans (congrArg some (by kernel_rfl))
  f282 := Tryz.func137.trans (congrArg some (by kernel_rfl))
  f283 := Tryz.func119.trans (congrArg some (by kernel_rfl))
  f284 := Tryz.func120.trans (congrArg some (by kernel_rfl))
  f285 := Tryz.func121.trans (congrArg some (by kernel_rfl))
  f286 := Tryz.func122.trans (congrArg some (by kernel_rfl))
  f287 := Tryz.func150.trans (congrArg some (by kernel_rfl))
  f316 := Tryz.func151.trans (congrArg some (by kernel_rfl))
  f317 := Tryz.func142.trans (congrArg some (by kernel_rfl))
  f318 := Tryz.func144.trans (congrArg some (by kernel_rfl))
  f319 := Tryz.func145.trans (congrArg some (by kernel_rfl))
  f320 := Tryz.func146.trans (congrArg some (by kernel_rfl))
  f321 := Tryz.func160.trans (congrArg some (by kernel_rfl))
  f322 := Tryz.func161.trans (congrArg some (by kernel_rfl))
  f337 := Tryz.func158.trans (congrArg some (by kernel_rfl))
  f338 := Tryz.func159.trans (congrArg some (by kernel_rfl))
  t0 := Tryz.underlying0
  a0 := Tryz.isAgg0
  z0 := Tryz.sizeOf0
  v0 := Tryz.zeroValue0
  t2 := Tryz.underlying2
  a2 := Tryz.isAgg2
  z2 := Tryz.sizeOf2
  v2 := Tryz.zeroValue2
  t3 := Tryz.underlying3
  a3 := Tryz.isAgg3
  z3 := Tryz.sizeOf3
  v3 := Tryz.zeroValue3
  t4 := Tryz.underlying4
  a4 := Tryz.isAgg4
  z4 := Tryz.sizeOf4
  v4 := Tryz.zeroValue4
  t5 := Tryz.underlying5
  a5 := Tryz.isAgg5
  z5 := Tryz.sizeOf5
  v5 := Tryz.zeroValue5
  t9 := Tryz.underlying9
  a9 := Tryz.isAgg9
  z9 := Tryz.sizeOf9
  v9 := Tryz.zeroValue9
  t20 := Tryz.underlying20
  a20 := Tryz.isAgg20
  z20 := Tryz.sizeOf20
  v20 := Tryz.zeroValue20
  t21 := Tryz.underlying21
  a21 := Tryz.isAgg21
  z21 := Tryz.sizeOf21
  v21 := Tryz.zeroValue21
  t37 := Tryz.underlying121
  a37 := Tryz.isAgg121
  z37 := Tryz.sizeOf121
  v37 := Tryz.zeroValue121
  t46 := Tryz.underlying164
  a46 := Tryz.isAgg164
  z46 := Tryz.sizeOf164
  v46 := Tryz.zeroValue164
  t51 := Tryz.underlying183
  a51 := Tryz.isAgg183
  z51 := Tryz.sizeOf183
  v51 := Tryz.zeroValue183
  t53 := Tryz.underlying155
  a53 := Tryz.isAgg155
  z53 := Tryz.sizeOf155
  v53 := Tryz.zeroValue155
  t75 := Tryz.underlying126
  a75 := Tryz.isAgg126
  z75 := Tryz.sizeOf126
  v75 := Tryz.zeroValue126
  t76 := Tryz.underlying127
  a76 := Tryz.isAgg127
  z76 := Tryz.sizeOf127
  v76 := Tryz.zeroValue127
  t85 := Tryz.underlying169
  a85 := Tryz.isAgg169
  z85 := Tryz.sizeOf169
  v85 := Tryz.zeroValue169
  t127 := Tryz.underlying142
  a127 := Tryz.isAgg142
  z127 := Tryz.sizeOf142
  v127 := Tryz.zeroValue142
  t143 := Tryz.underlying207
  a143 := Tryz.isAgg207
  z143 := Tryz.sizeOf207
  v143 := Tryz.zeroValue207
  t145 := Tryz.underlying209
  a145 := Tryz.isAgg209
  z145 := Tryz.sizeOf209
  v145 := Tryz.zeroValue209
  t167 := Tryz.underlying168
  a167 := Tryz.isAgg168
  z167 := Tryz.sizeOf168
  v167 := Tryz.zeroValue168
  t168 := Tryz.underlying171
  a168 := Tryz.isAgg171
  z168 := Tryz.sizeOf171
  v168 := Tryz.zeroValue171
  t171 := Tryz.underlying154
  a171 := Tryz.isAgg154
  z171 := Tryz.sizeOf154
  v171 := Tryz.zeroValue154
  t173 := Tryz.underlying158
  a173 := Tryz.isAgg158
  z173 := Tryz.sizeOf158
  v173 := Tryz.zeroValue158
  t175 := Tryz.underlying188
  a175 := Tryz.isAgg188
  z175 := Tryz.sizeOf188
  v175 := Tryz.zeroValue188
  t210 := Tryz.underlying192
  a210 := Tryz.isAgg192
  z210 := Tryz.sizeOf192
  v210 := Tryz.zeroValue192
  t212 := Tryz.underlying182
  a212 := Tryz.isAgg182
  z212 := Tryz.sizeOf182
  v212 := Tryz.zeroValue182
  t213 := Tryz.underlying184
  a213 := Tryz.isAgg184
  z213 := Tryz.sizeOf184
  t232 := Tryz.underlying211
  a232 := Tryz.isAgg211
  z232 := Tryz.sizeOf211
  v232 := Tryz.zeroValue211
  t233 := Tryz.underlying212
  a233 := Tryz.isAgg212
  z233 := Tryz.sizeOf212
  v233 := Tryz.zeroValue212
  g15 := by kernel_rfl
  g16 := by kernel_rfl
  g17 := by kernel_rfl
  g18 := by kernel_rfl
  g19 := by kernel_rfl
  t80 := Tryz.underlying129
  a80 := Tryz.isAgg129
  z80 := Tryz.sizeOf129
  v80 := Tryz.zeroValue129
  i0 := by kernel_rfl
  i2 := by kernel_rfl
  i3 := by kernel_rfl
  i4 := by kernel_rfl
  i5 := by kernel_rfl
  i9 := by kernel_rfl
  i20 := by kernel_rfl
  i21 := by kernel_rfl
  i37 := by kernel_rfl
  i46 := by kernel_rfl
  i51 := by kernel_rfl
  i53 := by kernel_rfl
  i75 := by kernel_rfl
  i76 := by kernel_rfl
  i80 := by kernel_rfl
  i85 := by kernel_rfl
  i127 := by kernel_rfl
  i143 := by kernel_rfl
  i145 := by kernel_rfl
  i167 := by kernel_rfl
  i168 := by kernel_rfl
  i171 := by kernel_rfl
  i173 := by kernel_rfl
  i175 := by kernel_rfl
  i210 := by kernel_rfl
  i212 := by kernel_rfl
  i232 := by kernel_rfl
  i233 := by kernel_rfl
  m15 := by kernel_rfl
  m16 := by kernel_rfl
  m17 := by kernel_rfl
  m18 := by kernel_rfl
  m19 := by kernel_rfl
  c0 := by kernel_rfl
  c2 := by kernel_rfl
  c3 := by kernel_rfl
  c4 := by kernel_rfl
  c5 := by kernel_rfl
  c9 := by kernel_rfl
  c20 := by kernel_rfl
  c21 := by kernel_rfl
  c37 := by kernel_rfl
  c46 := by kernel_rfl
  c51 := by kernel_rfl
  c53 := by kernel_rfl
  c75 := by kernel_rfl
  c76 := by kernel_rfl
  c80 := by kernel_rfl
  c85 := by kernel_rfl
  c127 := by kernel_rfl
  c143 := by kernel_rfl
  c145 := by kernel_rfl
  c167 := by kernel_rfl
  c168 := by kernel_rfl
  c171 := by kernel_rfl
  c173 := by kernel_rfl
  c175 := by kernel_rfl
  c210 := by kernel_rfl
  c212 := by kernel_rfl
  c213 := by kernel_rfl
  c232 := by kernel_rfl
  c233 := by kernel_rfl }
open Go.RowKit in
theorem Tryz.strconv_Atoi_ok (s : ByteArray) (hmax : s.size ≤ 9223372036854775806) (v : Int) (h : Lib.atoiAll s.data.toList = .ok v) (w : World) :
    Calls Tryz.prog 94 #[.string s] w fun e w' => e = .returned (.tuple #[.int .i64 v, .nilIface]) ∧ (w' = w ∨ ∃ t, w' = Lib.bytesWorld w 5 t) := Any.strconv_Atoi_ok Tryz.laysC172 s hmax v h w
open Go.RowKit in
theorem Tryz.strconv_Atoi_bad (s : ByteArray) (hlim : s.size ≤ 281474976710656) (h : Lib.atoiAll s.data.toList = Lib.atoiAll []) (ev : Value) (w : World) (hv : w.cell? ⟨3, 0, none⟩ = some ev) (hev : ev = .nilIface ∨ ∃ te pe, ev = .iface te pe) :
    Calls Tryz.prog 94 #[.string s] w fun e w' => ∃ N, e = .returned (.tuple #[.int .i64 (0), .iface 171 (.pointer (some ⟨N, 0, none⟩))]) ∧ w.heap.size ≤ N ∧ w'.heap[N]? = some (.cells #[.string ⟨#[65, 116, 111, 105]⟩, .string s, ev] 192 (0, 0)) ∧ Below w.heap.size w w' := Any.strconv_Atoi_syntax Tryz.laysC172 s hlim h ev w hv hev
open Go.RowKit in
theorem Tryz.strconv_Atoi_range (s : ByteArray) (hlim : s.size ≤ 281474976710656) (h : Lib.atoiAll s.data.toList = .range) (ev : Value) (w : World) (hv : w.cell? ⟨4, 0, none⟩ = some ev) (hev : ev = .nilIface ∨ ∃ te pe, ev = .iface te pe) :
    Calls Tryz.prog 94 #[.string s] w fun e w' => ∃ N, e = .returned (.tuple #[.int .i64 (Lib.atoiSat s.data.toList), .iface 171 (.pointer (some ⟨N, 0, none⟩))]) ∧ w.heap.size ≤ N ∧ w'.heap[N]? = some (.cells #[.string ⟨#[65, 116, 111, 105]⟩, .string s, ev] 192 (0, 0)) ∧ Below w.heap.size w w' := Any.strconv_Atoi_range Tryz.laysC172 s hlim h ev w hv hev
def Tryz.lays145_ren : Go.Shelf.Ren := ⟨fun | 145 => 62 | 220 => 89 | 219 => 104 | 217 => 125 | 225 => 126 | 224 => 127 | 267 => 128 | 266 => 147 | 314 => 148 | n => n, fun | 9 => 9 | 4 => 4 | 59 => 106 | 3 => 3 | 5 => 5 | 46 => 164 | 146 => 186 | 51 => 183 | n => n, fun | 1 => 1 | n => n⟩
theorem Tryz.lays145 : Go.Proofs.Lays.n145 Tryz.prog Tryz.lays145_ren := {
  mixed := by kernel_rfl
  f145 := Tryz.func62.trans (congrArg some (by kernel_rfl))
  f217 := Tryz.func125.trans (congrArg some (by kernel_rfl))
  f219 := Tryz.func104.trans (congrArg some (by kernel_rfl))
  f220 := Tryz.func89.trans (congrArg some (by kernel_rfl))
  f224 := Tryz.func127.trans (congrArg some (by kernel_rfl))
  f225 := Tryz.func126.trans (congrArg some (by kernel_rfl))
  f266 := Tryz.func147.trans (congrArg some (by kernel_rfl))
  f267 := Tryz.func128.trans (congrArg some (by kernel_rfl))
  f314 := Tryz.func148.trans (congrArg some (by kernel_rfl))
  t3 := Tryz.underlying3
  a3 := Tryz.isAgg3
  z3 := Tryz.sizeOf3
  v3 := Tryz.zeroValue3
  t4 := Tryz.underlying4
  a4 := Tryz.isAgg4
  z4 := Tryz.sizeOf4
  v4 := Tryz.zeroValue4
  t5 := Tryz.underlying5
  a5 := Tryz.isAgg5
  z5 := Tryz.sizeOf5
  v5 := Tryz.zeroValue5
  t9 := Tryz.underlying9
  a9 := Tryz.isAgg9
  z9 := Tryz.sizeOf9
  v9 := Tryz.zeroValue9
  t46 := Tryz.underlying164
  a46 := Tryz.isAgg164
  z46 := Tryz.sizeOf164
  v46 := Tryz.zeroValue164
  t51 := Tryz.underlying183
  a51 := Tryz.isAgg183
  z51 := Tryz.sizeOf183
  v51 := Tryz.zeroValue183
  t59 := Tryz.underlying106
  a59 := Tryz.isAgg106
  z59 := Tryz.sizeOf106
  v59 := Tryz.zeroValue106
  t146 := Tryz.underlying186
  a146 := Tryz.isAgg186
  z146 := Tryz.sizeOf186
  v146 := Tryz.zeroValue186
  g1 := by kernel_rfl }
open Go.RowKit Go.Lib in
theorem Tryz.strings_Cut (s sep : ByteArray) (m : Int) (w : World) (hs : s.size < 4294967281) (hm : w.cell? ⟨1, 0, none⟩ = some (.int .i64 m)) :
    Calls Tryz.prog 62 #[.string s, .string sep] w fun e w' => e = .returned (.tuple #[.string ⟨(Lib.cut s.data.toList sep.data.toList).1.toArray⟩, .string ⟨(Lib.cut s.data.toList sep.data.toList).2.1.toArray⟩, .bool (Lib.cut s.data.toList sep.data.toList).2.2]) ∧ ∃ n, w' = w.drewN n := Any.strings_Cut Tryz.lays145 s sep m w hs hm
def Tryz.lays146_ren : Go.Shelf.Ren := ⟨fun | 146 => 68 | 221 => 93 | 268 => 112 | 138 => 113 | 143 => 114 | 195 => 130 | 197 => 131 | 218 => 132 | 219 => 104 | 260 => 149 | 217 => 125 | 225 => 126 | 224 => 127 | 267 => 128 | 266 => 147 | 314 => 148 | n => n, fun | 9 => 9 | 31 => 76 | 3 => 3 | 4 => 4 | 0 => 0 | 105 => 166 | 21 => 21 | 5 => 5 | 46 => 164 | 119 => 201 | 139 => 204 | 138 => 203 | 146 => 186 | 51 => 183 | n => n, fun | 1 => 1 | 3 => 5 | 4 => 6 | n => n⟩
theorem Tryz.lays146 : Go.Proofs.Lays.n146 Tryz.prog Tryz.lays146_ren := {
  mixed := by kernel_rfl
  f138 := Tryz.func113.trans (congrArg some (by kernel_rfl))
  f143 := Tryz.func114.trans (congrArg some (by kernel_rfl))
  f146 := Tryz.func68.trans (congrArg some (by kernel_rfl))
  f195 := Tryz.func130.trans (congrArg some (by kernel_rfl))
  f197 := Tryz.func131.trans (congrArg some (by kernel_rfl))
  f217 := Tryz.func125.trans (congrArg some (by kernel_rfl))
  f218 := Tryz.func132.trans (congrArg some (by kernel_rfl))
  f219 := Tryz.func104.trans (congrArg some (by kernel_rfl))
  f221 := Tryz.func93.trans (congrArg some (by kernel_rfl))
  f224 := Tryz.func127.trans (congrArg some (by kernel_rfl))
  f225 := Tryz.func126.trans (congrArg some (by kernel_rfl))
  f260 := Tryz.func149.trans (congrArg some (by kernel_rfl))
  f266 := Tryz.func147.trans (congrArg some (by kernel_rfl))
  f267 := Tryz.func128.trans (congrArg some (by kernel_rfl))
  f268 := Tryz.func112.trans (congrArg some (by kernel_rfl))
  f314 := Tryz.func148.trans (congrArg some (by kernel_rfl))
  t0 := Tryz.underlying0
  a0 := Tryz.isAgg0
  z0 := Tryz.sizeOf0
  v0 := Tryz.zeroValue0
  t3 := Tryz.underlying3
  a3 := Tryz.isAgg3
  z3 := Tryz.sizeOf3
  v3 := Tryz.zeroValue3
  t4 := Tryz.underlying4
  a4 := Tryz.isAgg4
  z4 := Tryz.sizeOf4
  v4 := Tryz.zeroValue4
  t5 := Tryz.underlying5
  a5 := Tryz.isAgg5
  z5 := Tryz.sizeOf5
  v5 := Tryz.zeroValue5
  t9 := Tryz.underlying9
  a9 := Tryz.isAgg9
  z9 := Tryz.sizeOf9
  v9 := Tryz.zeroValue9
  t21 := Tryz.underlying21
  a21 := Tryz.isAgg21
  z21 := Tryz.sizeOf21
  v21 := Tryz.zeroValue21
  t31 := Tryz.underlying76
  a31 := Tryz.isAgg76
  z31 := Tryz.sizeOf76
  v31 := Tryz.zeroValue76
  t46 := Tryz.underlying164
  a46 := Tryz.isAgg164
  z46 := Tryz.sizeOf164
  v46 := Tryz.zeroValue164
  t51 := Tryz.underlying183
  a51 := Tryz.isAgg183
  z51 := Tryz.sizeOf183
  v51 := Tryz.zeroValue183
  t105 := Tryz.underlying166
  a105 := Tryz.isAgg166
  z105 := Tryz.sizeOf166
  v105 := Tryz.zeroValue166
  t119 := Tryz.underlying201
  a119 := Tryz.isAgg201
  z119 := Tryz.sizeOf201
  t138 := Tryz.underlying203
  a138 := Tryz.isAgg203
  z138 := Tryz.sizeOf203
  v138 := Tryz.zeroValue203
  t139 := Tryz.underlying204
  a139 := Tryz.isAgg204
  z139 := Tryz.sizeOf204
  v139 := Tryz.zeroValue204
  t146 := Tryz.underlying186
  a146 := Tryz.isAgg186
  z146 := Tryz.sizeOf186
  v146 := Tryz.zeroValue186
  g1 := by kernel_rfl
  g3 := by kernel_rfl
  g4 := by kernel_rfl }
open Go.RowKit Go.Lib in
theorem Tryz.strings_Split (s sep : ByteArray) (m : Int) (w : World) (hs : s.size < 4294967281) (hm : w.cell? ⟨1, 0, none⟩ = some (.int .i64 m)) (h1 : 1 ≤ sep.size) :
    Calls Tryz.prog 68 #[.string s, .string sep] w fun e w' =>
      e = .returned (.slice (some ⟨w.heap.size, 0, none⟩) (Lib.countB s sep + 1) (Lib.countB s sep + 1)) ∧ w' = w.alloc (.cells ((Lib.splitB sep 0 (Lib.countB s sep) s).map Value.string).toArray 9) := Any.strings_Split Tryz.lays146 (by kernel_rfl) s sep m w hs hm h1
def Tryz.lays147_ren : Go.Shelf.Ren := ⟨fun | 147 => 105 | 221 => 93 | 268 => 112 | 138 => 113 | 143 => 114 | 195 => 130 | 197 => 131 | 218 => 132 | 219 => 104 | 260 => 149 | 217 => 125 | 225 => 126 | 224 => 127 | 267 => 128 | 266 => 147 | 314 => 148 | n => n, fun | 9 => 9 | 3 => 3 | 31 => 76 | 4 => 4 | 0 => 0 | 105 => 166 | 21 => 21 | 5 => 5 | 46 => 164 | 119 => 201 | 139 => 204 | 138 => 203 | 146 => 186 | 51 => 183 | n => n, fun | 1 => 1 | 3 => 5 | 4 => 6 | n => n⟩
theorem Tryz.lays147 : Go.Proofs.Lays.n147 Tryz.prog Tryz.lays147_ren := {
  mixed := by kernel_rfl
  f138 := Tryz.func113.trans (congrArg some (by kernel_rfl))
  f143 := Tryz.func114.trans (congrArg some (by kernel_rfl))
  f147 := Tryz.func105.trans (congrArg some (by kernel_rfl))
  f195 := Tryz.func130.trans (congrArg some (by kernel_rfl))
  f197 := Tryz.func131.trans (congrArg some (by kernel_rfl))
  f217 := Tryz.func125.trans (congrArg some (by kernel_rfl))
  f218 := Tryz.func132.trans (congrArg some (by kernel_rfl))
  f219 := Tryz.func104.trans (congrArg some (by kernel_rfl))
  f221 := Tryz.func93.trans (congrArg some (by kernel_rfl))
  f224 := Tryz.func127.trans (congrArg some (by kernel_rfl))
  f225 := Tryz.func126.trans (congrArg some (by kernel_rfl))
  f260 := Tryz.func149.trans (congrArg some (by kernel_rfl))
  f266 := Tryz.func147.trans (congrArg some (by kernel_rfl))
  f267 := Tryz.func128.trans (congrArg some (by kernel_rfl))
  f268 := Tryz.func112.trans (congrArg some (by kernel_rfl))
  f314 := Tryz.func148.trans (congrArg some (by kernel_rfl))
  t0 := Tryz.underlying0
  a0 := Tryz.isAgg0
  z0 := Tryz.sizeOf0
  v0 := Tryz.zeroValue0
  t3 := Tryz.underlying3
  a3 := Tryz.isAgg3
  z3 := Tryz.sizeOf3
  v3 := Tryz.zeroValue3
  t4 := Tryz.underlying4
  a4 := Tryz.isAgg4
  z4 := Tryz.sizeOf4
  v4 := Tryz.zeroValue4
  t5 := Tryz.underlying5
  a5 := Tryz.isAgg5
  z5 := Tryz.sizeOf5
  v5 := Tryz.zeroValue5
  t9 := Tryz.underlying9
  a9 := Tryz.isAgg9
  z9 := Tryz.sizeOf9
  v9 := Tryz.zeroValue9
  t21 := Tryz.underlying21
  a21 := Tryz.isAgg21
  z21 := Tryz.sizeOf21
  v21 := Tryz.zeroValue21
  t31 := Tryz.underlying76
  a31 := Tryz.isAgg76
  z31 := Tryz.sizeOf76
  v31 := Tryz.zeroValue76
  t46 := Tryz.underlying164
  a46 := Tryz.isAgg164
  z46 := Tryz.sizeOf164
  v46 := Tryz.zeroValue164
  t51 := Tryz.underlying183
  a51 := Tryz.isAgg183
  z51 := Tryz.sizeOf183
  v51 := Tryz.zeroValue183
  t105 := Tryz.underlying166
  a105 := Tryz.isAgg166
  z105 := Tryz.sizeOf166
  v105 := Tryz.zeroValue166
  t119 := Tryz.underlying201
  a119 := Tryz.isAgg201
  z119 := Tryz.sizeOf201
  t138 := Tryz.underlying203
  a138 := Tryz.isAgg203
  z138 := Tryz.sizeOf203
  v138 := Tryz.zeroValue203
  t139 := Tryz.underlying204
  a139 := Tryz.isAgg204
  z139 := Tryz.sizeOf204
  v139 := Tryz.zeroValue204
  t146 := Tryz.underlying186
  a146 := Tryz.isAgg186
  z146 := Tryz.sizeOf186
  v146 := Tryz.zeroValue186
  g1 := by kernel_rfl
  g3 := by kernel_rfl
  g4 := by kernel_rfl }
open Go.RowKit Go.Lib in
theorem Tryz.strings_SplitN (s sep : ByteArray) (n : Nat) (m : Int) (w : World) (hs : s.size < 4294967281) (hm : w.cell? ⟨1, 0, none⟩ = some (.int .i64 m)) (h1 : 1 ≤ sep.size) (hn : 1 ≤ n) (hn63 : n ≤ 9223372036854775807) :
    Calls Tryz.prog 105 #[.string s, .string sep, .int .i64 n] w fun e w' =>
      e = .returned (.slice (some ⟨w.heap.size, 0, none⟩) (Lib.splitB sep 0 (min n (s.size + 1) - 1) s).length (min n (s.size + 1))) ∧ w' = w.alloc (.cells (Lib.cellsOf (Lib.splitB sep 0 (min n (s.size + 1) - 1) s) (min n (s.size + 1))) 9) := Any.strings_SplitN Tryz.lays147 (by kernel_rfl) s sep n m w hs hm h1 hn hn63
def Tryz.laysM147_ren : Go.Shelf.Ren := ⟨fun | 147 => 105 | 221 => 93 | 268 => 112 | 138 => 113 | 143 => 114 | 195 => 130 | 197 => 131 | 218 => 132 | 219 => 104 | 260 => 149 | 217 => 125 | 225 => 126 | 224 => 127 | 267 => 128 | 266 => 147 | 314 => 148 | n => n, fun | 9 => 9 | 3 => 3 | 31 => 76 | 4 => 4 | 0 => 0 | 105 => 166 | 21 => 21 | 5 => 5 | 46 => 164 | 119 => 201 | 139 => 204 | 138 => 203 | 146 => 186 | 51 => 183 | n => n, fun | 1 => 1 | 3 => 5 | 4 => 6 | n => n⟩
theorem Tryz.laysM147 : Go.Proofs.LaysM.n147 Tryz.prog Tryz.laysM147_ren := {
  mixed := by kernel_rfl
  f138 := Tryz.func113.trans (congrArg some (by kernel_rfl))
  f143 := Tryz.func114.trans (congrArg some (by kernel_rfl))
  f147 := Tryz.func105.trans (congrArg some (by kernel_rfl))
  f195 := Tryz.func130.trans (congrArg some (by kernel_rfl))
  f197 := Tryz.func131.trans (congrArg some (by kernel_rfl))
  f217 := Tryz.func125.trans (congrArg some (by kernel_rfl))
  f218 := Tryz.func132.trans (congrArg some (by kernel_rfl))
  f219 := Tryz.func104.trans (congrArg some (by kernel_rfl))
  f221 := Tryz.func93.trans (congrArg some (by kernel_rfl))
  f224 := Tryz.func127.trans (congrArg some (by kernel_rfl))
  f225 := Tryz.func126.trans (congrArg some (by kernel_rfl))
  f260 := Tryz.func149.trans (congrArg some (by kernel_rfl))
  f266 := Tryz.func147.trans (congrArg some (by kernel_rfl))
  f267 := Tryz.func128.trans (congrArg some (by kernel_rfl))
  f268 := Tryz.func112.trans (congrArg some (by kernel_rfl))
  f314 := Tryz.func148.trans (congrArg some (by kernel_rfl))
  t0 := Tryz.underlying0
  a0 := Tryz.isAgg0
  z0 := Tryz.sizeOf0
  v0 := Tryz.zeroValue0
  t3 := Tryz.underlying3
  a3 := Tryz.isAgg3
  z3 := Tryz.sizeOf3
  v3 := Tryz.zeroValue3
  t4 := Tryz.underlying4
  a4 := Tryz.isAgg4
  z4 := Tryz.sizeOf4
  v4 := Tryz.zeroValue4
  t5 := Tryz.underlying5
  a5 := Tryz.isAgg5
  z5 := Tryz.sizeOf5
  v5 := Tryz.zeroValue5
  t9 := Tryz.underlying9
  a9 := Tryz.isAgg9
  z9 := Tryz.sizeOf9
  v9 := Tryz.zeroValue9
  t21 := Tryz.underlying21
  a21 := Tryz.isAgg21
  z21 := Tryz.sizeOf21
  v21 := Tryz.zeroValue21
  t31 := Tryz.underlying76
  a31 := Tryz.isAgg76
  z31 := Tryz.sizeOf76
  v31 := Tryz.zeroValue76
  t46 := Tryz.underlying164
  a46 := Tryz.isAgg164
  z46 := Tryz.sizeOf164
  v46 := Tryz.zeroValue164
  t51 := Tryz.underlying183
  a51 := Tryz.isAgg183
  z51 := Tryz.sizeOf183
  v51 := Tryz.zeroValue183
  t105 := Tryz.underlying166
  a105 := Tryz.isAgg166
  z105 := Tryz.sizeOf166
  v105 := Tryz.zeroValue166
  t119 := Tryz.underlying201
  a119 := Tryz.isAgg201
  z119 := Tryz.sizeOf201
  t138 := Tryz.underlying203
  a138 := Tryz.isAgg203
  z138 := Tryz.sizeOf203
  v138 := Tryz.zeroValue203
  t139 := Tryz.underlying204
  a139 := Tryz.isAgg204
  z139 := Tryz.sizeOf204
  v139 := Tryz.zeroValue204
  t146 := Tryz.underlying186
  a146 := Tryz.isAgg186
  z146 := Tryz.sizeOf186
  v146 := Tryz.zeroValue186
  g1 := by kernel_rfl
  g3 := by kernel_rfl
  g4 := by kernel_rfl
  i0 := by kernel_rfl
  i3 := by kernel_rfl
  i4 := by kernel_rfl
  i5 := by kernel_rfl
  i9 := by kernel_rfl
  i21 := by kernel_rfl
  i31 := by kernel_rfl
  i46 := by kernel_rfl
  i51 := by kernel_rfl
  i105 := by kernel_rfl
  i138 := by kernel_rfl
  i139 := by kernel_rfl
  i146 := by kernel_rfl
  m1 := by kernel_rfl
  s1_3 := fun w h => Go.Proofs.cell_of_shapedOpen_int (zero := #[.int .i64 0]) (t := 3) h (of_decide_eq_true (by kernel_rfl)) (by kernel_rfl) rfl (by kernel_rfl) (by kernel_rfl) Tryz.underlying3
  m3 := by kernel_rfl
  m4 := by kernel_rfl }
open Go.RowKit Go.Lib in
theorem Tryz.strings_SplitN_shaped (s sep : ByteArray) (n : Nat) (w : World) (h : w.ShapedOpen Tryz.prog) (hs : s.size < 4294967281) (h1 : 1 ≤ sep.size) (hn : 1 ≤ n) (hn63 : n ≤ 9223372036854775807) :
    Calls Tryz.prog 105 #[.string s, .string sep, .int .i64 n] w fun e w' =>
      e = .returned (.slice (some ⟨w.heap.size, 0, none⟩) (Lib.splitB sep 0 (min n (s.size + 1) - 1) s).length (min n (s.size + 1))) ∧ w' = w.alloc (.cells (Lib.cellsOf (Lib.splitB sep 0 (min n (s.size + 1) - 1) s) (min n (s.size + 1))) 9) := Any.strings_SplitN_shaped Tryz.laysM147 s sep n w h hs h1 hn hn63
end Go.Proofs

namespace Go.Proofs.YtjjflbnopphciacGreatDoor
open Go.RowKit

def kwRatio : ByteArray := ⟨#[114, 97, 116, 105, 111]⟩
def kwMap : ByteArray := ⟨#[109, 97, 112]⟩
/-- What the strings of this chapter need to lie in memory: the kinds' words, the greatest length of a needle, the powers of ten, and both sentinels of strconv. -/
structure LaidG (w : World) : Prop where
  k0 : w.cell? ⟨0, 0, none⟩ = some (.string kwRatio)
  k1 : w.cell? ⟨0, 1, none⟩ = some (.string kwMap)
  ml : ∃ m : Int, w.cell? ⟨1, 0, none⟩ = some (.int .i64 m)
  tab : Lib.TabIs Tryz.prog w "internal/strconv.uint64pow10" .u64 Lib.pow10Tab
  es : ∃ te pe, w.cell? ⟨3, 0, none⟩ = some (.iface te pe)
  er : ∃ te pe, w.cell? ⟨4, 0, none⟩ = some (.iface te pe)
theorem gTabG : Tryz.prog.globalNamed "internal/strconv.uint64pow10" = some 2 := by kernel_rfl
theorem tabG_below {w w' : World} (h : Lib.TabIs Tryz.prog w "internal/strconv.uint64pow10" .u64 Lib.pow10Tab) (hb : Below w.heap.size w w') : Lib.TabIs Tryz.prog w' "internal/strconv.uint64pow10" .u64 Lib.pow10Tab := by
  have hlt : 2 < w.heap.size := block_lt_of_cell (h.cell gTabG 0 (by decide))
  unfold Lib.TabIs World.var? at h ⊢
  rw [gTabG] at h ⊢
  simp only [Option.bind_some] at h ⊢
  rw [hb.block _ hlt]
  exact h
theorem cellG_later {w w' : World} {a : Addr} {v : Value} (h : w.cell? a = some v) (hb : Below w.heap.size w w') : w'.cell? a = some v := (hb.cell (block_lt_of_cell h)).trans h
theorem LaidG.later {w w' : World} (h : LaidG w) (hb : Below w.heap.size w w') : LaidG w' :=
  ⟨cellG_later h.k0 hb, cellG_later h.k1 hb, by obtain ⟨m, hm⟩ := h.ml; exact ⟨m, cellG_later hm hb⟩, tabG_below h.tab hb, by obtain ⟨t, p, hm⟩ := h.es; exact ⟨t, p, cellG_later hm hb⟩, by obtain ⟨t, p, hm⟩ := h.er; exact ⟨t, p, cellG_later hm hb⟩⟩
theorem LaidG.drew {w : World} (h : LaidG w) : LaidG w.drew := h.later (Below.refl _ _).drew
theorem LaidG.alloc {w : World} (h : LaidG w) (o : Obj) : LaidG (w.alloc o) := h.later ((Below.refl _ _).alloc (Nat.le_refl _) _)

theorem growG_below (w : World) (k : Nat) (os : Array Obj) : Below w.heap.size w (Go.Sort.grow (w.drewN k) os) :=
  ⟨rfl, rfl, rfl, by simp [Go.Sort.grow], fun i hi => by
    show (w.heap ++ os)[i]? = _
    rw [Array.getElem?_append_left hi]⟩
theorem itoaG_form (n : Int) (h0 : -9223372036854775808 ≤ n) (h1 : n ≤ 9223372036854775807) (X : ByteArray) (hX : (⟨(Lib.itoa n).toArray⟩ : ByteArray) = X) (w : World) (hl : LaidG w) :
    Calls Tryz.prog 60 #[.int .i64 n] w fun e w' => e = .returned (.string X) ∧ Below w.heap.size w w' := by
  refine Calls.mono (Tryz.strconv_Itoa n h0 h1 w hl.tab) ?_
  rintro e w' ⟨rfl, k, os, rfl⟩
  rw [hX]
  exact ⟨rfl, growG_below _ _ _⟩

theorem pcs_len (c : UInt8) (l : List UInt8) : (pcs c l).length = l.count c + 1 := by
  induction l with
  | nil => simp [pcs]
  | cons b t ih =>
    unfold pcs
    by_cases h : b = c
    · rw [if_pos h]; subst h
      simp [ih]
    · rw [if_neg h, List.count_cons, if_neg (by simpa using h)]
      cases hp : pcs c t with
      | nil => exact absurd hp (pcs_ne c t)
      | cons p ps => rw [hp] at ih; simpa using ih
theorem countG (s : ByteArray) : Lib.countB s ⟨#[32]⟩ = s.data.toList.count 32 := Lib.count_one 32 s.data.toList
theorem splitG (s : ByteArray) : (Lib.splitB ⟨#[32]⟩ 0 (Lib.countB s ⟨#[32]⟩) s).map (·.data.toList) = pcs 32 s.data.toList := by
  rw [Lib.splitB_data]
  have e2 : (⟨#[32]⟩ : ByteArray).data.toList = [32] := rfl
  rw [e2]
  refine (splitK_pcs 32 _ s.data.toList).2 ?_
  rw [pcs_len, countG]
  exact Nat.le_refl _
theorem splitG_form (s : ByteArray) (w : World) (hl : LaidG w) (hs : s.size ≤ 1000000) (ps : List (List UInt8)) (n : Nat) (hps : pcs 32 s.data.toList = ps) (hn : ps.length = n) :
    Calls Tryz.prog 68 #[.string s, .string ⟨#[32]⟩] w fun e w' => e = .returned (.slice (some ⟨w.heap.size, 0, none⟩) n n) ∧ (∀ k x, ps[k]? = some x → w'.cell? ⟨w.heap.size, k, none⟩ = some (sv x)) ∧ w.heap.size < w'.heap.size ∧ Below w.heap.size w w' := by
  obtain ⟨m, hm⟩ := hl.ml
  have h := Tryz.strings_Split s ⟨#[32]⟩ m w (by omega) hm (by decide)
  refine Calls.mono h ?_
  rintro e w' ⟨rfl, rfl⟩
  have hc : Lib.countB s ⟨#[32]⟩ + 1 = n := by rw [countG, ← pcs_len, hps, hn]
  rw [hc]
  refine ⟨rfl, fun k x hx => ?_, by simp, (Below.refl _ _).alloc (Nat.le_refl _) _⟩
  rw [← hps, ← splitG, List.getElem?_map] at hx
  cases hd : (Lib.splitB ⟨#[32]⟩ 0 (Lib.countB s ⟨#[32]⟩) s)[k]? with
  | none => rw [hd] at hx; cases hx
  | some y =>
    rw [hd] at hx
    have hxy : y.data.toList = x := Option.some.inj hx
    rw [← hxy, ← sv_of, (Bk.new w 9 _).cell, ← Array.getElem?_toList, List.getElem?_map, hd]
    rfl

/-- Atoi at any word: a number and no error, or an error. -/
theorem atoiG (s : ByteArray) (hs : s.size ≤ 1000000) (w : World) (hl : LaidG w) :
    Calls Tryz.prog 94 #[.string s] w fun e w' => ((∃ v, Lib.atoiAll s.data.toList = .ok v ∧ e = .returned (.tuple #[.int .i64 v, .nilIface])) ∨ (∃ v t p, (∀ k, Lib.atoiAll s.data.toList ≠ .ok k) ∧ e = .returned (.tuple #[.int .i64 v, .iface t p]) ∧ -9223372036854775808 ≤ v ∧ v ≤ 9223372036854775807)) ∧ Below w.heap.size w w' := by
  have hbad : ∀ k, Lib.atoiAll [] ≠ .ok k := fun k e => by cases e
  cases h : Lib.atoiAll s.data.toList
  · rename_i v
    refine Calls.mono (Tryz.strconv_Atoi_ok s (by omega) v h w) ?_
    rintro e w' ⟨rfl, hw⟩
    refine ⟨.inl ⟨v, rfl, rfl⟩, ?_⟩
    rcases hw with rfl | ⟨t, rfl⟩
    · exact Below.refl _ _
    · exact Lib.bytesWorld_below _ _ _
  · obtain ⟨te, pe, hv⟩ := hl.es
    refine Calls.mono (Tryz.strconv_Atoi_bad s (by omega) h _ w hv (.inr ⟨te, pe, rfl⟩)) ?_
    rintro e w' ⟨N, rfl, _, _, hb⟩
    exact ⟨.inr ⟨_, _, _, hbad, rfl, by omega, by omega⟩, hb⟩
  · obtain ⟨te, pe, hv⟩ := hl.er
    refine Calls.mono (Tryz.strconv_Atoi_range s (by omega) h _ w hv (.inr ⟨te, pe, rfl⟩)) ?_
    rintro e w' ⟨N, rfl, _, _, hb⟩
    exact ⟨.inr ⟨_, _, _, fun k e => (by cases e), rfl, (Lib.atoiSat_bounds _).1, (Lib.atoiSat_bounds _).2⟩, hb⟩
theorem cut_sizeG (c : UInt8) (l : List UInt8) : (Lib.cut l [c]).1.length ≤ l.length ∧ (Lib.cut l [c]).2.1.length ≤ l.length := by
  unfold Lib.cut
  split
  · simp only [List.length_take, List.length_drop]; omega
  · simp
theorem belowGN (w : World) (k : Nat) : Below w.heap.size w (w.drewN k) := ⟨rfl, rfl, rfl, Nat.le_refl _, fun i hi => rfl⟩
/-- A text cut at the first byte c. -/
theorem cutG_form (c : UInt8) (s x y : ByteArray) (f : Bool) (w : World) (hl : LaidG w) (hs : s.size ≤ 1000000) (hc : Lib.cut s.data.toList [c] = (x.data.toList, y.data.toList, f)) :
    Calls Tryz.prog 62 #[.string s, .string ⟨#[c]⟩] w fun e w' => e = .returned (.tuple #[.string x, .string y, .bool f]) ∧ Below w.heap.size w w' := by
  obtain ⟨m, hm⟩ := hl.ml
  refine Calls.mono (Tryz.strings_Cut s ⟨#[c]⟩ m w (by omega) hm) ?_
  rintro e w' ⟨rfl, n, rfl⟩
  refine ⟨?_, belowGN _ _⟩
  rw [show (⟨#[c]⟩ : ByteArray).data.toList = [c] from rfl, hc]
theorem cut_casesG (c : UInt8) (l : List UInt8) : (pcs c l = [l] ∧ Lib.cut l [c] = (l, [], false)) ∨ (∃ x z, Lib.cut l [c] = (x, z, true) ∧ pcs c l = x :: pcs c z ∧ (pcs c z = [z] ∨ c ∈ z ∧ 2 ≤ (pcs c z).length)) := by
  rcases idx_one l c with ⟨h1, h2⟩ | ⟨i, h1, h2, h3⟩
  · refine .inl ⟨pcs_miss _ _ h2, ?_⟩
    unfold Lib.cut
    rw [h1, if_neg (by omega)]
  · refine .inr ⟨l.take i, l.drop (i + 1), ?_, pcs_hit c l i h2 h3, ?_⟩
    · unfold Lib.cut
      rw [h1, if_pos (by omega)]
      simp
    · rcases idx_one (l.drop (i + 1)) c with ⟨_, e2⟩ | ⟨j, _, e2, e3⟩
      · exact .inl (pcs_miss _ _ e2)
      · refine .inr ⟨List.mem_of_getElem? e2, ?_⟩
        rw [pcs_hit c _ j e2 e3]
        have := List.length_pos_iff.2 (pcs_ne c ((l.drop (i + 1)).drop (j + 1)))
        simp only [List.length_cons]
        omega
end Go.Proofs.YtjjflbnopphciacGreatDoor

namespace Go.Proofs.YtjjflbnopphciacGreatDoor
open Go.RowKit

theorem strEq (a b : ByteArray) (h : a = b) : (a.toList == b.toList) = true := by subst h; simp
theorem strNe (a b : ByteArray) (h : a ≠ b) : (a.toList == b.toList) = false := by
  refine beq_eq_false_iff_ne.2 fun e => h ?_
  rw [Lib.toList_data, Lib.toList_data] at e
  apply ByteArray.ext
  exact Array.toList_inj.1 e
theorem nDigits_lt (u d : Nat) (h : Lib.nDigits u ≤ d) : u < 10 ^ d := by
  have h2 := Lib.decFrom_lt (Lib.decDigits u) 0 u (decFrom_digits u)
  rw [Lib.decDigits_length] at h2
  exact Nat.lt_of_lt_of_le h2 (by simpa using Nat.pow_le_pow_right (by omega) h)

set_option maxRecDepth 100000 in
set_option maxHeartbeats 8000000 in
theorem numberR_any (s : ByteArray) (d : Nat) (w : World) (hl : LaidG w) (hs : s.size ≤ 1000000) (hd1 : 1 ≤ d) (hd : d ≤ 17) :
    Calls Tryz.prog 69 #[.string s, .int .i64 (d : Int)] w fun e w' => (∃ v, e = .returned (.tuple #[.int .i64 v, .bool (numU s.data.toList d).isSome]) ∧ ((numU s.data.toList d).isSome = true → v = (numU s.data.toList d).getD 0) ∧ -9223372036854775808 ≤ v ∧ v ≤ 9223372036854775807) ∧ Below w.heap.size w w' := by
  have hz : s.data.toList.length = s.size := by simp
  by_cases hlen : d < s.size
  · have hn : numU s.data.toList d = none := by
      cases h : numU s.data.toList d with
      | none => rfl
      | some k => have := (numU_len h).1; omega
    rw [hn]
    have hI : (d : Int) < (s.size : Int) := by omega
    clear hl hs hz hn
    go_enter Tryz.func69, Tryz.ntmps69
    go_wp2
    go_ret2
    exact ⟨⟨0, rfl, fun h => (by cases h), by omega, by omega⟩, Below.refl _ _⟩
  · have hI : ¬ (d : Int) < (s.size : Int) := by omega
    have CA := Lib.hid (atoiG s hs w hl)
    have HL := Lib.hid hl
    obtain ⟨o, ho⟩ : ∃ o, numU s.data.toList d = o := ⟨_, rfl⟩
    rw [ho]
    have HO := Lib.hid ho
    have HZ := Lib.hid hz
    clear hl ho hz
    go_enter Tryz.func69, Tryz.ntmps69
    go_wp2_with fail
    refine CA.out.mono ?_
    rintro e w2 ⟨hres, hb2⟩
    have HB2 := Lib.hid hb2
    have HL2 := Lib.hid (HL.out.later hb2)
    clear hb2 CA
    rcases hres with ⟨v, hv, rfl⟩ | ⟨v, t, q, hv, rfl, hvb⟩
    · have hvb := Lib.atoiAll_bounds hv
      obtain ⟨X, hX⟩ : ∃ X, (⟨(Lib.itoa v).toArray⟩ : ByteArray) = X := ⟨_, rfl⟩
      have CI := Lib.hid (itoaG_form v hvb.1 hvb.2 X hX w2 HL2.out)
      by_cases h0 : 0 ≤ v
      · by_cases hXs : X = s
        · have heq := strEq X s hXs
          have hN : Hid (o = some v) := by
            show _ = _
            rw [← HO.out]
            have hsl : s.data.toList = Lib.itoa v := by rw [← hXs, ← hX]
            rw [hsl]
            refine numU_itoa d hd1 v ⟨h0, ?_⟩
            have hlen2 : (Lib.itoa v).length ≤ d := by rw [← hsl, HZ.out]; omega
            obtain ⟨u, hu⟩ : ∃ u : Nat, v = (u : Int) := ⟨v.toNat, by omega⟩
            rw [hu, Lib.itoa_nonneg, Lib.decDigits_length] at hlen2
            have := nDigits_lt u d hlen2
            omega
          have HVB := Lib.hid hvb
          clear hv hX hXs hvb
          go_wp2_with (go_at_call 60; refine CI.out.mono ?_; rintro e w3 ⟨rfl, hb3⟩)
          go_ret2
          rw [hN.out]
          exact ⟨⟨v, rfl, fun _ => rfl, HVB.out.1, HVB.out.2⟩, HB2.out.trans (hb3.mono HB2.out.size)⟩
        · have hne := strNe X s hXs
          have hN : Hid (o = none) := by
            show _ = _
            cases h : o with
            | none => rfl
            | some k =>
              exfalso
              have h1 := numU_some.1 (HO.out.trans h)
              have h2 := numS_back h1.1 hd
              rw [hv] at h2
              have h3 : v = k := by injection h2.2
              apply hXs
              rw [← hX, h3, ← h2.1]
          have HVB := Lib.hid hvb
          clear hv hX hXs hvb
          go_wp2_with (go_at_call 60; refine CI.out.mono ?_; rintro e w3 ⟨rfl, hb3⟩)
          go_ret2
          rw [hN.out]
          exact ⟨⟨v, rfl, fun h => (by cases h), HVB.out.1, HVB.out.2⟩, HB2.out.trans (hb3.mono HB2.out.size)⟩
      · have hN : Hid (o = none) := by
          show _ = _
          cases h : o with
          | none => rfl
          | some k =>
            exfalso
            have h1 := numU_some.1 (HO.out.trans h)
            have h2 := numS_back h1.1 hd
            rw [hv] at h2
            have h3 : v = k := by injection h2.2
            omega
        have HVB := Lib.hid hvb
        have h0d : decide (0 ≤ v) = false := decide_eq_false h0
        clear hv hX hvb CI
        go_wp2
        go_ret2
        rw [hN.out]
        exact ⟨⟨v, rfl, fun h => (by cases h), HVB.out.1, HVB.out.2⟩, HB2.out⟩
    · have hN : Hid (o = none) := by
        show _ = _
        cases h : o with
        | none => rfl
        | some k => exact absurd (numS_back (numU_some.1 (HO.out.trans h)).1 hd).2 (hv k)
      have HVB := Lib.hid hvb
      clear hv hvb
      go_wp2
      go_ret2
      rw [hN.out]
      exact ⟨⟨v, rfl, fun h => (by cases h), HVB.out.1, HVB.out.2⟩, HB2.out⟩

set_option maxRecDepth 100000 in
set_option maxHeartbeats 8000000 in
theorem numberV_any (s : ByteArray) (d : Nat) (w : World) (hl : LaidG w) (hs : s.size ≤ 1000000) (hd1 : 1 ≤ d) (hd : d ≤ 17) :
    Calls Tryz.prog 129 #[.string s, .int .i64 (d : Int)] w fun e w' => (∃ v, e = .returned (.tuple #[.int .i64 v, .bool (numU s.data.toList d).isSome]) ∧ ((numU s.data.toList d).isSome = true → v = (numU s.data.toList d).getD 0) ∧ -9223372036854775808 ≤ v ∧ v ≤ 9223372036854775807) ∧ Below w.heap.size w w' := by
  have hz : s.data.toList.length = s.size := by simp
  by_cases hlen : d < s.size
  · have hn : numU s.data.toList d = none := by
      cases h : numU s.data.toList d with
      | none => rfl
      | some k => have := (numU_len h).1; omega
    rw [hn]
    have hI : (d : Int) < (s.size : Int) := by omega
    clear hl hs hz hn
    go_enter Tryz.func129, Tryz.ntmps129
    go_wp2
    go_ret2
    exact ⟨⟨0, rfl, fun h => (by cases h), by omega, by omega⟩, Below.refl _ _⟩
  · have hI : ¬ (d : Int) < (s.size : Int) := by omega
    have CA := Lib.hid (atoiG s hs w hl)
    have HL := Lib.hid hl
    obtain ⟨o, ho⟩ : ∃ o, numU s.data.toList d = o := ⟨_, rfl⟩
    rw [ho]
    have HO := Lib.hid ho
    have HZ := Lib.hid hz
    clear hl ho hz
    go_enter Tryz.func129, Tryz.ntmps129
    go_wp2_with fail
    refine CA.out.mono ?_
    rintro e w2 ⟨hres, hb2⟩
    have HB2 := Lib.hid hb2
    have HL2 := Lib.hid (HL.out.later hb2)
    clear hb2 CA
    rcases hres with ⟨v, hv, rfl⟩ | ⟨v, t, q, hv, rfl, hvb⟩
    · have hvb := Lib.atoiAll_bounds hv
      obtain ⟨X, hX⟩ : ∃ X, (⟨(Lib.itoa v).toArray⟩ : ByteArray) = X := ⟨_, rfl⟩
      have CI := Lib.hid (itoaG_form v hvb.1 hvb.2 X hX w2 HL2.out)
      by_cases h0 : 0 ≤ v
      · by_cases hXs : X = s
        · have heq := strEq X s hXs
          have hN : Hid (o = some v) := by
            show _ = _
            rw [← HO.out]
            have hsl : s.data.toList = Lib.itoa v := by rw [← hXs, ← hX]
            rw [hsl]
            refine numU_itoa d hd1 v ⟨h0, ?_⟩
            have hlen2 : (Lib.itoa v).length ≤ d := by rw [← hsl, HZ.out]; omega
            obtain ⟨u, hu⟩ : ∃ u : Nat, v = (u : Int) := ⟨v.toNat, by omega⟩
            rw [hu, Lib.itoa_nonneg, Lib.decDigits_length] at hlen2
            have := nDigits_lt u d hlen2
            omega
          have HVB := Lib.hid hvb
          clear hv hX hXs hvb
          go_wp2_with (go_at_call 60; refine CI.out.mono ?_; rintro e w3 ⟨rfl, hb3⟩)
          go_ret2
          rw [hN.out]
          exact ⟨⟨v, rfl, fun _ => rfl, HVB.out.1, HVB.out.2⟩, HB2.out.trans (hb3.mono HB2.out.size)⟩
        · have hne := strNe X s hXs
          have hN : Hid (o = none) := by
            show _ = _
            cases h : o with
            | none => rfl
            | some k =>
              exfalso
              have h1 := numU_some.1 (HO.out.trans h)
              have h2 := numS_back h1.1 hd
              rw [hv] at h2
              have h3 : v = k := by injection h2.2
              apply hXs
              rw [← hX, h3, ← h2.1]
          have HVB := Lib.hid hvb
          clear hv hX hXs hvb
          go_wp2_with (go_at_call 60; refine CI.out.mono ?_; rintro e w3 ⟨rfl, hb3⟩)
          go_ret2
          rw [hN.out]
          exact ⟨⟨v, rfl, fun h => (by cases h), HVB.out.1, HVB.out.2⟩, HB2.out.trans (hb3.mono HB2.out.size)⟩
      · have hN : Hid (o = none) := by
          show _ = _
          cases h : o with
          | none => rfl
          | some k =>
            exfalso
            have h1 := numU_some.1 (HO.out.trans h)
            have h2 := numS_back h1.1 hd
            rw [hv] at h2
            have h3 : v = k := by injection h2.2
            omega
        have HVB := Lib.hid hvb
        have h0d : decide (0 ≤ v) = false := decide_eq_false h0
        clear hv hX hvb CI
        go_wp2
        go_ret2
        rw [hN.out]
        exact ⟨⟨v, rfl, fun h => (by cases h), HVB.out.1, HVB.out.2⟩, HB2.out⟩
    · have hN : Hid (o = none) := by
        show _ = _
        cases h : o with
        | none => rfl
        | some k => exact absurd (numS_back (numU_some.1 (HO.out.trans h)).1 hd).2 (hv k)
      have HVB := Lib.hid hvb
      clear hv hvb
      go_wp2
      go_ret2
      rw [hN.out]
      exact ⟨⟨v, rfl, fun h => (by cases h), HVB.out.1, HVB.out.2⟩, HB2.out⟩
end Go.Proofs.YtjjflbnopphciacGreatDoor

namespace Go.Proofs.YtjjflbnopphciacGreatDoor
open Go.RowKit

def txG (x : Int) : Value := sv (Lib.itoa x)
set_option maxRecDepth 100000 in
set_option maxHeartbeats 8000000 in
/-- Numbers joined. -/
theorem joined_any (A : Option Addr) (n c : Nat) (xs : List Int) (w : World) (hl : LaidG w) (hr : RdI w A n xs) (hn : n ≤ 1000) (hx : I64 xs) :
    Calls Tryz.prog 28 #[.slice A n c] w fun e w' => e = .returned (.string (⟨(joinP xs).toArray⟩ : ByteArray)) ∧ Below w.heap.size w w' := by
  obtain ⟨i0, hi0, hz0, hz1, hz2⟩ := info_parts strInfo
  have hln := hr.1
  have HLN := Lib.hid hln
  have HR := Lib.hid hr
  have HX := Lib.hid hx
  have HL0 := Lib.hid hl
  obtain ⟨R, hR⟩ : ∃ R, (⟨(joinP xs).toArray⟩ : ByteArray) = R := ⟨_, rfl⟩
  have HRR := Lib.hid hR
  rw [hR]
  have hAn : 0 < n → ∃ ad, A = some ad ∧ ad.block < w.heap.size ∧ ∀ j, j < n → w.cell? (ad.add j) = some (.int .i64 (xs.getD j 0)) := hr.2
  have HAN := Lib.hid hAn
  clear hr hx hl hln hR hAn
  go_enter Tryz.func28, Tryz.ntmps28
  go_wp2
  go_loopw [3, 5, 8] (fun v _ i wr => ∃ j : Nat, j ≤ n ∧ i = .int .i64 (j : Int) ∧ Hid (wr.ownsRow w.heap.size 9 1 v j ((xs.take j).map txG)) ∧ Hid (Below w.heap.size w wr)) (fun _ _ i _ => n - (intOf i).toNat)
  case atStart => exact ⟨0, Nat.zero_le _, rfl, World.ownsRow_nil _ _ _ _, Below.refl _ _⟩
  case round =>
    obtain ⟨j, hj, rfl, HO, HB⟩ := hrel
    have HL : Hid (LaidG wr) := HL0.out.later HB.out
    obtain ⟨Ac, ca, rfl, _⟩ := own_formT HO.out
    have hszr : w.heap.size ≤ wr.heap.size := HB.out.size
    by_cases hlt : j < n
    · obtain ⟨ad, rfl, hab, hcx⟩ := HAN.out (by omega)
      have hcj : wr.cell? (ad.add j) = some (.int .i64 (xs.getD j 0)) := (HB.out.cell (by rw [addBlock]; exact hab)).trans (hcx j hlt)
      have hxm : xs.getD j 0 ∈ xs := by
        rw [List.getD_eq_getElem?_getD, List.getElem?_eq_getElem (by rw [HLN.out]; exact hlt)]
        exact List.getElem_mem _
      have hxb := HX.out _ hxm
      have hsn : xs.take (j + 1) = xs.take j ++ [xs.getD j 0] := by
        rw [List.take_add_one, List.getD_eq_getElem?_getD, List.getElem?_eq_getElem (by rw [HLN.out]; exact hlt)]
        rfl
      obtain ⟨x, hx⟩ : ∃ x, xs.getD j 0 = x := ⟨_, rfl⟩
      rw [hx] at hcj hxb hsn
      obtain ⟨D, hD⟩ : ∃ D, (⟨(Lib.itoa x).toArray⟩ : ByteArray) = D := ⟨_, rfl⟩
      have CD : Hid (∀ W, LaidG W → _) := Lib.hid fun W h => itoaG_form x hxb.1 hxb.2 D hD W h
      have hltI : (j : Int) < (n : Int) := by omega
      have HTK := Lib.hid hsn
      have HD := Lib.hid hD
      clear hx hxm hxb hD hsn hcx
      go_wp2_with fail
      refine (CD.out _ HL.out).mono ?_
      rintro e w5 ⟨rfl, hb5⟩
      have HO5 : Hid (w5.ownsRow w.heap.size 9 1 (.slice Ac j ca) j ((xs.take j).map txG)) := ownBelowT HO.out hb5
      have HB5 := Lib.hid (HB.out.trans (hb5.mono hszr))
      have hsz5 : w.heap.size ≤ w5.heap.size := Nat.le_trans hszr hb5.size
      clear hb5 HO HB HL hcj
      have HNX : Hid (∀ i u, [Value.string D][i]? = some u → (w5.alloc (.cells #[.string D] 9)).cell? ((⟨w5.heap.size, 0, none⟩ : Addr).add i) = some u) := by
        intro i u hj
        cases i with
        | zero => have : Value.string D = u := by simpa using hj
                  subst this
                  simp [go_sem, Addr.add]
        | succ i => simp at hj
      go_wp2_with (at_builtin; refine wpList_append_own _ rfl (.tmp 12) (.tmp 15) 76 rfl w.heap.size 9 i0 _ 1 16 Tryz.underlying76 hi0 hz0 hz1 hz2 rfl (by decide) _ _ _ rfl (HO5.out.alloc _) ⟨w5.heap.size, 0, none⟩ 1 1 [.string D] rfl rfl HNX.out (by intro u hu; rw [List.mem_singleton.1 hu]; rfl) (by unfold maxLen; omega) (by omega) (by simp; omega) ?_)
      intro v' w6 hown' hgrow _
      have HO6 : Hid (w6.ownsRow w.heap.size 9 1 v' (j + 1) ((xs.take (j + 1)).map txG)) := by
        show World.ownsRow _ _ _ _ _ _ _
        rw [HTK.out, List.map_append, List.map_singleton, List.map_take, show txG x = Value.string D by rw [← HD.out]; rfl]
        exact hown'
      have HB6 : Hid (Below w.heap.size w w6) := (HB5.out.alloc hsz5 _).grown hgrow (by simp; omega) (fun z e => (HO5.out.lt z e).1)
      clear hown' hgrow HB5 HO5 HNX
      go_wp2
      go_roundw
      case rel => exact ⟨j + 1, by omega, by go_num, HO6.out, HB6.out⟩
      case measure => simp [intOf]; omega
    · obtain rfl : n = j := by omega
      have hall : xs.take n = xs := List.take_of_length_le (by rw [HLN.out]; exact Nat.le_refl _)
      have HO6 : Hid (wr.ownsRow w.heap.size 9 1 (.slice Ac n ca) n (xs.map txG)) := by
        show World.ownsRow _ _ _ _ _ _ _
        have := HO.out
        rw [hall] at this
        exact this
      clear hall
      by_cases h0 : n = 0
      · have hnil : xs = [] := List.eq_nil_of_length_eq_zero (by rw [HLN.out]; exact h0)
        have hRe : R = ⟨#[]⟩ := by rw [← HRR.out, hnil]; rfl
        have HJ := Lib.hid (Tryz.strings_Join_none Ac ca ⟨#[32]⟩ wr)
        subst h0
        subst hRe
        clear hnil
        go_wp2_with fail
        refine (HJ.out).mono ?_
        rintro e w7 ⟨rfl, h7⟩
        have HBF : Hid (Below w.heap.size w w7) := by
          first
            | exact HB.out.trans (h7.mono hszr)
            | (have h8 : w7 = wr := h7; rw [h8]; exact HB.out)
            | (have h8 : wr = w7 := h7; rw [← h8]; exact HB.out)
        clear h7 HJ
        go_wp2
        go_ret
        exact ⟨rfl, HBF.out⟩
      · obtain ⟨g, cp, hv, hg1, hg2, hcl⟩ := own_str HO6.out (by rw [List.length_map, HLN.out]) (by omega)
        injection hv with hv1 hv2 hv3
        subst hv1; subst hv3
        have hcp : n ≤ ca := by
          rcases HO6.out.2 with ⟨h, _⟩ | ⟨g', cap', cur, h', _, _, hn, _, _, _⟩
          · cases h
          · simp only [Value.slice.injEq] at h'; omega
        have HCL := Lib.hid hcl
        have HJ := Lib.hid (Tryz.strings_Join g 0 ca (xs.map fun x => (⟨(Lib.itoa x).toArray⟩ : ByteArray)) ⟨#[32]⟩ wr (by
          intro j x hx
          rw [List.getElem?_map] at hx
          cases hy : xs[j]? with
          | none => rw [hy] at hx; cases hx
          | some y =>
            rw [hy] at hx
            have := HCL.out j (txG y) (by rw [List.getElem?_map, hy]; rfl)
            rw [Nat.zero_add, this, ← Option.some.inj hx]
            rfl) hg2 (by rw [List.length_map, HLN.out]; omega) (by rw [List.length_map, HLN.out]; exact hcp) (by
          have hmap : (xs.map fun x => (⟨(Lib.itoa x).toArray⟩ : ByteArray)).map (·.data.toList) = xs.map Lib.itoa := by simp [List.map_map, Function.comp_def]
          rw [hmap]
          have h1 := joinP_len xs HX.out
          have h2 : (Lib.join (xs.map Lib.itoa) [32]).length = (joinP xs).length := rfl
          rw [show (⟨#[32]⟩ : ByteArray).data.toList = [32] from rfl, h2]
          rw [HLN.out] at h1
          omega))
        rw [List.length_map, HLN.out] at HJ
        have HJ2 : Hid (Calls Tryz.prog 61 #[.slice (some ⟨g, 0, none⟩) n ca, .string ⟨#[32]⟩] wr fun e w' => e = .returned (.string R) ∧ Below wr.heap.size wr w') := by
          refine Calls.mono HJ.out ?_
          rintro e w' ⟨rfl, hb⟩
          refine ⟨?_, hb⟩
          rw [← HRR.out]
          have hmap : (xs.map fun x => (⟨(Lib.itoa x).toArray⟩ : ByteArray)).map (·.data.toList) = xs.map Lib.itoa := by simp [List.map_map, Function.comp_def]
          rw [hmap]
          rfl
        clear hcl HJ
        go_wp2_with fail
        refine HJ2.out.mono ?_
        rintro e w7 ⟨rfl, hb7⟩
        have HBF := Lib.hid (HB.out.trans (hb7.mono hszr))
        clear hb7 HJ2
        go_wp2
        go_ret
        exact ⟨rfl, HBF.out⟩
end Go.Proofs.YtjjflbnopphciacGreatDoor

namespace Go.Proofs.YtjjflbnopphciacGreatDoor
open Go.RowKit

theorem trim_minus (l : List UInt8) : Lib.hasPrefix l [45] = decide (l.head? = some 45) ∧ Lib.trimPrefix l [45] = if l.head? = some 45 then l.tail else l := by
  cases l with
  | nil => simp [Lib.hasPrefix, Lib.trimPrefix]
  | cons b t =>
    by_cases h : b = 45
    · subst h; simp [Lib.hasPrefix, Lib.trimPrefix]
    · have : (45 : UInt8) ≠ b := fun e => h e.symm
      have hp : [45].isPrefixOf (b :: t) = false := by simp [List.isPrefixOf, this]
      simp [Lib.hasPrefix, Lib.trimPrefix, h, this, hp]

set_option maxRecDepth 100000 in
set_option maxHeartbeats 4000000 in
theorem signedR_any (s : ByteArray) (d : Nat) (w : World) (hl : LaidG w) (hs : s.size ≤ 1000000) (hd1 : 1 ≤ d) (hd : d ≤ 17) :
    Calls Tryz.prog 70 #[.string s, .int .i64 (d : Int)] w fun e w' => (∃ v, e = .returned (.tuple #[.int .i64 v, .bool (numS s.data.toList d).isSome]) ∧ ((numS s.data.toList d).isSome = true → v = (numS s.data.toList d).getD 0)) ∧ Below w.heap.size w w' := by
  obtain ⟨t1, t2⟩ := trim_minus s.data.toList
  have CP := Lib.hid (Tryz.strings_CutPrefix s ⟨#[45]⟩ w)
  rw [show (⟨#[45]⟩ : ByteArray).data.toList = [45] from rfl, t1, t2] at CP
  have hz : ∀ z : ByteArray, z.data.toList.length = z.size := fun z => by simp
  by_cases hm : s.data.toList.head? = some 45
  · obtain ⟨r, hr⟩ : ∃ r : ByteArray, (⟨s.data.toList.tail.toArray⟩ : ByteArray) = r := ⟨_, rfl⟩
    have hrl : r.data.toList = s.data.toList.tail := by rw [← hr]
    have hrz : r.size ≤ 1000000 := by rw [← hz, hrl, List.length_tail, hz]; omega
    have CN := Lib.hid (numberR_any r d w hl hrz hd1 hd)
    rw [if_pos hm, decide_eq_true hm, hr] at CP
    have HG : Hid (numS s.data.toList d = negU (numU r.data.toList d)) := by
      show _ = _
      rw [← numS_neg, hrl]
      congr 1
      cases hsl : s.data.toList with
      | nil => rw [hsl] at hm; simp at hm
      | cons a t => rw [hsl] at hm; simp at hm; subst hm; rfl
    obtain ⟨N, hN⟩ : ∃ N, numU r.data.toList d = N := ⟨_, rfl⟩
    have hbd : ∀ n, N = some n → 0 ≤ n ∧ n < 100000000000000000 := fun n h => by
      have h1 := numU_bd (hN.trans h)
      have h2 : 10 ^ d ≤ 10 ^ 17 := Nat.pow_le_pow_right (by omega) hd
      have h3 : (10 : Nat) ^ 17 = 100000000000000000 := by decide
      omega
    rw [hN] at CN HG
    obtain ⟨M, hM⟩ : ∃ M, numS s.data.toList d = M := ⟨_, rfl⟩
    rw [hM] at HG ⊢
    clear hr hrl hrz hN t1 t2 hm hz hs hM hl
    cases N with
    | none =>
      have HG2 : Hid (M = none) := HG.out
      go_enter Tryz.func70, Tryz.ntmps70
      go_wp2_with fail
      refine CP.out.mono ?_
      rintro e w1 ⟨rfl, hw⟩
      obtain rfl := hw
      go_wp2_with fail
      refine CN.out.mono ?_
      rintro e w2 ⟨⟨v, rfl, _, _, _⟩, hb⟩
      go_wp2
      go_ret2
      rw [HG2.out]
      exact ⟨⟨_, rfl, fun h => (by cases h)⟩, hb⟩
    | some n =>
      rw [show (some n).isSome = true from rfl] at CN
      have hnb := hbd n rfl
      clear hbd
      have hw : IntKind.i64.wrap (-n) = -n := IntWalk.i64_in _ (by omega)
      by_cases h0 : n = 0
      · subst h0
        have HG2 : Hid (M = none) := by show _ = _; rw [HG.out]; rfl
        go_enter Tryz.func70, Tryz.ntmps70
        go_wp2_with fail
        refine CP.out.mono ?_
        rintro e w1 ⟨rfl, hw⟩
        obtain rfl := hw
        go_wp2_with fail
        refine CN.out.mono ?_
        rintro e w2 ⟨⟨v, rfl, hv, _, _⟩, hb⟩
        have hvn : v = 0 := by first | exact hv rfl | exact hv trivial | exact hv
        clear hv
        subst hvn
        go_wp2
        go_ret2
        rw [HG2.out]
        exact ⟨⟨_, rfl, fun h => (by cases h)⟩, hb⟩
      · have hne : (n != 0) = true := bne_iff_ne.2 h0
        have HG2 : Hid (M = some (-n)) := by
          show _ = _
          rw [HG.out]
          show (if n = 0 then none else some (-n)) = _
          rw [if_neg h0]
        clear HG h0
        go_enter Tryz.func70, Tryz.ntmps70
        go_wp2_with fail
        refine CP.out.mono ?_
        rintro e w1 ⟨rfl, hw⟩
        obtain rfl := hw
        go_wp2_with fail
        refine CN.out.mono ?_
        rintro e w2 ⟨⟨v, rfl, hv, _, _⟩, hb⟩
        have hvn : v = n := by first | exact hv rfl | exact hv trivial | exact hv
        clear hv
        subst hvn
        go_wp2
        go_ret2
        rw [HG2.out]
        exact ⟨⟨_, rfl, fun _ => rfl⟩, hb⟩
  · have CN := Lib.hid (numberR_any s d w hl hs hd1 hd)
    rw [if_neg hm, decide_eq_false hm] at CP
    have hs' : (⟨s.data.toList.toArray⟩ : ByteArray) = s := by apply ByteArray.ext; simp
    rw [hs'] at CP
    have HG := Lib.hid (numS_plain (d := d) hm)
    rw [HG.out]
    clear t1 t2 hm hz hs hs' hl HG
    go_enter Tryz.func70, Tryz.ntmps70
    go_wp2_with fail
    refine CP.out.mono ?_
    rintro e w1 ⟨rfl, hw⟩
    obtain rfl := hw
    go_wp2_with fail
    refine CN.out.mono ?_
    rintro e w2 ⟨⟨v, rfl, hv, _, _⟩, hb⟩
    go_wp2
    go_ret2
    exact ⟨⟨v, rfl, hv⟩, hb⟩
end Go.Proofs.YtjjflbnopphciacGreatDoor


namespace Go.Proofs.YtjjflbnopphciacGreatDoor
open Go.RowKit

set_option maxRecDepth 100000 in
set_option maxHeartbeats 2000000 in
theorem CheckRules01_any (n q : Int) (A : Option Addr) (c : Nat) (w : World) :
    Calls Tryz.prog 34 #[.agg #[.int .i64 0, .int .i64 1, .int .i64 n, .int .i64 q, .int .i64 0, .slice A 0 c]] w fun e w' => e = .returned (.int .i64 (ratE n q)) ∧ Below w.heap.size w w' := by
  have CX : Hid (∀ w', Below w.heap.size w w' → Calls Tryz.prog 66 #[.agg #[.int .i64 0, .int .i64 1, .int .i64 n, .int .i64 q, .int .i64 0, .slice A 0 c]] w' fun e w'' => e = .returned (.int .i64 (ratE n q)) ∧ Below w'.heap.size w' w'') := fun w' _ => rcheckRatio_any 0 1 n q A c w'
  obtain ⟨E, hE⟩ : ∃ E, ratE n q = E := ⟨_, rfl⟩
  rw [hE] at CX ⊢
  clear hE
  have C1 := Lib.hid (fun w => itpOf_1 w)
  unfold itp1 at C1
  go_enter Tryz.func34, Tryz.ntmps34
  go_wp2_with fail
  refine (C1.out _).mono ?_
  rintro e w1 ⟨rfl, hb1⟩
  have hI := OneB.later hb1 (OneB.start w 26 #[.int .i64 0, .int .i64 1, .int .i64 n, .int .i64 q, .int .i64 0, .slice A 0 c])
  have hlt := hI.k.lt
  have hne : ¬ w.heap.size = w1.heap.size := by omega
  clear hb1
  obtain ⟨c0, c1, c2, c3, c4, c5⟩ := hI.six
  have HI := Lib.hid hI
  clear hI
  go_wp2_with (first
    | (go_at_call 65; refine (when_any _ _ _).mono ?_; rintro e w' ⟨rfl, rfl⟩)
    | (go_at_call 33; refine (firstError2 (E1 := 0) (E2 := 0) (F := 0) rfl _ _ ?_ ?_).mono ?_; (focus (simp [go_sem])); (focus (simp [go_sem])); rintro e w' ⟨rfl, rfl⟩))
  refine (CX.out _ (by have := HI.out.b; have := this.size; go_grown)).mono ?_
  rintro e w2 ⟨rfl, hb2⟩
  have BW : Hid (Below w.heap.size w w2) := by
    have h1 := HI.out.b
    have h2 := h1.size
    have h3 : Below w.heap.size w ((w1.alloc (.cells #[.int .i64 1, .int .i64 0, .int .i64 64, .func (.func 76) #[] #[], .int .i64 8192, .func (.func 77) #[] #[]] 90)).alloc (.cells #[.int .i64 0, .int .i64 0] 37)) := (h1.alloc h2 _).alloc (by simp; omega) _
    exact h3.trans (hb2.mono (by simp; omega))
  clear hb2
  go_wp2
  go_ret
  exact ⟨rfl, BW.out⟩

set_option maxRecDepth 100000 in
set_option maxHeartbeats 2000000 in
theorem CheckRules03_any (n q : Int) (A : Option Addr) (c : Nat) (w : World) :
    Calls Tryz.prog 34 #[.agg #[.int .i64 0, .int .i64 3, .int .i64 n, .int .i64 q, .int .i64 0, .slice A 0 c]] w fun e w' => e = .returned (.int .i64 (ratE n q)) ∧ Below w.heap.size w w' := by
  have CX : Hid (∀ w', Below w.heap.size w w' → Calls Tryz.prog 66 #[.agg #[.int .i64 0, .int .i64 3, .int .i64 n, .int .i64 q, .int .i64 0, .slice A 0 c]] w' fun e w'' => e = .returned (.int .i64 (ratE n q)) ∧ Below w'.heap.size w' w'') := fun w' _ => rcheckRatio_any 0 3 n q A c w'
  obtain ⟨E, hE⟩ : ∃ E, ratE n q = E := ⟨_, rfl⟩
  rw [hE] at CX ⊢
  clear hE
  have C1 := Lib.hid (fun w => itpOf_3 w)
  unfold itp3 at C1
  go_enter Tryz.func34, Tryz.ntmps34
  go_wp2_with fail
  refine (C1.out _).mono ?_
  rintro e w1 ⟨rfl, hb1⟩
  have hI := OneB.later hb1 (OneB.start w 26 #[.int .i64 0, .int .i64 3, .int .i64 n, .int .i64 q, .int .i64 0, .slice A 0 c])
  have hlt := hI.k.lt
  have hne : ¬ w.heap.size = w1.heap.size := by omega
  clear hb1
  obtain ⟨c0, c1, c2, c3, c4, c5⟩ := hI.six
  have HI := Lib.hid hI
  clear hI
  go_wp2_with (first
    | (go_at_call 65; refine (when_any _ _ _).mono ?_; rintro e w' ⟨rfl, rfl⟩)
    | (go_at_call 33; refine (firstError2 (E1 := 0) (E2 := 0) (F := 0) rfl _ _ ?_ ?_).mono ?_; (focus (simp [go_sem])); (focus (simp [go_sem])); rintro e w' ⟨rfl, rfl⟩))
  refine (CX.out _ (by have := HI.out.b; have := this.size; go_grown)).mono ?_
  rintro e w2 ⟨rfl, hb2⟩
  have BW : Hid (Below w.heap.size w w2) := by
    have h1 := HI.out.b
    have h2 := h1.size
    have h3 : Below w.heap.size w ((w1.alloc (.cells #[.int .i64 3, .int .i64 1, .int .i64 1572864, .func (.func 78) #[] #[], .int .i64 402653184, .func (.func 79) #[] #[]] 90)).alloc (.cells #[.int .i64 0, .int .i64 0] 37)) := (h1.alloc h2 _).alloc (by simp; omega) _
    exact h3.trans (hb2.mono (by simp; omega))
  clear hb2
  go_wp2
  go_ret
  exact ⟨rfl, BW.out⟩

set_option maxRecDepth 100000 in
set_option maxHeartbeats 2000000 in
theorem CheckRules11_any (s : Int) (A : Option Addr) (m c : Nat) (ns : List (Int × Int)) (w : World) (hr : RdN w A m ns) (hm : m ≤ 1000000) :
    Calls Tryz.prog 34 #[.agg #[.int .i64 1, .int .i64 1, .int .i64 0, .int .i64 0, .int .i64 s, .slice A m c]] w fun e w' => e = .returned (.int .i64 (rmE s ns)) ∧ Below w.heap.size w w' := by
  have CX : Hid (∀ w', Below w.heap.size w w' → Calls Tryz.prog 67 #[.agg #[.int .i64 1, .int .i64 1, .int .i64 0, .int .i64 0, .int .i64 s, .slice A m c]] w' fun e w'' => e = .returned (.int .i64 (rmE s ns)) ∧ Below w'.heap.size w' w'') := fun w' hb => rcheckMap_any 1 1 s A m c ns w' (hr.below hb) hm
  clear hr
  obtain ⟨E, hE⟩ : ∃ E, rmE s ns = E := ⟨_, rfl⟩
  rw [hE] at CX ⊢
  clear hE
  have C1 := Lib.hid (fun w => itpOf_1 w)
  unfold itp1 at C1
  go_enter Tryz.func34, Tryz.ntmps34
  go_wp2_with fail
  refine (C1.out _).mono ?_
  rintro e w1 ⟨rfl, hb1⟩
  have hI := OneB.later hb1 (OneB.start w 26 #[.int .i64 1, .int .i64 1, .int .i64 0, .int .i64 0, .int .i64 s, .slice A m c])
  have hlt := hI.k.lt
  have hne : ¬ w.heap.size = w1.heap.size := by omega
  clear hb1
  obtain ⟨c0, c1, c2, c3, c4, c5⟩ := hI.six
  have HI := Lib.hid hI
  clear hI
  go_wp2_with (first
    | (go_at_call 65; refine (when_any _ _ _).mono ?_; rintro e w' ⟨rfl, rfl⟩)
    | (go_at_call 33; refine (firstError2 (E1 := 0) (E2 := 0) (F := 0) rfl _ _ ?_ ?_).mono ?_; (focus (simp [go_sem])); (focus (simp [go_sem])); rintro e w' ⟨rfl, rfl⟩))
  refine (CX.out _ (by have := HI.out.b; have := this.size; go_grown)).mono ?_
  rintro e w2 ⟨rfl, hb2⟩
  have BW : Hid (Below w.heap.size w w2) := by
    have h1 := HI.out.b
    have h2 := h1.size
    have h3 : Below w.heap.size w ((w1.alloc (.cells #[.int .i64 1, .int .i64 0, .int .i64 64, .func (.func 76) #[] #[], .int .i64 8192, .func (.func 77) #[] #[]] 90)).alloc (.cells #[.int .i64 0, .int .i64 0] 37)) := (h1.alloc h2 _).alloc (by simp; omega) _
    exact h3.trans (hb2.mono (by simp; omega))
  clear hb2
  go_wp2
  go_ret
  exact ⟨rfl, BW.out⟩

set_option maxRecDepth 100000 in
set_option maxHeartbeats 2000000 in
theorem CheckRules13_any (s : Int) (A : Option Addr) (m c : Nat) (ns : List (Int × Int)) (w : World) (hr : RdN w A m ns) (hm : m ≤ 1000000) :
    Calls Tryz.prog 34 #[.agg #[.int .i64 1, .int .i64 3, .int .i64 0, .int .i64 0, .int .i64 s, .slice A m c]] w fun e w' => e = .returned (.int .i64 (rmE s ns)) ∧ Below w.heap.size w w' := by
  have CX : Hid (∀ w', Below w.heap.size w w' → Calls Tryz.prog 67 #[.agg #[.int .i64 1, .int .i64 3, .int .i64 0, .int .i64 0, .int .i64 s, .slice A m c]] w' fun e w'' => e = .returned (.int .i64 (rmE s ns)) ∧ Below w'.heap.size w' w'') := fun w' hb => rcheckMap_any 1 3 s A m c ns w' (hr.below hb) hm
  clear hr
  obtain ⟨E, hE⟩ : ∃ E, rmE s ns = E := ⟨_, rfl⟩
  rw [hE] at CX ⊢
  clear hE
  have C1 := Lib.hid (fun w => itpOf_3 w)
  unfold itp3 at C1
  go_enter Tryz.func34, Tryz.ntmps34
  go_wp2_with fail
  refine (C1.out _).mono ?_
  rintro e w1 ⟨rfl, hb1⟩
  have hI := OneB.later hb1 (OneB.start w 26 #[.int .i64 1, .int .i64 3, .int .i64 0, .int .i64 0, .int .i64 s, .slice A m c])
  have hlt := hI.k.lt
  have hne : ¬ w.heap.size = w1.heap.size := by omega
  clear hb1
  obtain ⟨c0, c1, c2, c3, c4, c5⟩ := hI.six
  have HI := Lib.hid hI
  clear hI
  go_wp2_with (first
    | (go_at_call 65; refine (when_any _ _ _).mono ?_; rintro e w' ⟨rfl, rfl⟩)
    | (go_at_call 33; refine (firstError2 (E1 := 0) (E2 := 0) (F := 0) rfl _ _ ?_ ?_).mono ?_; (focus (simp [go_sem])); (focus (simp [go_sem])); rintro e w' ⟨rfl, rfl⟩))
  refine (CX.out _ (by have := HI.out.b; have := this.size; go_grown)).mono ?_
  rintro e w2 ⟨rfl, hb2⟩
  have BW : Hid (Below w.heap.size w w2) := by
    have h1 := HI.out.b
    have h2 := h1.size
    have h3 : Below w.heap.size w ((w1.alloc (.cells #[.int .i64 3, .int .i64 1, .int .i64 1572864, .func (.func 78) #[] #[], .int .i64 402653184, .func (.func 79) #[] #[]] 90)).alloc (.cells #[.int .i64 0, .int .i64 0] 37)) := (h1.alloc h2 _).alloc (by simp; omega) _
    exact h3.trans (hb2.mono (by simp; omega))
  clear hb2
  go_wp2
  go_ret
  exact ⟨rfl, BW.out⟩

end Go.Proofs.YtjjflbnopphciacGreatDoor

namespace Go.Proofs.YtjjflbnopphciacGreatDoor
open Go.RowKit

open Go.Shelf

variable {F : Fence} {n : Nat} {P : Program}

/-- An iterator that may have no end of its own: what the caller says between two rounds (J) bounds how many rounds there have been. -/
def SeqLim {α : Type} (F : Fence) (n : Nat) (P : Program) (g : Nat) (lb : Array Value) (encs : α → Array Value) (Kp : World → World → Prop) (S Sp : List α → Prop) (M : Nat) (w : World) : Prop :=
  ∀ (l : Nat) (J Jx : List α → World → Prop) (W : World), Below w.heap.size w W → AbidesFrom W.heap.size J → AbidesFrom W.heap.size Jx →
    (∀ pre W1, J pre W1 → pre.length ≤ M) →
    (∀ pre x W1, J pre W1 → Sp (pre ++ [x]) → YieldAt F (n - 1) P l (encs x) W1 fun e W' =>
      (e = .returned (.bool true) ∧ J (pre ++ [x]) W' ∧ Kp W1 W') ∨ (e = .returned (.bool false) ∧ Jx (pre ++ [x]) W')) →
    J [] W → CallsIn F n P g (#[.func (.yield l) #[] #[]] ++ lb) W fun e W' => (∃ v, e = .returned v) ∧ ((∃ xs, S xs ∧ J xs W') ∨ (∃ pre, Sp pre ∧ Jx pre W'))

theorem wpIn_rangeFunc_lim {α : Type} {g : Operand} {ps : Array Tmp} {assign body : Code} {Q : Exit → Act → World → Prop} {a : Act} {w : World}
    (hro : F.round = none) (h1 : 1 ≤ n) {gf : Nat} {lb : Array Value} (hg : a.eval g = .func (.func gf) #[] lb) (hFg : F.fn gf) (eg : ∀ args w, (callFunc gf args).run P w = .ok (.enter gf args) w)
    {encs : α → Array Value} {Kp : World → World → Prop} {S Sp : List α → Prop} {M : Nat} {w0 : World} (hseq : SeqLim F (n - 1) P gf lb encs Kp S Sp M w0) (hb0 : Below w0.heap.size w0 w) (hps : ∀ x, (encs x).size = ps.size)
    (hKt : ∀ {A B C : World}, Kp A B → Kp B C → Kp A C) (hKb : ∀ (W : World) (l : Nat) (o o' : Obj), w.heap.size ≤ l → W.heap[l]? = some o → o.isCells = false → Kp W (W.putObj l o'))
    (I : List α → World → Prop) (Ix : Code → List α → World → Prop) (hI : OwnFrom w.heap.size I) (hIx : ∀ c, OwnFrom w.heap.size (Ix c)) (hlim : ∀ pre W, I pre W → pre.length ≤ M) (h0 : I [] w)
    (a₁ : α → Act)
    (hassign : ∀ (l : Nat) (x : α) (W : World) (K : Act → World → Prop), K (a₁ x) W →
      assign.wpIn (F.inRound l) (n - 1 - 1) P (Exit.then K (fun _ _ _ => False)) { tmps := (ps.zip (encs x)).foldl (fun t (p, v) => t.setIfInBounds p v) a.tmps, defers := [] } W)
    (hbody : ∀ (l : Nat) (pre : List α) (x : α) (W : World), I pre W → Sp (pre ++ [x]) → body.wpIn (F.inRound l) (n - 1 - 1) P (ownPostG w.heap.size Kp I Ix (pre ++ [x]) W) (a₁ x) W)
    (hdone : ∀ (D : Nat) (xs : List α) (W : World), w.heap.size ≤ D → S xs → I xs W → W.heap[D]? = some (.deferred (some [])) → Q .normal { a with defers := { target := .collected D, args := #[] } :: a.defers } W)
    (hstop : ∀ (D : Nat) (c : Code) (pre : List α) (W : World), w.heap.size ≤ D → Sp pre → Ix c pre W → W.heap[D]? = some (.deferred (some [])) → c.wpIn F n P Q { a with defers := { target := .collected D, args := #[] } :: a.defers } W) :
    (Code.rangeFunc g ps assign body).wpIn F n P Q a w := by
  refine wpIn_rangeFunc ?_
  intro fn hfn
  rw [hro]
  have hlD : ((w.alloc (.deferred (some []))).alloc (.loop { state := .ready, pending := none, fn, tmps := a.tmps, params := ps, assign, body, defers := w.heap.size })).heap[w.heap.size + 1]? = some (.loop { state := .ready, pending := none, fn, tmps := a.tmps, params := ps, assign, body, defers := w.heap.size }) := by
    have := World.alloc_heap_new (w.alloc (.deferred (some []))) (.loop { state := .ready, pending := none, fn, tmps := a.tmps, params := ps, assign, body, defers := w.heap.size })
    rwa [World.size_alloc] at this
  have hdD : ((w.alloc (.deferred (some []))).alloc (.loop { state := .ready, pending := none, fn, tmps := a.tmps, params := ps, assign, body, defers := w.heap.size })).heap[w.heap.size]? = some (.deferred (some [])) :=
    (Below.heap_alloc _ _ _ (by simp)).trans (World.alloc_heap_new w _)
  have hb1 : Below w0.heap.size w0 ((w.alloc (.deferred (some []))).alloc (.loop { state := .ready, pending := none, fn, tmps := a.tmps, params := ps, assign, body, defers := w.heap.size })) := hb0.trans ((((Below.refl _ w).alloc (Nat.le_refl _) _).alloc (by simp) _).mono hb0.size)
  have hI1 := hI.alloc (.loop { state := .ready, pending := none, fn, tmps := a.tmps, params := ps, assign, body, defers := w.heap.size }) (hI.alloc (.deferred (some [])) h0)
  have hent := run_enterLoop_outer (P := P) (w := w) fn a.tmps ps assign body
  have hsz : w.heap.size ≤ ((w.alloc (.deferred (some []))).alloc (.loop { state := .ready, pending := none, fn, tmps := a.tmps, params := ps, assign, body, defers := w.heap.size })).heap.size := by simp; omega
  obtain ⟨W1, hW1⟩ : ∃ W1, (w.alloc (.deferred (some []))).alloc (.loop { state := .ready, pending := none, fn, tmps := a.tmps, params := ps, assign, body, defers := w.heap.size }) = W1 := ⟨_, rfl⟩
  rw [hW1] at hlD hdD hb1 hI1 hent hsz
  refine ⟨w.heap.size + 1, _, W1, { target := .fn (.func gf) lb, args := #[.func (.yield (w.heap.size + 1)) #[] #[]] }, W1, gf, #[.func (.yield (w.heap.size + 1)) #[] #[]] ++ lb, W1, hent, ?_, ?_, ?_, fun _ => h1, ?_⟩
  · simp only [resolve, hg]
    simp [go_sem]
  · intro f' hf'
    simp [Target.leads] at hf'
    subst hf'
    exact hFg
  · simp [invoke, go_sem, eg]
  · have noc : ∀ {A B : World} {row : Option Nat}, (∀ r, row = some r → W1.heap.size ≤ r ∧ ∃ o : Obj, A.heap[r]? = some o ∧ o.isWalk = true) → (∀ r, row = some r → w.heap.size ≤ r ∧ ∃ o : Obj, A.heap[r]? = some o ∧ o.isCells = false) :=
      fun hr r e => by obtain ⟨hB, o, ho, hw⟩ := hr r e; exact ⟨Nat.le_trans hsz hB, o, ho, Obj.not_cells_of_walk hw⟩
    refine (hseq (w.heap.size + 1)
      (fun pre W => I pre W ∧ W.heap[w.heap.size + 1]? = some (.loop { state := .ready, pending := none, fn, tmps := a.tmps, params := ps, assign, body, defers := w.heap.size }) ∧ W.heap[w.heap.size]? = some (.deferred (some [])))
      (fun pre W => ∃ c, Ix c pre W ∧ W.heap[w.heap.size + 1]? = some (.loop { state := .done, pending := some c, fn, tmps := a.tmps, params := ps, assign, body, defers := w.heap.size }) ∧ W.heap[w.heap.size]? = some (.deferred (some [])))
      W1 hb1 ?_ ?_ ?_ ?_ ⟨hI1, hlD, hdD⟩).mono ?_
    · exact fun s A B row hs hg' hr => ⟨hI s A B row hs.1 hg' (noc (B := B) hr), (grownBy_keeps hg' (fun r e => (hr r e).2) hs.2.1 rfl).trans hs.2.1, (grownBy_keeps hg' (fun r e => (hr r e).2) hs.2.2 rfl).trans hs.2.2⟩
    · rintro s A B row ⟨c, hc, hl, hk⟩ hg' hr
      exact ⟨c, hIx c s A B row hc hg' (noc (B := B) hr), (grownBy_keeps hg' (fun r e => (hr r e).2) hl rfl).trans hl, (grownBy_keeps hg' (fun r e => (hr r e).2) hk rfl).trans hk⟩
    · exact fun pre W h => hlim pre W h.1
    · rintro pre x W ⟨hi, hl, hk⟩ hsp
      have hlt : w.heap.size + 1 < W.heap.size := (Array.getElem?_eq_some_iff.1 hl).1
      refine ⟨fn, _, assign, body, run_yield hl (hps x), roundIn_of_wpIn hfn (hassign _ x W _ ⟨_, run_beginRound hl rfl, ?_⟩)⟩
      have hl2 : (W.putObj (w.heap.size + 1) (.loop { state := .busy, pending := none, fn, tmps := a.tmps, params := ps, assign, body, defers := w.heap.size })).heap[w.heap.size + 1]? = some (.loop { state := .busy, pending := none, fn, tmps := a.tmps, params := ps, assign, body, defers := w.heap.size }) := World.putObj_heap_same hlt
      have hk2 : (W.putObj (w.heap.size + 1) (.loop { state := .busy, pending := none, fn, tmps := a.tmps, params := ps, assign, body, defers := w.heap.size })).heap[w.heap.size]? = some (.deferred (some [])) := (World.putObj_heap_other (by omega)).trans hk
      refine wpIn_mono (hbody _ pre x _ (hI.putObj _ hi (by omega) hl rfl) hsp) ?_
      rintro e a3 W3 hp
      cases e with
      | normal =>
        obtain ⟨hk3, hkp, hi3⟩ := hp
        have hl3 := hk3.same _ _ (by omega) hl2 rfl
        have hd3 := hk3.same _ _ (Nat.le_refl _) hk2 rfl
        exact ⟨_, _, run_endRound none hl3, .inl ⟨rfl, ⟨hI.putObj _ hi3 (by omega) hl3 rfl, World.putObj_heap_same (Array.getElem?_eq_some_iff.1 hl3).1, (World.putObj_heap_other (by omega)).trans hd3⟩, hKt (hKt (hKb _ _ _ _ (by omega) hl rfl) hkp) (hKb _ _ _ _ (by omega) hl3 rfl)⟩⟩
      | ret =>
        obtain ⟨hk3, hi3⟩ := hp
        have hl3 := hk3.same _ _ (by omega) hl2 rfl
        have hd3 := hk3.same _ _ (Nat.le_refl _) hk2 rfl
        exact ⟨_, _, run_endRound (some .ret) hl3, .inr ⟨rfl, .ret, (hIx _).putObj _ hi3 (by omega) hl3 rfl, World.putObj_heap_same (Array.getElem?_eq_some_iff.1 hl3).1, (World.putObj_heap_other (by omega)).trans hd3⟩⟩
      | exit id =>
        obtain ⟨hk3, hi3⟩ := hp
        have hl3 := hk3.same _ _ (by omega) hl2 rfl
        have hd3 := hk3.same _ _ (Nat.le_refl _) hk2 rfl
        exact ⟨_, _, run_endRound (some (.exit id)) hl3, .inr ⟨rfl, .exit id, (hIx _).putObj _ hi3 (by omega) hl3 rfl, World.putObj_heap_same (Array.getElem?_eq_some_iff.1 hl3).1, (World.putObj_heap_other (by omega)).trans hd3⟩⟩
      | goto t =>
        obtain ⟨hk3, hi3⟩ := hp
        have hl3 := hk3.same _ _ (by omega) hl2 rfl
        have hd3 := hk3.same _ _ (Nat.le_refl _) hk2 rfl
        exact ⟨_, _, run_endRound (some (.goto t)) hl3, .inr ⟨rfl, .goto t, (hIx _).putObj _ hi3 (by omega) hl3 rfl, World.putObj_heap_same (Array.getElem?_eq_some_iff.1 hl3).1, (World.putObj_heap_other (by omega)).trans hd3⟩⟩
      | panic ch => exact hp.elim
      | outgrown => exact hp.elim
    · rintro e W2 ⟨⟨v, rfl⟩, (⟨xs, hS, hi, hl, hk⟩ | ⟨pre, hSp, c, hi, hl, hk⟩)⟩
      · exact ⟨none, _, run_endLoop hl (by simp), hdone _ xs _ (Nat.le_refl _) hS (hI.putObj _ hi (by omega) hl rfl) ((World.putObj_heap_other (by omega)).trans hk)⟩
      · exact ⟨some c, _, run_endLoop hl (by simp), hstop _ c pre _ (Nat.le_refl _) hSp ((hIx c).putObj _ hi (by omega) hl rfl) ((World.putObj_heap_other (by omega)).trans hk)⟩

end Go.Proofs.YtjjflbnopphciacGreatDoor

namespace Go.Proofs.YtjjflbnopphciacGreatDoor
open Go.RowKit

open Go.Shelf
attribute [local go_sem] Oper.semAt_some

/-- What lies below n0 lies as it lay, but for block B. -/
structure KB (B n0 : Nat) (W W' : World) : Prop where
  block : ∀ g, g < n0 → g ≠ B → W'.heap[g]? = W.heap[g]?
  size : W.heap.size ≤ W'.heap.size
theorem KB.refl (B n0 : Nat) (W : World) : KB B n0 W W := ⟨fun _ _ _ => rfl, Nat.le_refl _⟩
theorem KB.trans {B n0 : Nat} {X Y Z : World} (h : KB B n0 X Y) (k : KB B n0 Y Z) : KB B n0 X Z := ⟨fun g a b => (k.block g a b).trans (h.block g a b), Nat.le_trans h.size k.size⟩
theorem KB.of_below {B n0 : Nat} {W W' : World} (h : Below n0 W W') : KB B n0 W W' := ⟨fun g a _ => h.block g a, h.size⟩
theorem KB.putObj {B n0 : Nat} (W : World) (l : Nat) (o' : Obj) (hl : n0 ≤ l) : KB B n0 W (W.putObj l o') := ⟨fun g a _ => World.putObj_heap_other (by omega), (grownBy_putObj' W l o').size⟩
theorem KB.bk {B n0 g : Nat} {W W' : World} {t : TypeId} {cs : Array Value} (h : KB B n0 W W') (k : Bk W g t cs) (h1 : g < n0) (h2 : g ≠ B) : Bk W' g t cs := (h.block g h1 h2).trans k
theorem KB.cell {B n0 g o : Nat} {W W' : World} (h : KB B n0 W W') (h1 : g < n0) (h2 : g ≠ B) : W'.cell? ⟨g, o, none⟩ = W.cell? ⟨g, o, none⟩ := by simp [World.cell?, h.block g h1 h2]

theorem grown_of_below {W W' : World} (h : Below W.heap.size W W') : W.grownBy W' none := ⟨h.1, h.2, h.3, h.4, fun k hk _ => h.block k hk⟩

theorem outputsOf_any (rs : Array Value) (w : World) (h : ∃ a b c d e f : Value, rs = #[a, b, c, d, e, f] ∧ a.oneCell' = true ∧ b.oneCell' = true ∧ c.oneCell' = true ∧ d.oneCell' = true ∧ e.oneCell' = true ∧ f.oneCell' = true) :
    Calls Tryz.prog 82 #[.agg rs] w fun e w' => e = .returned (.func (.func 99) #[] #[.pointer (some ⟨w.heap.size, 0, none⟩)]) ∧ w' = w.alloc (.cells rs 26) := by
  obtain ⟨a, b, c, d, e, f, rfl, h1, h2, h3, h4, h5, h6⟩ := h
  go_enter Tryz.func82, Tryz.ntmps82
  go_wp2
  go_ret
  exact ⟨rfl, rfl⟩

set_option maxRecDepth 100000 in
set_option maxHeartbeats 4000000 in
theorem outs_lim (n : Nat) (hn : 1 ≤ n) (gr B n0 M : Nat) (opv : Nat → Int × Int) (k0 k1 k2 k3 k4 : Int) (A : Option Addr) (m c : Nat) (w0 : World) (hgr : gr < w0.heap.size) (hB : gr ≠ B) (hn0 : w0.heap.size = n0) (hM : M ≤ 1000000)
    (hbk : Bk w0 gr 26 #[.int .i64 k0, .int .i64 k1, .int .i64 k2, .int .i64 k3, .int .i64 k4, .slice A m c])
    (hop : ∀ (k : Nat) W, k ≤ M → KB B n0 w0 W → Calls Tryz.prog 100 #[.agg #[.int .i64 k0, .int .i64 k1, .int .i64 k2, .int .i64 k3, .int .i64 k4, .slice A m c], .int .i64 k] W fun e w' => e = .returned (.tuple #[.int .i64 (opv k).1, .int .i64 (opv k).2]) ∧ Below W.heap.size W w') :
    SeqLim Fence.wide n Tryz.prog 99 #[.pointer (some ⟨gr, 0, none⟩)] (fun k : Nat => #[Value.int .i64 (opv k).1]) (KB B n0) (fun xs => ∃ q, xs = List.range q ∧ q ≤ M ∧ (∀ i, i < q → (opv i).2 = 0) ∧ (opv q).2 ≠ 0) (fun pre => ∃ q, pre = List.range q ∧ q ≤ M + 1 ∧ ∀ i, i < q → (opv i).2 = 0) M w0 := fun l J Jx W hW hJ hJx hlim hY h0 => by
  have HY := Lib.hid hY
  have H0 := Lib.hid h0
  have HJ := Lib.hid hJ
  have HLim := Lib.hid hlim
  have HOP := Lib.hid hop
  have HBK := Lib.hid hbk
  have HW : Hid (KB B n0 w0 W) := KB.of_below (by rw [← hn0]; exact hW)
  clear hY h0 hJ hJx hlim hop hbk hW
  refine callsIn_of_wp Tryz.func99 rfl trivial ?_ rfl
  simp only [Tryz.ntmps99, List.size_toArray, List.length_cons, List.length_nil, Nat.reduceAdd, Nat.reduceSub, Array.replicate_succ, Array.replicate_zero, List.push_toArray, List.append_toArray, List.nil_append, List.cons_append]
  gi_wp2
  gi_loopw [3] (fun i wr => ∃ k : Nat, k ≤ M ∧ i = .int .i64 k ∧ J (List.range k) wr ∧ Hid (KB B n0 w0 wr) ∧ Hid (∀ i, i < k → (opv i).2 = 0)) (fun i _ => (M + 1 - (intOf i).toNat))
  case atStart =>
    exact ⟨0, Nat.zero_le _, rfl, H0.out, HW, by intro i hi; omega⟩
  case round =>
    obtain ⟨k, hk, rfl, hJ, HK, HE⟩ := hrel
    obtain ⟨c0, c1, c2, c3, c4, c5⟩ := bk6 (HK.out.bk HBK.out (by omega) hB)
    have CO := Lib.hid (HOP.out k wr hk HK.out)
    have hst := HK.out.size
    gi_wp2_with fail
    refine ⟨trivial, ?_⟩
    refine (callsIn_wide.2 CO.out).mono ?_
    rintro e w2 ⟨rfl, hb2⟩
    have hJ2 := HJ.out _ _ _ none hJ (grown_of_below hb2) (fun r e => by cases e)
    have HK2 : Hid (KB B n0 w0 w2) := HK.out.trans (KB.of_below (hb2.mono (by omega)))
    clear hb2 hJ c0 c1 c2 c3 c4 c5 CO
    by_cases hE : (opv k).2 = 0
    · obtain ⟨fn, tmps, assign, body, hy, hR⟩ := HY.out (List.range k) k w2 hJ2 ⟨k + 1, by rw [List.range_succ], by omega, fun i hi => by
        rcases (by omega : i < k ∨ i = k) with h | rfl
        · exact HE.out i h
        · exact hE⟩
      obtain ⟨p, hp⟩ : ∃ p, (opv k).1 = p := ⟨_, rfl⟩
      rw [hp] at hy ⊢
      have hE2 : (opv k).2 = 0 := hE
      rw [hE]
      have HEk := Lib.hid hE
      clear hE hp hE2 hJ2
      gi_wp2
      refine hR.mono ?_
      rintro e W3 (⟨rfl, hJ3, hk3⟩ | ⟨rfl, hJx3⟩)
      · have hl3 := HLim.out _ _ hJ3
        simp at hl3
        gi_wp2
        go_roundw
        case rel =>
          refine ⟨k + 1, by omega, by go_num, by rw [List.range_succ]; exact hJ3, HK2.out.trans hk3, ?_⟩
          intro i hi
          rcases (by omega : i < k ∨ i = k) with h | rfl
          · exact HE.out i h
          · exact HEk.out
        case measure => simp only [intOf]; first | omega | (simp [intOf]; omega)
      · gi_wp2
        refine bodyPost_ret (results_none rfl _ _ _) rfl ?_
        exact ⟨⟨_, rfl⟩, .inr ⟨_, ⟨k + 1, by rw [List.range_succ], by omega, fun i hi => by
          rcases (by omega : i < k ∨ i = k) with h | rfl
          · exact HE.out i h
          · exact HEk.out⟩, hJx3⟩⟩
    · have hne : ((opv k).2 != 0) = true := by rw [bne_iff_ne]; exact hE
      have HNE := Lib.hid hE
      clear hE
      gi_wp2
      refine ⟨fun _ h => (by cases h), ?_⟩
      gi_wp2
      refine bodyPost_ret (results_none rfl _ _ _) rfl ?_
      exact ⟨⟨_, rfl⟩, .inl ⟨_, ⟨k, rfl, hk, HE.out, HNE.out⟩, hJ2⟩⟩

end Go.Proofs.YtjjflbnopphciacGreatDoor


namespace Go.Proofs.YtjjflbnopphciacGreatDoor
open Go.RowKit

theorem OneB.far {w W : World} {g : Nat} {t : TypeId} {cs : Array Value} (h : OneB w g t cs W) (p : Addr) (hp : g ≠ p.block) (hb : w.heap.size ≤ p.block) (v : Value) : OneB w g t cs (W.setCell p v) := ⟨h.k.far p hp v, h.b.setCell hb v⟩
/-- The positions of outputs by a ratio. -/
def opR0 (n q : Int) (k : Nat) : Int × Int := (64 * (k : Int) * n / q, 0)
set_option maxHeartbeats 1000000 in
theorem outPos0_any (d n q : Int) (A : Option Addr) (c : Nat) (k : Nat) (w : World) (hk : k ≤ 1000000) (hn : 1 ≤ n ∧ n ≤ 1000) (hq : 1 ≤ q ∧ q ≤ 1000) :
    Calls Tryz.prog 100 #[.agg #[.int .i64 0, .int .i64 d, .int .i64 n, .int .i64 q, .int .i64 0, .slice A 0 c], .int .i64 k] w fun e w' => e = .returned (.tuple #[.int .i64 (opR0 n q k).1, .int .i64 (opR0 n q k).2]) ∧ Below w.heap.size w w' := by
  have hm := mulB (a := 64 * (k : Int)) (b := n) 64000000 1000 (by omega) (by omega) (by omega) (by omega) 64000000000 (by omega)
  have h1 : IntKind.i64.wrap (64 * (k : Int)) = 64 * (k : Int) := IntWalk.i64_in _ (by omega)
  have h2 : IntKind.i64.wrap (64 * (k : Int) * n) = 64 * (k : Int) * n := IntWalk.i64_in _ (by omega)
  have hp : 0 ≤ 64 * (k : Int) * n := Int.mul_nonneg (by omega) (by omega)
  have HO : Hid (opR0 n q k = (64 * (k : Int) * n / q, 0)) := rfl
  obtain ⟨p, hpp⟩ : ∃ p, 64 * (k : Int) * n = p := ⟨_, rfl⟩
  have h3 : IntKind.i64.wrap (64 * (k : Int) * n) = p := by rw [← hpp]; exact h2
  rw [hpp] at HO hp hm
  clear h2 hpp
  have hq0 : ¬ q = 0 := by omega
  have hq1 : (q == 0) = false := by rw [beq_eq_false_iff_ne]; omega
  have hb := ediv_bd p q (by omega) (by omega)
  go_enter Tryz.func100, Tryz.ntmps100
  go_wp2
  refine bodyPost_ret (v := .tuple #[.int .i64 (p / q), .int .i64 0]) (by simp [results, Tryz.results100, go_sem]) rfl ⟨by rw [HO.out], by go_grown⟩

/-- .. and by a map. -/
def opR1 (s : Int) (ns : List (Int × Int)) (k : Nat) : Int × Int := ((posR ((ns.getD 0 (0, 0)).2 + (k : Int) * s) ns).1, (posR ((ns.getD 0 (0, 0)).2 + (k : Int) * s) ns).2.2)
set_option maxRecDepth 100000 in
set_option maxHeartbeats 2000000 in
theorem outPos1_any (d s : Int) (A : Option Addr) (m c : Nat) (ns : List (Int × Int)) (k : Nat) (w : World) (hr : RdN w A m ns) (hm : 0 < m ∧ m ≤ 1000000) (hk : k ≤ 1000000) (hs : 0 ≤ s ∧ s ≤ 1000000000000) (ht : 0 ≤ (ns.getD 0 (0, 0)).2 ∧ (ns.getD 0 (0, 0)).2 ≤ 1000000000000) :
    Calls Tryz.prog 100 #[.agg #[.int .i64 1, .int .i64 d, .int .i64 0, .int .i64 0, .int .i64 s, .slice A m c], .int .i64 k] w fun e w' => e = .returned (.tuple #[.int .i64 (opR1 s ns k).1, .int .i64 (opR1 s ns k).2]) ∧ Below w.heap.size w w' := by
  obtain ⟨g, rfl, hgl, hcs⟩ := hr.2 hm.1
  obtain ⟨_, hc1⟩ := hcs 0 hm.1
  rw [Nat.zero_mul, Nat.zero_add] at hc1
  clear hcs
  have HO : Hid (opR1 s ns k = ((posR ((ns.getD 0 (0, 0)).2 + (k : Int) * s) ns).1, (posR ((ns.getD 0 (0, 0)).2 + (k : Int) * s) ns).2.2)) := rfl
  have CP : Hid (∀ w' t, Below w.heap.size w w' → Calls Tryz.prog 118 #[.agg #[.slice (some ⟨g, 0, none⟩) m c], .int .i64 t] w' (PosRes t ns w')) := fun w' t hb => PositionAt_any _ m c ns t w' (hr.below hb) hm.2
  clear hr
  obtain ⟨t0, ht0⟩ : ∃ t, (ns.getD 0 (0, 0)).2 = t := ⟨_, rfl⟩
  rw [ht0] at ht hc1 HO
  have HT0 := Lib.hid hc1
  clear ht0 hc1
  have hmu := mulB (a := (k : Int)) (b := s) 1000000 1000000000000 (by omega) (by omega) (by omega) (by omega) 1000000000000000000 (by omega)
  have h1 : IntKind.i64.wrap ((k : Int) * s) = (k : Int) * s := IntWalk.i64_in _ (by omega)
  have h2 : IntKind.i64.wrap (t0 + (k : Int) * s) = t0 + (k : Int) * s := IntWalk.i64_in _ (by omega)
  obtain ⟨t, htt⟩ : ∃ t, t0 + (k : Int) * s = t := ⟨_, rfl⟩
  have h3 : IntKind.i64.wrap (t0 + (k : Int) * s) = t := by rw [← htt]; exact h2
  rw [htt] at HO
  have CPt := Lib.hid (fun w' hb => CP.out w' t hb)
  clear h2 htt CP
  obtain ⟨⟨lo, hi, er⟩, hpr⟩ : ∃ p, posR t ns = p := ⟨_, rfl⟩
  rw [hpr] at HO
  have HPR := Lib.hid hpr
  clear hpr
  have hm0 : (0 : Int) < (m : Int) := by omega
  have hm0N : 0 < m := hm.1
  go_enter Tryz.func100, Tryz.ntmps100
  go_wp2
  have hI := OneB.start w 26 #[.int .i64 1, .int .i64 d, .int .i64 0, .int .i64 0, .int .i64 s, .slice (some ⟨g, 0, none⟩) m c]
  obtain ⟨W, hW⟩ : ∃ W, w.alloc (.cells #[.int .i64 1, .int .i64 d, .int .i64 0, .int .i64 0, .int .i64 s, .slice (some ⟨g, 0, none⟩) m c] 26) = W := ⟨_, rfl⟩
  rw [hW] at hI ⊢
  clear hW
  have hgs : w.heap.size < W.heap.size := hI.k.lt
  have hgW : W.cell? ⟨g, 1, none⟩ = some (.int .i64 t0) := (hI.b.cell (p := ⟨g, 1, none⟩) hgl).trans HT0.out
  go_region_held3 (fun w' : World => ((w'.cell? ⟨w.heap.size, 0, none⟩ = some (.int .i64 1) ∧ w'.cell? ⟨w.heap.size, 1, none⟩ = some (.int .i64 d) ∧ w'.cell? ⟨w.heap.size, 2, none⟩ = some (.int .i64 0) ∧ w'.cell? ⟨w.heap.size, 3, none⟩ = some (.int .i64 0) ∧ w'.cell? ⟨w.heap.size, 4, none⟩ = some (.int .i64 s) ∧ w'.cell? ⟨w.heap.size, 5, none⟩ = some (.slice (some ⟨g, 0, none⟩) m c)) ∧ w'.cell? ⟨g, 1, none⟩ = some (.int .i64 t0)) ∧ OneB w w.heap.size 26 #[.int .i64 1, .int .i64 d, .int .i64 0, .int .i64 0, .int .i64 s, .slice (some ⟨g, 0, none⟩) m c] w') ((refine (fun hI => ⟨⟨OneB.six hI, (hI.b.cell (p := ⟨g, 1, none⟩) hgl).trans HT0.out⟩, hI⟩) ?_; repeat (first | assumption | refine OneB.drew ?_ | refine OneB.alloc ?_ _ | refine OneB.far ?_ _ (by dsimp only; omega) (by dsimp only; omega) _)))
    ((go_at_call 118; refine (CPt.out _ (OneB.b (g := w.heap.size) (t := 26) (cs := #[.int .i64 1, .int .i64 d, .int .i64 0, .int .i64 0, .int .i64 s, .slice (some ⟨g, 0, none⟩) m c]) ?_)).mono ?_; (focus (repeat (first | assumption | refine OneB.drew ?_ | refine OneB.alloc ?_ _))); rintro e w3 ⟨hre, hb3⟩; rw [HPR.out] at hre; subst hre; have hI3 : OneB w w.heap.size 26 #[.int .i64 1, .int .i64 d, .int .i64 0, .int .i64 0, .int .i64 s, .slice (some ⟨g, 0, none⟩) m c] w3 := OneB.later hb3 (by repeat (first | assumption | refine OneB.drew ?_ | refine OneB.alloc ?_ _)); have hl3 := hI3.k.lt; (first | (have kR := Bk.later (Bk.drew (Bk.new W 151 #[.int .i64 0, .int .i64 0])) hb3; have kq := bk2 kR; obtain ⟨e0, e1, k0, k1⟩ := kq) | skip)))
  all_goals
    go_wp2
    refine bodyPost_ret (v := .tuple #[.int .i64 lo, .int .i64 er]) (by simp [results, Tryz.results100, go_sem]) rfl ⟨by rw [HO.out], ?_⟩
    have := hI3.b
    have := this.size
    go_grown

end Go.Proofs.YtjjflbnopphciacGreatDoor

