import Derived.Shelf.Strings.OnBuilder
import Derived.Shelf.LaysM
import Derived.Shelf.Strconv.Itoa3
import Derived.Shelf.Strconv.AtoiAll
import Derived.Shelf.Strings.Shaped
import Derived.Shelf.Strings.Split
import Derived.Shelf.Strings.SplitShaped
import Derived.Test.YtjjflbnopphciaaGreatDoorProg
import Derived.Test.YtjjflbnopphciaaGreatDoorXK
import Derived.Test.YtjjflbnopphciaaGreatDoorXE
import Derived.Test.YtjjflbnopphciaaGreatDoorXF
import Derived.Test.YtjjflbnopphciaaGreatDoorXC
import Derived.Test.YtjjflbnopphciaaGreatDoorXD
namespace Go.Proofs
open Go.Shelf
def Tryz.lays156_ren : Go.Shelf.Ren := ⟨fun | 156 => 37 | 165 => 66 | 166 => 67 | 169 => 68 | 240 => 88 | 241 => 89 | 276 => 103 | 277 => 104 | n => n, fun | 31 => 87 | 9 => 9 | 3 => 3 | 4 => 4 | 0 => 0 | 20 => 20 | 72 => 121 | 76 => 125 | 70 => 118 | 37 => 119 | 75 => 124 | 127 => 148 | 164 => 167 | 5 => 5 | 80 => 127 | n => n, fun | n => n⟩
theorem Tryz.lays156 : Go.Proofs.Lays.n156 Tryz.prog Tryz.lays156_ren := {
  mixed := by kernel_rfl
  f156 := Tryz.func37.trans (congrArg some (by kernel_rfl))
  f165 := Tryz.func66.trans (congrArg some (by kernel_rfl))
  f166 := Tryz.func67.trans (congrArg some (by kernel_rfl))
  f169 := Tryz.func68.trans (congrArg some (by kernel_rfl))
  f240 := Tryz.func88.trans (congrArg some (by kernel_rfl))
  f241 := Tryz.func89.trans (congrArg some (by kernel_rfl))
  f276 := Tryz.func103.trans (congrArg some (by kernel_rfl))
  f277 := Tryz.func104.trans (congrArg some (by kernel_rfl))
  t0 := Tryz.underlying0
  a0 := Tryz.isAgg0
  z0 := Tryz.sizeOf0
  v0 := Tryz.zeroValue0
  t3 := Tryz.underlying3
  a3 := Tryz.isAgg3
  z3 := Tryz.sizeOf3
  v3 := Tryz.zeroValue3
  t4 := Tryz.underlying4
  a4 := Tryz.isAgg4
  z4 := Tryz.sizeOf4
  v4 := Tryz.zeroValue4
  t9 := Tryz.underlying9
  a9 := Tryz.isAgg9
  z9 := Tryz.sizeOf9
  v9 := Tryz.zeroValue9
  t20 := Tryz.underlying20
  a20 := Tryz.isAgg20
  z20 := Tryz.sizeOf20
  v20 := Tryz.zeroValue20
  t31 := Tryz.underlying87
  a31 := Tryz.isAgg87
  z31 := Tryz.sizeOf87
  v31 := Tryz.zeroValue87
  t37 := Tryz.underlying119
  a37 := Tryz.isAgg119
  z37 := Tryz.sizeOf119
  v37 := Tryz.zeroValue119
  t70 := Tryz.underlying118
  a70 := Tryz.isAgg118
  z70 := Tryz.sizeOf118
  v70 := Tryz.zeroValue118
  t72 := Tryz.underlying121
  a72 := Tryz.isAgg121
  z72 := Tryz.sizeOf121
  v72 := Tryz.zeroValue121
  t75 := Tryz.underlying124
  a75 := Tryz.isAgg124
  z75 := Tryz.sizeOf124
  v75 := Tryz.zeroValue124
  t76 := Tryz.underlying125
  a76 := Tryz.isAgg125
  z76 := Tryz.sizeOf125
  v76 := Tryz.zeroValue125
  t127 := Tryz.underlying148
  a127 := Tryz.isAgg148
  z127 := Tryz.sizeOf148
  v127 := Tryz.zeroValue148
  t164 := Tryz.underlying167
  a164 := Tryz.isAgg167
  z164 := Tryz.sizeOf167
  v164 := Tryz.zeroValue167 }
theorem Tryz.Builder_Extra_156 : Builder.Extra Tryz.prog Tryz.lays156_ren := {
  sizeBuilder := by kernel_rfl
  liesBuilder := by kernel_rfl
  t5 := Tryz.underlying5
  a5 := Tryz.isAgg5
  z5 := Tryz.sizeOf5
  v5 := Tryz.zeroValue5
  infoByte := by kernel_rfl
  cellsByte := by kernel_rfl
  sizeByte := by kernel_rfl
  neB5 := by decide }
open Go.RowKit in
theorem Tryz.strings_Join_none (a : Option Addr) (c : Nat) (sep : ByteArray) (w : World) :
    Calls Tryz.prog 37 #[.slice a 0 c, .string sep] w fun e w' => e = .returned (.string ⟨#[]⟩) ∧ w' = w := Any.strings_Join_none Tryz.lays156 Tryz.Builder_Extra_156 a c sep w
open Go.RowKit in
theorem Tryz.strings_Join (bk o c : Nat) (xs : List ByteArray) (sep : ByteArray) (w : World) (hcells : ∀ (j : Nat) x, xs[j]? = some x → w.cell? ⟨bk, o + j, none⟩ = some (.string x)) (hbk : bk < w.heap.size) (hN : xs.length ≤ 140737488355328) (hcap : xs.length ≤ c) (hlen : (Lib.join (xs.map (·.data.toList)) sep.data.toList).length ≤ 140737488355328) :
    Calls Tryz.prog 37 #[.slice (some ⟨bk, o, none⟩) xs.length c, .string sep] w fun e w' => e = .returned (.string ⟨(Lib.join (xs.map (·.data.toList)) sep.data.toList).toArray⟩) ∧ Below w.heap.size w w' := Any.strings_Join Tryz.lays156 Tryz.Builder_Extra_156 bk o c xs sep w hcells hbk hN hcap hlen
def Tryz.laysM171_ren : Go.Shelf.Ren := ⟨fun | 171 => 36 | 243 => 65 | 246 => 87 | 283 => 99 | 284 => 100 | 285 => 101 | 286 => 102 | 129 => 116 | 317 => 115 | 318 => 117 | 319 => 118 | 320 => 119 | 337 => 127 | 338 => 128 | n => n, fun | 3 => 3 | 9 => 9 | 2 => 2 | 4 => 4 | 171 => 161 | 0 => 0 | 53 => 162 | 37 => 119 | 5 => 5 | 173 => 165 | 212 => 180 | 51 => 181 | 20 => 20 | 213 => 182 | 46 => 183 | 232 => 201 | 233 => 202 | n => n, fun | 17 => 1 | 18 => 5 | 19 => 6 | n => n⟩
theorem Tryz.laysM171 : Go.Proofs.LaysM.n171 Tryz.prog Tryz.laysM171_ren := {
  mixed := by kernel_rfl
  f129 := Tryz.func116.trans (congrArg some (by kernel_rfl))
  f171 := Tryz.func36.trans (congrArg some (by kernel_rfl))
  f243 := Tryz.func65.trans (congrArg some (by kernel_rfl))
  f246 := Tryz.func87.trans (congrArg some (by kernel_rfl))
  f283 := Tryz.func99.trans (congrArg some (by kernel_rfl))
  f284 := Tryz.func100.trans (congrArg some (by kernel_rfl))
  f285 := Tryz.func101.trans (congrArg some (by kernel_rfl))
  f286 := Tryz.func102.trans (congrArg some (by kernel_rfl))
  f317 := Tryz.func115.trans (congrArg some (by kernel_rfl))
  f318 := Tryz.func117.trans (congrArg some (by kernel_rfl))
  f319 := Tryz.func118.trans (congrArg some (by kernel_rfl))
  f320 := Tryz.func119.trans (congrArg some (by kernel_rfl))
  f337 := Tryz.func127.trans (congrArg some (by kernel_rfl))
  f338 := Tryz.func128.trans (congrArg some (by kernel_rfl))
  t0 := Tryz.underlying0
  a0 := Tryz.isAgg0
  z0 := Tryz.sizeOf0
  v0 := Tryz.zeroValue0
  t2 := Tryz.underlying2
  a2 := Tryz.isAgg2
  z2 := Tryz.sizeOf2
  v2 := Tryz.zeroValue2
  t3 := Tryz.underlying3
  a3 := Tryz.isAgg3
  z3 := Tryz.sizeOf3
  v3 := Tryz.zeroValue3
  t4 := Tryz.underlying4
  a4 := Tryz.isAgg4
  z4 := Tryz.sizeOf4
  v4 := Tryz.zeroValue4
  t5 := Tryz.underlying5
  a5 := Tryz.isAgg5
  z5 := Tryz.sizeOf5
  v5 := Tryz.zeroValue5
  t9 := Tryz.underlying9
  a9 := Tryz.isAgg9
  z9 := Tryz.sizeOf9
  v9 := Tryz.zeroValue9
  t20 := Tryz.underlying20
  a20 := Tryz.isAgg20
  z20 := Tryz.sizeOf20
  v20 := Tryz.zeroValue20
  t37 := Tryz.underlying119
  a37 := Tryz.isAgg119
  z37 := Tryz.sizeOf119
  v37 := Tryz.zeroValue119
  t46 := Tryz.underlying183
  a46 := Tryz.isAgg183
  z46 := Tryz.sizeOf183
  v46 := Tryz.zeroValue183
  t51 := Tryz.underlying181
  a51 := Tryz.isAgg181
  z51 := Tryz.sizeOf181
  v51 := Tryz.zeroValue181
  t53 := Tryz.underlying162
  a53 := Tryz.isAgg162
  z53 := Tryz.sizeOf162
  v53 := Tryz.zeroValue162
  t171 := Tryz.underlying161
  a171 := Tryz.isAgg161
  z171 := Tryz.sizeOf161
  v171 := Tryz.zeroValue161
  t173 := Tryz.underlying165
  a173 := Tryz.isAgg165
  z173 := Tryz.sizeOf165
  v173 := Tryz.zeroValue165
  t212 := Tryz.underlying180
  a212 := Tryz.isAgg180
  z212 := Tryz.sizeOf180
  v212 := Tryz.zeroValue180
  t213 := Tryz.underlying182
  a213 := Tryz.isAgg182
  z213 := Tryz.sizeOf182
  t232 := Tryz.underlying201
  a232 := Tryz.isAgg201
  z232 := Tryz.sizeOf201
  v232 := Tryz.zeroValue201
  t233 := Tryz.underlying202
  a233 := Tryz.isAgg202
  z233 := Tryz.sizeOf202
  v233 := Tryz.zeroValue202
  g17 := by kernel_rfl
  g18 := by kernel_rfl
  g19 := by kernel_rfl
  i0 := by kernel_rfl
  i2 := by kernel_rfl
  i3 := by kernel_rfl
  i4 := by kernel_rfl
  i5 := by kernel_rfl
  i9 := by kernel_rfl
  i20 := by kernel_rfl
  i37 := by kernel_rfl
  i46 := by kernel_rfl
  i51 := by kernel_rfl
  i53 := by kernel_rfl
  i171 := by kernel_rfl
  i173 := by kernel_rfl
  i212 := by kernel_rfl
  i232 := by kernel_rfl
  i233 := by kernel_rfl
  m17 := by kernel_rfl
  m18 := by kernel_rfl
  m19 := by kernel_rfl }
open Go.RowKit Go.Sort Go.Lib in
theorem Tryz.strconv_Itoa (n : Int) (h0 : -9223372036854775808 ≤ n) (h1 : n ≤ 9223372036854775807) (w : World) (htab : Lib.TabIs Tryz.prog w "internal/strconv.uint64pow10" .u64 Lib.pow10Tab) :
    Calls Tryz.prog 36 #[.int .i64 n] w fun e w' => e = .returned (.string ⟨(Lib.itoa n).toArray⟩) ∧ ∃ k os, w' = grow (w.drewN k) os := Any.strconv_Itoa Tryz.laysM171 n h0 h1 w htab
def Tryz.laysC172_ren : Go.Shelf.Ren := ⟨fun | 172 => 70 | 244 => 91 | 245 => 92 | 247 => 108 | 279 => 109 | 280 => 110 | 281 => 111 | 282 => 112 | 287 => 124 | 316 => 125 | 171 => 36 | 205 => 126 | 321 => 134 | 322 => 135 | 243 => 65 | 246 => 87 | 283 => 99 | 284 => 100 | 285 => 101 | 286 => 102 | 129 => 116 | 317 => 115 | 318 => 117 | 319 => 118 | 320 => 119 | 337 => 127 | 338 => 128 | n => n, fun | 9 => 9 | 3 => 3 | 75 => 124 | 76 => 125 | 4 => 4 | 5 => 5 | 167 => 172 | 37 => 119 | 0 => 0 | 85 => 173 | 2 => 2 | 168 => 175 | 53 => 162 | 175 => 189 | 46 => 183 | 210 => 193 | 127 => 148 | 145 => 200 | 143 => 198 | 21 => 21 | 171 => 161 | 173 => 165 | 212 => 180 | 51 => 181 | 20 => 20 | 213 => 182 | 232 => 201 | 233 => 202 | 80 => 127 | n => n, fun | 15 => 3 | 16 => 4 | 17 => 1 | 18 => 5 | 19 => 6 | n => n⟩
theorem Tryz.laysC172 : Go.Proofs.LaysC.n172 Tryz.prog Tryz.laysC172_ren := {
  mixed := by kernel_rfl
  f129 := Tryz.func116.trans (congrArg some (by kernel_rfl))
  f171 := Tryz.func36.trans (congrArg some (by kernel_rfl))
  f172 := Tryz.func70.trans (congrArg some (by kernel_rfl))
  f205 := Tryz.func126.trans (congrArg some (by kernel_rfl))
  f243 := Tryz.func65.trans (congrArg some (by kernel_rfl))
  f244 := Tryz.func91.trans (congrArg some (by kernel_rfl))
  f245 := Tryz.func92.trans (congrArg some (by kernel_rfl))
  f246 := Tryz.func87.trans (congrArg some (by kernel_rfl))
  f247 := Tryz.func108.trans (congrArg some (by kernel_rfl))
  f279 := Tryz.func109.trans (congrArg some (by kernel_rfl))
  f280 := Tryz.func110.trans (congrArg some (by kernel_rfl))
  f281 := Tryz.func111.trans (congrArg some (by kernel_rfl))
  f282 := Tryz.func112.trans (congrArg some (by kernel_rfl))
  f283 := Tryz.func99.trans (congrArg some (by kernel_rfl))
  f284 := Tryz.func100.trans (congrArg some (by kernel_rfl))
  f285 := Tryz.func101.trans (congrArg some (by kernel_rfl))
  f286 := Tryz.func102.trans (congrArg some (by kernel_rfl))
  f287 := Tryz.func124.trans (congrArg some (by kernel_rfl))
  f316 := Tryz.func125.trans (congrArg some (by kernel_rfl))
  f317 := Tryz.func115.trans (congrArg some (by kernel_rfl))
  f318 := Tryz.func117.trans (congrArg some (by kernel_rfl))
  f319 := Tryz.func118.trans (congrArg some (by kernel_rfl))
  f320 := Tryz.func119.trans (congrArg some (by kernel_rfl))
  f321 := Tryz.func134.trans (congrArg some (by kernel_rfl))
  f322 := Tryz.func135.trans (congrArg some (by kernel_rfl))
  f337 := Tryz.func127.trans (congrArg some (by kernel_rfl))
  f338 := Tryz.func128.trans (congrArg some (by kernel_rfl))
  t0 := Tryz.underlying0
  a0 := Tryz.isAgg0
  z0 := Tryz.sizeOf0
  v0 := Tryz.zeroValue0
  t2 := Tryz.underlying2
  a2 := Tryz.isAgg2
  z2 := Tryz.sizeOf2
  v2 := Tryz.zeroValue2
  t3 := Tryz.underlying3
  a3 := Tryz.isAgg3
  z3 := Tryz.sizeOf3
  v3 := Tryz.zeroValue3
  t4 := Tryz.underlying4
  a4 := Tryz.isAgg4
  z4 := Tryz.sizeOf4
  v4 := Tryz.zeroValue4
  t5 := Tryz.underlying5
  a5 := Tryz.isAgg5
  z5 := Tryz.sizeOf5
  v5 := Tryz.zeroValue5
  t9 := Tryz.underlying9
  a9 := Tryz.isAgg9
  z9 := Tryz.sizeOf9
  v9 := Tryz.zeroValue9
  t20 := Tryz.underlying20
  a20 := Tryz.isAgg20
  z20 := Tryz.sizeOf20
  v20 := Tryz.zeroValue20
  t21 := Tryz.underlying21
  a21 := Tryz.isAgg21
  z21 := Tryz.sizeOf21
  v21 := Tryz.zeroValue21
  t37 := Tryz.underlying119
  a37 := Tryz.isAgg119
  z37 := Tryz.sizeOf119
  v37 := Tryz.zeroValue119
  t46 := Tryz.underlying183
  a46 := Tryz.isAgg183
  z46 := Tryz.sizeOf183
  v46 := Tryz.zeroValue183
  t51 := Tryz.underlying181
  a51 := Tryz.isAgg181
  z51 := Tryz.sizeOf181
  v51 := Tryz.zeroValue181
  t53 := Tryz.underlying162
  a53 := Tryz.isAgg162
  z53 := Tryz.sizeOf162
  v53 := Tryz.zeroValue162
  t75 := Tryz.underlying124
  a75 := Tryz.isAgg124
  z75 := Tryz.sizeOf124
  v75 := Tryz.zeroValue124
  t76 := Tryz.underlying125
  a76 := Tryz.isAgg125
  z76 := Tryz.sizeOf125
  v76 := Tryz.zeroValue125
  t85 := Tryz.underlying173
  a85 := Tryz.isAgg173
  z85 := Tryz.sizeOf173
  v85 := Tryz.zeroValue173
  t127 := Tryz.underlying148
  a127 := Tryz.isAgg148
  z127 := Tryz.sizeOf148
  v127 := Tryz.zeroValue148
  t143 := Tryz.underlying198
  a143 := Tryz.isAgg198
  z143 := Tryz.sizeOf198
  v143 := Tryz.zeroValue198
  t145 := Tryz.underlying200
  a145 := Tryz.isAgg200
  z145 := Tryz.sizeOf200
  v145 := Tryz.zeroValue200
  t167 := Tryz.underlying172
  a167 := Tryz.isAgg172
  z167 := Tryz.sizeOf172
  v167 := Tryz.zeroValue172
  t168 := Tryz.underlying175
  a168 := Tryz.isAgg175
  z168 := Tryz.sizeOf175
  v168 := Tryz.zeroValue175
  t171 := Tryz.underlying161
  a171 := Tryz.isAgg161
  z171 := Tryz.sizeOf161
  v171 := Tryz.zeroValue161
  t173 := Tryz.underlying165
  a173 := Tryz.isAgg165
  z173 := Tryz.sizeOf165
  v173 := Tryz.zeroValue165
  t175 := Tryz.underlying189
  a175 := Tryz.isAgg189
  z175 := Tryz.sizeOf189
  v175 := Tryz.zeroValue189
  t210 := Tryz.underlying193
  a210 := Tryz.isAgg193
  z210 := Tryz.sizeOf193
  v210 := Tryz.zeroValue193
  t212 := Tryz.underlying180
  a212 := Tryz.isAgg180
  z212 := Tryz.sizeOf180
  v212 := Tryz.zeroValue180
  t213 := Tryz.underlying182
  a213 := Tryz.isAgg182
  z213 := Tryz.sizeOf182
  t232 := Tryz.underlying201
  a232 := Tryz.isAgg201
  z232 := Tryz.sizeOf201
  v232 := Tryz.zeroValue201
  t233 := Tryz.underlying202
  a233 := Tryz.isAgg202
  z233 := Tryz.sizeOf202
  v233 := Tryz.zeroValue202
  g15 := by kernel_rfl
  g16 := by kernel_rfl
  g17 := by kernel_rfl
  g18 := by kernel_rfl
  g19 := by kernel_rfl
  t80 := Tryz.underlying127
  a80 := Tryz.isAgg127
  z80 := Tryz.sizeOf127
  v80 := Tryz.zeroValue127
  i0 := by kernel_rfl
  i2 := by kernel_rfl
  i3 := by kernel_rfl
  i4 := by kernel_rfl
  i5 := by kernel_rfl
  i9 := by kernel_rfl
  i20 := by kernel_rfl
  i21 := by kernel_rfl
  i37 := by kernel_rfl
  i46 := by kernel_rfl
  i51 := by kernel_rfl
  i53 := by kernel_rfl
  i75 := by kernel_rfl
  i76 := by kernel_rfl
  i80 := by kernel_rfl
  i85 := by kernel_rfl
  i127 := by kernel_rfl
  i143 := by kernel_rfl
  i145 := by kernel_rfl
  i167 := by kernel_rfl
  i168 := by kernel_rfl
  i171 := by kernel_rfl
  i173 := by kernel_rfl
  i175 := by kernel_rfl
  i210 := by kernel_rfl
  i212 := by kernel_rfl
  i232 := by kernel_rfl
  i233 := by kernel_rfl
  m15 := by kernel_rfl
  m16 := by kernel_rfl
  m17 := by kernel_rfl
  m18 := by kernel_rfl
  m19 := by kernel_rfl
  c0 := by kernel_rfl
  c2 := by kernel_rfl
  c3 := by kernel_rfl
  c4 := by kernel_rfl
  c5 := by kernel_rfl
  c9 := by kernel_rfl
  c20 := by kernel_rfl
  c21 := by kernel_rfl
  c37 := by kernel_rfl
  c46 := by kernel_rfl
  c51 := by kernel_rfl
  c53 := by kernel_rfl
  c75 := by kernel_rfl
  c76 := by kernel_rfl
  c80 := by kernel_rfl
  c85 := by kernel_rfl
  c127 := by kernel_rfl
  c143 := by kernel_rfl
  c145 := by kernel_rfl
  c167 := by kernel_rfl
  c168 := by kernel_rfl
  c171 := by kernel_rfl
  c173 := by kernel_rfl
  c175 := by kernel_rfl
  c210 := by kernel_rfl
  c212 := by kernel_rfl
  c213 := by kernel_rfl
  c232 := by kernel_rfl
  c233 := by kernel_rfl }
open Go.RowKit in
theorem Tryz.strconv_Atoi_ok (s : ByteArray) (hmax : s.size ≤ 9223372036854775806) (v : Int) (h : Lib.atoiAll s.data.toList = .ok v) (w : World) :
    Calls Tryz.prog 70 #[.string s] w fun e w' => e = .returned (.tuple #[.int .i64 v, .nilIface]) ∧ (w' = w ∨ ∃ t, w' = Lib.bytesWorld w 5 t) := Any.strconv_Atoi_ok Tryz.laysC172 s hmax v h w
open Go.RowKit in
theorem Tryz.strconv_Atoi_bad (s : ByteArray) (hlim : s.size ≤ 281474976710656) (h : Lib.atoiAll s.data.toList = Lib.atoiAll []) (ev : Value) (w : World) (hv : w.cell? ⟨3, 0, none⟩ = some ev) (hev : ev = .nilIface ∨ ∃ te pe, ev = .iface te pe) :
    Calls Tryz.prog 70 #[.string s] w fun e w' => ∃ N, e = .returned (.tuple #[.int .i64 (0), .iface 175 (.pointer (some ⟨N, 0, none⟩))]) ∧ w.heap.size ≤ N ∧ w'.heap[N]? = some (.cells #[.string ⟨#[65, 116, 111, 105]⟩, .string s, ev] 193 (0, 0)) ∧ Below w.heap.size w w' := Any.strconv_Atoi_syntax Tryz.laysC172 s hlim h ev w hv hev
open Go.RowKit in
theorem Tryz.strconv_Atoi_range (s : ByteArray) (hlim : s.size ≤ 281474976710656) (h : Lib.atoiAll s.data.toList = .range) (ev : Value) (w : World) (hv : w.cell? ⟨4, 0, none⟩ = some ev) (hev : ev = .nilIface ∨ ∃ te pe, ev = .iface te pe) :
    Calls Tryz.prog 70 #[.string s] w fun e w' => ∃ N, e = .returned (.tuple #[.int .i64 (Lib.atoiSat s.data.toList), .iface 175 (.pointer (some ⟨N, 0, none⟩))]) ∧ w.heap.size ≤ N ∧ w'.heap[N]? = some (.cells #[.string ⟨#[65, 116, 111, 105]⟩, .string s, ev] 193 (0, 0)) ∧ Below w.heap.size w w' := Any.strconv_Atoi_range Tryz.laysC172 s hlim h ev w hv hev
def Tryz.lays146_ren : Go.Shelf.Ren := ⟨fun | 146 => 69 | 221 => 90 | 268 => 105 | 138 => 106 | 143 => 107 | 195 => 120 | 197 => 121 | 218 => 122 | 219 => 123 | 260 => 129 | 217 => 130 | 225 => 131 | 224 => 132 | 267 => 133 | 266 => 136 | 314 => 137 | n => n, fun | 9 => 9 | 31 => 87 | 3 => 3 | 4 => 4 | 0 => 0 | 105 => 186 | 21 => 21 | 5 => 5 | 46 => 183 | 119 => 203 | 139 => 206 | 138 => 205 | 146 => 207 | 51 => 181 | n => n, fun | 1 => 2 | 3 => 7 | 4 => 8 | n => n⟩
theorem Tryz.lays146 : Go.Proofs.Lays.n146 Tryz.prog Tryz.lays146_ren := {
  mixed := by kernel_rfl
  f138 := Tryz.func106.trans (congrArg some (by kernel_rfl))
  f143 := Tryz.func107.trans (congrArg some (by kernel_rfl))
  f146 := Tryz.func69.trans (congrArg some (by kernel_rfl))
  f195 := Tryz.func120.trans (congrArg some (by kernel_rfl))
  f197 := Tryz.func121.trans (congrArg some (by kernel_rfl))
  f217 := Tryz.func130.trans (congrArg some (by kernel_rfl))
  f218 := Tryz.func122.trans (congrArg some (by kernel_rfl))
  f219 := Tryz.func123.trans (congrArg some (by kernel_rfl))
  f221 := Tryz.func90.trans (congrArg some (by kernel_rfl))
  f224 := Tryz.func132.trans (congrArg some (by kernel_rfl))
  f225 := Tryz.func131.trans (congrArg some (by kernel_rfl))
  f260 := Tryz.func129.trans (congrArg some (by kernel_rfl))
  f266 := Tryz.func136.trans (congrArg some (by kernel_rfl))
  f267 := Tryz.func133.trans (congrArg some (by kernel_rfl))
  f268 := Tryz.func105.trans (congrArg some (by kernel_rfl))
  f314 := Tryz.func137.trans (congrArg some (by kernel_rfl))
  t0 := Tryz.underlying0
  a0 := Tryz.isAgg0
  z0 := Tryz.sizeOf0
  v0 := Tryz.zeroValue0
  t3 := Tryz.underlying3
  a3 := Tryz.isAgg3
  z3 := Tryz.sizeOf3
  v3 := Tryz.zeroValue3
  t4 := Tryz.underlying4
  a4 := Tryz.isAgg4
  z4 := Tryz.sizeOf4
  v4 := Tryz.zeroValue4
  t5 := Tryz.underlying5
  a5 := Tryz.isAgg5
  z5 := Tryz.sizeOf5
  v5 := Tryz.zeroValue5
  t9 := Tryz.underlying9
  a9 := Tryz.isAgg9
  z9 := Tryz.sizeOf9
  v9 := Tryz.zeroValue9
  t21 := Tryz.underlying21
  a21 := Tryz.isAgg21
  z21 := Tryz.sizeOf21
  v21 := Tryz.zeroValue21
  t31 := Tryz.underlying87
  a31 := Tryz.isAgg87
  z31 := Tryz.sizeOf87
  v31 := Tryz.zeroValue87
  t46 := Tryz.underlying183
  a46 := Tryz.isAgg183
  z46 := Tryz.sizeOf183
  v46 := Tryz.zeroValue183
  t51 := Tryz.underlying181
  a51 := Tryz.isAgg181
  z51 := Tryz.sizeOf181
  v51 := Tryz.zeroValue181
  t105 := Tryz.underlying186
  a105 := Tryz.isAgg186
  z105 := Tryz.sizeOf186
  v105 := Tryz.zeroValue186
  t119 := Tryz.underlying203
  a119 := Tryz.isAgg203
  z119 := Tryz.sizeOf203
  t138 := Tryz.underlying205
  a138 := Tryz.isAgg205
  z138 := Tryz.sizeOf205
  v138 := Tryz.zeroValue205
  t139 := Tryz.underlying206
  a139 := Tryz.isAgg206
  z139 := Tryz.sizeOf206
  v139 := Tryz.zeroValue206
  t146 := Tryz.underlying207
  a146 := Tryz.isAgg207
  z146 := Tryz.sizeOf207
  v146 := Tryz.zeroValue207
  g1 := by kernel_rfl
  g3 := by kernel_rfl
  g4 := by kernel_rfl }
open Go.RowKit Go.Lib in
theorem Tryz.strings_Split (s sep : ByteArray) (m : Int) (w : World) (hs : s.size < 4294967281) (hm : w.cell? ⟨2, 0, none⟩ = some (.int .i64 m)) (h1 : 1 ≤ sep.size) :
    Calls Tryz.prog 69 #[.string s, .string sep] w fun e w' =>
      e = .returned (.slice (some ⟨w.heap.size, 0, none⟩) (Lib.countB s sep + 1) (Lib.countB s sep + 1)) ∧ w' = w.alloc (.cells ((Lib.splitB sep 0 (Lib.countB s sep) s).map Value.string).toArray 9) := Any.strings_Split Tryz.lays146 (by kernel_rfl) s sep m w hs hm h1
def Tryz.laysM146_ren : Go.Shelf.Ren := ⟨fun | 146 => 69 | 221 => 90 | 268 => 105 | 138 => 106 | 143 => 107 | 195 => 120 | 197 => 121 | 218 => 122 | 219 => 123 | 260 => 129 | 217 => 130 | 225 => 131 | 224 => 132 | 267 => 133 | 266 => 136 | 314 => 137 | n => n, fun | 9 => 9 | 31 => 87 | 3 => 3 | 4 => 4 | 0 => 0 | 105 => 186 | 21 => 21 | 5 => 5 | 46 => 183 | 119 => 203 | 139 => 206 | 138 => 205 | 146 => 207 | 51 => 181 | n => n, fun | 1 => 2 | 3 => 7 | 4 => 8 | n => n⟩
theorem Tryz.laysM146 : Go.Proofs.LaysM.n146 Tryz.prog Tryz.laysM146_ren := {
  mixed := by kernel_rfl
  f138 := Tryz.func106.trans (congrArg some (by kernel_rfl))
  f143 := Tryz.func107.trans (congrArg some (by kernel_rfl))
  f146 := Tryz.func69.trans (congrArg some (by kernel_rfl))
  f195 := Tryz.func120.trans (congrArg some (by kernel_rfl))
  f197 := Tryz.func121.trans (congrArg some (by kernel_rfl))
  f217 := Tryz.func130.trans (congrArg some (by kernel_rfl))
  f218 := Tryz.func122.trans (congrArg some (by kernel_rfl))
  f219 := Tryz.func123.trans (congrArg some (by kernel_rfl))
  f221 := Tryz.func90.trans (congrArg some (by kernel_rfl))
  f224 := Tryz.func132.trans (congrArg some (by kernel_rfl))
  f225 := Tryz.func131.trans (congrArg some (by kernel_rfl))
  f260 := Tryz.func129.trans (congrArg some (by kernel_rfl))
  f266 := Tryz.func136.trans (congrArg some (by kernel_rfl))
  f267 := Tryz.func133.trans (congrArg some (by kernel_rfl))
  f268 := Tryz.func105.trans (congrArg some (by kernel_rfl))
  f314 := Tryz.func137.trans (congrArg some (by kernel_rfl))
  t0 := Tryz.underlying0
  a0 := Tryz.isAgg0
  z0 := Tryz.sizeOf0
  v0 := Tryz.zeroValue0
  t3 := Tryz.underlying3
  a3 := Tryz.isAgg3
  z3 := Tryz.sizeOf3
  v3 := Tryz.zeroValue3
  t4 := Tryz.underlying4
  a4 := Tryz.isAgg4
  z4 := Tryz.sizeOf4
  v4 := Tryz.zeroValue4
  t5 := Tryz.underlying5
  a5 := Tryz.isAgg5
  z5 := Tryz.sizeOf5
  v5 := Tryz.zeroValue5
  t9 := Tryz.underlying9
  a9 := Tryz.isAgg9
  z9 := Tryz.sizeOf9
  v9 := Tryz.zeroValue9
  t21 := Tryz.underlying21
  a21 := Tryz.isAgg21
  z21 := Tryz.sizeOf21
  v21 := Tryz.zeroValue21
  t31 := Tryz.underlying87
  a31 := Tryz.isAgg87
  z31 := Tryz.sizeOf87
  v31 := Tryz.zeroValue87
  t46 := Tryz.underlying183
  a46 := Tryz.isAgg183
  z46 := Tryz.sizeOf183
  v46 := Tryz.zeroValue183
  t51 := Tryz.underlying181
  a51 := Tryz.isAgg181
  z51 := Tryz.sizeOf181
  v51 := Tryz.zeroValue181
  t105 := Tryz.underlying186
  a105 := Tryz.isAgg186
  z105 := Tryz.sizeOf186
  v105 := Tryz.zeroValue186
  t119 := Tryz.underlying203
  a119 := Tryz.isAgg203
  z119 := Tryz.sizeOf203
  t138 := Tryz.underlying205
  a138 := Tryz.isAgg205
  z138 := Tryz.sizeOf205
  v138 := Tryz.zeroValue205
  t139 := Tryz.underlying206
  a139 := Tryz.isAgg206
  z139 := Tryz.sizeOf206
  v139 := Tryz.zeroValue206
  t146 := Tryz.underlying207
  a146 := Tryz.isAgg207
  z146 := Tryz.sizeOf207
  v146 := Tryz.zeroValue207
  g1 := by kernel_rfl
  g3 := by kernel_rfl
  g4 := by kernel_rfl
  i0 := by kernel_rfl
  i3 := by kernel_rfl
  i4 := by kernel_rfl
  i5 := by kernel_rfl
  i9 := by kernel_rfl
  i21 := by kernel_rfl
  i31 := by kernel_rfl
  i46 := by kernel_rfl
  i51 := by kernel_rfl
  i105 := by kernel_rfl
  i138 := by kernel_rfl
  i139 := by kernel_rfl
  i146 := by kernel_rfl
  m1 := by kernel_rfl
  s1_3 := fun w h => Go.Proofs.cell_of_shapedOpen_int (zero := #[.int .i64 0]) (t := 3) h (of_decide_eq_true (by kernel_rfl)) (by kernel_rfl) rfl (by kernel_rfl) (by kernel_rfl) Tryz.underlying3
  m3 := by kernel_rfl
  m4 := by kernel_rfl }
open Go.RowKit Go.Lib in
theorem Tryz.strings_Split_shaped (s sep : ByteArray) (w : World) (h : w.ShapedOpen Tryz.prog) (hs : s.size < 4294967281) (h1 : 1 ≤ sep.size) :
    Calls Tryz.prog 69 #[.string s, .string sep] w fun e w' =>
      e = .returned (.slice (some ⟨w.heap.size, 0, none⟩) (Lib.countB s sep + 1) (Lib.countB s sep + 1)) ∧ w' = w.alloc (.cells ((Lib.splitB sep 0 (Lib.countB s sep) s).map Value.string).toArray 9) := Any.strings_Split_shaped Tryz.laysM146 s sep w h hs h1
end Go.Proofs

namespace Go.Proofs.YtjjflbnopphciaaGreatDoor
open Go.RowKit

/-- What the strings of this chapter need to lie in memory: the sides, the greatest length of a needle, the powers of ten, and both sentinels of strconv. -/
structure LaidG (w : World) : Prop where
  sd : LaidSides w
  ml : ∃ m : Int, w.cell? ⟨2, 0, none⟩ = some (.int .i64 m)
  tab : Lib.TabIs Tryz.prog w "internal/strconv.uint64pow10" .u64 Lib.pow10Tab
  es : ∃ te pe, w.cell? ⟨3, 0, none⟩ = some (.iface te pe)
  er : ∃ te pe, w.cell? ⟨4, 0, none⟩ = some (.iface te pe)
theorem gTabG : Tryz.prog.globalNamed "internal/strconv.uint64pow10" = some 1 := by kernel_rfl
theorem tabG_below {w w' : World} (h : Lib.TabIs Tryz.prog w "internal/strconv.uint64pow10" .u64 Lib.pow10Tab) (hb : Below w.heap.size w w') : Lib.TabIs Tryz.prog w' "internal/strconv.uint64pow10" .u64 Lib.pow10Tab := by
  have hlt : 1 < w.heap.size := block_lt_of_cell (h.cell gTabG 0 (by decide))
  unfold Lib.TabIs World.var? at h ⊢
  rw [gTabG] at h ⊢
  simp only [Option.bind_some] at h ⊢
  rw [hb.block _ hlt]
  exact h
theorem cellG_later {w w' : World} {a : Addr} {v : Value} (h : w.cell? a = some v) (hb : Below w.heap.size w w') : w'.cell? a = some v := (hb.cell (block_lt_of_cell h)).trans h
theorem LaidG.later {w w' : World} (h : LaidG w) (hb : Below w.heap.size w w') : LaidG w' :=
  ⟨h.sd.later hb, by obtain ⟨m, hm⟩ := h.ml; exact ⟨m, cellG_later hm hb⟩, tabG_below h.tab hb, by obtain ⟨t, p, hm⟩ := h.es; exact ⟨t, p, cellG_later hm hb⟩, by obtain ⟨t, p, hm⟩ := h.er; exact ⟨t, p, cellG_later hm hb⟩⟩
theorem LaidG.drew {w : World} (h : LaidG w) : LaidG w.drew := h.later (Below.refl _ _).drew
theorem LaidG.alloc {w : World} (h : LaidG w) (o : Obj) : LaidG (w.alloc o) := h.later ((Below.refl _ _).alloc (Nat.le_refl _) _)

theorem growG_below (w : World) (k : Nat) (os : Array Obj) : Below w.heap.size w (Go.Sort.grow (w.drewN k) os) :=
  ⟨rfl, rfl, rfl, by simp [Go.Sort.grow], fun i hi => by
    show (w.heap ++ os)[i]? = _
    rw [Array.getElem?_append_left hi]⟩
theorem itoaG_form (n : Int) (h0 : -9223372036854775808 ≤ n) (h1 : n ≤ 9223372036854775807) (X : ByteArray) (hX : (⟨(Lib.itoa n).toArray⟩ : ByteArray) = X) (w : World) (hl : LaidG w) :
    Calls Tryz.prog 36 #[.int .i64 n] w fun e w' => e = .returned (.string X) ∧ Below w.heap.size w w' := by
  refine Calls.mono (Tryz.strconv_Itoa n h0 h1 w hl.tab) ?_
  rintro e w' ⟨rfl, k, os, rfl⟩
  rw [hX]
  exact ⟨rfl, growG_below _ _ _⟩

theorem pcs_len (c : UInt8) (l : List UInt8) : (pcs c l).length = l.count c + 1 := by
  induction l with
  | nil => simp [pcs]
  | cons b t ih =>
    unfold pcs
    by_cases h : b = c
    · rw [if_pos h]; subst h
      simp [ih]
    · rw [if_neg h, List.count_cons, if_neg (by simpa using h)]
      cases hp : pcs c t with
      | nil => exact absurd hp (pcs_ne c t)
      | cons p ps => rw [hp] at ih; simpa using ih
theorem countG (s : ByteArray) : Lib.countB s ⟨#[32]⟩ = s.data.toList.count 32 := Lib.count_one 32 s.data.toList
theorem splitG (s : ByteArray) : (Lib.splitB ⟨#[32]⟩ 0 (Lib.countB s ⟨#[32]⟩) s).map (·.data.toList) = pcs 32 s.data.toList := by
  rw [Lib.splitB_data]
  have e2 : (⟨#[32]⟩ : ByteArray).data.toList = [32] := rfl
  rw [e2]
  refine (splitK_pcs 32 _ s.data.toList).2 ?_
  rw [pcs_len, countG]
  exact Nat.le_refl _
theorem splitG_form (s : ByteArray) (w : World) (hl : LaidG w) (hs : s.size ≤ 1000000) (ps : List (List UInt8)) (n : Nat) (hps : pcs 32 s.data.toList = ps) (hn : ps.length = n) :
    Calls Tryz.prog 69 #[.string s, .string ⟨#[32]⟩] w fun e w' => e = .returned (.slice (some ⟨w.heap.size, 0, none⟩) n n) ∧ (∀ k x, ps[k]? = some x → w'.cell? ⟨w.heap.size, k, none⟩ = some (sv x)) ∧ w.heap.size < w'.heap.size ∧ Below w.heap.size w w' := by
  obtain ⟨m, hm⟩ := hl.ml
  have h := Tryz.strings_Split s ⟨#[32]⟩ m w (by omega) hm (by decide)
  refine Calls.mono h ?_
  rintro e w' ⟨rfl, rfl⟩
  have hc : Lib.countB s ⟨#[32]⟩ + 1 = n := by rw [countG, ← pcs_len, hps, hn]
  rw [hc]
  refine ⟨rfl, fun k x hx => ?_, by simp, (Below.refl _ _).alloc (Nat.le_refl _) _⟩
  rw [← hps, ← splitG, List.getElem?_map] at hx
  cases hd : (Lib.splitB ⟨#[32]⟩ 0 (Lib.countB s ⟨#[32]⟩) s)[k]? with
  | none => rw [hd] at hx; cases hx
  | some y =>
    rw [hd] at hx
    have hxy : y.data.toList = x := Option.some.inj hx
    rw [← hxy, ← sv_of, (Bk.new w 9 _).cell, ← Array.getElem?_toList, List.getElem?_map, hd]
    rfl

/-- Atoi at any word: a number and no error, or an error. -/
theorem atoiG (s : ByteArray) (hs : s.size ≤ 1000000) (w : World) (hl : LaidG w) :
    Calls Tryz.prog 70 #[.string s] w fun e w' => ((∃ v, Lib.atoiAll s.data.toList = .ok v ∧ e = .returned (.tuple #[.int .i64 v, .nilIface])) ∨ (∃ v t p, (∀ k, Lib.atoiAll s.data.toList ≠ .ok k) ∧ e = .returned (.tuple #[.int .i64 v, .iface t p]))) ∧ Below w.heap.size w w' := by
  have hbad : ∀ k, Lib.atoiAll [] ≠ .ok k := fun k e => by cases e
  cases h : Lib.atoiAll s.data.toList
  · rename_i v
    refine Calls.mono (Tryz.strconv_Atoi_ok s (by omega) v h w) ?_
    rintro e w' ⟨rfl, hw⟩
    refine ⟨.inl ⟨v, rfl, rfl⟩, ?_⟩
    rcases hw with rfl | ⟨t, rfl⟩
    · exact Below.refl _ _
    · exact Lib.bytesWorld_below _ _ _
  · obtain ⟨te, pe, hv⟩ := hl.es
    refine Calls.mono (Tryz.strconv_Atoi_bad s (by omega) h _ w hv (.inr ⟨te, pe, rfl⟩)) ?_
    rintro e w' ⟨N, rfl, _, _, hb⟩
    exact ⟨.inr ⟨_, _, _, hbad, rfl⟩, hb⟩
  · obtain ⟨te, pe, hv⟩ := hl.er
    refine Calls.mono (Tryz.strconv_Atoi_range s (by omega) h _ w hv (.inr ⟨te, pe, rfl⟩)) ?_
    rintro e w' ⟨N, rfl, _, _, hb⟩
    exact ⟨.inr ⟨_, _, _, fun k e => (by cases e), rfl⟩, hb⟩
end Go.Proofs.YtjjflbnopphciaaGreatDoor

namespace Go.Proofs.YtjjflbnopphciaaGreatDoor
open Go.RowKit

theorem pcs_sum (c : UInt8) (l : List UInt8) : ∀ p ∈ pcs c l, p.length ≤ l.length := by
  induction l with
  | nil => intro p hp; simp [pcs] at hp; simp [hp]
  | cons b t ih =>
    intro p hp
    unfold pcs at hp
    split at hp
    · rcases List.mem_cons.1 hp with rfl | h
      · simp
      · have := ih p h; simp; omega
    · cases ht : pcs c t with
      | nil => rw [ht] at hp; simp at hp; subst hp; simp
      | cons q qs =>
        rw [ht] at hp ih
        rcases List.mem_cons.1 hp with rfl | h
        · have := ih q (by simp); simp; omega
        · have := ih p (List.mem_cons_of_mem _ h); simp; omega
theorem size_nil {s : ByteArray} (h : s.size = 0) : s = ⟨#[]⟩ := by
  cases s with
  | mk d => have : d = #[] := by simpa [ByteArray.size] using h
            rw [this]
theorem neG (s : ByteArray) (h : s.size ≠ 0) : (s.toList == (⟨#[]⟩ : ByteArray).toList) = false := by
  rw [Lib.toList_data, Lib.toList_data]
  refine beq_eq_false_iff_ne.2 fun e => h ?_
  have := congrArg List.length e
  simpa using this
theorem emptyG (s : ByteArray) (h : s.size ≠ 0) : s.toList.isEmpty = false := by
  rw [Lib.toList_data]
  cases hs : s.data.toList with
  | nil => exact absurd (by have := congrArg List.length hs; simpa using this) h
  | cons a t => rfl
/-- The error and the numbers of a string. -/
def ppE (s : ByteArray) : Int := (pathS s).2
def ppL (s : ByteArray) : List Int := (pathS s).1

theorem litG (W : World) (k : Int) : ∀ j u, [Value.int .i64 k][j]? = some u → (W.alloc (.cells #[.int .i64 k] 3)).cell? ((⟨W.heap.size, 0, none⟩ : Addr).add j) = some u := by
  intro j u hj
  cases j with
  | zero => have : Value.int .i64 k = u := by simpa using hj
            subst this
            simp [go_sem, Addr.add]
  | succ j => simp at hj
theorem finErr {w w' : World} {s : ByteArray} {E : Int} (hb : Below w.heap.size w w') (h : pathS s = ([], E)) : (∃ v, (Ending.returned (.tuple #[.slice none 0 0, .int .i64 E]) = .returned (.tuple #[v, .int .i64 (ppE s)])) ∧ w'.ownsRow w.heap.size 3 1 v (ppL s).length ((ppL s).map (Value.int .i64))) ∧ Below w.heap.size w w' := by
  unfold ppE ppL
  rw [h]
  exact ⟨⟨_, rfl, World.ownsRow_nil _ _ _ _⟩, hb⟩
theorem finOk {w w' : World} {s : ByteArray} {v : Value} {l : List Int} (hb : Below w.heap.size w w') (h : pathS s = (l, 0)) (ho : w'.ownsRow w.heap.size 3 1 v l.length (l.map (Value.int .i64))) : (∃ v', (Ending.returned (.tuple #[v, .int .i64 0]) = .returned (.tuple #[v', .int .i64 (ppE s)])) ∧ w'.ownsRow w.heap.size 3 1 v' (ppL s).length ((ppL s).map (Value.int .i64))) ∧ Below w.heap.size w w' := by
  unfold ppE ppL
  rw [h]
  exact ⟨⟨_, rfl, ho⟩, hb⟩

set_option maxRecDepth 100000 in
set_option maxHeartbeats 8000000 in
theorem refParse_in (s : ByteArray) (w : World) (hs : s.size ≤ 60000) (h0 : s.size ≠ 0) (ps : List (List UInt8)) (n : Nat) (hps : pcs 32 s.data.toList = ps) (hpn : ps.length = n) :
    Calls Tryz.prog 10 #[.string s] w (OwnRes w (ppE s) (ppL s)) := by
  obtain ⟨i0, hi0, hz0, hz1, hz2⟩ := info_parts intInfo'
  have C1 := Lib.hid (cut_form s 32 32 rfl w (by omega) ps n hps hpn)
  have hlen : s.data.toList.length = s.size := by simp
  have hn1 : n ≤ 60001 := by
    have := pcs_len_le 32 s.data.toList
    rw [hps, hpn] at this; omega
  have HSZ : Hid (∀ p ∈ ps, p.length ≤ 60000) := fun p hp => by
    have := pcs_sum 32 s.data.toList p (by rw [hps]; exact hp)
    omega
  have hE : pathS s = pathO (numsW ps) := by
    unfold pathS
    rw [if_neg (by omega), if_neg h0, hps]
  have HE := Lib.hid hE
  have HPN := Lib.hid hpn
  have hemp := emptyG s h0
  have hne2 := neG s h0
  clear hE hps hpn hlen
  go_enter Tryz.func10, Tryz.ntmps10
  go_wp2_with fail
  refine C1.out.mono ?_
  rintro e w1 ⟨g, cp, rfl, hg1, hg2, hc, hb1⟩
  have HC := Lib.hid hc
  have HB1 := Lib.hid hb1
  have hg3 : w.heap.size ≤ g := hg1
  clear hc hb1 hg1
  go_wp2
  go_loopw [4, 6, 7, 8] (fun v i _ _ wr => ∃ (j : Nat) (l : List Int), j ≤ n ∧ i = .int .i64 (j : Int) ∧ Hid (numsW (ps.take j) = some l ∧ l.length = j) ∧ Hid (wr.ownsRow w1.heap.size 3 1 v j (l.map (Value.int .i64))) ∧ Hid (Below w1.heap.size w1 wr)) (fun _ i _ _ _ => n - (intOf i).toNat)
  case atStart => exact ⟨0, [], Nat.zero_le _, rfl, ⟨rfl, rfl⟩, World.ownsRow_nil _ _ _ _, Below.refl _ _⟩
  case round =>
    obtain ⟨j, l, hj, rfl, HL, HO, HB⟩ := hrel
    obtain ⟨Ac, ca, rfl, _⟩ := own_formT HO.out
    have hszr : w1.heap.size ≤ wr.heap.size := HB.out.size
    by_cases hlt : j < n
    · obtain ⟨p, hp⟩ : ∃ p, ps[j]? = some p := ⟨_, List.getElem?_eq_getElem (by rw [HPN.out]; exact hlt)⟩
      have hcj : wr.cell? ⟨g, j, none⟩ = some (sv p) := (HB.out.cell hg2).trans (HC.out j p hp)
      have hpl := HSZ.out p (List.mem_of_getElem? hp)
      obtain ⟨P, hP⟩ : ∃ P : ByteArray, (⟨p.toArray⟩ : ByteArray) = P := ⟨_, rfl⟩
      have hPz : P.size ≤ 60000 := by rw [← hP, bytes_size]; exact hpl
      have hPl : P.data.toList = p := by rw [← hP]
      have CN := Lib.hid (number_any P 7 wr (by omega) (by omega) (by omega))
      rw [hPl] at CN
      have hcs : wr.cell? ⟨g, j, none⟩ = some (.string P) := by rw [hcj, ← hP]; rfl
      have hltI : (j : Int) < (n : Int) := by omega
      have HPJ := Lib.hid hp
      clear hp hcj hpl hP hPl
      cases hk : numS p 7 with
      | none =>
        rw [hk] at CN
        have hbad : Hid (pathS s = ([], 7)) := by show _ = _; rw [HE.out, numsW_bad ps j p HPJ.out hk]; rfl
        clear hk
        go_wp2_with (go_at_call 41; refine CN.out.mono ?_; rintro e w2 ⟨rfl, hw2⟩)
        go_ret2
        obtain rfl := hw2
        exact finErr (HB1.out.trans (HB.out.mono HB1.out.size)) hbad.out
      | some k =>
        rw [hk] at CN
        have HK : Hid (numsW (ps.take (j + 1)) = some (l ++ [k]) ∧ (l ++ [k]).length = j + 1) := ⟨numsW_take ps j p l k HPJ.out HL.out.1 hk, by rw [List.length_append, HL.out.2]; rfl⟩
        clear hk
        go_wp2_with (first
          | (go_at_call 41; refine CN.out.mono ?_; rintro e w2 ⟨rfl, hw2⟩; obtain rfl := hw2; clear CN)
          | (at_builtin; refine wpList_append_own _ rfl (.tmp 33) (.tmp 35) 22 rfl w1.heap.size 3 i0 _ 1 8 Tryz.underlying22 hi0 hz0 hz1 hz2 rfl (by decide) _ _ _ rfl (HO.out.alloc _) ⟨wr.heap.size, 0, none⟩ 1 1 [.int .i64 k] rfl rfl (litG wr k) (by intro u hu; rw [List.mem_singleton.1 hu]; rfl) (by unfold maxLen; omega) (by omega) (by simp; omega) ?_))
        intro v' w6 hown' hgrow _
        have HO6 : Hid (w6.ownsRow w1.heap.size 3 1 v' (j + 1) ((l ++ [k]).map (Value.int .i64))) := by
          show World.ownsRow _ _ _ _ _ _ _
          rw [List.map_append, List.map_singleton]
          exact hown'
        have HB6 : Hid (Below w1.heap.size w1 w6) := (HB.out.alloc hszr _).grown hgrow (by simp; omega) (fun z e => (HO.out.lt z e).1)
        clear hown' hgrow HB HO
        go_wp2
        go_roundw
        case rel => exact ⟨j + 1, l ++ [k], by omega, by go_num, HK.out, HO6.out, HB6.out⟩
        case measure => simp [intOf]; omega
    · obtain rfl : n = j := by omega
      have hall : ps.take n = ps := List.take_of_length_le (by rw [HPN.out]; exact Nat.le_refl _)
      have hnl : numsW ps = some l := by rw [← hall]; exact HL.out.1
      obtain ⟨A', c', hv, hnc, hrd, _⟩ := rd_ownN (xs := l) (by have := HO.out; exact this)
      injection hv with hv1 hv2 hv3
      subst hv1; subst hv3
      have HRD := Lib.hid hrd
      have CE := Lib.hid (refPosErr_any Ac n ca l wr hrd (by omega))
      have HE2 : Hid (pathS s = pathO (some l)) := by show _ = _; rw [HE.out, hnl]
      have HBF : Hid (Below w.heap.size w wr) := HB1.out.trans (HB.out.mono HB1.out.size)
      have HLL := Lib.hid HL.out.2
      clear hall hnl hrd hnc
      by_cases hp : posE l = 0
      · have HE3 : Hid (pathS s = (l, 0)) := by show _ = _; rw [HE2.out, pathO_ok hp]
        rw [hp] at CE
        clear hp
        go_wp2_with (go_at_call 13; refine CE.out.mono ?_; rintro e w2 ⟨rfl, hw2⟩; obtain rfl := hw2)
        go_ret2
        exact finOk HBF.out HE3.out (by rw [HLL.out]; exact ownMono HO.out HB1.out.size)
      · have HE3 : Hid (pathS s = ([], posE l)) := by show _ = _; rw [HE2.out, pathO_err hp]
        have hpn : (posE l != 0) = true := by simpa using hp
        obtain ⟨E, hEE⟩ : ∃ E, posE l = E := ⟨_, rfl⟩
        rw [hEE] at CE hpn HE3
        clear hp hEE
        go_wp2_with (go_at_call 13; refine CE.out.mono ?_; rintro e w2 ⟨rfl, hw2⟩; obtain rfl := hw2)
        go_ret2
        exact finErr HBF.out HE3.out

set_option maxRecDepth 100000 in
set_option maxHeartbeats 4000000 in
/-- The reference's numbers of any string. -/
theorem refParse_any (s : ByteArray) (w : World) (hs : s.size ≤ 60000 + 1000000) :
    Calls Tryz.prog 10 #[.string s] w (OwnRes w (ppE s) (ppL s)) := by
  by_cases h1 : 60000 < s.size
  · have HE : Hid (pathS s = ([], 8)) := if_pos h1
    have hI : (60000 : Int) < (s.size : Int) := by omega
    go_enter Tryz.func10, Tryz.ntmps10
    go_wp2
    go_ret2
    exact finErr (Below.refl _ _) HE.out
  · by_cases h0 : s.size = 0
    · have HE : Hid (pathS s = ([], 0)) := by show _ = _; unfold pathS; rw [if_neg h1, if_pos h0]
      have he := size_nil h0
      subst he
      clear h0 h1 hs
      go_enter Tryz.func10, Tryz.ntmps10
      go_wp2
      go_ret2
      exact finErr (Below.refl _ _) HE.out
    · exact refParse_in s w (by omega) h0 _ _ rfl rfl
end Go.Proofs.YtjjflbnopphciaaGreatDoor

namespace Go.Proofs.YtjjflbnopphciaaGreatDoor
open Go.RowKit

theorem strEq (a b : ByteArray) (h : a = b) : (a.toList == b.toList) = true := by subst h; simp
theorem strNe (a b : ByteArray) (h : a ≠ b) : (a.toList == b.toList) = false := by
  refine beq_eq_false_iff_ne.2 fun e => h ?_
  rw [Lib.toList_data, Lib.toList_data] at e
  apply ByteArray.ext
  exact Array.toList_inj.1 e

theorem litG1 (W : World) (o : Obj) (k : Int) : ∀ j u, [Value.int .i64 k][j]? = some u → ((W.alloc o).alloc (.cells #[.int .i64 k] 3)).cell? ((⟨W.heap.size + 1, 0, none⟩ : Addr).add j) = some u := by
  intro j u hj
  have := litG (W.alloc o) k j u hj
  simpa using this

/-- What numbersIn answers: numbers of the call's own, or none. -/
def NumRes (w : World) (o : Option (List Int)) (e : Ending) (w' : World) : Prop :=
  (∃ v, e = .returned (.tuple #[v, .bool o.isSome]) ∧ w'.ownsRow w.heap.size 3 1 v (o.getD []).length ((o.getD []).map (Value.int .i64))) ∧ Below w.heap.size w w'
theorem numNone {w w' : World} {o : Option (List Int)} (hb : Below w.heap.size w w') (h : o = none) : NumRes w o (.returned (.tuple #[.slice none 0 0, .bool false])) w' := by
  subst h
  exact ⟨⟨_, rfl, World.ownsRow_nil _ _ _ _⟩, hb⟩
theorem numSome {w w' : World} {o : Option (List Int)} {v : Value} {l : List Int} (hb : Below w.heap.size w w') (h : o = some l) (ho : w'.ownsRow w.heap.size 3 1 v l.length (l.map (Value.int .i64))) : NumRes w o (.returned (.tuple #[v, .bool true])) w' := by
  subst h
  exact ⟨⟨_, rfl, ho⟩, hb⟩

set_option maxRecDepth 100000 in
set_option maxHeartbeats 16000000 in
theorem numbersIn_in (s : ByteArray) (w : World) (hl : LaidG w) (hs : s.size ≤ 60000) (h0 : s.size ≠ 0) (ps : List (List UInt8)) (n : Nat) (hps : pcs 32 s.data.toList = ps) (hpn : ps.length = n) :
    Calls Tryz.prog 38 #[.string s] w (NumRes w (numsW ps)) := by
  obtain ⟨i0, hi0, hz0, hz1, hz2⟩ := info_parts intInfo'
  have C1 := Lib.hid (splitG_form s w hl (by omega) ps n hps hpn)
  have hlen : s.data.toList.length = s.size := by simp
  have hn1 : n ≤ 60001 := by
    have := pcs_len_le 32 s.data.toList
    rw [hps, hpn] at this; omega
  have HSZ : Hid (∀ p ∈ ps, p.length ≤ 60000) := fun p hp => by
    have := pcs_sum 32 s.data.toList p (by rw [hps]; exact hp)
    omega
  have HPN := Lib.hid hpn
  have HL0 := Lib.hid hl
  have hemp := emptyG s h0
  have hne2 := neG s h0
  clear hps hpn hlen hl
  go_enter Tryz.func38, Tryz.ntmps38
  go_wp2_with fail
  refine C1.out.mono ?_
  rintro e w1 ⟨rfl, hc, hg2, hb1⟩
  have HC := Lib.hid hc
  have HB1 := Lib.hid hb1
  clear hc hb1
  obtain ⟨g, hg⟩ : ∃ g, w.heap.size = g := ⟨_, rfl⟩
  have HG := Lib.hid hg
  rw [hg] at HC hg2 ⊢
  clear hg
  go_wp2
  go_loopw [4, 6, 7, 8, 14] (fun v _ _ _ i wr => ∃ (j : Nat) (l : List Int), j ≤ n ∧ i = .int .i64 (j : Int) ∧ Hid (numsW (ps.take j) = some l ∧ l.length = j) ∧ Hid (wr.ownsRow w1.heap.size 3 1 v j (l.map (Value.int .i64))) ∧ Hid (Below w1.heap.size w1 wr)) (fun _ _ _ _ i _ => n - (intOf i).toNat)
  case atStart => exact ⟨0, [], Nat.zero_le _, rfl, ⟨rfl, rfl⟩, World.ownsRow_nil _ _ _ _, Below.refl _ _⟩
  case round =>
    obtain ⟨j, l, hj, rfl, HL, HO, HB⟩ := hrel
    obtain ⟨Ac, ca, rfl, _⟩ := own_formT HO.out
    have hszr : w1.heap.size ≤ wr.heap.size := HB.out.size
    have HLR : Hid (LaidG wr) := HL0.out.later (HB1.out.trans (HB.out.mono HB1.out.size))
    by_cases hlt : j < n
    · obtain ⟨p, hp⟩ : ∃ p, ps[j]? = some p := ⟨_, List.getElem?_eq_getElem (by rw [HPN.out]; exact hlt)⟩
      have hcj : wr.cell? ⟨g, j, none⟩ = some (sv p) := (HB.out.cell hg2).trans (HC.out j p hp)
      have hpl := HSZ.out p (List.mem_of_getElem? hp)
      obtain ⟨P, hP⟩ : ∃ P : ByteArray, (⟨p.toArray⟩ : ByteArray) = P := ⟨_, rfl⟩
      have hPz : P.size ≤ 60000 := by rw [← hP, bytes_size]; exact hpl
      have hPl : P.data.toList = p := by rw [← hP]
      have CA := Lib.hid (atoiG P (by omega) wr HLR.out)
      rw [hPl] at CA
      have HPL := Lib.hid hPl
      have hcs : wr.cell? ⟨g, j, none⟩ = some (.string P) := by rw [hcj, ← hP]; rfl
      have hltI : (j : Int) < (n : Int) := by omega
      have HPJ := Lib.hid hp
      have HPP := Lib.hid hP
      clear hp hcj hpl hPl hP
      have HBW : Hid (∀ W, Below wr.heap.size wr W → Below w.heap.size w W) := fun W hW => HB1.out.trans ((HB.out.trans (hW.mono hszr)).mono HB1.out.size)
      go_wp2_with fail
      refine CA.out.mono ?_
      rintro e w2 ⟨hres, hb2⟩
      have HB2 := Lib.hid hb2
      have HL2 := Lib.hid (HLR.out.later hb2)
      clear hb2 CA
      rcases hres with ⟨v, hv, rfl⟩ | ⟨v, t, q, hv, rfl⟩
      · have hvb := Lib.atoiAll_bounds hv
        obtain ⟨X, hX⟩ : ∃ X, (⟨(Lib.itoa v).toArray⟩ : ByteArray) = X := ⟨_, rfl⟩
        have CI := Lib.hid (itoaG_form v hvb.1 hvb.2 X hX w2 HL2.out)
        by_cases hXP : X = P
        · have hpi : p = Lib.itoa v := by rw [← HPL.out, ← hXP, ← hX]
          have heq := strEq X P hXP
          by_cases hr : -9999999 ≤ v ∧ v ≤ 9999999
          · have HK : Hid (numsW (ps.take (j + 1)) = some (l ++ [v]) ∧ (l ++ [v]).length = j + 1) := ⟨numsW_take ps j p l v HPJ.out HL.out.1 (by rw [hpi]; exact numS_int7 v (by omega)), by rw [List.length_append, HL.out.2]; rfl⟩
            have CM : Hid (∀ W g', W.cell? ⟨g', 0, none⟩ = some (.int .i64 v) → Calls Tryz.prog 60 #[.int .i64 9999999, .slice (some ⟨g', 0, none⟩) 1 1] W fun e w' => e = .returned (.bool true) ∧ W = w') := fun W g' h => by
              have h1 := areAtMost_any _ 1 1 [v] 9999999 W (lit1 _ _ _ h) (by omega) (by omega)
              rw [fromB_one.2 hr] at h1
              exact h1
            clear hv hr hpi hX hXP hvb
            go_wp2_with fail
            refine CI.out.mono ?_
            rintro e w3 ⟨rfl, hb3⟩
            go_wp2_with fail
            refine (CM.out _ _ (by simp [go_sem])).mono ?_
            rintro e w4 ⟨rfl, hw4⟩
            have HB3 : Hid (Below w1.heap.size w1 w4) := by show Below _ _ _; rw [← hw4]; exact (HB.out.trans ((HB2.out.trans (hb3.mono HB2.out.size)).mono hszr)).alloc (Nat.le_trans hszr (Nat.le_trans HB2.out.size hb3.size)) _
            have HO3 : Hid (w4.ownsRow w1.heap.size 3 1 (.slice Ac j ca) j (l.map (Value.int .i64))) := by show World.ownsRow _ _ _ _ _ _ _; rw [← hw4]; exact (ownBelowT (ownBelowT HO.out HB2.out) hb3).alloc _
            have hsz4 : w1.heap.size ≤ w4.heap.size := HB3.out.size
            clear hb3 HO HB HB2 HL2 HLR HBW CI CM hw4
            go_wp2_with (at_builtin; refine wpList_append_own _ rfl (.tmp 37) (.tmp 39) 22 rfl w1.heap.size 3 i0 _ 1 8 Tryz.underlying22 hi0 hz0 hz1 hz2 rfl (by decide) _ _ _ rfl (HO3.out.alloc _) ⟨w4.heap.size, 0, none⟩ 1 1 [.int .i64 v] rfl rfl (litG w4 v) (by intro u hu; rw [List.mem_singleton.1 hu]; rfl) (by unfold maxLen; omega) (by omega) (by simp; omega) ?_)
            intro v' w6 hown' hgrow _
            have HO6 : Hid (w6.ownsRow w1.heap.size 3 1 v' (j + 1) ((l ++ [v]).map (Value.int .i64))) := by
              show World.ownsRow _ _ _ _ _ _ _
              rw [List.map_append, List.map_singleton]
              exact hown'
            have HB6 : Hid (Below w1.heap.size w1 w6) := (HB3.out.alloc hsz4 _).grown hgrow (by simp; omega) (fun z e => (HO3.out.lt z e).1)
            clear hown' hgrow HB3 HO3
            go_wp2
            go_roundw
            case rel => exact ⟨j + 1, l ++ [v], by omega, by go_num, HK.out, HO6.out, HB6.out⟩
            case measure => simp [intOf]; omega
          · have HN : Hid (numsW ps = none) := by
              refine numsW_bad ps j p HPJ.out ?_
              cases hk : numS p 7 with
              | none => rfl
              | some k =>
                exfalso
                have h1 := numS_bd hk
                have h2 := (numS_back hk (by omega)).2
                rw [hv] at h2
                have h3 : v = k := by injection h2
                have : (10 : Nat) ^ 7 = 10000000 := by decide
                omega
            have CM : Hid (∀ W g', W.cell? ⟨g', 0, none⟩ = some (.int .i64 v) → Calls Tryz.prog 60 #[.int .i64 9999999, .slice (some ⟨g', 0, none⟩) 1 1] W fun e w' => e = .returned (.bool false) ∧ W = w') := fun W g' h => by
              have h1 := areAtMost_any _ 1 1 [v] 9999999 W (lit1 _ _ _ h) (by omega) (by omega)
              rw [show fromB (-9999999) 9999999 [v] = false by rw [Bool.eq_false_iff]; intro e; exact hr (fromB_one.1 e)] at h1
              exact h1
            clear hv hr hpi hX hXP hvb
            go_wp2_with (first
              | (go_at_call 36; refine CI.out.mono ?_; rintro e w3 ⟨rfl, hb3⟩)
              | (go_at_call 60; refine (CM.out _ _ (by simp [go_sem])).mono ?_; rintro e w' ⟨rfl, rfl⟩))
            go_ret2
            exact numNone (HBW.out _ ((HB2.out.trans (hb3.mono HB2.out.size)).alloc (Nat.le_trans HB2.out.size hb3.size) _)) HN.out
        · have hne := strNe X P hXP
          have HN : Hid (numsW ps = none) := by
            refine numsW_bad ps j p HPJ.out ?_
            cases hk : numS p 7 with
            | none => rfl
            | some k =>
              exfalso
              have h2 := numS_back hk (by omega)
              rw [hv] at h2
              have h3 : v = k := by injection h2.2
              apply hXP
              rw [← hX, ← HPP.out, h3, ← h2.1]
          clear hv hX hXP hvb
          go_wp2_with (go_at_call 36; refine CI.out.mono ?_; rintro e w3 ⟨rfl, hb3⟩)
          go_ret2
          exact numNone (HBW.out _ (HB2.out.trans (hb3.mono HB2.out.size))) HN.out
      · have HN : Hid (numsW ps = none) := by
          refine numsW_bad ps j p HPJ.out ?_
          cases hk : numS p 7 with
          | none => rfl
          | some k => exact absurd (numS_back hk (by omega)).2 (hv k)
        clear hv
        go_wp2
        go_ret2
        exact numNone (HBW.out _ HB2.out) HN.out
    · obtain rfl : n = j := by omega
      have hall : ps.take n = ps := List.take_of_length_le (by rw [HPN.out]; exact Nat.le_refl _)
      have HNL : Hid (numsW ps = some l) := by show _ = _; rw [← hall]; exact HL.out.1
      clear hall
      go_wp2
      go_ret2
      exact numSome (HB1.out.trans (HB.out.mono HB1.out.size)) HNL.out (by rw [HL.out.2]; exact ownMono HO.out HB1.out.size)
end Go.Proofs.YtjjflbnopphciaaGreatDoor

namespace Go.Proofs.YtjjflbnopphciaaGreatDoor
open Go.RowKit

def txG (x : Int) : Value := sv (Lib.itoa x)
set_option maxRecDepth 100000 in
set_option maxHeartbeats 8000000 in
/-- The code's string of numbers. -/
theorem formatPath_any (A : Option Addr) (n c : Nat) (xs : List Int) (w : World) (hl : LaidG w) (hr : RdI w A n xs) (hn : n ≤ 1000) (hx : I64 xs) :
    Calls Tryz.prog 7 #[.slice A n c] w fun e w' => e = .returned (.string (⟨(joinP xs).toArray⟩ : ByteArray)) ∧ Below w.heap.size w w' := by
  obtain ⟨i0, hi0, hz0, hz1, hz2⟩ := info_parts strInfo
  have hln := hr.1
  have HLN := Lib.hid hln
  have HR := Lib.hid hr
  have HX := Lib.hid hx
  have HL0 := Lib.hid hl
  obtain ⟨R, hR⟩ : ∃ R, (⟨(joinP xs).toArray⟩ : ByteArray) = R := ⟨_, rfl⟩
  have HRR := Lib.hid hR
  rw [hR]
  have hAn : 0 < n → ∃ ad, A = some ad ∧ ad.block < w.heap.size ∧ ∀ j, j < n → w.cell? (ad.add j) = some (.int .i64 (xs.getD j 0)) := hr.2
  have HAN := Lib.hid hAn
  clear hr hx hl hln hR hAn
  go_enter Tryz.func7, Tryz.ntmps7
  go_wp2
  go_loopw [3, 5, 8] (fun v _ i wr => ∃ j : Nat, j ≤ n ∧ i = .int .i64 (j : Int) ∧ Hid (wr.ownsRow w.heap.size 9 1 v j ((xs.take j).map txG)) ∧ Hid (Below w.heap.size w wr)) (fun _ _ i _ => n - (intOf i).toNat)
  case atStart => exact ⟨0, Nat.zero_le _, rfl, World.ownsRow_nil _ _ _ _, Below.refl _ _⟩
  case round =>
    obtain ⟨j, hj, rfl, HO, HB⟩ := hrel
    have HL : Hid (LaidG wr) := HL0.out.later HB.out
    obtain ⟨Ac, ca, rfl, _⟩ := own_formT HO.out
    have hszr : w.heap.size ≤ wr.heap.size := HB.out.size
    by_cases hlt : j < n
    · obtain ⟨ad, rfl, hab, hcx⟩ := HAN.out (by omega)
      have hcj : wr.cell? (ad.add j) = some (.int .i64 (xs.getD j 0)) := (HB.out.cell (by rw [addBlock]; exact hab)).trans (hcx j hlt)
      have hxm : xs.getD j 0 ∈ xs := by
        rw [List.getD_eq_getElem?_getD, List.getElem?_eq_getElem (by rw [HLN.out]; exact hlt)]
        exact List.getElem_mem _
      have hxb := HX.out _ hxm
      have hsn : xs.take (j + 1) = xs.take j ++ [xs.getD j 0] := by
        rw [List.take_add_one, List.getD_eq_getElem?_getD, List.getElem?_eq_getElem (by rw [HLN.out]; exact hlt)]
        rfl
      obtain ⟨x, hx⟩ : ∃ x, xs.getD j 0 = x := ⟨_, rfl⟩
      rw [hx] at hcj hxb hsn
      obtain ⟨D, hD⟩ : ∃ D, (⟨(Lib.itoa x).toArray⟩ : ByteArray) = D := ⟨_, rfl⟩
      have CD : Hid (∀ W, LaidG W → _) := Lib.hid fun W h => itoaG_form x hxb.1 hxb.2 D hD W h
      have hltI : (j : Int) < (n : Int) := by omega
      have HTK := Lib.hid hsn
      have HD := Lib.hid hD
      clear hx hxm hxb hD hsn hcx
      go_wp2_with fail
      refine (CD.out _ HL.out).mono ?_
      rintro e w5 ⟨rfl, hb5⟩
      have HO5 : Hid (w5.ownsRow w.heap.size 9 1 (.slice Ac j ca) j ((xs.take j).map txG)) := ownBelowT HO.out hb5
      have HB5 := Lib.hid (HB.out.trans (hb5.mono hszr))
      have hsz5 : w.heap.size ≤ w5.heap.size := Nat.le_trans hszr hb5.size
      clear hb5 HO HB HL hcj
      have HNX : Hid (∀ i u, [Value.string D][i]? = some u → (w5.alloc (.cells #[.string D] 9)).cell? ((⟨w5.heap.size, 0, none⟩ : Addr).add i) = some u) := by
        intro i u hj
        cases i with
        | zero => have : Value.string D = u := by simpa using hj
                  subst this
                  simp [go_sem, Addr.add]
        | succ i => simp at hj
      go_wp2_with (at_builtin; refine wpList_append_own _ rfl (.tmp 12) (.tmp 15) 87 rfl w.heap.size 9 i0 _ 1 16 Tryz.underlying87 hi0 hz0 hz1 hz2 rfl (by decide) _ _ _ rfl (HO5.out.alloc _) ⟨w5.heap.size, 0, none⟩ 1 1 [.string D] rfl rfl HNX.out (by intro u hu; rw [List.mem_singleton.1 hu]; rfl) (by unfold maxLen; omega) (by omega) (by simp; omega) ?_)
      intro v' w6 hown' hgrow _
      have HO6 : Hid (w6.ownsRow w.heap.size 9 1 v' (j + 1) ((xs.take (j + 1)).map txG)) := by
        show World.ownsRow _ _ _ _ _ _ _
        rw [HTK.out, List.map_append, List.map_singleton, List.map_take, show txG x = Value.string D by rw [← HD.out]; rfl]
        exact hown'
      have HB6 : Hid (Below w.heap.size w w6) := (HB5.out.alloc hsz5 _).grown hgrow (by simp; omega) (fun z e => (HO5.out.lt z e).1)
      clear hown' hgrow HB5 HO5 HNX
      go_wp2
      go_roundw
      case rel => exact ⟨j + 1, by omega, by go_num, HO6.out, HB6.out⟩
      case measure => simp [intOf]; omega
    · obtain rfl : n = j := by omega
      have hall : xs.take n = xs := List.take_of_length_le (by rw [HLN.out]; exact Nat.le_refl _)
      have HO6 : Hid (wr.ownsRow w.heap.size 9 1 (.slice Ac n ca) n (xs.map txG)) := by
        show World.ownsRow _ _ _ _ _ _ _
        have := HO.out
        rw [hall] at this
        exact this
      clear hall
      by_cases h0 : n = 0
      · have hnil : xs = [] := List.eq_nil_of_length_eq_zero (by rw [HLN.out]; exact h0)
        have hRe : R = ⟨#[]⟩ := by rw [← HRR.out, hnil]; rfl
        have HJ := Lib.hid (Tryz.strings_Join_none Ac ca ⟨#[32]⟩ wr)
        subst h0
        subst hRe
        clear hnil
        go_wp2_with fail
        refine (HJ.out).mono ?_
        rintro e w7 ⟨rfl, h7⟩
        have HBF : Hid (Below w.heap.size w w7) := by
          first
            | exact HB.out.trans (h7.mono hszr)
            | (have h8 : w7 = wr := h7; rw [h8]; exact HB.out)
            | (have h8 : wr = w7 := h7; rw [← h8]; exact HB.out)
        clear h7 HJ
        go_wp2
        go_ret
        exact ⟨rfl, HBF.out⟩
      · obtain ⟨g, cp, hv, hg1, hg2, hcl⟩ := own_str HO6.out (by rw [List.length_map, HLN.out]) (by omega)
        injection hv with hv1 hv2 hv3
        subst hv1; subst hv3
        have hcp : n ≤ ca := by
          rcases HO6.out.2 with ⟨h, _⟩ | ⟨g', cap', cur, h', _, _, hn, _, _, _⟩
          · cases h
          · simp only [Value.slice.injEq] at h'; omega
        have HCL := Lib.hid hcl
        have HJ := Lib.hid (Tryz.strings_Join g 0 ca (xs.map fun x => (⟨(Lib.itoa x).toArray⟩ : ByteArray)) ⟨#[32]⟩ wr (by
          intro j x hx
          rw [List.getElem?_map] at hx
          cases hy : xs[j]? with
          | none => rw [hy] at hx; cases hx
          | some y =>
            rw [hy] at hx
            have := HCL.out j (txG y) (by rw [List.getElem?_map, hy]; rfl)
            rw [Nat.zero_add, this, ← Option.some.inj hx]
            rfl) hg2 (by rw [List.length_map, HLN.out]; omega) (by rw [List.length_map, HLN.out]; exact hcp) (by
          have hmap : (xs.map fun x => (⟨(Lib.itoa x).toArray⟩ : ByteArray)).map (·.data.toList) = xs.map Lib.itoa := by simp [List.map_map, Function.comp_def]
          rw [hmap]
          have h1 := joinP_len xs HX.out
          have h2 : (Lib.join (xs.map Lib.itoa) [32]).length = (joinP xs).length := rfl
          rw [show (⟨#[32]⟩ : ByteArray).data.toList = [32] from rfl, h2]
          rw [HLN.out] at h1
          omega))
        rw [List.length_map, HLN.out] at HJ
        have HJ2 : Hid (Calls Tryz.prog 37 #[.slice (some ⟨g, 0, none⟩) n ca, .string ⟨#[32]⟩] wr fun e w' => e = .returned (.string R) ∧ Below wr.heap.size wr w') := by
          refine Calls.mono HJ.out ?_
          rintro e w' ⟨rfl, hb⟩
          refine ⟨?_, hb⟩
          rw [← HRR.out]
          have hmap : (xs.map fun x => (⟨(Lib.itoa x).toArray⟩ : ByteArray)).map (·.data.toList) = xs.map Lib.itoa := by simp [List.map_map, Function.comp_def]
          rw [hmap]
          rfl
        clear hcl HJ
        go_wp2_with fail
        refine HJ2.out.mono ?_
        rintro e w7 ⟨rfl, hb7⟩
        have HBF := Lib.hid (HB.out.trans (hb7.mono hszr))
        clear hb7 HJ2
        go_wp2
        go_ret
        exact ⟨rfl, HBF.out⟩
end Go.Proofs.YtjjflbnopphciaaGreatDoor

namespace Go.Proofs.YtjjflbnopphciaaGreatDoor
open Go.RowKit

def numsO (s : ByteArray) : Option (List Int) := if s.size = 0 then some [] else numsW (pcs 32 s.data.toList)
theorem pathS_numsO {s : ByteArray} (h : s.size ≤ 60000) : pathS s = pathO (numsO s) := by
  unfold pathS numsO
  rw [if_neg (by omega)]
  by_cases h0 : s.size = 0
  · rw [if_pos h0, if_pos h0]; rfl
  · rw [if_neg h0, if_neg h0]
theorem numsO_len {s : ByteArray} (h : s.size ≤ 60000) {l : List Int} (hl : numsO s = some l) : l.length ≤ 60001 := by
  unfold numsO at hl
  by_cases h0 : s.size = 0
  · rw [if_pos h0] at hl
    have := Option.some.inj hl
    subst this; simp
  · rw [if_neg h0] at hl
    have h1 := (numsW_ok _ _ hl).1
    have h2 := pcs_len_le 32 s.data.toList
    have h3 : s.data.toList.length = s.size := by simp
    rw [h1, List.length_map] at h2
    omega
theorem pathO_len (o : Option (List Int)) : (pathO o).1.length ≤ 200 := by
  cases o with
  | none => simp [pathO]
  | some l =>
    by_cases h : posE l = 0
    · rw [pathO_ok h]
      unfold posE at h
      by_cases h2 : 200 < l.length
      · rw [if_pos h2] at h; omega
      · show l.length ≤ 200; omega
    · rw [pathO_err h]; simp
theorem ppL_len (s : ByteArray) : (ppL s).length ≤ 200 := by
  unfold ppL pathS
  split
  · simp
  · split
    · simp
    · exact pathO_len _

set_option maxRecDepth 100000 in
set_option maxHeartbeats 4000000 in
theorem numbersIn_any (s : ByteArray) (w : World) (hl : LaidG w) (hs : s.size ≤ 60000) :
    Calls Tryz.prog 38 #[.string s] w (NumRes w (numsO s)) := by
  by_cases h0 : s.size = 0
  · have HE : Hid (numsO s = some []) := if_pos h0
    have he := size_nil h0
    subst he
    clear h0 hs
    go_enter Tryz.func38, Tryz.ntmps38
    go_wp2
    go_ret2
    exact numSome (l := []) (Below.refl _ _) HE.out (World.ownsRow_nil _ _ _ _)
  · have e : numsO s = numsW (pcs 32 s.data.toList) := if_neg h0
    rw [e]
    exact numbersIn_in s w hl hs h0 _ _ rfl rfl

set_option maxRecDepth 100000 in
set_option maxHeartbeats 4000000 in
/-- The code's numbers of any string. -/
theorem parsePath_any (s : ByteArray) (w : World) (hl : LaidG w) (hs : s.size ≤ 60000 + 1000000) :
    Calls Tryz.prog 9 #[.string s] w (OwnRes w (ppE s) (ppL s)) := by
  by_cases h1 : 60000 < s.size
  · have HE : Hid (pathS s = ([], 8)) := if_pos h1
    have hI : (60000 : Int) < (s.size : Int) := by omega
    go_enter Tryz.func9, Tryz.ntmps9
    go_wp2
    go_ret2
    exact finErr (Below.refl _ _) HE.out
  · have CN := Lib.hid (numbersIn_any s w hl (by omega))
    have HP := Lib.hid (pathS_numsO (s := s) (by omega))
    have hI : ¬ (60000 : Int) < (s.size : Int) := by omega
    have HLB : Hid (∀ l, numsO s = some l → l.length ≤ 60001) := fun l hl => numsO_len (by omega) hl
    clear hl h1 hs
    cases hn : numsO s with
    | none =>
      rw [hn] at CN HP
      have HE : Hid (pathS s = ([], 7)) := by show _ = _; rw [HP.out]; rfl
      clear hn
      go_enter Tryz.func9, Tryz.ntmps9
      go_wp2_with (go_at_call 38; refine CN.out.mono ?_; rintro e w2 ⟨⟨v, rfl, ho⟩, hb⟩)
      go_ret2
      exact finErr hb HE.out
    | some l =>
      rw [hn] at CN HP
      have hnn := hn
      clear hn
      go_enter Tryz.func9, Tryz.ntmps9
      go_wp2_with fail
      refine CN.out.mono ?_
      rintro e w2 ⟨⟨v, rfl, ho⟩, hb⟩
      have ho' : w2.ownsRow w.heap.size 3 1 v l.length (l.map (Value.int .i64)) := ho
      obtain ⟨A, c, rfl, hnc, hrd, _⟩ := rd_ownN ho'
      have HRD := Lib.hid hrd
      have HO := Lib.hid ho'
      have HB := Lib.hid hb
      have hll : l.length ≤ 60001 := by
        have := HLB.out
        have := this l hnn
        omega
      have CC := Lib.hid (checkPositions_any A l.length c l w2 hrd (by omega))
      clear ho ho' hnc hrd hb hll hnn
      by_cases hp : posE l = 0
      · have HE3 : Hid (pathS s = (l, 0)) := by show _ = _; rw [HP.out, pathO_ok hp]
        rw [hp] at CC
        clear hp
        go_wp2_with (go_at_call 39; refine CC.out.mono ?_; rintro e w3 ⟨rfl, hw3⟩; obtain rfl := hw3)
        go_ret2
        exact finOk HB.out HE3.out HO.out
      · have HE3 : Hid (pathS s = ([], posE l)) := by show _ = _; rw [HP.out, pathO_err hp]
        have hpn : (posE l != 0) = true := by simpa using hp
        obtain ⟨E, hEE⟩ : ∃ E, posE l = E := ⟨_, rfl⟩
        rw [hEE] at CC hpn HE3
        clear hp hEE
        go_wp2_with (go_at_call 39; refine CC.out.mono ?_; rintro e w3 ⟨rfl, hw3⟩; obtain rfl := hw3)
        go_ret2
        exact finErr HB.out HE3.out
end Go.Proofs.YtjjflbnopphciaaGreatDoor

