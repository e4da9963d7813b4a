/- Contracts of the functions that the statements reach, part 2: what was proved of each, callees first. -/
import Derived.Shelf.Strings.Builder1
import Derived.Shelf.Strings.Builder2
import Derived.Shelf.Small.Utf8
import Derived.Shelf.Small.Bits
import Derived.Shelf.Small.Strs
import Derived.Shelf.Small.Wraps
import Derived.Shelf.Strings.BuilderF
import Derived.Shelf.Strings.BuilderK
import Derived.Shelf.Strings.Builder2Cap
import Derived.Shelf.Strconv.Itoa0
import Derived.Shelf.Strconv.Itoa1
import Derived.Shelf.LaysM
import Derived.Shelf.Strconv.Itoa2
import Derived.Shelf.Strings.Search1
import Derived.Shelf.Strings.Search2
import Derived.Shelf.Strings.Cut
import Derived.Shelf.Strings.Shaped
import Derived.Shelf.Strconv.AppendUint10
import Derived.Shelf.Strings.Prefix
import Derived.Shelf.Strings.Runes
import Derived.Shelf.Strings.IndexAny
import Derived.Shelf.Strings.AsciiSet
import Derived.Shelf.Strings.IndexAnyAll
import Derived.Shelf.Bits.Mul64
import Derived.Shelf.Strings.Repeat
import Derived.Shelf.Unicode.DecodeSlow
import Derived.Shelf.Strings.BuilderCap
import Derived.Test.YtgihmikeapbpkaaGreatDoorProg
import Derived.Laws.BytesString
import Derived.Laws.Cells
import Derived.Laws.RangeAny
import Derived.Lib.OthersKept
import Derived.Test.YtgihmikeapbpkaaGreatDoorK1
namespace Go.Proofs
open Go.Shelf
def Tryz.lays170_ren : Go.Shelf.Ren := ⟨fun | 170 => 137 | n => n, fun | 70 => 145 | 3 => 3 | 0 => 0 | 72 => 147 | 37 => 101 | 5 => 5 | n => n, fun | n => n⟩
theorem Tryz.lays170 : Go.Proofs.Lays.n170 Tryz.prog Tryz.lays170_ren := {
 mixed := by kernel_rfl
 f170 := Tryz.func137.trans (congrArg some (by kernel_rfl))
 t0 := Tryz.underlying0
 a0 := Tryz.isAgg0
 z0 := Tryz.sizeOf0
 v0 := Tryz.zeroValue0
 t3 := Tryz.underlying3
 a3 := Tryz.isAgg3
 z3 := Tryz.sizeOf3
 v3 := Tryz.zeroValue3
 t37 := Tryz.underlying101
 a37 := Tryz.isAgg101
 z37 := Tryz.sizeOf101
 v37 := Tryz.zeroValue101
 t70 := Tryz.underlying145
 a70 := Tryz.isAgg145
 z70 := Tryz.sizeOf145
 v70 := Tryz.zeroValue145
 t72 := Tryz.underlying147
 a72 := Tryz.isAgg147
 z72 := Tryz.sizeOf147
 v72 := Tryz.zeroValue147 }
open Go.RowKit in
theorem Tryz.Builder_Len (B b : Nat) (bs : List Value) (w : World) (h : Lib.IsBuilder 147 5 B b bs w) :
  Calls Tryz.prog 137 #[.pointer (some ⟨b, 0, none⟩)] w fun e w' => e = .returned (.int .i64 bs.length) ∧ w' = w := Any.Builder_Len Tryz.lays170 B b bs w h
def Tryz.lays169_ren : Go.Shelf.Ren := ⟨fun | 169 => 138 | n => n, fun | 70 => 145 | 9 => 9 | 0 => 0 | 72 => 147 | 37 => 101 | 127 => 178 | 3 => 3 | 5 => 5 | n => n, fun | n => n⟩
theorem Tryz.lays169 : Go.Proofs.Lays.n169 Tryz.prog Tryz.lays169_ren := {
 mixed := by kernel_rfl
 f169 := Tryz.func138.trans (congrArg some (by kernel_rfl))
 t0 := Tryz.underlying0
 a0 := Tryz.isAgg0
 z0 := Tryz.sizeOf0
 v0 := Tryz.zeroValue0
 t3 := Tryz.underlying3
 a3 := Tryz.isAgg3
 z3 := Tryz.sizeOf3
 v3 := Tryz.zeroValue3
 t9 := Tryz.underlying9
 a9 := Tryz.isAgg9
 z9 := Tryz.sizeOf9
 v9 := Tryz.zeroValue9
 t37 := Tryz.underlying101
 a37 := Tryz.isAgg101
 z37 := Tryz.sizeOf101
 v37 := Tryz.zeroValue101
 t70 := Tryz.underlying145
 a70 := Tryz.isAgg145
 z70 := Tryz.sizeOf145
 v70 := Tryz.zeroValue145
 t72 := Tryz.underlying147
 a72 := Tryz.isAgg147
 z72 := Tryz.sizeOf147
 v72 := Tryz.zeroValue147
 t127 := Tryz.underlying178
 a127 := Tryz.isAgg178
 z127 := Tryz.sizeOf178
 v127 := Tryz.zeroValue178 }
theorem Tryz.Builder_Extra_169 : Builder.Extra Tryz.prog Tryz.lays169_ren := {
 sizeBuilder := by kernel_rfl
 liesBuilder := by kernel_rfl
 t5 := Tryz.underlying5
 a5 := Tryz.isAgg5
 z5 := Tryz.sizeOf5
 v5 := Tryz.zeroValue5
 infoByte := by kernel_rfl
 cellsByte := by kernel_rfl
 sizeByte := by kernel_rfl
 neB5 := by decide }
open Go.RowKit in
theorem Tryz.Builder_String (B b : Nat) (l : List UInt8) (w : World) (h : Lib.IsBuilder 147 5 B b (Lib.byteCells l) w) (h0 : l ≠ []) :
  Calls Tryz.prog 138 #[.pointer (some ⟨b, 0, none⟩)] w fun e w' => e = .returned (.string ⟨l.toArray⟩) ∧ Below B w w' := Any.Builder_String Tryz.lays169 Tryz.Builder_Extra_169 B b l w h h0
open Go.RowKit in
theorem Tryz.Builder_String_empty (B b : Nat) (w : World) (h : Lib.IsBuilder 147 5 B b [] w) (hBw : B ≤ w.heap.size) :
  Calls Tryz.prog 138 #[.pointer (some ⟨b, 0, none⟩)] w fun e w' => e = .returned (.string ⟨#[]⟩) ∧ Below B w w' := Any.Builder_String_empty Tryz.lays169 Tryz.Builder_Extra_169 B b w h hBw
open Go.RowKit in
theorem Tryz.Builder_String_any (B b : Nat) (l : List UInt8) (w : World) (h : Lib.IsBuilder 147 5 B b (Lib.byteCells l) w) (hBw : B ≤ w.heap.size) :
  Calls Tryz.prog 138 #[.pointer (some ⟨b, 0, none⟩)] w fun e w' => e = .returned (.string ⟨l.toArray⟩) ∧ Below B w w' := Any.Builder_String_any Tryz.lays169 Tryz.Builder_Extra_169 B b l w h hBw
def Tryz.lays241_ren : Go.Shelf.Ren := ⟨fun | 241 => 168 | 277 => 197 | n => n, fun | 70 => 145 | 3 => 3 | 0 => 0 | 72 => 147 | 37 => 101 | 5 => 5 | n => n, fun | n => n⟩
theorem Tryz.lays241 : Go.Proofs.Lays.n241 Tryz.prog Tryz.lays241_ren := {
 mixed := by kernel_rfl
 f241 := Tryz.func168.trans (congrArg some (by kernel_rfl))
 f277 := Tryz.func197.trans (congrArg some (by kernel_rfl))
 t0 := Tryz.underlying0
 a0 := Tryz.isAgg0
 z0 := Tryz.sizeOf0
 v0 := Tryz.zeroValue0
 t3 := Tryz.underlying3
 a3 := Tryz.isAgg3
 z3 := Tryz.sizeOf3
 v3 := Tryz.zeroValue3
 t37 := Tryz.underlying101
 a37 := Tryz.isAgg101
 z37 := Tryz.sizeOf101
 v37 := Tryz.zeroValue101
 t70 := Tryz.underlying145
 a70 := Tryz.isAgg145
 z70 := Tryz.sizeOf145
 v70 := Tryz.zeroValue145
 t72 := Tryz.underlying147
 a72 := Tryz.isAgg147
 z72 := Tryz.sizeOf147
 v72 := Tryz.zeroValue147 }
theorem Tryz.Builder_Extra_241 : Builder.Extra Tryz.prog Tryz.lays241_ren := {
 sizeBuilder := by kernel_rfl
 liesBuilder := by kernel_rfl
 t5 := Tryz.underlying5
 a5 := Tryz.isAgg5
 z5 := Tryz.sizeOf5
 v5 := Tryz.zeroValue5
 infoByte := by kernel_rfl
 cellsByte := by kernel_rfl
 sizeByte := by kernel_rfl
 neB5 := by decide }
open Go.RowKit in
theorem Tryz.Builder_grow_fresh (B b n : Nat) (w : World) (hB : B ≤ b) (hbk : w.heap[b]? = some (.cells #[.pointer (some ⟨b, 0, none⟩), .slice none 0 0] 147 (0, 0))) (hBw : B ≤ w.heap.size) (hn : n ≤ 281474976710656) :
  Calls Tryz.prog 168 #[.pointer (some ⟨b, 0, none⟩), .int .i64 n] w fun e w' => e = .returned (.tuple #[]) ∧ (Lib.BuilderAt 147 5 B b (.pointer (some ⟨b, 0, none⟩)) [] w' ∧ Below B w w') := Any.Builder_grow_fresh Tryz.lays241 Tryz.Builder_Extra_241 B b n w hB hbk hBw hn
def Tryz.lays165_ren : Go.Shelf.Ren := ⟨fun | 165 => 135 | 240 => 167 | 241 => 168 | 276 => 196 | 277 => 197 | n => n, fun | 70 => 145 | 3 => 3 | 0 => 0 | 4 => 4 | 9 => 9 | 20 => 20 | 72 => 147 | 37 => 101 | 164 => 194 | 5 => 5 | n => n, fun | n => n⟩
theorem Tryz.lays165 : Go.Proofs.Lays.n165 Tryz.prog Tryz.lays165_ren := {
 mixed := by kernel_rfl
 f165 := Tryz.func135.trans (congrArg some (by kernel_rfl))
 f240 := Tryz.func167.trans (congrArg some (by kernel_rfl))
 f241 := Tryz.func168.trans (congrArg some (by kernel_rfl))
 f276 := Tryz.func196.trans (congrArg some (by kernel_rfl))
 f277 := Tryz.func197.trans (congrArg some (by kernel_rfl))
 t0 := Tryz.underlying0
 a0 := Tryz.isAgg0
 z0 := Tryz.sizeOf0
 v0 := Tryz.zeroValue0
 t3 := Tryz.underlying3
 a3 := Tryz.isAgg3
 z3 := Tryz.sizeOf3
 v3 := Tryz.zeroValue3
 t4 := Tryz.underlying4
 a4 := Tryz.isAgg4
 z4 := Tryz.sizeOf4
 v4 := Tryz.zeroValue4
 t9 := Tryz.underlying9
 a9 := Tryz.isAgg9
 z9 := Tryz.sizeOf9
 v9 := Tryz.zeroValue9
 t20 := Tryz.underlying20
 a20 := Tryz.isAgg20
 z20 := Tryz.sizeOf20
 v20 := Tryz.zeroValue20
 t37 := Tryz.underlying101
 a37 := Tryz.isAgg101
 z37 := Tryz.sizeOf101
 v37 := Tryz.zeroValue101
 t70 := Tryz.underlying145
 a70 := Tryz.isAgg145
 z70 := Tryz.sizeOf145
 v70 := Tryz.zeroValue145
 t72 := Tryz.underlying147
 a72 := Tryz.isAgg147
 z72 := Tryz.sizeOf147
 v72 := Tryz.zeroValue147
 t164 := Tryz.underlying194
 a164 := Tryz.isAgg194
 z164 := Tryz.sizeOf194
 v164 := Tryz.zeroValue194 }
theorem Tryz.Builder_Extra_165 : Builder.Extra Tryz.prog Tryz.lays165_ren := {
 sizeBuilder := by kernel_rfl
 liesBuilder := by kernel_rfl
 t5 := Tryz.underlying5
 a5 := Tryz.isAgg5
 z5 := Tryz.sizeOf5
 v5 := Tryz.zeroValue5
 infoByte := by kernel_rfl
 cellsByte := by kernel_rfl
 sizeByte := by kernel_rfl
 neB5 := by decide }
open Go.RowKit in
theorem Tryz.Builder_Grow_fresh (B b n : Nat) (w : World) (hB : B ≤ b) (hbk : w.heap[b]? = some (.cells #[.pointer none, .slice none 0 0] 147 (0, 0))) (hBw : B ≤ w.heap.size) (hn : n ≤ 281474976710656) :
  Calls Tryz.prog 135 #[.pointer (some ⟨b, 0, none⟩), .int .i64 n] w fun e w' => e = .returned (.tuple #[]) ∧ (Lib.BuilderAt 147 5 B b (.pointer (some ⟨b, 0, none⟩)) [] w' ∧ Below B w w') := Any.Builder_Grow_fresh Tryz.lays165 Tryz.Builder_Extra_165 B b n w hB hbk hBw hn
def Tryz.lays119_ren : Go.Shelf.Ren := ⟨fun | 119 => 223 | n => n, fun | 21 => 21 | 4 => 4 | n => n, fun | n => n⟩
theorem Tryz.lays119 : Go.Proofs.Lays.n119 Tryz.prog Tryz.lays119_ren := {
 mixed := by kernel_rfl
 f119 := Tryz.func223.trans (congrArg some (by kernel_rfl))
 t4 := Tryz.underlying4
 a4 := Tryz.isAgg4
 z4 := Tryz.sizeOf4
 v4 := Tryz.zeroValue4
 t21 := Tryz.underlying21
 a21 := Tryz.isAgg21
 z21 := Tryz.sizeOf21
 v21 := Tryz.zeroValue21 }
theorem Tryz.utf8_ValidRune (r : Int) (w : World) :
  Calls Tryz.prog 223 #[.int .i32 r] w fun e w' => e = .returned (.bool (Lib.validRune r)) ∧ w' = w := Any.utf8_ValidRune Tryz.lays119 r w
def Tryz.lays120_ren : Go.Shelf.Ren := ⟨fun | 120 => 228 | n => n, fun | 5 => 5 | 4 => 4 | n => n, fun | n => n⟩
theorem Tryz.lays120 : Go.Proofs.Lays.n120 Tryz.prog Tryz.lays120_ren := {
 mixed := by kernel_rfl
 f120 := Tryz.func228.trans (congrArg some (by kernel_rfl))
 t4 := Tryz.underlying4
 a4 := Tryz.isAgg4
 z4 := Tryz.sizeOf4
 v4 := Tryz.zeroValue4
 t5 := Tryz.underlying5
 a5 := Tryz.isAgg5
 z5 := Tryz.sizeOf5
 v5 := Tryz.zeroValue5 }
theorem Tryz.utf8_RuneStart (b : Int) (w : World) (h0 : 0 ≤ b) (h1 : b < 256) :
  Calls Tryz.prog 228 #[.int .u8 b] w fun e w' => e = .returned (.bool (Lib.runeStart b)) ∧ w' = w := Any.utf8_RuneStart Tryz.lays120 b w h0 h1
def Tryz.lays134_ren : Go.Shelf.Ren := ⟨fun | 134 => 226 | 129 => 182 | n => n, fun | 53 => 103 | 3 => 3 | 4 => 4 | 46 => 142 | 5 => 5 | 9 => 9 | n => n, fun | n => n⟩
theorem Tryz.lays134 : Go.Proofs.Lays.n134 Tryz.prog Tryz.lays134_ren := {
 mixed := by kernel_rfl
 f129 := Tryz.func182.trans (congrArg some (by kernel_rfl))
 f134 := Tryz.func226.trans (congrArg some (by kernel_rfl))
 t3 := Tryz.underlying3
 a3 := Tryz.isAgg3
 z3 := Tryz.sizeOf3
 v3 := Tryz.zeroValue3
 t4 := Tryz.underlying4
 a4 := Tryz.isAgg4
 z4 := Tryz.sizeOf4
 v4 := Tryz.zeroValue4
 t5 := Tryz.underlying5
 a5 := Tryz.isAgg5
 z5 := Tryz.sizeOf5
 v5 := Tryz.zeroValue5
 t9 := Tryz.underlying9
 a9 := Tryz.isAgg9
 z9 := Tryz.sizeOf9
 v9 := Tryz.zeroValue9
 t46 := Tryz.underlying142
 a46 := Tryz.isAgg142
 z46 := Tryz.sizeOf142
 v46 := Tryz.zeroValue142
 t53 := Tryz.underlying103
 a53 := Tryz.isAgg103
 z53 := Tryz.sizeOf103
 v53 := Tryz.zeroValue103 }
theorem Tryz.bits_LeadingZeros64 (x : Int) (w : World) (h0 : 0 ≤ x) (h1 : x ≤ 18446744073709551615) :
  Calls Tryz.prog 226 #[.int .u64 x] w fun e w' => e = .returned (.int .i64 (64 - (Lib.bitLen x.toNat : Int))) ∧ w' = w := Any.bits_LeadingZeros64 Tryz.lays134 x w h0 h1
def Tryz.lays137_ren : Go.Shelf.Ren := ⟨fun | 137 => 222 | 217 => 176 | 266 => 211 | n => n, fun | 9 => 9 | 5 => 5 | 3 => 3 | n => n, fun | n => n⟩
theorem Tryz.lays137 : Go.Proofs.Lays.n137 Tryz.prog Tryz.lays137_ren := {
 mixed := by kernel_rfl
 f137 := Tryz.func222.trans (congrArg some (by kernel_rfl))
 f217 := Tryz.func176.trans (congrArg some (by kernel_rfl))
 f266 := Tryz.func211.trans (congrArg some (by kernel_rfl))
 t3 := Tryz.underlying3
 a3 := Tryz.isAgg3
 z3 := Tryz.sizeOf3
 v3 := Tryz.zeroValue3
 t5 := Tryz.underlying5
 a5 := Tryz.isAgg5
 z5 := Tryz.sizeOf5
 v5 := Tryz.zeroValue5
 t9 := Tryz.underlying9
 a9 := Tryz.isAgg9
 z9 := Tryz.sizeOf9
 v9 := Tryz.zeroValue9 }
open Go.RowKit in
theorem Tryz.strings_IndexByte (s : ByteArray) (c : Int) (w : World) :
  Calls Tryz.prog 222 #[.string s, .int .u8 c] w fun e w' => e = .returned (.int .i64 (Lib.indexByte s.data.toList c.toNat.toUInt8)) ∧ w' = w := Any.strings_IndexByte Tryz.lays137 s c w
def Tryz.lays210_ren : Go.Shelf.Ren := ⟨fun | 210 => 119 | 206 => 144 | n => n, fun | 9 => 9 | 4 => 4 | 3 => 3 | n => n, fun | n => n⟩
theorem Tryz.lays210 : Go.Proofs.Lays.n210 Tryz.prog Tryz.lays210_ren := {
 mixed := by kernel_rfl
 f206 := Tryz.func144.trans (congrArg some (by kernel_rfl))
 f210 := Tryz.func119.trans (congrArg some (by kernel_rfl))
 t3 := Tryz.underlying3
 a3 := Tryz.isAgg3
 z3 := Tryz.sizeOf3
 v3 := Tryz.zeroValue3
 t4 := Tryz.underlying4
 a4 := Tryz.isAgg4
 z4 := Tryz.sizeOf4
 v4 := Tryz.zeroValue4
 t9 := Tryz.underlying9
 a9 := Tryz.isAgg9
 z9 := Tryz.sizeOf9
 v9 := Tryz.zeroValue9 }
open Go.RowKit in
theorem Tryz.stringslite_CutPrefix (s p : ByteArray) (w : World) :
  Calls Tryz.prog 119 #[.string s, .string p] w fun e w' => e = .returned (.tuple #[.string ⟨(Lib.trimPrefix s.data.toList p.data.toList).toArray⟩, .bool (Lib.hasPrefix s.data.toList p.data.toList)]) ∧ w' = w := Any.stringslite_CutPrefix Tryz.lays210 s p w
def Tryz.lays103_ren : Go.Shelf.Ren := ⟨fun | 103 => 75 | 210 => 119 | 206 => 144 | n => n, fun | 9 => 9 | 4 => 4 | 24 => 97 | 3 => 3 | n => n, fun | n => n⟩
theorem Tryz.lays103 : Go.Proofs.Lays.n103 Tryz.prog Tryz.lays103_ren := {
 mixed := by kernel_rfl
 f103 := Tryz.func75.trans (congrArg some (by kernel_rfl))
 f206 := Tryz.func144.trans (congrArg some (by kernel_rfl))
 f210 := Tryz.func119.trans (congrArg some (by kernel_rfl))
 t3 := Tryz.underlying3
 a3 := Tryz.isAgg3
 z3 := Tryz.sizeOf3
 v3 := Tryz.zeroValue3
 t4 := Tryz.underlying4
 a4 := Tryz.isAgg4
 z4 := Tryz.sizeOf4
 v4 := Tryz.zeroValue4
 t9 := Tryz.underlying9
 a9 := Tryz.isAgg9
 z9 := Tryz.sizeOf9
 v9 := Tryz.zeroValue9
 t24 := Tryz.underlying97
 a24 := Tryz.isAgg97
 z24 := Tryz.sizeOf97
 v24 := Tryz.zeroValue97 }
open Go.RowKit in
theorem Tryz.strings_CutPrefix (s p : ByteArray) (w : World) :
  Calls Tryz.prog 75 #[.string s, .string p] w fun e w' => e = .returned (.tuple #[.string ⟨(Lib.trimPrefix s.data.toList p.data.toList).toArray⟩, .bool (Lib.hasPrefix s.data.toList p.data.toList)]) ∧ w' = w := Any.strings_CutPrefix Tryz.lays103 s p w
def Tryz.lays215_ren : Go.Shelf.Ren := ⟨fun | 215 => 159 | n => n, fun | 3 => 3 | 4 => 4 | n => n, fun | n => n⟩
theorem Tryz.lays215 : Go.Proofs.Lays.n215 Tryz.prog Tryz.lays215_ren := {
 mixed := by kernel_rfl
 f215 := Tryz.func159.trans (congrArg some (by kernel_rfl))
 t3 := Tryz.underlying3
 a3 := Tryz.isAgg3
 z3 := Tryz.sizeOf3
 v3 := Tryz.zeroValue3
 t4 := Tryz.underlying4
 a4 := Tryz.isAgg4
 z4 := Tryz.sizeOf4
 v4 := Tryz.zeroValue4 }
open Go.RowKit in
theorem Tryz.cmp_isNaN_int (x : Int) (w : World) :
  Calls Tryz.prog 159 #[.int .i64 x] w fun e w' => e = .returned (.bool false) ∧ w' = w := Any.cmp_isNaN_int Tryz.lays215 x w
def Tryz.lays122_ren : Go.Shelf.Ren := ⟨fun | 122 => 126 | 215 => 159 | n => n, fun | 3 => 3 | 4 => 4 | n => n, fun | n => n⟩
theorem Tryz.lays122 : Go.Proofs.Lays.n122 Tryz.prog Tryz.lays122_ren := {
 mixed := by kernel_rfl
 f122 := Tryz.func126.trans (congrArg some (by kernel_rfl))
 f215 := Tryz.func159.trans (congrArg some (by kernel_rfl))
 t3 := Tryz.underlying3
 a3 := Tryz.isAgg3
 z3 := Tryz.sizeOf3
 v3 := Tryz.zeroValue3
 t4 := Tryz.underlying4
 a4 := Tryz.isAgg4
 z4 := Tryz.sizeOf4
 v4 := Tryz.zeroValue4 }
open Go.RowKit in
theorem Tryz.cmp_Compare_int (x y : Int) (w : World) :
  Calls Tryz.prog 126 #[.int .i64 x, .int .i64 y] w fun e w' => e = .returned (.int .i64 (Lib.compareInt x y)) ∧ w' = w := Any.cmp_Compare_int Tryz.lays122 x y w
open Go.RowKit in
theorem Tryz.Builder_Len_f (B b : Nat) (bs : List Value) (w : World) (h : Lib.IsBuilderF 147 5 B b bs w) :
  Calls Tryz.prog 137 #[.pointer (some ⟨b, 0, none⟩)] w fun e w' => e = .returned (.int .i64 bs.length) ∧ w' = w := Any.Builder_Len_f Tryz.lays170 B b bs w h
open Go.RowKit in
theorem Tryz.Builder_String_f (B b : Nat) (l : List UInt8) (w : World) (h : Lib.IsBuilderF 147 5 B b (Lib.byteCells l) w) (h0 : l ≠ []) :
  Calls Tryz.prog 138 #[.pointer (some ⟨b, 0, none⟩)] w fun e w' => e = .returned (.string ⟨l.toArray⟩) ∧ (Lib.IsBuilderF 147 5 B b (Lib.byteCells l) w' ∧ Below B w w') := Any.Builder_String_f Tryz.lays169 Tryz.Builder_Extra_169 B b l w h h0
open Go.RowKit in
theorem Tryz.Builder_String_empty_f (B b : Nat) (w : World) (h : Lib.IsBuilderF 147 5 B b [] w) (hBw : B ≤ w.heap.size) :
  Calls Tryz.prog 138 #[.pointer (some ⟨b, 0, none⟩)] w fun e w' => e = .returned (.string ⟨#[]⟩) ∧ (Lib.IsBuilderF 147 5 B b [] w' ∧ Below B w w') := Any.Builder_String_empty_f Tryz.lays169 Tryz.Builder_Extra_169 B b w h hBw
open Go.RowKit in
theorem Tryz.Builder_String_any_f (B b : Nat) (l : List UInt8) (w : World) (h : Lib.IsBuilderF 147 5 B b (Lib.byteCells l) w) (hBw : B ≤ w.heap.size) :
  Calls Tryz.prog 138 #[.pointer (some ⟨b, 0, none⟩)] w fun e w' => e = .returned (.string ⟨l.toArray⟩) ∧ (Lib.IsBuilderF 147 5 B b (Lib.byteCells l) w' ∧ Below B w w') := Any.Builder_String_any_f Tryz.lays169 Tryz.Builder_Extra_169 B b l w h hBw
open Go.RowKit in
theorem Tryz.Builder_String_k (B b : Nat) (l : List UInt8) (w : World) (h : Lib.IsBuilderF 147 5 B b (Lib.byteCells l) w) (h0 : l ≠ []) :
  Calls Tryz.prog 138 #[.pointer (some ⟨b, 0, none⟩)] w fun e w' => e = .returned (.string ⟨l.toArray⟩) ∧ (Lib.IsBuilderF 147 5 B b (Lib.byteCells l) w' ∧ Below B w w' ∧ Lib.OthersKept 5 (some b) w w') := Any.Builder_String_k Tryz.lays169 Tryz.Builder_Extra_169 B b l w h h0
open Go.RowKit in
theorem Tryz.Builder_String_empty_k (B b : Nat) (w : World) (h : Lib.IsBuilderF 147 5 B b [] w) (hBw : B ≤ w.heap.size) :
  Calls Tryz.prog 138 #[.pointer (some ⟨b, 0, none⟩)] w fun e w' => e = .returned (.string ⟨#[]⟩) ∧ (Lib.IsBuilderF 147 5 B b [] w' ∧ Below B w w' ∧ Lib.OthersKept 5 (some b) w w') := Any.Builder_String_empty_k Tryz.lays169 Tryz.Builder_Extra_169 B b w h hBw
open Go.RowKit in
theorem Tryz.Builder_String_any_k (B b : Nat) (l : List UInt8) (w : World) (h : Lib.IsBuilderF 147 5 B b (Lib.byteCells l) w) (hBw : B ≤ w.heap.size) :
  Calls Tryz.prog 138 #[.pointer (some ⟨b, 0, none⟩)] w fun e w' => e = .returned (.string ⟨l.toArray⟩) ∧ (Lib.IsBuilderF 147 5 B b (Lib.byteCells l) w' ∧ Below B w w' ∧ Lib.OthersKept 5 (some b) w w') := Any.Builder_String_any_k Tryz.lays169 Tryz.Builder_Extra_169 B b l w h hBw
open Go.RowKit in
theorem Tryz.Builder_grow_fresh_cap (B b n : Nat) (w : World) (hB : B ≤ b) (hbk : w.heap[b]? = some (.cells #[.pointer (some ⟨b, 0, none⟩), .slice none 0 0] 147 (0, 0))) (hBw : B ≤ w.heap.size) (hn : n ≤ 281474976710656) :
  Calls Tryz.prog 168 #[.pointer (some ⟨b, 0, none⟩), .int .i64 n] w fun e w' => e = .returned (.tuple #[]) ∧ (Lib.BuilderAt 147 5 B b (.pointer (some ⟨b, 0, none⟩)) [] w' ∧ Below B w w') ∧ ∃ p cap, w'.cell? ⟨b, 1, none⟩ = some (.slice p 0 cap) ∧ n ≤ cap := Any.Builder_grow_fresh_cap Tryz.lays241 Tryz.Builder_Extra_241 B b n w hB hbk hBw hn
open Go.RowKit in
theorem Tryz.Builder_Grow_fresh_cap (B b n : Nat) (w : World) (hB : B ≤ b) (hbk : w.heap[b]? = some (.cells #[.pointer none, .slice none 0 0] 147 (0, 0))) (hBw : B ≤ w.heap.size) (hn : n ≤ 281474976710656) :
  Calls Tryz.prog 135 #[.pointer (some ⟨b, 0, none⟩), .int .i64 n] w fun e w' => e = .returned (.tuple #[]) ∧ (Lib.BuilderAt 147 5 B b (.pointer (some ⟨b, 0, none⟩)) [] w' ∧ Below B w w') ∧ ∃ p cap, w'.cell? ⟨b, 1, none⟩ = some (.slice p 0 cap) ∧ n ≤ cap := Any.Builder_Grow_fresh_cap Tryz.lays165 Tryz.Builder_Extra_165 B b n w hB hbk hBw hn
def Tryz.lays129_ren : Go.Shelf.Ren := ⟨fun | 129 => 182 | n => n, fun | 53 => 103 | 3 => 3 | 4 => 4 | 46 => 142 | 5 => 5 | 9 => 9 | n => n, fun | n => n⟩
theorem Tryz.lays129 : Go.Proofs.Lays.n129 Tryz.prog Tryz.lays129_ren := {
 mixed := by kernel_rfl
 f129 := Tryz.func182.trans (congrArg some (by kernel_rfl))
 t3 := Tryz.underlying3
 a3 := Tryz.isAgg3
 z3 := Tryz.sizeOf3
 v3 := Tryz.zeroValue3
 t4 := Tryz.underlying4
 a4 := Tryz.isAgg4
 z4 := Tryz.sizeOf4
 v4 := Tryz.zeroValue4
 t5 := Tryz.underlying5
 a5 := Tryz.isAgg5
 z5 := Tryz.sizeOf5
 v5 := Tryz.zeroValue5
 t9 := Tryz.underlying9
 a9 := Tryz.isAgg9
 z9 := Tryz.sizeOf9
 v9 := Tryz.zeroValue9
 t46 := Tryz.underlying142
 a46 := Tryz.isAgg142
 z46 := Tryz.sizeOf142
 v46 := Tryz.zeroValue142
 t53 := Tryz.underlying103
 a53 := Tryz.isAgg103
 z53 := Tryz.sizeOf103
 v53 := Tryz.zeroValue103 }
theorem Tryz.bits_Len64 (x : Int) (w : World) (h0 : 0 ≤ x) (h1 : x ≤ 18446744073709551615) :
  Calls Tryz.prog 182 #[.int .u64 x] w fun e w' => e = .returned (.int .i64 (Lib.bitLen x.toNat)) ∧ w' = w := Any.bits_Len64 Tryz.lays129 x w h0 h1
def Tryz.lays317_ren : Go.Shelf.Ren := ⟨fun | 317 => 181 | n => n, fun | 3 => 3 | 46 => 142 | n => n, fun | n => n⟩
theorem Tryz.lays317 : Go.Proofs.Lays.n317 Tryz.prog Tryz.lays317_ren := {
 mixed := by kernel_rfl
 f317 := Tryz.func181.trans (congrArg some (by kernel_rfl))
 t3 := Tryz.underlying3
 a3 := Tryz.isAgg3
 z3 := Tryz.sizeOf3
 v3 := Tryz.zeroValue3
 t46 := Tryz.underlying142
 a46 := Tryz.isAgg142
 z46 := Tryz.sizeOf142
 v46 := Tryz.zeroValue142 }
open Go.Lib in
theorem Tryz.internal_strconv_log10Pow2 (x : Nat) (h : x ≤ 64) (w : World) :
  Calls Tryz.prog 181 #[.int .i64 x] w fun e w' => e = .returned (.int .i64 (Lib.l10 x)) ∧ w' = w := Any.internal_strconv_log10Pow2 Tryz.lays317 x h w
def Tryz.lays318_ren : Go.Shelf.Ren := ⟨fun | 318 => 183 | n => n, fun | 3 => 3 | 4 => 4 | n => n, fun | n => n⟩
theorem Tryz.lays318 : Go.Proofs.Lays.n318 Tryz.prog Tryz.lays318_ren := {
 mixed := by kernel_rfl
 f318 := Tryz.func183.trans (congrArg some (by kernel_rfl))
 t3 := Tryz.underlying3
 a3 := Tryz.isAgg3
 z3 := Tryz.sizeOf3
 v3 := Tryz.zeroValue3
 t4 := Tryz.underlying4
 a4 := Tryz.isAgg4
 z4 := Tryz.sizeOf4
 v4 := Tryz.zeroValue4 }
open Go.Lib in
theorem Tryz.internal_strconv_bool2_int (b : Bool) (w : World) :
  Calls Tryz.prog 183 #[.bool b] w fun e w' => e = .returned (.int .i64 (if b then 1 else 0)) ∧ w' = w := Any.internal_strconv_bool2_int Tryz.lays318 b w
def Tryz.lays283_ren : Go.Shelf.Ren := ⟨fun | 283 => 151 | n => n, fun | 3 => 3 | 9 => 9 | 4 => 4 | n => n, fun | n => n⟩
theorem Tryz.lays283 : Go.Proofs.Lays.n283 Tryz.prog Tryz.lays283_ren := {
 mixed := by kernel_rfl
 f283 := Tryz.func151.trans (congrArg some (by kernel_rfl))
 t3 := Tryz.underlying3
 a3 := Tryz.isAgg3
 z3 := Tryz.sizeOf3
 v3 := Tryz.zeroValue3
 t4 := Tryz.underlying4
 a4 := Tryz.isAgg4
 z4 := Tryz.sizeOf4
 v4 := Tryz.zeroValue4
 t9 := Tryz.underlying9
 a9 := Tryz.isAgg9
 z9 := Tryz.sizeOf9
 v9 := Tryz.zeroValue9 }
open Go.Lib in
theorem Tryz.internal_strconv_small (i : Nat) (h : i < 100) (w : World) :
  Calls Tryz.prog 151 #[.int .i64 i] w fun e w' => e = .returned (.string ⟨(Lib.decDigits i).toArray⟩) ∧ w' = w := Any.internal_strconv_small Tryz.lays283 i h w
def Tryz.laysM284_ren : Go.Shelf.Ren := ⟨fun | 284 => 152 | 129 => 182 | 317 => 181 | 318 => 183 | n => n, fun | 53 => 103 | 3 => 3 | 212 => 187 | 0 => 0 | 4 => 4 | 46 => 142 | 5 => 5 | 9 => 9 | n => n, fun | 17 => 1 | n => n⟩
theorem Tryz.laysM284 : Go.Proofs.LaysM.n284 Tryz.prog Tryz.laysM284_ren := {
 mixed := by kernel_rfl
 f129 := Tryz.func182.trans (congrArg some (by kernel_rfl))
 f284 := Tryz.func152.trans (congrArg some (by kernel_rfl))
 f317 := Tryz.func181.trans (congrArg some (by kernel_rfl))
 f318 := Tryz.func183.trans (congrArg some (by kernel_rfl))
 t0 := Tryz.underlying0
 a0 := Tryz.isAgg0
 z0 := Tryz.sizeOf0
 v0 := Tryz.zeroValue0
 t3 := Tryz.underlying3
 a3 := Tryz.isAgg3
 z3 := Tryz.sizeOf3
 v3 := Tryz.zeroValue3
 t4 := Tryz.underlying4
 a4 := Tryz.isAgg4
 z4 := Tryz.sizeOf4
 v4 := Tryz.zeroValue4
 t5 := Tryz.underlying5
 a5 := Tryz.isAgg5
 z5 := Tryz.sizeOf5
 v5 := Tryz.zeroValue5
 t9 := Tryz.underlying9
 a9 := Tryz.isAgg9
 z9 := Tryz.sizeOf9
 v9 := Tryz.zeroValue9
 t46 := Tryz.underlying142
 a46 := Tryz.isAgg142
 z46 := Tryz.sizeOf142
 v46 := Tryz.zeroValue142
 t53 := Tryz.underlying103
 a53 := Tryz.isAgg103
 z53 := Tryz.sizeOf103
 v53 := Tryz.zeroValue103
 t212 := Tryz.underlying187
 a212 := Tryz.isAgg187
 z212 := Tryz.sizeOf187
 v212 := Tryz.zeroValue187
 g17 := by kernel_rfl
 i0 := by kernel_rfl
 i3 := by kernel_rfl
 i4 := by kernel_rfl
 i5 := by kernel_rfl
 i9 := by kernel_rfl
 i46 := by kernel_rfl
 i53 := by kernel_rfl
 i212 := by kernel_rfl
 m17 := by kernel_rfl }
open Go.Lib in
theorem Tryz.internal_strconv_numDigits (u : Nat) (h1 : 1 ≤ u) (h2 : u < 18446744073709551616) (w : World) (htab : Lib.TabIs Tryz.prog w "internal/strconv.uint64pow10" .u64 Lib.pow10Tab) :
  Calls Tryz.prog 152 #[.int .u64 u] w fun e w' => e = .returned (.int .i64 (Lib.nDigits u)) ∧ w' = w := Any.internal_strconv_numDigits Tryz.laysM284 u h1 h2 w htab
def Tryz.lays285_ren : Go.Shelf.Ren := ⟨fun | 285 => 153 | n => n, fun | 37 => 101 | 53 => 103 | 3 => 3 | 4 => 4 | 51 => 104 | 9 => 9 | 5 => 5 | 0 => 0 | n => n, fun | n => n⟩
theorem Tryz.lays285 : Go.Proofs.Lays.n285 Tryz.prog Tryz.lays285_ren := {
 mixed := by kernel_rfl
 f285 := Tryz.func153.trans (congrArg some (by kernel_rfl))
 t0 := Tryz.underlying0
 a0 := Tryz.isAgg0
 z0 := Tryz.sizeOf0
 v0 := Tryz.zeroValue0
 t3 := Tryz.underlying3
 a3 := Tryz.isAgg3
 z3 := Tryz.sizeOf3
 v3 := Tryz.zeroValue3
 t4 := Tryz.underlying4
 a4 := Tryz.isAgg4
 z4 := Tryz.sizeOf4
 v4 := Tryz.zeroValue4
 t5 := Tryz.underlying5
 a5 := Tryz.isAgg5
 z5 := Tryz.sizeOf5
 v5 := Tryz.zeroValue5
 t9 := Tryz.underlying9
 a9 := Tryz.isAgg9
 z9 := Tryz.sizeOf9
 v9 := Tryz.zeroValue9
 t37 := Tryz.underlying101
 a37 := Tryz.isAgg101
 z37 := Tryz.sizeOf101
 v37 := Tryz.zeroValue101
 t51 := Tryz.underlying104
 a51 := Tryz.isAgg104
 z51 := Tryz.sizeOf104
 v51 := Tryz.zeroValue104
 t53 := Tryz.underlying103
 a53 := Tryz.isAgg103
 z53 := Tryz.sizeOf103
 v53 := Tryz.zeroValue103 }
open Go.RowKit Go.Sort Go.Lib in
theorem Tryz.internal_strconv_formatBase10 (blk off cap : Nat) (u : Nat) (d : Array UInt8) (w : World) (hH : Holds (fun (b : UInt8) => Value.int .u8 (b.toNat : Int)) w blk off d) (hu : u < 10 ^ d.size) (hu64 : u < 18446744073709551616) (hsz : d.size < 4611686018427387904) :
  Calls Tryz.prog 153 #[.slice (some ⟨blk, off, none⟩) d.size cap, .int .u64 u] w fun e w' =>
   e = .returned (.tuple #[]) ∧ ∃ (n v' : Nat) (dk : Array UInt8), w' = (putRow (fun (b : UInt8) => Value.int .u8 (b.toNat : Int)) w blk off dk).drewN n ∧ FmtInv d.size u 0 v' dk := Any.internal_strconv_formatBase10 Tryz.lays285 blk off cap u d w hH hu hu64 hsz
def Tryz.lays217_ren : Go.Shelf.Ren := ⟨fun | 217 => 176 | 266 => 211 | n => n, fun | 9 => 9 | 5 => 5 | 3 => 3 | n => n, fun | n => n⟩
theorem Tryz.lays217 : Go.Proofs.Lays.n217 Tryz.prog Tryz.lays217_ren := {
 mixed := by kernel_rfl
 f217 := Tryz.func176.trans (congrArg some (by kernel_rfl))
 f266 := Tryz.func211.trans (congrArg some (by kernel_rfl))
 t3 := Tryz.underlying3
 a3 := Tryz.isAgg3
 z3 := Tryz.sizeOf3
 v3 := Tryz.zeroValue3
 t5 := Tryz.underlying5
 a5 := Tryz.isAgg5
 z5 := Tryz.sizeOf5
 v5 := Tryz.zeroValue5
 t9 := Tryz.underlying9
 a9 := Tryz.isAgg9
 z9 := Tryz.sizeOf9
 v9 := Tryz.zeroValue9 }
open Go.RowKit Go.Lib in
theorem Tryz.stringslite_IndexByte (s : ByteArray) (c : Int) (w : World) :
  Calls Tryz.prog 176 #[.string s, .int .u8 c] w fun e w' => e = .returned (.int .i64 (Lib.indexByte s.data.toList c.toNat.toUInt8)) ∧ w' = w := Any.stringslite_IndexByte Tryz.lays217 s c w
def Tryz.lays224_ren : Go.Shelf.Ren := ⟨fun | 224 => 178 | n => n, fun | 3 => 3 | n => n, fun | n => n⟩
theorem Tryz.lays224 : Go.Proofs.Lays.n224 Tryz.prog Tryz.lays224_ren := {
 mixed := by kernel_rfl
 f224 := Tryz.func178.trans (congrArg some (by kernel_rfl))
 t3 := Tryz.underlying3
 a3 := Tryz.isAgg3
 z3 := Tryz.sizeOf3
 v3 := Tryz.zeroValue3 }
open Go.RowKit Go.Lib in
theorem Tryz.bytealg_Cutover (n : Int) (h0 : 0 ≤ n) (h1 : n < 4611686018427387904) (w : World) :
  Calls Tryz.prog 178 #[.int .i64 n] w fun e w' => e = .returned (.int .i64 ((n + 16) / 8)) ∧ w' = w := Any.bytealg_Cutover Tryz.lays224 n h0 h1 w
def Tryz.lays314_ren : Go.Shelf.Ren := ⟨fun | 314 => 212 | n => n, fun | 9 => 9 | 51 => 104 | 3 => 3 | 4 => 4 | 5 => 5 | 46 => 142 | n => n, fun | n => n⟩
theorem Tryz.lays314 : Go.Proofs.Lays.n314 Tryz.prog Tryz.lays314_ren := {
 mixed := by kernel_rfl
 f314 := Tryz.func212.trans (congrArg some (by kernel_rfl))
 t3 := Tryz.underlying3
 a3 := Tryz.isAgg3
 z3 := Tryz.sizeOf3
 v3 := Tryz.zeroValue3
 t4 := Tryz.underlying4
 a4 := Tryz.isAgg4
 z4 := Tryz.sizeOf4
 v4 := Tryz.zeroValue4
 t5 := Tryz.underlying5
 a5 := Tryz.isAgg5
 z5 := Tryz.sizeOf5
 v5 := Tryz.zeroValue5
 t9 := Tryz.underlying9
 a9 := Tryz.isAgg9
 z9 := Tryz.sizeOf9
 v9 := Tryz.zeroValue9
 t46 := Tryz.underlying142
 a46 := Tryz.isAgg142
 z46 := Tryz.sizeOf142
 v46 := Tryz.zeroValue142
 t51 := Tryz.underlying104
 a51 := Tryz.isAgg104
 z51 := Tryz.sizeOf104
 v51 := Tryz.zeroValue104 }
open Go.RowKit Go.Lib in
theorem Tryz.bytealg_hashStr (sep : ByteArray) (hs : sep.size < 4294967281) (w : World) :
  Calls Tryz.prog 212 #[.string sep] w fun e w' => e = .returned (.tuple #[.int .u32 (RK.H sep.data.toList % 4294967296), .int .u32 (16777619 ^ sep.size % 4294967296)]) ∧ w' = w := Any.bytealg_hashStr Tryz.lays314 sep hs w
def Tryz.lays267_ren : Go.Shelf.Ren := ⟨fun | 267 => 179 | 314 => 212 | n => n, fun | 9 => 9 | 3 => 3 | 146 => 174 | 51 => 104 | 4 => 4 | 5 => 5 | 46 => 142 | n => n, fun | n => n⟩
theorem Tryz.lays267 : Go.Proofs.Lays.n267 Tryz.prog Tryz.lays267_ren := {
 mixed := by kernel_rfl
 f267 := Tryz.func179.trans (congrArg some (by kernel_rfl))
 f314 := Tryz.func212.trans (congrArg some (by kernel_rfl))
 t3 := Tryz.underlying3
 a3 := Tryz.isAgg3
 z3 := Tryz.sizeOf3
 v3 := Tryz.zeroValue3
 t4 := Tryz.underlying4
 a4 := Tryz.isAgg4
 z4 := Tryz.sizeOf4
 v4 := Tryz.zeroValue4
 t5 := Tryz.underlying5
 a5 := Tryz.isAgg5
 z5 := Tryz.sizeOf5
 v5 := Tryz.zeroValue5
 t9 := Tryz.underlying9
 a9 := Tryz.isAgg9
 z9 := Tryz.sizeOf9
 v9 := Tryz.zeroValue9
 t46 := Tryz.underlying142
 a46 := Tryz.isAgg142
 z46 := Tryz.sizeOf142
 v46 := Tryz.zeroValue142
 t51 := Tryz.underlying104
 a51 := Tryz.isAgg104
 z51 := Tryz.sizeOf104
 v51 := Tryz.zeroValue104
 t146 := Tryz.underlying174
 a146 := Tryz.isAgg174
 z146 := Tryz.sizeOf174
 v146 := Tryz.zeroValue174 }
open Go.RowKit Go.Lib in
theorem Tryz.bytealg_IndexRabinKarp (s sep : ByteArray) (h1 : 1 ≤ sep.size) (h2 : sep.size ≤ s.size) (hs : s.size < 4294967281) (w : World) :
  Calls Tryz.prog 179 #[.string s, .string sep] w fun e w' => e = .returned (.int .i64 (Lib.index s.data.toList sep.data.toList)) ∧ w' = w := Any.bytealg_IndexRabinKarp Tryz.lays267 s sep h1 h2 hs w
def Tryz.lays219_ren : Go.Shelf.Ren := ⟨fun | 219 => 143 | 217 => 176 | 225 => 177 | 224 => 178 | 267 => 179 | 266 => 211 | 314 => 212 | n => n, fun | 9 => 9 | 3 => 3 | 4 => 4 | 5 => 5 | 46 => 142 | 146 => 174 | 51 => 104 | n => n, fun | 1 => 0 | n => n⟩
theorem Tryz.lays219 : Go.Proofs.Lays.n219 Tryz.prog Tryz.lays219_ren := {
 mixed := by kernel_rfl
 f217 := Tryz.func176.trans (congrArg some (by kernel_rfl))
 f219 := Tryz.func143.trans (congrArg some (by kernel_rfl))
 f224 := Tryz.func178.trans (congrArg some (by kernel_rfl))
 f225 := Tryz.func177.trans (congrArg some (by kernel_rfl))
 f266 := Tryz.func211.trans (congrArg some (by kernel_rfl))
 f267 := Tryz.func179.trans (congrArg some (by kernel_rfl))
 f314 := Tryz.func212.trans (congrArg some (by kernel_rfl))
 t3 := Tryz.underlying3
 a3 := Tryz.isAgg3
 z3 := Tryz.sizeOf3
 v3 := Tryz.zeroValue3
 t4 := Tryz.underlying4
 a4 := Tryz.isAgg4
 z4 := Tryz.sizeOf4
 v4 := Tryz.zeroValue4
 t5 := Tryz.underlying5
 a5 := Tryz.isAgg5
 z5 := Tryz.sizeOf5
 v5 := Tryz.zeroValue5
 t9 := Tryz.underlying9
 a9 := Tryz.isAgg9
 z9 := Tryz.sizeOf9
 v9 := Tryz.zeroValue9
 t46 := Tryz.underlying142
 a46 := Tryz.isAgg142
 z46 := Tryz.sizeOf142
 v46 := Tryz.zeroValue142
 t51 := Tryz.underlying104
 a51 := Tryz.isAgg104
 z51 := Tryz.sizeOf104
 v51 := Tryz.zeroValue104
 t146 := Tryz.underlying174
 a146 := Tryz.isAgg174
 z146 := Tryz.sizeOf174
 v146 := Tryz.zeroValue174
 g1 := by kernel_rfl }
open Go.RowKit Go.Lib in
theorem Tryz.stringslite_Index_one (s : ByteArray) (c : UInt8) (w : World) :
  Calls Tryz.prog 143 #[.string s, .string ⟨#[c]⟩] w fun e w' => e = .returned (.int .i64 (Lib.indexByte s.data.toList c)) ∧ w' = w := Any.stringslite_Index_one Tryz.lays219 s c w
open Go.RowKit Go.Lib in
theorem Tryz.stringslite_Index (s sub : ByteArray) (m : Int) (w : World) (hs : s.size < 4294967281) (hm : w.cell? ⟨0, 0, none⟩ = some (.int .i64 m)) :
  Calls Tryz.prog 143 #[.string s, .string sub] w fun e w' => e = .returned (.int .i64 (Lib.index s.data.toList sub.data.toList)) ∧ w' = w := Any.stringslite_Index Tryz.lays219 s sub m w hs hm
def Tryz.lays220_ren : Go.Shelf.Ren := ⟨fun | 220 => 105 | 219 => 143 | 217 => 176 | 225 => 177 | 224 => 178 | 267 => 179 | 266 => 211 | 314 => 212 | n => n, fun | 9 => 9 | 4 => 4 | 3 => 3 | 5 => 5 | 46 => 142 | 146 => 174 | 51 => 104 | n => n, fun | 1 => 0 | n => n⟩
theorem Tryz.lays220 : Go.Proofs.Lays.n220 Tryz.prog Tryz.lays220_ren := {
 mixed := by kernel_rfl
 f217 := Tryz.func176.trans (congrArg some (by kernel_rfl))
 f219 := Tryz.func143.trans (congrArg some (by kernel_rfl))
 f220 := Tryz.func105.trans (congrArg some (by kernel_rfl))
 f224 := Tryz.func178.trans (congrArg some (by kernel_rfl))
 f225 := Tryz.func177.trans (congrArg some (by kernel_rfl))
 f266 := Tryz.func211.trans (congrArg some (by kernel_rfl))
 f267 := Tryz.func179.trans (congrArg some (by kernel_rfl))
 f314 := Tryz.func212.trans (congrArg some (by kernel_rfl))
 t3 := Tryz.underlying3
 a3 := Tryz.isAgg3
 z3 := Tryz.sizeOf3
 v3 := Tryz.zeroValue3
 t4 := Tryz.underlying4
 a4 := Tryz.isAgg4
 z4 := Tryz.sizeOf4
 v4 := Tryz.zeroValue4
 t5 := Tryz.underlying5
 a5 := Tryz.isAgg5
 z5 := Tryz.sizeOf5
 v5 := Tryz.zeroValue5
 t9 := Tryz.underlying9
 a9 := Tryz.isAgg9
 z9 := Tryz.sizeOf9
 v9 := Tryz.zeroValue9
 t46 := Tryz.underlying142
 a46 := Tryz.isAgg142
 z46 := Tryz.sizeOf142
 v46 := Tryz.zeroValue142
 t51 := Tryz.underlying104
 a51 := Tryz.isAgg104
 z51 := Tryz.sizeOf104
 v51 := Tryz.zeroValue104
 t146 := Tryz.underlying174
 a146 := Tryz.isAgg174
 z146 := Tryz.sizeOf174
 v146 := Tryz.zeroValue174
 g1 := by kernel_rfl }
open Go.RowKit Go.Lib in
theorem Tryz.stringslite_Cut (s sep : ByteArray) (m : Int) (w : World) (hs : s.size < 4294967281) (hm : w.cell? ⟨0, 0, none⟩ = some (.int .i64 m)) :
  Calls Tryz.prog 105 #[.string s, .string sep] w fun e w' => e = .returned (.tuple #[.string ⟨(Lib.cut s.data.toList sep.data.toList).1.toArray⟩, .string ⟨(Lib.cut s.data.toList sep.data.toList).2.1.toArray⟩, .bool (Lib.cut s.data.toList sep.data.toList).2.2]) ∧ ∃ n, w' = w.drewN n := Any.stringslite_Cut Tryz.lays220 s sep m w hs hm
def Tryz.lays145_ren : Go.Shelf.Ren := ⟨fun | 145 => 57 | 220 => 105 | 219 => 143 | 217 => 176 | 225 => 177 | 224 => 178 | 267 => 179 | 266 => 211 | 314 => 212 | n => n, fun | 9 => 9 | 4 => 4 | 59 => 81 | 3 => 3 | 5 => 5 | 46 => 142 | 146 => 174 | 51 => 104 | n => n, fun | 1 => 0 | n => n⟩
theorem Tryz.lays145 : Go.Proofs.Lays.n145 Tryz.prog Tryz.lays145_ren := {
 mixed := by kernel_rfl
 f145 := Tryz.func57.trans (congrArg some (by kernel_rfl))
 f217 := Tryz.func176.trans (congrArg some (by kernel_rfl))
 f219 := Tryz.func143.trans (congrArg some (by kernel_rfl))
 f220 := Tryz.func105.trans (congrArg some (by kernel_rfl))
 f224 := Tryz.func178.trans (congrArg some (by kernel_rfl))
 f225 := Tryz.func177.trans (congrArg some (by kernel_rfl))
 f266 := Tryz.func211.trans (congrArg some (by kernel_rfl))
 f267 := Tryz.func179.trans (congrArg some (by kernel_rfl))
 f314 := Tryz.func212.trans (congrArg some (by kernel_rfl))
 t3 := Tryz.underlying3
 a3 := Tryz.isAgg3
 z3 := Tryz.sizeOf3
 v3 := Tryz.zeroValue3
 t4 := Tryz.underlying4
 a4 := Tryz.isAgg4
 z4 := Tryz.sizeOf4
 v4 := Tryz.zeroValue4
 t5 := Tryz.underlying5
 a5 := Tryz.isAgg5
 z5 := Tryz.sizeOf5
 v5 := Tryz.zeroValue5
 t9 := Tryz.underlying9
 a9 := Tryz.isAgg9
 z9 := Tryz.sizeOf9
 v9 := Tryz.zeroValue9
 t46 := Tryz.underlying142
 a46 := Tryz.isAgg142
 z46 := Tryz.sizeOf142
 v46 := Tryz.zeroValue142
 t51 := Tryz.underlying104
 a51 := Tryz.isAgg104
 z51 := Tryz.sizeOf104
 v51 := Tryz.zeroValue104
 t59 := Tryz.underlying81
 a59 := Tryz.isAgg81
 z59 := Tryz.sizeOf81
 v59 := Tryz.zeroValue81
 t146 := Tryz.underlying174
 a146 := Tryz.isAgg174
 z146 := Tryz.sizeOf174
 v146 := Tryz.zeroValue174
 g1 := by kernel_rfl }
open Go.RowKit Go.Lib in
theorem Tryz.strings_Cut (s sep : ByteArray) (m : Int) (w : World) (hs : s.size < 4294967281) (hm : w.cell? ⟨0, 0, none⟩ = some (.int .i64 m)) :
  Calls Tryz.prog 57 #[.string s, .string sep] w fun e w' => e = .returned (.tuple #[.string ⟨(Lib.cut s.data.toList sep.data.toList).1.toArray⟩, .string ⟨(Lib.cut s.data.toList sep.data.toList).2.1.toArray⟩, .bool (Lib.cut s.data.toList sep.data.toList).2.2]) ∧ ∃ n, w' = w.drewN n := Any.strings_Cut Tryz.lays145 s sep m w hs hm
def Tryz.laysM219_ren : Go.Shelf.Ren := ⟨fun | 219 => 143 | 217 => 176 | 225 => 177 | 224 => 178 | 267 => 179 | 266 => 211 | 314 => 212 | n => n, fun | 9 => 9 | 3 => 3 | 4 => 4 | 5 => 5 | 46 => 142 | 146 => 174 | 51 => 104 | n => n, fun | 1 => 0 | n => n⟩
theorem Tryz.laysM219 : Go.Proofs.LaysM.n219 Tryz.prog Tryz.laysM219_ren := {
 mixed := by kernel_rfl
 f217 := Tryz.func176.trans (congrArg some (by kernel_rfl))
 f219 := Tryz.func143.trans (congrArg some (by kernel_rfl))
 f224 := Tryz.func178.trans (congrArg some (by kernel_rfl))
 f225 := Tryz.func177.trans (congrArg some (by kernel_rfl))
 f266 := Tryz.func211.trans (congrArg some (by kernel_rfl))
 f267 := Tryz.func179.trans (congrArg some (by kernel_rfl))
 f314 := Tryz.func212.trans (congrArg some (by kernel_rfl))
 t3 := Tryz.underlying3
 a3 := Tryz.isAgg3
 z3 := Tryz.sizeOf3
 v3 := Tryz.zeroValue3
 t4 := Tryz.underlying4
 a4 := Tryz.isAgg4
 z4 := Tryz.sizeOf4
 v4 := Tryz.zeroValue4
 t5 := Tryz.underlying5
 a5 := Tryz.isAgg5
 z5 := Tryz.sizeOf5
 v5 := Tryz.zeroValue5
 t9 := Tryz.underlying9
 a9 := Tryz.isAgg9
 z9 := Tryz.sizeOf9
 v9 := Tryz.zeroValue9
 t46 := Tryz.underlying142
 a46 := Tryz.isAgg142
 z46 := Tryz.sizeOf142
 v46 := Tryz.zeroValue142
 t51 := Tryz.underlying104
 a51 := Tryz.isAgg104
 z51 := Tryz.sizeOf104
 v51 := Tryz.zeroValue104
 t146 := Tryz.underlying174
 a146 := Tryz.isAgg174
 z146 := Tryz.sizeOf174
 v146 := Tryz.zeroValue174
 g1 := by kernel_rfl
 i3 := by kernel_rfl
 i4 := by kernel_rfl
 i5 := by kernel_rfl
 i9 := by kernel_rfl
 i46 := by kernel_rfl
 i51 := by kernel_rfl
 i146 := by kernel_rfl
 m1 := by kernel_rfl
 s1_3 := fun w h => Go.Proofs.cell_of_shapedOpen_int (zero := #[.int .i64 0]) (t := 3) h (of_decide_eq_true (by kernel_rfl)) (by kernel_rfl) rfl (by kernel_rfl) (by kernel_rfl) Tryz.underlying3 }
open Go.RowKit Go.Lib in
theorem Tryz.stringslite_Index_shaped (s sub : ByteArray) (w : World) (h : w.ShapedOpen Tryz.prog) (hs : s.size < 4294967281) :
  Calls Tryz.prog 143 #[.string s, .string sub] w fun e w' => e = .returned (.int .i64 (Lib.index s.data.toList sub.data.toList)) ∧ w' = w := Any.stringslite_Index_shaped Tryz.laysM219 s sub w h hs
def Tryz.laysM220_ren : Go.Shelf.Ren := ⟨fun | 220 => 105 | 219 => 143 | 217 => 176 | 225 => 177 | 224 => 178 | 267 => 179 | 266 => 211 | 314 => 212 | n => n, fun | 9 => 9 | 4 => 4 | 3 => 3 | 5 => 5 | 46 => 142 | 146 => 174 | 51 => 104 | n => n, fun | 1 => 0 | n => n⟩
theorem Tryz.laysM220 : Go.Proofs.LaysM.n220 Tryz.prog Tryz.laysM220_ren := {
 mixed := by kernel_rfl
 f217 := Tryz.func176.trans (congrArg some (by kernel_rfl))
 f219 := Tryz.func143.trans (congrArg some (by kernel_rfl))
 f220 := Tryz.func105.trans (congrArg some (by kernel_rfl))
 f224 := Tryz.func178.trans (congrArg some (by kernel_rfl))
 f225 := Tryz.func177.trans (congrArg some (by kernel_rfl))
 f266 := Tryz.func211.trans (congrArg some (by kernel_rfl))
 f267 := Tryz.func179.trans (congrArg some (by kernel_rfl))
 f314 := Tryz.func212.trans (congrArg some (by kernel_rfl))
 t3 := Tryz.underlying3
 a3 := Tryz.isAgg3
 z3 := Tryz.sizeOf3
 v3 := Tryz.zeroValue3
 t4 := Tryz.underlying4
 a4 := Tryz.isAgg4
 z4 := Tryz.sizeOf4
 v4 := Tryz.zeroValue4
 t5 := Tryz.underlying5
 a5 := Tryz.isAgg5
 z5 := Tryz.sizeOf5
 v5 := Tryz.zeroValue5
 t9 := Tryz.underlying9
 a9 := Tryz.isAgg9
 z9 := Tryz.sizeOf9
 v9 := Tryz.zeroValue9
 t46 := Tryz.underlying142
 a46 := Tryz.isAgg142
 z46 := Tryz.sizeOf142
 v46 := Tryz.zeroValue142
 t51 := Tryz.underlying104
 a51 := Tryz.isAgg104
 z51 := Tryz.sizeOf104
 v51 := Tryz.zeroValue104
 t146 := Tryz.underlying174
 a146 := Tryz.isAgg174
 z146 := Tryz.sizeOf174
 v146 := Tryz.zeroValue174
 g1 := by kernel_rfl
 i3 := by kernel_rfl
 i4 := by kernel_rfl
 i5 := by kernel_rfl
 i9 := by kernel_rfl
 i46 := by kernel_rfl
 i51 := by kernel_rfl
 i146 := by kernel_rfl
 m1 := by kernel_rfl
 s1_3 := fun w h => Go.Proofs.cell_of_shapedOpen_int (zero := #[.int .i64 0]) (t := 3) h (of_decide_eq_true (by kernel_rfl)) (by kernel_rfl) rfl (by kernel_rfl) (by kernel_rfl) Tryz.underlying3 }
open Go.RowKit Go.Lib in
theorem Tryz.stringslite_Cut_shaped (s sep : ByteArray) (w : World) (h : w.ShapedOpen Tryz.prog) (hs : s.size < 4294967281) :
  Calls Tryz.prog 105 #[.string s, .string sep] w fun e w' => e = .returned (.tuple #[.string ⟨(Lib.cut s.data.toList sep.data.toList).1.toArray⟩, .string ⟨(Lib.cut s.data.toList sep.data.toList).2.1.toArray⟩, .bool (Lib.cut s.data.toList sep.data.toList).2.2]) ∧ ∃ n, w' = w.drewN n := Any.stringslite_Cut_shaped Tryz.laysM220 s sep w h hs
def Tryz.laysM145_ren : Go.Shelf.Ren := ⟨fun | 145 => 57 | 220 => 105 | 219 => 143 | 217 => 176 | 225 => 177 | 224 => 178 | 267 => 179 | 266 => 211 | 314 => 212 | n => n, fun | 9 => 9 | 4 => 4 | 59 => 81 | 3 => 3 | 5 => 5 | 46 => 142 | 146 => 174 | 51 => 104 | n => n, fun | 1 => 0 | n => n⟩
theorem Tryz.laysM145 : Go.Proofs.LaysM.n145 Tryz.prog Tryz.laysM145_ren := {
 mixed := by kernel_rfl
 f145 := Tryz.func57.trans (congrArg some (by kernel_rfl))
 f217 := Tryz.func176.trans (congrArg some (by kernel_rfl))
 f219 := Tryz.func143.trans (congrArg some (by kernel_rfl))
 f220 := Tryz.func105.trans (congrArg some (by kernel_rfl))
 f224 := Tryz.func178.trans (congrArg some (by kernel_rfl))
 f225 := Tryz.func177.trans (congrArg some (by kernel_rfl))
 f266 := Tryz.func211.trans (congrArg some (by kernel_rfl))
 f267 := Tryz.func179.trans (congrArg some (by kernel_rfl))
 f314 := Tryz.func212.trans (congrArg some (by kernel_rfl))
 t3 := Tryz.underlying3
 a3 := Tryz.isAgg3
 z3 := Tryz.sizeOf3
 v3 := Tryz.zeroValue3
 t4 := Tryz.underlying4
 a4 := Tryz.isAgg4
 z4 := Tryz.sizeOf4
 v4 := Tryz.zeroValue4
 t5 := Tryz.underlying5
 a5 := Tryz.isAgg5
 z5 := Tryz.sizeOf5
 v5 := Tryz.zeroValue5
 t9 := Tryz.underlying9
 a9 := Tryz.isAgg9
 z9 := Tryz.sizeOf9
 v9 := Tryz.zeroValue9
 t46 := Tryz.underlying142
 a46 := Tryz.isAgg142
 z46 := Tryz.sizeOf142
 v46 := Tryz.zeroValue142
 t51 := Tryz.underlying104
 a51 := Tryz.isAgg104
 z51 := Tryz.sizeOf104
 v51 := Tryz.zeroValue104
 t59 := Tryz.underlying81
 a59 := Tryz.isAgg81
 z59 := Tryz.sizeOf81
 v59 := Tryz.zeroValue81
 t146 := Tryz.underlying174
 a146 := Tryz.isAgg174
 z146 := Tryz.sizeOf174
 v146 := Tryz.zeroValue174
 g1 := by kernel_rfl
 i3 := by kernel_rfl
 i4 := by kernel_rfl
 i5 := by kernel_rfl
 i9 := by kernel_rfl
 i46 := by kernel_rfl
 i51 := by kernel_rfl
 i59 := by kernel_rfl
 i146 := by kernel_rfl
 m1 := by kernel_rfl
 s1_3 := fun w h => Go.Proofs.cell_of_shapedOpen_int (zero := #[.int .i64 0]) (t := 3) h (of_decide_eq_true (by kernel_rfl)) (by kernel_rfl) rfl (by kernel_rfl) (by kernel_rfl) Tryz.underlying3 }
open Go.RowKit Go.Lib in
theorem Tryz.strings_Cut_shaped (s sep : ByteArray) (w : World) (h : w.ShapedOpen Tryz.prog) (hs : s.size < 4294967281) :
  Calls Tryz.prog 57 #[.string s, .string sep] w fun e w' => e = .returned (.tuple #[.string ⟨(Lib.cut s.data.toList sep.data.toList).1.toArray⟩, .string ⟨(Lib.cut s.data.toList sep.data.toList).2.1.toArray⟩, .bool (Lib.cut s.data.toList sep.data.toList).2.2]) ∧ ∃ n, w' = w.drewN n := Any.strings_Cut_shaped Tryz.laysM145 s sep w h hs
def Tryz.laysM288_ren : Go.Shelf.Ren := ⟨fun | 288 => 121 | 283 => 151 | 284 => 152 | 285 => 153 | 286 => 154 | 129 => 182 | 317 => 181 | 318 => 183 | 319 => 184 | 320 => 185 | 337 => 214 | 338 => 215 | n => n, fun | 37 => 101 | 53 => 103 | 3 => 3 | 4 => 4 | 9 => 9 | 171 => 156 | 0 => 0 | 173 => 159 | 212 => 187 | 51 => 104 | 5 => 5 | 20 => 20 | 213 => 188 | 46 => 142 | 232 => 223 | 233 => 224 | n => n, fun | 17 => 1 | 18 => 4 | 19 => 5 | n => n⟩
theorem Tryz.laysM288 : Go.Proofs.LaysM.n288 Tryz.prog Tryz.laysM288_ren := {
 mixed := by kernel_rfl
 f129 := Tryz.func182.trans (congrArg some (by kernel_rfl))
 f283 := Tryz.func151.trans (congrArg some (by kernel_rfl))
 f284 := Tryz.func152.trans (congrArg some (by kernel_rfl))
 f285 := Tryz.func153.trans (congrArg some (by kernel_rfl))
 f286 := Tryz.func154.trans (congrArg some (by kernel_rfl))
 f288 := Tryz.func121.trans (congrArg some (by kernel_rfl))
 f317 := Tryz.func181.trans (congrArg some (by kernel_rfl))
 f318 := Tryz.func183.trans (congrArg some (by kernel_rfl))
 f319 := Tryz.func184.trans (congrArg some (by kernel_rfl))
 f320 := Tryz.func185.trans (congrArg some (by kernel_rfl))
 f337 := Tryz.func214.trans (congrArg some (by kernel_rfl))
 f338 := Tryz.func215.trans (congrArg some (by kernel_rfl))
 t0 := Tryz.underlying0
 a0 := Tryz.isAgg0
 z0 := Tryz.sizeOf0
 v0 := Tryz.zeroValue0
 t3 := Tryz.underlying3
 a3 := Tryz.isAgg3
 z3 := Tryz.sizeOf3
 v3 := Tryz.zeroValue3
 t4 := Tryz.underlying4
 a4 := Tryz.isAgg4
 z4 := Tryz.sizeOf4
 v4 := Tryz.zeroValue4
 t5 := Tryz.underlying5
 a5 := Tryz.isAgg5
 z5 := Tryz.sizeOf5
 v5 := Tryz.zeroValue5
 t9 := Tryz.underlying9
 a9 := Tryz.isAgg9
 z9 := Tryz.sizeOf9
 v9 := Tryz.zeroValue9
 t20 := Tryz.underlying20
 a20 := Tryz.isAgg20
 z20 := Tryz.sizeOf20
 v20 := Tryz.zeroValue20
 t37 := Tryz.underlying101
 a37 := Tryz.isAgg101
 z37 := Tryz.sizeOf101
 v37 := Tryz.zeroValue101
 t46 := Tryz.underlying142
 a46 := Tryz.isAgg142
 z46 := Tryz.sizeOf142
 v46 := Tryz.zeroValue142
 t51 := Tryz.underlying104
 a51 := Tryz.isAgg104
 z51 := Tryz.sizeOf104
 v51 := Tryz.zeroValue104
 t53 := Tryz.underlying103
 a53 := Tryz.isAgg103
 z53 := Tryz.sizeOf103
 v53 := Tryz.zeroValue103
 t171 := Tryz.underlying156
 a171 := Tryz.isAgg156
 z171 := Tryz.sizeOf156
 v171 := Tryz.zeroValue156
 t173 := Tryz.underlying159
 a173 := Tryz.isAgg159
 z173 := Tryz.sizeOf159
 v173 := Tryz.zeroValue159
 t212 := Tryz.underlying187
 a212 := Tryz.isAgg187
 z212 := Tryz.sizeOf187
 v212 := Tryz.zeroValue187
 t213 := Tryz.underlying188
 a213 := Tryz.isAgg188
 z213 := Tryz.sizeOf188
 t232 := Tryz.underlying223
 a232 := Tryz.isAgg223
 z232 := Tryz.sizeOf223
 v232 := Tryz.zeroValue223
 t233 := Tryz.underlying224
 a233 := Tryz.isAgg224
 z233 := Tryz.sizeOf224
 v233 := Tryz.zeroValue224
 g17 := by kernel_rfl
 g18 := by kernel_rfl
 g19 := by kernel_rfl
 i0 := by kernel_rfl
 i3 := by kernel_rfl
 i4 := by kernel_rfl
 i5 := by kernel_rfl
 i9 := by kernel_rfl
 i20 := by kernel_rfl
 i37 := by kernel_rfl
 i46 := by kernel_rfl
 i51 := by kernel_rfl
 i53 := by kernel_rfl
 i171 := by kernel_rfl
 i173 := by kernel_rfl
 i212 := by kernel_rfl
 i232 := by kernel_rfl
 i233 := by kernel_rfl
 m17 := by kernel_rfl
 m18 := by kernel_rfl
 m19 := by kernel_rfl }
open Go.RowKit Go.Sort Go.Lib in
theorem Tryz.internal_strconv_AppendUint_10_small (B n u : Nat) (hu : u < 100) (sv : Value) (xs : List Value) (w : World) (hown : w.ownsRow B 5 1 sv n xs) (hBw : B ≤ w.heap.size) (hlim : n + 20 ≤ 140737488355328) :
  Calls Tryz.prog 121 #[sv, .int .u64 u, .int .i64 10] w fun e w' => ∃ v', e = .returned v' ∧ w'.ownsRow B 5 1 v' (n + (Lib.decDigits u).length) (xs ++ Lib.byteCells (Lib.decDigits u)) ∧ Below B w w' ∧ Lib.OthersKept 5 none w w' := Any.internal_strconv_AppendUint_10_small Tryz.laysM288 B n u hu sv xs w hown hBw hlim
open Go.RowKit Go.Sort Go.Lib in
theorem Tryz.internal_strconv_AppendUint_10_big (B n u : Nat) (hu : 100 ≤ u) (hu64 : u < 18446744073709551616) (sv : Value) (xs : List Value) (w : World) (hown : w.ownsRow B 5 1 sv n xs) (hBw : B ≤ w.heap.size) (hlim : n + 20 ≤ 140737488355328) (htab : Lib.TabIs Tryz.prog w "internal/strconv.uint64pow10" .u64 Lib.pow10Tab) :
  Calls Tryz.prog 121 #[sv, .int .u64 u, .int .i64 10] w fun e w' => ∃ v', e = .returned v' ∧ w'.ownsRow B 5 1 v' (n + (Lib.decDigits u).length) (xs ++ Lib.byteCells (Lib.decDigits u)) ∧ Below B w w' ∧ Lib.OthersKept 5 none w w' := Any.internal_strconv_AppendUint_10_big Tryz.laysM288 B n u hu hu64 sv xs w hown hBw hlim htab
def Tryz.lays206_ren : Go.Shelf.Ren := ⟨fun | 206 => 144 | n => n, fun | 9 => 9 | 4 => 4 | 3 => 3 | n => n, fun | n => n⟩
theorem Tryz.lays206 : Go.Proofs.Lays.n206 Tryz.prog Tryz.lays206_ren := {
 mixed := by kernel_rfl
 f206 := Tryz.func144.trans (congrArg some (by kernel_rfl))
 t3 := Tryz.underlying3
 a3 := Tryz.isAgg3
 z3 := Tryz.sizeOf3
 v3 := Tryz.zeroValue3
 t4 := Tryz.underlying4
 a4 := Tryz.isAgg4
 z4 := Tryz.sizeOf4
 v4 := Tryz.zeroValue4
 t9 := Tryz.underlying9
 a9 := Tryz.isAgg9
 z9 := Tryz.sizeOf9
 v9 := Tryz.zeroValue9 }
open Go.RowKit Go.Lib in
theorem Tryz.stringslite_HasPrefix (s p : ByteArray) (w : World) :
  Calls Tryz.prog 144 #[.string s, .string p] w fun e w' => e = .returned (.bool (Lib.hasPrefix s.data.toList p.data.toList)) ∧ w' = w := Any.stringslite_HasPrefix Tryz.lays206 s p w
def Tryz.lays99_ren : Go.Shelf.Ren := ⟨fun | 99 => 106 | 206 => 144 | n => n, fun | 9 => 9 | 4 => 4 | 3 => 3 | n => n, fun | n => n⟩
theorem Tryz.lays99 : Go.Proofs.Lays.n99 Tryz.prog Tryz.lays99_ren := {
 mixed := by kernel_rfl
 f99 := Tryz.func106.trans (congrArg some (by kernel_rfl))
 f206 := Tryz.func144.trans (congrArg some (by kernel_rfl))
 t3 := Tryz.underlying3
 a3 := Tryz.isAgg3
 z3 := Tryz.sizeOf3
 v3 := Tryz.zeroValue3
 t4 := Tryz.underlying4
 a4 := Tryz.isAgg4
 z4 := Tryz.sizeOf4
 v4 := Tryz.zeroValue4
 t9 := Tryz.underlying9
 a9 := Tryz.isAgg9
 z9 := Tryz.sizeOf9
 v9 := Tryz.zeroValue9 }
open Go.RowKit Go.Lib in
theorem Tryz.strings_HasPrefix (s p : ByteArray) (w : World) :
  Calls Tryz.prog 106 #[.string s, .string p] w fun e w' => e = .returned (.bool (Lib.hasPrefix s.data.toList p.data.toList)) ∧ w' = w := Any.strings_HasPrefix Tryz.lays99 s p w
def Tryz.lays208_ren : Go.Shelf.Ren := ⟨fun | 208 => 148 | 206 => 144 | n => n, fun | 9 => 9 | 4 => 4 | 3 => 3 | n => n, fun | n => n⟩
theorem Tryz.lays208 : Go.Proofs.Lays.n208 Tryz.prog Tryz.lays208_ren := {
 mixed := by kernel_rfl
 f206 := Tryz.func144.trans (congrArg some (by kernel_rfl))
 f208 := Tryz.func148.trans (congrArg some (by kernel_rfl))
 t3 := Tryz.underlying3
 a3 := Tryz.isAgg3
 z3 := Tryz.sizeOf3
 v3 := Tryz.zeroValue3
 t4 := Tryz.underlying4
 a4 := Tryz.isAgg4
 z4 := Tryz.sizeOf4
 v4 := Tryz.zeroValue4
 t9 := Tryz.underlying9
 a9 := Tryz.isAgg9
 z9 := Tryz.sizeOf9
 v9 := Tryz.zeroValue9 }
open Go.RowKit Go.Lib in
theorem Tryz.stringslite_TrimPrefix (s p : ByteArray) (w : World) :
  Calls Tryz.prog 148 #[.string s, .string p] w fun e w' => e = .returned (.string ⟨(Lib.trimPrefix s.data.toList p.data.toList).toArray⟩) ∧ w' = w := Any.stringslite_TrimPrefix Tryz.lays208 s p w
def Tryz.lays101_ren : Go.Shelf.Ren := ⟨fun | 101 => 108 | 208 => 148 | 206 => 144 | n => n, fun | 9 => 9 | 4 => 4 | 3 => 3 | n => n, fun | n => n⟩
theorem Tryz.lays101 : Go.Proofs.Lays.n101 Tryz.prog Tryz.lays101_ren := {
 mixed := by kernel_rfl
 f101 := Tryz.func108.trans (congrArg some (by kernel_rfl))
 f206 := Tryz.func144.trans (congrArg some (by kernel_rfl))
 f208 := Tryz.func148.trans (congrArg some (by kernel_rfl))
 t3 := Tryz.underlying3
 a3 := Tryz.isAgg3
 z3 := Tryz.sizeOf3
 v3 := Tryz.zeroValue3
 t4 := Tryz.underlying4
 a4 := Tryz.isAgg4
 z4 := Tryz.sizeOf4
 v4 := Tryz.zeroValue4
 t9 := Tryz.underlying9
 a9 := Tryz.isAgg9
 z9 := Tryz.sizeOf9
 v9 := Tryz.zeroValue9 }
open Go.RowKit Go.Lib in
theorem Tryz.strings_TrimPrefix (s p : ByteArray) (w : World) :
  Calls Tryz.prog 108 #[.string s, .string p] w fun e w' => e = .returned (.string ⟨(Lib.trimPrefix s.data.toList p.data.toList).toArray⟩) ∧ w' = w := Any.strings_TrimPrefix Tryz.lays101 s p w
def Tryz.lays152_ren : Go.Shelf.Ren := ⟨fun | 152 => 205 | 137 => 222 | 119 => 223 | 224 => 178 | 225 => 177 | 217 => 176 | 266 => 211 | n => n, fun | 9 => 9 | 21 => 21 | 3 => 3 | 4 => 4 | 5 => 5 | 0 => 0 | 46 => 142 | n => n, fun | n => n⟩
theorem Tryz.lays152 : Go.Proofs.Lays.n152 Tryz.prog Tryz.lays152_ren := {
 mixed := by kernel_rfl
 f119 := Tryz.func223.trans (congrArg some (by kernel_rfl))
 f137 := Tryz.func222.trans (congrArg some (by kernel_rfl))
 f152 := Tryz.func205.trans (congrArg some (by kernel_rfl))
 f217 := Tryz.func176.trans (congrArg some (by kernel_rfl))
 f224 := Tryz.func178.trans (congrArg some (by kernel_rfl))
 f225 := Tryz.func177.trans (congrArg some (by kernel_rfl))
 f266 := Tryz.func211.trans (congrArg some (by kernel_rfl))
 t0 := Tryz.underlying0
 a0 := Tryz.isAgg0
 z0 := Tryz.sizeOf0
 v0 := Tryz.zeroValue0
 t3 := Tryz.underlying3
 a3 := Tryz.isAgg3
 z3 := Tryz.sizeOf3
 v3 := Tryz.zeroValue3
 t4 := Tryz.underlying4
 a4 := Tryz.isAgg4
 z4 := Tryz.sizeOf4
 v4 := Tryz.zeroValue4
 t5 := Tryz.underlying5
 a5 := Tryz.isAgg5
 z5 := Tryz.sizeOf5
 v5 := Tryz.zeroValue5
 t9 := Tryz.underlying9
 a9 := Tryz.isAgg9
 z9 := Tryz.sizeOf9
 v9 := Tryz.zeroValue9
 t21 := Tryz.underlying21
 a21 := Tryz.isAgg21
 z21 := Tryz.sizeOf21
 v21 := Tryz.zeroValue21
 t46 := Tryz.underlying142
 a46 := Tryz.isAgg142
 z46 := Tryz.sizeOf142
 v46 := Tryz.zeroValue142 }
open Go.RowKit Go.Lib in
theorem Tryz.strings_IndexRune_ascii (s : ByteArray) (r : Int) (w : World) (h0 : 0 ≤ r) (h1 : r < 128) :
  Calls Tryz.prog 205 #[.string s, .int .i32 r] w fun e w' => e = .returned (.int .i64 (Lib.indexByte s.data.toList r.toNat.toUInt8)) ∧ w' = w := Any.strings_IndexRune_ascii Tryz.lays152 s r w h0 h1
def Tryz.lays151_ren : Go.Shelf.Ren := ⟨fun | 151 => 220 | 152 => 205 | 137 => 222 | 119 => 223 | 224 => 178 | 225 => 177 | 217 => 176 | 266 => 211 | n => n, fun | 9 => 9 | 21 => 21 | 4 => 4 | 3 => 3 | 5 => 5 | 0 => 0 | 46 => 142 | n => n, fun | n => n⟩
theorem Tryz.lays151 : Go.Proofs.Lays.n151 Tryz.prog Tryz.lays151_ren := {
 mixed := by kernel_rfl
 f119 := Tryz.func223.trans (congrArg some (by kernel_rfl))
 f137 := Tryz.func222.trans (congrArg some (by kernel_rfl))
 f151 := Tryz.func220.trans (congrArg some (by kernel_rfl))
 f152 := Tryz.func205.trans (congrArg some (by kernel_rfl))
 f217 := Tryz.func176.trans (congrArg some (by kernel_rfl))
 f224 := Tryz.func178.trans (congrArg some (by kernel_rfl))
 f225 := Tryz.func177.trans (congrArg some (by kernel_rfl))
 f266 := Tryz.func211.trans (congrArg some (by kernel_rfl))
 t0 := Tryz.underlying0
 a0 := Tryz.isAgg0
 z0 := Tryz.sizeOf0
 v0 := Tryz.zeroValue0
 t3 := Tryz.underlying3
 a3 := Tryz.isAgg3
 z3 := Tryz.sizeOf3
 v3 := Tryz.zeroValue3
 t4 := Tryz.underlying4
 a4 := Tryz.isAgg4
 z4 := Tryz.sizeOf4
 v4 := Tryz.zeroValue4
 t5 := Tryz.underlying5
 a5 := Tryz.isAgg5
 z5 := Tryz.sizeOf5
 v5 := Tryz.zeroValue5
 t9 := Tryz.underlying9
 a9 := Tryz.isAgg9
 z9 := Tryz.sizeOf9
 v9 := Tryz.zeroValue9
 t21 := Tryz.underlying21
 a21 := Tryz.isAgg21
 z21 := Tryz.sizeOf21
 v21 := Tryz.zeroValue21
 t46 := Tryz.underlying142
 a46 := Tryz.isAgg142
 z46 := Tryz.sizeOf142
 v46 := Tryz.zeroValue142 }
open Go.RowKit Go.Lib in
theorem Tryz.strings_ContainsRune_ascii (s : ByteArray) (r : Int) (w : World) (h0 : 0 ≤ r) (h1 : r < 128) :
  Calls Tryz.prog 220 #[.string s, .int .i32 r] w fun e w' => e = .returned (.bool (decide (0 ≤ Lib.indexByte s.data.toList r.toNat.toUInt8))) ∧ w' = w := Any.strings_ContainsRune_ascii Tryz.lays151 s r w h0 h1
def Tryz.lays226_ren : Go.Shelf.Ren := ⟨fun | 226 => 206 | n => n, fun | 3 => 3 | 4 => 4 | n => n, fun | n => n⟩
theorem Tryz.lays226 : Go.Proofs.Lays.n226 Tryz.prog Tryz.lays226_ren := {
 mixed := by kernel_rfl
 f226 := Tryz.func206.trans (congrArg some (by kernel_rfl))
 t3 := Tryz.underlying3
 a3 := Tryz.isAgg3
 z3 := Tryz.sizeOf3
 v3 := Tryz.zeroValue3
 t4 := Tryz.underlying4
 a4 := Tryz.isAgg4
 z4 := Tryz.sizeOf4
 v4 := Tryz.zeroValue4 }
open Go.RowKit Go.Lib in
theorem Tryz.strings_shouldUseASCIISet (n : Int) (w : World) :
  Calls Tryz.prog 206 #[.int .i64 n] w fun e w' => e = .returned (.bool (decide (8 < n))) ∧ w' = w := Any.strings_shouldUseASCIISet Tryz.lays226 n w
def Tryz.lays153_ren : Go.Shelf.Ren := ⟨fun | 153 => 170 | 152 => 205 | 226 => 206 | 227 => 200 | 228 => 207 | 137 => 222 | 119 => 223 | 224 => 178 | 225 => 177 | 217 => 176 | 266 => 211 | n => n, fun | 9 => 9 | 3 => 3 | 4 => 4 | 5 => 5 | 21 => 21 | 117 => 200 | 116 => 199 | 0 => 0 | 46 => 142 | 124 => 203 | n => n, fun | n => n⟩
theorem Tryz.lays153 : Go.Proofs.Lays.n153 Tryz.prog Tryz.lays153_ren := {
 mixed := by kernel_rfl
 f119 := Tryz.func223.trans (congrArg some (by kernel_rfl))
 f137 := Tryz.func222.trans (congrArg some (by kernel_rfl))
 f152 := Tryz.func205.trans (congrArg some (by kernel_rfl))
 f153 := Tryz.func170.trans (congrArg some (by kernel_rfl))
 f217 := Tryz.func176.trans (congrArg some (by kernel_rfl))
 f224 := Tryz.func178.trans (congrArg some (by kernel_rfl))
 f225 := Tryz.func177.trans (congrArg some (by kernel_rfl))
 f226 := Tryz.func206.trans (congrArg some (by kernel_rfl))
 f227 := Tryz.func200.trans (congrArg some (by kernel_rfl))
 f228 := Tryz.func207.trans (congrArg some (by kernel_rfl))
 f266 := Tryz.func211.trans (congrArg some (by kernel_rfl))
 t0 := Tryz.underlying0
 a0 := Tryz.isAgg0
 z0 := Tryz.sizeOf0
 v0 := Tryz.zeroValue0
 t3 := Tryz.underlying3
 a3 := Tryz.isAgg3
 z3 := Tryz.sizeOf3
 v3 := Tryz.zeroValue3
 t4 := Tryz.underlying4
 a4 := Tryz.isAgg4
 z4 := Tryz.sizeOf4
 v4 := Tryz.zeroValue4
 t5 := Tryz.underlying5
 a5 := Tryz.isAgg5
 z5 := Tryz.sizeOf5
 v5 := Tryz.zeroValue5
 t9 := Tryz.underlying9
 a9 := Tryz.isAgg9
 z9 := Tryz.sizeOf9
 v9 := Tryz.zeroValue9
 t21 := Tryz.underlying21
 a21 := Tryz.isAgg21
 z21 := Tryz.sizeOf21
 v21 := Tryz.zeroValue21
 t46 := Tryz.underlying142
 a46 := Tryz.isAgg142
 z46 := Tryz.sizeOf142
 v46 := Tryz.zeroValue142
 t116 := Tryz.underlying199
 a116 := Tryz.isAgg199
 z116 := Tryz.sizeOf199
 t117 := Tryz.underlying200
 a117 := Tryz.isAgg200
 z117 := Tryz.sizeOf200
 v117 := Tryz.zeroValue200
 t124 := Tryz.underlying203
 a124 := Tryz.isAgg203
 z124 := Tryz.sizeOf203
 v124 := Tryz.zeroValue203 }
open Go.RowKit Go.Lib in
theorem Tryz.strings_IndexAny_none (s chars : ByteArray) (w : World) (h0 : chars.size = 0) :
  Calls Tryz.prog 170 #[.string s, .string chars] w fun e w' => e = .returned (.int .i64 (Lib.indexAny s.data.toList chars.data.toList)) ∧ w' = w := Any.strings_IndexAny_none Tryz.lays153 s chars w h0
open Go.RowKit Go.Lib in
theorem Tryz.strings_IndexAny_one (s chars : ByteArray) (w : World) (h1 : chars.size = 1) (hascii : ∀ (j : Nat) b, chars.data.toList[j]? = some b → b.toNat < 128) :
  Calls Tryz.prog 170 #[.string s, .string chars] w fun e w' => e = .returned (.int .i64 (Lib.indexAny s.data.toList chars.data.toList)) ∧ w' = w := Any.strings_IndexAny_one Tryz.lays153 s chars w h1 hascii
open Go.RowKit Go.Lib in
theorem Tryz.strings_IndexAny_short (s chars : ByteArray) (w : World) (h2 : 2 ≤ chars.size) (h8 : s.size ≤ 8) (hascii : ∀ (j : Nat) b, s.data.toList[j]? = some b → b.toNat < 128) :
  Calls Tryz.prog 170 #[.string s, .string chars] w fun e w' => e = .returned (.int .i64 (Lib.indexAny s.data.toList chars.data.toList)) ∧ ∃ pos, w' = w.iter s pos := Any.strings_IndexAny_short Tryz.lays153 s chars w h2 h8 hascii
def Tryz.lays227_ren : Go.Shelf.Ren := ⟨fun | 227 => 200 | n => n, fun | 9 => 9 | 116 => 199 | 4 => 4 | 0 => 0 | 3 => 3 | 5 => 5 | n => n, fun | n => n⟩
theorem Tryz.lays227 : Go.Proofs.Lays.n227 Tryz.prog Tryz.lays227_ren := {
 mixed := by kernel_rfl
 f227 := Tryz.func200.trans (congrArg some (by kernel_rfl))
 t0 := Tryz.underlying0
 a0 := Tryz.isAgg0
 z0 := Tryz.sizeOf0
 v0 := Tryz.zeroValue0
 t3 := Tryz.underlying3
 a3 := Tryz.isAgg3
 z3 := Tryz.sizeOf3
 v3 := Tryz.zeroValue3
 t4 := Tryz.underlying4
 a4 := Tryz.isAgg4
 z4 := Tryz.sizeOf4
 v4 := Tryz.zeroValue4
 t5 := Tryz.underlying5
 a5 := Tryz.isAgg5
 z5 := Tryz.sizeOf5
 v5 := Tryz.zeroValue5
 t9 := Tryz.underlying9
 a9 := Tryz.isAgg9
 z9 := Tryz.sizeOf9
 v9 := Tryz.zeroValue9
 t116 := Tryz.underlying199
 a116 := Tryz.isAgg199
 z116 := Tryz.sizeOf199 }
open Go.RowKit Go.Lib in
theorem Tryz.strings_makeASCIISet (hv116 : ∀ w, (zeroValue 199).run Tryz.prog w = .ok (.agg (Array.replicate 256 (.bool false))) w) (chars : ByteArray) (w : World) (hs : chars.size < 4294967281) (hascii : ∀ (j : Nat) b, chars.data.toList[j]? = some b → b.toNat < 128) :
  Calls Tryz.prog 200 #[.string chars] w fun e w' => e = .returned (.tuple #[.agg (Lib.setCells chars.data.toList), .bool true]) ∧ w' = w.alloc (.cells (Lib.setCells chars.data.toList) 199) := Any.strings_makeASCIISet Tryz.lays227 hv116 (by kernel_rfl) chars w hs hascii
def Tryz.lays228_ren : Go.Shelf.Ren := ⟨fun | 228 => 207 | n => n, fun | 124 => 203 | 5 => 5 | 4 => 4 | 0 => 0 | 116 => 199 | n => n, fun | n => n⟩
theorem Tryz.lays228 : Go.Proofs.Lays.n228 Tryz.prog Tryz.lays228_ren := {
 mixed := by kernel_rfl
 f228 := Tryz.func207.trans (congrArg some (by kernel_rfl))
 t0 := Tryz.underlying0
 a0 := Tryz.isAgg0
 z0 := Tryz.sizeOf0
 v0 := Tryz.zeroValue0
 t4 := Tryz.underlying4
 a4 := Tryz.isAgg4
 z4 := Tryz.sizeOf4
 v4 := Tryz.zeroValue4
 t5 := Tryz.underlying5
 a5 := Tryz.isAgg5
 z5 := Tryz.sizeOf5
 v5 := Tryz.zeroValue5
 t116 := Tryz.underlying199
 a116 := Tryz.isAgg199
 z116 := Tryz.sizeOf199
 t124 := Tryz.underlying203
 a124 := Tryz.isAgg203
 z124 := Tryz.sizeOf203
 v124 := Tryz.zeroValue203 }
open Go.RowKit Go.Lib in
theorem Tryz.asciiSet_contains (b : Nat) (x : UInt8) (v : Bool) (w : World) (hc : w.cell? ⟨b, x.toNat, none⟩ = some (.bool v)) :
  Calls Tryz.prog 207 #[.pointer (some ⟨b, 0, none⟩), .int .u8 x.toNat] w fun e w' => e = .returned (.bool v) ∧ w' = w := Any.asciiSet_contains Tryz.lays228 b x v w hc
open Go.RowKit Go.Lib in
theorem Tryz.strings_IndexAny_long (hv116 : ∀ w, (zeroValue 199).run Tryz.prog w = .ok (.agg (Array.replicate 256 (.bool false))) w) (s chars : ByteArray) (w : World) (h2 : 2 ≤ chars.size) (h8 : 8 < s.size) (hs : s.size < 4294967281) (hcs : chars.size < 4294967281) (hascii : ∀ (j : Nat) b, chars.data.toList[j]? = some b → b.toNat < 128) :
  Calls Tryz.prog 170 #[.string s, .string chars] w fun e w' => e = .returned (.int .i64 (Lib.indexAny s.data.toList chars.data.toList)) ∧ w' = ((w.alloc (.cells (Lib.setCells chars.data.toList) 199)).alloc (.cells (Lib.setCells chars.data.toList) 199)) := Any.strings_IndexAny_long Tryz.lays153 hv116 (by kernel_rfl) s chars w h2 h8 hs hcs hascii
open Go.RowKit Go.Lib in
theorem Tryz.strings_IndexAny (hv116 : ∀ w, (zeroValue 199).run Tryz.prog w = .ok (.agg (Array.replicate 256 (.bool false))) w) (s chars : ByteArray) (w : World) (hs : s.size < 4294967281) (hcs : chars.size < 4294967281) (has : ∀ (j : Nat) b, s.data.toList[j]? = some b → b.toNat < 128) (hac : ∀ (j : Nat) b, chars.data.toList[j]? = some b → b.toNat < 128) :
  Calls Tryz.prog 170 #[.string s, .string chars] w fun e w' => e = .returned (.int .i64 (Lib.indexAny s.data.toList chars.data.toList)) ∧ Below w.heap.size w w' := Any.strings_IndexAny Tryz.lays153 hv116 (by kernel_rfl) s chars w hs hcs has hac
def Tryz.lays150_ren : Go.Shelf.Ren := ⟨fun | 150 => 140 | 153 => 170 | 152 => 205 | 226 => 206 | 227 => 200 | 228 => 207 | 137 => 222 | 119 => 223 | 224 => 178 | 225 => 177 | 217 => 176 | 266 => 211 | n => n, fun | 9 => 9 | 4 => 4 | 3 => 3 | 5 => 5 | 21 => 21 | 117 => 200 | 116 => 199 | 0 => 0 | 46 => 142 | 124 => 203 | n => n, fun | n => n⟩
theorem Tryz.lays150 : Go.Proofs.Lays.n150 Tryz.prog Tryz.lays150_ren := {
 mixed := by kernel_rfl
 f119 := Tryz.func223.trans (congrArg some (by kernel_rfl))
 f137 := Tryz.func222.trans (congrArg some (by kernel_rfl))
 f150 := Tryz.func140.trans (congrArg some (by kernel_rfl))
 f152 := Tryz.func205.trans (congrArg some (by kernel_rfl))
 f153 := Tryz.func170.trans (congrArg some (by kernel_rfl))
 f217 := Tryz.func176.trans (congrArg some (by kernel_rfl))
 f224 := Tryz.func178.trans (congrArg some (by kernel_rfl))
 f225 := Tryz.func177.trans (congrArg some (by kernel_rfl))
 f226 := Tryz.func206.trans (congrArg some (by kernel_rfl))
 f227 := Tryz.func200.trans (congrArg some (by kernel_rfl))
 f228 := Tryz.func207.trans (congrArg some (by kernel_rfl))
 f266 := Tryz.func211.trans (congrArg some (by kernel_rfl))
 t0 := Tryz.underlying0
 a0 := Tryz.isAgg0
 z0 := Tryz.sizeOf0
 v0 := Tryz.zeroValue0
 t3 := Tryz.underlying3
 a3 := Tryz.isAgg3
 z3 := Tryz.sizeOf3
 v3 := Tryz.zeroValue3
 t4 := Tryz.underlying4
 a4 := Tryz.isAgg4
 z4 := Tryz.sizeOf4
 v4 := Tryz.zeroValue4
 t5 := Tryz.underlying5
 a5 := Tryz.isAgg5
 z5 := Tryz.sizeOf5
 v5 := Tryz.zeroValue5
 t9 := Tryz.underlying9
 a9 := Tryz.isAgg9
 z9 := Tryz.sizeOf9
 v9 := Tryz.zeroValue9
 t21 := Tryz.underlying21
 a21 := Tryz.isAgg21
 z21 := Tryz.sizeOf21
 v21 := Tryz.zeroValue21
 t46 := Tryz.underlying142
 a46 := Tryz.isAgg142
 z46 := Tryz.sizeOf142
 v46 := Tryz.zeroValue142
 t116 := Tryz.underlying199
 a116 := Tryz.isAgg199
 z116 := Tryz.sizeOf199
 t117 := Tryz.underlying200
 a117 := Tryz.isAgg200
 z117 := Tryz.sizeOf200
 v117 := Tryz.zeroValue200
 t124 := Tryz.underlying203
 a124 := Tryz.isAgg203
 z124 := Tryz.sizeOf203
 v124 := Tryz.zeroValue203 }
open Go.RowKit Go.Lib in
theorem Tryz.strings_ContainsAny (hv116 : ∀ w, (zeroValue 199).run Tryz.prog w = .ok (.agg (Array.replicate 256 (.bool false))) w) (s chars : ByteArray) (w : World) (hs : s.size < 4294967281) (hcs : chars.size < 4294967281) (has : ∀ (j : Nat) b, s.data.toList[j]? = some b → b.toNat < 128) (hac : ∀ (j : Nat) b, chars.data.toList[j]? = some b → b.toNat < 128) :
  Calls Tryz.prog 140 #[.string s, .string chars] w fun e w' => e = .returned (.bool (Lib.containsAny s.data.toList chars.data.toList)) ∧ Below w.heap.size w w' := Any.strings_ContainsAny Tryz.lays150 hv116 (by kernel_rfl) s chars w hs hcs has hac
open Go.RowKit Go.Lib in
theorem Tryz.strings_IndexAny_laid (s chars : ByteArray) (w : World) (hs : s.size < 4294967281) (hcs : chars.size < 4294967281) (has : ∀ (j : Nat) b, s.data.toList[j]? = some b → b.toNat < 128) (hac : ∀ (j : Nat) b, chars.data.toList[j]? = some b → b.toNat < 128) :
  Calls Tryz.prog 170 #[.string s, .string chars] w fun e w' => e = .returned (.int .i64 (Lib.indexAny s.data.toList chars.data.toList)) ∧ Below w.heap.size w w' := Any.strings_IndexAny_laid Tryz.lays153 (by kernel_rfl) s chars w hs hcs has hac
open Go.RowKit Go.Lib in
theorem Tryz.strings_ContainsAny_laid (s chars : ByteArray) (w : World) (hs : s.size < 4294967281) (hcs : chars.size < 4294967281) (has : ∀ (j : Nat) b, s.data.toList[j]? = some b → b.toNat < 128) (hac : ∀ (j : Nat) b, chars.data.toList[j]? = some b → b.toNat < 128) :
  Calls Tryz.prog 140 #[.string s, .string chars] w fun e w' => e = .returned (.bool (Lib.containsAny s.data.toList chars.data.toList)) ∧ Below w.heap.size w w' := Any.strings_ContainsAny_laid Tryz.lays150 (by kernel_rfl) s chars w hs hcs has hac
def Tryz.lays264_ren : Go.Shelf.Ren := ⟨fun | 264 => 166 | n => n, fun | 53 => 103 | 46 => 142 | n => n, fun | n => n⟩
theorem Tryz.lays264 : Go.Proofs.Lays.n264 Tryz.prog Tryz.lays264_ren := {
 mixed := by kernel_rfl
 f264 := Tryz.func166.trans (congrArg some (by kernel_rfl))
 t46 := Tryz.underlying142
 a46 := Tryz.isAgg142
 z46 := Tryz.sizeOf142
 v46 := Tryz.zeroValue142
 t53 := Tryz.underlying103
 a53 := Tryz.isAgg103
 z53 := Tryz.sizeOf103
 v53 := Tryz.zeroValue103 }
open Go.RowKit Go.Lib in
theorem Tryz.bits_Mul64 (x y : Nat) (hx : x < 18446744073709551616) (hy : y < 18446744073709551616) (w : World) :
  Calls Tryz.prog 166 #[.int .u64 x, .int .u64 y] w fun e w' => e = .returned (.tuple #[.int .u64 ((x * y / 18446744073709551616 : Nat) : Int), .int .u64 ((x * y % 18446744073709551616 : Nat) : Int)]) ∧ w' = w := Any.bits_Mul64 Tryz.lays264 x y hx hy w
def Tryz.lays212_ren : Go.Shelf.Ren := ⟨fun | 212 => 134 | 263 => 165 | 264 => 166 | n => n, fun | 46 => 142 | 51 => 104 | 146 => 174 | 53 => 103 | 148 => 176 | n => n, fun | n => n⟩
theorem Tryz.lays212 : Go.Proofs.Lays.n212 Tryz.prog Tryz.lays212_ren := {
 mixed := by kernel_rfl
 f212 := Tryz.func134.trans (congrArg some (by kernel_rfl))
 f263 := Tryz.func165.trans (congrArg some (by kernel_rfl))
 f264 := Tryz.func166.trans (congrArg some (by kernel_rfl))
 t46 := Tryz.underlying142
 a46 := Tryz.isAgg142
 z46 := Tryz.sizeOf142
 v46 := Tryz.zeroValue142
 t51 := Tryz.underlying104
 a51 := Tryz.isAgg104
 z51 := Tryz.sizeOf104
 v51 := Tryz.zeroValue104
 t53 := Tryz.underlying103
 a53 := Tryz.isAgg103
 z53 := Tryz.sizeOf103
 v53 := Tryz.zeroValue103
 t146 := Tryz.underlying174
 a146 := Tryz.isAgg174
 z146 := Tryz.sizeOf174
 v146 := Tryz.zeroValue174
 t148 := Tryz.underlying176
 a148 := Tryz.isAgg176
 z148 := Tryz.sizeOf176
 v148 := Tryz.zeroValue176 }
open Go.RowKit Go.Lib in
theorem Tryz.bits_Mul (x y : Nat) (hx : x < 18446744073709551616) (hy : y < 18446744073709551616) (w : World) :
  Calls Tryz.prog 134 #[.int .u64 x, .int .u64 y] w fun e w' => e = .returned (.tuple #[.int .u64 ((x * y / 18446744073709551616 : Nat) : Int), .int .u64 ((x * y % 18446744073709551616 : Nat) : Int)]) ∧ w' = w := Any.bits_Mul Tryz.lays212 x y hx hy w
def Tryz.lays105_ren : Go.Shelf.Ren := ⟨fun | 105 => 96 | 212 => 134 | 99 => 106 | 165 => 135 | 166 => 136 | 170 => 137 | 169 => 138 | 263 => 165 | 264 => 166 | 206 => 144 | 240 => 167 | 241 => 168 | 276 => 196 | 277 => 197 | n => n, fun | 9 => 9 | 3 => 3 | 4 => 4 | 20 => 20 | 0 => 0 | 46 => 142 | 109 => 143 | 5 => 5 | 72 => 147 | 76 => 123 | 51 => 104 | 146 => 174 | 53 => 103 | 148 => 176 | 70 => 145 | 37 => 101 | 75 => 122 | 127 => 178 | 164 => 194 | 80 => 150 | n => n, fun | n => n⟩
theorem Tryz.lays105 : Go.Proofs.Lays.n105 Tryz.prog Tryz.lays105_ren := {
 mixed := by kernel_rfl
 f99 := Tryz.func106.trans (congrArg some (by kernel_rfl))
 f105 := Tryz.func96.trans (congrArg some (by kernel_rfl))
 f165 := Tryz.func135.trans (congrArg some (by kernel_rfl))
 f166 := Tryz.func136.trans (congrArg some (by kernel_rfl))
 f169 := Tryz.func138.trans (congrArg some (by kernel_rfl))
 f170 := Tryz.func137.trans (congrArg some (by kernel_rfl))
 f206 := Tryz.func144.trans (congrArg some (by kernel_rfl))
 f212 := Tryz.func134.trans (congrArg some (by kernel_rfl))
 f240 := Tryz.func167.trans (congrArg some (by kernel_rfl))
 f241 := Tryz.func168.trans (congrArg some (by kernel_rfl))
 f263 := Tryz.func165.trans (congrArg some (by kernel_rfl))
 f264 := Tryz.func166.trans (congrArg some (by kernel_rfl))
 f276 := Tryz.func196.trans (congrArg some (by kernel_rfl))
 f277 := Tryz.func197.trans (congrArg some (by kernel_rfl))
 t0 := Tryz.underlying0
 a0 := Tryz.isAgg0
 z0 := Tryz.sizeOf0
 v0 := Tryz.zeroValue0
 t3 := Tryz.underlying3
 a3 := Tryz.isAgg3
 z3 := Tryz.sizeOf3
 v3 := Tryz.zeroValue3
 t4 := Tryz.underlying4
 a4 := Tryz.isAgg4
 z4 := Tryz.sizeOf4
 v4 := Tryz.zeroValue4
 t5 := Tryz.underlying5
 a5 := Tryz.isAgg5
 z5 := Tryz.sizeOf5
 v5 := Tryz.zeroValue5
 t9 := Tryz.underlying9
 a9 := Tryz.isAgg9
 z9 := Tryz.sizeOf9
 v9 := Tryz.zeroValue9
 t20 := Tryz.underlying20
 a20 := Tryz.isAgg20
 z20 := Tryz.sizeOf20
 v20 := Tryz.zeroValue20
 t37 := Tryz.underlying101
 a37 := Tryz.isAgg101
 z37 := Tryz.sizeOf101
 v37 := Tryz.zeroValue101
 t46 := Tryz.underlying142
 a46 := Tryz.isAgg142
 z46 := Tryz.sizeOf142
 v46 := Tryz.zeroValue142
 t51 := Tryz.underlying104
 a51 := Tryz.isAgg104
 z51 := Tryz.sizeOf104
 v51 := Tryz.zeroValue104
 t53 := Tryz.underlying103
 a53 := Tryz.isAgg103
 z53 := Tryz.sizeOf103
 v53 := Tryz.zeroValue103
 t70 := Tryz.underlying145
 a70 := Tryz.isAgg145
 z70 := Tryz.sizeOf145
 v70 := Tryz.zeroValue145
 t72 := Tryz.underlying147
 a72 := Tryz.isAgg147
 z72 := Tryz.sizeOf147
 v72 := Tryz.zeroValue147
 t75 := Tryz.underlying122
 a75 := Tryz.isAgg122
 z75 := Tryz.sizeOf122
 v75 := Tryz.zeroValue122
 t76 := Tryz.underlying123
 a76 := Tryz.isAgg123
 z76 := Tryz.sizeOf123
 v76 := Tryz.zeroValue123
 t109 := Tryz.underlying143
 a109 := Tryz.isAgg143
 z109 := Tryz.sizeOf143
 v109 := Tryz.zeroValue143
 t127 := Tryz.underlying178
 a127 := Tryz.isAgg178
 z127 := Tryz.sizeOf178
 v127 := Tryz.zeroValue178
 t146 := Tryz.underlying174
 a146 := Tryz.isAgg174
 z146 := Tryz.sizeOf174
 v146 := Tryz.zeroValue174
 t148 := Tryz.underlying176
 a148 := Tryz.isAgg176
 z148 := Tryz.sizeOf176
 v148 := Tryz.zeroValue176
 t164 := Tryz.underlying194
 a164 := Tryz.isAgg194
 z164 := Tryz.sizeOf194
 v164 := Tryz.zeroValue194 }
theorem Tryz.Builder_Extra_105 : Builder.Extra Tryz.prog Tryz.lays105_ren := {
 sizeBuilder := by kernel_rfl
 liesBuilder := by kernel_rfl
 t5 := Tryz.underlying5
 a5 := Tryz.isAgg5
 z5 := Tryz.sizeOf5
 v5 := Tryz.zeroValue5
 infoByte := by kernel_rfl
 cellsByte := by kernel_rfl
 sizeByte := by kernel_rfl
 neB5 := by decide }
open Go.RowKit Go.Lib in
theorem Tryz.strings_Repeat_main (s : ByteArray) (c : Nat) (w : World) (hc2 : 2 ≤ c) (hc : c ≤ 9223372036854775807) (hlen : s.size * c ≤ 140737488355328) (h0 : 0 < s.size) :
  Calls Tryz.prog 96 #[.string s, .int .i64 c] w fun e w' => e = .returned (.string ⟨(Lib.repeatL s.data.toList c).toArray⟩) ∧ Below w.heap.size w w' := Any.strings_Repeat_main Tryz.lays105 Tryz.Builder_Extra_105 s c w hc2 hc hlen h0
open Go.RowKit Go.Lib in
theorem Tryz.strings_Repeat_zero (s : ByteArray) (w : World) :
  Calls Tryz.prog 96 #[.string s, .int .i64 0] w fun e w' => e = .returned (.string ⟨#[]⟩) ∧ w' = w := Any.strings_Repeat_zero Tryz.lays105 s w
open Go.RowKit Go.Lib in
theorem Tryz.strings_Repeat_one (s : ByteArray) (w : World) :
  Calls Tryz.prog 96 #[.string s, .int .i64 1] w fun e w' => e = .returned (.string s) ∧ w' = w := Any.strings_Repeat_one Tryz.lays105 s w
open Go.RowKit Go.Lib in
theorem Tryz.strings_Repeat_empty (s : ByteArray) (c : Nat) (w : World) (hc2 : 2 ≤ c) (hc : c ≤ 9223372036854775807) (h0 : s.size = 0) :
  Calls Tryz.prog 96 #[.string s, .int .i64 c] w fun e w' => e = .returned (.string ⟨#[]⟩) ∧ w' = w := Any.strings_Repeat_empty Tryz.lays105 s c w hc2 hc h0
open Go.RowKit Go.Lib in
theorem Tryz.strings_Repeat_negative (s : ByteArray) (c : Int) (w : World) (hc : c < 0) :
  Calls Tryz.prog 96 #[.string s, .int .i64 c] w fun e w' => e = .panicked [{ v := repeatPanic Tryz.lays105_ren "strings: negative Repeat count", recovered := false }] ∧ w' = w := Any.strings_Repeat_negative Tryz.lays105 s c w hc
open Go.RowKit Go.Lib in
theorem Tryz.strings_Repeat_overflow (s : ByteArray) (c : Nat) (w : World) (hc : c ≤ 9223372036854775807) (hs : s.size ≤ 9223372036854775807) (hbig : 9223372036854775807 < s.size * c) :
  Calls Tryz.prog 96 #[.string s, .int .i64 c] w fun e w' => e = .panicked [{ v := repeatPanic Tryz.lays105_ren "strings: Repeat output length overflow", recovered := false }] ∧ w' = w := Any.strings_Repeat_overflow Tryz.lays105 s c w hc hs hbig
open Go.RowKit Go.Lib in
theorem Tryz.strings_Repeat (s : ByteArray) (c : Nat) (w : World) (hc : c ≤ 9223372036854775807) (hlen : s.size * c ≤ 140737488355328) :
  Calls Tryz.prog 96 #[.string s, .int .i64 c] w fun e w' => e = .returned (.string ⟨(Lib.repeatL s.data.toList c).toArray⟩) ∧ Below w.heap.size w w' := Any.strings_Repeat Tryz.lays105 Tryz.Builder_Extra_105 s c w hc hlen
def Tryz.lays260_ren : Go.Shelf.Ren := ⟨fun | 260 => 227 | n => n, fun | 9 => 9 | 21 => 21 | 3 => 3 | 4 => 4 | 5 => 5 | 119 => 225 | 0 => 0 | 46 => 142 | 139 => 228 | 138 => 227 | n => n, fun | 3 => 8 | 4 => 9 | n => n⟩
theorem Tryz.lays260 : Go.Proofs.Lays.n260 Tryz.prog Tryz.lays260_ren := {
 mixed := by kernel_rfl
 f260 := Tryz.func227.trans (congrArg some (by kernel_rfl))
 t0 := Tryz.underlying0
 a0 := Tryz.isAgg0
 z0 := Tryz.sizeOf0
 v0 := Tryz.zeroValue0
 t3 := Tryz.underlying3
 a3 := Tryz.isAgg3
 z3 := Tryz.sizeOf3
 v3 := Tryz.zeroValue3
 t4 := Tryz.underlying4
 a4 := Tryz.isAgg4
 z4 := Tryz.sizeOf4
 v4 := Tryz.zeroValue4
 t5 := Tryz.underlying5
 a5 := Tryz.isAgg5
 z5 := Tryz.sizeOf5
 v5 := Tryz.zeroValue5
 t9 := Tryz.underlying9
 a9 := Tryz.isAgg9
 z9 := Tryz.sizeOf9
 v9 := Tryz.zeroValue9
 t21 := Tryz.underlying21
 a21 := Tryz.isAgg21
 z21 := Tryz.sizeOf21
 v21 := Tryz.zeroValue21
 t46 := Tryz.underlying142
 a46 := Tryz.isAgg142
 z46 := Tryz.sizeOf142
 v46 := Tryz.zeroValue142
 t119 := Tryz.underlying225
 a119 := Tryz.isAgg225
 z119 := Tryz.sizeOf225
 t138 := Tryz.underlying227
 a138 := Tryz.isAgg227
 z138 := Tryz.sizeOf227
 v138 := Tryz.zeroValue227
 t139 := Tryz.underlying228
 a139 := Tryz.isAgg228
 z139 := Tryz.sizeOf228
 v139 := Tryz.zeroValue228
 g3 := by kernel_rfl
 g4 := by kernel_rfl }
open Go.RowKit Go.Lib in
theorem Tryz.utf8_decodeRuneInStringSlow (s : ByteArray) (w : World) (hT : Lib.Utf8Tabs 8 9 w) :
  Calls Tryz.prog 227 #[.string s] w fun e w' => e = .returned (.tuple #[.int .i32 (Lib.decodeGo s).1, .int .i64 (Lib.decodeGo s).2]) ∧ Below w.heap.size w w' := Any.utf8_decodeRuneInStringSlow Tryz.lays260 s w hT
end Go.Proofs
namespace Go.Proofs.YtgihmikeapbpkaaGreatDoor
open Go.RowKit
open Go.Lib (decDigits)
set_option maxHeartbeats 800000
set_option maxRecDepth 100000
theorem info5 : (Tryz.prog.info? 5).map (fun i => (i.zero, i.size, i.bytes)) = some (some (.int .u8 0), 1, 1) := by kernel_rfl
def codes (l : List UInt8) : List Nat := l.map (·.toNat)
theorem codes_append (a b : List UInt8) : codes (a ++ b) = codes a ++ codes b := by simp [codes]
theorem codes_length (a : List UInt8) : (codes a).length = a.length := by simp [codes]
theorem byteCells_codes (l : List UInt8) : Lib.byteCells l = (codes l).map fun (d : Nat) => Value.int .u8 (d : Int) := by simp [Lib.byteCells, codes]
theorem digit_code (d : Nat) : (UInt8.ofNat (48 + d % 10)).toNat = 48 + d % 10 := by
 rw [UInt8.toNat_ofNat']; omega
theorem padk_step (r j : Nat) (hj : j < 9) : codes ((padk 9 r).take (j + 1)) = codes ((padk 9 r).take j) ++ [48 + r / (10 ^ (9 - j) / 10) % 10] := by
 match j, hj with
 | 0, _ => simp [padk, codes, Nat.div_div_eq_div_mul]; omega
 | 1, _ => simp [padk, codes, Nat.div_div_eq_div_mul]; omega
 | 2, _ => simp [padk, codes, Nat.div_div_eq_div_mul]; omega
 | 3, _ => simp [padk, codes, Nat.div_div_eq_div_mul]; omega
 | 4, _ => simp [padk, codes, Nat.div_div_eq_div_mul]; omega
 | 5, _ => simp [padk, codes, Nat.div_div_eq_div_mul]; omega
 | 6, _ => simp [padk, codes, Nat.div_div_eq_div_mul]; omega
 | 7, _ => simp [padk, codes, Nat.div_div_eq_div_mul]; omega
 | 8, _ => simp [padk, codes, Nat.div_div_eq_div_mul]; omega
theorem unit_facts (j : Nat) (hj : j < 9) : 1 ≤ 10 ^ (9 - j) / 10 ∧ 10 ^ (9 - j) / 10 ≤ 100000000 ∧ 10 ^ (9 - j) / 10 / 10 = 10 ^ (9 - (j + 1)) / 10 := by
 match j, hj with
 | 0, _ => decide
 | 1, _ => decide
 | 2, _ => decide
 | 3, _ => decide
 | 4, _ => decide
 | 5, _ => decide
 | 6, _ => decide
 | 7, _ => decide
 | 8, _ => decide
theorem appendLimb_any (r B : Nat) (v : Value) (T : List UInt8) (w : World) (hr : r < 1000000000) (hT : T.length ≤ 10000000) (hB : B ≤ w.heap.size) (hown : Own .u8 5 w B v (codes T)) :
  Calls Tryz.prog 80 #[v, .int .u32 r] w fun e w' => ∃ v', e = .returned v' ∧ Own .u8 5 w' B v' (codes (T ++ padk 9 r)) ∧ Below B w w' := by
 obtain ⟨i0, hi, hz0, hz1, hz2⟩ := info_parts info5
 go_enter Tryz.func80, Tryz.ntmps80
 go_wp2
 go_loopw [0, 5] (fun tv uv wr => ∃ j : Nat, j ≤ 9 ∧ uv = .int .u32 ((10 ^ (9 - j) / 10 : Nat) : Int) ∧ Own .u8 5 wr B tv (codes T ++ codes ((padk 9 r).take j)) ∧ Below B w wr) (fun _ uv _ => (intOf uv).toNat)
 case atStart => exact ⟨0, by omega, rfl, by simpa [codes] using hown, Below.refl _ _⟩
 case round =>
  obtain ⟨j, hj, rfl, ho, hbw⟩ := hrel
  by_cases hlt : j < 9
  ·obtain ⟨u1, u2, u3⟩ := unit_facts j hlt
   have hst := padk_step r j hlt
   have hlen : (codes T ++ codes ((padk 9 r).take j)).length ≤ 20000000 := by
    rw [List.length_append, codes_length, codes_length, List.length_take, padk_length]; omega
   generalize 10 ^ (9 - j) / 10 = u at *
   have U3 := Lib.hid u3
   have HST := Lib.hid hst
   have HLEN := Lib.hid hlen
   clear u3 hst hlen
   have q1 : 0 ≤ (r : Int) / (u : Int) := Int.ediv_nonneg (by omega) (by omega)
   have q2 : (r : Int) / (u : Int) ≤ (r : Int) := Int.ediv_le_self _ (by omega)
   have hsz := hbw.size
   have hu0 : ((u : Int) == 0) = false := by simp; omega
   have hu1 : decide ((0 : Int) < (u : Int)) = true := by simp; omega
   go_wp2_with (first
    | (at_builtin; go_loud (refine wpList_append_num wr rfl (.tmp 10) (.tmp 17) 101 rfl .u8 B 5 i0 1 Tryz.underlying101 hi hz0 hz1 hz2 (by omega) u0 _ (by rfl) ho _ (48 + r / u % 10) ?_ 1 rfl (Nat.le_trans HLEN.out (by omega)) ?_ ?_; (simp); (omega); intro v2 w2 ho2 hb2))
    | fail)
   go_roundw
   case rel =>
    have o2 := ho2.out
    rw [List.append_assoc, ← HST.out] at o2
    exact ⟨j + 1, by omega, by rw [← U3.out]; simp, o2, hbw.trans hb2⟩
   case measure => simp [intOf]; omega
  ·obtain rfl : j = 9 := by omega
   have e9 : ((10 ^ (9 - 9) / 10 : Nat) : Int) = 0 := by decide
   rw [e9]
   have o9 : Own .u8 5 wr B u0 (codes (T ++ padk 9 r)) := by
    rw [List.take_of_length_le (by rw [padk_length]; omega), ← codes_append] at ho
    exact ho
   have hdf : decide ((0 : Int) < (0 : Int)) = false := by decide
   clear ho e9
   go_wp2
   go_ret
   exact ⟨_, rfl, o9, hbw⟩
theorem appendUint_any (u B : Nat) (v : Value) (T : List UInt8) (w : World) (hu : u < 10000000000000000000) (hT : T.length ≤ 10000000) (hB : B ≤ w.heap.size) (hown : Own .u8 5 w B v (codes T))
  (htab : Lib.TabIs Tryz.prog w "internal/strconv.uint64pow10" .u64 Lib.pow10Tab) :
  Calls Tryz.prog 79 #[v, .int .u64 u, .int .i64 10] w fun e w' => ∃ v', e = .returned v' ∧ Own .u8 5 w' B v' (codes (T ++ decDigits u)) ∧ Below B w w' := by
 have hc : Calls Tryz.prog 121 #[v, .int .u64 u, .int .i64 10] w fun e w' => ∃ v', e = .returned v' ∧ w'.ownsRow B 5 1 v' (codes T ++ codes (decDigits u)).length ((codes T ++ codes (decDigits u)).map fun (d : Nat) => Value.int .u8 (d : Int)) ∧ Below B w w' := by
  by_cases h : u < 100
  ·refine (Tryz.internal_strconv_AppendUint_10_small B _ u h v _ w hown hB (by rw [codes_length]; omega)).mono ?_
   rintro e w' ⟨v', he, ho, hb, _⟩
   refine ⟨v', he, ?_, hb⟩
   rw [List.length_append, codes_length (decDigits u), List.map_append, ← byteCells_codes (decDigits u)]
   exact ho
  ·refine (Tryz.internal_strconv_AppendUint_10_big B _ u (by omega) (by omega) v _ w hown hB (by rw [codes_length]; omega) htab).mono ?_
   rintro e w' ⟨v', he, ho, hb, _⟩
   refine ⟨v', he, ?_, hb⟩
   rw [List.length_append, codes_length (decDigits u), List.map_append, ← byteCells_codes (decDigits u)]
   exact ho
 have HC := Lib.hid hc
 clear hc htab hown
 go_enter Tryz.func79, Tryz.ntmps79
 go_wp2_with fail
 refine HC.out.mono ?_
 rintro e w' ⟨v', rfl, ho, hb⟩
 have HO := Lib.hid ho
 clear ho
 go_wp2_with fail
 go_ret
 exact ⟨_, rfl, by rw [codes_append]; exact HO.out, hb⟩
theorem fold_push (l : List UInt8) (acc : ByteArray) : (codes l).foldl (fun (r : ByteArray) (n : Nat) => r.push (UInt8.ofNat (n : Int).toNat)) acc = ⟨acc.data ++ l.toArray⟩ := by
 induction l generalizing acc with
 | nil => simp [codes]
 | cons c r ih =>
  show (codes r).foldl _ (acc.push (UInt8.ofNat (c.toNat : Int).toNat)) = _
  rw [ih]
  have : UInt8.ofNat (c.toNat : Int).toNat = c := by simp
  rw [this]
  simp [ByteArray.push]
theorem run_bytes_str {P : Program} {w : World} {e : TypeId} {base : Nat} {v : Value} {T : List UInt8} (src dst : TypeId) (hs : P.underlying src = some (.slice e)) (he : P.underlying e = some (.int .u8)) (hd : P.underlying dst = some .string)
  (hown : Own .u8 e w base v (codes T)) (hT : T ≠ []) : (convert src dst v).run P w = .ok (.string ⟨T.toArray⟩) w := by
 obtain ⟨A, c, rfl, hrow⟩ := hown.row
 obtain ⟨b, o, rfl, _, hc⟩ := hrow.spot (by rw [codes_length]; exact List.length_pos_iff.2 hT)
 rw [run_convert_bytes_string w src dst e _ _ _ hs he hd]
 have hl : (loadCells ⟨b, o, none⟩ (codes T).length).run P w = .ok (((codes T).map fun (n : Nat) => (n : Int)).map (Value.int .u8)).toArray w := by
  have := run_loadCells_list (P := P) (w := w) ⟨b, o, none⟩ (((codes T).map fun (n : Nat) => (n : Int)).map (Value.int .u8)) (fun j v hj => by
   have hjl : j < (codes T).length := by
    rcases Nat.lt_or_ge j (codes T).length with h | h
    ·exact h
    ·rw [List.getElem?_eq_none (by simpa using h)] at hj; cases hj
   have h2 := hc j hjl
   have h3 : v = .int .u8 (nth (codes T) j) := by
    rw [List.getElem?_map, List.getElem?_map, List.getElem?_eq_getElem hjl] at hj
    simp at hj
    rw [← hj, nth_lt hjl]
   rw [h3, ← h2]
   unfold Addr.add
   split
   ·rename_i h0; subst h0; simp
   ·rfl)
  simpa using this
 rw [run_bytesToString w _ _ _ _ hl, List.foldl_map, fold_push]
 simp [ByteArray.empty, ByteArray.emptyWithCapacity]
 rfl
theorem wpList_bytes_str {P : Program} {w : World} {ops : Array Oper} {rest : List Oper} {o : Oper} {a : Act} {Q : Exit → Act → World → Prop} (hg : o.guard = none) (src dst : TypeId) (x : Operand) (hop : o.op = Op.convert src dst x)
  (e : TypeId) (hs : P.underlying src = some (.slice e)) (he : P.underlying e = some (.int .u8)) (hd : P.underlying dst = some .string)
  (base : Nat) (v : Value) (T : List UInt8) (hx : a.eval x = v) (hown : Own .u8 e w base v (codes T)) (hT : T ≠ [])
  (h : wpList P ops Q rest (a.put o.dst (.string ⟨T.toArray⟩)) w) : wpList P ops Q (o :: rest) a w := by
 refine wpList_plain hg fun K hK => ?_
 have hrun := run_bytes_str src dst hs he hd hown hT
 unfold Oper.wp
 simp [execOp, hop, hx, hrun, Result.andThen]
 exact hK _ _ h
set_option maxHeartbeats 1600000
set_option maxRecDepth 20000
def decI (neg : Bool) (n : Nat) : List UInt8 := (if neg then [45] else []) ++ decDigits n
abbrev Tab (B : Nat) (w : World) : Prop := Lib.TabBelow Tryz.prog B w "internal/strconv.uint64pow10" .u64 Lib.pow10Tab
theorem Below.less {B B' : Nat} {w w' : World} (h : Below B' w w') (hB : B ≤ B') : Below B w w' := ⟨h.os, h.tape, h.output, h.size, fun k hk => h.block k (by omega)⟩
theorem Tab.more {B B' : Nat} {w : World} (h : Tab B w) (hB : B ≤ B') : Tab B' w := fun w' hb => h w' (Below.less hb hB)
theorem make_own8 {P : Program} (w : World) {ops : Array Oper} {rest : List Oper} {o : Oper} {a : Act} {Q : Exit → Act → World → Prop}
  (hg : o.guard = none) (l c : Operand) (t : TypeId) (hop : o.op = Op.makeSlice t l c)
  (e : TypeId) (i : TypeInfo) (h1 : P.underlying t = some (.slice e)) (h2 : P.info? e = some i) (h3 : i.zero = some (.int .u8 0)) (h4 : i.size = 1) (h5 : i.bytes = 1)
  (kl kc : IntKind) (C : Int) (n : Nat) (hl : a.eval l = .int kl 0) (hc : a.eval c = .int kc C) (hC : C = (n : Int)) (hn : n ≤ 100000000)
  (hK : ∀ w', Hid (Own .u8 e w' w.heap.size (.slice (some ⟨w.heap.size, 0, none⟩) 0 n) (codes [])) → Below w.heap.size w w' → wpList P ops Q rest (a.put o.dst (.slice (some ⟨w.heap.size, 0, none⟩) 0 n)) w') :
  wpList P ops Q (o :: rest) a w :=
 wpList_make_own w hg l c t hop w.heap.size e i (.int .u8 0) 1 h1 h2 h3 h4 kl kc C n hl hc hC (by rw [h5]; omega) (by unfold maxLen; omega) (Nat.le_refl _)
  fun w' ho hgr => hK w' ho (grown_none_below (Below.refl _ _) hgr (Nat.le_refl _))
theorem boxed {w w1 : World} {x y : Value} {t : TypeId} (h : Below (w.alloc (.cells #[x, y] t)).heap.size (w.alloc (.cells #[x, y] t)) w1) :
  w1.cell? ⟨w.heap.size, 0, none⟩ = some x ∧ w1.cell? ⟨w.heap.size, 1, none⟩ = some y ∧ w.heap.size + 1 ≤ w1.heap.size ∧ Below (w.heap.size + 1) (w.alloc (.cells #[x, y] t)) w1 := by
 have hs : (w.alloc (.cells #[x, y] t)).heap.size = w.heap.size + 1 := by simp
 rw [hs] at h
 have hh := heap_alloc_new w (.cells #[x, y] t)
 refine ⟨?_, ?_, by have := h.size; omega, h⟩
 ·rw [h.cell (by show w.heap.size < _; omega)]; unfold World.cell?; dsimp only; rw [hh]; rfl
 ·rw [h.cell (by show w.heap.size < _; omega)]; unfold World.cell?; dsimp only; rw [hh]; rfl
theorem boxedF {w w1 : World} {cs : Array Value} {t : TypeId} (h : Below (w.heap.size + 1) (w.alloc (.cells cs t)) w1) (i : Nat) : w1.frozen? ⟨w.heap.size, i, none⟩ = false := by
 rw [h.frozen (by show w.heap.size < _; omega)]
 unfold World.frozen?; dsimp only; rw [heap_alloc_new]; simp
theorem nDigits_le (k : Nat) : ∀ n, n < 10 ^ (k + 1) → Go.Lib.nDigits n ≤ k + 1 := by
 induction k with
 | zero => intro n h; rw [Go.Lib.nDigits_small (by simpa using h)]; omega
 | succ k ih =>
  intro n h
  by_cases h10 : n < 10
  ·rw [Go.Lib.nDigits_small h10]; omega
  ·rw [Go.Lib.nDigits_big h10]
   have := ih (n / 10) (by rw [Nat.pow_succ] at h; omega)
   omega
theorem dec_ne (n : Nat) : decDigits n ≠ [] := by
 rw [decDigits]
 split <;> simp
theorem dec_len (n : Nat) (h : n < 1000000000) : (decDigits n).length ≤ 10 := by
 rw [Go.Lib.decDigits_length]
 have := nDigits_le 8 n (by omega)
 omega
theorem boxed2 {w w1 : World} {x y : Value} {t : TypeId} (h : Below (w.heap.size + 1) (w.alloc (.cells #[x, y] t)) w1) :
  w1.cell? ⟨w.heap.size, 0, none⟩ = some x ∧ w1.cell? ⟨w.heap.size, 1, none⟩ = some y := by
 have hs : (w.alloc (.cells #[x, y] t)).heap.size = w.heap.size + 1 := by simp
 have := boxed (w := w) (w1 := w1) (x := x) (y := y) (t := t) (by rw [hs]; exact h)
 exact ⟨this.1, this.2.1⟩
theorem text_long (neg : Bool) (A : Option Addr) (c : Nat) (L : List Nat) (w : World) (hn : 0 < L.length) (hl : L.length ≤ 100000) (hL : Lim L) (htop : nth L (L.length - 1) ≠ 0)
  (hR : Row .u32 w w.heap.size A c L) (ht : Tab w.heap.size w) :
  Calls Tryz.prog 36 #[.agg #[.bool neg, .slice A L.length c]] w fun e w' => e = .returned (.string ⟨(decI neg (valB 1000000000 L)).toArray⟩) ∧ Below w.heap.size w w' := by
 obtain ⟨i0, hi, hz0, hz1, hz2⟩ := info_parts info5
 obtain ⟨b, o, rfl, hb, hcell⟩ := hR.spot hn
 generalize hl' : L.length = l at *
 have HL := Lib.hid hl'
 clear hl'
 have h0 : ((l : Int) == 0) = false := by simp; omega
 have htl := hL.nth (l - 1)
 have e1 : ((l : Int) - 1).toNat = l - 1 := by omega
 have hval : decI neg (valB 1000000000 L) = (if neg then [45] else []) ++ (decDigits (nth L (l - 1)) ++ lowPads 9 (L.take (l - 1))) := by
  unfold decI
  congr 1
  have := dec_limbs 9 (L.take (l - 1)) (nth L (l - 1)) (by omega) (fun d hd => hL d (List.mem_of_mem_take hd))
  rw [← this]
  have e2 : L.take (l - 1) ++ [nth L (l - 1)] = L := by
   have hh : l - 1 < L.length := by rw [HL.out]; omega
   rw [nth_lt hh, List.take_append_getElem]
   exact List.take_of_length_le (by rw [HL.out]; omega)
  rw [e2]
 have HV := Lib.hid hval
 clear hval e1 htop
 generalize htt : nth L (l - 1) = top at *
 have HTT := Lib.hid htt
 clear htt
 have HT := Lib.hid ht
 clear ht
 have ⟨S, hS, hS2⟩ : ∃ S : List UInt8, Hid ((if neg then [45] else []) = S) ∧ S.length ≤ 1 := ⟨_, rfl, by cases neg <;> simp⟩
 cases neg
 case false =>
  obtain rfl : [] = S := hS
  go_enter Tryz.func36, Tryz.ntmps36
  go_wp2_with (refine make_own8 _ rfl (.const (.int .i64 0)) (.tmp 14) 101 rfl 5 i0 Tryz.underlying101 hi hz0 hz1 hz2 .i64 .i64 _ (l * 9 + 1) rfl rfl ?_ ?_ ?_; (omega); (omega); intro w1 ho1 hb1; have X := boxed hb1; have hx0 := X.1; have hx1 := X.2.1; have hs1 := X.2.2.1; have hbx := X.2.2.2; clear X hb1; have hcl := hcell.below (Below.trans (below_alloc_new _) (Below.less hbx (Nat.le_succ _))) hb; have hlast := hcl (l - 1) (by rw [HL.out]; omega); rw [HTT.out] at hlast)
  refine (appendUint_any top (w.heap.size + 1) _ [] w1 (by omega) (by simp) hs1 (by simpa using ho1.out) (HT.out.on (Below.trans (below_alloc_new _) (Below.less hbx (Nat.le_succ _))) |>.here)).mono ?_
  rintro e w2 ⟨v2, rfl, ho2, hb2⟩
  have hbx2 := hbx.trans hb2
  clear hx0 hx1 hcl hlast hb2
  have hx1 := (boxed2 hbx2).2
  have HO2 := Lib.hid ho2
  clear ho2 ho1
  go_wp2_with fail
  generalize hP : [] ++ decDigits top = P0 at *
  have hPl : P0.length ≤ 21 := by rw [← hP]; have := dec_len top htl; simp; omega
  have HP := Lib.hid hP
  clear hP
  go_loopw [3, 5] (fun tv iv wr => ∃ k : Nat, k ≤ l - 1 ∧ iv = .int .i64 ((k : Int) - 1) ∧ Own .u8 5 wr (w.heap.size + 1) tv (codes (P0 ++ lowPads 9 ((L.take (l - 1)).drop k))) ∧
   Below (w.heap.size + 1) (w.alloc (.cells #[.bool false, .slice (some ⟨b, o, none⟩) l c] 25)) wr) (fun _ iv _ => (intOf iv + 1).toNat)
  case atStart => exact ⟨l - 1, by omega, by congr 1; omega, by rw [List.drop_of_length_le (by rw [List.length_take, HL.out]; omega)]; simpa [lowPads] using HO2.out, hbx2⟩
  case round =>
   clear hx1 hbx2
   obtain ⟨k, hk, rfl, ho, hbr⟩ := hrel
   have hx1 := (boxed2 hbr).2
   rcases Nat.eq_zero_or_pos k with rfl | hpos
   ·have hd : decide ((0 : Int) ≤ ((0 : Nat) : Int) - 1) = false := by simp
    have HO := Lib.hid ho
    clear ho
    have hne : P0 ++ lowPads 9 ((L.take (l - 1)).drop 0) ≠ [] := by rw [← HP.out]; simp [dec_ne]
    have HNE := Lib.hid hne
    clear hne
    go_wp2_with (refine wpList_bytes_str rfl 101 9 (.tmp 46) rfl 5 Tryz.underlying101 Tryz.underlying5 Tryz.underlying9 (w.heap.size + 1) u3 _ (by rfl) HO.out HNE.out ?_)
    go_ret
    exact ⟨by rw [HV.out, ← HP.out]; simp, (below_alloc_new _).trans (Below.less hbr (Nat.le_succ _))⟩
   ·obtain ⟨m, rfl⟩ : ∃ m, k = m + 1 := ⟨k - 1, by omega⟩
    have h1 : ((0 : Int) ≤ ((m + 1 : Nat) : Int) - 1) := by omega
    have e1 : ((m + 1 : Nat) : Int) - 1 = (m : Int) := by omega
    rw [e1]
    clear e1 h1
    have hm := (hcell.below (Below.trans (below_alloc_new _) (Below.less hbr (Nat.le_succ _))) hb) m (by rw [HL.out]; omega)
    have hml := hL.nth m
    have hsr : w.heap.size + 1 ≤ wr.heap.size := by have := hbr.size; simpa using this
    have hlen : (P0 ++ lowPads 9 ((L.take (l - 1)).drop (m + 1))).length ≤ 10000000 := by
     rw [List.length_append, lowPads_length, List.length_drop, List.length_take, HL.out]; omega
    have hst : lowPads 9 ((L.take (l - 1)).drop m) = lowPads 9 ((L.take (l - 1)).drop (m + 1)) ++ padk 9 (nth L m) := by
     have hml2 : m < (L.take (l - 1)).length := by rw [List.length_take, HL.out]; omega
     rw [List.drop_eq_getElem_cons hml2, lowPads, nth_lt (by rw [HL.out]; omega)]
     simp
    have hap := appendLimb_any (nth L m) (w.heap.size + 1) u3 _ wr hml hlen hsr ho
    have HAP := Lib.hid hap
    have HST := Lib.hid hst
    clear hlen hst ho hap
    go_wp2_with fail
    refine HAP.out.mono ?_
    rintro e w3 ⟨v3, rfl, ho3, hb3⟩
    have HO3 := Lib.hid ho3
    clear ho3 hx1 hm
    go_wp2_with fail
    go_roundw
    case rel => exact ⟨m, by omega, rfl, by rw [HST.out, ← List.append_assoc]; exact HO3.out, hbr.trans hb3⟩
    case measure => simp [intOf]
 case true =>
  obtain rfl : [45] = S := hS
  go_enter Tryz.func36, Tryz.ntmps36
  go_wp2_with (first
   | (refine make_own8 _ rfl (.const (.int .i64 0)) (.tmp 14) 101 rfl 5 i0 Tryz.underlying101 hi hz0 hz1 hz2 .i64 .i64 _ (l * 9 + 1) rfl rfl ?_ ?_ ?_; (omega); (omega); intro w1 ho1 hb1; have X := boxed hb1; have hx0 := X.1; have hx1 := X.2.1; have hs1 := X.2.2.1; have hbx := X.2.2.2; clear X hb1)
   | (at_builtin; refine wpList_append_num w1 rfl (.tmp 18) (.tmp 19) 101 rfl .u8 (w.heap.size + 1) 5 i0 1 Tryz.underlying101 hi hz0 hz1 hz2 (by omega) (.slice (some ⟨w.heap.size + 1, 0, none⟩) 0 (l * 9 + 1)) (codes []) (by rfl) (by simpa using ho1.out) _ 45 ?_ 1 rfl ?_ ?_ ?_; (rfl); (simp [codes]); (exact hs1); intro w4 w5 ho5 hb5; have hbx5 := hbx.trans hb5; have hx5 := (boxed2 hbx5).1; have hx6 := (boxed2 hbx5).2; have hs5 := Nat.le_trans hs1 hb5.size; clear hb5 hx0 hx1; have hcl := hcell.below (Below.trans (below_alloc_new _) (Below.less hbx5 (Nat.le_succ _))) hb; have hlast := hcl (l - 1) (by rw [HL.out]; omega); rw [HTT.out] at hlast)
   | fail)
  refine (appendUint_any top (w.heap.size + 1) _ [45] w5 (by omega) (by simp) hs5 ho5.out (HT.out.on (Below.trans (below_alloc_new _) (Below.less hbx5 (Nat.le_succ _))) |>.here)).mono ?_
  rintro e w2 ⟨v2, rfl, ho2, hb2⟩
  have hbx2 := hbx5.trans hb2
  clear hx5 hx6 hcl hlast hb2
  have hx1 := (boxed2 hbx2).2
  have HO2 := Lib.hid ho2
  clear ho2 ho5
  go_wp2_with fail
  generalize hP : [45] ++ decDigits top = P0 at *
  have hPl : P0.length ≤ 21 := by rw [← hP]; have := dec_len top htl; simp; omega
  have HP := Lib.hid hP
  clear hP
  go_loopw [3, 5] (fun tv iv wr => ∃ k : Nat, k ≤ l - 1 ∧ iv = .int .i64 ((k : Int) - 1) ∧ Own .u8 5 wr (w.heap.size + 1) tv (codes (P0 ++ lowPads 9 ((L.take (l - 1)).drop k))) ∧
   Below (w.heap.size + 1) (w.alloc (.cells #[.bool true, .slice (some ⟨b, o, none⟩) l c] 25)) wr) (fun _ iv _ => (intOf iv + 1).toNat)
  case atStart => exact ⟨l - 1, by omega, by congr 1; omega, by rw [List.drop_of_length_le (by rw [List.length_take, HL.out]; omega)]; simpa [lowPads] using HO2.out, hbx2⟩
  case round =>
   clear hx1 hbx2
   obtain ⟨k, hk, rfl, ho, hbr⟩ := hrel
   have hx1 := (boxed2 hbr).2
   rcases Nat.eq_zero_or_pos k with rfl | hpos
   ·have hd : decide ((0 : Int) ≤ ((0 : Nat) : Int) - 1) = false := by simp
    have HO := Lib.hid ho
    clear ho
    have hne : P0 ++ lowPads 9 ((L.take (l - 1)).drop 0) ≠ [] := by rw [← HP.out]; simp
    have HNE := Lib.hid hne
    clear hne
    go_wp2_with (refine wpList_bytes_str rfl 101 9 (.tmp 46) rfl 5 Tryz.underlying101 Tryz.underlying5 Tryz.underlying9 (w.heap.size + 1) u3 _ (by rfl) HO.out HNE.out ?_)
    go_ret
    exact ⟨by rw [HV.out, ← HP.out]; simp, (below_alloc_new _).trans (Below.less hbr (Nat.le_succ _))⟩
   ·obtain ⟨m, rfl⟩ : ∃ m, k = m + 1 := ⟨k - 1, by omega⟩
    have h1 : ((0 : Int) ≤ ((m + 1 : Nat) : Int) - 1) := by omega
    have e1 : ((m + 1 : Nat) : Int) - 1 = (m : Int) := by omega
    rw [e1]
    clear e1 h1
    have hm := (hcell.below (Below.trans (below_alloc_new _) (Below.less hbr (Nat.le_succ _))) hb) m (by rw [HL.out]; omega)
    have hml := hL.nth m
    have hsr : w.heap.size + 1 ≤ wr.heap.size := by have := hbr.size; simpa using this
    have hlen : (P0 ++ lowPads 9 ((L.take (l - 1)).drop (m + 1))).length ≤ 10000000 := by
     rw [List.length_append, lowPads_length, List.length_drop, List.length_take, HL.out]; omega
    have hst : lowPads 9 ((L.take (l - 1)).drop m) = lowPads 9 ((L.take (l - 1)).drop (m + 1)) ++ padk 9 (nth L m) := by
     have hml2 : m < (L.take (l - 1)).length := by rw [List.length_take, HL.out]; omega
     rw [List.drop_eq_getElem_cons hml2, lowPads, nth_lt (by rw [HL.out]; omega)]
     simp
    have hap := appendLimb_any (nth L m) (w.heap.size + 1) u3 _ wr hml hlen hsr ho
    have HAP := Lib.hid hap
    have HST := Lib.hid hst
    clear hlen hst ho hap
    go_wp2_with fail
    refine HAP.out.mono ?_
    rintro e w3 ⟨v3, rfl, ho3, hb3⟩
    have HO3 := Lib.hid ho3
    clear ho3 hx1 hm
    go_wp2_with fail
    go_roundw
    case rel => exact ⟨m, by omega, rfl, by rw [HST.out, ← List.append_assoc]; exact HO3.out, hbr.trans hb3⟩
    case measure => simp [intOf]
theorem text_zero (neg : Bool) (A : Option Addr) (c : Nat) (w : World) :
  Calls Tryz.prog 36 #[.agg #[.bool neg, .slice A 0 c]] w fun e w' => e = .returned (.string ⟨#[48]⟩) ∧ Below w.heap.size w w' := by
 go_enter Tryz.func36, Tryz.ntmps36
 go_wp2
 go_ret
 exact ⟨rfl, below_alloc_new _⟩
structure Canon (L : List Nat) : Prop where
 lim : Lim L
 top : 0 < L.length → nth L (L.length - 1) ≠ 0
theorem decI_nil : decI false (valB 1000000000 []) = [48] := by
 show [] ++ decDigits 0 = _
 rw [dec_small (by omega)]; rfl
theorem text_any (neg : Bool) (A : Option Addr) (c : Nat) (L : List Nat) (w : World) (hl : L.length ≤ 100000) (hL : Canon L) (hneg : neg = true → L ≠ [])
  (hR : Row .u32 w w.heap.size A c L) (ht : Tab w.heap.size w) :
  Calls Tryz.prog 36 #[.agg #[.bool neg, .slice A L.length c]] w fun e w' => e = .returned (.string ⟨(decI neg (valB 1000000000 L)).toArray⟩) ∧ Below w.heap.size w w' := by
 rcases Nat.eq_zero_or_pos L.length with h | h
 ·obtain rfl : L = [] := List.eq_nil_of_length_eq_zero h
  cases neg
  ·rw [decI_nil]; exact text_zero _ _ _ _
  ·exact absurd rfl (hneg rfl)
 ·exact text_long neg A c L w h hl hL.lim (hL.top h) hR ht
theorem decode_high (s : ByteArray) (pos : Nat) (h : pos < s.size) (ha : 128 ≤ (s[pos]'h).toNat) : 128 ≤ (Utf8.decode s pos).1 := by
 have e : s.get! (pos + 0) = s[pos]'h := by
  show s.get! pos = _
  simp [ByteArray.get!, getElem!_pos, h]
  rfl
 have hr : 128 ≤ Utf8.runeError := by decide
 unfold Utf8.decode
 simp only [e]
 rw [if_neg (by omega)]
 repeat' split
 all_goals first | (rename_i hc; simp at hc; omega) | exact hr
theorem toList_get (s : ByteArray) (k : Nat) (h : k < s.size) : s.data.toList[k]'(by simpa using h) = s[k] := by simp; rfl
theorem no_num (s : ByteArray) (k : Nat) (h : k < s.size) (hd : ¬ isDig (s[k]'h) = true) : okNum s.data.toList = false := by
 have : s.data.toList.all isDig = false := by
  rw [List.all_eq_false]
  refine ⟨s[k], ?_, by simpa using hd⟩
  rw [← toList_get s k h]
  exact List.getElem_mem _
 simp [okNum, this]
theorem all_dig (s : ByteArray) (h : ∀ j, j < s.size → ∀ (h2 : j < s.size), isDig (s[j]'h2) = true) : s.data.toList.all isDig = true := by
 rw [List.all_eq_true]
 intro x hx
 obtain ⟨j, hj, rfl⟩ := List.getElem_of_mem hx
 have hj' : j < s.size := by simpa using hj
 rw [toList_get s j hj']
 exact h j hj' hj'
theorem okNum_head (s : ByteArray) (h : 0 < s.size) (ha : s.data.toList.all isDig = true) (hn : (s.data.toList == [48]) = false) : okNum s.data.toList = ((((s[0]'h).toNat : Nat) : Int) != 48) := by
 have e := toList_get s 0 h
 have hl : s.data.toList.length = s.size := by simp
 unfold okNum
 rw [ha, hn]
 rcases hs : s.data.toList with _ | ⟨c, r⟩
 ·rw [hs] at hl; simp at hl; omega
 ·have e : c = s[0] := by
   rw [← e]; simp [hs]
  rw [← e]
  by_cases hc : c = 48
  ·subst hc; rfl
  ·have hc' : ¬ c.toNat = 48 := fun e => hc (by apply UInt8.toNat_inj.1; rw [e]; rfl)
   have : ((c.toNat : Int) != 48) = true := by simp; omega
   rw [this]
   simpa using hc
set_option maxHeartbeats 800000 in
theorem isNumber_any (s : ByteArray) (w : World) (_hs : s.size ≤ 1000000) :
  Calls Tryz.prog 76 #[.string s] w fun e w' => e = .returned (.bool (okNum s.data.toList)) ∧ Below w.heap.size w w' := by
 go_enter Tryz.func76, Tryz.ntmps76
 go_wp2
 go_loopw [] (fun wr => ∃ k : Nat, k ≤ s.size ∧ wr = w.iter s k ∧ Hid (∀ j (h : j < k) (h2 : j < s.size), isDig (s[j]'h2) = true)) (fun wr => s.size - wr.iterPos w.heap.size)
 case atStart => exact ⟨0, Nat.zero_le _, rfl, fun j h _ => absurd h (by omega)⟩
 case round =>
  obtain ⟨k, hk, rfl, hd⟩ := hrel
  by_cases hlt : k < s.size
  ·by_cases ha : (s[k]'hlt).toNat < 128
   ·have hnx := fun ty => run_next_ascii (P := Tryz.prog) w s k ty hlt ha
    by_cases hdig : isDig (s[k]'hlt) = true
    ·have h1 := (isDig_iff.1 hdig).1
     have h2 := (isDig_iff.1 hdig).2
     have hq : decide ((((s[k]'hlt).toNat : Nat) : Int) < 48) = false := by simp; omega
     go_wp2
     go_roundw
     case rel => exact ⟨k + 1, by omega, rfl, fun j hj h2 => by
      rcases Nat.lt_succ_iff_lt_or_eq.1 hj with h3 | rfl
      ·exact hd.out j h3 h2
      ·exact hdig⟩
     case measure => simp; omega
    ·have hno : okNum s.data.toList = false := no_num s k hlt hdig
     have hno' := Lib.hid hno
     clear hno
     by_cases h48 : (s[k]'hlt).toNat < 48
     ·have hq : decide ((((s[k]'hlt).toNat : Nat) : Int) < 48) = true := by simp; omega
      go_wp2
      go_ret
      exact ⟨by rw [hno'.out]; rfl, (Below.refl _ _).alloc (Nat.le_refl _) _⟩
     ·have hq : decide ((((s[k]'hlt).toNat : Nat) : Int) < 48) = false := by simp; omega
      have h57 : ¬ (s[k]'hlt).toNat ≤ 57 := fun h => hdig (isDig_iff.2 ⟨by omega, h⟩)
      go_wp2
      go_ret
      exact ⟨by rw [hno'.out]; rfl, (Below.refl _ _).alloc (Nat.le_refl _) _⟩
   ·have hnx := fun ty => run_next_any (P := Tryz.prog) w s k ty hlt
    have hhi := decode_high s k hlt (by omega)
    have hno : okNum s.data.toList = false := no_num s k hlt (fun h => by have := isDig_iff.1 h; omega)
    have hno' := Lib.hid hno
    clear hno
    have hq : decide ((((Utf8.decode s k).1 : Nat) : Int) < 48) = false := by simp; omega
    go_wp2
    go_ret
    exact ⟨by rw [hno'.out]; rfl, (Below.refl _ _).alloc (Nat.le_refl _) _⟩
  ·obtain rfl : k = s.size := by omega
   have hnx := fun ty => run_next_end (P := Tryz.prog) w s s.size ty hlt
   have hall : s.data.toList.all isDig = true := all_dig s hd.out
   have Hall := Lib.hid hall
   clear hall
   by_cases h1 : s.data.toList = [48]
   ·have b1 : (s.toList == [48]) = true := by rw [ByteArray.toList_eq, h1]; rfl
    go_wp2
    go_ret
    exact ⟨by unfold okNum; rw [Hall.out, h1]; rfl, (Below.refl _ _).alloc (Nat.le_refl _) _⟩
   ·have b1 : (s.toList == [48]) = false := by rw [ByteArray.toList_eq]; simpa using h1
    have B1 : Hid ((s.data.toList == [48]) = false) := by show _ = _; simpa using h1
    rcases Nat.eq_zero_or_pos s.size with h0 | h0
    ·have b2 : s.toList.isEmpty = true := by rw [ByteArray.toList_eq]; simp at h0; simp [h0]
     have B2 : Hid (s.data.toList.length = 0) := by show _ = _; simpa using h0
     clear h0 h1
     go_wp2
     go_ret
     exact ⟨by unfold okNum; rw [Hall.out, B1.out, B2.out]; rfl, (Below.refl _ _).alloc (Nat.le_refl _) _⟩
    ·have b2 : s.toList.isEmpty = false := by rw [ByteArray.toList_eq, List.isEmpty_eq_false_iff, ← List.length_pos_iff]; simpa using h0
     have hb : okNum s.data.toList = ((((s[0]'h0).toNat : Nat) : Int) != 48) := okNum_head s h0 Hall.out B1.out
     have HB := Lib.hid hb
     clear hb h1 B1
     go_wp2
     go_ret
     exact ⟨by rw [HB.out]; rfl, (Below.refl _ _).alloc (Nat.le_refl _) _⟩
theorem Blk.iterAt {k : IntKind} {t : TypeId} {w : World} {g : Nat} {L : List Nat} (h : Blk k t w g L) {K : Nat} (hK : g ≠ K) (s : ByteArray) (p : Nat) : Blk k t (w.iterAt K s p) g L := (Lib.iterAt_other w K g s p hK).trans h
theorem iterPos_of {w : World} {K p : Nat} {s : ByteArray} (h : w.heap[K]? = some (.stringIter s p)) : w.iterPos K = p := by unfold World.iterPos; rw [h]
set_option maxHeartbeats 1600000 in
theorem readDigits_any (s : ByteArray) (w : World) (hs : 0 < s.size) (hs2 : s.size ≤ 100000) (hd : ∀ c ∈ s.data.toList, isDig c = true) :
  Calls Tryz.prog 78 #[.string s] w fun e w' => ∃ A c L, e = .returned (.slice A L.length c) ∧ Row .u32 w' w'.heap.size A c L ∧ Canon L ∧ valB 1000000000 L = numOf s.data.toList ∧ L.length ≤ (s.size + 8) / 9 ∧ Below w.heap.size w w' := by
 obtain ⟨i0, hi, hz0, hz1, hz2⟩ := info_parts info68
 have hlen : s.data.toList.length = s.size := by simp
 have hinv := fun i h => rd_inv (s := s.data.toList) hd i h
 have hget : ∀ i (h : i < s.size), ((s[i]'h).toNat - 48 = digAt s.data.toList i) ∧ 48 ≤ (s[i]'h).toNat ∧ (s[i]'h).toNat ≤ 57 := fun i h => by
  have e := toList_get s i h
  have h1 := isDig_iff.1 (hd _ (List.getElem_mem (by simpa using h : i < s.data.toList.length)))
  rw [e] at h1
  refine ⟨?_, h1⟩
  simp only [digAt, List.getD_eq_getElem?_getD, List.getElem?_eq_getElem (by simpa using h : i < s.data.toList.length), Option.getD_some]
  rw [e]
 generalize hS : s.data.toList = S at *
 rw [hlen] at hinv
 have HINV := Lib.hid hinv
 have HLEN := Lib.hid hlen
 have HGET := Lib.hid hget
 clear hlen hinv hget hS hd
 go_enter Tryz.func78, Tryz.ntmps78
 go_wp2_with (refine wpList_make_zeros _ rfl (.tmp 11) (.tmp 11) 23 rfl 104 .u32 i0 4 Tryz.underlying23 hi hz0 hz1 hz2 .i64 .i64 _ _ ((s.size + 8) / 9) rfl rfl ?_ ?_ ?_ ?_ ?_; (omega); (omega); (omega); (omega); intro w1 hb1 hB1 hs1)
 have hsz := Lib.hid hs1
 clear hs1
 generalize hM0 : List.replicate ((s.size + 8) / 9) 0 = M0 at *
 have HM0 := Lib.hid hM0
 clear hM0
 go_loopw [] (fun wr => ∃ k : Nat, k ≤ s.size ∧ Hid (wr.heap[w1.heap.size]? = some (.stringIter s k)) ∧ Hid (Blk .u32 104 wr w.heap.size (rdSt S M0 k)) ∧ Below w.heap.size w wr) (fun wr => s.size - wr.iterPos w1.heap.size)
 case atStart =>
  refine ⟨0, Nat.zero_le _, World.iter_heap _ _ _, ?_, hB1.trans ((Below.refl _ _).alloc hB1.size _)⟩
  exact Blk.alloc hb1.out _
 case round =>
  obtain ⟨k, hk, hit, hb, hbw⟩ := hrel
  have hKg : w.heap.size ≠ w1.heap.size := by have := hsz.out; omega
  have HI := HINV.out k hk
  by_cases hlt : k < s.size
  ·obtain ⟨g1, g2, g3⟩ := HGET.out k hlt
   have hroom := rd_room HI rfl hlt
   have hnx := fun ty => Lib.run_next_ascii_at (P := Tryz.prog) wr w1.heap.size s k ty hit.out hlt (by omega)
   have hb' := hb.out.iterAt hKg s (k + 1)
   have hst := rdSt_succ S M0 k
   rw [HLEN.out, ← g1] at hst
   have HST := Lib.hid hst
   have hlenM := HI.len
   clear HI
   generalize rdSt S M0 k = M at *
   obtain ⟨r1, r2⟩ := hroom
   have hc := hb'.cell ((s.size - 1 - k) / 9) (by omega)
   have hfr := hb'.frozen ((s.size - 1 - k) / 9)
   have hi1 : (((s.size : Int) - 1 - (k : Int)) / 9) = (((s.size - 1 - k) / 9 : Nat) : Int) := by omega
   have G1 := Lib.hid g1
   clear g1 hlenM hst
   go_wp2
   have hit2 : ((wr.iterAt w1.heap.size s (k + 1)).setCell ⟨w.heap.size, (s.size - 1 - k) / 9, none⟩ (.int .u32 ((nth M ((s.size - 1 - k) / 9) : Int) * 10 + (((s[k]'hlt).toNat : Int) - 48)))).heap[w1.heap.size]? = some (.stringIter s (k + 1)) :=
    (Below.heap_setCell _ _ _ _ (by show w1.heap.size ≠ w.heap.size; omega)).trans (Lib.iterAt_heap wr w1.heap.size s k (k + 1) hit.out)
   go_roundw
   case rel =>
    refine ⟨k + 1, by omega, hit2, ?_, ?_⟩
    ·show Blk _ _ _ _ _
     rw [HST.out]
     exact hb'.setI _ (by omega)
    ·exact (Lib.below_iterAt hbw (by have := hsz.out; omega) s (k + 1)).setCell (by simp) _
   case measure =>
    rw [iterPos_of hit2, iterPos_of hit.out]; omega
  ·obtain rfl : k = s.size := by omega
   have hnx := fun ty => Lib.run_next_end_at (P := Tryz.prog) wr w1.heap.size s s.size ty hit.out hlt
   have hlenM := HI.len
   have hv := rd_end HI (by omega)
   have hlim := HI.lim
   rw [List.take_of_length_le (by rw [HLEN.out]; exact Nat.le_refl _)] at hv
   have hbb := hb.out
   have hT := trim_any (some ⟨w.heap.size, 0, none⟩) ((s.size + 8) / 9) w.heap.size 0 (rdSt S M0 s.size) wr (by omega) (by omega) (fun _ => rfl) hbb.cells
   rw [hlenM] at hT
   have hw := hbb.lt
   have HTT := Lib.hid hT
   have HB := Lib.hid hbb
   have HL := Lib.hid hlenM
   have HV := Lib.hid hv
   clear hT hbb hlenM hv hit hb HI
   generalize rdSt S M0 s.size = M at *
   go_wp2_with fail
   refine HTT.out.mono ?_
   rintro e w4 ⟨rfl, rfl⟩
   go_wp2_with fail
   go_ret
   have htl := trimN_le M ((s.size + 8) / 9)
   have el : (M.take (trimN M ((s.size + 8) / 9))).length = trimN M ((s.size + 8) / 9) := by rw [List.length_take, HL.out]; omega
   refine ⟨some ⟨w.heap.size, 0, none⟩, (s.size + 8) / 9, M.take (trimN M ((s.size + 8) / 9)), ?_, ?_, ⟨hlim.take _, ?_⟩, ?_, ?_, hbw⟩
   ·rw [el]; rfl
   ·exact (Row.ofBlk HB.out hw (by rw [HL.out]; exact Nat.le_refl _)).take _
   ·rw [el]; intro h; rw [nth_take (by omega)]; exact trimN_top _ _ h
   ·rw [trimN_val _ _ _ (by rw [HL.out]; exact Nat.le_refl _), List.take_of_length_le (by rw [HL.out]; exact Nat.le_refl _)]; exact HV.out
   ·rw [el]; exact htl
set_option maxHeartbeats 400000 in
theorem signed_any (neg : Bool) (A : Option Addr) (c n : Nat) (w : World) :
  Calls Tryz.prog 77 #[.bool neg, .slice A n c] w fun e w' => e = .returned (.agg #[.bool (neg && decide (0 < n)), .slice A n c]) ∧ Below w.heap.size w w' := by
 rcases Nat.eq_zero_or_pos n with rfl | hn
 ·have hd : decide ((0 : Int) < ((0 : Nat) : Int)) = false := by simp
  cases neg
  ·go_enter Tryz.func77, Tryz.ntmps77
   go_wp2
   exact bodyPost_ret (v := .agg #[.bool false, .slice A 0 c]) (by simp [results, Tryz.results77, go_sem]) rfl ⟨rfl, ((Below.refl _ _).alloc (Nat.le_refl _) _)⟩
  ·go_enter Tryz.func77, Tryz.ntmps77
   go_wp2
   exact bodyPost_ret (v := .agg #[.bool false, .slice A 0 c]) (by simp [results, Tryz.results77, go_sem]) rfl ⟨rfl, ((Below.refl _ _).alloc (Nat.le_refl _) _)⟩
 ·have hd : decide ((0 : Int) < (n : Int)) = true := by simp; omega
  cases neg
  ·go_enter Tryz.func77, Tryz.ntmps77
   go_wp2
   exact bodyPost_ret (v := .agg #[.bool false, .slice A n c]) (by simp [results, Tryz.results77, go_sem]) rfl ⟨rfl, ((Below.refl _ _).alloc (Nat.le_refl _) _)⟩
  ·go_enter Tryz.func77, Tryz.ntmps77
   go_wp2
   exact bodyPost_ret (v := .agg #[.bool true, .slice A n c]) (by simp [results, Tryz.results77, go_sem]) rfl ⟨by simp [hn], ((Below.refl _ _).alloc (Nat.le_refl _) _)⟩
set_option maxHeartbeats 1600000
set_option maxRecDepth 20000
def restOf (l : List UInt8) : List UInt8 := Lib.trimPrefix l [45]
def negOf (l : List UInt8) : Bool := Lib.hasPrefix l [45]
def badNum (l : List UInt8) : Bool := !okNum (restOf l) || (negOf l && restOf l == [48])
theorem restOf_le (l : List UInt8) : (restOf l).length ≤ l.length := by
 unfold restOf Lib.trimPrefix
 split <;> simp
def errOf (l : List UInt8) : Int := if badNum l then 3 else if 2000 < (restOf l).length then 6 else 0
structure IntR (w : World) (B : Nat) (neg : Bool) (A : Option Addr) (c : Nat) (L : List Nat) : Prop where
 row : Row .u32 w B A c L
 canon : Canon L
 sgn : neg = true → L ≠ []
theorem IntR.zero (w : World) (B : Nat) (A : Option Addr) (c : Nat) : IntR w B false A c [] := ⟨Row.nil _ _ _ _ _, ⟨fun _ h => absurd h (List.not_mem_nil), fun h => absurd h (Nat.lt_irrefl 0)⟩, fun h => absurd h Bool.false_ne_true⟩
theorem IntR.below {w w' : World} {B : Nat} {neg : Bool} {A : Option Addr} {c : Nat} {L : List Nat} (h : IntR w B neg A c L) (hb : Below B w w') : IntR w' B neg A c L := ⟨h.row.below hb, h.canon, h.sgn⟩
theorem Row.box {k : IntKind} {w w1 : World} {B : Nat} {A : Option Addr} {c : Nat} {L : List Nat} {x y : Value} {t : TypeId} (h : Row k w1 B A c L) (hb : Below (w.heap.size + 1) (w.alloc (.cells #[x, y] t)) w1)
  (hx : ∀ n, x ≠ .int k n) (hy : ∀ n, y ≠ .int k n) (u v : Value) : Row k ((w1.setCell ⟨w.heap.size, 0, none⟩ u).setCell ⟨w.heap.size, 1, none⟩ v) B A c L := by
 refine ⟨h.len, fun hp => ?_⟩
 obtain ⟨b, o, e, hbB, hc⟩ := h.spot hp
 have hne : b ≠ w.heap.size := by
  rintro rfl
  have h0 := hc 0 hp
  rw [hb.cell (by show w.heap.size < _; omega)] at h0
  unfold World.cell? at h0
  dsimp only at h0
  rw [heap_alloc_new] at h0
  match o, h0 with
  | 0, h0 => exact hx _ (Option.some.inj h0)
  | 1, h0 => exact hy _ (Option.some.inj h0)
  | o + 2, h0 => simp at h0
 refine ⟨b, o, e, hbB, hc.keep fun j => ?_⟩
 rw [World.cell?_setCell_other _ _ _ _ (fun e => hne (congrArg Addr.block e).symm), World.cell?_setCell_other _ _ _ _ (fun e => hne (congrArg Addr.block e).symm)]
theorem setCell_size (w : World) (p : Addr) (u : Value) : (w.setCell p u).heap.size = w.heap.size := by simp [World.setCell]
theorem parse_bad (s : ByteArray) (w : World) (hs : s.size ≤ 1000000) (hbad : badNum s.data.toList = true) :
  Calls Tryz.prog 34 #[.string s] w fun e w' => e = .returned (.tuple #[.agg #[.bool false, .slice none 0 0], .int .i64 3]) ∧ Below w.heap.size w w' := by
 have hcp := fun W => Tryz.strings_CutPrefix s ⟨#[45]⟩ W
 have HCP := Lib.hid hcp
 clear hcp
 go_enter Tryz.func34, Tryz.ntmps34
 go_wp2_with fail
 refine (HCP.out _).mono ?_
 rintro e w1 ⟨rfl, rfl⟩
 go_wp2_with fail
 have hD : (⟨(Lib.trimPrefix s.data.toList (#[45] : Array UInt8).toList).toArray⟩ : ByteArray).data.toList = restOf s.data.toList := rfl
 generalize (⟨(Lib.trimPrefix s.data.toList (#[45] : Array UInt8).toList).toArray⟩ : ByteArray) = D at *
 have hDs : D.size ≤ 1000000 := by
  have h1 : D.size = (restOf s.data.toList).length := by rw [← hD]; simp
  have h2 := restOf_le s.data.toList
  have h3 : s.data.toList.length = s.size := by simp
  omega
 have HN := Lib.hid (isNumber_any D (w.alloc (Obj.cells #[Value.bool false, Value.slice none 0 0] 25)) hDs)
 have HX : badNum s.data.toList = (!okNum D.data.toList || (Lib.hasPrefix s.data.toList [45] && D.data.toList == [48])) := by rw [hD]; rfl
 rw [hbad] at HX
 clear hD
 refine HN.out.mono ?_
 rintro e w2 ⟨rfl, hb2⟩
 have X := boxed hb2
 have hx0 := X.1
 have hx1 := X.2.1
 have hs2 := X.2.2.1
 have hbx := X.2.2.2
 have hf0 := hb2.frozen (p := ⟨w.heap.size, 0, none⟩) (by simp)
 have hf1 := hb2.frozen (p := ⟨w.heap.size, 1, none⟩) (by simp)
 have hfw : ∀ i, (w.alloc (Obj.cells #[Value.bool false, Value.slice none 0 0] 25)).frozen? ⟨w.heap.size, i, none⟩ = false := fun i => by unfold World.frozen?; dsimp only; rw [heap_alloc_new]; simp
 rw [hfw] at hf0 hf1
 have hbw : Below w.heap.size w w2 := (below_alloc_new _).trans (Below.less hbx (Nat.le_succ _))
 clear X hb2 hbx hfw
 by_cases hok : okNum D.data.toList = false
 ·clear HX
  go_wp2
  exact bodyPost_ret (v := .tuple #[.agg #[.bool false, .slice none 0 0], .int .i64 3]) (by simp [results, Tryz.results34, go_sem, hx0, hx1]) rfl ⟨rfl, (hbw.setCell (by simp) _).setCell (by simp) _⟩
 ·simp only [Bool.not_eq_false] at hok
  rw [hok] at HX
  have hneg : Lib.hasPrefix s.data.toList [45] = true := by
   revert HX; cases Lib.hasPrefix s.data.toList [45] <;> simp
  have h48 : (D.toList == [48]) = true := by
   rw [ByteArray.toList_eq]; revert HX; rw [hneg]; simp
  clear HX
  go_wp2
  exact bodyPost_ret (v := .tuple #[.agg #[.bool false, .slice none 0 0], .int .i64 3]) (by simp [results, Tryz.results34, go_sem, hx0, hx1]) rfl ⟨rfl, (hbw.setCell (by simp) _).setCell (by simp) _⟩
theorem parse_long (s : ByteArray) (w : World) (hs : s.size ≤ 1000000) (hbad : badNum s.data.toList = false) (hlong : 2000 < (restOf s.data.toList).length) :
    Calls Tryz.prog 34 #[.string s] w fun e w' => e = .returned (.tuple #[.agg #[.bool false, .slice none 0 0], .int .i64 6]) ∧ Below w.heap.size w w' := by
  have hcp := fun W => Tryz.strings_CutPrefix s ⟨#[45]⟩ W
  have HCP := Lib.hid hcp
  clear hcp
  go_enter Tryz.func34, Tryz.ntmps34
  go_wp2_with fail
  refine (HCP.out _).mono ?_
  rintro e w1 ⟨rfl, rfl⟩
  go_wp2_with fail
  have hD : (⟨(Lib.trimPrefix s.data.toList (#[45] : Array UInt8).toList).toArray⟩ : ByteArray).data.toList = restOf s.data.toList := rfl
  generalize (⟨(Lib.trimPrefix s.data.toList (#[45] : Array UInt8).toList).toArray⟩ : ByteArray) = D at *
  have hDs : D.size ≤ 1000000 := by
    have h1 : D.size = (restOf s.data.toList).length := by rw [← hD]; simp
    have h2 := restOf_le s.data.toList
    have h3 : s.data.toList.length = s.size := by simp
    omega
  have HN := Lib.hid (isNumber_any D (w.alloc (Obj.cells #[Value.bool false, Value.slice none 0 0] 25)) hDs)
  have HX : badNum s.data.toList = (!okNum D.data.toList || (Lib.hasPrefix s.data.toList [45] && D.data.toList == [48])) := by rw [hD]; rfl
  rw [hbad] at HX
  have hlo : 2000 < D.size := by have h1 : D.size = (restOf s.data.toList).length := by rw [← hD]; simp
                                 omega
  clear hD hlong
  refine HN.out.mono ?_
  rintro e w2 ⟨rfl, hb2⟩
  have X := boxed hb2
  have hx0 := X.1
  have hx1 := X.2.1
  have hs2 := X.2.2.1
  have hbx := X.2.2.2
  have hf0 := hb2.frozen (p := ⟨w.heap.size, 0, none⟩) (by simp)
  have hf1 := hb2.frozen (p := ⟨w.heap.size, 1, none⟩) (by simp)
  have hfw : ∀ i, (w.alloc (Obj.cells #[Value.bool false, Value.slice none 0 0] 25)).frozen? ⟨w.heap.size, i, none⟩ = false := fun i => by unfold World.frozen?; dsimp only; rw [heap_alloc_new]; simp
  rw [hfw] at hf0 hf1
  have hbw : Below w.heap.size w w2 := (below_alloc_new _).trans (Below.less hbx (Nat.le_succ _))
  clear X hb2 hbx hfw
  have hok : okNum D.data.toList = true := by revert HX; cases okNum D.data.toList <;> simp
  rw [hok] at HX
  by_cases hneg : Lib.hasPrefix s.data.toList [45] = true
  · have h48 : (D.toList == [48]) = false := by
      rw [ByteArray.toList_eq]; revert HX; rw [hneg]; simp
    clear HX
    go_wp2
    exact bodyPost_ret (v := .tuple #[.agg #[.bool false, .slice none 0 0], .int .i64 6]) (by simp [results, Tryz.results34, go_sem, hx0, hx1]) rfl ⟨rfl, (hbw.setCell (by simp) _).setCell (by simp) _⟩
  · simp only [Bool.not_eq_true] at hneg
    clear HX
    go_wp2
    exact bodyPost_ret (v := .tuple #[.agg #[.bool false, .slice none 0 0], .int .i64 6]) (by simp [results, Tryz.results34, go_sem, hx0, hx1]) rfl ⟨rfl, (hbw.setCell (by simp) _).setCell (by simp) _⟩
theorem okNum_parts {l : List UInt8} (h : okNum l = true) : (∀ c ∈ l, isDig c = true) ∧ l ≠ [] ∧ (l = [48] ∨ l.head? ≠ some 48) := by
 unfold okNum at h
 rw [Bool.and_eq_true, Bool.or_eq_true, Bool.and_eq_true, List.all_eq_true] at h
 obtain ⟨h1, h2⟩ := h
 refine ⟨h1, ?_, ?_⟩
 ·rintro rfl; simp at h2
 ·rcases h2 with h2 | h2
  ·left; simpa using h2
  ·right; simpa using h2.2
theorem parse_ok (s : ByteArray) (w : World) (_hs : s.size ≤ 1000000) (hbad : badNum s.data.toList = false) (hshort : (restOf s.data.toList).length ≤ 2000) :
    Calls Tryz.prog 34 #[.string s] w fun e w' => ∃ A c L, e = .returned (.tuple #[.agg #[.bool (negOf s.data.toList), .slice A L.length c], .int .i64 0]) ∧ IntR w' w'.heap.size (negOf s.data.toList) A c L ∧ valB 1000000000 L = numOf (restOf s.data.toList) ∧ L.length ≤ 223 ∧ Below w.heap.size w w' := by
  have hcp := fun W => Tryz.strings_CutPrefix s ⟨#[45]⟩ W
  have HCP := Lib.hid hcp
  clear hcp
  go_enter Tryz.func34, Tryz.ntmps34
  go_wp2_with fail
  refine (HCP.out _).mono ?_
  rintro e w1 ⟨rfl, rfl⟩
  go_wp2_with fail
  have hD : (⟨(Lib.trimPrefix s.data.toList (#[45] : Array UInt8).toList).toArray⟩ : ByteArray).data.toList = restOf s.data.toList := rfl
  generalize (⟨(Lib.trimPrefix s.data.toList (#[45] : Array UInt8).toList).toArray⟩ : ByteArray) = D at *
  have hDs : D.size ≤ 1000000 := by
    have h1 : D.size = (restOf s.data.toList).length := by rw [← hD]; simp
    have h2 := restOf_le s.data.toList
    have h3 : s.data.toList.length = s.size := by simp
    omega
  have HN := Lib.hid (isNumber_any D (w.alloc (Obj.cells #[Value.bool false, Value.slice none 0 0] 25)) hDs)
  have HX : badNum s.data.toList = (!okNum D.data.toList || (Lib.hasPrefix s.data.toList [45] && D.data.toList == [48])) := by rw [hD]; rfl
  rw [hbad] at HX
  have hlo : D.size ≤ 2000 := by have h1 : D.size = (restOf s.data.toList).length := by rw [← hD]; simp
                                 omega
  have HD := Lib.hid hD
  clear hD hshort
  refine HN.out.mono ?_
  rintro e w2 ⟨rfl, hb2⟩
  have X := boxed hb2
  have hx0 := X.1
  have hx1 := X.2.1
  have hs2 := X.2.2.1
  have hbx := X.2.2.2
  have hf0 := hb2.frozen (p := ⟨w.heap.size, 0, none⟩) (by simp)
  have hf1 := hb2.frozen (p := ⟨w.heap.size, 1, none⟩) (by simp)
  have hfw : ∀ i, (w.alloc (Obj.cells #[Value.bool false, Value.slice none 0 0] 25)).frozen? ⟨w.heap.size, i, none⟩ = false := fun i => by unfold World.frozen?; dsimp only; rw [heap_alloc_new]; simp
  rw [hfw] at hf0 hf1
  have hbw : Below w.heap.size w w2 := (below_alloc_new _).trans (Below.less hbx (Nat.le_succ _))
  have hbx' := hbx
  clear X hb2 hbx hfw
  have hok : okNum D.data.toList = true := by revert HX; cases okNum D.data.toList <;> simp
  rw [hok] at HX
  obtain ⟨k1, k2, k3⟩ := okNum_parts hok
  have hpos : 0 < D.size := by have := List.length_pos_iff.2 k2; simpa using this
  by_cases hneg : Lib.hasPrefix s.data.toList [45] = true
  · have h48 : (D.toList == [48]) = false := by
      rw [ByteArray.toList_eq]; revert HX; rw [hneg]; simp
    have hp : 0 < numOf D.data.toList := numOf_pos k1 k2 (by rcases k3 with h | h; rw [ByteArray.toList_eq, h] at h48; exact absurd h48 (by decide); exact h)
    clear HX
    go_wp2_with fail
    refine (readDigits_any D _ hpos (by omega) k1).mono ?_
    rintro e w3 ⟨A, c, L, rfl, hr, hcan, hv, hl, hb3⟩
    rw [← hv] at hp
    have hL : 0 < L.length := by
      rcases L with _ | ⟨x, r⟩
      · simp [valB] at hp
      · simp
    have HV := Lib.hid hv
    clear hv
    go_wp2_with fail
    refine (signed_any true A c L.length w3).mono ?_
    rintro e w4 ⟨rfl, hb4⟩
    have hd : (true && decide (0 < L.length)) = true := by simpa using hL
    rw [hd]
    have hby : Below (w.heap.size + 1) (w.alloc (Obj.cells #[Value.bool false, Value.slice none 0 0] 25)) w4 := hbx'.trans (Below.less (hb3.trans (Below.less hb4 hb3.size)) hs2)
    have hrow4 : IntR w4 w3.heap.size true A c L := IntR.below ⟨hr, hcan, fun _ h => by rw [h] at hL; simp at hL⟩ hb4
    have hy0 := (boxed2 hby).1
    have hy1 := (boxed2 hby).2
    have gy0 := boxedF hby 0
    have gy1 := boxedF hby 1
    have hbw4 : Below w.heap.size w w4 := (below_alloc_new _).trans (Below.less hby (Nat.le_succ _))
    have hw34 := hb4.size
    have hw23 := hb3.size
    have HBY := Lib.hid hby
    clear hx0 hx1 hf0 hf1 hbx' hby hb3 hb4 hr hcan
    go_wp2_with fail
    refine bodyPost_ret (v := .tuple #[.agg #[.bool true, .slice A L.length c], .int .i64 0]) (by simp [results, Tryz.results34, go_sem, hy0, hy1]) rfl ⟨A, c, L, by rw [show negOf s.data.toList = true from hneg], ?_, by rw [HV.out, HD.out], by omega, (hbw4.setCell (by simp) _).setCell (by simp) _⟩
    rw [show negOf s.data.toList = true from hneg, setCell_size, setCell_size]
    exact ⟨(hrow4.row.more hw34).box HBY.out (fun _ => by simp) (fun _ => by simp) _ _, hrow4.canon, hrow4.sgn⟩
  · simp only [Bool.not_eq_true] at hneg
    clear HX
    go_wp2_with fail
    refine (readDigits_any D _ hpos (by omega) k1).mono ?_
    rintro e w3 ⟨A, c, L, rfl, hr, hcan, hv, hl, hb3⟩
    have HV := Lib.hid hv
    clear hv
    go_wp2_with fail
    refine (signed_any false A c L.length w3).mono ?_
    rintro e w4 ⟨rfl, hb4⟩
    have hd : (false && decide (0 < L.length)) = false := rfl
    rw [hd]
    have hby : Below (w.heap.size + 1) (w.alloc (Obj.cells #[Value.bool false, Value.slice none 0 0] 25)) w4 := hbx'.trans (Below.less (hb3.trans (Below.less hb4 hb3.size)) hs2)
    have hrow4 : IntR w4 w3.heap.size false A c L := IntR.below ⟨hr, hcan, fun h => absurd h Bool.false_ne_true⟩ hb4
    have hy0 := (boxed2 hby).1
    have hy1 := (boxed2 hby).2
    have gy0 := boxedF hby 0
    have gy1 := boxedF hby 1
    have hbw4 : Below w.heap.size w w4 := (below_alloc_new _).trans (Below.less hby (Nat.le_succ _))
    have hw34 := hb4.size
    have hw23 := hb3.size
    have HBY := Lib.hid hby
    clear hx0 hx1 hf0 hf1 hbx' hby hb3 hb4 hr hcan
    go_wp2_with fail
    refine bodyPost_ret (v := .tuple #[.agg #[.bool false, .slice A L.length c], .int .i64 0]) (by simp [results, Tryz.results34, go_sem, hy0, hy1]) rfl ⟨A, c, L, by rw [show negOf s.data.toList = false from hneg], ?_, by rw [HV.out, HD.out], by omega, (hbw4.setCell (by simp) _).setCell (by simp) _⟩
    rw [show negOf s.data.toList = false from hneg, setCell_size, setCell_size]
    exact ⟨(hrow4.row.more hw34).box HBY.out (fun _ => by simp) (fun _ => by simp) _ _, hrow4.canon, hrow4.sgn⟩
set_option maxHeartbeats 1600000 in
theorem multiply_any (A A' : Option Addr) (c c' : Nat) (L M : List Nat) (w : World) (hl : L.length ≤ 1000000) (hml : M.length ≤ 1000000)
  (hL : Lim L) (hM : Lim M) (hR : Row .u32 w w.heap.size A c L) (hR' : Row .u32 w w.heap.size A' c' M) :
  Calls Tryz.prog 82 #[.slice A L.length c, .slice A' M.length c'] w fun e w' =>
   e = .returned (.slice (some ⟨w.heap.size, 0, none⟩) (trimN (mulSt L M (List.replicate (L.length + M.length) 0) L.length) (L.length + M.length)) (L.length + M.length)) ∧
    Blk .u32 104 w' w.heap.size (mulSt L M (List.replicate (L.length + M.length) 0) L.length) ∧ Below w.heap.size w w' := by
 obtain ⟨i0, hi, hz0, hz1, hz2⟩ := info_parts info68
 have hZ : Lim (List.replicate (L.length + M.length) 0) := fun d hd => by have := (List.mem_replicate.1 hd).2; omega
 have hZl : (List.replicate (L.length + M.length) 0).length = L.length + M.length := by simp
 generalize hz : List.replicate (L.length + M.length) 0 = Z at *
 generalize hl' : L.length = l at *
 generalize hm' : M.length = m at *
 have HL := Lib.hid hl'
 have HM := Lib.hid hm'
 have HZ := Lib.hid hz
 have HZL := Lib.hid hZl
 clear hl' hm' hz hZl
 go_enter Tryz.func82, Tryz.ntmps82
 go_wp2_with (first
  | (refine wpList_make_zeros _ rfl (.tmp 16) (.tmp 16) 23 rfl 104 .u32 i0 4 Tryz.underlying23 hi hz0 hz1 hz2 .i64 .i64 _ _ (l + m) rfl rfl (by omega) (by omega) (by omega) (by omega) ?_; intro w1 hb1 hB1 hs1)
  | fail)
 have hb1' := hb1.out
 rw [HZ.out] at hb1'
 have hg := hb1'.lt
 clear hs1 hb1
 go_loopw [20] (fun iv wr => ∃ i : Nat, i ≤ l ∧ iv = .int .i64 i ∧ Blk .u32 104 wr w.heap.size (mulSt L M Z i) ∧ w1.grownBy wr (some w.heap.size)) (fun iv _ => l - (intOf iv).toNat)
 case atStart => exact ⟨0, Nat.zero_le _, rfl, hb1', grown_refl _ _⟩
 case round =>
  obtain ⟨i, hk, rfl, hb, hgr⟩ := hrel
  obtain ⟨h1, h2⟩ := mulSt_ok hL hM hZ i
  have HS := Lib.hid (mulSt_succ L M Z i)
  have h3 : (mulSt L M Z i).length = l + m := by rw [h2, HZL.out]
  clear h2
  generalize hs : mulSt L M Z i = S at *
  have HK := Lib.hid hs
  have H3 := Lib.hid h3
  clear hs h3
  by_cases hlt : i < l
  ·obtain ⟨b, o, rfl, hbg, hcell⟩ := hR.spot (by rw [HL.out]; omega)
   have hcx := ((hcell.below hB1 hbg).grown hgr (by omega) (by intro e; injection e; omega)) i (by rw [HL.out]; exact hlt)
   have hx := hL.nth i
   generalize hxx : nth L i = x at *
   have HX := Lib.hid hxx
   clear hcell hxx
   go_wp2
   have hbS := hb
   go_loopw [8, 27] (fun cv jv wq => ∃ j : Nat, j ≤ m ∧ jv = .int .i64 j ∧ cv = .int .u64 (mulRow x i M S j).2 ∧ Blk .u32 104 wq w.heap.size (mulRow x i M S j).1 ∧ w1.grownBy wq (some w.heap.size)) (fun _ jv _ => m - (intOf jv).toNat)
   case atStart => exact ⟨0, Nat.zero_le _, rfl, rfl, hbS, hgr⟩
   case round =>
    obtain ⟨j, hj, rfl, rfl, hbq, hgq⟩ := hrel
    obtain ⟨g1, g2, g3⟩ := mulRow_ok (o := i) hx hM h1 j
    have HS' := Lib.hid (mulRow_succ x i M S j)
    generalize hq : mulRow x i M S j = q at *
    have HQ := Lib.hid hq
    clear hq
    obtain ⟨Q, y⟩ := q
    dsimp only at *
    rw [H3.out] at g3
    have G3 := Lib.hid g3
    clear g3
    by_cases hjt : j < m
    ·obtain ⟨b', o', rfl, hbg', hcell'⟩ := hR'.spot (by rw [HM.out]; omega)
     have hcy := ((hcell'.below hB1 hbg').grown hgq (by omega) (by intro e; injection e; omega)) j (by rw [HM.out]; exact hjt)
     have hc := hbq.cell (i + j) (by rw [G3.out]; omega)
     have hfr := hbq.frozen (i + j)
     have b1 := g1.nth (i + j)
     have b2 := hM.nth j
     have b4 := mul_lt_limI hx b2
     have b5 := mul_nonnegI x (nth M j)
     clear hcell'
     go_wp2
     go_roundw
     case rel =>
      have E := HS'.out
      have e1 := hbq.setI (i + j) (v := ((x : Int) * (nth M j : Int) + (nth Q (i + j) : Int) + (y : Int)) % 1000000000) (x := (x * nth M j + nth Q (i + j) + y) % 1000000000) (by simp)
      exact ⟨j + 1, by omega, by go_num, by rw [E]; simp, by rw [E]; exact e1, grown_set hgq _ _⟩
     case measure => simp [intOf]; omega
    ·obtain rfl : j = m := by omega
     have hc := hbq.cell (i + j) (by rw [G3.out]; omega)
     have hfr := hbq.frozen (i + j)
     go_wp2
     go_roundw
     case rel =>
      have E := HS.out
      rw [HM.out, HQ.out] at E
      exact ⟨i + 1, by omega, by go_num, by rw [E]; exact hbq.set_ _ _, grown_set hgq _ _⟩
     case measure => simp [intOf]; omega
  ·obtain rfl : i = l := by omega
   have hT := trim_any (some ⟨w.heap.size, 0, none⟩) (i + m) w.heap.size 0 S wr (by rw [H3.out]; omega) (by rw [H3.out]; omega) (fun _ => rfl) hb.cells
   rw [H3.out] at hT
   have hB : Below w.heap.size w wr := grown_below hB1 hgr (Nat.le_refl _) hB1.size
   have hb9 := Lib.hid hb
   have HT := Lib.hid hT
   clear hT hb
   go_wp2_with fail
   refine HT.out.mono ?_
   rintro e w4 ⟨rfl, rfl⟩
   go_wp2_with fail
   go_ret
   have hk' := HK.out
   rw [hk']
   exact ⟨rfl, hb9.out, hB⟩
set_option maxHeartbeats 1600000 in
theorem subtract_any (A A' : Option Addr) (c c' : Nat) (L M : List Nat) (w : World) (hl : L.length ≤ 1000000) (hml : M.length ≤ L.length)
  (hL : Lim L) (hM : Lim M) (hR : Row .u32 w w.heap.size A c L) (hR' : Row .u32 w w.heap.size A' c' M) :
  Calls Tryz.prog 113 #[.slice A L.length c, .slice A' M.length c'] w fun e w' =>
   e = .returned (.slice (some ⟨w.heap.size, 0, none⟩) (trimN (subSt M L L.length).1 L.length) L.length) ∧ Blk .u32 104 w' w.heap.size (subSt M L L.length).1 ∧ Below w.heap.size w w' := by
 have hCp := fun W h => copied_any A c L W (by omega) h
 generalize hl' : L.length = l at *
 generalize hm' : M.length = m at *
 have HL := Lib.hid hl'
 have HM := Lib.hid hm'
 clear hl' hm'
 have HCp := Lib.hid hCp
 clear hCp
 go_enter Tryz.func113, Tryz.ntmps113
 go_wp2_with fail
 refine (HCp.out _ hR).mono ?_
 rintro e w1 ⟨rfl, hb1, hB1⟩
 have hg := hb1.lt
 go_wp2_with fail
 go_loopw [6, 13] (fun cv iv wr => ∃ k : Nat, k ≤ l ∧ iv = .int .i64 k ∧ cv = .int .u32 (subSt M L k).2 ∧ Blk .u32 104 wr w.heap.size (subSt M L k).1 ∧ w1.grownBy wr (some w.heap.size)) (fun _ iv _ => l - (intOf iv).toNat)
 case atStart => exact ⟨0, Nat.zero_le _, rfl, rfl, hb1, grown_refl _ _⟩
 case round =>
  obtain ⟨k, hk, rfl, rfl, hb, hgr⟩ := hrel
  obtain ⟨h1, h2, h3⟩ := subSt_ok hM hL k
  have HS := Lib.hid (subSt_succ M L k)
  generalize hs : subSt M L k = s at *
  have HK := Lib.hid hs
  clear hs
  obtain ⟨S, x⟩ := s
  dsimp only at *
  rw [HL.out] at h3
  have hls : l = S.length := h3.symm
  clear h3
  by_cases hlt : k < l
  ·have hc := hb.cell k (by omega)
   have hfr := hb.frozen k
   have b1 := h1.nth k
   have b2 := hM.nth k
   clear hls
   by_cases hkl : k < m
   ·obtain ⟨b', o', rfl, hbg, hcell'⟩ := hR'.spot (by rw [HM.out]; omega)
    have hc' := ((hcell'.below hB1 hbg).grown hgr (by omega) (by intro e; injection e; omega)) k (by rw [HM.out]; exact hkl)
    clear hcell'
    by_cases hbo : nth S k < x + nth M k
    ·go_wp2
     go_roundw
     case rel =>
      have E := HS.out
      rw [if_pos hbo] at E
      have e1 := (hb.setI k (v := (nth S k : Int) + 1000000000) (x := nth S k + 1000000000) (by omega)).setI k (v := (nth S k : Int) + 1000000000 - (x + nth M k)) (x := nth S k + 1000000000 - (x + nth M k)) (by omega)
      rw [List.set_set] at e1
      exact ⟨k + 1, by omega, by go_num, by rw [E]; simp, by rw [E]; exact e1, grown_set (grown_set hgr _ _) _ _⟩
     case measure => simp [intOf]; omega
    ·go_wp2
     go_roundw
     case rel =>
      have E := HS.out
      rw [if_neg hbo] at E
      have e1 := hb.setI k (v := (nth S k : Int) - (x + nth M k)) (x := nth S k - (x + nth M k)) (by omega)
      exact ⟨k + 1, by omega, by go_num, by rw [E]; simp, by rw [E]; exact e1, grown_set hgr _ _⟩
     case measure => simp [intOf]; omega
   ·have HZ := Lib.hid (nth_ge (L := M) (k := k) (by rw [HM.out]; omega))
    by_cases hbo : nth S k < x
    ·go_wp2
     go_roundw
     case rel =>
      have E := HS.out
      simp only [HZ.out, Nat.add_zero] at E; rw [if_pos hbo] at E
      have e1 := (hb.setI k (v := (nth S k : Int) + 1000000000) (x := nth S k + 1000000000) (by omega)).setI k (v := (nth S k : Int) + 1000000000 - x) (x := nth S k + 1000000000 - x) (by omega)
      rw [List.set_set] at e1
      exact ⟨k + 1, by omega, by go_num, by rw [E]; simp, by rw [E]; exact e1, grown_set (grown_set hgr _ _) _ _⟩
     case measure => simp [intOf]; omega
    ·go_wp2
     go_roundw
     case rel =>
      have E := HS.out
      simp only [HZ.out, Nat.add_zero] at E; rw [if_neg hbo] at E
      have e1 := hb.setI k (v := (nth S k : Int) - x) (x := nth S k - x) (by omega)
      exact ⟨k + 1, by omega, by go_num, by rw [E]; simp, by rw [E]; exact e1, grown_set hgr _ _⟩
     case measure => simp [intOf]; omega
  ·obtain rfl : k = l := by omega
   have hT := trim_any (some ⟨w.heap.size, 0, none⟩) k w.heap.size 0 S wr (by omega) (by omega) (fun _ => rfl) hb.cells
   rw [← hls] at hT
   have hB : Below w.heap.size w wr := grown_below hB1 hgr (Nat.le_refl _) hB1.size
   have hb9 := Lib.hid hb
   have HT := Lib.hid hT
   clear hls hT hb
   go_wp2_with fail
   refine HT.out.mono ?_
   rintro e w4 ⟨rfl, rfl⟩
   go_wp2_with fail
   go_ret
   have hk' := HK.out
   rw [hk']
   exact ⟨rfl, hb9.out, hB⟩
end Go.Proofs.YtgihmikeapbpkaaGreatDoor
