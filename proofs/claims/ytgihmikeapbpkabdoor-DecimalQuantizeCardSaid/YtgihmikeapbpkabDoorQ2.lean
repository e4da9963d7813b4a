/- Contracts of the functions that the statement reaches, part 2: what was proved of each, callees first. -/
import Derived.Shelf.Strings.Builder1
import Derived.Shelf.Strings.Builder2
import Derived.Shelf.Small.Wraps
import Derived.Shelf.Strings.BuilderF
import Derived.Shelf.Strings.BuilderK
import Derived.Shelf.Strings.Builder2Cap
import Derived.Shelf.Strconv.Itoa0
import Derived.Shelf.Strconv.Itoa1
import Derived.Shelf.LaysM
import Derived.Shelf.Strconv.Itoa2
import Derived.Shelf.Strconv.Itoa3
import Derived.Shelf.Strings.Prefix
import Derived.Shelf.Bits.Mul64
import Derived.Shelf.Strings.Repeat
import Derived.Shelf.Strings.BuilderCap
import Derived.Ground.Names2Prog
import Derived.Shelf.Slices.SearchI
import Derived.Test.YtgihmikeapbpkabDoorProg
import Derived.Lib.AppendIntMem
import Derived.Lib.ItoaLen
import Derived.Test.YtgihmikeapbpkabDoorQ1
namespace Go.Proofs
open Go.Shelf
def Tryd.lays170_ren : Go.Shelf.Ren := ⟨fun | 170 => 44 | n => n, fun | 70 => 63 | 3 => 3 | 0 => 0 | 72 => 66 | 37 => 64 | 5 => 5 | n => n, fun | n => n⟩
theorem Tryd.lays170 : Go.Proofs.Lays.n170 Tryd.prog Tryd.lays170_ren := {
 mixed := by kernel_rfl
 f170 := Tryd.func44.trans (congrArg some (by kernel_rfl))
 t0 := Tryd.underlying0
 a0 := Tryd.isAgg0
 z0 := Tryd.sizeOf0
 v0 := Tryd.zeroValue0
 t3 := Tryd.underlying3
 a3 := Tryd.isAgg3
 z3 := Tryd.sizeOf3
 v3 := Tryd.zeroValue3
 t37 := Tryd.underlying64
 a37 := Tryd.isAgg64
 z37 := Tryd.sizeOf64
 v37 := Tryd.zeroValue64
 t70 := Tryd.underlying63
 a70 := Tryd.isAgg63
 z70 := Tryd.sizeOf63
 v70 := Tryd.zeroValue63
 t72 := Tryd.underlying66
 a72 := Tryd.isAgg66
 z72 := Tryd.sizeOf66
 v72 := Tryd.zeroValue66 }
open Go.RowKit in
theorem Tryd.Builder_Len (B b : Nat) (bs : List Value) (w : World) (h : Lib.IsBuilder 66 5 B b bs w) :
  Calls Tryd.prog 44 #[.pointer (some ⟨b, 0, none⟩)] w fun e w' => e = .returned (.int .i64 bs.length) ∧ w' = w := Any.Builder_Len Tryd.lays170 B b bs w h
def Tryd.lays169_ren : Go.Shelf.Ren := ⟨fun | 169 => 45 | n => n, fun | 70 => 63 | 9 => 9 | 0 => 0 | 72 => 66 | 37 => 64 | 127 => 81 | 3 => 3 | 5 => 5 | n => n, fun | n => n⟩
theorem Tryd.lays169 : Go.Proofs.Lays.n169 Tryd.prog Tryd.lays169_ren := {
 mixed := by kernel_rfl
 f169 := Tryd.func45.trans (congrArg some (by kernel_rfl))
 t0 := Tryd.underlying0
 a0 := Tryd.isAgg0
 z0 := Tryd.sizeOf0
 v0 := Tryd.zeroValue0
 t3 := Tryd.underlying3
 a3 := Tryd.isAgg3
 z3 := Tryd.sizeOf3
 v3 := Tryd.zeroValue3
 t9 := Tryd.underlying9
 a9 := Tryd.isAgg9
 z9 := Tryd.sizeOf9
 v9 := Tryd.zeroValue9
 t37 := Tryd.underlying64
 a37 := Tryd.isAgg64
 z37 := Tryd.sizeOf64
 v37 := Tryd.zeroValue64
 t70 := Tryd.underlying63
 a70 := Tryd.isAgg63
 z70 := Tryd.sizeOf63
 v70 := Tryd.zeroValue63
 t72 := Tryd.underlying66
 a72 := Tryd.isAgg66
 z72 := Tryd.sizeOf66
 v72 := Tryd.zeroValue66
 t127 := Tryd.underlying81
 a127 := Tryd.isAgg81
 z127 := Tryd.sizeOf81
 v127 := Tryd.zeroValue81 }
theorem Tryd.Builder_Extra_169 : Builder.Extra Tryd.prog Tryd.lays169_ren := {
 sizeBuilder := by kernel_rfl
 liesBuilder := by kernel_rfl
 t5 := Tryd.underlying5
 a5 := Tryd.isAgg5
 z5 := Tryd.sizeOf5
 v5 := Tryd.zeroValue5
 infoByte := by kernel_rfl
 cellsByte := by kernel_rfl
 sizeByte := by kernel_rfl
 neB5 := by decide }
open Go.RowKit in
theorem Tryd.Builder_String (B b : Nat) (l : List UInt8) (w : World) (h : Lib.IsBuilder 66 5 B b (Lib.byteCells l) w) (h0 : l ≠ []) :
  Calls Tryd.prog 45 #[.pointer (some ⟨b, 0, none⟩)] w fun e w' => e = .returned (.string ⟨l.toArray⟩) ∧ Below B w w' := Any.Builder_String Tryd.lays169 Tryd.Builder_Extra_169 B b l w h h0
open Go.RowKit in
theorem Tryd.Builder_String_empty (B b : Nat) (w : World) (h : Lib.IsBuilder 66 5 B b [] w) (hBw : B ≤ w.heap.size) :
  Calls Tryd.prog 45 #[.pointer (some ⟨b, 0, none⟩)] w fun e w' => e = .returned (.string ⟨#[]⟩) ∧ Below B w w' := Any.Builder_String_empty Tryd.lays169 Tryd.Builder_Extra_169 B b w h hBw
open Go.RowKit in
theorem Tryd.Builder_String_any (B b : Nat) (l : List UInt8) (w : World) (h : Lib.IsBuilder 66 5 B b (Lib.byteCells l) w) (hBw : B ≤ w.heap.size) :
  Calls Tryd.prog 45 #[.pointer (some ⟨b, 0, none⟩)] w fun e w' => e = .returned (.string ⟨l.toArray⟩) ∧ Below B w w' := Any.Builder_String_any Tryd.lays169 Tryd.Builder_Extra_169 B b l w h hBw
def Tryd.lays241_ren : Go.Shelf.Ren := ⟨fun | 241 => 57 | 277 => 64 | n => n, fun | 70 => 63 | 3 => 3 | 0 => 0 | 72 => 66 | 37 => 64 | 5 => 5 | n => n, fun | n => n⟩
theorem Tryd.lays241 : Go.Proofs.Lays.n241 Tryd.prog Tryd.lays241_ren := {
 mixed := by kernel_rfl
 f241 := Tryd.func57.trans (congrArg some (by kernel_rfl))
 f277 := Tryd.func64.trans (congrArg some (by kernel_rfl))
 t0 := Tryd.underlying0
 a0 := Tryd.isAgg0
 z0 := Tryd.sizeOf0
 v0 := Tryd.zeroValue0
 t3 := Tryd.underlying3
 a3 := Tryd.isAgg3
 z3 := Tryd.sizeOf3
 v3 := Tryd.zeroValue3
 t37 := Tryd.underlying64
 a37 := Tryd.isAgg64
 z37 := Tryd.sizeOf64
 v37 := Tryd.zeroValue64
 t70 := Tryd.underlying63
 a70 := Tryd.isAgg63
 z70 := Tryd.sizeOf63
 v70 := Tryd.zeroValue63
 t72 := Tryd.underlying66
 a72 := Tryd.isAgg66
 z72 := Tryd.sizeOf66
 v72 := Tryd.zeroValue66 }
theorem Tryd.Builder_Extra_241 : Builder.Extra Tryd.prog Tryd.lays241_ren := {
 sizeBuilder := by kernel_rfl
 liesBuilder := by kernel_rfl
 t5 := Tryd.underlying5
 a5 := Tryd.isAgg5
 z5 := Tryd.sizeOf5
 v5 := Tryd.zeroValue5
 infoByte := by kernel_rfl
 cellsByte := by kernel_rfl
 sizeByte := by kernel_rfl
 neB5 := by decide }
open Go.RowKit in
theorem Tryd.Builder_grow_fresh (B b n : Nat) (w : World) (hB : B ≤ b) (hbk : w.heap[b]? = some (.cells #[.pointer (some ⟨b, 0, none⟩), .slice none 0 0] 66 (0, 0))) (hBw : B ≤ w.heap.size) (hn : n ≤ 281474976710656) :
  Calls Tryd.prog 57 #[.pointer (some ⟨b, 0, none⟩), .int .i64 n] w fun e w' => e = .returned (.tuple #[]) ∧ (Lib.BuilderAt 66 5 B b (.pointer (some ⟨b, 0, none⟩)) [] w' ∧ Below B w w') := Any.Builder_grow_fresh Tryd.lays241 Tryd.Builder_Extra_241 B b n w hB hbk hBw hn
def Tryd.lays165_ren : Go.Shelf.Ren := ⟨fun | 165 => 42 | 240 => 56 | 241 => 57 | 276 => 63 | 277 => 64 | n => n, fun | 70 => 63 | 3 => 3 | 0 => 0 | 4 => 4 | 9 => 9 | 20 => 20 | 72 => 66 | 37 => 64 | 164 => 87 | 5 => 5 | n => n, fun | n => n⟩
theorem Tryd.lays165 : Go.Proofs.Lays.n165 Tryd.prog Tryd.lays165_ren := {
 mixed := by kernel_rfl
 f165 := Tryd.func42.trans (congrArg some (by kernel_rfl))
 f240 := Tryd.func56.trans (congrArg some (by kernel_rfl))
 f241 := Tryd.func57.trans (congrArg some (by kernel_rfl))
 f276 := Tryd.func63.trans (congrArg some (by kernel_rfl))
 f277 := Tryd.func64.trans (congrArg some (by kernel_rfl))
 t0 := Tryd.underlying0
 a0 := Tryd.isAgg0
 z0 := Tryd.sizeOf0
 v0 := Tryd.zeroValue0
 t3 := Tryd.underlying3
 a3 := Tryd.isAgg3
 z3 := Tryd.sizeOf3
 v3 := Tryd.zeroValue3
 t4 := Tryd.underlying4
 a4 := Tryd.isAgg4
 z4 := Tryd.sizeOf4
 v4 := Tryd.zeroValue4
 t9 := Tryd.underlying9
 a9 := Tryd.isAgg9
 z9 := Tryd.sizeOf9
 v9 := Tryd.zeroValue9
 t20 := Tryd.underlying20
 a20 := Tryd.isAgg20
 z20 := Tryd.sizeOf20
 v20 := Tryd.zeroValue20
 t37 := Tryd.underlying64
 a37 := Tryd.isAgg64
 z37 := Tryd.sizeOf64
 v37 := Tryd.zeroValue64
 t70 := Tryd.underlying63
 a70 := Tryd.isAgg63
 z70 := Tryd.sizeOf63
 v70 := Tryd.zeroValue63
 t72 := Tryd.underlying66
 a72 := Tryd.isAgg66
 z72 := Tryd.sizeOf66
 v72 := Tryd.zeroValue66
 t164 := Tryd.underlying87
 a164 := Tryd.isAgg87
 z164 := Tryd.sizeOf87
 v164 := Tryd.zeroValue87 }
theorem Tryd.Builder_Extra_165 : Builder.Extra Tryd.prog Tryd.lays165_ren := {
 sizeBuilder := by kernel_rfl
 liesBuilder := by kernel_rfl
 t5 := Tryd.underlying5
 a5 := Tryd.isAgg5
 z5 := Tryd.sizeOf5
 v5 := Tryd.zeroValue5
 infoByte := by kernel_rfl
 cellsByte := by kernel_rfl
 sizeByte := by kernel_rfl
 neB5 := by decide }
open Go.RowKit in
theorem Tryd.Builder_Grow_fresh (B b n : Nat) (w : World) (hB : B ≤ b) (hbk : w.heap[b]? = some (.cells #[.pointer none, .slice none 0 0] 66 (0, 0))) (hBw : B ≤ w.heap.size) (hn : n ≤ 281474976710656) :
  Calls Tryd.prog 42 #[.pointer (some ⟨b, 0, none⟩), .int .i64 n] w fun e w' => e = .returned (.tuple #[]) ∧ (Lib.BuilderAt 66 5 B b (.pointer (some ⟨b, 0, none⟩)) [] w' ∧ Below B w w') := Any.Builder_Grow_fresh Tryd.lays165 Tryd.Builder_Extra_165 B b n w hB hbk hBw hn
def Tryd.lays210_ren : Go.Shelf.Ren := ⟨fun | 210 => 38 | 206 => 52 | n => n, fun | 9 => 9 | 4 => 4 | 3 => 3 | n => n, fun | n => n⟩
theorem Tryd.lays210 : Go.Proofs.Lays.n210 Tryd.prog Tryd.lays210_ren := {
 mixed := by kernel_rfl
 f206 := Tryd.func52.trans (congrArg some (by kernel_rfl))
 f210 := Tryd.func38.trans (congrArg some (by kernel_rfl))
 t3 := Tryd.underlying3
 a3 := Tryd.isAgg3
 z3 := Tryd.sizeOf3
 v3 := Tryd.zeroValue3
 t4 := Tryd.underlying4
 a4 := Tryd.isAgg4
 z4 := Tryd.sizeOf4
 v4 := Tryd.zeroValue4
 t9 := Tryd.underlying9
 a9 := Tryd.isAgg9
 z9 := Tryd.sizeOf9
 v9 := Tryd.zeroValue9 }
open Go.RowKit in
theorem Tryd.stringslite_CutPrefix (s p : ByteArray) (w : World) :
  Calls Tryd.prog 38 #[.string s, .string p] w fun e w' => e = .returned (.tuple #[.string ⟨(Lib.trimPrefix s.data.toList p.data.toList).toArray⟩, .bool (Lib.hasPrefix s.data.toList p.data.toList)]) ∧ w' = w := Any.stringslite_CutPrefix Tryd.lays210 s p w
def Tryd.lays103_ren : Go.Shelf.Ren := ⟨fun | 103 => 32 | 210 => 38 | 206 => 52 | n => n, fun | 9 => 9 | 4 => 4 | 24 => 48 | 3 => 3 | n => n, fun | n => n⟩
theorem Tryd.lays103 : Go.Proofs.Lays.n103 Tryd.prog Tryd.lays103_ren := {
 mixed := by kernel_rfl
 f103 := Tryd.func32.trans (congrArg some (by kernel_rfl))
 f206 := Tryd.func52.trans (congrArg some (by kernel_rfl))
 f210 := Tryd.func38.trans (congrArg some (by kernel_rfl))
 t3 := Tryd.underlying3
 a3 := Tryd.isAgg3
 z3 := Tryd.sizeOf3
 v3 := Tryd.zeroValue3
 t4 := Tryd.underlying4
 a4 := Tryd.isAgg4
 z4 := Tryd.sizeOf4
 v4 := Tryd.zeroValue4
 t9 := Tryd.underlying9
 a9 := Tryd.isAgg9
 z9 := Tryd.sizeOf9
 v9 := Tryd.zeroValue9
 t24 := Tryd.underlying48
 a24 := Tryd.isAgg48
 z24 := Tryd.sizeOf48
 v24 := Tryd.zeroValue48 }
open Go.RowKit in
theorem Tryd.strings_CutPrefix (s p : ByteArray) (w : World) :
  Calls Tryd.prog 32 #[.string s, .string p] w fun e w' => e = .returned (.tuple #[.string ⟨(Lib.trimPrefix s.data.toList p.data.toList).toArray⟩, .bool (Lib.hasPrefix s.data.toList p.data.toList)]) ∧ w' = w := Any.strings_CutPrefix Tryd.lays103 s p w
def Tryd.lays215_ren : Go.Shelf.Ren := ⟨fun | 215 => 37 | n => n, fun | 3 => 3 | 4 => 4 | n => n, fun | n => n⟩
theorem Tryd.lays215 : Go.Proofs.Lays.n215 Tryd.prog Tryd.lays215_ren := {
 mixed := by kernel_rfl
 f215 := Tryd.func37.trans (congrArg some (by kernel_rfl))
 t3 := Tryd.underlying3
 a3 := Tryd.isAgg3
 z3 := Tryd.sizeOf3
 v3 := Tryd.zeroValue3
 t4 := Tryd.underlying4
 a4 := Tryd.isAgg4
 z4 := Tryd.sizeOf4
 v4 := Tryd.zeroValue4 }
open Go.RowKit in
theorem Tryd.cmp_isNaN_int (x : Int) (w : World) :
  Calls Tryd.prog 37 #[.int .i64 x] w fun e w' => e = .returned (.bool false) ∧ w' = w := Any.cmp_isNaN_int Tryd.lays215 x w
def Tryd.lays122_ren : Go.Shelf.Ren := ⟨fun | 122 => 31 | 215 => 37 | n => n, fun | 3 => 3 | 4 => 4 | n => n, fun | n => n⟩
theorem Tryd.lays122 : Go.Proofs.Lays.n122 Tryd.prog Tryd.lays122_ren := {
 mixed := by kernel_rfl
 f122 := Tryd.func31.trans (congrArg some (by kernel_rfl))
 f215 := Tryd.func37.trans (congrArg some (by kernel_rfl))
 t3 := Tryd.underlying3
 a3 := Tryd.isAgg3
 z3 := Tryd.sizeOf3
 v3 := Tryd.zeroValue3
 t4 := Tryd.underlying4
 a4 := Tryd.isAgg4
 z4 := Tryd.sizeOf4
 v4 := Tryd.zeroValue4 }
open Go.RowKit in
theorem Tryd.cmp_Compare_int (x y : Int) (w : World) :
  Calls Tryd.prog 31 #[.int .i64 x, .int .i64 y] w fun e w' => e = .returned (.int .i64 (Lib.compareInt x y)) ∧ w' = w := Any.cmp_Compare_int Tryd.lays122 x y w
open Go.RowKit in
theorem Tryd.Builder_Len_f (B b : Nat) (bs : List Value) (w : World) (h : Lib.IsBuilderF 66 5 B b bs w) :
  Calls Tryd.prog 44 #[.pointer (some ⟨b, 0, none⟩)] w fun e w' => e = .returned (.int .i64 bs.length) ∧ w' = w := Any.Builder_Len_f Tryd.lays170 B b bs w h
open Go.RowKit in
theorem Tryd.Builder_String_f (B b : Nat) (l : List UInt8) (w : World) (h : Lib.IsBuilderF 66 5 B b (Lib.byteCells l) w) (h0 : l ≠ []) :
  Calls Tryd.prog 45 #[.pointer (some ⟨b, 0, none⟩)] w fun e w' => e = .returned (.string ⟨l.toArray⟩) ∧ (Lib.IsBuilderF 66 5 B b (Lib.byteCells l) w' ∧ Below B w w') := Any.Builder_String_f Tryd.lays169 Tryd.Builder_Extra_169 B b l w h h0
open Go.RowKit in
theorem Tryd.Builder_String_empty_f (B b : Nat) (w : World) (h : Lib.IsBuilderF 66 5 B b [] w) (hBw : B ≤ w.heap.size) :
  Calls Tryd.prog 45 #[.pointer (some ⟨b, 0, none⟩)] w fun e w' => e = .returned (.string ⟨#[]⟩) ∧ (Lib.IsBuilderF 66 5 B b [] w' ∧ Below B w w') := Any.Builder_String_empty_f Tryd.lays169 Tryd.Builder_Extra_169 B b w h hBw
open Go.RowKit in
theorem Tryd.Builder_String_any_f (B b : Nat) (l : List UInt8) (w : World) (h : Lib.IsBuilderF 66 5 B b (Lib.byteCells l) w) (hBw : B ≤ w.heap.size) :
  Calls Tryd.prog 45 #[.pointer (some ⟨b, 0, none⟩)] w fun e w' => e = .returned (.string ⟨l.toArray⟩) ∧ (Lib.IsBuilderF 66 5 B b (Lib.byteCells l) w' ∧ Below B w w') := Any.Builder_String_any_f Tryd.lays169 Tryd.Builder_Extra_169 B b l w h hBw
open Go.RowKit in
theorem Tryd.Builder_String_k (B b : Nat) (l : List UInt8) (w : World) (h : Lib.IsBuilderF 66 5 B b (Lib.byteCells l) w) (h0 : l ≠ []) :
  Calls Tryd.prog 45 #[.pointer (some ⟨b, 0, none⟩)] w fun e w' => e = .returned (.string ⟨l.toArray⟩) ∧ (Lib.IsBuilderF 66 5 B b (Lib.byteCells l) w' ∧ Below B w w' ∧ Lib.OthersKept 5 (some b) w w') := Any.Builder_String_k Tryd.lays169 Tryd.Builder_Extra_169 B b l w h h0
open Go.RowKit in
theorem Tryd.Builder_String_empty_k (B b : Nat) (w : World) (h : Lib.IsBuilderF 66 5 B b [] w) (hBw : B ≤ w.heap.size) :
  Calls Tryd.prog 45 #[.pointer (some ⟨b, 0, none⟩)] w fun e w' => e = .returned (.string ⟨#[]⟩) ∧ (Lib.IsBuilderF 66 5 B b [] w' ∧ Below B w w' ∧ Lib.OthersKept 5 (some b) w w') := Any.Builder_String_empty_k Tryd.lays169 Tryd.Builder_Extra_169 B b w h hBw
open Go.RowKit in
theorem Tryd.Builder_String_any_k (B b : Nat) (l : List UInt8) (w : World) (h : Lib.IsBuilderF 66 5 B b (Lib.byteCells l) w) (hBw : B ≤ w.heap.size) :
  Calls Tryd.prog 45 #[.pointer (some ⟨b, 0, none⟩)] w fun e w' => e = .returned (.string ⟨l.toArray⟩) ∧ (Lib.IsBuilderF 66 5 B b (Lib.byteCells l) w' ∧ Below B w w' ∧ Lib.OthersKept 5 (some b) w w') := Any.Builder_String_any_k Tryd.lays169 Tryd.Builder_Extra_169 B b l w h hBw
open Go.RowKit in
theorem Tryd.Builder_grow_fresh_cap (B b n : Nat) (w : World) (hB : B ≤ b) (hbk : w.heap[b]? = some (.cells #[.pointer (some ⟨b, 0, none⟩), .slice none 0 0] 66 (0, 0))) (hBw : B ≤ w.heap.size) (hn : n ≤ 281474976710656) :
  Calls Tryd.prog 57 #[.pointer (some ⟨b, 0, none⟩), .int .i64 n] w fun e w' => e = .returned (.tuple #[]) ∧ (Lib.BuilderAt 66 5 B b (.pointer (some ⟨b, 0, none⟩)) [] w' ∧ Below B w w') ∧ ∃ p cap, w'.cell? ⟨b, 1, none⟩ = some (.slice p 0 cap) ∧ n ≤ cap := Any.Builder_grow_fresh_cap Tryd.lays241 Tryd.Builder_Extra_241 B b n w hB hbk hBw hn
open Go.RowKit in
theorem Tryd.Builder_Grow_fresh_cap (B b n : Nat) (w : World) (hB : B ≤ b) (hbk : w.heap[b]? = some (.cells #[.pointer none, .slice none 0 0] 66 (0, 0))) (hBw : B ≤ w.heap.size) (hn : n ≤ 281474976710656) :
  Calls Tryd.prog 42 #[.pointer (some ⟨b, 0, none⟩), .int .i64 n] w fun e w' => e = .returned (.tuple #[]) ∧ (Lib.BuilderAt 66 5 B b (.pointer (some ⟨b, 0, none⟩)) [] w' ∧ Below B w w') ∧ ∃ p cap, w'.cell? ⟨b, 1, none⟩ = some (.slice p 0 cap) ∧ n ≤ cap := Any.Builder_Grow_fresh_cap Tryd.lays165 Tryd.Builder_Extra_165 B b n w hB hbk hBw hn
def Tryd.lays129_ren : Go.Shelf.Ren := ⟨fun | 129 => 66 | n => n, fun | 53 => 78 | 3 => 3 | 4 => 4 | 46 => 59 | 5 => 5 | 9 => 9 | n => n, fun | n => n⟩
theorem Tryd.lays129 : Go.Proofs.Lays.n129 Tryd.prog Tryd.lays129_ren := {
 mixed := by kernel_rfl
 f129 := Tryd.func66.trans (congrArg some (by kernel_rfl))
 t3 := Tryd.underlying3
 a3 := Tryd.isAgg3
 z3 := Tryd.sizeOf3
 v3 := Tryd.zeroValue3
 t4 := Tryd.underlying4
 a4 := Tryd.isAgg4
 z4 := Tryd.sizeOf4
 v4 := Tryd.zeroValue4
 t5 := Tryd.underlying5
 a5 := Tryd.isAgg5
 z5 := Tryd.sizeOf5
 v5 := Tryd.zeroValue5
 t9 := Tryd.underlying9
 a9 := Tryd.isAgg9
 z9 := Tryd.sizeOf9
 v9 := Tryd.zeroValue9
 t46 := Tryd.underlying59
 a46 := Tryd.isAgg59
 z46 := Tryd.sizeOf59
 v46 := Tryd.zeroValue59
 t53 := Tryd.underlying78
 a53 := Tryd.isAgg78
 z53 := Tryd.sizeOf78
 v53 := Tryd.zeroValue78 }
theorem Tryd.bits_Len64 (x : Int) (w : World) (h0 : 0 ≤ x) (h1 : x ≤ 18446744073709551615) :
  Calls Tryd.prog 66 #[.int .u64 x] w fun e w' => e = .returned (.int .i64 (Lib.bitLen x.toNat)) ∧ w' = w := Any.bits_Len64 Tryd.lays129 x w h0 h1
def Tryd.lays317_ren : Go.Shelf.Ren := ⟨fun | 317 => 65 | n => n, fun | 3 => 3 | 46 => 59 | n => n, fun | n => n⟩
theorem Tryd.lays317 : Go.Proofs.Lays.n317 Tryd.prog Tryd.lays317_ren := {
 mixed := by kernel_rfl
 f317 := Tryd.func65.trans (congrArg some (by kernel_rfl))
 t3 := Tryd.underlying3
 a3 := Tryd.isAgg3
 z3 := Tryd.sizeOf3
 v3 := Tryd.zeroValue3
 t46 := Tryd.underlying59
 a46 := Tryd.isAgg59
 z46 := Tryd.sizeOf59
 v46 := Tryd.zeroValue59 }
open Go.Lib in
theorem Tryd.internal_strconv_log10Pow2 (x : Nat) (h : x ≤ 64) (w : World) :
  Calls Tryd.prog 65 #[.int .i64 x] w fun e w' => e = .returned (.int .i64 (Lib.l10 x)) ∧ w' = w := Any.internal_strconv_log10Pow2 Tryd.lays317 x h w
def Tryd.lays318_ren : Go.Shelf.Ren := ⟨fun | 318 => 67 | n => n, fun | 3 => 3 | 4 => 4 | n => n, fun | n => n⟩
theorem Tryd.lays318 : Go.Proofs.Lays.n318 Tryd.prog Tryd.lays318_ren := {
 mixed := by kernel_rfl
 f318 := Tryd.func67.trans (congrArg some (by kernel_rfl))
 t3 := Tryd.underlying3
 a3 := Tryd.isAgg3
 z3 := Tryd.sizeOf3
 v3 := Tryd.zeroValue3
 t4 := Tryd.underlying4
 a4 := Tryd.isAgg4
 z4 := Tryd.sizeOf4
 v4 := Tryd.zeroValue4 }
open Go.Lib in
theorem Tryd.internal_strconv_bool2_int (b : Bool) (w : World) :
  Calls Tryd.prog 67 #[.bool b] w fun e w' => e = .returned (.int .i64 (if b then 1 else 0)) ∧ w' = w := Any.internal_strconv_bool2_int Tryd.lays318 b w
def Tryd.lays283_ren : Go.Shelf.Ren := ⟨fun | 283 => 59 | n => n, fun | 3 => 3 | 9 => 9 | 4 => 4 | n => n, fun | n => n⟩
theorem Tryd.lays283 : Go.Proofs.Lays.n283 Tryd.prog Tryd.lays283_ren := {
 mixed := by kernel_rfl
 f283 := Tryd.func59.trans (congrArg some (by kernel_rfl))
 t3 := Tryd.underlying3
 a3 := Tryd.isAgg3
 z3 := Tryd.sizeOf3
 v3 := Tryd.zeroValue3
 t4 := Tryd.underlying4
 a4 := Tryd.isAgg4
 z4 := Tryd.sizeOf4
 v4 := Tryd.zeroValue4
 t9 := Tryd.underlying9
 a9 := Tryd.isAgg9
 z9 := Tryd.sizeOf9
 v9 := Tryd.zeroValue9 }
open Go.Lib in
theorem Tryd.internal_strconv_small (i : Nat) (h : i < 100) (w : World) :
  Calls Tryd.prog 59 #[.int .i64 i] w fun e w' => e = .returned (.string ⟨(Lib.decDigits i).toArray⟩) ∧ w' = w := Any.internal_strconv_small Tryd.lays283 i h w
def Tryd.laysM284_ren : Go.Shelf.Ren := ⟨fun | 284 => 60 | 129 => 66 | 317 => 65 | 318 => 67 | n => n, fun | 53 => 78 | 3 => 3 | 212 => 91 | 0 => 0 | 4 => 4 | 46 => 59 | 5 => 5 | 9 => 9 | n => n, fun | 17 => 0 | n => n⟩
theorem Tryd.laysM284 : Go.Proofs.LaysM.n284 Tryd.prog Tryd.laysM284_ren := {
 mixed := by kernel_rfl
 f129 := Tryd.func66.trans (congrArg some (by kernel_rfl))
 f284 := Tryd.func60.trans (congrArg some (by kernel_rfl))
 f317 := Tryd.func65.trans (congrArg some (by kernel_rfl))
 f318 := Tryd.func67.trans (congrArg some (by kernel_rfl))
 t0 := Tryd.underlying0
 a0 := Tryd.isAgg0
 z0 := Tryd.sizeOf0
 v0 := Tryd.zeroValue0
 t3 := Tryd.underlying3
 a3 := Tryd.isAgg3
 z3 := Tryd.sizeOf3
 v3 := Tryd.zeroValue3
 t4 := Tryd.underlying4
 a4 := Tryd.isAgg4
 z4 := Tryd.sizeOf4
 v4 := Tryd.zeroValue4
 t5 := Tryd.underlying5
 a5 := Tryd.isAgg5
 z5 := Tryd.sizeOf5
 v5 := Tryd.zeroValue5
 t9 := Tryd.underlying9
 a9 := Tryd.isAgg9
 z9 := Tryd.sizeOf9
 v9 := Tryd.zeroValue9
 t46 := Tryd.underlying59
 a46 := Tryd.isAgg59
 z46 := Tryd.sizeOf59
 v46 := Tryd.zeroValue59
 t53 := Tryd.underlying78
 a53 := Tryd.isAgg78
 z53 := Tryd.sizeOf78
 v53 := Tryd.zeroValue78
 t212 := Tryd.underlying91
 a212 := Tryd.isAgg91
 z212 := Tryd.sizeOf91
 v212 := Tryd.zeroValue91
 g17 := by kernel_rfl
 i0 := by kernel_rfl
 i3 := by kernel_rfl
 i4 := by kernel_rfl
 i5 := by kernel_rfl
 i9 := by kernel_rfl
 i46 := by kernel_rfl
 i53 := by kernel_rfl
 i212 := by kernel_rfl
 m17 := by kernel_rfl }
open Go.Lib in
theorem Tryd.internal_strconv_numDigits (u : Nat) (h1 : 1 ≤ u) (h2 : u < 18446744073709551616) (w : World) (htab : Lib.TabIs Tryd.prog w "internal/strconv.uint64pow10" .u64 Lib.pow10Tab) :
  Calls Tryd.prog 60 #[.int .u64 u] w fun e w' => e = .returned (.int .i64 (Lib.nDigits u)) ∧ w' = w := Any.internal_strconv_numDigits Tryd.laysM284 u h1 h2 w htab
def Tryd.lays285_ren : Go.Shelf.Ren := ⟨fun | 285 => 61 | n => n, fun | 37 => 64 | 53 => 78 | 3 => 3 | 4 => 4 | 51 => 75 | 9 => 9 | 5 => 5 | 0 => 0 | n => n, fun | n => n⟩
theorem Tryd.lays285 : Go.Proofs.Lays.n285 Tryd.prog Tryd.lays285_ren := {
 mixed := by kernel_rfl
 f285 := Tryd.func61.trans (congrArg some (by kernel_rfl))
 t0 := Tryd.underlying0
 a0 := Tryd.isAgg0
 z0 := Tryd.sizeOf0
 v0 := Tryd.zeroValue0
 t3 := Tryd.underlying3
 a3 := Tryd.isAgg3
 z3 := Tryd.sizeOf3
 v3 := Tryd.zeroValue3
 t4 := Tryd.underlying4
 a4 := Tryd.isAgg4
 z4 := Tryd.sizeOf4
 v4 := Tryd.zeroValue4
 t5 := Tryd.underlying5
 a5 := Tryd.isAgg5
 z5 := Tryd.sizeOf5
 v5 := Tryd.zeroValue5
 t9 := Tryd.underlying9
 a9 := Tryd.isAgg9
 z9 := Tryd.sizeOf9
 v9 := Tryd.zeroValue9
 t37 := Tryd.underlying64
 a37 := Tryd.isAgg64
 z37 := Tryd.sizeOf64
 v37 := Tryd.zeroValue64
 t51 := Tryd.underlying75
 a51 := Tryd.isAgg75
 z51 := Tryd.sizeOf75
 v51 := Tryd.zeroValue75
 t53 := Tryd.underlying78
 a53 := Tryd.isAgg78
 z53 := Tryd.sizeOf78
 v53 := Tryd.zeroValue78 }
open Go.RowKit Go.Sort Go.Lib in
theorem Tryd.internal_strconv_formatBase10 (blk off cap : Nat) (u : Nat) (d : Array UInt8) (w : World) (hH : Holds (fun (b : UInt8) => Value.int .u8 (b.toNat : Int)) w blk off d) (hu : u < 10 ^ d.size) (hu64 : u < 18446744073709551616) (hsz : d.size < 4611686018427387904) :
  Calls Tryd.prog 61 #[.slice (some ⟨blk, off, none⟩) d.size cap, .int .u64 u] w fun e w' =>
   e = .returned (.tuple #[]) ∧ ∃ (n v' : Nat) (dk : Array UInt8), w' = (putRow (fun (b : UInt8) => Value.int .u8 (b.toNat : Int)) w blk off dk).drewN n ∧ FmtInv d.size u 0 v' dk := Any.internal_strconv_formatBase10 Tryd.lays285 blk off cap u d w hH hu hu64 hsz
def Tryd.laysM246_ren : Go.Shelf.Ren := ⟨fun | 246 => 53 | 283 => 59 | 284 => 60 | 285 => 61 | 286 => 62 | 129 => 66 | 317 => 65 | 318 => 67 | 319 => 68 | 320 => 69 | 337 => 70 | 338 => 71 | n => n, fun | 2 => 2 | 3 => 3 | 9 => 9 | 4 => 4 | 171 => 82 | 0 => 0 | 53 => 78 | 37 => 64 | 5 => 5 | 173 => 85 | 212 => 91 | 51 => 75 | 20 => 20 | 213 => 92 | 46 => 59 | 232 => 95 | 233 => 96 | n => n, fun | 17 => 0 | 18 => 2 | 19 => 3 | n => n⟩
theorem Tryd.laysM246 : Go.Proofs.LaysM.n246 Tryd.prog Tryd.laysM246_ren := {
 mixed := by kernel_rfl
 f129 := Tryd.func66.trans (congrArg some (by kernel_rfl))
 f246 := Tryd.func53.trans (congrArg some (by kernel_rfl))
 f283 := Tryd.func59.trans (congrArg some (by kernel_rfl))
 f284 := Tryd.func60.trans (congrArg some (by kernel_rfl))
 f285 := Tryd.func61.trans (congrArg some (by kernel_rfl))
 f286 := Tryd.func62.trans (congrArg some (by kernel_rfl))
 f317 := Tryd.func65.trans (congrArg some (by kernel_rfl))
 f318 := Tryd.func67.trans (congrArg some (by kernel_rfl))
 f319 := Tryd.func68.trans (congrArg some (by kernel_rfl))
 f320 := Tryd.func69.trans (congrArg some (by kernel_rfl))
 f337 := Tryd.func70.trans (congrArg some (by kernel_rfl))
 f338 := Tryd.func71.trans (congrArg some (by kernel_rfl))
 t0 := Tryd.underlying0
 a0 := Tryd.isAgg0
 z0 := Tryd.sizeOf0
 v0 := Tryd.zeroValue0
 t2 := Tryd.underlying2
 a2 := Tryd.isAgg2
 z2 := Tryd.sizeOf2
 v2 := Tryd.zeroValue2
 t3 := Tryd.underlying3
 a3 := Tryd.isAgg3
 z3 := Tryd.sizeOf3
 v3 := Tryd.zeroValue3
 t4 := Tryd.underlying4
 a4 := Tryd.isAgg4
 z4 := Tryd.sizeOf4
 v4 := Tryd.zeroValue4
 t5 := Tryd.underlying5
 a5 := Tryd.isAgg5
 z5 := Tryd.sizeOf5
 v5 := Tryd.zeroValue5
 t9 := Tryd.underlying9
 a9 := Tryd.isAgg9
 z9 := Tryd.sizeOf9
 v9 := Tryd.zeroValue9
 t20 := Tryd.underlying20
 a20 := Tryd.isAgg20
 z20 := Tryd.sizeOf20
 v20 := Tryd.zeroValue20
 t37 := Tryd.underlying64
 a37 := Tryd.isAgg64
 z37 := Tryd.sizeOf64
 v37 := Tryd.zeroValue64
 t46 := Tryd.underlying59
 a46 := Tryd.isAgg59
 z46 := Tryd.sizeOf59
 v46 := Tryd.zeroValue59
 t51 := Tryd.underlying75
 a51 := Tryd.isAgg75
 z51 := Tryd.sizeOf75
 v51 := Tryd.zeroValue75
 t53 := Tryd.underlying78
 a53 := Tryd.isAgg78
 z53 := Tryd.sizeOf78
 v53 := Tryd.zeroValue78
 t171 := Tryd.underlying82
 a171 := Tryd.isAgg82
 z171 := Tryd.sizeOf82
 v171 := Tryd.zeroValue82
 t173 := Tryd.underlying85
 a173 := Tryd.isAgg85
 z173 := Tryd.sizeOf85
 v173 := Tryd.zeroValue85
 t212 := Tryd.underlying91
 a212 := Tryd.isAgg91
 z212 := Tryd.sizeOf91
 v212 := Tryd.zeroValue91
 t213 := Tryd.underlying92
 a213 := Tryd.isAgg92
 z213 := Tryd.sizeOf92
 t232 := Tryd.underlying95
 a232 := Tryd.isAgg95
 z232 := Tryd.sizeOf95
 v232 := Tryd.zeroValue95
 t233 := Tryd.underlying96
 a233 := Tryd.isAgg96
 z233 := Tryd.sizeOf96
 v233 := Tryd.zeroValue96
 g17 := by kernel_rfl
 g18 := by kernel_rfl
 g19 := by kernel_rfl
 i0 := by kernel_rfl
 i2 := by kernel_rfl
 i3 := by kernel_rfl
 i4 := by kernel_rfl
 i5 := by kernel_rfl
 i9 := by kernel_rfl
 i20 := by kernel_rfl
 i37 := by kernel_rfl
 i46 := by kernel_rfl
 i51 := by kernel_rfl
 i53 := by kernel_rfl
 i171 := by kernel_rfl
 i173 := by kernel_rfl
 i212 := by kernel_rfl
 i232 := by kernel_rfl
 i233 := by kernel_rfl
 m17 := by kernel_rfl
 m18 := by kernel_rfl
 m19 := by kernel_rfl }
open Go.RowKit Go.Sort Go.Lib in
theorem Tryd.internal_strconv_FormatInt_10 (n : Int) (h0 : -9223372036854775808 ≤ n) (h1 : n ≤ 9223372036854775807) (w : World) (htab : Lib.TabIs Tryd.prog w "internal/strconv.uint64pow10" .u64 Lib.pow10Tab) :
  Calls Tryd.prog 53 #[.int .i64 n, .int .i64 10] w fun e w' => e = .returned (.string ⟨(Lib.itoa n).toArray⟩) ∧ ∃ k os, w' = grow (w.drewN k) os := Any.internal_strconv_FormatInt_10 Tryd.laysM246 n h0 h1 w htab
def Tryd.lays246_ren : Go.Shelf.Ren := ⟨fun | 246 => 53 | 283 => 59 | 284 => 60 | 285 => 61 | 286 => 62 | 129 => 66 | 317 => 65 | 318 => 67 | 319 => 68 | 320 => 69 | 337 => 70 | 338 => 71 | n => n, fun | 2 => 2 | 3 => 3 | 9 => 9 | 4 => 4 | 171 => 82 | 0 => 0 | 53 => 78 | 37 => 64 | 5 => 5 | 173 => 85 | 212 => 91 | 51 => 75 | 20 => 20 | 213 => 92 | 46 => 59 | 232 => 95 | 233 => 96 | n => n, fun | 17 => 0 | 18 => 2 | 19 => 3 | n => n⟩
theorem Tryd.lays246 : Go.Proofs.Lays.n246 Tryd.prog Tryd.lays246_ren := {
 mixed := by kernel_rfl
 f129 := Tryd.func66.trans (congrArg some (by kernel_rfl))
 f246 := Tryd.func53.trans (congrArg some (by kernel_rfl))
 f283 := Tryd.func59.trans (congrArg some (by kernel_rfl))
 f284 := Tryd.func60.trans (congrArg some (by kernel_rfl))
 f285 := Tryd.func61.trans (congrArg some (by kernel_rfl))
 f286 := Tryd.func62.trans (congrArg some (by kernel_rfl))
 f317 := Tryd.func65.trans (congrArg some (by kernel_rfl))
 f318 := Tryd.func67.trans (congrArg some (by kernel_rfl))
 f319 := Tryd.func68.trans (congrArg some (by kernel_rfl))
 f320 := Tryd.func69.trans (congrArg some (by kernel_rfl))
 f337 := Tryd.func70.trans (congrArg some (by kernel_rfl))
 f338 := Tryd.func71.trans (congrArg some (by kernel_rfl))
 t0 := Tryd.underlying0
 a0 := Tryd.isAgg0
 z0 := Tryd.sizeOf0
 v0 := Tryd.zeroValue0
 t2 := Tryd.underlying2
 a2 := Tryd.isAgg2
 z2 := Tryd.sizeOf2
 v2 := Tryd.zeroValue2
 t3 := Tryd.underlying3
 a3 := Tryd.isAgg3
 z3 := Tryd.sizeOf3
 v3 := Tryd.zeroValue3
 t4 := Tryd.underlying4
 a4 := Tryd.isAgg4
 z4 := Tryd.sizeOf4
 v4 := Tryd.zeroValue4
 t5 := Tryd.underlying5
 a5 := Tryd.isAgg5
 z5 := Tryd.sizeOf5
 v5 := Tryd.zeroValue5
 t9 := Tryd.underlying9
 a9 := Tryd.isAgg9
 z9 := Tryd.sizeOf9
 v9 := Tryd.zeroValue9
 t20 := Tryd.underlying20
 a20 := Tryd.isAgg20
 z20 := Tryd.sizeOf20
 v20 := Tryd.zeroValue20
 t37 := Tryd.underlying64
 a37 := Tryd.isAgg64
 z37 := Tryd.sizeOf64
 v37 := Tryd.zeroValue64
 t46 := Tryd.underlying59
 a46 := Tryd.isAgg59
 z46 := Tryd.sizeOf59
 v46 := Tryd.zeroValue59
 t51 := Tryd.underlying75
 a51 := Tryd.isAgg75
 z51 := Tryd.sizeOf75
 v51 := Tryd.zeroValue75
 t53 := Tryd.underlying78
 a53 := Tryd.isAgg78
 z53 := Tryd.sizeOf78
 v53 := Tryd.zeroValue78
 t171 := Tryd.underlying82
 a171 := Tryd.isAgg82
 z171 := Tryd.sizeOf82
 v171 := Tryd.zeroValue82
 t173 := Tryd.underlying85
 a173 := Tryd.isAgg85
 z173 := Tryd.sizeOf85
 v173 := Tryd.zeroValue85
 t212 := Tryd.underlying91
 a212 := Tryd.isAgg91
 z212 := Tryd.sizeOf91
 v212 := Tryd.zeroValue91
 t213 := Tryd.underlying92
 a213 := Tryd.isAgg92
 z213 := Tryd.sizeOf92
 t232 := Tryd.underlying95
 a232 := Tryd.isAgg95
 z232 := Tryd.sizeOf95
 v232 := Tryd.zeroValue95
 t233 := Tryd.underlying96
 a233 := Tryd.isAgg96
 z233 := Tryd.sizeOf96
 v233 := Tryd.zeroValue96
 g17 := by kernel_rfl
 g18 := by kernel_rfl
 g19 := by kernel_rfl }
open Go.RowKit Go.Sort Go.Lib in
theorem Tryd.internal_strconv_FormatInt_10_small (i : Nat) (hi : i < 100) (w : World) :
  Calls Tryd.prog 53 #[.int .i64 i, .int .i64 10] w fun e w' => e = .returned (.string ⟨(Lib.decDigits i).toArray⟩) ∧ w' = w := Any.internal_strconv_FormatInt_10_small Tryd.lays246 i hi w
def Tryd.laysM243_ren : Go.Shelf.Ren := ⟨fun | 243 => 39 | 246 => 53 | 283 => 59 | 284 => 60 | 285 => 61 | 286 => 62 | 129 => 66 | 317 => 65 | 318 => 67 | 319 => 68 | 320 => 69 | 337 => 70 | 338 => 71 | n => n, fun | 3 => 3 | 9 => 9 | 2 => 2 | 4 => 4 | 171 => 82 | 0 => 0 | 53 => 78 | 37 => 64 | 5 => 5 | 173 => 85 | 212 => 91 | 51 => 75 | 20 => 20 | 213 => 92 | 46 => 59 | 232 => 95 | 233 => 96 | n => n, fun | 17 => 0 | 18 => 2 | 19 => 3 | n => n⟩
theorem Tryd.laysM243 : Go.Proofs.LaysM.n243 Tryd.prog Tryd.laysM243_ren := {
 mixed := by kernel_rfl
 f129 := Tryd.func66.trans (congrArg some (by kernel_rfl))
 f243 := Tryd.func39.trans (congrArg some (by kernel_rfl))
 f246 := Tryd.func53.trans (congrArg some (by kernel_rfl))
 f283 := Tryd.func59.trans (congrArg some (by kernel_rfl))
 f284 := Tryd.func60.trans (congrArg some (by kernel_rfl))
 f285 := Tryd.func61.trans (congrArg some (by kernel_rfl))
 f286 := Tryd.func62.trans (congrArg some (by kernel_rfl))
 f317 := Tryd.func65.trans (congrArg some (by kernel_rfl))
 f318 := Tryd.func67.trans (congrArg some (by kernel_rfl))
 f319 := Tryd.func68.trans (congrArg some (by kernel_rfl))
 f320 := Tryd.func69.trans (congrArg some (by kernel_rfl))
 f337 := Tryd.func70.trans (congrArg some (by kernel_rfl))
 f338 := Tryd.func71.trans (congrArg some (by kernel_rfl))
 t0 := Tryd.underlying0
 a0 := Tryd.isAgg0
 z0 := Tryd.sizeOf0
 v0 := Tryd.zeroValue0
 t2 := Tryd.underlying2
 a2 := Tryd.isAgg2
 z2 := Tryd.sizeOf2
 v2 := Tryd.zeroValue2
 t3 := Tryd.underlying3
 a3 := Tryd.isAgg3
 z3 := Tryd.sizeOf3
 v3 := Tryd.zeroValue3
 t4 := Tryd.underlying4
 a4 := Tryd.isAgg4
 z4 := Tryd.sizeOf4
 v4 := Tryd.zeroValue4
 t5 := Tryd.underlying5
 a5 := Tryd.isAgg5
 z5 := Tryd.sizeOf5
 v5 := Tryd.zeroValue5
 t9 := Tryd.underlying9
 a9 := Tryd.isAgg9
 z9 := Tryd.sizeOf9
 v9 := Tryd.zeroValue9
 t20 := Tryd.underlying20
 a20 := Tryd.isAgg20
 z20 := Tryd.sizeOf20
 v20 := Tryd.zeroValue20
 t37 := Tryd.underlying64
 a37 := Tryd.isAgg64
 z37 := Tryd.sizeOf64
 v37 := Tryd.zeroValue64
 t46 := Tryd.underlying59
 a46 := Tryd.isAgg59
 z46 := Tryd.sizeOf59
 v46 := Tryd.zeroValue59
 t51 := Tryd.underlying75
 a51 := Tryd.isAgg75
 z51 := Tryd.sizeOf75
 v51 := Tryd.zeroValue75
 t53 := Tryd.underlying78
 a53 := Tryd.isAgg78
 z53 := Tryd.sizeOf78
 v53 := Tryd.zeroValue78
 t171 := Tryd.underlying82
 a171 := Tryd.isAgg82
 z171 := Tryd.sizeOf82
 v171 := Tryd.zeroValue82
 t173 := Tryd.underlying85
 a173 := Tryd.isAgg85
 z173 := Tryd.sizeOf85
 v173 := Tryd.zeroValue85
 t212 := Tryd.underlying91
 a212 := Tryd.isAgg91
 z212 := Tryd.sizeOf91
 v212 := Tryd.zeroValue91
 t213 := Tryd.underlying92
 a213 := Tryd.isAgg92
 z213 := Tryd.sizeOf92
 t232 := Tryd.underlying95
 a232 := Tryd.isAgg95
 z232 := Tryd.sizeOf95
 v232 := Tryd.zeroValue95
 t233 := Tryd.underlying96
 a233 := Tryd.isAgg96
 z233 := Tryd.sizeOf96
 v233 := Tryd.zeroValue96
 g17 := by kernel_rfl
 g18 := by kernel_rfl
 g19 := by kernel_rfl
 i0 := by kernel_rfl
 i2 := by kernel_rfl
 i3 := by kernel_rfl
 i4 := by kernel_rfl
 i5 := by kernel_rfl
 i9 := by kernel_rfl
 i20 := by kernel_rfl
 i37 := by kernel_rfl
 i46 := by kernel_rfl
 i51 := by kernel_rfl
 i53 := by kernel_rfl
 i171 := by kernel_rfl
 i173 := by kernel_rfl
 i212 := by kernel_rfl
 i232 := by kernel_rfl
 i233 := by kernel_rfl
 m17 := by kernel_rfl
 m18 := by kernel_rfl
 m19 := by kernel_rfl }
open Go.RowKit Go.Sort Go.Lib in
theorem Tryd.internal_strconv_Itoa (n : Int) (h0 : -9223372036854775808 ≤ n) (h1 : n ≤ 9223372036854775807) (w : World) (htab : Lib.TabIs Tryd.prog w "internal/strconv.uint64pow10" .u64 Lib.pow10Tab) :
  Calls Tryd.prog 39 #[.int .i64 n] w fun e w' => e = .returned (.string ⟨(Lib.itoa n).toArray⟩) ∧ ∃ k os, w' = grow (w.drewN k) os := Any.internal_strconv_Itoa Tryd.laysM243 n h0 h1 w htab
def Tryd.lays243_ren : Go.Shelf.Ren := ⟨fun | 243 => 39 | 246 => 53 | 283 => 59 | 284 => 60 | 285 => 61 | 286 => 62 | 129 => 66 | 317 => 65 | 318 => 67 | 319 => 68 | 320 => 69 | 337 => 70 | 338 => 71 | n => n, fun | 3 => 3 | 9 => 9 | 2 => 2 | 4 => 4 | 171 => 82 | 0 => 0 | 53 => 78 | 37 => 64 | 5 => 5 | 173 => 85 | 212 => 91 | 51 => 75 | 20 => 20 | 213 => 92 | 46 => 59 | 232 => 95 | 233 => 96 | n => n, fun | 17 => 0 | 18 => 2 | 19 => 3 | n => n⟩
theorem Tryd.lays243 : Go.Proofs.Lays.n243 Tryd.prog Tryd.lays243_ren := {
 mixed := by kernel_rfl
 f129 := Tryd.func66.trans (congrArg some (by kernel_rfl))
 f243 := Tryd.func39.trans (congrArg some (by kernel_rfl))
 f246 := Tryd.func53.trans (congrArg some (by kernel_rfl))
 f283 := Tryd.func59.trans (congrArg some (by kernel_rfl))
 f284 := Tryd.func60.trans (congrArg some (by kernel_rfl))
 f285 := Tryd.func61.trans (congrArg some (by kernel_rfl))
 f286 := Tryd.func62.trans (congrArg some (by kernel_rfl))
 f317 := Tryd.func65.trans (congrArg some (by kernel_rfl))
 f318 := Tryd.func67.trans (congrArg some (by kernel_rfl))
 f319 := Tryd.func68.trans (congrArg some (by kernel_rfl))
 f320 := Tryd.func69.trans (congrArg some (by kernel_rfl))
 f337 := Tryd.func70.trans (congrArg some (by kernel_rfl))
 f338 := Tryd.func71.trans (congrArg some (by kernel_rfl))
 t0 := Tryd.underlying0
 a0 := Tryd.isAgg0
 z0 := Tryd.sizeOf0
 v0 := Tryd.zeroValue0
 t2 := Tryd.underlying2
 a2 := Tryd.isAgg2
 z2 := Tryd.sizeOf2
 v2 := Tryd.zeroValue2
 t3 := Tryd.underlying3
 a3 := Tryd.isAgg3
 z3 := Tryd.sizeOf3
 v3 := Tryd.zeroValue3
 t4 := Tryd.underlying4
 a4 := Tryd.isAgg4
 z4 := Tryd.sizeOf4
 v4 := Tryd.zeroValue4
 t5 := Tryd.underlying5
 a5 := Tryd.isAgg5
 z5 := Tryd.sizeOf5
 v5 := Tryd.zeroValue5
 t9 := Tryd.underlying9
 a9 := Tryd.isAgg9
 z9 := Tryd.sizeOf9
 v9 := Tryd.zeroValue9
 t20 := Tryd.underlying20
 a20 := Tryd.isAgg20
 z20 := Tryd.sizeOf20
 v20 := Tryd.zeroValue20
 t37 := Tryd.underlying64
 a37 := Tryd.isAgg64
 z37 := Tryd.sizeOf64
 v37 := Tryd.zeroValue64
 t46 := Tryd.underlying59
 a46 := Tryd.isAgg59
 z46 := Tryd.sizeOf59
 v46 := Tryd.zeroValue59
 t51 := Tryd.underlying75
 a51 := Tryd.isAgg75
 z51 := Tryd.sizeOf75
 v51 := Tryd.zeroValue75
 t53 := Tryd.underlying78
 a53 := Tryd.isAgg78
 z53 := Tryd.sizeOf78
 v53 := Tryd.zeroValue78
 t171 := Tryd.underlying82
 a171 := Tryd.isAgg82
 z171 := Tryd.sizeOf82
 v171 := Tryd.zeroValue82
 t173 := Tryd.underlying85
 a173 := Tryd.isAgg85
 z173 := Tryd.sizeOf85
 v173 := Tryd.zeroValue85
 t212 := Tryd.underlying91
 a212 := Tryd.isAgg91
 z212 := Tryd.sizeOf91
 v212 := Tryd.zeroValue91
 t213 := Tryd.underlying92
 a213 := Tryd.isAgg92
 z213 := Tryd.sizeOf92
 t232 := Tryd.underlying95
 a232 := Tryd.isAgg95
 z232 := Tryd.sizeOf95
 v232 := Tryd.zeroValue95
 t233 := Tryd.underlying96
 a233 := Tryd.isAgg96
 z233 := Tryd.sizeOf96
 v233 := Tryd.zeroValue96
 g17 := by kernel_rfl
 g18 := by kernel_rfl
 g19 := by kernel_rfl }
open Go.RowKit Go.Sort Go.Lib in
theorem Tryd.internal_strconv_Itoa_small (i : Nat) (hi : i < 100) (w : World) :
  Calls Tryd.prog 39 #[.int .i64 i] w fun e w' => e = .returned (.string ⟨(Lib.decDigits i).toArray⟩) ∧ w' = w := Any.internal_strconv_Itoa_small Tryd.lays243 i hi w
def Tryd.laysM171_ren : Go.Shelf.Ren := ⟨fun | 171 => 33 | 243 => 39 | 246 => 53 | 283 => 59 | 284 => 60 | 285 => 61 | 286 => 62 | 129 => 66 | 317 => 65 | 318 => 67 | 319 => 68 | 320 => 69 | 337 => 70 | 338 => 71 | n => n, fun | 3 => 3 | 9 => 9 | 2 => 2 | 4 => 4 | 171 => 82 | 0 => 0 | 53 => 78 | 37 => 64 | 5 => 5 | 173 => 85 | 212 => 91 | 51 => 75 | 20 => 20 | 213 => 92 | 46 => 59 | 232 => 95 | 233 => 96 | n => n, fun | 17 => 0 | 18 => 2 | 19 => 3 | n => n⟩
theorem Tryd.laysM171 : Go.Proofs.LaysM.n171 Tryd.prog Tryd.laysM171_ren := {
 mixed := by kernel_rfl
 f129 := Tryd.func66.trans (congrArg some (by kernel_rfl))
 f171 := Tryd.func33.trans (congrArg some (by kernel_rfl))
 f243 := Tryd.func39.trans (congrArg some (by kernel_rfl))
 f246 := Tryd.func53.trans (congrArg some (by kernel_rfl))
 f283 := Tryd.func59.trans (congrArg some (by kernel_rfl))
 f284 := Tryd.func60.trans (congrArg some (by kernel_rfl))
 f285 := Tryd.func61.trans (congrArg some (by kernel_rfl))
 f286 := Tryd.func62.trans (congrArg some (by kernel_rfl))
 f317 := Tryd.func65.trans (congrArg some (by kernel_rfl))
 f318 := Tryd.func67.trans (congrArg some (by kernel_rfl))
 f319 := Tryd.func68.trans (congrArg some (by kernel_rfl))
 f320 := Tryd.func69.trans (congrArg some (by kernel_rfl))
 f337 := Tryd.func70.trans (congrArg some (by kernel_rfl))
 f338 := Tryd.func71.trans (congrArg some (by kernel_rfl))
 t0 := Tryd.underlying0
 a0 := Tryd.isAgg0
 z0 := Tryd.sizeOf0
 v0 := Tryd.zeroValue0
 t2 := Tryd.underlying2
 a2 := Tryd.isAgg2
 z2 := Tryd.sizeOf2
 v2 := Tryd.zeroValue2
 t3 := Tryd.underlying3
 a3 := Tryd.isAgg3
 z3 := Tryd.sizeOf3
 v3 := Tryd.zeroValue3
 t4 := Tryd.underlying4
 a4 := Tryd.isAgg4
 z4 := Tryd.sizeOf4
 v4 := Tryd.zeroValue4
 t5 := Tryd.underlying5
 a5 := Tryd.isAgg5
 z5 := Tryd.sizeOf5
 v5 := Tryd.zeroValue5
 t9 := Tryd.underlying9
 a9 := Tryd.isAgg9
 z9 := Tryd.sizeOf9
 v9 := Tryd.zeroValue9
 t20 := Tryd.underlying20
 a20 := Tryd.isAgg20
 z20 := Tryd.sizeOf20
 v20 := Tryd.zeroValue20
 t37 := Tryd.underlying64
 a37 := Tryd.isAgg64
 z37 := Tryd.sizeOf64
 v37 := Tryd.zeroValue64
 t46 := Tryd.underlying59
 a46 := Tryd.isAgg59
 z46 := Tryd.sizeOf59
 v46 := Tryd.zeroValue59
 t51 := Tryd.underlying75
 a51 := Tryd.isAgg75
 z51 := Tryd.sizeOf75
 v51 := Tryd.zeroValue75
 t53 := Tryd.underlying78
 a53 := Tryd.isAgg78
 z53 := Tryd.sizeOf78
 v53 := Tryd.zeroValue78
 t171 := Tryd.underlying82
 a171 := Tryd.isAgg82
 z171 := Tryd.sizeOf82
 v171 := Tryd.zeroValue82
 t173 := Tryd.underlying85
 a173 := Tryd.isAgg85
 z173 := Tryd.sizeOf85
 v173 := Tryd.zeroValue85
 t212 := Tryd.underlying91
 a212 := Tryd.isAgg91
 z212 := Tryd.sizeOf91
 v212 := Tryd.zeroValue91
 t213 := Tryd.underlying92
 a213 := Tryd.isAgg92
 z213 := Tryd.sizeOf92
 t232 := Tryd.underlying95
 a232 := Tryd.isAgg95
 z232 := Tryd.sizeOf95
 v232 := Tryd.zeroValue95
 t233 := Tryd.underlying96
 a233 := Tryd.isAgg96
 z233 := Tryd.sizeOf96
 v233 := Tryd.zeroValue96
 g17 := by kernel_rfl
 g18 := by kernel_rfl
 g19 := by kernel_rfl
 i0 := by kernel_rfl
 i2 := by kernel_rfl
 i3 := by kernel_rfl
 i4 := by kernel_rfl
 i5 := by kernel_rfl
 i9 := by kernel_rfl
 i20 := by kernel_rfl
 i37 := by kernel_rfl
 i46 := by kernel_rfl
 i51 := by kernel_rfl
 i53 := by kernel_rfl
 i171 := by kernel_rfl
 i173 := by kernel_rfl
 i212 := by kernel_rfl
 i232 := by kernel_rfl
 i233 := by kernel_rfl
 m17 := by kernel_rfl
 m18 := by kernel_rfl
 m19 := by kernel_rfl }
open Go.RowKit Go.Sort Go.Lib in
theorem Tryd.strconv_Itoa (n : Int) (h0 : -9223372036854775808 ≤ n) (h1 : n ≤ 9223372036854775807) (w : World) (htab : Lib.TabIs Tryd.prog w "internal/strconv.uint64pow10" .u64 Lib.pow10Tab) :
  Calls Tryd.prog 33 #[.int .i64 n] w fun e w' => e = .returned (.string ⟨(Lib.itoa n).toArray⟩) ∧ ∃ k os, w' = grow (w.drewN k) os := Any.strconv_Itoa Tryd.laysM171 n h0 h1 w htab
def Tryd.lays171_ren : Go.Shelf.Ren := ⟨fun | 171 => 33 | 243 => 39 | 246 => 53 | 283 => 59 | 284 => 60 | 285 => 61 | 286 => 62 | 129 => 66 | 317 => 65 | 318 => 67 | 319 => 68 | 320 => 69 | 337 => 70 | 338 => 71 | n => n, fun | 3 => 3 | 9 => 9 | 2 => 2 | 4 => 4 | 171 => 82 | 0 => 0 | 53 => 78 | 37 => 64 | 5 => 5 | 173 => 85 | 212 => 91 | 51 => 75 | 20 => 20 | 213 => 92 | 46 => 59 | 232 => 95 | 233 => 96 | n => n, fun | 17 => 0 | 18 => 2 | 19 => 3 | n => n⟩
theorem Tryd.lays171 : Go.Proofs.Lays.n171 Tryd.prog Tryd.lays171_ren := {
 mixed := by kernel_rfl
 f129 := Tryd.func66.trans (congrArg some (by kernel_rfl))
 f171 := Tryd.func33.trans (congrArg some (by kernel_rfl))
 f243 := Tryd.func39.trans (congrArg some (by kernel_rfl))
 f246 := Tryd.func53.trans (congrArg some (by kernel_rfl))
 f283 := Tryd.func59.trans (congrArg some (by kernel_rfl))
 f284 := Tryd.func60.trans (congrArg some (by kernel_rfl))
 f285 := Tryd.func61.trans (congrArg some (by kernel_rfl))
 f286 := Tryd.func62.trans (congrArg some (by kernel_rfl))
 f317 := Tryd.func65.trans (congrArg some (by kernel_rfl))
 f318 := Tryd.func67.trans (congrArg some (by kernel_rfl))
 f319 := Tryd.func68.trans (congrArg some (by kernel_rfl))
 f320 := Tryd.func69.trans (congrArg some (by kernel_rfl))
 f337 := Tryd.func70.trans (congrArg some (by kernel_rfl))
 f338 := Tryd.func71.trans (congrArg some (by kernel_rfl))
 t0 := Tryd.underlying0
 a0 := Tryd.isAgg0
 z0 := Tryd.sizeOf0
 v0 := Tryd.zeroValue0
 t2 := Tryd.underlying2
 a2 := Tryd.isAgg2
 z2 := Tryd.sizeOf2
 v2 := Tryd.zeroValue2
 t3 := Tryd.underlying3
 a3 := Tryd.isAgg3
 z3 := Tryd.sizeOf3
 v3 := Tryd.zeroValue3
 t4 := Tryd.underlying4
 a4 := Tryd.isAgg4
 z4 := Tryd.sizeOf4
 v4 := Tryd.zeroValue4
 t5 := Tryd.underlying5
 a5 := Tryd.isAgg5
 z5 := Tryd.sizeOf5
 v5 := Tryd.zeroValue5
 t9 := Tryd.underlying9
 a9 := Tryd.isAgg9
 z9 := Tryd.sizeOf9
 v9 := Tryd.zeroValue9
 t20 := Tryd.underlying20
 a20 := Tryd.isAgg20
 z20 := Tryd.sizeOf20
 v20 := Tryd.zeroValue20
 t37 := Tryd.underlying64
 a37 := Tryd.isAgg64
 z37 := Tryd.sizeOf64
 v37 := Tryd.zeroValue64
 t46 := Tryd.underlying59
 a46 := Tryd.isAgg59
 z46 := Tryd.sizeOf59
 v46 := Tryd.zeroValue59
 t51 := Tryd.underlying75
 a51 := Tryd.isAgg75
 z51 := Tryd.sizeOf75
 v51 := Tryd.zeroValue75
 t53 := Tryd.underlying78
 a53 := Tryd.isAgg78
 z53 := Tryd.sizeOf78
 v53 := Tryd.zeroValue78
 t171 := Tryd.underlying82
 a171 := Tryd.isAgg82
 z171 := Tryd.sizeOf82
 v171 := Tryd.zeroValue82
 t173 := Tryd.underlying85
 a173 := Tryd.isAgg85
 z173 := Tryd.sizeOf85
 v173 := Tryd.zeroValue85
 t212 := Tryd.underlying91
 a212 := Tryd.isAgg91
 z212 := Tryd.sizeOf91
 v212 := Tryd.zeroValue91
 t213 := Tryd.underlying92
 a213 := Tryd.isAgg92
 z213 := Tryd.sizeOf92
 t232 := Tryd.underlying95
 a232 := Tryd.isAgg95
 z232 := Tryd.sizeOf95
 v232 := Tryd.zeroValue95
 t233 := Tryd.underlying96
 a233 := Tryd.isAgg96
 z233 := Tryd.sizeOf96
 v233 := Tryd.zeroValue96
 g17 := by kernel_rfl
 g18 := by kernel_rfl
 g19 := by kernel_rfl }
open Go.RowKit Go.Sort Go.Lib in
theorem Tryd.strconv_Itoa_small (i : Nat) (hi : i < 100) (w : World) :
  Calls Tryd.prog 33 #[.int .i64 i] w fun e w' => e = .returned (.string ⟨(Lib.decDigits i).toArray⟩) ∧ w' = w := Any.strconv_Itoa_small Tryd.lays171 i hi w
def Tryd.lays206_ren : Go.Shelf.Ren := ⟨fun | 206 => 52 | n => n, fun | 9 => 9 | 4 => 4 | 3 => 3 | n => n, fun | n => n⟩
theorem Tryd.lays206 : Go.Proofs.Lays.n206 Tryd.prog Tryd.lays206_ren := {
 mixed := by kernel_rfl
 f206 := Tryd.func52.trans (congrArg some (by kernel_rfl))
 t3 := Tryd.underlying3
 a3 := Tryd.isAgg3
 z3 := Tryd.sizeOf3
 v3 := Tryd.zeroValue3
 t4 := Tryd.underlying4
 a4 := Tryd.isAgg4
 z4 := Tryd.sizeOf4
 v4 := Tryd.zeroValue4
 t9 := Tryd.underlying9
 a9 := Tryd.isAgg9
 z9 := Tryd.sizeOf9
 v9 := Tryd.zeroValue9 }
open Go.RowKit Go.Lib in
theorem Tryd.stringslite_HasPrefix (s p : ByteArray) (w : World) :
  Calls Tryd.prog 52 #[.string s, .string p] w fun e w' => e = .returned (.bool (Lib.hasPrefix s.data.toList p.data.toList)) ∧ w' = w := Any.stringslite_HasPrefix Tryd.lays206 s p w
def Tryd.lays99_ren : Go.Shelf.Ren := ⟨fun | 99 => 41 | 206 => 52 | n => n, fun | 9 => 9 | 4 => 4 | 3 => 3 | n => n, fun | n => n⟩
theorem Tryd.lays99 : Go.Proofs.Lays.n99 Tryd.prog Tryd.lays99_ren := {
 mixed := by kernel_rfl
 f99 := Tryd.func41.trans (congrArg some (by kernel_rfl))
 f206 := Tryd.func52.trans (congrArg some (by kernel_rfl))
 t3 := Tryd.underlying3
 a3 := Tryd.isAgg3
 z3 := Tryd.sizeOf3
 v3 := Tryd.zeroValue3
 t4 := Tryd.underlying4
 a4 := Tryd.isAgg4
 z4 := Tryd.sizeOf4
 v4 := Tryd.zeroValue4
 t9 := Tryd.underlying9
 a9 := Tryd.isAgg9
 z9 := Tryd.sizeOf9
 v9 := Tryd.zeroValue9 }
open Go.RowKit Go.Lib in
theorem Tryd.strings_HasPrefix (s p : ByteArray) (w : World) :
  Calls Tryd.prog 41 #[.string s, .string p] w fun e w' => e = .returned (.bool (Lib.hasPrefix s.data.toList p.data.toList)) ∧ w' = w := Any.strings_HasPrefix Tryd.lays99 s p w
def Tryd.lays264_ren : Go.Shelf.Ren := ⟨fun | 264 => 55 | n => n, fun | 53 => 78 | 46 => 59 | n => n, fun | n => n⟩
theorem Tryd.lays264 : Go.Proofs.Lays.n264 Tryd.prog Tryd.lays264_ren := {
 mixed := by kernel_rfl
 f264 := Tryd.func55.trans (congrArg some (by kernel_rfl))
 t46 := Tryd.underlying59
 a46 := Tryd.isAgg59
 z46 := Tryd.sizeOf59
 v46 := Tryd.zeroValue59
 t53 := Tryd.underlying78
 a53 := Tryd.isAgg78
 z53 := Tryd.sizeOf78
 v53 := Tryd.zeroValue78 }
open Go.RowKit Go.Lib in
theorem Tryd.bits_Mul64 (x y : Nat) (hx : x < 18446744073709551616) (hy : y < 18446744073709551616) (w : World) :
  Calls Tryd.prog 55 #[.int .u64 x, .int .u64 y] w fun e w' => e = .returned (.tuple #[.int .u64 ((x * y / 18446744073709551616 : Nat) : Int), .int .u64 ((x * y % 18446744073709551616 : Nat) : Int)]) ∧ w' = w := Any.bits_Mul64 Tryd.lays264 x y hx hy w
def Tryd.lays212_ren : Go.Shelf.Ren := ⟨fun | 212 => 40 | 263 => 54 | 264 => 55 | n => n, fun | 46 => 59 | 51 => 75 | 146 => 76 | 53 => 78 | 148 => 79 | n => n, fun | n => n⟩
theorem Tryd.lays212 : Go.Proofs.Lays.n212 Tryd.prog Tryd.lays212_ren := {
 mixed := by kernel_rfl
 f212 := Tryd.func40.trans (congrArg some (by kernel_rfl))
 f263 := Tryd.func54.trans (congrArg some (by kernel_rfl))
 f264 := Tryd.func55.trans (congrArg some (by kernel_rfl))
 t46 := Tryd.underlying59
 a46 := Tryd.isAgg59
 z46 := Tryd.sizeOf59
 v46 := Tryd.zeroValue59
 t51 := Tryd.underlying75
 a51 := Tryd.isAgg75
 z51 := Tryd.sizeOf75
 v51 := Tryd.zeroValue75
 t53 := Tryd.underlying78
 a53 := Tryd.isAgg78
 z53 := Tryd.sizeOf78
 v53 := Tryd.zeroValue78
 t146 := Tryd.underlying76
 a146 := Tryd.isAgg76
 z146 := Tryd.sizeOf76
 v146 := Tryd.zeroValue76
 t148 := Tryd.underlying79
 a148 := Tryd.isAgg79
 z148 := Tryd.sizeOf79
 v148 := Tryd.zeroValue79 }
open Go.RowKit Go.Lib in
theorem Tryd.bits_Mul (x y : Nat) (hx : x < 18446744073709551616) (hy : y < 18446744073709551616) (w : World) :
  Calls Tryd.prog 40 #[.int .u64 x, .int .u64 y] w fun e w' => e = .returned (.tuple #[.int .u64 ((x * y / 18446744073709551616 : Nat) : Int), .int .u64 ((x * y % 18446744073709551616 : Nat) : Int)]) ∧ w' = w := Any.bits_Mul Tryd.lays212 x y hx hy w
def Tryd.lays105_ren : Go.Shelf.Ren := ⟨fun | 105 => 34 | 212 => 40 | 99 => 41 | 165 => 42 | 166 => 43 | 170 => 44 | 169 => 45 | 263 => 54 | 264 => 55 | 206 => 52 | 240 => 56 | 241 => 57 | 276 => 63 | 277 => 64 | n => n, fun | 9 => 9 | 3 => 3 | 4 => 4 | 20 => 20 | 0 => 0 | 46 => 59 | 109 => 60 | 5 => 5 | 72 => 66 | 76 => 70 | 51 => 75 | 146 => 76 | 53 => 78 | 148 => 79 | 70 => 63 | 37 => 64 | 75 => 69 | 127 => 81 | 164 => 87 | 80 => 73 | n => n, fun | n => n⟩
theorem Tryd.lays105 : Go.Proofs.Lays.n105 Tryd.prog Tryd.lays105_ren := {
 mixed := by kernel_rfl
 f99 := Tryd.func41.trans (congrArg some (by kernel_rfl))
 f105 := Tryd.func34.trans (congrArg some (by kernel_rfl))
 f165 := Tryd.func42.trans (congrArg some (by kernel_rfl))
 f166 := Tryd.func43.trans (congrArg some (by kernel_rfl))
 f169 := Tryd.func45.trans (congrArg some (by kernel_rfl))
 f170 := Tryd.func44.trans (congrArg some (by kernel_rfl))
 f206 := Tryd.func52.trans (congrArg some (by kernel_rfl))
 f212 := Tryd.func40.trans (congrArg some (by kernel_rfl))
 f240 := Tryd.func56.trans (congrArg some (by kernel_rfl))
 f241 := Tryd.func57.trans (congrArg some (by kernel_rfl))
 f263 := Tryd.func54.trans (congrArg some (by kernel_rfl))
 f264 := Tryd.func55.trans (congrArg some (by kernel_rfl))
 f276 := Tryd.func63.trans (congrArg some (by kernel_rfl))
 f277 := Tryd.func64.trans (congrArg some (by kernel_rfl))
 t0 := Tryd.underlying0
 a0 := Tryd.isAgg0
 z0 := Tryd.sizeOf0
 v0 := Tryd.zeroValue0
 t3 := Tryd.underlying3
 a3 := Tryd.isAgg3
 z3 := Tryd.sizeOf3
 v3 := Tryd.zeroValue3
 t4 := Tryd.underlying4
 a4 := Tryd.isAgg4
 z4 := Tryd.sizeOf4
 v4 := Tryd.zeroValue4
 t5 := Tryd.underlying5
 a5 := Tryd.isAgg5
 z5 := Tryd.sizeOf5
 v5 := Tryd.zeroValue5
 t9 := Tryd.underlying9
 a9 := Tryd.isAgg9
 z9 := Tryd.sizeOf9
 v9 := Tryd.zeroValue9
 t20 := Tryd.underlying20
 a20 := Tryd.isAgg20
 z20 := Tryd.sizeOf20
 v20 := Tryd.zeroValue20
 t37 := Tryd.underlying64
 a37 := Tryd.isAgg64
 z37 := Tryd.sizeOf64
 v37 := Tryd.zeroValue64
 t46 := Tryd.underlying59
 a46 := Tryd.isAgg59
 z46 := Tryd.sizeOf59
 v46 := Tryd.zeroValue59
 t51 := Tryd.underlying75
 a51 := Tryd.isAgg75
 z51 := Tryd.sizeOf75
 v51 := Tryd.zeroValue75
 t53 := Tryd.underlying78
 a53 := Tryd.isAgg78
 z53 := Tryd.sizeOf78
 v53 := Tryd.zeroValue78
 t70 := Tryd.underlying63
 a70 := Tryd.isAgg63
 z70 := Tryd.sizeOf63
 v70 := Tryd.zeroValue63
 t72 := Tryd.underlying66
 a72 := Tryd.isAgg66
 z72 := Tryd.sizeOf66
 v72 := Tryd.zeroValue66
 t75 := Tryd.underlying69
 a75 := Tryd.isAgg69
 z75 := Tryd.sizeOf69
 v75 := Tryd.zeroValue69
 t76 := Tryd.underlying70
 a76 := Tryd.isAgg70
 z76 := Tryd.sizeOf70
 v76 := Tryd.zeroValue70
 t109 := Tryd.underlying60
 a109 := Tryd.isAgg60
 z109 := Tryd.sizeOf60
 v109 := Tryd.zeroValue60
 t127 := Tryd.underlying81
 a127 := Tryd.isAgg81
 z127 := Tryd.sizeOf81
 v127 := Tryd.zeroValue81
 t146 := Tryd.underlying76
 a146 := Tryd.isAgg76
 z146 := Tryd.sizeOf76
 v146 := Tryd.zeroValue76
 t148 := Tryd.underlying79
 a148 := Tryd.isAgg79
 z148 := Tryd.sizeOf79
 v148 := Tryd.zeroValue79
 t164 := Tryd.underlying87
 a164 := Tryd.isAgg87
 z164 := Tryd.sizeOf87
 v164 := Tryd.zeroValue87 }
theorem Tryd.Builder_Extra_105 : Builder.Extra Tryd.prog Tryd.lays105_ren := {
 sizeBuilder := by kernel_rfl
 liesBuilder := by kernel_rfl
 t5 := Tryd.underlying5
 a5 := Tryd.isAgg5
 z5 := Tryd.sizeOf5
 v5 := Tryd.zeroValue5
 infoByte := by kernel_rfl
 cellsByte := by kernel_rfl
 sizeByte := by kernel_rfl
 neB5 := by decide }
open Go.RowKit Go.Lib in
theorem Tryd.strings_Repeat_main (s : ByteArray) (c : Nat) (w : World) (hc2 : 2 ≤ c) (hc : c ≤ 9223372036854775807) (hlen : s.size * c ≤ 140737488355328) (h0 : 0 < s.size) :
  Calls Tryd.prog 34 #[.string s, .int .i64 c] w fun e w' => e = .returned (.string ⟨(Lib.repeatL s.data.toList c).toArray⟩) ∧ Below w.heap.size w w' := Any.strings_Repeat_main Tryd.lays105 Tryd.Builder_Extra_105 s c w hc2 hc hlen h0
open Go.RowKit Go.Lib in
theorem Tryd.strings_Repeat_zero (s : ByteArray) (w : World) :
  Calls Tryd.prog 34 #[.string s, .int .i64 0] w fun e w' => e = .returned (.string ⟨#[]⟩) ∧ w' = w := Any.strings_Repeat_zero Tryd.lays105 s w
open Go.RowKit Go.Lib in
theorem Tryd.strings_Repeat_one (s : ByteArray) (w : World) :
  Calls Tryd.prog 34 #[.string s, .int .i64 1] w fun e w' => e = .returned (.string s) ∧ w' = w := Any.strings_Repeat_one Tryd.lays105 s w
open Go.RowKit Go.Lib in
theorem Tryd.strings_Repeat_empty (s : ByteArray) (c : Nat) (w : World) (hc2 : 2 ≤ c) (hc : c ≤ 9223372036854775807) (h0 : s.size = 0) :
  Calls Tryd.prog 34 #[.string s, .int .i64 c] w fun e w' => e = .returned (.string ⟨#[]⟩) ∧ w' = w := Any.strings_Repeat_empty Tryd.lays105 s c w hc2 hc h0
open Go.RowKit Go.Lib in
theorem Tryd.strings_Repeat_negative (s : ByteArray) (c : Int) (w : World) (hc : c < 0) :
  Calls Tryd.prog 34 #[.string s, .int .i64 c] w fun e w' => e = .panicked [{ v := repeatPanic Tryd.lays105_ren "strings: negative Repeat count", recovered := false }] ∧ w' = w := Any.strings_Repeat_negative Tryd.lays105 s c w hc
open Go.RowKit Go.Lib in
theorem Tryd.strings_Repeat_overflow (s : ByteArray) (c : Nat) (w : World) (hc : c ≤ 9223372036854775807) (hs : s.size ≤ 9223372036854775807) (hbig : 9223372036854775807 < s.size * c) :
  Calls Tryd.prog 34 #[.string s, .int .i64 c] w fun e w' => e = .panicked [{ v := repeatPanic Tryd.lays105_ren "strings: Repeat output length overflow", recovered := false }] ∧ w' = w := Any.strings_Repeat_overflow Tryd.lays105 s c w hc hs hbig
open Go.RowKit Go.Lib in
theorem Tryd.strings_Repeat (s : ByteArray) (c : Nat) (w : World) (hc : c ≤ 9223372036854775807) (hlen : s.size * c ≤ 140737488355328) :
  Calls Tryd.prog 34 #[.string s, .int .i64 c] w fun e w' => e = .returned (.string ⟨(Lib.repeatL s.data.toList c).toArray⟩) ∧ Below w.heap.size w w' := Any.strings_Repeat Tryd.lays105 Tryd.Builder_Extra_105 s c w hc hlen
def Tryd.laysNm237_ren : Go.Shelf.Ren := ⟨fun | 37 => 37 | n => n, fun | 3 => 3 | 4 => 4 | n => n, fun | n => n⟩
theorem Tryd.laysNm237 : Go.Proofs.Lays2.n37 Tryd.prog Tryd.laysNm237_ren := {
 mixed := by kernel_rfl
 f37 := Tryd.func37.trans (congrArg some (by kernel_rfl))
 t3 := Tryd.underlying3
 a3 := Tryd.isAgg3
 z3 := Tryd.sizeOf3
 v3 := Tryd.zeroValue3
 t4 := Tryd.underlying4
 a4 := Tryd.isAgg4
 z4 := Tryd.sizeOf4
 v4 := Tryd.zeroValue4 }
open Go.RowKit Go.Lib in
theorem Tryd.cmp_isNaN_int2 (x : Int) (w : World) :
  Calls Tryd.prog 37 #[.int .i64 x] w fun e w' => e = .returned (.bool false) ∧ w' = w := Any.cmp_isNaN_int2 Tryd.laysNm237 x w
end Go.Proofs
namespace Go.Proofs.YtgihmikeapbpkabDoor
open Go.RowKit
open AS (Keep NoInt)
abbrev DTab (B : Nat) (w : World) : Prop := Lib.TabBelow Tryd.prog B w "internal/strconv.uint64pow10" .u64 Lib.pow10Tab
theorem DTab.up {w w' : World} (h : DTab w.heap.size w) (hb : Below w.heap.size w w') : DTab w'.heap.size w' := fun w2 h2 => h w2 (hb.trans (h2.mono hb.size))
theorem itoa_any (n : Int) (h0 : -9223372036854775808 ≤ n) (h1 : n ≤ 9223372036854775807) (w : World) (ht : DTab w.heap.size w) :
  Calls Tryd.prog 33 #[.int .i64 n] w fun e w' => e = .returned (.string ⟨(Lib.itoa n).toArray⟩) ∧ Below w.heap.size w w' := by
 refine (Tryd.strconv_Itoa n h0 h1 w ht.here).mono ?_
 rintro e w' ⟨he, k, os, rfl⟩
 exact ⟨he, Lib.below_grow _ _ (Nat.le_refl _) _ _⟩
theorem bytes_eq {a b : ByteArray} (h : a.data.toList = b.data.toList) : a = b := by
 cases a; cases b; congr; exact Array.toList_inj.1 h
theorem dret_str {a b : ByteArray} (h : a = b) : Ending.returned (.string a) = .returned (.string b) := by rw [h]
theorem rep48 (c : Nat) (w : World) (hc : c ≤ 20) : Calls Tryd.prog 34 #[.string ⟨#[48]⟩, .int .i64 c] w fun e w' => e = .returned (.string ⟨(Lib.repeatL [48] c).toArray⟩) ∧ Below w.heap.size w w' :=
 Tryd.strings_Repeat ⟨#[48]⟩ c w (by omega) (by rw [show (⟨#[48]⟩ : ByteArray).size = 1 from rfl]; omega)
def padD (D : List UInt8) (s : Nat) : List UInt8 := List.replicate (s + 1 - D.length) 48 ++ D
theorem padD_len (D : List UInt8) (s : Nat) : s < (padD D s).length := by unfold padD; simp; omega
theorem padD_le {D : List UInt8} {s n : Nat} (h : D.length ≤ n) (h2 : s < n) : (padD D s).length ≤ n := by unfold padD; simp; omega
def bareT (P : List UInt8) (s : Nat) : List UInt8 := if s = 0 then P else P.take (P.length - s) ++ 46 :: P.drop (P.length - s)
def signT (neg : Bool) (T : List UInt8) : List UInt8 := if neg then 45 :: T else T
set_option maxHeartbeats 800000 in
theorem dtext_000 (n : Int) (I D : List UInt8) (s : Nat) (w : World) (ht : DTab w.heap.size w) (hv : validB n s = true) (hd : Lib.itoa n = I) (h1 : Lib.trimPrefix I [45] = D) (h2 : Lib.hasPrefix I [45] = false) (hl : D.length ≤ 20) (hm : s < D.length) (hs : 0 < s) :
  Calls Tryd.prog 18 #[.int .i64 n, .int .i64 s] w fun e w' => e = .returned (.string ⟨(signT false (bareT (padD D s) s)).toArray⟩) ∧ Below w.heap.size w w' := by
 have hn := validB_is hv
 have hpl := padD_len D s
 have hple := padD_le (D := D) (s := s) (n := 20) hl (by omega)
 have hp0 : padD D s = D := by unfold padD; rw [show s + 1 - D.length = 0 by omega]; rfl
 rw [hp0] at *
 have hlt : decide ((D.length : Int) < (s : Int) + 1) = false := decide_eq_false (by omega)
 clear hp0
 obtain ⟨R, hR⟩ : ∃ R, signT false (bareT D s) = R := ⟨_, rfl⟩
 rw [hR]
 have HR := Lib.hid hR
 clear hR
 have hB := Below.refl w.heap.size w
 have HS := Lib.hid hs
 go_enter Tryd.func18, Tryd.ntmps18
 go_wp2_with (first | (go_at_call 23; refine (valid_any _ _ _).mono ?_; rintro e w' ⟨rfl, rfl⟩) | (go_at_call 33; refine (itoa_any _ (by omega) (by omega) _ ht).mono ?_; rintro e w' ⟨rfl, hb⟩; replace hB := below_more hB hb; clear hb) | (go_at_call 32; refine (Tryd.strings_CutPrefix _ _ _).mono ?_; rintro e w' ⟨rfl, hw⟩; subst hw) | (go_at_call 34; refine (rep48 c _ hc9).mono ?_; rintro e w' ⟨rfl, hb⟩; replace hB := below_more hB hb; clear hb))
 go_ret
 exact ⟨dret_str (bytes_eq (by rw [← HR.out]; simp [signT, bareT, ByteArray.data_append, Nat.pos_iff_ne_zero.1 HS.out, Lib.extract_data] <;> exact List.take_of_length_le (by simp))), hB⟩
set_option maxHeartbeats 800000 in
theorem dtext_100 (n : Int) (I D : List UInt8) (s : Nat) (w : World) (ht : DTab w.heap.size w) (hv : validB n s = true) (hd : Lib.itoa n = I) (h1 : Lib.trimPrefix I [45] = D) (h2 : Lib.hasPrefix I [45] = true) (hl : D.length ≤ 20) (hm : s < D.length) (hs : 0 < s) :
  Calls Tryd.prog 18 #[.int .i64 n, .int .i64 s] w fun e w' => e = .returned (.string ⟨(signT true (bareT (padD D s) s)).toArray⟩) ∧ Below w.heap.size w w' := by
 have hn := validB_is hv
 have hpl := padD_len D s
 have hple := padD_le (D := D) (s := s) (n := 20) hl (by omega)
 have hp0 : padD D s = D := by unfold padD; rw [show s + 1 - D.length = 0 by omega]; rfl
 rw [hp0] at *
 have hlt : decide ((D.length : Int) < (s : Int) + 1) = false := decide_eq_false (by omega)
 clear hp0
 obtain ⟨R, hR⟩ : ∃ R, signT true (bareT D s) = R := ⟨_, rfl⟩
 rw [hR]
 have HR := Lib.hid hR
 clear hR
 have hB := Below.refl w.heap.size w
 have HS := Lib.hid hs
 go_enter Tryd.func18, Tryd.ntmps18
 go_wp2_with (first | (go_at_call 23; refine (valid_any _ _ _).mono ?_; rintro e w' ⟨rfl, rfl⟩) | (go_at_call 33; refine (itoa_any _ (by omega) (by omega) _ ht).mono ?_; rintro e w' ⟨rfl, hb⟩; replace hB := below_more hB hb; clear hb) | (go_at_call 32; refine (Tryd.strings_CutPrefix _ _ _).mono ?_; rintro e w' ⟨rfl, hw⟩; subst hw) | (go_at_call 34; refine (rep48 c _ hc9).mono ?_; rintro e w' ⟨rfl, hb⟩; replace hB := below_more hB hb; clear hb))
 go_ret
 exact ⟨dret_str (bytes_eq (by rw [← HR.out]; simp [signT, bareT, ByteArray.data_append, Nat.pos_iff_ne_zero.1 HS.out, Lib.extract_data] <;> exact List.take_of_length_le (by simp))), hB⟩
theorem rnd_zero (m b : Int) (hm0 : 0 ≤ m) (hm1 : m ≤ 5) (hb : b ≠ 0) : rnd m 0 b = 0 := by
 have hc : m = 0 ∨ m = 1 ∨ m = 2 ∨ m = 3 ∨ m = 4 ∨ m = 5 := by omega
 have hd : (0 : Int) < (b.natAbs : Int) := by omega
 rcases hc with rfl | rfl | rfl | rfl | rfl | rfl <;> simp [rnd, rqN, upN, sgn] <;> omega
def rqFL (a b A B X R : Int) : List (Nat × AS.Fact) := [(21, AS.Fact.is (.int .i64 a)), (22, AS.Fact.is (.int .i64 A)), (23, AS.Fact.is (.int .i64 b)), (24, AS.Fact.is (.int .i64 B)), (25, AS.Fact.is (.int .i64 X)), (26, AS.Fact.is (.int .i64 a)), (27, AS.Fact.is (.int .i64 A)), (28, AS.Fact.is (.int .i64 b)), (29, AS.Fact.is (.int .i64 B)), (30, AS.Fact.is (.int .i64 R)), (31, AS.Fact.is (.int .i64 b)), (32, AS.Fact.is (.int .i64 B)), (8, AS.Fact.is (.int .i64 X)), (9, AS.Fact.is (.int .i64 R)), (10, AS.Fact.is (.int .i64 B))]
set_option maxRecDepth 20000 in
set_option maxHeartbeats 3200000 in
theorem rq_00 (m a b : Int) (w : World) (hm0 : 0 ≤ m) (hm1 : m ≤ 5) (h1 : 0 < a) (h2 : a ≤ 1000000000000000000) (h3 : 0 < b) (h4 : b ≤ 1000000000000000000) :
  Calls Tryd.prog 27 #[.int .i64 a, .int .i64 b, .int .i64 m] w fun e w' => e = .returned (.int .i64 (sgn false (rqN m false (a / b) (a % b) b))) ∧ Below w.heap.size w w' := by
 obtain ⟨z, hz⟩ : ∃ z, sgn false (rqN m false (a / b) (a % b) b) = z := ⟨_, rfl⟩
 rw [hz]
 have HZ := Lib.hid hz
 clear hz
 have q0 : 0 ≤ a / b := Int.ediv_nonneg (by omega) (by omega)
 have q2 : a / b ≤ 1000000000000000000 := Int.le_trans (Int.ediv_le_self _ (by omega)) h2
 have q3 : 0 ≤ a % b := Int.emod_nonneg _ (by omega)
 have q4 : a % b < b := Int.emod_lt_of_pos _ h3
 have hz : (b == 0) = false := by simp; omega
 have hza : (a == 0) = false := by simp; omega
 have hzb : (a != 0) = true := by simp; omega
 have hzc : (a == 0) = false := by simp; omega
 have h0 : 0 ≤ a := by omega
 have hs : ∀ w, Calls Tryd.prog 10 #[.int .i64 a] w fun e w' => e = .returned (.int .i64 a) ∧ w = w' := fun w => (size_any a w (by omega) (by omega)).mono fun _ _ h => by rw [show ((a : Int).natAbs : Int) = a by omega] at h; exact h
 have ht : ∀ w, Calls Tryd.prog 10 #[.int .i64 b] w fun e w' => e = .returned (.int .i64 b) ∧ w = w' := fun w => (size_any b w (by omega) (by omega)).mono fun _ _ h => by rw [show ((b : Int).natAbs : Int) = b by omega] at h; exact h
 have HS := Lib.hid hs
 have HT := Lib.hid ht
 clear hs ht
 have na : decide (a < 0) = false := decide_eq_false (by omega)
 have nb : decide (b < 0) = false := decide_eq_false (by omega)
 have hb0 : ¬ b = 0 := by omega
 have hdv : IntKind.i64.wrap ((a : Int).tdiv b) = a / b := by rw [Int.tdiv_eq_ediv_of_nonneg (by omega), IntKind.wrap_i64]; omega
 have hmd : (a : Int).tmod b = a % b := Int.tmod_eq_emod_of_nonneg (by omega)
 have HB0 := Lib.hid hb0
 have HDV := Lib.hid hdv
 have HMD := Lib.hid hmd
 have hw0 : IntKind.i64.wrap 0 = 0 := by rw [IntKind.wrap_i64]; rfl
 clear hb0 hdv hmd
 go_enter Tryd.func27, Tryd.ntmps27
 go_upto_region 2 with (fail)
 refine AS.region_facts (rqFL a b a b (a / b) (a % b)) (DNo w) [[], [21], [], [23], [22, 24], [], [26], [], [28], [27, 29], [], [31], [25], [30], [32]] [] [[]] [0, 0, 0, 0, 0, 0, 0, 0, 0, 0, 0, 0, 0, 0, 0] [] (fun u => by simp only [rqFL, AS.temps, List.map_cons, List.map_nil, fillL, List.setIfInBounds_toArray, List.set_cons_zero, List.set_cons_succ]; rfl) (by kernel_rfl) (by kernel_rfl) (DNo.st w) (dc_drew (Below.refl _ _)) ?_ ?_
 ·refine AS.sc rfl rfl rfl ?_ ?_
  ·intro k_ u w_ hk hJ hF K hK
   clear hF
   go_simp
   exact hK.out _ _ (Below.refl _ _) (rfl) trivial
  refine AS.sc rfl rfl rfl ?_ ?_
  ·intro k_ u w_ hk hJ hF K hK
   have h21 : u 21 = .int .i64 a := AS.facts_get hF 21 (by simp)
   clear hF
   simp only [h21] at hK ⊢
   clear h21
   go_simp
   refine (HS.out _).mono ?_
   rintro e w' ⟨rfl, rfl⟩
   exact hK.out _ _ (Below.refl _ _) rfl trivial
  refine AS.sc rfl rfl rfl ?_ ?_
  ·intro k_ u w_ hk hJ hF K hK
   clear hF
   go_simp
   exact hK.out _ _ (Below.refl _ _) (rfl) trivial
  refine AS.sc rfl rfl rfl ?_ ?_
  ·intro k_ u w_ hk hJ hF K hK
   have h23 : u 23 = .int .i64 b := AS.facts_get hF 23 (by simp)
   clear hF
   simp only [h23] at hK ⊢
   clear h23
   go_simp
   refine (HT.out _).mono ?_
   rintro e w' ⟨rfl, rfl⟩
   exact hK.out _ _ (Below.refl _ _) rfl trivial
  refine AS.sc rfl rfl rfl ?_ ?_
  ·intro k_ u w_ hk hJ hF K hK
   have h22 : u 22 = .int .i64 a := AS.facts_get hF 22 (by simp)
   have h24 : u 24 = .int .i64 b := AS.facts_get hF 24 (by simp)
   clear hF
   simp only [h22, h24] at hK ⊢
   clear h22 h24
   have o0 := HB0.out
   have o1 := HDV.out
   have o2 := HMD.out
   go_simp
   exact hK.out _ _ (Below.refl _ _) rfl trivial
  refine AS.sc rfl rfl rfl ?_ ?_
  ·intro k_ u w_ hk hJ hF K hK
   clear hF
   go_simp
   exact hK.out _ _ (Below.refl _ _) (rfl) trivial
  refine AS.sc rfl rfl rfl ?_ ?_
  ·intro k_ u w_ hk hJ hF K hK
   have h26 : u 26 = .int .i64 a := AS.facts_get hF 26 (by simp)
   clear hF
   simp only [h26] at hK ⊢
   clear h26
   go_simp
   refine (HS.out _).mono ?_
   rintro e w' ⟨rfl, rfl⟩
   exact hK.out _ _ (Below.refl _ _) rfl trivial
  refine AS.sc rfl rfl rfl ?_ ?_
  ·intro k_ u w_ hk hJ hF K hK
   clear hF
   go_simp
   exact hK.out _ _ (Below.refl _ _) (rfl) trivial
  refine AS.sc rfl rfl rfl ?_ ?_
  ·intro k_ u w_ hk hJ hF K hK
   have h28 : u 28 = .int .i64 b := AS.facts_get hF 28 (by simp)
   clear hF
   simp only [h28] at hK ⊢
   clear h28
   go_simp
   refine (HT.out _).mono ?_
   rintro e w' ⟨rfl, rfl⟩
   exact hK.out _ _ (Below.refl _ _) rfl trivial
  refine AS.sc rfl rfl rfl ?_ ?_
  ·intro k_ u w_ hk hJ hF K hK
   have h27 : u 27 = .int .i64 a := AS.facts_get hF 27 (by simp)
   have h29 : u 29 = .int .i64 b := AS.facts_get hF 29 (by simp)
   clear hF
   simp only [h27, h29] at hK ⊢
   clear h27 h29
   have o0 := HB0.out
   have o1 := HDV.out
   have o2 := HMD.out
   go_simp
   exact hK.out _ _ (Below.refl _ _) rfl trivial
  refine AS.sc rfl rfl rfl ?_ ?_
  ·intro k_ u w_ hk hJ hF K hK
   clear hF
   go_simp
   exact hK.out _ _ (Below.refl _ _) (rfl) trivial
  refine AS.sc rfl rfl rfl ?_ ?_
  ·intro k_ u w_ hk hJ hF K hK
   have h31 : u 31 = .int .i64 b := AS.facts_get hF 31 (by simp)
   clear hF
   simp only [h31] at hK ⊢
   clear h31
   go_simp
   refine (HT.out _).mono ?_
   rintro e w' ⟨rfl, rfl⟩
   exact hK.out _ _ (Below.refl _ _) rfl trivial
  refine AS.sc rfl rfl rfl ?_ ?_
  ·intro k_ u w_ hk hJ hF K hK
   have h25 : u 25 = .int .i64 (a / b) := AS.facts_get hF 25 (by simp)
   clear hF
   simp only [h25] at hK ⊢
   clear h25
   go_simp
   exact hK.out _ _ (Below.refl _ _) rfl trivial
  refine AS.sc rfl rfl rfl ?_ ?_
  ·intro k_ u w_ hk hJ hF K hK
   have h30 : u 30 = .int .i64 (a % b) := AS.facts_get hF 30 (by simp)
   clear hF
   simp only [h30] at hK ⊢
   clear h30
   go_simp
   exact hK.out _ _ (Below.refl _ _) rfl trivial
  refine AS.sc rfl rfl rfl ?_ ?_
  ·intro k_ u w_ hk hJ hF K hK
   have h32 : u 32 = .int .i64 b := AS.facts_get hF 32 (by simp)
   clear hF
   simp only [h32] at hK ⊢
   clear h32
   go_simp
   exact hK.out _ _ (Below.refl _ _) rfl trivial
  exact AS.StepsOk.nil
 ·intro u W3 hJ9 hF
  have h8 : u 8 = .int .i64 (a / b) := AS.facts_get hF 8 (by simp [rqFL, AS.temps])
  have h9 : u 9 = .int .i64 (a % b) := AS.facts_get hF 9 (by simp [rqFL, AS.temps])
  have h10 : u 10 = .int .i64 b := AS.facts_get hF 10 (by simp [rqFL, AS.temps])
  clear hF
  rw [show u 8 = _ from h8, show u 9 = _ from h9, show u 10 = _ from h10]
  clear h8 h9 h10
  generalize a / b = x at *
  generalize a % b = r at *
  have hc : m = 0 ∨ m = 1 ∨ m = 2 ∨ m = 3 ∨ m = 4 ∨ m = 5 := by omega
  clear hm0 hm1
  rcases hc with rfl | rfl | rfl | rfl | rfl | rfl
  ·by_cases hr : 2 * r < b
   all_goals
    go_wp2_with fail
    go_ret
    exact ⟨dret_int (by rw [← HZ.out]; simp [sgn, rqN, upN, hr] <;> omega), hJ9⟩
  ·by_cases hr : 2 * r = b
   ·have hr1 : b ≤ 2 * r := by omega
    by_cases hx : x % 2 = 0
    ·have hx1 : (x % 2 == 1) = false := by simp; omega
     have hr2 : (2 * r == b) = true := by simpa using hr
     have hr3 : decide (b < 2 * r) = false := decide_eq_false (by omega)
     have HR := Lib.hid hr
     have HX := Lib.hid hx
     clear hr hx
     go_wp2_with fail
     go_ret
     exact ⟨dret_int (by rw [← HZ.out]; simp [sgn, rqN, upN, HR.out, HX.out] <;> omega), hJ9⟩
    ·have hx1 : (x % 2 == 1) = true := by simp; omega
     have hr2 : (2 * r == b) = true := by simpa using hr
     have hr3 : decide (b < 2 * r) = false := decide_eq_false (by omega)
     have hr4 : r ≠ 0 := by omega
     have HR := Lib.hid hr
     have HX := Lib.hid hx
     have H4 := Lib.hid hr4
     clear hr hx hr4
     go_wp2_with fail
     go_ret
     exact ⟨dret_int (by rw [← HZ.out]; simp [sgn, rqN, upN, HR.out, HX.out, H4.out] <;> omega), hJ9⟩
   ·have hr2 : (2 * r == b) = false := by simpa using hr
    have HR := Lib.hid hr
    clear hr
    by_cases hl : b < 2 * r
    ·have hr4 : r ≠ 0 := by omega
     have hl2 : ¬ 2 * r < b := by omega
     have H4 := Lib.hid hr4
     have HL := Lib.hid hl2
     clear hr4 hl2
     go_wp2_with fail
     go_ret
     exact ⟨dret_int (by rw [← HZ.out]; simp [sgn, rqN, upN, HR.out, HL.out, H4.out] <;> omega), hJ9⟩
    ·have hl1 : decide (b < 2 * r) = false := decide_eq_false hl
     have hl2 : 2 * r < b := by have := HR.out; omega
     have HL := Lib.hid hl2
     clear hl hl2
     go_wp2_with fail
     go_ret
     exact ⟨dret_int (by rw [← HZ.out]; simp [sgn, rqN, upN, HR.out, HL.out] <;> omega), hJ9⟩
  ·go_wp2_with fail
   go_ret
   exact ⟨dret_int (by rw [← HZ.out]; simp [sgn, rqN, upN]), hJ9⟩
  ·by_cases hr : r = 0
   ·subst hr
    go_wp2_with fail
    go_ret
    exact ⟨dret_int (by rw [← HZ.out]; simp [sgn, rqN, upN]), hJ9⟩
   ·have hr1 : 0 < r := by omega
    have HR := Lib.hid hr
    clear hr
    go_wp2_with fail
    go_ret
    exact ⟨dret_int (by rw [← HZ.out]; simp [sgn, rqN, upN, HR.out] <;> omega), hJ9⟩
  ·by_cases hr : r = 0
   ·subst hr
    go_wp2_with fail
    go_ret
    exact ⟨dret_int (by rw [← HZ.out]; simp [sgn, rqN, upN]), hJ9⟩
   ·have hr1 : 0 < r := by omega
    have HR := Lib.hid hr
    clear hr
    go_wp2_with fail
    go_ret
    exact ⟨dret_int (by rw [← HZ.out]; simp [sgn, rqN, upN, HR.out] <;> omega), hJ9⟩
  ·by_cases hr : r = 0
   ·subst hr
    go_wp2_with fail
    go_ret
    exact ⟨dret_int (by rw [← HZ.out]; simp [sgn, rqN, upN]), hJ9⟩
   ·have hr1 : 0 < r := by omega
    have HR := Lib.hid hr
    clear hr
    go_wp2_with fail
    go_ret
    exact ⟨dret_int (by rw [← HZ.out]; simp [sgn, rqN, upN, HR.out] <;> omega), hJ9⟩
set_option maxRecDepth 20000 in
set_option maxHeartbeats 3200000 in
theorem rq_01 (m a b : Int) (w : World) (hm0 : 0 ≤ m) (hm1 : m ≤ 5) (h1 : 0 < a) (h2 : a ≤ 1000000000000000000) (h3 : 0 < b) (h4 : b ≤ 1000000000000000000) :
  Calls Tryd.prog 27 #[.int .i64 a, .int .i64 (-b), .int .i64 m] w fun e w' => e = .returned (.int .i64 (sgn true (rqN m true (a / b) (a % b) b))) ∧ Below w.heap.size w w' := by
 obtain ⟨z, hz⟩ : ∃ z, sgn true (rqN m true (a / b) (a % b) b) = z := ⟨_, rfl⟩
 rw [hz]
 have HZ := Lib.hid hz
 clear hz
 have q0 : 0 ≤ a / b := Int.ediv_nonneg (by omega) (by omega)
 have q2 : a / b ≤ 1000000000000000000 := Int.le_trans (Int.ediv_le_self _ (by omega)) h2
 have q3 : 0 ≤ a % b := Int.emod_nonneg _ (by omega)
 have q4 : a % b < b := Int.emod_lt_of_pos _ h3
 have hz : (b == 0) = false := by simp; omega
 have hza : (a == 0) = false := by simp; omega
 have hzb : (a != 0) = true := by simp; omega
 have hzc : (a == 0) = false := by simp; omega
 have h0 : 0 ≤ a := by omega
 have hs : ∀ w, Calls Tryd.prog 10 #[.int .i64 a] w fun e w' => e = .returned (.int .i64 a) ∧ w = w' := fun w => (size_any a w (by omega) (by omega)).mono fun _ _ h => by rw [show ((a : Int).natAbs : Int) = a by omega] at h; exact h
 have ht : ∀ w, Calls Tryd.prog 10 #[.int .i64 (-b)] w fun e w' => e = .returned (.int .i64 b) ∧ w = w' := fun w => (size_any (-b) w (by omega) (by omega)).mono fun _ _ h => by rw [show (((-b) : Int).natAbs : Int) = b by omega] at h; exact h
 have HS := Lib.hid hs
 have HT := Lib.hid ht
 clear hs ht
 have na : decide (a < 0) = false := decide_eq_false (by omega)
 have hb0 : ¬ b = 0 := by omega
 have hdv : IntKind.i64.wrap ((a : Int).tdiv b) = a / b := by rw [Int.tdiv_eq_ediv_of_nonneg (by omega), IntKind.wrap_i64]; omega
 have hmd : (a : Int).tmod b = a % b := Int.tmod_eq_emod_of_nonneg (by omega)
 have HB0 := Lib.hid hb0
 have HDV := Lib.hid hdv
 have HMD := Lib.hid hmd
 have hw0 : IntKind.i64.wrap 0 = 0 := by rw [IntKind.wrap_i64]; rfl
 clear hb0 hdv hmd
 go_enter Tryd.func27, Tryd.ntmps27
 go_upto_region 2 with (fail)
 refine AS.region_facts (rqFL a (-b) a b (a / b) (a % b)) (DNo w) [[], [21], [], [23], [22, 24], [], [26], [], [28], [27, 29], [], [31], [25], [30], [32]] [] [[]] [0, 0, 0, 0, 0, 0, 0, 0, 0, 0, 0, 0, 0, 0, 0] [] (fun u => by simp only [rqFL, AS.temps, List.map_cons, List.map_nil, fillL, List.setIfInBounds_toArray, List.set_cons_zero, List.set_cons_succ]; rfl) (by kernel_rfl) (by kernel_rfl) (DNo.st w) (dc_drew (Below.refl _ _)) ?_ ?_
 ·refine AS.sc rfl rfl rfl ?_ ?_
  ·intro k_ u w_ hk hJ hF K hK
   clear hF
   go_simp
   exact hK.out _ _ (Below.refl _ _) (rfl) trivial
  refine AS.sc rfl rfl rfl ?_ ?_
  ·intro k_ u w_ hk hJ hF K hK
   have h21 : u 21 = .int .i64 a := AS.facts_get hF 21 (by simp)
   clear hF
   simp only [h21] at hK ⊢
   clear h21
   go_simp
   refine (HS.out _).mono ?_
   rintro e w' ⟨rfl, rfl⟩
   exact hK.out _ _ (Below.refl _ _) rfl trivial
  refine AS.sc rfl rfl rfl ?_ ?_
  ·intro k_ u w_ hk hJ hF K hK
   clear hF
   go_simp
   exact hK.out _ _ (Below.refl _ _) (rfl) trivial
  refine AS.sc rfl rfl rfl ?_ ?_
  ·intro k_ u w_ hk hJ hF K hK
   have h23 : u 23 = .int .i64 (-b) := AS.facts_get hF 23 (by simp)
   clear hF
   simp only [h23] at hK ⊢
   clear h23
   go_simp
   refine (HT.out _).mono ?_
   rintro e w' ⟨rfl, rfl⟩
   exact hK.out _ _ (Below.refl _ _) rfl trivial
  refine AS.sc rfl rfl rfl ?_ ?_
  ·intro k_ u w_ hk hJ hF K hK
   have h22 : u 22 = .int .i64 a := AS.facts_get hF 22 (by simp)
   have h24 : u 24 = .int .i64 b := AS.facts_get hF 24 (by simp)
   clear hF
   simp only [h22, h24] at hK ⊢
   clear h22 h24
   have o0 := HB0.out
   have o1 := HDV.out
   have o2 := HMD.out
   go_simp
   exact hK.out _ _ (Below.refl _ _) rfl trivial
  refine AS.sc rfl rfl rfl ?_ ?_
  ·intro k_ u w_ hk hJ hF K hK
   clear hF
   go_simp
   exact hK.out _ _ (Below.refl _ _) (rfl) trivial
  refine AS.sc rfl rfl rfl ?_ ?_
  ·intro k_ u w_ hk hJ hF K hK
   have h26 : u 26 = .int .i64 a := AS.facts_get hF 26 (by simp)
   clear hF
   simp only [h26] at hK ⊢
   clear h26
   go_simp
   refine (HS.out _).mono ?_
   rintro e w' ⟨rfl, rfl⟩
   exact hK.out _ _ (Below.refl _ _) rfl trivial
  refine AS.sc rfl rfl rfl ?_ ?_
  ·intro k_ u w_ hk hJ hF K hK
   clear hF
   go_simp
   exact hK.out _ _ (Below.refl _ _) (rfl) trivial
  refine AS.sc rfl rfl rfl ?_ ?_
  ·intro k_ u w_ hk hJ hF K hK
   have h28 : u 28 = .int .i64 (-b) := AS.facts_get hF 28 (by simp)
   clear hF
   simp only [h28] at hK ⊢
   clear h28
   go_simp
   refine (HT.out _).mono ?_
   rintro e w' ⟨rfl, rfl⟩
   exact hK.out _ _ (Below.refl _ _) rfl trivial
  refine AS.sc rfl rfl rfl ?_ ?_
  ·intro k_ u w_ hk hJ hF K hK
   have h27 : u 27 = .int .i64 a := AS.facts_get hF 27 (by simp)
   have h29 : u 29 = .int .i64 b := AS.facts_get hF 29 (by simp)
   clear hF
   simp only [h27, h29] at hK ⊢
   clear h27 h29
   have o0 := HB0.out
   have o1 := HDV.out
   have o2 := HMD.out
   go_simp
   exact hK.out _ _ (Below.refl _ _) rfl trivial
  refine AS.sc rfl rfl rfl ?_ ?_
  ·intro k_ u w_ hk hJ hF K hK
   clear hF
   go_simp
   exact hK.out _ _ (Below.refl _ _) (rfl) trivial
  refine AS.sc rfl rfl rfl ?_ ?_
  ·intro k_ u w_ hk hJ hF K hK
   have h31 : u 31 = .int .i64 (-b) := AS.facts_get hF 31 (by simp)
   clear hF
   simp only [h31] at hK ⊢
   clear h31
   go_simp
   refine (HT.out _).mono ?_
   rintro e w' ⟨rfl, rfl⟩
   exact hK.out _ _ (Below.refl _ _) rfl trivial
  refine AS.sc rfl rfl rfl ?_ ?_
  ·intro k_ u w_ hk hJ hF K hK
   have h25 : u 25 = .int .i64 (a / b) := AS.facts_get hF 25 (by simp)
   clear hF
   simp only [h25] at hK ⊢
   clear h25
   go_simp
   exact hK.out _ _ (Below.refl _ _) rfl trivial
  refine AS.sc rfl rfl rfl ?_ ?_
  ·intro k_ u w_ hk hJ hF K hK
   have h30 : u 30 = .int .i64 (a % b) := AS.facts_get hF 30 (by simp)
   clear hF
   simp only [h30] at hK ⊢
   clear h30
   go_simp
   exact hK.out _ _ (Below.refl _ _) rfl trivial
  refine AS.sc rfl rfl rfl ?_ ?_
  ·intro k_ u w_ hk hJ hF K hK
   have h32 : u 32 = .int .i64 b := AS.facts_get hF 32 (by simp)
   clear hF
   simp only [h32] at hK ⊢
   clear h32
   go_simp
   exact hK.out _ _ (Below.refl _ _) rfl trivial
  exact AS.StepsOk.nil
 ·intro u W3 hJ9 hF
  have h8 : u 8 = .int .i64 (a / b) := AS.facts_get hF 8 (by simp [rqFL, AS.temps])
  have h9 : u 9 = .int .i64 (a % b) := AS.facts_get hF 9 (by simp [rqFL, AS.temps])
  have h10 : u 10 = .int .i64 b := AS.facts_get hF 10 (by simp [rqFL, AS.temps])
  clear hF
  rw [show u 8 = _ from h8, show u 9 = _ from h9, show u 10 = _ from h10]
  clear h8 h9 h10
  generalize a / b = x at *
  generalize a % b = r at *
  have hc : m = 0 ∨ m = 1 ∨ m = 2 ∨ m = 3 ∨ m = 4 ∨ m = 5 := by omega
  clear hm0 hm1
  rcases hc with rfl | rfl | rfl | rfl | rfl | rfl
  ·by_cases hr : 2 * r < b
   all_goals
    go_wp2_with fail
    go_ret
    exact ⟨dret_int (by rw [← HZ.out]; simp [sgn, rqN, upN, hr] <;> omega), hJ9⟩
  ·by_cases hr : 2 * r = b
   ·have hr1 : b ≤ 2 * r := by omega
    by_cases hx : x % 2 = 0
    ·have hx1 : (x % 2 == 1) = false := by simp; omega
     have hr2 : (2 * r == b) = true := by simpa using hr
     have hr3 : decide (b < 2 * r) = false := decide_eq_false (by omega)
     have HR := Lib.hid hr
     have HX := Lib.hid hx
     clear hr hx
     go_wp2_with fail
     go_ret
     exact ⟨dret_int (by rw [← HZ.out]; simp [sgn, rqN, upN, HR.out, HX.out] <;> omega), hJ9⟩
    ·have hx1 : (x % 2 == 1) = true := by simp; omega
     have hr2 : (2 * r == b) = true := by simpa using hr
     have hr3 : decide (b < 2 * r) = false := decide_eq_false (by omega)
     have hr4 : r ≠ 0 := by omega
     have HR := Lib.hid hr
     have HX := Lib.hid hx
     have H4 := Lib.hid hr4
     clear hr hx hr4
     go_wp2_with fail
     go_ret
     exact ⟨dret_int (by rw [← HZ.out]; simp [sgn, rqN, upN, HR.out, HX.out, H4.out] <;> omega), hJ9⟩
   ·have hr2 : (2 * r == b) = false := by simpa using hr
    have HR := Lib.hid hr
    clear hr
    by_cases hl : b < 2 * r
    ·have hr4 : r ≠ 0 := by omega
     have hl2 : ¬ 2 * r < b := by omega
     have H4 := Lib.hid hr4
     have HL := Lib.hid hl2
     clear hr4 hl2
     go_wp2_with fail
     go_ret
     exact ⟨dret_int (by rw [← HZ.out]; simp [sgn, rqN, upN, HR.out, HL.out, H4.out] <;> omega), hJ9⟩
    ·have hl1 : decide (b < 2 * r) = false := decide_eq_false hl
     have hl2 : 2 * r < b := by have := HR.out; omega
     have HL := Lib.hid hl2
     clear hl hl2
     go_wp2_with fail
     go_ret
     exact ⟨dret_int (by rw [← HZ.out]; simp [sgn, rqN, upN, HR.out, HL.out] <;> omega), hJ9⟩
  ·go_wp2_with fail
   go_ret
   exact ⟨dret_int (by rw [← HZ.out]; simp [sgn, rqN, upN]), hJ9⟩
  ·by_cases hr : r = 0
   ·subst hr
    go_wp2_with fail
    go_ret
    exact ⟨dret_int (by rw [← HZ.out]; simp [sgn, rqN, upN]), hJ9⟩
   ·have hr1 : 0 < r := by omega
    have HR := Lib.hid hr
    clear hr
    go_wp2_with fail
    go_ret
    exact ⟨dret_int (by rw [← HZ.out]; simp [sgn, rqN, upN, HR.out] <;> omega), hJ9⟩
  ·by_cases hr : r = 0
   ·subst hr
    go_wp2_with fail
    go_ret
    exact ⟨dret_int (by rw [← HZ.out]; simp [sgn, rqN, upN]), hJ9⟩
   ·have hr1 : 0 < r := by omega
    have HR := Lib.hid hr
    clear hr
    go_wp2_with fail
    go_ret
    exact ⟨dret_int (by rw [← HZ.out]; simp [sgn, rqN, upN, HR.out] <;> omega), hJ9⟩
  ·by_cases hr : r = 0
   ·subst hr
    go_wp2_with fail
    go_ret
    exact ⟨dret_int (by rw [← HZ.out]; simp [sgn, rqN, upN]), hJ9⟩
   ·have hr1 : 0 < r := by omega
    have HR := Lib.hid hr
    clear hr
    go_wp2_with fail
    go_ret
    exact ⟨dret_int (by rw [← HZ.out]; simp [sgn, rqN, upN, HR.out] <;> omega), hJ9⟩
set_option maxRecDepth 20000 in
set_option maxHeartbeats 3200000 in
theorem rq_10 (m a b : Int) (w : World) (hm0 : 0 ≤ m) (hm1 : m ≤ 5) (h1 : 0 < a) (h2 : a ≤ 1000000000000000000) (h3 : 0 < b) (h4 : b ≤ 1000000000000000000) :
  Calls Tryd.prog 27 #[.int .i64 (-a), .int .i64 b, .int .i64 m] w fun e w' => e = .returned (.int .i64 (sgn true (rqN m true (a / b) (a % b) b))) ∧ Below w.heap.size w w' := by
 obtain ⟨z, hz⟩ : ∃ z, sgn true (rqN m true (a / b) (a % b) b) = z := ⟨_, rfl⟩
 rw [hz]
 have HZ := Lib.hid hz
 clear hz
 have q0 : 0 ≤ a / b := Int.ediv_nonneg (by omega) (by omega)
 have q2 : a / b ≤ 1000000000000000000 := Int.le_trans (Int.ediv_le_self _ (by omega)) h2
 have q3 : 0 ≤ a % b := Int.emod_nonneg _ (by omega)
 have q4 : a % b < b := Int.emod_lt_of_pos _ h3
 have hz : (b == 0) = false := by simp; omega
 have hza : (a == 0) = false := by simp; omega
 have hzb : ((-a) != 0) = true := by simp; omega
 have hzc : ((-a) == 0) = false := by simp; omega
 have h0 : 0 ≤ a := by omega
 have hs : ∀ w, Calls Tryd.prog 10 #[.int .i64 (-a)] w fun e w' => e = .returned (.int .i64 a) ∧ w = w' := fun w => (size_any (-a) w (by omega) (by omega)).mono fun _ _ h => by rw [show (((-a) : Int).natAbs : Int) = a by omega] at h; exact h
 have ht : ∀ w, Calls Tryd.prog 10 #[.int .i64 b] w fun e w' => e = .returned (.int .i64 b) ∧ w = w' := fun w => (size_any b w (by omega) (by omega)).mono fun _ _ h => by rw [show ((b : Int).natAbs : Int) = b by omega] at h; exact h
 have HS := Lib.hid hs
 have HT := Lib.hid ht
 clear hs ht
 have nb : decide (b < 0) = false := decide_eq_false (by omega)
 have hb0 : ¬ b = 0 := by omega
 have hdv : IntKind.i64.wrap ((a : Int).tdiv b) = a / b := by rw [Int.tdiv_eq_ediv_of_nonneg (by omega), IntKind.wrap_i64]; omega
 have hmd : (a : Int).tmod b = a % b := Int.tmod_eq_emod_of_nonneg (by omega)
 have HB0 := Lib.hid hb0
 have HDV := Lib.hid hdv
 have HMD := Lib.hid hmd
 have hw0 : IntKind.i64.wrap 0 = 0 := by rw [IntKind.wrap_i64]; rfl
 clear hb0 hdv hmd
 go_enter Tryd.func27, Tryd.ntmps27
 go_upto_region 2 with (fail)
 refine AS.region_facts (rqFL (-a) b a b (a / b) (a % b)) (DNo w) [[], [21], [], [23], [22, 24], [], [26], [], [28], [27, 29], [], [31], [25], [30], [32]] [] [[]] [0, 0, 0, 0, 0, 0, 0, 0, 0, 0, 0, 0, 0, 0, 0] [] (fun u => by simp only [rqFL, AS.temps, List.map_cons, List.map_nil, fillL, List.setIfInBounds_toArray, List.set_cons_zero, List.set_cons_succ]; rfl) (by kernel_rfl) (by kernel_rfl) (DNo.st w) (dc_drew (Below.refl _ _)) ?_ ?_
 ·refine AS.sc rfl rfl rfl ?_ ?_
  ·intro k_ u w_ hk hJ hF K hK
   clear hF
   go_simp
   exact hK.out _ _ (Below.refl _ _) (rfl) trivial
  refine AS.sc rfl rfl rfl ?_ ?_
  ·intro k_ u w_ hk hJ hF K hK
   have h21 : u 21 = .int .i64 (-a) := AS.facts_get hF 21 (by simp)
   clear hF
   simp only [h21] at hK ⊢
   clear h21
   go_simp
   refine (HS.out _).mono ?_
   rintro e w' ⟨rfl, rfl⟩
   exact hK.out _ _ (Below.refl _ _) rfl trivial
  refine AS.sc rfl rfl rfl ?_ ?_
  ·intro k_ u w_ hk hJ hF K hK
   clear hF
   go_simp
   exact hK.out _ _ (Below.refl _ _) (rfl) trivial
  refine AS.sc rfl rfl rfl ?_ ?_
  ·intro k_ u w_ hk hJ hF K hK
   have h23 : u 23 = .int .i64 b := AS.facts_get hF 23 (by simp)
   clear hF
   simp only [h23] at hK ⊢
   clear h23
   go_simp
   refine (HT.out _).mono ?_
   rintro e w' ⟨rfl, rfl⟩
   exact hK.out _ _ (Below.refl _ _) rfl trivial
  refine AS.sc rfl rfl rfl ?_ ?_
  ·intro k_ u w_ hk hJ hF K hK
   have h22 : u 22 = .int .i64 a := AS.facts_get hF 22 (by simp)
   have h24 : u 24 = .int .i64 b := AS.facts_get hF 24 (by simp)
   clear hF
   simp only [h22, h24] at hK ⊢
   clear h22 h24
   have o0 := HB0.out
   have o1 := HDV.out
   have o2 := HMD.out
   go_simp
   exact hK.out _ _ (Below.refl _ _) rfl trivial
  refine AS.sc rfl rfl rfl ?_ ?_
  ·intro k_ u w_ hk hJ hF K hK
   clear hF
   go_simp
   exact hK.out _ _ (Below.refl _ _) (rfl) trivial
  refine AS.sc rfl rfl rfl ?_ ?_
  ·intro k_ u w_ hk hJ hF K hK
   have h26 : u 26 = .int .i64 (-a) := AS.facts_get hF 26 (by simp)
   clear hF
   simp only [h26] at hK ⊢
   clear h26
   go_simp
   refine (HS.out _).mono ?_
   rintro e w' ⟨rfl, rfl⟩
   exact hK.out _ _ (Below.refl _ _) rfl trivial
  refine AS.sc rfl rfl rfl ?_ ?_
  ·intro k_ u w_ hk hJ hF K hK
   clear hF
   go_simp
   exact hK.out _ _ (Below.refl _ _) (rfl) trivial
  refine AS.sc rfl rfl rfl ?_ ?_
  ·intro k_ u w_ hk hJ hF K hK
   have h28 : u 28 = .int .i64 b := AS.facts_get hF 28 (by simp)
   clear hF
   simp only [h28] at hK ⊢
   clear h28
   go_simp
   refine (HT.out _).mono ?_
   rintro e w' ⟨rfl, rfl⟩
   exact hK.out _ _ (Below.refl _ _) rfl trivial
  refine AS.sc rfl rfl rfl ?_ ?_
  ·intro k_ u w_ hk hJ hF K hK
   have h27 : u 27 = .int .i64 a := AS.facts_get hF 27 (by simp)
   have h29 : u 29 = .int .i64 b := AS.facts_get hF 29 (by simp)
   clear hF
   simp only [h27, h29] at hK ⊢
   clear h27 h29
   have o0 := HB0.out
   have o1 := HDV.out
   have o2 := HMD.out
   go_simp
   exact hK.out _ _ (Below.refl _ _) rfl trivial
  refine AS.sc rfl rfl rfl ?_ ?_
  ·intro k_ u w_ hk hJ hF K hK
   clear hF
   go_simp
   exact hK.out _ _ (Below.refl _ _) (rfl) trivial
  refine AS.sc rfl rfl rfl ?_ ?_
  ·intro k_ u w_ hk hJ hF K hK
   have h31 : u 31 = .int .i64 b := AS.facts_get hF 31 (by simp)
   clear hF
   simp only [h31] at hK ⊢
   clear h31
   go_simp
   refine (HT.out _).mono ?_
   rintro e w' ⟨rfl, rfl⟩
   exact hK.out _ _ (Below.refl _ _) rfl trivial
  refine AS.sc rfl rfl rfl ?_ ?_
  ·intro k_ u w_ hk hJ hF K hK
   have h25 : u 25 = .int .i64 (a / b) := AS.facts_get hF 25 (by simp)
   clear hF
   simp only [h25] at hK ⊢
   clear h25
   go_simp
   exact hK.out _ _ (Below.refl _ _) rfl trivial
  refine AS.sc rfl rfl rfl ?_ ?_
  ·intro k_ u w_ hk hJ hF K hK
   have h30 : u 30 = .int .i64 (a % b) := AS.facts_get hF 30 (by simp)
   clear hF
   simp only [h30] at hK ⊢
   clear h30
   go_simp
   exact hK.out _ _ (Below.refl _ _) rfl trivial
  refine AS.sc rfl rfl rfl ?_ ?_
  ·intro k_ u w_ hk hJ hF K hK
   have h32 : u 32 = .int .i64 b := AS.facts_get hF 32 (by simp)
   clear hF
   simp only [h32] at hK ⊢
   clear h32
   go_simp
   exact hK.out _ _ (Below.refl _ _) rfl trivial
  exact AS.StepsOk.nil
 ·intro u W3 hJ9 hF
  have h8 : u 8 = .int .i64 (a / b) := AS.facts_get hF 8 (by simp [rqFL, AS.temps])
  have h9 : u 9 = .int .i64 (a % b) := AS.facts_get hF 9 (by simp [rqFL, AS.temps])
  have h10 : u 10 = .int .i64 b := AS.facts_get hF 10 (by simp [rqFL, AS.temps])
  clear hF
  rw [show u 8 = _ from h8, show u 9 = _ from h9, show u 10 = _ from h10]
  clear h8 h9 h10
  generalize a / b = x at *
  generalize a % b = r at *
  have hc : m = 0 ∨ m = 1 ∨ m = 2 ∨ m = 3 ∨ m = 4 ∨ m = 5 := by omega
  clear hm0 hm1
  rcases hc with rfl | rfl | rfl | rfl | rfl | rfl
  ·by_cases hr : 2 * r < b
   all_goals
    go_wp2_with fail
    go_ret
    exact ⟨dret_int (by rw [← HZ.out]; simp [sgn, rqN, upN, hr] <;> omega), hJ9⟩
  ·by_cases hr : 2 * r = b
   ·have hr1 : b ≤ 2 * r := by omega
    by_cases hx : x % 2 = 0
    ·have hx1 : (x % 2 == 1) = false := by simp; omega
     have hr2 : (2 * r == b) = true := by simpa using hr
     have hr3 : decide (b < 2 * r) = false := decide_eq_false (by omega)
     have HR := Lib.hid hr
     have HX := Lib.hid hx
     clear hr hx
     go_wp2_with fail
     go_ret
     exact ⟨dret_int (by rw [← HZ.out]; simp [sgn, rqN, upN, HR.out, HX.out] <;> omega), hJ9⟩
    ·have hx1 : (x % 2 == 1) = true := by simp; omega
     have hr2 : (2 * r == b) = true := by simpa using hr
     have hr3 : decide (b < 2 * r) = false := decide_eq_false (by omega)
     have hr4 : r ≠ 0 := by omega
     have HR := Lib.hid hr
     have HX := Lib.hid hx
     have H4 := Lib.hid hr4
     clear hr hx hr4
     go_wp2_with fail
     go_ret
     exact ⟨dret_int (by rw [← HZ.out]; simp [sgn, rqN, upN, HR.out, HX.out, H4.out] <;> omega), hJ9⟩
   ·have hr2 : (2 * r == b) = false := by simpa using hr
    have HR := Lib.hid hr
    clear hr
    by_cases hl : b < 2 * r
    ·have hr4 : r ≠ 0 := by omega
     have hl2 : ¬ 2 * r < b := by omega
     have H4 := Lib.hid hr4
     have HL := Lib.hid hl2
     clear hr4 hl2
     go_wp2_with fail
     go_ret
     exact ⟨dret_int (by rw [← HZ.out]; simp [sgn, rqN, upN, HR.out, HL.out, H4.out] <;> omega), hJ9⟩
    ·have hl1 : decide (b < 2 * r) = false := decide_eq_false hl
     have hl2 : 2 * r < b := by have := HR.out; omega
     have HL := Lib.hid hl2
     clear hl hl2
     go_wp2_with fail
     go_ret
     exact ⟨dret_int (by rw [← HZ.out]; simp [sgn, rqN, upN, HR.out, HL.out] <;> omega), hJ9⟩
  ·go_wp2_with fail
   go_ret
   exact ⟨dret_int (by rw [← HZ.out]; simp [sgn, rqN, upN]), hJ9⟩
  ·by_cases hr : r = 0
   ·subst hr
    go_wp2_with fail
    go_ret
    exact ⟨dret_int (by rw [← HZ.out]; simp [sgn, rqN, upN]), hJ9⟩
   ·have hr1 : 0 < r := by omega
    have HR := Lib.hid hr
    clear hr
    go_wp2_with fail
    go_ret
    exact ⟨dret_int (by rw [← HZ.out]; simp [sgn, rqN, upN, HR.out] <;> omega), hJ9⟩
  ·by_cases hr : r = 0
   ·subst hr
    go_wp2_with fail
    go_ret
    exact ⟨dret_int (by rw [← HZ.out]; simp [sgn, rqN, upN]), hJ9⟩
   ·have hr1 : 0 < r := by omega
    have HR := Lib.hid hr
    clear hr
    go_wp2_with fail
    go_ret
    exact ⟨dret_int (by rw [← HZ.out]; simp [sgn, rqN, upN, HR.out] <;> omega), hJ9⟩
  ·by_cases hr : r = 0
   ·subst hr
    go_wp2_with fail
    go_ret
    exact ⟨dret_int (by rw [← HZ.out]; simp [sgn, rqN, upN]), hJ9⟩
   ·have hr1 : 0 < r := by omega
    have HR := Lib.hid hr
    clear hr
    go_wp2_with fail
    go_ret
    exact ⟨dret_int (by rw [← HZ.out]; simp [sgn, rqN, upN, HR.out] <;> omega), hJ9⟩
set_option maxRecDepth 20000 in
set_option maxHeartbeats 3200000 in
theorem rq_11 (m a b : Int) (w : World) (hm0 : 0 ≤ m) (hm1 : m ≤ 5) (h1 : 0 < a) (h2 : a ≤ 1000000000000000000) (h3 : 0 < b) (h4 : b ≤ 1000000000000000000) :
  Calls Tryd.prog 27 #[.int .i64 (-a), .int .i64 (-b), .int .i64 m] w fun e w' => e = .returned (.int .i64 (sgn false (rqN m false (a / b) (a % b) b))) ∧ Below w.heap.size w w' := by
 obtain ⟨z, hz⟩ : ∃ z, sgn false (rqN m false (a / b) (a % b) b) = z := ⟨_, rfl⟩
 rw [hz]
 have HZ := Lib.hid hz
 clear hz
 have q0 : 0 ≤ a / b := Int.ediv_nonneg (by omega) (by omega)
 have q2 : a / b ≤ 1000000000000000000 := Int.le_trans (Int.ediv_le_self _ (by omega)) h2
 have q3 : 0 ≤ a % b := Int.emod_nonneg _ (by omega)
 have q4 : a % b < b := Int.emod_lt_of_pos _ h3
 have hz : (b == 0) = false := by simp; omega
 have hza : (a == 0) = false := by simp; omega
 have hzb : ((-a) != 0) = true := by simp; omega
 have hzc : ((-a) == 0) = false := by simp; omega
 have h0 : 0 ≤ a := by omega
 have hs : ∀ w, Calls Tryd.prog 10 #[.int .i64 (-a)] w fun e w' => e = .returned (.int .i64 a) ∧ w = w' := fun w => (size_any (-a) w (by omega) (by omega)).mono fun _ _ h => by rw [show (((-a) : Int).natAbs : Int) = a by omega] at h; exact h
 have ht : ∀ w, Calls Tryd.prog 10 #[.int .i64 (-b)] w fun e w' => e = .returned (.int .i64 b) ∧ w = w' := fun w => (size_any (-b) w (by omega) (by omega)).mono fun _ _ h => by rw [show (((-b) : Int).natAbs : Int) = b by omega] at h; exact h
 have HS := Lib.hid hs
 have HT := Lib.hid ht
 clear hs ht
 have hb0 : ¬ b = 0 := by omega
 have hdv : IntKind.i64.wrap ((a : Int).tdiv b) = a / b := by rw [Int.tdiv_eq_ediv_of_nonneg (by omega), IntKind.wrap_i64]; omega
 have hmd : (a : Int).tmod b = a % b := Int.tmod_eq_emod_of_nonneg (by omega)
 have HB0 := Lib.hid hb0
 have HDV := Lib.hid hdv
 have HMD := Lib.hid hmd
 have hw0 : IntKind.i64.wrap 0 = 0 := by rw [IntKind.wrap_i64]; rfl
 clear hb0 hdv hmd
 go_enter Tryd.func27, Tryd.ntmps27
 go_upto_region 2 with (fail)
 refine AS.region_facts (rqFL (-a) (-b) a b (a / b) (a % b)) (DNo w) [[], [21], [], [23], [22, 24], [], [26], [], [28], [27, 29], [], [31], [25], [30], [32]] [] [[]] [0, 0, 0, 0, 0, 0, 0, 0, 0, 0, 0, 0, 0, 0, 0] [] (fun u => by simp only [rqFL, AS.temps, List.map_cons, List.map_nil, fillL, List.setIfInBounds_toArray, List.set_cons_zero, List.set_cons_succ]; rfl) (by kernel_rfl) (by kernel_rfl) (DNo.st w) (dc_drew (Below.refl _ _)) ?_ ?_
 ·refine AS.sc rfl rfl rfl ?_ ?_
  ·intro k_ u w_ hk hJ hF K hK
   clear hF
   go_simp
   exact hK.out _ _ (Below.refl _ _) (rfl) trivial
  refine AS.sc rfl rfl rfl ?_ ?_
  ·intro k_ u w_ hk hJ hF K hK
   have h21 : u 21 = .int .i64 (-a) := AS.facts_get hF 21 (by simp)
   clear hF
   simp only [h21] at hK ⊢
   clear h21
   go_simp
   refine (HS.out _).mono ?_
   rintro e w' ⟨rfl, rfl⟩
   exact hK.out _ _ (Below.refl _ _) rfl trivial
  refine AS.sc rfl rfl rfl ?_ ?_
  ·intro k_ u w_ hk hJ hF K hK
   clear hF
   go_simp
   exact hK.out _ _ (Below.refl _ _) (rfl) trivial
  refine AS.sc rfl rfl rfl ?_ ?_
  ·intro k_ u w_ hk hJ hF K hK
   have h23 : u 23 = .int .i64 (-b) := AS.facts_get hF 23 (by simp)
   clear hF
   simp only [h23] at hK ⊢
   clear h23
   go_simp
   refine (HT.out _).mono ?_
   rintro e w' ⟨rfl, rfl⟩
   exact hK.out _ _ (Below.refl _ _) rfl trivial
  refine AS.sc rfl rfl rfl ?_ ?_
  ·intro k_ u w_ hk hJ hF K hK
   have h22 : u 22 = .int .i64 a := AS.facts_get hF 22 (by simp)
   have h24 : u 24 = .int .i64 b := AS.facts_get hF 24 (by simp)
   clear hF
   simp only [h22, h24] at hK ⊢
   clear h22 h24
   have o0 := HB0.out
   have o1 := HDV.out
   have o2 := HMD.out
   go_simp
   exact hK.out _ _ (Below.refl _ _) rfl trivial
  refine AS.sc rfl rfl rfl ?_ ?_
  ·intro k_ u w_ hk hJ hF K hK
   clear hF
   go_simp
   exact hK.out _ _ (Below.refl _ _) (rfl) trivial
  refine AS.sc rfl rfl rfl ?_ ?_
  ·intro k_ u w_ hk hJ hF K hK
   have h26 : u 26 = .int .i64 (-a) := AS.facts_get hF 26 (by simp)
   clear hF
   simp only [h26] at hK ⊢
   clear h26
   go_simp
   refine (HS.out _).mono ?_
   rintro e w' ⟨rfl, rfl⟩
   exact hK.out _ _ (Below.refl _ _) rfl trivial
  refine AS.sc rfl rfl rfl ?_ ?_
  ·intro k_ u w_ hk hJ hF K hK
   clear hF
   go_simp
   exact hK.out _ _ (Below.refl _ _) (rfl) trivial
  refine AS.sc rfl rfl rfl ?_ ?_
  ·intro k_ u w_ hk hJ hF K hK
   have h28 : u 28 = .int .i64 (-b) := AS.facts_get hF 28 (by simp)
   clear hF
   simp only [h28] at hK ⊢
   clear h28
   go_simp
   refine (HT.out _).mono ?_
   rintro e w' ⟨rfl, rfl⟩
   exact hK.out _ _ (Below.refl _ _) rfl trivial
  refine AS.sc rfl rfl rfl ?_ ?_
  ·intro k_ u w_ hk hJ hF K hK
   have h27 : u 27 = .int .i64 a := AS.facts_get hF 27 (by simp)
   have h29 : u 29 = .int .i64 b := AS.facts_get hF 29 (by simp)
   clear hF
   simp only [h27, h29] at hK ⊢
   clear h27 h29
   have o0 := HB0.out
   have o1 := HDV.out
   have o2 := HMD.out
   go_simp
   exact hK.out _ _ (Below.refl _ _) rfl trivial
  refine AS.sc rfl rfl rfl ?_ ?_
  ·intro k_ u w_ hk hJ hF K hK
   clear hF
   go_simp
   exact hK.out _ _ (Below.refl _ _) (rfl) trivial
  refine AS.sc rfl rfl rfl ?_ ?_
  ·intro k_ u w_ hk hJ hF K hK
   have h31 : u 31 = .int .i64 (-b) := AS.facts_get hF 31 (by simp)
   clear hF
   simp only [h31] at hK ⊢
   clear h31
   go_simp
   refine (HT.out _).mono ?_
   rintro e w' ⟨rfl, rfl⟩
   exact hK.out _ _ (Below.refl _ _) rfl trivial
  refine AS.sc rfl rfl rfl ?_ ?_
  ·intro k_ u w_ hk hJ hF K hK
   have h25 : u 25 = .int .i64 (a / b) := AS.facts_get hF 25 (by simp)
   clear hF
   simp only [h25] at hK ⊢
   clear h25
   go_simp
   exact hK.out _ _ (Below.refl _ _) rfl trivial
  refine AS.sc rfl rfl rfl ?_ ?_
  ·intro k_ u w_ hk hJ hF K hK
   have h30 : u 30 = .int .i64 (a % b) := AS.facts_get hF 30 (by simp)
   clear hF
   simp only [h30] at hK ⊢
   clear h30
   go_simp
   exact hK.out _ _ (Below.refl _ _) rfl trivial
  refine AS.sc rfl rfl rfl ?_ ?_
  ·intro k_ u w_ hk hJ hF K hK
   have h32 : u 32 = .int .i64 b := AS.facts_get hF 32 (by simp)
   clear hF
   simp only [h32] at hK ⊢
   clear h32
   go_simp
   exact hK.out _ _ (Below.refl _ _) rfl trivial
  exact AS.StepsOk.nil
 ·intro u W3 hJ9 hF
  have h8 : u 8 = .int .i64 (a / b) := AS.facts_get hF 8 (by simp [rqFL, AS.temps])
  have h9 : u 9 = .int .i64 (a % b) := AS.facts_get hF 9 (by simp [rqFL, AS.temps])
  have h10 : u 10 = .int .i64 b := AS.facts_get hF 10 (by simp [rqFL, AS.temps])
  clear hF
  rw [show u 8 = _ from h8, show u 9 = _ from h9, show u 10 = _ from h10]
  clear h8 h9 h10
  generalize a / b = x at *
  generalize a % b = r at *
  have hc : m = 0 ∨ m = 1 ∨ m = 2 ∨ m = 3 ∨ m = 4 ∨ m = 5 := by omega
  clear hm0 hm1
  rcases hc with rfl | rfl | rfl | rfl | rfl | rfl
  ·by_cases hr : 2 * r < b
   all_goals
    go_wp2_with fail
    go_ret
    exact ⟨dret_int (by rw [← HZ.out]; simp [sgn, rqN, upN, hr] <;> omega), hJ9⟩
  ·by_cases hr : 2 * r = b
   ·have hr1 : b ≤ 2 * r := by omega
    by_cases hx : x % 2 = 0
    ·have hx1 : (x % 2 == 1) = false := by simp; omega
     have hr2 : (2 * r == b) = true := by simpa using hr
     have hr3 : decide (b < 2 * r) = false := decide_eq_false (by omega)
     have HR := Lib.hid hr
     have HX := Lib.hid hx
     clear hr hx
     go_wp2_with fail
     go_ret
     exact ⟨dret_int (by rw [← HZ.out]; simp [sgn, rqN, upN, HR.out, HX.out] <;> omega), hJ9⟩
    ·have hx1 : (x % 2 == 1) = true := by simp; omega
     have hr2 : (2 * r == b) = true := by simpa using hr
     have hr3 : decide (b < 2 * r) = false := decide_eq_false (by omega)
     have hr4 : r ≠ 0 := by omega
     have HR := Lib.hid hr
     have HX := Lib.hid hx
     have H4 := Lib.hid hr4
     clear hr hx hr4
     go_wp2_with fail
     go_ret
     exact ⟨dret_int (by rw [← HZ.out]; simp [sgn, rqN, upN, HR.out, HX.out, H4.out] <;> omega), hJ9⟩
   ·have hr2 : (2 * r == b) = false := by simpa using hr
    have HR := Lib.hid hr
    clear hr
    by_cases hl : b < 2 * r
    ·have hr4 : r ≠ 0 := by omega
     have hl2 : ¬ 2 * r < b := by omega
     have H4 := Lib.hid hr4
     have HL := Lib.hid hl2
     clear hr4 hl2
     go_wp2_with fail
     go_ret
     exact ⟨dret_int (by rw [← HZ.out]; simp [sgn, rqN, upN, HR.out, HL.out, H4.out] <;> omega), hJ9⟩
    ·have hl1 : decide (b < 2 * r) = false := decide_eq_false hl
     have hl2 : 2 * r < b := by have := HR.out; omega
     have HL := Lib.hid hl2
     clear hl hl2
     go_wp2_with fail
     go_ret
     exact ⟨dret_int (by rw [← HZ.out]; simp [sgn, rqN, upN, HR.out, HL.out] <;> omega), hJ9⟩
  ·go_wp2_with fail
   go_ret
   exact ⟨dret_int (by rw [← HZ.out]; simp [sgn, rqN, upN]), hJ9⟩
  ·by_cases hr : r = 0
   ·subst hr
    go_wp2_with fail
    go_ret
    exact ⟨dret_int (by rw [← HZ.out]; simp [sgn, rqN, upN]), hJ9⟩
   ·have hr1 : 0 < r := by omega
    have HR := Lib.hid hr
    clear hr
    go_wp2_with fail
    go_ret
    exact ⟨dret_int (by rw [← HZ.out]; simp [sgn, rqN, upN, HR.out] <;> omega), hJ9⟩
  ·by_cases hr : r = 0
   ·subst hr
    go_wp2_with fail
    go_ret
    exact ⟨dret_int (by rw [← HZ.out]; simp [sgn, rqN, upN]), hJ9⟩
   ·have hr1 : 0 < r := by omega
    have HR := Lib.hid hr
    clear hr
    go_wp2_with fail
    go_ret
    exact ⟨dret_int (by rw [← HZ.out]; simp [sgn, rqN, upN, HR.out] <;> omega), hJ9⟩
  ·by_cases hr : r = 0
   ·subst hr
    go_wp2_with fail
    go_ret
    exact ⟨dret_int (by rw [← HZ.out]; simp [sgn, rqN, upN]), hJ9⟩
   ·have hr1 : 0 < r := by omega
    have HR := Lib.hid hr
    clear hr
    go_wp2_with fail
    go_ret
    exact ⟨dret_int (by rw [← HZ.out]; simp [sgn, rqN, upN, HR.out] <;> omega), hJ9⟩
set_option maxRecDepth 20000 in
set_option maxHeartbeats 3200000 in
theorem rq_20 (m b : Int) (w : World) (hm0 : 0 ≤ m) (hm1 : m ≤ 5) (h3 : b ≠ 0) (h4 : -1000000000000000000 ≤ b) (h5 : b ≤ 1000000000000000000) :
  Calls Tryd.prog 27 #[.int .i64 0, .int .i64 b, .int .i64 m] w fun e w' => e = .returned (.int .i64 (0)) ∧ Below w.heap.size w w' := by
 have hs : ∀ w, Calls Tryd.prog 10 #[.int .i64 0] w fun e w' => e = .returned (.int .i64 0) ∧ w = w' := fun w => size_any 0 w (by omega) (by omega)
 have ht : ∀ w, Calls Tryd.prog 10 #[.int .i64 b] w fun e w' => e = .returned (.int .i64 (b.natAbs : Int)) ∧ w = w' := fun w => size_any b w (by omega) (by omega)
 have HS := Lib.hid hs
 have HT := Lib.hid ht
 obtain ⟨B, hB⟩ : ∃ B, (b.natAbs : Int) = B := ⟨_, rfl⟩
 have hB0 : 0 < B := by omega
 rw [hB] at HT
 clear hs ht hB h3 h4 h5
 have hz : (B == 0) = false := by simp; omega
 have q0 : (0 : Int) / B = 0 := Int.zero_ediv _
 have q1 : (0 : Int) % B = 0 := Int.zero_emod _
 have Q0 := Lib.hid q0
 have Q1 := Lib.hid q1
 clear q0 q1
 have hb0 : ¬ B = 0 := by omega
 have hdv : IntKind.i64.wrap ((0 : Int).tdiv B) = 0 / B := by rw [Int.tdiv_eq_ediv_of_nonneg (by omega), IntKind.wrap_i64]; rw [Q0.out]; rfl
 have hmd : (0 : Int).tmod B = 0 % B := Int.tmod_eq_emod_of_nonneg (by omega)
 have HB0 := Lib.hid hb0
 have HDV := Lib.hid hdv
 have HMD := Lib.hid hmd
 have hw0 : IntKind.i64.wrap 0 = 0 := by rw [IntKind.wrap_i64]; rfl
 clear hb0 hdv hmd
 go_enter Tryd.func27, Tryd.ntmps27
 go_upto_region 2 with (fail)
 refine AS.region_facts (rqFL 0 b 0 B 0 0) (DNo w) [[], [21], [], [23], [22, 24], [], [26], [], [28], [27, 29], [], [31], [25], [30], [32]] [] [[]] [0, 0, 0, 0, 0, 0, 0, 0, 0, 0, 0, 0, 0, 0, 0] [] (fun u => by simp only [rqFL, AS.temps, List.map_cons, List.map_nil, fillL, List.setIfInBounds_toArray, List.set_cons_zero, List.set_cons_succ]; rfl) (by kernel_rfl) (by kernel_rfl) (DNo.st w) (dc_drew (Below.refl _ _)) ?_ ?_
 ·refine AS.sc rfl rfl rfl ?_ ?_
  ·intro k_ u w_ hk hJ hF K hK
   clear hF
   go_simp
   exact hK.out _ _ (Below.refl _ _) (rfl) trivial
  refine AS.sc rfl rfl rfl ?_ ?_
  ·intro k_ u w_ hk hJ hF K hK
   have h21 : u 21 = .int .i64 0 := AS.facts_get hF 21 (by simp)
   clear hF
   simp only [h21] at hK ⊢
   clear h21
   go_simp
   refine (HS.out _).mono ?_
   rintro e w' ⟨rfl, rfl⟩
   exact hK.out _ _ (Below.refl _ _) rfl trivial
  refine AS.sc rfl rfl rfl ?_ ?_
  ·intro k_ u w_ hk hJ hF K hK
   clear hF
   go_simp
   exact hK.out _ _ (Below.refl _ _) (rfl) trivial
  refine AS.sc rfl rfl rfl ?_ ?_
  ·intro k_ u w_ hk hJ hF K hK
   have h23 : u 23 = .int .i64 b := AS.facts_get hF 23 (by simp)
   clear hF
   simp only [h23] at hK ⊢
   clear h23
   go_simp
   refine (HT.out _).mono ?_
   rintro e w' ⟨rfl, rfl⟩
   exact hK.out _ _ (Below.refl _ _) rfl trivial
  refine AS.sc rfl rfl rfl ?_ ?_
  ·intro k_ u w_ hk hJ hF K hK
   have h22 : u 22 = .int .i64 0 := AS.facts_get hF 22 (by simp)
   have h24 : u 24 = .int .i64 B := AS.facts_get hF 24 (by simp)
   clear hF
   simp only [h22, h24] at hK ⊢
   clear h22 h24
   have o0 := HB0.out
   have o1 := HDV.out
   have o2 := HMD.out
   go_simp
   exact hK.out _ _ (Below.refl _ _) rfl trivial
  refine AS.sc rfl rfl rfl ?_ ?_
  ·intro k_ u w_ hk hJ hF K hK
   clear hF
   go_simp
   exact hK.out _ _ (Below.refl _ _) (rfl) trivial
  refine AS.sc rfl rfl rfl ?_ ?_
  ·intro k_ u w_ hk hJ hF K hK
   have h26 : u 26 = .int .i64 0 := AS.facts_get hF 26 (by simp)
   clear hF
   simp only [h26] at hK ⊢
   clear h26
   go_simp
   refine (HS.out _).mono ?_
   rintro e w' ⟨rfl, rfl⟩
   exact hK.out _ _ (Below.refl _ _) rfl trivial
  refine AS.sc rfl rfl rfl ?_ ?_
  ·intro k_ u w_ hk hJ hF K hK
   clear hF
   go_simp
   exact hK.out _ _ (Below.refl _ _) (rfl) trivial
  refine AS.sc rfl rfl rfl ?_ ?_
  ·intro k_ u w_ hk hJ hF K hK
   have h28 : u 28 = .int .i64 b := AS.facts_get hF 28 (by simp)
   clear hF
   simp only [h28] at hK ⊢
   clear h28
   go_simp
   refine (HT.out _).mono ?_
   rintro e w' ⟨rfl, rfl⟩
   exact hK.out _ _ (Below.refl _ _) rfl trivial
  refine AS.sc rfl rfl rfl ?_ ?_
  ·intro k_ u w_ hk hJ hF K hK
   have h27 : u 27 = .int .i64 0 := AS.facts_get hF 27 (by simp)
   have h29 : u 29 = .int .i64 B := AS.facts_get hF 29 (by simp)
   clear hF
   simp only [h27, h29] at hK ⊢
   clear h27 h29
   have o0 := HB0.out
   have o1 := HDV.out
   have o2 := HMD.out
   go_simp
   exact hK.out _ _ (Below.refl _ _) rfl trivial
  refine AS.sc rfl rfl rfl ?_ ?_
  ·intro k_ u w_ hk hJ hF K hK
   clear hF
   go_simp
   exact hK.out _ _ (Below.refl _ _) (rfl) trivial
  refine AS.sc rfl rfl rfl ?_ ?_
  ·intro k_ u w_ hk hJ hF K hK
   have h31 : u 31 = .int .i64 b := AS.facts_get hF 31 (by simp)
   clear hF
   simp only [h31] at hK ⊢
   clear h31
   go_simp
   refine (HT.out _).mono ?_
   rintro e w' ⟨rfl, rfl⟩
   exact hK.out _ _ (Below.refl _ _) rfl trivial
  refine AS.sc rfl rfl rfl ?_ ?_
  ·intro k_ u w_ hk hJ hF K hK
   have h25 : u 25 = .int .i64 0 := AS.facts_get hF 25 (by simp)
   clear hF
   simp only [h25] at hK ⊢
   clear h25
   go_simp
   exact hK.out _ _ (Below.refl _ _) rfl trivial
  refine AS.sc rfl rfl rfl ?_ ?_
  ·intro k_ u w_ hk hJ hF K hK
   have h30 : u 30 = .int .i64 0 := AS.facts_get hF 30 (by simp)
   clear hF
   simp only [h30] at hK ⊢
   clear h30
   go_simp
   exact hK.out _ _ (Below.refl _ _) rfl trivial
  refine AS.sc rfl rfl rfl ?_ ?_
  ·intro k_ u w_ hk hJ hF K hK
   have h32 : u 32 = .int .i64 B := AS.facts_get hF 32 (by simp)
   clear hF
   simp only [h32] at hK ⊢
   clear h32
   go_simp
   exact hK.out _ _ (Below.refl _ _) rfl trivial
  exact AS.StepsOk.nil
 ·intro u W3 hJ9 hF
  have h8 : u 8 = .int .i64 0 := AS.facts_get hF 8 (by simp [rqFL, AS.temps])
  have h9 : u 9 = .int .i64 0 := AS.facts_get hF 9 (by simp [rqFL, AS.temps])
  have h10 : u 10 = .int .i64 B := AS.facts_get hF 10 (by simp [rqFL, AS.temps])
  clear hF
  rw [show u 8 = _ from h8, show u 9 = _ from h9, show u 10 = _ from h10]
  clear h8 h9 h10
  have hc : m = 0 ∨ m = 1 ∨ m = 2 ∨ m = 3 ∨ m = 4 ∨ m = 5 := by omega
  clear hm0 hm1
  rcases hc with rfl | rfl | rfl | rfl | rfl | rfl
  all_goals
   go_wp2_with fail
   go_ret
   exact ⟨rfl, hJ9⟩
theorem dcquo_any (m a b : Int) (w : World) (hm0 : 0 ≤ m) (hm1 : m ≤ 5) (h1 : -1000000000000000000 ≤ a) (h2 : a ≤ 1000000000000000000) (h3 : -1000000000000000000 ≤ b) (h4 : b ≤ 1000000000000000000) (h0 : b ≠ 0) :
  Calls Tryd.prog 27 #[.int .i64 a, .int .i64 b, .int .i64 m] w fun e w' => e = .returned (.int .i64 (rnd m a b)) ∧ Below w.heap.size w w' := by
 by_cases hz : a = 0
 ·subst hz
  rw [rnd_zero m b hm0 hm1 h0]
  exact rq_20 m b w hm0 hm1 h0 h3 h4
 unfold rnd
 by_cases ha : a < 0
 ·obtain ⟨A, rfl⟩ : ∃ A, a = -A := ⟨-a, by omega⟩
  rw [show ((-A).natAbs : Int) = A by omega]
  by_cases hb : b < 0
  ·obtain ⟨B, rfl⟩ : ∃ B, b = -B := ⟨-b, by omega⟩
   rw [show ((-B).natAbs : Int) = B by omega, show negB (-A) (-B) = false by unfold negB; rw [decide_eq_true ha, decide_eq_true hb]; rfl]
   exact rq_11 m A B w hm0 hm1 (by omega) (by omega) (by omega) (by omega)
  ·rw [show (b.natAbs : Int) = b by omega, show negB (-A) b = true by unfold negB; rw [decide_eq_true ha, decide_eq_false hb]; rfl]
   exact rq_10 m A b w hm0 hm1 (by omega) (by omega) (by omega) (by omega)
 ·rw [show (a.natAbs : Int) = a by omega]
  by_cases hb : b < 0
  ·obtain ⟨B, rfl⟩ : ∃ B, b = -B := ⟨-b, by omega⟩
   rw [show ((-B).natAbs : Int) = B by omega, show negB a (-B) = true by unfold negB; rw [decide_eq_false ha, decide_eq_true hb]; rfl]
   exact rq_01 m a B w hm0 hm1 (by omega) (by omega) (by omega) (by omega)
  ·rw [show (b.natAbs : Int) = b by omega, show negB a b = false by unfold negB; rw [decide_eq_false ha, decide_eq_false hb]; rfl]
   exact rq_00 m a b w hm0 hm1 (by omega) (by omega) (by omega) (by omega)
def roundE (a b m : Int) : Int := if modeB m then (if termB a && termB b then (if b = 0 then 10 else 0) else 2) else 1
def roundV (a b m : Int) : Int := if roundE a b m = 0 then rnd m a b else 0
def quantE (n s m : Int) : Int := if modeB m then (if validB n 0 && (validB s 0 && decide (0 < s)) then 0 else 2) else 1
def quantV (n s m : Int) : Int := if quantE n s m = 0 then rnd m n s * s else 0
theorem rnd_mul {m n s : Int} (hn : -1000000000000000 ≤ n ∧ n ≤ 1000000000000000) (hs : 0 < s) (hs2 : s ≤ 1000000000000000) :
  -2000000000000000 ≤ rnd m n s * s ∧ rnd m n s * s ≤ 2000000000000000 := by
 unfold rnd
 have e : (s.natAbs : Int) = s := by omega
 rw [e]
 obtain ⟨a, ha⟩ : ∃ a, (n.natAbs : Int) = a := ⟨_, rfl⟩
 rw [ha]
 have ha0 : 0 ≤ a := by omega
 have ha1 : a ≤ 1000000000000000 := by omega
 have h0 : 0 ≤ a / s := Int.ediv_nonneg ha0 (by omega)
 have h1 : a / s * s ≤ a := Int.ediv_mul_le _ (by omega)
 generalize a % s = r
 generalize negB n s = neg
 generalize a / s = x at *
 have h2 := rqN_bd (m := m) (neg := neg) (r := r) (d := s) h0 (Int.le_refl x)
 obtain ⟨y, hy⟩ : ∃ y, rqN m neg x r s = y := ⟨_, rfl⟩
 rw [hy] at h2 ⊢
 have h3 : y * s ≤ (x + 1) * s := Int.mul_le_mul_of_nonneg_right h2.2 (by omega)
 have h4 : 0 ≤ y * s := Int.mul_nonneg h2.1 (by omega)
 rw [Int.add_mul, Int.one_mul] at h3
 unfold sgn
 cases neg
 ·simp only [Bool.false_eq_true, if_false]; omega
 ·simp only [if_true, Int.neg_mul]; omega
set_option maxHeartbeats 1600000 in
theorem round_any (a b m : Int) (w : World) : Calls Tryd.prog 11 #[.int .i64 a, .int .i64 b, .int .i64 m] w fun e w' => e = .returned (.tuple #[.int .i64 (roundV a b m), .int .i64 (roundE a b m)]) ∧ Below w.heap.size w w' := by
 unfold roundV roundE
 cases hm : modeB m
 ·simp (config := { decide := true }) only [↓reduceIte, Bool.false_eq_true, Bool.false_and, Bool.and_false, Bool.and_self]
  have hB := Below.refl w.heap.size w
  go_enter Tryd.func11, Tryd.ntmps11
  go_wp2_with (first | (go_at_call 19; refine (isMode_any _ _).mono ?_; rintro e w' ⟨rfl, hb⟩; replace hB := below_more hB hb; clear hb) | (go_at_call 20; refine (isTerm_any _ _).mono ?_; rintro e w' ⟨rfl, rfl⟩) | (go_at_call 21; refine (rounded_any _ _ _ _ (by omega) (by omega) (by omega) (by omega) (by omega) (by omega) (by omega)).mono ?_; rintro e w' ⟨rfl, hb⟩; replace hB := below_more hB hb; clear hb))
  go_ret2
  exact ⟨rfl, hB⟩
 ·rw [if_pos rfl]
  have hm2 := modeB_is hm
  obtain ⟨hm3, hm4⟩ := hm2
  cases ha : termB a
  ·simp (config := { decide := true }) only [↓reduceIte, Bool.false_eq_true, Bool.false_and, Bool.and_false, Bool.and_self]
   have hB := Below.refl w.heap.size w
   go_enter Tryd.func11, Tryd.ntmps11
   go_wp2_with (first | (go_at_call 19; refine (isMode_any _ _).mono ?_; rintro e w' ⟨rfl, hb⟩; replace hB := below_more hB hb; clear hb) | (go_at_call 20; refine (isTerm_any _ _).mono ?_; rintro e w' ⟨rfl, rfl⟩) | (go_at_call 21; refine (rounded_any _ _ _ _ (by omega) (by omega) (by omega) (by omega) (by omega) (by omega) (by omega)).mono ?_; rintro e w' ⟨rfl, hb⟩; replace hB := below_more hB hb; clear hb))
   go_ret2
   exact ⟨rfl, hB⟩
  ·cases hb : termB b
   ·simp (config := { decide := true }) only [↓reduceIte, Bool.false_eq_true, Bool.false_and, Bool.and_false, Bool.and_self]
    have hB := Below.refl w.heap.size w
    go_enter Tryd.func11, Tryd.ntmps11
    go_wp2_with (first | (go_at_call 19; refine (isMode_any _ _).mono ?_; rintro e w' ⟨rfl, hb⟩; replace hB := below_more hB hb; clear hb) | (go_at_call 20; refine (isTerm_any _ _).mono ?_; rintro e w' ⟨rfl, rfl⟩) | (go_at_call 21; refine (rounded_any _ _ _ _ (by omega) (by omega) (by omega) (by omega) (by omega) (by omega) (by omega)).mono ?_; rintro e w' ⟨rfl, hb⟩; replace hB := below_more hB hb; clear hb))
    go_ret2
    exact ⟨rfl, hB⟩
   ·rw [Bool.and_self, if_pos rfl]
    obtain ⟨ha3, ha4⟩ := termB_is ha
    obtain ⟨hb3, hb4⟩ := termB_is hb
    by_cases h0 : b = 0
    ·subst h0
     rw [if_pos rfl, if_neg (by decide)]
     have hB := Below.refl w.heap.size w
     go_enter Tryd.func11, Tryd.ntmps11
     go_wp2_with (first | (go_at_call 19; refine (isMode_any _ _).mono ?_; rintro e w' ⟨rfl, hb⟩; replace hB := below_more hB hb; clear hb) | (go_at_call 20; refine (isTerm_any _ _).mono ?_; rintro e w' ⟨rfl, rfl⟩) | (go_at_call 21; refine (rounded_any _ _ _ _ (by omega) (by omega) (by omega) (by omega) (by omega) (by omega) (by omega)).mono ?_; rintro e w' ⟨rfl, hb⟩; replace hB := below_more hB hb; clear hb))
     go_ret2
     exact ⟨rfl, hB⟩
    ·rw [if_neg h0, if_pos rfl]
     have h1 : (b == 0) = false := by simpa using h0
     have hB := Below.refl w.heap.size w
     go_enter Tryd.func11, Tryd.ntmps11
     go_wp2_with (first | (go_at_call 19; refine (isMode_any _ _).mono ?_; rintro e w' ⟨rfl, hb⟩; replace hB := below_more hB hb; clear hb) | (go_at_call 20; refine (isTerm_any _ _).mono ?_; rintro e w' ⟨rfl, rfl⟩) | (go_at_call 21; refine (rounded_any _ _ _ _ (by omega) (by omega) (by omega) (by omega) (by omega) (by omega) (by omega)).mono ?_; rintro e w' ⟨rfl, hb⟩; replace hB := below_more hB hb; clear hb))
     go_ret2
     exact ⟨rfl, hB⟩
set_option maxHeartbeats 1600000 in
theorem quant_any (n s m : Int) (w : World) : Calls Tryd.prog 15 #[.int .i64 n, .int .i64 s, .int .i64 m] w fun e w' => e = .returned (.tuple #[.int .i64 (quantV n s m), .int .i64 (quantE n s m)]) ∧ Below w.heap.size w w' := by
 unfold quantV quantE
 cases hm : modeB m
 ·simp (config := { decide := true }) only [↓reduceIte, Bool.false_eq_true, Bool.false_and, Bool.and_false, Bool.and_self]
  have hB := Below.refl w.heap.size w
  go_enter Tryd.func15, Tryd.ntmps15
  go_wp2_with (first | (go_at_call 19; refine (isMode_any _ _).mono ?_; rintro e w' ⟨rfl, hb⟩; replace hB := below_more hB hb; clear hb) | (go_at_call 23; refine (valid_any _ _ _).mono ?_; rintro e w' ⟨rfl, rfl⟩) | (go_at_call 21; refine (rounded_any _ _ _ _ (by omega) (by omega) (by omega) (by omega) (by omega) (by omega) (by omega)).mono ?_; rintro e w' ⟨rfl, hb⟩; replace hB := below_more hB hb; clear hb))
  go_ret2
  exact ⟨rfl, hB⟩
 ·rw [if_pos rfl]
  have hm2 := modeB_is hm
  obtain ⟨hm3, hm4⟩ := hm2
  cases ha : validB n 0
  ·simp (config := { decide := true }) only [↓reduceIte, Bool.false_eq_true, Bool.false_and, Bool.and_false, Bool.and_self]
   have hB := Below.refl w.heap.size w
   go_enter Tryd.func15, Tryd.ntmps15
   go_wp2_with (first | (go_at_call 19; refine (isMode_any _ _).mono ?_; rintro e w' ⟨rfl, hb⟩; replace hB := below_more hB hb; clear hb) | (go_at_call 23; refine (valid_any _ _ _).mono ?_; rintro e w' ⟨rfl, rfl⟩) | (go_at_call 21; refine (rounded_any _ _ _ _ (by omega) (by omega) (by omega) (by omega) (by omega) (by omega) (by omega)).mono ?_; rintro e w' ⟨rfl, hb⟩; replace hB := below_more hB hb; clear hb))
   go_ret2
   exact ⟨rfl, hB⟩
  ·obtain ⟨⟨ha3, ha4⟩, -⟩ := validB_is ha
   cases hb : validB s 0
   ·simp (config := { decide := true }) only [↓reduceIte, Bool.false_eq_true, Bool.false_and, Bool.and_false, Bool.and_self]
    have hB := Below.refl w.heap.size w
    go_enter Tryd.func15, Tryd.ntmps15
    go_wp2_with (first | (go_at_call 19; refine (isMode_any _ _).mono ?_; rintro e w' ⟨rfl, hb⟩; replace hB := below_more hB hb; clear hb) | (go_at_call 23; refine (valid_any _ _ _).mono ?_; rintro e w' ⟨rfl, rfl⟩) | (go_at_call 21; refine (rounded_any _ _ _ _ (by omega) (by omega) (by omega) (by omega) (by omega) (by omega) (by omega)).mono ?_; rintro e w' ⟨rfl, hb⟩; replace hB := below_more hB hb; clear hb))
    go_ret2
    exact ⟨rfl, hB⟩
   ·obtain ⟨⟨hb3, hb4⟩, -⟩ := validB_is hb
    by_cases h0 : 0 < s
    ·rw [decide_eq_true h0, Bool.and_self, Bool.and_self, if_pos rfl, if_pos rfl]
     obtain ⟨hx1, hx2⟩ := rnd_mul (m := m) (n := n) (s := s) ⟨ha3, ha4⟩ (by omega) (by omega)
     have hB := Below.refl w.heap.size w
     go_enter Tryd.func15, Tryd.ntmps15
     go_wp2_with (first | (go_at_call 19; refine (isMode_any _ _).mono ?_; rintro e w' ⟨rfl, hb⟩; replace hB := below_more hB hb; clear hb) | (go_at_call 23; refine (valid_any _ _ _).mono ?_; rintro e w' ⟨rfl, rfl⟩) | (go_at_call 21; refine (rounded_any _ _ _ _ (by omega) (by omega) (by omega) (by omega) (by omega) (by omega) (by omega)).mono ?_; rintro e w' ⟨rfl, hb⟩; replace hB := below_more hB hb; clear hb))
     go_ret2
     exact ⟨rfl, hB⟩
    ·rw [decide_eq_false h0]; simp (config := { decide := true }) only [↓reduceIte, Bool.false_eq_true, Bool.false_and, Bool.and_false, Bool.and_self]
     have h1 : decide (s ≤ 0) = true := decide_eq_true (by omega)
     have hB := Below.refl w.heap.size w
     go_enter Tryd.func15, Tryd.ntmps15
     go_wp2_with (first | (go_at_call 19; refine (isMode_any _ _).mono ?_; rintro e w' ⟨rfl, hb⟩; replace hB := below_more hB hb; clear hb) | (go_at_call 23; refine (valid_any _ _ _).mono ?_; rintro e w' ⟨rfl, rfl⟩) | (go_at_call 21; refine (rounded_any _ _ _ _ (by omega) (by omega) (by omega) (by omega) (by omega) (by omega) (by omega)).mono ?_; rintro e w' ⟨rfl, hb⟩; replace hB := below_more hB hb; clear hb))
     go_ret2
     exact ⟨rfl, hB⟩
set_option maxHeartbeats 1600000 in
theorem rquant_any (n s m : Int) (w : World) : Calls Tryd.prog 16 #[.int .i64 n, .int .i64 s, .int .i64 m] w fun e w' => e = .returned (.tuple #[.int .i64 (quantV n s m), .int .i64 (quantE n s m)]) ∧ Below w.heap.size w w' := by
 unfold quantV quantE
 cases hm : modeB m
 ·simp (config := { decide := true }) only [↓reduceIte, Bool.false_eq_true, Bool.false_and, Bool.and_false, Bool.and_self]
  have hB := Below.refl w.heap.size w
  go_enter Tryd.func16, Tryd.ntmps16
  go_wp2_with (first | (go_at_call 25; refine (known_any _ _).mono ?_; rintro e w' ⟨rfl, rfl⟩) | (go_at_call 26; refine (rvalid_any _ _ _).mono ?_; rintro e w' ⟨rfl, rfl⟩) | (go_at_call 27; refine (dcquo_any _ _ _ _ (by omega) (by omega) (by omega) (by omega) (by omega) (by omega) (by omega)).mono ?_; rintro e w' ⟨rfl, hb⟩; replace hB := below_more hB hb; clear hb))
  go_ret2
  exact ⟨rfl, hB⟩
 ·rw [if_pos rfl]
  have hm2 := modeB_is hm
  obtain ⟨hm3, hm4⟩ := hm2
  cases ha : validB n 0
  ·simp (config := { decide := true }) only [↓reduceIte, Bool.false_eq_true, Bool.false_and, Bool.and_false, Bool.and_self]
   have hB := Below.refl w.heap.size w
   go_enter Tryd.func16, Tryd.ntmps16
   go_wp2_with (first | (go_at_call 25; refine (known_any _ _).mono ?_; rintro e w' ⟨rfl, rfl⟩) | (go_at_call 26; refine (rvalid_any _ _ _).mono ?_; rintro e w' ⟨rfl, rfl⟩) | (go_at_call 27; refine (dcquo_any _ _ _ _ (by omega) (by omega) (by omega) (by omega) (by omega) (by omega) (by omega)).mono ?_; rintro e w' ⟨rfl, hb⟩; replace hB := below_more hB hb; clear hb))
   go_ret2
   exact ⟨rfl, hB⟩
  ·obtain ⟨⟨ha3, ha4⟩, -⟩ := validB_is ha
   by_cases h0 : 0 < s
   ·by_cases h1 : s ≤ 1000000000000000
    ·rw [decide_eq_true h0, show validB s 0 = true by simp [validB, scaleB]; omega, Bool.and_self, Bool.and_self, if_pos rfl, if_pos rfl]
     have h2 : decide (s < 1) = false := decide_eq_false (by omega)
     have h3 : decide (1000000000000000 < s) = false := decide_eq_false (by omega)
     obtain ⟨hx1, hx2⟩ := rnd_mul (m := m) (n := n) (s := s) ⟨ha3, ha4⟩ (by omega) (by omega)
     rw [Int.mul_comm]
     rw [Int.mul_comm] at hx1 hx2
     have hB := Below.refl w.heap.size w
     go_enter Tryd.func16, Tryd.ntmps16
     go_wp2_with (first | (go_at_call 25; refine (known_any _ _).mono ?_; rintro e w' ⟨rfl, rfl⟩) | (go_at_call 26; refine (rvalid_any _ _ _).mono ?_; rintro e w' ⟨rfl, rfl⟩) | (go_at_call 27; refine (dcquo_any _ _ _ _ (by omega) (by omega) (by omega) (by omega) (by omega) (by omega) (by omega)).mono ?_; rintro e w' ⟨rfl, hb⟩; replace hB := below_more hB hb; clear hb))
     go_ret2
     exact ⟨rfl, hB⟩
    ·rw [show validB s 0 = false by simp [validB, scaleB]; omega]; simp (config := { decide := true }) only [↓reduceIte, Bool.false_eq_true, Bool.false_and, Bool.and_false, Bool.and_self]
     have h2 : decide (s < 1) = false := decide_eq_false (by omega)
     have h3 : decide (1000000000000000 < s) = true := decide_eq_true (by omega)
     clear h0 h1
     have hB := Below.refl w.heap.size w
     go_enter Tryd.func16, Tryd.ntmps16
     go_wp2_with (first | (go_at_call 25; refine (known_any _ _).mono ?_; rintro e w' ⟨rfl, rfl⟩) | (go_at_call 26; refine (rvalid_any _ _ _).mono ?_; rintro e w' ⟨rfl, rfl⟩) | (go_at_call 27; refine (dcquo_any _ _ _ _ (by omega) (by omega) (by omega) (by omega) (by omega) (by omega) (by omega)).mono ?_; rintro e w' ⟨rfl, hb⟩; replace hB := below_more hB hb; clear hb))
     go_ret2
     exact ⟨rfl, hB⟩
   ·rw [decide_eq_false h0]; simp (config := { decide := true }) only [↓reduceIte, Bool.false_eq_true, Bool.false_and, Bool.and_false, Bool.and_self]
    have h2 : decide (s < 1) = true := decide_eq_true (by omega)
    clear h0
    have hB := Below.refl w.heap.size w
    go_enter Tryd.func16, Tryd.ntmps16
    go_wp2_with (first | (go_at_call 25; refine (known_any _ _).mono ?_; rintro e w' ⟨rfl, rfl⟩) | (go_at_call 26; refine (rvalid_any _ _ _).mono ?_; rintro e w' ⟨rfl, rfl⟩) | (go_at_call 27; refine (dcquo_any _ _ _ _ (by omega) (by omega) (by omega) (by omega) (by omega) (by omega) (by omega)).mono ?_; rintro e w' ⟨rfl, hb⟩; replace hB := below_more hB hb; clear hb))
    go_ret2
    exact ⟨rfl, hB⟩
theorem dig1234 : Lib.itoa (-1234) = [45, 49, 50, 51, 52] := by
 have h : Lib.decDigits 1234 = [49, 50, 51, 52] := by
  rw [Lib.decDigits, dif_neg (by decide), Lib.decDigits, dif_neg (by decide), Lib.decDigits, dif_neg (by decide), Lib.decDigits, dif_pos (by decide)]
  rfl
 show (if (-1234 : Int) < 0 then 45 :: Lib.decDigits 1234 else _) = _
 rw [if_pos (by decide), h]
theorem text1234 (w : World) (ht : DTab w.heap.size w) : Calls Tryd.prog 18 #[.int .i64 (-1234), .int .i64 2] w fun e w' => e = .returned (.string ⟨#[45, 49, 50, 46, 51, 52]⟩) ∧ Below w.heap.size w w' :=
 dtext_100 (-1234) [45, 49, 50, 51, 52] [49, 50, 51, 52] 2 w ht (by decide) dig1234 (by decide) (by decide) (by decide) (by decide) (by decide)
theorem round52 (w : World) : Calls Tryd.prog 11 #[.int .i64 (-5), .int .i64 2, .int .i64 0] w fun e w' => e = .returned (.tuple #[.int .i64 (-3), .int .i64 0]) ∧ Below w.heap.size w w' := by
 have h := round_any (-5) 2 0 w
 rw [show roundV (-5) 2 0 = -3 by decide, show roundE (-5) 2 0 = 0 by decide] at h
 exact h
set_option maxHeartbeats 800000 in
theorem dawake_any (w : World) (ht : DTab w.heap.size w) : Calls Tryd.prog 9 #[] w fun e w' => e = .returned (.bool true) ∧ Below w.heap.size w w' := by
 have HT := Lib.hid ht
 clear ht
 have hB := Below.refl w.heap.size w
 go_enter Tryd.func9, Tryd.ntmps9
 go_wp2_with (first | (go_at_call 11; refine (round52 _).mono ?_; rintro e w' ⟨rfl, hb⟩; replace hB := below_more hB hb; clear hb) | (go_at_call 18; refine (text1234 _ (DTab.up HT.out hB)).mono ?_; rintro e w' ⟨rfl, hb⟩; replace hB := below_more hB hb; clear hb))
 go_ret
 exact ⟨rfl, hB⟩
theorem quant_div (n s m : Int) (h : quantE n s m = 0) : 0 < s ∧ s ≤ 1000000000000000 ∧ (-2000000000000000 ≤ quantV n s m ∧ quantV n s m ≤ 2000000000000000) ∧ (quantV n s m).tmod s = 0 := by
 have hv : quantV n s m = rnd m n s * s := by unfold quantV; rw [if_pos h]
 unfold quantE at h
 by_cases h1 : modeB m = true
 ·rw [if_pos h1] at h
  by_cases h2 : (validB n 0 && (validB s 0 && decide (0 < s))) = true
  ·simp only [Bool.and_eq_true, decide_eq_true_eq] at h2
   have hn := validB_is h2.1
   have hs := validB_is h2.2.1
   rw [hv]
   exact ⟨h2.2.2, hs.1.2, rnd_mul hn.1 h2.2.2 hs.1.2, Int.mul_tmod_left _ _⟩
  ·rw [if_neg h2] at h; omega
 ·rw [if_neg h1] at h; omega
set_option maxHeartbeats 800000 in
theorem law_dquant (n s m : Int) (w : World) (ht : DTab w.heap.size w) : Calls Tryd.prog 7 #[.int .i64 n, .int .i64 s, .int .i64 m] w fun e w' => e = .returned (.bool true) ∧ Below w.heap.size w w' := by
 have hd := quant_div n s m
 have hq := fun w => quant_any n s m w
 have hr := fun w => rquant_any n s m w
 generalize quantV n s m = V at *
 generalize quantE n s m = E at *
 have HQ := Lib.hid hq
 have HR := Lib.hid hr
 have HT := Lib.hid ht
 clear hq hr ht
 by_cases h0 : E = 0
 ·subst h0
  obtain ⟨s1, s2, ⟨v1, v2⟩, hm⟩ := hd rfl
  clear hd
  have hs0 : (s == 0) = false := by simp; omega
  have hB := Below.refl w.heap.size w
  go_enter Tryd.func7, Tryd.ntmps7
  go_wp2_with (first | (go_at_call 9; refine (dawake_any _ HT.out).mono ?_; rintro e w' ⟨rfl, hb⟩; replace hB := below_more hB hb; clear hb) | (go_at_call 15; refine (HQ.out _).mono ?_; rintro e w' ⟨rfl, hb⟩; replace hB := below_more hB hb; clear hb) | (go_at_call 16; refine (HR.out _).mono ?_; rintro e w' ⟨rfl, hb⟩; replace hB := below_more hB hb; clear hb))
  go_ret
  exact ⟨rfl, hB⟩
 ·have h1 : (E == 0) = false := by simpa using h0
  have h2 : (E != 0) = true := by simpa using h0
  clear hd h0
  have hB := Below.refl w.heap.size w
  go_enter Tryd.func7, Tryd.ntmps7
  go_wp2_with (first | (go_at_call 9; refine (dawake_any _ HT.out).mono ?_; rintro e w' ⟨rfl, hb⟩; replace hB := below_more hB hb; clear hb) | (go_at_call 15; refine (HQ.out _).mono ?_; rintro e w' ⟨rfl, hb⟩; replace hB := below_more hB hb; clear hb) | (go_at_call 16; refine (HR.out _).mono ?_; rintro e w' ⟨rfl, hb⟩; replace hB := below_more hB hb; clear hb))
  go_ret
  exact ⟨rfl, hB⟩
end Go.Proofs.YtgihmikeapbpkabDoor
